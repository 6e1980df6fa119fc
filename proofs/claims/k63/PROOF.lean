import PyProof.Rows.All
import Wide.All
import OpenK.AllK
import Wide.FinOn
import PyProof.EqAt
import PyProof.EqKinds
import PyProof.TupleCall
import PyProof.DictCompW
import PyProof.Rows.SortWalk
import OpenK.KRaise
import PyProof.ExcClass2
import KE.KTryMore
import KE.KSortTup
import KE.KIsAll
import PyProof.ListRange
import PyProof.StrBlock2
import PyProof.Rows.SetFrom
import PyProof.SetRoads
import PyProof.ReprRoads
import PyProof.CallStr
import PyProof.Rows.SortStr
import KE.KSortKey
import KE.KMinKey
import PyProof.Rows.Range3
import PyProof.Rows.IntBool
import KE.KRevIter
import PyProof.MeetsSeq
import PyProof.MinMaxWalk
import PyProof.SliceStr2
import PyProof.P3Eq
import PyProof.Rows.StrLen
import PyProof.Rows.StrCase
import PyProof.InstStoreFacts
import PyProof.ExcInit
import PyProof.StrCalls
import PyProof.DictIter
import PyProof.DictWalks
import PyProof.AutoIntG2
import KE.KDictList
import PyProof.DictItems
import PyProof.RulesTry
import PyProof.EnumMake
import PyProof.Draws
import PyProof.FactsAll.set_1
import PyProof.IsiH_list
import KE.KDictOf
import PyProof.DictUpdate
import PyProof.RulesRaise
import PyProof.StrLawsRepr
import PyProof.Rows.StrJoinMade
import PyProof.Rows.ReprOcc
import Lean
import PySem.Challenge.RW_oddlong_k63_shows_ring
set_option Elab.async false
set_option linter.all false
set_option maxRecDepth 100000
open PySem.W renaming Frag → Ja, nsIn → Jz, mg_of → Uj, mg_none_of → Ul, kia_one → Yd, kitOne → Yw, keepIn → Y4, fnOf → Wl
open List renaming length_map → Jb, getElem?_eq_getElem → Je, length_append → Jf, mem_singleton → Jg, mem_cons_of_mem → Jh, replicate → Jj, mem_cons_self → Jk, map_append → Jl, getElem?_map → Jm, size_toArray → Jn, mem_append → Jq, mem_append_right → Jr, getElem?_eq_some_iff → Js, getElem_mem → Jt, length_take → Jw, getElem?_append_right → J0, length_cons → J8, append_assoc → J9, getElem?_append_left → Ua, map_cons → Ub, mem_cons → Uc, length_drop → Ud, pairwise_append → Ue, take_length → Ui, mem_map → Um, pairwise_iff_getElem → Ur, length_replicate → Ut, take_of_length_le → Uw, lookup_cons → Ux, eq_nil_of_length_eq_zero → Uy, nodup_iff_pairwise_ne → Uz, mem_iff_getElem → U2, range → U3, getElem?_replicate → U4, append_nil → U5, Perm → U7, mem_iff_getElem? → U8, getElem_map → Yb, nodup_cons → Ye, replicate_succ → Yf, mem_map_of_mem → Yh, eraseIdx_eq_take_drop_succ → Yl, mem_append_left → Ym, length_range → Yq, perm_append_comm → Yr, take_append_drop → Ys, map_map → Yx, length_nil → Yy, drop_eq_getElem_cons → Y0, mem_reverse → Y2, take_sublist → Y7, pairwise_singleton → Y8, filterMap_cons → Wb, mem_range → Wd, getD_eq_getElem?_getD → We, getElem?_drop → Wg, getElem?_eq_none → Wh, length → Wk, drop_sublist → Wo, mem_of_mem_take → Wq, all_eq_true → Wt
open Nat renaming le_refl → Jc, le_trans → Jp, lt_of_lt_of_le → Ju, lt_of_le_of_lt → Jx, ne_of_lt → J3, le_of_ble_eq_true → Uk, zero_le → Us, lt_of_le_of_ne → Uv, le_add_right → U0, le_of_lt → U6, add_le_add_left → U9, min_eq_left → Ya, lt_irrefl → Yc, le_of_eq → Yj, le_succ → Yu, ne_of_gt → Yv, le_of_not_lt → Y1, le_sub_one_of_lt → Y5, sub_one_lt_of_le → Y6, add_sub_of_le → Y9, add_sub_cancel_left → Wa, succ_le_succ → Wc, lt_succ_of_lt → Wm, le_of_lt_succ → Wn, lt_of_succ_lt → Wr
open PySem.Heap renaming get?_push_of_some → Jd, lt_size → Ji, get?_push_size → Jy, get?_update_other → Uq, get?_update_self → Uu, get?_update_ne → Yg, SameBut → Y3, size_push → Ws
open Bool renaming false_ne_true → Jo, false_eq_true → Ug, and_eq_true → Yo
open Array renaming length_toList → Jv, getElem?_eq_getElem → Uh, getElem?_toList → Uo, toList_append → U1, toList_push → Yk, getElem?_eq_some_iff → Yn, getElem?_eq_none → Yp, perm_iff_toList_perm → Wf, size_push → Wi, mem_toList_iff → Wj
open Int renaming toNat_natCast → Yi, le_of_lt → Yt, le_refl → Yz
namespace L2
set_option genSizeOf false
set_option genInjectivity false
inductive cj {α0 α1:Type}(P: α0 -> α1->Prop):Prop|mk (x0: α0) (x1: α1) (h:P x0 x1):cj P
inductive iU {α0 α1 α2:Type}(P: α0 -> α1 -> α2->Prop):Prop|mk (x0: α0) (x1: α1) (x2: α2) (h:P x0 x1 x2):iU P
inductive pd {α0 α1 α2 α3:Type}(P: α0 -> α1 -> α2 -> α3->Prop):Prop|mk (x0: α0) (x1: α1) (x2: α2) (x3: α3) (h:P x0 x1 x2 x3):pd P
inductive zT {α0 α1 α2 α3 α4:Type}(P: α0 -> α1 -> α2 -> α3 -> α4->Prop):Prop|mk (x0: α0) (x1: α1) (x2: α2) (x3: α3) (x4: α4) (h:P x0 x1 x2 x3 x4):zT P
inductive Br {α0 α1 α2 α3 α4 α5:Type}(P: α0 -> α1 -> α2 -> α3 -> α4 -> α5->Prop):Prop|mk (x0: α0) (x1: α1) (x2: α2) (x3: α3) (x4: α4) (x5: α5) (h:P x0 x1 x2 x3 x4 x5):Br P
set_option genSizeOf true
set_option genInjectivity true
class ae (P:Prop) (F:outParam (Prop->Prop)):Prop where
 el:P->∀G:Prop,F G->G
noncomputable instance (priority:=low) elimBase {P:Prop}:ae P (fun G=>P->G):=⟨fun h _ k=>k h⟩
noncomputable instance Nl {α:Sort u} {P: α->Prop} {F: α->Prop->Prop} [h:∀x,ae (P x) (F x)]:ae (∃x,P x) (fun G=>∀x,F x G):=⟨fun⟨x,hx⟩ G k=>(h x).el hx G (k x)⟩
noncomputable instance Kc {A B:Prop} {F:Prop->Prop} [h:ae B F]:ae (A/\B) (fun G=>A->F G):=⟨fun⟨a,b⟩ G k=>h.el b G (k a)⟩
noncomputable instance IX {α0 α1:Type} {P: α0 -> α1->Prop} {F: α0 -> α1->Prop->Prop} [i:∀x0 x1,ae (P x0 x1) (F x0 x1)]:ae (cj P) (fun G=>∀x0 x1,F x0 x1 G):=⟨fun⟨x0,x1,h⟩ G k=>(i x0 x1).el h G (k x0 x1)⟩
noncomputable instance JU {α0 α1 α2:Type} {P: α0 -> α1 -> α2->Prop} {F: α0 -> α1 -> α2->Prop->Prop} [i:∀x0 x1 x2,ae (P x0 x1 x2) (F x0 x1 x2)]:ae (iU P) (fun G=>∀x0 x1 x2,F x0 x1 x2 G):=⟨fun⟨x0,x1,x2,h⟩ G k=>(i x0 x1 x2).el h G (k x0 x1 x2)⟩
noncomputable instance JH {α0 α1 α2 α3:Type} {P: α0 -> α1 -> α2 -> α3->Prop} {F: α0 -> α1 -> α2 -> α3->Prop->Prop} [i:∀x0 x1 x2 x3,ae (P x0 x1 x2 x3) (F x0 x1 x2 x3)]:ae (pd P) (fun G=>∀x0 x1 x2 x3,F x0 x1 x2 x3 G):=⟨fun⟨x0,x1,x2,x3,h⟩ G k=>(i x0 x1 x2 x3).el h G (k x0 x1 x2 x3)⟩
noncomputable instance IW {α0 α1 α2 α3 α4:Type} {P: α0 -> α1 -> α2 -> α3 -> α4->Prop} {F: α0 -> α1 -> α2 -> α3 -> α4->Prop->Prop} [i:∀x0 x1 x2 x3 x4,ae (P x0 x1 x2 x3 x4) (F x0 x1 x2 x3 x4)]:ae (zT P) (fun G=>∀x0 x1 x2 x3 x4,F x0 x1 x2 x3 x4 G):=⟨fun⟨x0,x1,x2,x3,x4,h⟩ G k=>(i x0 x1 x2 x3 x4).el h G (k x0 x1 x2 x3 x4)⟩
noncomputable instance JV {α0 α1 α2 α3 α4 α5:Type} {P: α0 -> α1 -> α2 -> α3 -> α4 -> α5->Prop} {F: α0 -> α1 -> α2 -> α3 -> α4 -> α5->Prop->Prop} [i:∀x0 x1 x2 x3 x4 x5,ae (P x0 x1 x2 x3 x4 x5) (F x0 x1 x2 x3 x4 x5)]:ae (Br P) (fun G=>∀x0 x1 x2 x3 x4 x5,F x0 x1 x2 x3 x4 x5 G):=⟨fun⟨x0,x1,x2,x3,x4,x5,h⟩ G k=>(i x0 x1 x2 x3 x4 x5).el h G (k x0 x1 x2 x3 x4 x5)⟩
open PySem PySem.Spec PyProof.Rows
noncomputable abbrev Key:=Sum Int Str
noncomputable def mU:Key->Value->Bool
 | .inl k,v=>Value.isInt k v
 | .inr x,v=>Value.isStrOf x v
noncomputable def Lu (w:World):Key->Int
 | .inl k=>hashInt k
 | .inr x=>hashStr w x
theorem bE:∀{k:Key} {v:Value},mU k v=true->(∃i t,k=Sum.inl i/\v=Value.int i t)∨(∃x t,k=Sum.inr x/\v=Value.str x t)
 | .inl i,v,h=>by
  obtain⟨t,e⟩:=Value.isInt_shape (k:=i) (v:=v) h
  exact .inl ⟨i,t,rfl,e⟩
 | .inr x,v,h=>by
  obtain⟨t,e⟩:=Value.isStrOf_shape (x:=x) (v:=v) h
  exact .inr ⟨x,t,rfl,e⟩
theorem vk (i:Int)(t:Tok):mU (.inl i) (.int i t)=true:=by simp[mU,Value.isInt]
theorem vz (x:Str)(t:Tok):mU (.inr x) (.str x t)=true:=by simp[mU,Value.isStrOf]
theorem DI (a b:Int):decide ((Sum.inl a:Key)=Sum.inl b)=(a==b):=by
 by_cases e:a=b
 ·subst e;simp
 ·have h:¬(Sum.inl a:Key)=Sum.inl b:=fun q=>e (Sum.inl.inj q)
  rw[decide_eq_false h]
  exact(beq_eq_false_iff_ne.mpr e).symm
theorem DB (a b:Str):decide ((Sum.inr a:Key)=Sum.inr b)=decide (a=b):=by
 by_cases e:a=b
 ·subst e;simp
 ·have h:¬(Sum.inr a:Key)=Sum.inr b:=fun q=>e (Sum.inr.inj q)
  rw[decide_eq_false h,decide_eq_false e]
theorem DL (a:Int)(b:Str):decide ((Sum.inl a:Key)=Sum.inr b)=false:=decide_eq_false (fun q=>nomatch q)
theorem D7 (a:Str)(b:Int):decide ((Sum.inr a:Key)=Sum.inl b)=false:=decide_eq_false (fun q=>nomatch q)
noncomputable def bq (prog:Program)(w:World):PySem.KeyKind prog w Key where
 is:=mU
 hash:=Lu w
 inj:=fun v a b ha hb=>by
  rcases bE ha with ⟨i,t,rfl,rfl⟩|⟨x,t,rfl,rfl⟩
  ·rcases bE hb with ⟨j,u,rfl,e⟩|⟨y,u,rfl,e⟩
   ·injection e with e1 _;rw[e1]
   ·exact nomatch e
  ·rcases bE hb with ⟨j,u,rfl,e⟩|⟨y,u,rfl,e⟩
   ·exact nomatch e
   ·injection e with e1 _;rw[e1]
 byValue:=fun k v h=>by
  rcases bE h with ⟨i,t,rfl,rfl⟩|⟨x,t,rfl,rfl⟩<;>rfl
 pyHash:=fun hv h=>by
  rcases bE hv with ⟨i,t,rfl,rfl⟩|⟨x,t,rfl,rfl⟩
  ·exact wpAny_pyHash_int h
  ·exact wpAny_pyHash_str h
 eqBool:=fun hu hv h=>by
  rcases bE hu with ⟨i,t,rfl,rfl⟩|⟨x,t,rfl,rfl⟩
  ·rcases bE hv with ⟨j,u,rfl,rfl⟩|⟨y,u,rfl,rfl⟩
   ·rw[DI] at h;exact wpAny_eqBool_int h
   ·rw[DL] at h;exact SeqAt.EqAt.int_str i t y u _ _ _ _ h
  ·rcases bE hv with ⟨j,u,rfl,rfl⟩|⟨y,u,rfl,rfl⟩
   ·rw[D7] at h;exact SeqAt.EqAt.str_int x t j u _ _ _ _ h
   ·rw[DB] at h;exact wpAny_eqBool_str h
 «strs»:=fun k x t v h=>by
  rcases bE h with ⟨i,u,rfl,e⟩|⟨y,u,rfl,e⟩
  ·exact nomatch e
  ·injection e with e1 _
   subst e1
   cases v<;>rfl
theorem qk (prog:Program)(w:World)(i:Int)(t:Tok):(bq prog w).is (.inl i) (.int i t)=true:=vk i t
theorem qx (prog:Program)(w:World)(x:Str)(t:Tok):(bq prog w).is (.inr x) (.str x t)=true:=vz x t
inductive V where
 | non|bl (b:Bool)|int (i:Int)|str (x:Str)|byt (b:Array UInt8)|flt (b:UInt64)|ref (a:Addr)|ty (n:String)
 deriving DecidableEq
noncomputable def RelV:V->Value->Prop
 | .non,u=>u=Value.none
 | .bl b,u=>u=Value.bool b
 | .int i,u=>∃t,u=Value.int i t
 | .str x,u=>∃t,u=Value.str x t
 | .byt b,u=>∃t,u=Value.bytes b t
 | .flt b,u=>∃t,u=Value.float b t
 | .ref a,u=>u=Value.ref a
 | .ty n,u=>u=Value.type n
noncomputable abbrev Vals:List V->List Value->Prop:=Paired RelV
theorem Vals.length {xs:List V}{us:List Value}(r:Vals xs us):xs.length=us.length:=Paired.length r
theorem Vals.get:∀{xs:List V} {us:List Value} {i:Nat} {x:V},Vals xs us->xs[i]? = some x->∃u,us[i]? = some u/\RelV x u
 | _,_,_,_,.nil,e=>by simp at e
 | _,_,0,_,.cons r _,e=>by simp at e;subst e;exact⟨_,rfl,r⟩
 | _,_,i+1,x,.cons _ t,e=>by
  obtain⟨u,h1,h2⟩:=Vals.get (i:=i) (x:=x) t (by simpa using e)
  exact⟨u,by simpa using h1,h2⟩
theorem Vals.set {x:V}{u:Value}(r:RelV x u):∀{xs:List V} {us:List Value} (i:Nat),Vals xs us->Vals (xs.set i x) (us.set i u)
 | _,_,_,.nil =>.nil
 | _,_,0,.cons _ t =>.cons r t
 | _,_,i+1,.cons q t =>.cons q (Vals.set r i t)
theorem Vals.append {xs ys:List V}{us ws:List Value}(h:Vals xs us)(s:Vals ys ws):Vals (xs++ys) (us++ws):=by
 induction h with
 | nil=>exact s
 | cons r t ih=>exact .cons r ih
theorem Vals.take:∀{xs:List V} {us:List Value} (n:Nat),Vals xs us->Vals (xs.take n) (us.take n)
 | _,_,0,_ =>.nil
 | _,_,_+1,.nil =>.nil
 | _,_,n+1,.cons r t =>.cons r (Vals.take n t)
theorem Vals.drop:∀{xs:List V} {us:List Value} (n:Nat),Vals xs us->Vals (xs.drop n) (us.drop n)
 | _,_,0,r=>r
 | _,_,_+1,.nil =>.nil
 | _,_,n+1,.cons _ t=>Vals.drop n t
noncomputable def jY:Option V->Option Value->Prop
 | some v,some u=>RelV v u
 | none,none=>True
 | _,_=>False
noncomputable def KV {κ:Type}:List (κ×V)->List (κ×Value)->Prop:=Paired fun(p: κ×V) (q: κ×Value)=>p.1=q.1/\RelV p.2 q.2
noncomputable def kV:Key->V
 | .inl i =>.int i
 | .inr x =>.str x
inductive HO where
 | lst (xs:List V)
 | tup (xs:List V)
 | dK (kvs:List (Key×V))|dT (kvs:List (List Key×V))
 | set (S:Int->Bool) (n:Nat)
 | ins (C dx:Addr) (fs:List (Str×V))
 | own (x:Addr)
 | xd (fs:List (Str×V))
 | met (f x:Addr)
 | rng (lo hi:Int)
 | frz (o:Obj) (u:HO)
 | tbl (ps:Array Value)
 | ext (φ:Heap->Prop)
noncomputable abbrev Hp:=Addr->Option HO
noncomputable def upd (H:Hp)(a:Addr)(o:HO):Hp:=fun b=>if b=a then some o else H b
theorem aH {H:Hp}{a:Addr}{o:HO}:upd H a o a=some o:=by unfold upd;rw[if_pos rfl]
theorem ao {H:Hp}{a b:Addr}{o:HO}(h:b≠a):upd H a o b=H b:=by unfold upd;rw[if_neg h]
theorem tO {H:Hp}{a:Addr}{o u:HO}:upd (upd H a o) a u=upd H a u:=by
 funext b;unfold upd;split<;>rfl
theorem Cp {H:Hp}{a b:Addr}{o u:HO}(h:H a=some o)(h':H b=some u)(d:o≠u):a≠b:=by
 intro e;subst e;rw[h] at h';exact d (Option.some.inj h')
theorem aq {H:Hp}{a b:Addr}{o:HO}(h:H a=some o)(h':H b=none):a≠b:=by
 intro e;subst e;rw[h] at h';cases h'
section
variable (P:Program)(w:World)
noncomputable def bf (H:Hp)(h:Heap)(a:Addr):HO->Prop
 | .lst xs=>xs.length<=sizeLine/\cj fun(aw:List Value) (n:Nat)=>Vals xs aw/\h.get? a=some { cls := .type "list",data := .seq aw.toArray n }
 | .tup xs=>xs.length<=sizeLine/\∃aw:List Value,Vals xs aw/\IsTup h a aw.toArray
 | .dK kvs=>kvs.length<=sizeLine/\(a==sysModules)=false/\∃vs,KV kvs vs/\h.DictOf (bq P w) a vs
 | .dT kvs=>kvs.length<=sizeLine/\(a==sysModules)=false/\∃xs:List (List Key×Addr×Value),
   Paired (fun(p:List Key×V) (q:List Key×Addr×Value)=>p.1=q.1/\H q.2.1=some (.tup (p.1.map kV))/\RelV p.2 q.2.2) kvs xs /\
   iU fun o es ep=>h.get? a=some o/\o.ExactDict/\o.data = .dict es ep/\es.toList=xs.map (entryOfKey (tupleKind (bq P w)))/\(xs.map (·.1)).Nodup
 | .set S n=>h.SetOf (intKind P w) a S n
 | .ins C dx fs=>H dx=some (.own a)/\fs.length<=1000/\dx≠a/\h.get? a=some (PySem.W.instObj C dx) /\
   ∃mA,h.Ns1 dx mA/\(∀f,jY (fs.lookup f) (mA f))/\PySem.Within mA (fs.map (·.1))
 | .own _=>∃o,h.get? a=some o
 | .xd fs=>∃mA,h.Ns1 a mA/\∀f,jY (fs.lookup f) (mA f)
 | .rng lo hi=>iU fun t u v=>h.get? a=some { cls := .type "range",data := .fields #[.int lo t,.int hi u,.int 1 v] }
 | .frz o u=>h.get? a=some o/\bf H h a u
 | .tbl ps=>h.get? a=some { cls := .none,data := .fields ps }
 | .met f x=>h.get? a=some (PySem.W.methodObj (.ref f) (.ref x))
 | .ext φ => φ h/\(∃o,h.get? a=some o)/\∀h1 h2:Heap, φ h1->(∀o,h1.get? a=some o->h2.get? a=some o) -> φ h2
noncomputable def eO (H:Hp)(h:Heap):Prop:=∀a o,H a=some o->bf P w H h a o
end
section
variable {P:Program}{w:World}{H H':Hp}{h h':Heap}{a:Addr}{o:HO}
theorem bf.lt (x:bf P w H h a o):a<h.objs.size:=by
 cases o with
 | lst xs=>obtain⟨_,_,_,_,e⟩:=x;exact Ji e
 | tup xs=>obtain⟨_,_,_,p⟩:=x;exact p.lt
 | dK kvs=>obtain⟨_,_,_,_,o,_,_,e,_⟩:=x;exact Ji e
 | dT kvs=>obtain⟨_,_,_,_,o,_,_,e,_⟩:=x;exact Ji e
 | set S n=>obtain⟨o,_,_,_,e,_⟩:=x;exact Ji e
 | ins C dx fs=>obtain⟨_,_,_,e,_⟩:=x;exact Ji e
 | own y=>obtain⟨_,e⟩:=x;exact Ji e
 | xd fs=>obtain⟨_,⟨_,_,_,e,_⟩,_⟩:=x;exact Ji e
 | rng lo hi=>obtain⟨_,_,_,e⟩:=x;exact Ji e
 | frz ob u=>obtain⟨e,_⟩:=x;exact Ji e
 | tbl ps=>exact Ji (show h.get? a=some _ from x)
 | met f y=>exact Ji (show h.get? a=some _ from x)
 | ext φ=>obtain⟨_,⟨_,e⟩,_⟩:=x;exact Ji e
theorem Paired.Ei {α β:Type}{F G: α -> β->Prop}{l₁:List α}{l₂:List β}(h:Paired F l₁ l₂)(f:∀a b,F a b->G a b):Paired G l₁ l₂:=by
 induction h with
 | nil=>exact .nil
 | cons r t ih=>exact .cons (f _ _ r) ih
theorem Paired.imp' {α β:Type}{F G: α -> β->Prop}(f:∀a b,F a b->G a b){l₁:List α}{l₂:List β}(r:Paired F l₁ l₂):Paired G l₁ l₂:=Paired.Ei r f
theorem bf.d6 (x:bf P w H h a o)(k:∀b u,(b=a∨H b=some (.own a))->h.get? b=some u->h'.get? b=some u)
  (ho:∀b,H b=some (.own a)->H' b=some (.own a)) (ht:∀b xs,H b=some (.tup xs)->H' b=some (.tup xs)):bf P w H' h' a o:=by
 induction o with
 | lst xs=>obtain⟨z,aw,n,r,e⟩:=x;exact⟨z,aw,n,r,k _ _ (.inl rfl) e⟩
 | tup xs=>obtain⟨z,aw,r,ob,e,c⟩:=x;exact⟨z,aw,r,ob,k _ _ (.inl rfl) e,c⟩
 | dK kvs=>obtain⟨z,y,vs,r,ob,es,ep,e,c⟩:=x;exact⟨z,y,vs,r,ob,es,ep,k _ _ (.inl rfl) e,c⟩
 | dT kvs=>
  obtain⟨z,y,xs,r,ob,es,ep,e,c⟩:=x
  exact⟨z,y,xs,Paired.Ei r fun p q z=>⟨z.1,ht _ _ z.2.1,z.2.2⟩,ob,es,ep,k _ _ (.inl rfl) e,c⟩
 | set S n=>obtain⟨ob,es,ep,t,e,c⟩:=x;exact⟨ob,es,ep,t,k _ _ (.inl rfl) e,c⟩
 | ins C dx fs=>
  obtain⟨d,z,ne,e,mA,⟨od,es,ep,e2,c⟩,r⟩:=x
  exact⟨ho _ d,z,ne,k _ _ (.inl rfl) e,mA,⟨od,es,ep,k _ _ (.inr d) e2,c⟩,r⟩
 | own y=>obtain⟨ob,e⟩:=x;exact⟨ob,k _ _ (.inl rfl) e⟩
 | xd fs=>obtain⟨mA,⟨od,es,ep,e,c⟩,r⟩:=x;exact⟨mA,⟨od,es,ep,k _ _ (.inl rfl) e,c⟩,r⟩
 | rng lo hi=>obtain⟨t,u,v,e⟩:=x;exact⟨t,u,v,k _ _ (.inl rfl) e⟩
 | frz ob u ih=>obtain⟨e,q⟩:=x;exact⟨k _ _ (.inl rfl) e,ih q⟩
 | tbl ps=>
  have e:h.get? a=some { cls := .none,data := .fields ps }:=x
  show h'.get? a=some { cls := .none,data := .fields ps }
  exact k a _ (.inl rfl) e
 | met f y=>
  have e:h.get? a=some (PySem.W.methodObj (.ref f) (.ref y)):=x
  show h'.get? a=some (PySem.W.methodObj (.ref f) (.ref y))
  exact k a _ (.inl rfl) e
 | ext φ=>obtain⟨p,⟨o,e⟩,st⟩:=x;exact⟨st _ _ p fun o q=>k _ _ (.inl rfl) q,⟨o,k _ _ (.inl rfl) e⟩,st⟩
theorem eO.lt (x:eO P w H h)(e:H a=some o):a<h.objs.size:=(x a o e).lt
theorem eO.fresh (x:eO P w H h)(e:h.objs.size<=a):H a=none:=by
 cases q:H a with
 | none=>rfl
 | some u=>exact absurd (Ju (x.lt q) e) (Yc _)
theorem eO.kept (x:eO P w H h)(k:∀b u,h.get? b=some u->h'.get? b=some u):eO P w H h':=fun a o e=>
 (x a o e).d6 (fun b u _ q=>k b u q) (fun _ q=>q) fun _ _ q=>q
theorem eO.laid (x:eO P w H h)(k:∀b u,h.get? b=some u->h'.get? b=some u)(hp:h.objs.size<=a)(new:bf P w (upd H a o) h' a o):eO P w (upd H a o) h':=fun b u e=>by
 have hn:=x.fresh hp
 by_cases hb:b=a
 ·subst hb;rw[aH] at e;cases e;exact new
 ·rw[ao hb] at e
  exact(x b u e).d6 (fun c v _ q=>k c v q) (fun c q=>by rw[ao (aq q hn)];exact q) fun c xs q=>by rw[ao (aq q hn)];exact q
end
noncomputable def Rd (H:Hp)(a:Addr)(u:HO):Prop:=H a=some u∨∃o,H a=some (.frz o u)
theorem Rd.ok {P:Program}{w:World}{H:Hp}{h:Heap}{a:Addr}{u:HO}(r:Rd H a u)(x:eO P w H h):bf P w H h a u:=by
 rcases r with r|⟨o,r⟩
 ·exact x a u r
 ·obtain⟨_,q⟩:=x a _ r
  exact q
noncomputable def Ge:Option HO->Prop
 | some (.lst _)=>True
 | some (.dK _)=>True
 | some (.dT _)=>True
 | some (.set _ _)=>True
 | some (.ins _ _ _)=>True
 | some (.ext _)=>True
 | _=>False
section
variable {P:Program}{w:World}{H:Hp}{h h':Heap}{x e:Addr}{o':HO}
theorem eO.write (ok:eO P w H h)(mu:Ge (H x))(he:e=x∨H e=some (.own x))(k:∀b u,b≠e->h.get? b=some u->h'.get? b=some u)(Fz:∃u,h'.get? e=some u)
  (new:bf P w (upd H x o') h' x o'):eO P w (upd H x o') h':=fun b u q=>by
 have Gp:∀c y,H c=some (.own y)->c≠x:=fun c y r z=>by subst z;rw[r] at mu;exact mu
 have Ku:∀c xs,H c=some (.tup xs)->c≠x:=fun c xs r z=>by subst z;rw[r] at mu;exact mu
 by_cases hb:b=x
 ·subst hb;rw[aH] at q;cases q;exact new
 ·rw[ao hb] at q
  by_cases hbe:b=e
  ·have q':H b=some (.own x):=by
    rcases he with z|z
    ·exact absurd (hbe.trans z) hb
    ·rw[hbe];exact z
   rw[q] at q';cases q'
   obtain⟨v,hv⟩:=Fz
   exact⟨v,by rw[hbe];exact hv⟩
  ·refine(ok b u q).d6 (fun c v hc r=>k c v ?_ r) (fun c r=>by rw[ao (Gp c b r)];exact r) fun c xs r=>by rw[ao (Ku c xs r)];exact r
   rcases hc with rfl|hc
   ·exact hbe
   ·rintro rfl
    rcases he with z|z
    ·exact Gp c b hc z
    ·rw[hc] at z;cases z;exact hb rfl
end
structure Un (fs ex:List Addr)(H H':Hp)(h h':Heap):Prop where
 keep:∀b o,h.get? b=some o->H b=none->b∉fs->b∉ex->h'.get? b=some o
 slot:∀b o,h.get? b=some o->H b=none->b∈fs->b∉ex->∃sl,h'.get? b=some { o with slots:=sl }
 free:∀b o,h.get? b=some o->H b=none->b∉ex->H' b=none
 there:∀b o,h.get? b=some o->b∉ex->∃o',h'.get? b=some o'
 fN:∀b xs,H b=some (.tup xs)->H' b=some (.tup xs)
 eY:∀b o u,H b=some (.frz o u)->H' b=some (.frz o u)
 fT:∀b ps,H b=some (.tbl ps)->∃more,H' b=some (.tbl (ps++more))
section
variable {fs o9 ex Q7:List Addr}{H H1 H2:Hp}{h h1 h2 h':Heap}{a x e:Addr}{o:HO}
theorem Un.any (u:Un fs ex H H1 h h1){b:Addr}{ob:Obj}(q:h.get? b=some ob)(n:H b=none)(hx:b∉ex):∃sl,h1.get? b=some { ob with slots:=sl }:=by
 by_cases hb:b∈fs
 ·exact u.slot b ob q n hb hx
 ·exact⟨ob.slots,u.keep b ob q n hb hx⟩
theorem Un.trans (a:Un fs ex H H1 h h1)(b:Un fs ex H1 H2 h1 h2):Un fs ex H H2 h h2 where
 keep:=fun c ob q n hc hx=>b.keep c ob (a.keep c ob q n hc hx) (a.free c ob q n hx) hc hx
 slot:=fun c ob q n hc hx=>by
  obtain⟨sl,e1⟩:=a.slot c ob q n hc hx
  obtain⟨sl',e2⟩:=b.slot c _ e1 (a.free c ob q n hx) hc hx
  exact⟨sl',e2⟩
 free:=fun c ob q n hx=>by
  obtain⟨o',e1⟩:=a.there c ob q hx
  exact b.free c o' e1 (a.free c ob q n hx) hx
 there:=fun c ob q hx=>by
  obtain⟨o',e1⟩:=a.there c ob q hx
  exact b.there c o' e1 hx
 fN:=fun c xs q=>b.fN c xs (a.fN c xs q)
 eY:=fun c ob xs q=>b.eY c ob xs (a.eY c ob xs q)
 fT:=fun c ps q=>by
  obtain⟨m1,e1⟩:=a.fT c ps q
  obtain⟨m2,e2⟩:=b.fT c _ e1
  exact⟨m1++m2,by rw[e2,Array.append_assoc]⟩
theorem Un.kept (k:∀b u,h.get? b=some u->h'.get? b=some u):Un fs ex H H h h':=
 ⟨fun b ob q _ _ _=>k b ob q,fun b ob q _ _ _=>⟨ob.slots,k b ob q⟩,fun _ _ _ n _=>n,fun b ob q _=>⟨ob,k b ob q⟩,fun _ _ q=>q,fun _ _ _ q=>q,fun _ ps q=>⟨#[],by rw[q];simp⟩⟩
theorem Un.refl:Un fs ex H H h h:=Un.kept fun _ _ q=>q
theorem Un.laid (k:∀b u,h.get? b=some u->h'.get? b=some u)(hp:h.objs.size<=a)(hn:H a=none):Un fs ex H (upd H a o) h h' where
 keep:=fun b u q _ _ _=>k b u q
 slot:=fun b u q _ _ _=>⟨u.slots,k b u q⟩
 free:=fun b u q n _=>by rw[ao (J3 (Ju (Ji q) hp))];exact n
 there:=fun b u q _=>⟨u,k b u q⟩
 fN:=fun b xs q=>by rw[ao (aq q hn)];exact q
 eY:=fun b u xs q=>by rw[ao (aq q hn)];exact q
 fT:=fun b ps q=>⟨#[],by rw[ao (aq q hn),q];simp⟩
theorem Un.write (mu:Ge (H x))(he:e=x∨H e=some (.own x))(k:∀b u,b≠e->h.get? b=some u->h'.get? b=some u)(Fz:∃u,h'.get? e=some u):Un fs ex H (upd H x o) h h':=by
 have hx:∀b,H b=none->b≠x:=fun b n z=>by subst z;rw[n] at mu;exact mu
 have hb:∀b,H b=none->b≠e:=fun b n z=>by
  subst z
  rcases he with r|r
  ·exact hx b n r
  ·rw[n] at r;cases r
 have hm:∀b u,H b=some u->¬Ge (some u)->b≠x:=fun b u q nm z=>by subst z;rw[q] at mu;exact nm mu
 refine⟨fun b u q n _ _=>k b u (hb b n) q,fun b u q n _ _=>⟨u.slots,k b u (hb b n) q⟩,fun b u q n _=>by rw[ao (hx b n)];exact n,fun b u q _ =>?_,
  fun b xs q=>by rw[ao (hm b _ q fun z=>z)];exact q,fun b u xs q=>by rw[ao (hm b _ q fun z=>z)];exact q,fun b ps q=>⟨#[],by rw[ao (hm b _ q fun z=>z),q];simp⟩⟩
 by_cases hbe:b=e
 ·subst hbe;exact Fz
 ·exact⟨u,k b u hbe q⟩
end
noncomputable def IY (h:Heap)(H:Hp):List Addr:=(U3 h.objs.size).filter fun a=>(H a).isSome
noncomputable def nK (h:Heap)(H:Hp):Heap:=PySem.W.hideAll h (IY h H)
theorem wc (h:Heap)(H:Hp):(nK h H).objs.size=h.objs.size:=PySem.W.hideAll_size _ _
theorem zj {h:Heap}{H:Hp}{b:Addr}{o:Obj}(e:h.get? b=some o)(n:H b=none):(nK h H).get? b=some o:=
 PySem.W.hideAll_get _ e fun hm=>by
  have q:(H b).isSome=true:=(List.mem_filter.mp hm).2
  rw[n] at q;simp at q
theorem AG {h:Heap}{H:Hp}{b:Addr}{o:Obj}(e:(nK h H).get? b=some o):h.get? b=some o/\H b=none:=by
 have e':h.get? b=some o:=PySem.W.of_hideAll (IY h H) e
 refine⟨e',?_⟩
 cases q:H b with
 | none=>rfl
 | some x=>
  have hm:b∈IY h H:=List.mem_filter.mpr ⟨Wd.mpr (Ji e'),by simp[q]⟩
  have z:(nK h H).get? b=none:=PySem.W.hideAll_none (IY h H) hm
  rw[z] at e;cases e
structure Mod (K:Ja)(mg:Str->Option Value)(base:Heap):Prop where
 tY:K.In base
 glob:base.Ns mainGlobals mg
 blt:∃mb,base.Ns builtinsNs mb/\∀x:Str,x ≠ "__name__" -> mb x=bootBuiltins x
 nolimit:base.NoLimit
structure Cx where
 prog:Program
 w:World
 K:Ja
 mg:Str->Option Value
 base:Heap
 A:Around
 N:List Str
 s₀:Shared
 H₀:Hp
 env:Env
 outer:List Env
 stack:List Env
 ex:List Addr
 fn:Str->Bool
 calm:Bool
 pn:List (Addr×Obj)
 xe:Value->Shared->Prop
noncomputable def fP (l:List Env):List Addr:=l.filterMap (·.frame)
noncomputable abbrev Cx.fs (X:Cx):List Addr:=fP X.outer
noncomputable def FC (sc:Scope)(x:Str):Prop:=sc.names.lookup x=some .local∨sc.names.lookup x=some .cell∨sc.names.lookup x=some .free
noncomputable def Loc (sc:Scope)(x:Str):Prop:=sc.names.lookup x=some .local∨sc.names.lookup x=some .cell
noncomputable def Look (env:Env)(h:Heap)(m:Str->Option Value)(x:Str)(u:Value):Prop:=
 (env.kindOf x=some .local/\m x=some u)∨((env.kindOf x=some .cell∨env.kindOf x=some .free)/\∃c,env.cells.lookup x=some c/\h.IsCell c (some u))
structure Cx.Ok (X:Cx):Prop where
 mod:Mod X.K X.mg X.base
 kind:X.env.scope.kind = .function
 glob:X.env.globals=mainGlobals
 blt:X.env.builtins=builtinsNs
 above:X.s₀.heap.objs.size<=X.env.locals
 inj:∀x y c,X.env.cells.lookup x=some c->X.env.cells.lookup y=some c->x=y
 has:∀x,(X.env.kindOf x=some .cell∨X.env.kindOf x=some .free)->∃c,X.env.cells.lookup x=some c
 cab:∀x c,X.fn x=true->X.env.cells.lookup x=some c->X.s₀.heap.objs.size<=c
 hd:X.calm=true->X.A.handled=none
 frames:X.A.frames=some X.stack
 stk:X.stack=X.outer∨(X.stack=X.env::X.outer/\X.env.frame=some X.env.locals)
 exf:∀b∈X.ex,b≠X.env.locals/\∀x c,X.env.cells.lookup x=some c->c≠b
 bs:∀b o,X.base.get? b=some o->X.s₀.heap.get? b=some o/\X.H₀ b=none
 bsz:X.base.objs.size<=X.s₀.heap.objs.size
 noex:∀b o,X.base.get? b=some o->b∉X.ex
 exfs:∀b∈X.ex,b∉X.fs
 fW:X.s₀.heap.FunFrames X.base X.outer
 rH:∀b∈X.fs,X.H₀ b=none
structure Inv (X:Cx)(pins:List (Addr×Obj))(σ:List (Option V))(H:Hp)(s:Shared):Prop where
 ok:X.Ok
 os:s.os=X.s₀.os
 bare:AllBare s.gens
 base:Un X.fs X.ex X.H₀ H X.s₀.heap s.heap
 loc:∃m,s.heap.Ns X.env.locals m/\∀(i:Nat) (x:Str) (v:V),X.N[i]? = some x -> σ[i]? = some (some v)->FC X.env.scope x->∃u,RelV v u/\Look X.env s.heap m x u
 cell:∀x c,X.env.cells.lookup x=some c->∃v,s.heap.IsCell c v
 free:H X.env.locals=none
 freeC:∀x c,X.env.cells.lookup x=some c->H c=none
 pin:∀p∈X.pn++pins,s.heap.get? p.1=some p.2/\H p.1=none/\p.1≠X.env.locals/\p.1∉X.fs/\∀v,p.2.data ≠ .cell v
 aV:eO X.prog X.w H s.heap
 len: σ.length=X.N.length
section
variable {X:Cx}{pins:List (Addr×Obj)}{σ:List (Option V)}{H H':Hp}{s:Shared}{h':Heap}
theorem Cx.Ok.Nj (ok:X.Ok){b:Addr}{o:Obj}(e:X.base.get? b=some o):b∉X.fs:=fun hb=>by
 have:=(ok.fW.mem hb).1
 rw[e] at this;cases this
theorem Inv.bs (I:Inv X pins σ H s):∀b o,X.base.get? b=some o->s.heap.get? b=some o/\H b=none:=fun b o e=>
 ⟨I.base.keep b o (I.ok.bs b o e).1 (I.ok.bs b o e).2 (I.ok.Nj e) (I.ok.noex b o e),I.base.free b o (I.ok.bs b o e).1 (I.ok.bs b o e).2 (I.ok.noex b o e)⟩
theorem Inv.bk (I:Inv X pins σ H s):∀b o,X.base.get? b=some o->s.heap.get? b=some o:=fun b o e=>(I.bs b o e).1
theorem Inv.mod (I:Inv X pins σ H s):Mod X.K X.mg X.base:=I.ok.mod
theorem Inv.jv (I:Inv X pins σ H s):X.K.In s.heap:=I.ok.mod.tY.keeps I.bk
theorem Inv.lt (I:Inv X pins σ H s):X.env.locals<s.heap.objs.size:=let ⟨_,hn,_⟩:=I.loc;hn.lt
theorem Inv.sz (I:Inv X pins σ H s):X.s₀.heap.objs.size<=s.heap.objs.size:=Jp I.ok.above (U6 I.lt)
theorem Inv.HY (I:Inv X pins σ H s){a:Addr}(h:s.heap.objs.size<=a):a∉X.fs:=fun hb=>by
 obtain⟨_,o,ho,_⟩:=I.ok.fW.mem hb
 exact absurd (Ju (Ji ho) (Jp I.sz h)) (Yc _)
theorem Inv.C6 (I:Inv X pins σ H s):∀x c,X.env.cells.lookup x=some c->c≠X.env.locals:=fun x c e z=>by
 obtain⟨v,o,ho,hd⟩:=I.cell x c e
 obtain⟨m,⟨o',es,ep,sJ,hd',_⟩,_⟩:=I.loc
 rw[z,sJ] at ho;cases ho;rw[hd'] at hd;cases hd
theorem Inv.fW (I:Inv X pins σ H s):s.heap.FunFrames X.base X.outer:=by
 have all:∀(l:List Env),(∀b∈fP l,b∈X.fs)->X.s₀.heap.FunFrames X.base l->s.heap.FunFrames X.base l:=by
  intro l
  induction l with
  | nil=>intro _ _;trivial
  | cons env r ih=>
   intro hs hl
   obtain⟨hk,⟨L,o,hf,hn,ho,hd⟩,hr⟩:=hl
   have hL:L∈X.fs:=hs L (by unfold fP;rw[Wb,hf];exact Jk)
   obtain⟨sl,e⟩:=I.base.slot L o ho (I.ok.rH L hL) hL fun z=>I.ok.exfs L z hL
   exact⟨hk,⟨L,_,hf,hn,e,hd⟩,ih (fun b hb=>hs b (by unfold fP;rw[Wb,hf];exact Jh _ hb)) hr⟩
 exact all X.outer (fun _ hb=>hb) I.ok.fW
theorem Inv.stack (I:Inv X pins σ H s):s.heap.FunFrames X.base X.stack:=by
 rcases I.ok.stk with e|⟨e,hf⟩
 ·rw[e];exact I.fW
 ·rw[e]
  obtain⟨m,hn,_⟩:=I.loc
  refine .cons (by rw[I.ok.kind];decide) hf hn ?_ I.fW
  exact Heap.get?_none_of_le (Jp I.ok.bsz I.ok.above)
theorem Inv.oP (I:Inv X pins σ H s):∀b∈fP X.stack,b∈X.env.locals::X.fs:=fun b hb=>by
 rcases I.ok.stk with e|⟨e,hf⟩
 ·rw[e] at hb;exact Jh _ hb
 ·rw[e] at hb
  unfold fP at hb
  rw[Wb,hf] at hb
  exact hb
theorem Inv.nU (I:Inv X pins σ H s):∀b∈fP X.stack,H b=none:=fun b hb=>by
 rcases Uc.mp (I.oP b hb) with e|hb
 ·rw[e];exact I.free
 ·obtain⟨_,o,ho,_⟩:=I.ok.fW.mem hb
  exact I.base.free b o ho (I.ok.rH b hb) fun z=>I.ok.exfs b z hb
theorem Inv.step {g':Array GenState}{t':Nat}{d':Drawn}{ch:List Addr}(I:Inv X pins σ H s)
  (rJ:∀b∈ch,(b∈X.ex∨X.s₀.heap.objs.size<=b)/\b≠X.env.locals/\(∀x c,X.env.cells.lookup x=some c->c≠b)/\∀p∈X.pn++pins,p.1≠b)
  (keep:∀b o,b≠X.env.locals->b∉X.fs->b∉ch->s.heap.get? b=some o->H b=none->h'.get? b=some o)
  (slot:∀b o,b≠X.env.locals->b∈X.fs->b∉ch->s.heap.get? b=some o->H b=none->∃sl,h'.get? b=some { o with slots:=sl }) (free:∀b o,b∉ch->s.heap.get? b=some o->H b=none->H' b=none)
  (there:∀b o,b∉ch->s.heap.get? b=some o->∃o',h'.get? b=some o')
  (fN:∀b xs,H b=some (.tup xs)->H' b=some (.tup xs)) (eY:∀b o u,H b=some (.frz o u)->H' b=some (.frz o u)) (fT:∀b ps,H b=some (.tbl ps)->∃more,H' b=some (.tbl (ps++more)))
  (ns:∀m,s.heap.Ns X.env.locals m->h'.Ns X.env.locals m) (aV:eO X.prog X.w H' h') (hg:AllBare g') :
  Inv X pins σ H' { s with heap:=h',gens:=g',drawn:=d',toks:=t' }:=by
 have NH:∀b o,X.s₀.heap.get? b=some o->b≠X.env.locals:=fun b o e=>J3 (Ju (Ji e) I.ok.above)
 have JT:∀b o,X.s₀.heap.get? b=some o->b∉X.ex->b∉ch:=fun b o e hx hb=>by
  rcases(rJ b hb).1 with z|z
  ·exact hx z
  ·exact absurd (Ju (Ji e) z) (Yc _)
 have cellK:∀x c,X.env.cells.lookup x=some c->∀v,s.heap.IsCell c v->h'.IsCell c v:=fun x c e v ⟨o,ho,hd⟩=>by
  have Hh:c∉ch:=fun z=>(rJ c z).2.2.1 x c e rfl
  by_cases hc:c∈X.fs
  ·obtain⟨sl,q⟩:=slot c o (I.C6 x c e) hc Hh ho (I.freeC x c e)
   exact⟨_,q,hd⟩
  ·exact⟨o,keep c o (I.C6 x c e) hc Hh ho (I.freeC x c e),hd⟩
 refine⟨I.ok,I.os,hg,⟨fun b o e n hb hx =>?_,fun b o e n hb hx =>?_,fun b o e n hx =>?_,fun b o e hx =>?_,fun b xs e=>fN b xs (I.base.fN b xs e),fun b o xs e=>eY b o xs (I.base.eY b o xs e),fun b ps e =>?_⟩,?_,fun x c e =>?_,?_,fun x c e =>?_,fun p hp =>?_,aV,I.len⟩
 ·exact keep b o (NH b o e) hb (JT b o e hx) (I.base.keep b o e n hb hx) (I.base.free b o e n hx)
 ·obtain⟨sl,e1⟩:=I.base.slot b o e n hb hx
  obtain⟨sl',e2⟩:=slot b _ (NH b o e) hb (JT b o e hx) e1 (I.base.free b o e n hx)
  exact⟨sl',e2⟩
 ·obtain⟨o',e1⟩:=I.base.there b o e hx
  exact free b o' (JT b o e hx) e1 (I.base.free b o e n hx)
 ·obtain⟨o',e1⟩:=I.base.there b o e hx
  exact there b o' (JT b o e hx) e1
 ·obtain⟨m1,e1⟩:=I.base.fT b ps e
  obtain⟨m2,e2⟩:=fT b _ e1
  exact⟨m1++m2,by rw[e2,Array.append_assoc]⟩
 ·obtain⟨m,hn,hl⟩:=I.loc
  refine⟨m,ns m hn,fun i x v e1 e2 e3 =>?_⟩
  obtain⟨u,r,l⟩:=hl i x v e1 e2 e3
  refine⟨u,r,?_⟩
  rcases l with l|⟨k,c,e,z⟩
  ·exact .inl l
  ·exact .inr ⟨k,c,e,cellK x c e _ z⟩
 ·obtain⟨v,z⟩:=I.cell x c e
  exact⟨v,cellK x c e v z⟩
 ·obtain⟨m,⟨o,_,_,ho,_⟩,_⟩:=I.loc
  exact free _ o (fun z=>(rJ _ z).2.1 rfl) ho I.free
 ·obtain⟨v,o,ho,hd⟩:=I.cell x c e
  exact free c o (fun z=>(rJ c z).2.2.1 x c e rfl) ho (I.freeC x c e)
 ·obtain⟨e,n,ne,nf,d⟩:=I.pin p hp
  have Hh:p.1∉ch:=fun z=>(rJ p.1 z).2.2.2 p hp rfl
  exact⟨keep p.1 p.2 ne nf Hh e n,free p.1 p.2 Hh e n,ne,nf,d⟩
theorem Inv.un {t':Nat}(I:Inv X pins σ H s)(u:Un X.fs [] H H' s.heap h')(aV:eO X.prog X.w H' h'):Inv X pins σ H' { s with heap:=h',toks:=t' }:=by
 obtain⟨m,⟨o,es,ep,ho,r⟩,_⟩:=id I.loc
 obtain⟨sl,hL⟩:=u.any ho I.free (by simp)
 exact I.step (g':=s.gens) (d':=s.drawn) (ch:=[]) (fun _ z=>nomatch z) (fun b o _ hb _ e n=>u.keep b o e n hb (by simp)) (fun b o _ hb _ e n=>u.slot b o e n hb (by simp)) (fun b o _ e n=>u.free b o e n (by simp)) (fun b o _ e=>u.there b o e (by simp)) u.fN u.eY u.fT (fun m' hm=>by
  obtain⟨o',es',ep',sJ,r'⟩:=hm
  rw[ho] at sJ;cases sJ
  exact⟨_,es',ep',hL,r'⟩) aV I.bare
theorem Inv.call {g':Array GenState}{t':Nat}{d':Drawn}{ch:List Addr}(I:Inv X pins σ H s)(u:Un (fP X.stack) ch H H' s.heap h')(aV:eO X.prog X.w H' h')(hg:AllBare g')
  (rJ:∀b∈ch,(b∈X.ex∨X.s₀.heap.objs.size<=b)/\b≠X.env.locals/\(∀x c,X.env.cells.lookup x=some c->c≠b)/\∀p∈X.pn++pins,p.1≠b) :
  Inv X pins σ H' { s with heap:=h',gens:=g',drawn:=d',toks:=t' }:=by
 obtain⟨m,⟨o,es,ep,ho,r⟩,_⟩:=id I.loc
 obtain⟨sl,hL⟩:=u.any ho I.free fun z=>(rJ _ z).2.1 rfl
 exact I.step (ch:=ch) rJ (fun b o hL hb hc e n=>u.keep b o e n (fun z=>(Uc.mp (I.oP b z)).elim hL hb) hc) (fun b o _ _ hc e n=>u.any e n hc) (fun b o hc e n=>u.free b o e n hc) (fun b o hc e=>u.there b o e hc) u.fN u.eY u.fT (fun m' hm=>by
  obtain⟨o',es',ep',sJ,r'⟩:=hm
  rw[ho] at sJ;cases sJ
  exact⟨_,es',ep',hL,r'⟩) aV hg
theorem Inv.turned {t':Nat}{it:Addr}(I:Inv X pins σ H s)(k:∀b o,b≠it->s.heap.get? b=some o->h'.get? b=some o)(hn:H it=none)(hL:it≠X.env.locals)
  (h1:it∈X.ex∨X.s₀.heap.objs.size<=it) (h2:∀x c,X.env.cells.lookup x=some c->c≠it) (h3:∀p∈X.pn++pins,p.1≠it):Inv X pins σ H { s with heap:=h',toks:=t' }:=by
 have Oi:∀b u,H b=some u->b≠it:=fun b u e z=>by rw[z,hn] at e;cases e
 refine I.step (g':=s.gens) (d':=s.drawn) (ch:=[it]) (fun b hb =>?_) (fun b o _ _ hc e _=>k b o (fun z=>hc (by simp[z])) e) (fun b o _ _ hc e _=>⟨o.slots,k b o (fun z=>hc (by simp[z])) e⟩) (fun _ _ _ _ n=>n)
  (fun b o hc e=>⟨o,k b o (fun z=>hc (by simp[z])) e⟩) (fun _ _ e=>e) (fun _ _ _ e=>e) (fun b ps e=>⟨#[],by rw[e];simp⟩) (fun m hm =>?_) (fun b u e =>?_) I.bare
 ·have e:b=it:=by simpa using hb
  subst e
  exact⟨h1,hL,h2,h3⟩
 ·obtain⟨o,es,ep,ho,r⟩:=hm
  exact⟨o,es,ep,k _ o (Ne.symm hL) ho,r⟩
 ·refine(I.aV b u e).d6 (fun c v hc q=>k c v ?_ q) (fun _ q=>q) fun _ _ q=>q
  rcases hc with z|z
  ·rw[z];exact Oi b u e
  ·exact Oi c _ z
theorem Inv.tok (I:Inv X pins σ H s)(t:Nat):Inv X pins σ H { s with toks:=t }:=I.un (h':=s.heap) (t':=t) Un.refl I.aV
theorem Inv.kept {t':Nat}(I:Inv X pins σ H s)(k:∀b u,s.heap.get? b=some u->h'.get? b=some u):Inv X pins σ H { s with heap:=h',toks:=t' }:=I.un (Un.kept k) (I.aV.kept k)
theorem Inv.laid {a:Addr}{o:HO}{t':Nat}(I:Inv X pins σ H s)(k:∀b u,s.heap.get? b=some u->h'.get? b=some u)(hp:s.heap.objs.size<=a)(new:bf X.prog X.w (upd H a o) h' a o):
  Inv X pins σ (upd H a o) { s with heap:=h',toks:=t' }:=I.un (Un.laid k hp (I.aV.fresh hp)) (I.aV.laid k hp new)
theorem Inv.write {x e:Addr}{o:HO}{t':Nat}(I:Inv X pins σ H s)(mu:Ge (H x))(he:e=x∨H e=some (.own x))(k:∀b u,b≠e->s.heap.get? b=some u->h'.get? b=some u)(Fz:∃u,h'.get? e=some u)
  (new:bf X.prog X.w (upd H x o) h' x o):Inv X pins σ (upd H x o) { s with heap:=h',toks:=t' }:=I.un (Un.write mu he k Fz) (I.aV.write mu he k Fz new)
theorem Inv.weak {σ':List (Option V)}(I:Inv X pins σ H s)(hl: σ'.length = σ.length)(w:∀(i:Nat) v,σ'[i]? = some (some v) -> σ[i]? = some (some v)):Inv X pins σ' H s:=
 ⟨I.ok,I.os,I.bare,I.base,let ⟨m,hn,CT⟩:=I.loc; ⟨m,hn,fun i x v e1 e2 e3=>CT i x v e1 (w i v e2) e3⟩,I.cell,I.free,I.freeC,I.pin,I.aV,hl.trans I.len⟩
theorem Inv.j5 {iO:List (Addr×Obj)}(I:Inv X pins σ H s)(h:∀p∈iO,s.heap.get? p.1=some p.2/\H p.1=none/\p.1≠X.env.locals/\p.1∉X.fs/\∀v,p.2.data ≠ .cell v):Inv X iO σ H s:=
 ⟨I.ok,I.os,I.bare,I.base,I.loc,I.cell,I.free,I.freeC,fun p hp=>(Jq.mp hp).elim (fun z=>I.pin p (Ym _ z)) (h p),I.aV,I.len⟩
theorem rq {N:List Str}(hN:N.Nodup){i j:Nat}{x:Str}(a:N[i]? = some x)(b:N[j]? = some x):i=j:=by
 obtain⟨h1,e1⟩:=Js.mp a
 obtain⟨h2,e2⟩:=Js.mp b
 exact(List.getElem_inj hN).mp (e1.trans e2.symm)
theorem jJ {M:Model}{A:Around}{E:Value->Shared->Prop}{i:Nat}{x:Str}{v:V}{u:Value}{Q:Unit->Shared->Prop}(I:Inv X pins σ H s)(hN:X.N.Nodup)(hi:X.N[i]? = some x)(hx:Loc X.env.scope x)(r:RelV v u)
  (h:∀s',Inv X pins (σ.set i (some v)) H s'->(∃a,Y3 a s.heap s'.heap/\(a=X.env.locals∨X.env.cells.lookup x=some a))->Q () s') (hf:X.fn x=true∨X.env.scope.names.lookup x=some .local:=by first|exact .inl rfl|exact .inr rfl|assumption):wpAny M A (storeName X.env x u) Q E s:=by
 obtain⟨m,hn,hl⟩:=id I.loc
 have MY:(X.env.scope.kind == .class||(X.env.scope.kind == .module&&X.env.locals != X.env.globals))=false:=by rw[I.ok.kind];rfl
 have N4:i < σ.length:=by rw[I.len];exact(Js.mp hi).1
 have C6:=I.C6
 have tracked:∀{a:Addr} {h':Heap},(∃o,s.heap.get? a=some o/\H a=none)->Y3 a s.heap h'->eO X.prog X.w H h':=fun{a h'} ha hs b ob e=>by
  obtain⟨_,_,tQ⟩:=ha
  refine(I.aV b ob e).d6 (fun c w' hc q=>(hs.2 c ?_).trans q) (fun _ q=>q) fun _ _ q=>q
  rintro rfl
  rcases hc with rfl|hc
  ·rw[tQ] at e;cases e
  ·rw[tQ] at hc;cases hc
 rcases hx with hk|hk
 ·refine wpAny_storeName_local hk hn (fun h' hn' hs =>?_) MY
  obtain⟨oL,_,_,hoL,_⟩:=id hn
  refine h _ ⟨I.ok,I.os,I.bare,⟨fun b o e n hb hx =>?_,fun b o e n hb hx =>?_,I.base.free,fun b o e hx =>?_,I.base.fN,I.base.eY,I.base.fT⟩,⟨_,hn',fun j y v' e1 e2 e3 =>?_⟩,fun y c e =>?_,I.free,I.freeC,fun p hp =>?_,tracked ⟨oL,hoL,I.free⟩ hs,by simpa using I.len⟩ ⟨_,hs,.inl rfl⟩
  ·exact(hs.2 b (J3 (Ju (Ji e) I.ok.above))).trans (I.base.keep b o e n hb hx)
  ·obtain⟨sl,e1⟩:=I.base.slot b o e n hb hx
   exact⟨sl,(hs.2 b (J3 (Ju (Ji e) I.ok.above))).trans e1⟩
  ·obtain⟨o',e1⟩:=I.base.there b o e hx
   exact⟨o',(hs.2 b (J3 (Ju (Ji e) I.ok.above))).trans e1⟩
  ·by_cases hj:j=i
   ·subst hj
    rw[hi] at e1;cases e1
    rw[List.getElem?_set_self N4] at e2
    cases e2
    exact⟨u,r,.inl ⟨hk,by simp⟩⟩
   ·rw[List.getElem?_set_ne (Ne.symm hj)] at e2
    obtain⟨u',r',q⟩:=hl j y v' e1 e2 e3
    refine⟨u',r',?_⟩
    rcases q with ⟨k,e⟩|⟨k,c,e,z⟩
    ·refine .inl ⟨k,?_⟩
     have:y≠x:=fun e=>hj (rq hN e1 (e▸hi))
     simp[this,e]
    ·exact .inr ⟨k,c,e,z.sameBut hs (C6 y c e)⟩
  ·obtain⟨w',z⟩:=I.cell y c e
   exact⟨w',z.sameBut hs (C6 y c e)⟩
  ·obtain⟨e,n,ne,nf,d⟩:=I.pin p hp
   exact⟨(hs.2 p.1 ne).trans e,n,ne,nf,d⟩
 ·have MV:X.fn x=true:=by
   rcases hf with z|z
   ·exact z
   ·rw[z] at hk;cases hk
  obtain⟨c,hc⟩:=I.ok.has x (.inl hk)
  obtain⟨w',z⟩:=I.cell x c hc
  refine wpAny_storeName_cell I.ok.kind hk hc z (fun h' GP hs =>?_)
  obtain⟨oc,hoc,hocd⟩:=id z
  refine h { s with heap:=h' } ⟨I.ok,I.os,I.bare,⟨fun b o e n hb hx =>?_,fun b o e n hb hx =>?_,I.base.free,fun b o e hx =>?_,I.base.fN,I.base.eY,I.base.fT⟩,⟨m,hn.sameBut hs (Ne.symm (C6 x c hc)),fun j y v' e1 e2 e3 =>?_⟩,fun y c' e =>?_,I.free,I.freeC,fun p hp =>?_,tracked ⟨oc,hoc,I.freeC x c hc⟩ hs,by simpa using I.len⟩ ⟨c,hs,.inr hc⟩
  ·exact(hs.2 b (J3 (Ju (Ji e) (I.ok.cab x c MV hc)))).trans (I.base.keep b o e n hb hx)
  ·obtain⟨sl,e1⟩:=I.base.slot b o e n hb hx
   exact⟨sl,(hs.2 b (J3 (Ju (Ji e) (I.ok.cab x c MV hc)))).trans e1⟩
  ·obtain⟨o',e1⟩:=I.base.there b o e hx
   exact⟨o',(hs.2 b (J3 (Ju (Ji e) (I.ok.cab x c MV hc)))).trans e1⟩
  ·by_cases hj:j=i
   ·subst hj
    rw[hi] at e1;cases e1
    rw[List.getElem?_set_self N4] at e2
    cases e2
    exact⟨u,r,.inr ⟨.inl hk,c,hc,GP⟩⟩
   ·rw[List.getElem?_set_ne (Ne.symm hj)] at e2
    obtain⟨u',r',q⟩:=hl j y v' e1 e2 e3
    refine⟨u',r',?_⟩
    rcases q with q|⟨k,c',e,z'⟩
    ·exact .inl q
    ·refine .inr ⟨k,c',e,z'.sameBut hs ?_⟩
     rintro rfl
     exact hj (rq hN e1 (I.ok.inj _ _ _ e hc▸hi))
  ·by_cases hcc:c'=c
   ·subst hcc;exact⟨_,GP⟩
   ·obtain⟨w2,z2⟩:=I.cell y c' e
    exact⟨w2,z2.sameBut hs hcc⟩
  ·obtain⟨e,n,ne,nf,d⟩:=I.pin p hp
   refine⟨(hs.2 p.1 ?_).trans e,n,ne,nf,d⟩
   intro q
   rw[q,hoc] at e
   have q':oc=p.2:=Option.some.inj e
   exact d w' (by rw[<-q'];exact hocd)
theorem gL {M:Model}{A:Around}{E:Value->Shared->Prop}{i:Nat}{x:Str}{v:V}{u:Value}{Q:Unit->Shared->Prop}(I:Inv X pins σ H s)(hN:X.N.Nodup)(hi:X.N[i]? = some x)(hx:Loc X.env.scope x)(r:RelV v u)
  (h:∀s',Inv X pins (σ.set i (some v)) H s'->Q () s') (hf:X.fn x=true∨X.env.scope.names.lookup x=some .local:=by first|exact .inl rfl|exact .inr rfl|assumption):wpAny M A (storeName X.env x u) Q E s:=
 jJ I hN hi hx r (fun s' I' _=>h s' I') hf
theorem Inv.pV {s':Shared}{ch:List Addr}(I:Inv X pins σ H s)(ho:s'.os=s.os)(u:Un (fP X.stack) ch H H' s.heap s'.heap)(aV:eO X.prog X.w H' s'.heap)(hg:AllBare s'.gens)
  (rJ:∀b∈ch,(b∈X.ex∨X.s₀.heap.objs.size<=b)/\b≠X.env.locals/\(∀x c,X.env.cells.lookup x=some c->c≠b)/\∀p∈X.pn++pins,p.1≠b):Inv X pins σ H' s':=by
 obtain⟨h',g',d',t',o'⟩:=s'
 have e:o'=s.os:=ho
 subst e
 exact I.call (g':=g') (t':=t') (d':=d') u aV hg rJ
end
noncomputable abbrev XK:=Value->Option Addr->Hp->Prop
noncomputable abbrev St:=List (Option V)
noncomputable abbrev VK:=V->Hp->Prop
noncomputable abbrev TE:=St->Hp->VK->Prop
noncomputable abbrev TT:=St->Hp->(Bool->Hp->Prop)->Prop
noncomputable abbrev TA:=St->Hp->(List V->Hp->Prop)->Prop
structure Ends where
 nx:St->Hp->Prop
 rt:VK
 bk:St->Hp->Prop:=fun _ _=>False
 ct:St->Hp->Prop:=fun _ _=>False
noncomputable abbrev TS:=Ends->St->Hp->Prop
noncomputable def EP (X:Cx)(pins:List (Addr×Obj))(σ:St)(Q:VK)(u:Value)(s':Shared):Prop:=cj fun v H'=>Inv X pins σ H' s'/\RelV v u/\Q v H'
noncomputable def TP (X:Cx)(pins:List (Addr×Obj))(σ:St)(Q:Bool->Hp->Prop)(b:Bool)(s':Shared):Prop:=∃H',Inv X pins σ H' s'/\Q b H'
noncomputable def AP (X:Cx)(pins:List (Addr×Obj))(σ:St)(Q:List V->Hp->Prop)(us:List Value)(s':Shared):Prop:=cj fun vs H'=>Inv X pins σ H' s'/\Vals vs us/\Q vs H'
noncomputable instance Kg {X:Cx} {pins:List (Addr×Obj)} {σ:St} {Q:VK} {u:Value} {s':Shared}:ae (EP X pins σ Q u s') (fun G=>∀v H',Inv X pins σ H' s'->RelV v u->Q v H'->G):=⟨fun⟨v,H',a,b,c⟩ _ k=>k v H' a b c⟩
noncomputable instance KY {X:Cx} {pins:List (Addr×Obj)} {σ:St} {Q:Bool->Hp->Prop} {b:Bool} {s':Shared}:ae (TP X pins σ Q b s') (fun G=>∀H',Inv X pins σ H' s'->Q b H'->G):=⟨fun⟨H',a,c⟩ _ k=>k H' a c⟩
noncomputable instance Le {X:Cx} {pins:List (Addr×Obj)} {σ:St} {Q:List V->Hp->Prop} {us:List Value} {s':Shared}:ae (AP X pins σ Q us s') (fun G=>∀vs H',Inv X pins σ H' s'->Vals vs us->Q vs H'->G):=⟨fun⟨v,H',a,b,c⟩ _ k=>k v H' a b c⟩
noncomputable def SP (X:Cx)(pins:List (Addr×Obj))(D:Ends)(f:Flow)(s':Shared):Prop:=
 match f with
 | .next=>cj fun σ' H'=>Inv X pins σ' H' s'/\D.nx σ' H'
 | .brk=>cj fun σ' H'=>Inv X pins σ' H' s'/\D.bk σ' H'
 | .cont=>cj fun σ' H'=>Inv X pins σ' H' s'/\D.ct σ' H'
 | .ret u=>iU fun v σ' H'=>Inv X pins σ' H' s'/\RelV v u/\D.rt v H'
noncomputable def PE (X:Cx)(e:Expr)(t:TE):Prop:=
 ∀ ⦃pins:List (Addr×Obj)⦄ (s:Shared) (σ:St) (H:Hp) (Q:VK),Inv X pins σ H s->t σ H Q->wpAny (model X.prog X.w) X.A (eval e X.env) (EP X pins σ Q) X.xe s
noncomputable def PT (X:Cx)(e:Expr)(t:TT):Prop:=
 ∀ ⦃pins:List (Addr×Obj)⦄ (s:Shared) (σ:St) (H:Hp) (Q:Bool->Hp->Prop),Inv X pins σ H s->t σ H Q->wpAny (model X.prog X.w) X.A (isTrue e X.env (eval e X.env)) (TP X pins σ Q) X.xe s
noncomputable def PW (X:Cx)(e:Expr)(t:TT):Prop:=
 ∀ ⦃whole:Sem Value⦄ ⦃pins:List (Addr×Obj)⦄ (s:Shared) (σ:St) (H:Hp) (Q:Bool->Hp->Prop),Inv X pins σ H s->t σ H Q->wpAny (model X.prog X.w) X.A (isTrue e X.env whole) (TP X pins σ Q) X.xe s
theorem PW.pt {X:Cx}{e:Expr}{t:TT}(h:PW X e t):PT X e t:=fun pins s σ H Q I q=>h s σ H Q I q
noncomputable def PA (X:Cx)(es:List Expr)(t:TA):Prop:=
 ∀ ⦃pos:Pos⦄ ⦃pins:List (Addr×Obj)⦄ (s:Shared) (σ:St) (H:Hp) (Q:List V->Hp->Prop),Inv X pins σ H s->t σ H Q->wpAny (model X.prog X.w) X.A (spliced (backTo pos (starEach es X.env))) (AP X pins σ Q) X.xe s
noncomputable def PS (X:Cx)(st:Stmt)(t:TS):Prop:=
 ∀ ⦃pins:List (Addr×Obj)⦄ (s:Shared) (σ:St) (H:Hp) (D:Ends),Inv X pins σ H s->t D σ H->wpAny (model X.prog X.w) X.A (exec st X.env) (SP X pins D) X.xe s
noncomputable def rF (X:Cx)(st:List Stmt)(t:TS):Prop:=
 ∀ ⦃pins:List (Addr×Obj)⦄ (s:Shared) (σ:St) (H:Hp) (D:Ends),Inv X pins σ H s->t D σ H->wpAny (model X.prog X.w) X.A (execs st X.env) (SP X pins D) X.xe s
theorem aQ {α:Type}{t:Sem α}{Q Q': α->Shared->Prop}{M:Model}{A:Around}{E:Value->Shared->Prop}{s:Shared}(h:wpAny M A t Q E s)(hQ:∀a s,Q a s->Q' a s):wpAny M A t Q' E s:=wpAny_mono h hQ fun _ _ x=>x
section
variable {X:Cx}
noncomputable def g7 (i:Nat):TE:=fun σ H Q=>∃v,σ[i]? = some (some v)/\Q v H
noncomputable def tC (v:V):TE:=fun _ H Q=>Q v H
theorem DF {i:Nat}{x:Str}{pos:Pos}(hN:X.N[i]? = some x)(hv:FC X.env.scope x)(hd:(x==("__debug__" : Str))=false:=by decide)(vh:(x==("__classdict__" : Str))=false:=by decide):PE X (.Name x pos) (g7 i):=by
 intro pins s σ H Q I h
 obtain⟨v,e,h⟩:=h
 obtain⟨m,hn,hl⟩:=I.loc
 obtain⟨u,r,l⟩:=hl i x v hN e hv
 have fin:EP X pins σ Q u s:=⟨v,H,I,r,h⟩
 rcases l with ⟨hk,hm⟩|⟨hk,c,hc,hcell⟩
 ·exact wpAny_Name (wpAny_loadName_local I.ok.kind hk hn hm fin) hd
 ·rcases hk with hk|hk
  ·exact wpAny_Name (wpAny_loadName_cell I.ok.kind hk hc hcell fin) hd
  ·exact wpAny_Name (wpAny_loadName_free I.ok.kind hk hc hcell fin vh) hd
theorem aj {i j pos}:PE X (.Constant (.int i) j pos) (tC (.int i)):=fun _ _ _ H _ I h=>wpAny_Constant_int ⟨.int i,H,I.tok _,⟨_,rfl⟩,h⟩
theorem eW {b j pos}:PE X (.Constant (.bool b) j pos) (tC (.bl b)):=fun _ _ _ H _ I h=>Constant_bool ⟨.bl b,H,I,rfl,h⟩
theorem de {j pos}:PE X (.Constant .none j pos) (tC .non):=fun _ _ _ H _ I h=>Constant_none ⟨.non,H,I,rfl,h⟩
theorem bI {x j pos}:PE X (.Constant (.str x) j pos) (tC (.str x)):=fun _ _ _ H _ I h=>Calls.Constant_str ⟨.str x,H,I.tok _,⟨_,rfl⟩,h⟩
noncomputable def Gl (X:Cx)(x:Str):Prop:=X.env.kindOf x=some .globalImplicit
theorem iR {E:Value->Shared->Prop}{pins:List (Addr×Obj)}{s:Shared}{σ:St}{H:Hp}{x:Str}{u:Value}{pos:Pos}{Q:Value->Shared->Prop}(I:Inv X pins σ H s)(hg:Gl X x)(hm:X.mg x=some u)(h:Q u s)
  (hd:(x==("__debug__" : Str))=false:=by decide):wpAny (model X.prog X.w) X.A (eval (.Name x pos) X.env) Q E s:=
 Calls.Name_function_global I.ok.kind hg (Calls.loadGlobal_global (by rw[I.ok.glob];exact I.mod.glob.keeps I.bk) hm h) hd
theorem gI {E:Value->Shared->Prop}{pins:List (Addr×Obj)}{s:Shared}{σ:St}{H:Hp}{x:Str}{u:Value}{pos:Pos}{Q:Value->Shared->Prop}(I:Inv X pins σ H s)(hg:Gl X x)(hm:X.mg x=none)(hv:bootBuiltins x=some u)(h:Q u s)
  (hn:x ≠ "__name__":=by decide) (hd:(x==("__debug__" : Str))=false:=by decide):wpAny (model X.prog X.w) X.A (eval (.Name x pos) X.env) Q E s:=by
 obtain⟨mb,h1,h2⟩:=I.mod.blt
 exact Calls.Name_function_global I.ok.kind hg (Calls.loadGlobal_builtin (by rw[I.ok.glob];exact I.mod.glob.keeps I.bk) hm (by rw[I.ok.blt];exact h1.keeps I.bk) ((h2 x hn).trans hv) h) hd
theorem AW {x:Str}{v:V}{u:Value}{pos:Pos}(hg:Gl X x)(hm:X.mg x=some u)(r:RelV v u)(hd:(x==("__debug__" : Str))=false:=by decide):PE X (.Name x pos) (tC v):=
 fun _ _ _ H _ I h=>iR I hg hm ⟨v,H,I,r,h⟩ hd
theorem cT {x:Str}{v:V}{u:Value}{pos:Pos}(hg:Gl X x)(hm:X.mg x=none)(hv:bootBuiltins x=some u)(r:RelV v u)(hn:x ≠ "__name__":=by decide)(hd:(x==("__debug__" : Str))=false:=by decide):PE X (.Name x pos) (tC v):=
 fun _ _ _ H _ I h=>gI I hg hm hv ⟨v,H,I,r,h⟩ hn hd
variable {a b:Expr}{ta tb:TE}{pos:Pos}
noncomputable def PC (X:Cx)(op:CmpOp)(a b:Expr)(t:TE):Prop:=
 ∀ ⦃pins:List (Addr×Obj)⦄ (s:Shared) (σ:St) (H:Hp) (Q:VK),Inv X pins σ H s->t σ H Q ->
  wpAny (model X.prog X.w) X.A (eval a X.env) (fun v s₁=>wpAny (model X.prog X.w) X.A (eval b X.env) (fun u s₂=>wpAny (model X.prog X.w) X.A (compareOp op v u) (EP X pins σ Q) X.xe s₂) X.xe s₁) X.xe s
noncomputable def tB (t:TE):TT:=fun σ H Q=>t σ H fun x H1=>∃c,x = .bl c/\Q c H1
theorem yS {op:CmpOp}{t:TE}(h:PC X op a b t)(h1:behindInMarks op b=false:=by first|exact nobehind _ (by decide) (by decide)|rfl):PE X (.Compare a [op] [b] pos) t:=fun pins s σ H Q I hw=>wpAny_Compare1 (h s σ H Q I hw) h1
theorem kT {op:CmpOp}{t:TE}(h:PC X op a b t)(h1:behindInMarks op b=false:=by first|exact nobehind _ (by decide) (by decide)|rfl):PT X (.Compare a [op] [b] pos) (tB t):=by
 intro pins s σ H Q I hw
 refine wpAny_isTrue_Compare1 (aQ (h s σ H _ I hw) fun v s1 h1=>aQ h1 fun u s2 h2=>aQ h2 fun c s3 hz_=>ae.el hz_ _ fun x H1 I1 r1 q1 =>?_) h1
 obtain⟨d,rfl,q⟩:=q1
 cases r1
 exact wpAny_truthy_bool ⟨H1,I1,q⟩
theorem dm {e:Expr}{t:TE}(h:PE X e t)(he:∀whole,isTrue e X.env whole=(do let v <-whole;standAt e.pos;holding [v] (truthy v)):=by intro _;rfl):PT X e (tB t):=by
 intro pins s σ H Q I hw
 refine isTrue_plain (aQ (h s σ H _ I hw) fun v s1 hz_=>ae.el hz_ _ fun x H1 I1 r1 q1 =>?_) (he _)
 obtain⟨d,rfl,q⟩:=q1
 cases r1
 exact wpAny_truthy_bool ⟨H1,I1,q⟩
variable {tA Ke:TT}{rest:List Expr}
noncomputable def Mi (t u:TT):TT:=fun σ H Q=>t σ H fun c H1=>if c=true then u σ H1 Q else Q false H1
noncomputable def PU (t u:TT):TT:=fun σ H Q=>t σ H fun c H1=>if c=true then Q true H1 else u σ H1 Q
noncomputable def M9 (t:TT):TT:=fun σ H Q=>t σ H fun c H1=>Q (!c) H1
theorem nL (ha:PT X a tA):PW X (.BoolOp .And [a] pos) tA:=by
 intro wh pins s σ H Q I h
 refine isTrue_and (aQ (ha s σ H Q I h) fun c s1 e =>?_)
 cases c with
 | true=>exact isTrue_and_nil e
 | false=>exact e
theorem gb (ha:PT X a tA):PW X (.BoolOp .Or [a] pos) tA:=by
 intro wh pins s σ H Q I h
 refine isTrue_or (aQ (ha s σ H Q I h) fun c s1 e =>?_)
 cases c with
 | false=>exact isTrue_or_nil e
 | true=>exact e
theorem sM (ha:PT X a tA)(hb:PW X (.BoolOp .And (b::rest) pos) Ke):PW X (.BoolOp .And (a::b::rest) pos) (Mi tA Ke):=by
 intro wh pins s σ H Q I h
 refine isTrue_and (aQ (ha s σ H _ I h) fun c s1 hz_ =>?_)
 refine ae.el hz_ _ ?_
 clear hz_
 rintro H1 I1 q1
 cases c with
 | true=>exact hb s1 σ H1 Q I1 q1
 | false=>exact⟨H1,I1,q1⟩
theorem eC (ha:PT X a tA)(hb:PW X (.BoolOp .Or (b::rest) pos) Ke):PW X (.BoolOp .Or (a::b::rest) pos) (PU tA Ke):=by
 intro wh pins s σ H Q I h
 refine isTrue_or (aQ (ha s σ H _ I h) fun c s1 hz_ =>?_)
 refine ae.el hz_ _ ?_
 clear hz_
 rintro H1 I1 q1
 cases c with
 | true=>exact⟨H1,I1,q1⟩
 | false=>exact hb s1 σ H1 Q I1 q1
theorem dX (ha:PT X a tA):PT X (.UnaryOp .Not a pos) (M9 tA):=by
 intro pins s σ H Q I h
 exact isTrue_not (ha s σ H (fun c H1=>Q (!c) H1) I h)
noncomputable def GK (ta tb:TE):TE:=fun σ H Q=>ta σ H fun x H1=>∃c,x = .bl c/\if c=true then tb σ H1 Q else Q (.bl false) H1
noncomputable def FN (ta:TE):TE:=fun σ H Q=>ta σ H fun x H1=>∃c,x = .bl c/\Q (.bl (!c)) H1
theorem Ds {op}{t:TE}(h:PE X a t):PE X (.BoolOp op [a] pos) t:=fun pins s σ H Q I hw=>BoolOp_one (h s σ H Q I hw)
theorem Eu (ha:PE X a ta)(hb:PE X (.BoolOp .And (b::rest) pos) tb):PE X (.BoolOp .And (a::b::rest) pos) (GK ta tb):=by
 intro pins s σ H Q I h
 refine BoolOp_and (aQ (ha s σ H _ I h) fun v s1 hz_ =>?_)
 refine ae.el hz_ _ ?_
 clear hz_
 rintro x H1 I1 r1 q1
 obtain⟨c,rfl,q1⟩:=q1
 cases r1
 refine wpAny_truthy_bool ?_
 cases c with
 | true=>exact hb s1 σ H1 Q I1 q1
 | false=>exact⟨.bl false,H1,I1,rfl,q1⟩
theorem w4 (ha:PE X a ta):PE X (.UnaryOp .Not a pos) (FN ta):=by
 intro pins s σ H Q I h
 refine UnaryOp_ (aQ (ha s σ H _ I h) fun v s1 hz_ =>?_)
 refine ae.el hz_ _ ?_
 clear hz_
 rintro x H1 I1 r1 q1
 obtain⟨c,rfl,q1⟩:=q1
 cases r1
 exact not_of (wpAny_truthy_bool ⟨.bl (!c),H1,I1,rfl,q1⟩)
noncomputable def PV (t:TT)(ta tb:TE):TE:=fun σ H Q=>t σ H fun c H1=>if c=true then ta σ H1 Q else tb σ H1 Q
theorem yu {c:Expr}(hc:PT X c tA)(ha:PE X a ta)(hb:PE X b tb):PE X (.IfExp c a b pos) (PV tA ta tb):=by
 intro pins s σ H Q I h
 refine wpAny_IfExp (aQ (hc s σ H _ I h) fun d s1 hz_ =>?_)
 refine ae.el hz_ _ ?_
 clear hz_
 rintro H1 I1 q1
 cases d with
 | true=>exact ha s1 σ H1 Q I1 q1
 | false=>exact hb s1 σ H1 Q I1 q1
end
noncomputable def aG (K:Ja)(H:Hp)(a:Addr)(xs:List V):Prop:=
 Rd H a (.lst xs) ∨
  iU fun(o:Obj) (aw:Array Value) (n:Nat)=>K.lookup a=some o/\o.cls = .type "list" /\ o.dict=none/\o.data = .seq aw n/\aw.size<=sizeLine/\Vals xs aw.toList
noncomputable def d9 (K:Ja)(H:Hp)(a:Addr)(xs:List V):Prop:=
 Rd H a (.tup xs) ∨
  iU fun(o:Obj) (aw:Array Value) (n:Nat)=>K.lookup a=some o/\o.cls = .type "tuple" /\ o.data = .seq aw n/\aw.size<=sizeLine/\Vals xs aw.toList
noncomputable def Lx:Value->Option V
 | .none=>some .non
 | .bool b=>some (.bl b)
 | .int i _=>some (.int i)
 | .str x _=>some (.str x)
 | .bytes b _=>some (.byt b)
 | .float b _=>some (.flt b)
 | .ref a=>some (.ref a)
 | .type n=>some (.ty n)
 | _=>none
theorem RelV.abs {x:V}{u:Value}(r:RelV x u):Lx u=some x:=by
 cases x with
 | non=>cases r;rfl
 | bl _=>cases r;rfl
 | int _=>obtain⟨t,rfl⟩:=r;rfl
 | str _=>obtain⟨t,rfl⟩:=r;rfl
 | byt _=>obtain⟨t,rfl⟩:=r;rfl
 | flt _=>obtain⟨t,rfl⟩:=r;rfl
 | ref _=>cases r;rfl
 | ty _=>cases r;rfl
theorem RelV.inj {x y:V}{u:Value}(r:RelV x u)(q:RelV y u):x=y:=Option.some.inj (r.abs.symm.trans q.abs)
theorem Vals.inj {xs ys:List V}{us:List Value}(h:Vals xs us)(h':Vals ys us):xs=ys:=by
 induction h generalizing ys with
 | nil=>cases h';rfl
 | cons r t ih=>cases h' with|cons r' t'=>rw[RelV.inj r r',ih t']
section
variable {X:Cx}{pins:List (Addr×Obj)}{σ:St}{H:Hp}{s:Shared}{a:Addr}{xs ys:List V}
theorem aG.of {K:Ja}(h:H a=some (.lst xs)):aG K H a xs := .inl (.inl h)
theorem d9.of {K:Ja}(h:H a=some (.tup xs)):d9 K H a xs := .inl (.inl h)
theorem Inv.list (I:Inv X pins σ H s)(h:aG X.K H a xs):∃aw:List Value,Vals xs aw/\PlainL s.heap a aw.toArray/\xs.length<=sizeLine:=by
 rcases h with h|⟨o,aw,n,hk,hc,hd,hs,hz,r⟩
 ·obtain⟨z,aw,n,r,e⟩:=h.ok I.aV
  exact⟨aw,r,⟨_,n,e,rfl,rfl,rfl⟩,z⟩
 ·refine⟨aw.toList,r,⟨o,n,I.jv a o hk,hc,hd,by simpa using hs⟩,?_⟩
  have e:=r.length
  simp only[Jv] at e
  (first|lia|omega)
theorem Inv.tuple (I:Inv X pins σ H s)(h:d9 X.K H a xs):∃aw:List Value,Vals xs aw/\IsTup s.heap a aw.toArray/\xs.length<=sizeLine:=by
 rcases h with h|⟨o,aw,n,hk,hc,hs,hz,r⟩
 ·obtain⟨z,aw,r,p⟩:=h.ok I.aV
  exact⟨aw,r,p,z⟩
 ·refine⟨aw.toList,r,⟨o,I.jv a o hk,hc,n,by simpa using hs⟩,?_⟩
  have e:=r.length
  simp only[Jv] at e
  (first|lia|omega)
theorem Inv.yD (I:Inv X pins σ H s)(h:aG X.K H a xs)(h':aG X.K H a ys):xs=ys:=by
 obtain⟨aw,r,⟨o,n,e,_,_,d⟩,_⟩:=I.list h
 obtain⟨its',r',⟨o',n',e',_,_,d'⟩,_⟩:=I.list h'
 rw[e] at e';cases e'
 rw[d] at d'
 injection d' with d1 _
 have:aw=its':=by simpa using congrArg Array.toList d1
 subst this
 exact r.inj r'
end
noncomputable abbrev Cx.mj (X:Cx)(E:Value->Shared->Prop):Cx:={ X with xe:=E }
noncomputable abbrev Cx.JX (X:Cx):Cx:=X.mj fun _ _=>False
theorem Cx.Ok.mj {X:Cx}(ok:X.Ok)(E:Value->Shared->Prop):(X.mj E).Ok:=
 ⟨ok.mod,ok.kind,ok.glob,ok.blt,ok.above,ok.inj,ok.has,ok.cab,ok.hd,ok.frames,ok.stk,ok.exf,ok.bs,ok.bsz,ok.noex,ok.exfs,ok.fW,ok.rH⟩
theorem Cx.Ok.gu {X:Cx}{E:Value->Shared->Prop}(ok:(X.mj E).Ok):X.Ok:=
 ⟨ok.mod,ok.kind,ok.glob,ok.blt,ok.above,ok.inj,ok.has,ok.cab,ok.hd,ok.frames,ok.stk,ok.exf,ok.bs,ok.bsz,ok.noex,ok.exfs,ok.fW,ok.rH⟩
section
variable {X:Cx}{pins:List (Addr×Obj)}{σ:St}{H:Hp}{s:Shared}{E:Value->Shared->Prop}
theorem Inv.mj (I:Inv X pins σ H s)(E:Value->Shared->Prop):Inv (X.mj E) pins σ H s:=⟨I.ok.mj E,I.os,I.bare,I.base,I.loc,I.cell,I.free,I.freeC,I.pin,I.aV,I.len⟩
theorem Inv.gu (I:Inv (X.mj E) pins σ H s):Inv X pins σ H s:=⟨I.ok.gu,I.os,I.bare,I.base,I.loc,I.cell,I.free,I.freeC,I.pin,I.aV,I.len⟩
theorem SP.gu {D:Ends}{f:Flow}{s':Shared}(h:SP (X.mj E) pins D f s'):SP X pins D f s':=by
 cases f with
 | next=>obtain⟨σ',H',I,q⟩:=h;exact⟨σ',H',I.gu,q⟩
 | brk=>obtain⟨σ',H',I,q⟩:=h;exact⟨σ',H',I.gu,q⟩
 | cont=>obtain⟨σ',H',I,q⟩:=h;exact⟨σ',H',I.gu,q⟩
 | ret u=>obtain⟨v,σ',H',I,r,q⟩:=h;exact⟨v,σ',H',I.gu,r,q⟩
theorem rF.JX {st:List Stmt}{t:TS}(h:rF X.JX st t):rF X st t:=fun pins s σ H D I hw=>
 wpAny_mono (h s σ H D (I.mj _) hw) (fun _ _ q=>q.gu) fun _ _ z=>False.elim z
end
section
variable {X:Cx}{st:Stmt}{rest:List Stmt}{t u:TS}{e:Expr}{te:TE}{pos:Pos}
noncomputable def yd:TS:=fun D σ H=>D.nx σ H
noncomputable def Bd (t u:TS):TS:=fun D σ H=>t { D with nx:=u D } σ H
theorem bh:rF X [] yd:=fun _ _ σ H _ I h=>wpAny_execs_nil ⟨σ,H,I,h⟩
theorem ah (h1:PS X st t)(h2:rF X rest u):rF X (st::rest) (Bd t u):=by
 intro pins s σ H D I h
 refine wpAny_execs_cons (aQ (h1 s σ H { D with nx:=u D } I h) fun f s1 q =>?_)
 cases f with
 | next=>
  obtain⟨σ',H',I',q⟩:=q
  exact h2 s1 σ' H' D I' q
 | ret v=>exact q
 | brk=>exact q
 | cont=>exact q
theorem ak (h1:PS X st t):rF X [st] t:=by
 intro pins s σ H D I h
 refine wpAny_execs_cons (aQ (h1 s σ H D I h) fun f s1 q =>?_)
 cases f with
 | next=>exact wpAny_execs_nil q
 | ret v=>exact q
 | brk=>exact q
 | cont=>exact q
theorem Inv.quiet {pins:List (Addr×Obj)}{σ:St}{H:Hp}{s:Shared}(I:Inv X pins σ H s):interactive X.env=false:=by simp[interactive,I.ok.kind]
noncomputable def GN (te:TE):TS:=fun D σ H=>te σ H fun _ H1=>D.nx σ H1
theorem d7 (he:PE X e te)(hs:swapsWith e none pos.line X.env=pure false:=by rfl):PS X (.Expr e pos) (GN te):=by
 intro pins s σ H D I h
 exact wpAny_Expr_any (aQ (he s σ H _ I h) fun v s1 hz_=>ae.el hz_ _ fun x H1 I1 r1 q1=>⟨σ,H1,I1,q1⟩) I.quiet hs
noncomputable def Kq (te:TE):TS:=fun D σ H=>te σ H D.rt
theorem aI (he:PE X e te):PS X (.Return (some e) pos) (Kq te):=by
 intro pins s σ H D I h
 exact wpAny_Return_some (aQ (he s σ H _ I h) fun v s1 hz_=>ae.el hz_ _ fun x H1 I1 r1 q1=>⟨x,σ,H1,I1,r1,q1⟩)
noncomputable def l9 (c:TT)(t u:TS):TS:=fun D σ H=>c σ H fun b H1=>if b=true then t D σ H1 else u D σ H1
theorem cB {c:Expr}{a b:List Stmt}{tc:TT}(hc:PT X c tc)(ha:rF X a t)(hb:rF X b u):PS X (.If c a b pos) (l9 tc t u):=by
 intro pins s σ H D I h
 refine wpAny_If (aQ (hc s σ H _ I h) fun d s1 hz_ =>?_)
 refine ae.el hz_ _ ?_
 clear hz_
 rintro H1 I1 q1
 cases d with
 | true=>exact ha s1 σ H1 D I1 q1
 | false=>exact hb s1 σ H1 D I1 q1
end
noncomputable abbrev TG:=V->St->Hp->(St->Hp->Prop)->Prop
noncomputable abbrev uC:=List V->St->Hp->(St->Hp->Prop)->Prop
noncomputable def PG (X:Cx)(target:Expr)(t:TG):Prop:=
 ∀ ⦃pins:List (Addr×Obj)⦄ (s:Shared) (σ:St) (H:Hp) (v:V) (u:Value) (Q:St->Hp->Prop),Inv X pins σ H s->RelV v u->t v σ H Q ->
  wpAny (model X.prog X.w) X.A (assign target X.env u) (fun _ s'=>cj fun σ' H'=>Inv X pins σ' H' s'/\Q σ' H') X.xe s
noncomputable def Gh (X:Cx)(ts:List Expr)(t:uC):Prop:=
 ∀ ⦃pins:List (Addr×Obj)⦄ (s:Shared) (σ:St) (H:Hp) (vs:List V) (us:List Value) (Q:St->Hp->Prop),Inv X pins σ H s->Vals vs us->t vs σ H Q ->
  wpAny (model X.prog X.w) X.A (assignInOrder ((assignEach ts X.env).map (·.2)) us) (fun _ s'=>cj fun σ' H'=>Inv X pins σ' H' s'/\Q σ' H') X.xe s
noncomputable abbrev EA:=V->V->V->Hp->(Hp->Prop)->Prop
noncomputable def Ia (X:Cx)(t:EA):Prop:=
 ∀ ⦃pins:List (Addr×Obj)⦄ (s:Shared) (σ:St) (H:Hp) (o i v:V) (ov iv u:Value) (Q:Hp->Prop),Inv X pins σ H s->RelV o ov->RelV i iv->RelV v u->t o i v H Q ->
  wpAny (model X.prog X.w) X.A (setItem ov iv u) (fun _ s'=>∃H',Inv X pins σ H' s'/\Q H') X.xe s
noncomputable abbrev JY:=V->V->Hp->VK->Prop
noncomputable def NY (X:Cx)(op:Operator)(t:JY):Prop:=
 ∀ ⦃pins:List (Addr×Obj)⦄ (s:Shared) (σ:St) (H:Hp) (x y:V) (v u:Value) (Q:VK),Inv X pins σ H s->RelV x v->RelV y u->t x y H Q ->
  wpAny (model X.prog X.w) X.A (inplaceOp op v u) (EP X pins σ Q) X.xe s
section
variable {X:Cx}{pos:Pos}
noncomputable def cM (i:Nat):TG:=fun v σ H Q=>Q (σ.set i (some v)) H
theorem ai {i:Nat}{x:Str}(hN:X.N.Nodup)(hi:X.N[i]? = some x)(hx:Loc X.env.scope x)(hf:X.fn x=true∨X.env.scope.names.lookup x=some .local:=by first|exact .inl rfl|exact .inr rfl|assumption):PG X (.Name x pos) (cM i):=by
 intro pins s σ H v u Q I r h
 exact wpAny_assign_Name (gL I hN hi hx r (fun s' I'=>⟨_,H,I',h⟩) hf)
noncomputable def pR:uC:=fun vs σ H Q=>vs=[]/\Q σ H
noncomputable def eV (t:TG)(u:uC):uC:=fun vs σ H Q=>cj fun v r=>vs=v::r/\t v σ H fun σ' H'=>u r σ' H' Q
theorem bp:Gh X [] pR:=by
 intro pins s σ H vs us Q I r h
 obtain⟨e,h⟩:=h
 subst e
 cases r
 exact assignInOrder_nil ⟨σ,H,I,h⟩
theorem ar {e:Expr}{es:List Expr}{t:TG}{u:uC}(h1:PG X e t)(h2:Gh X es u)
  (hs:(assignEach (e::es) X.env).map (·.2)=assign e X.env::(assignEach es X.env).map (·.2):=by rfl):Gh X (e::es) (eV t u):=by
 intro pins s σ H vs us Q I r h
 obtain⟨v,vr,e1,h⟩:=h
 subst e1
 cases r with
 | cons r rr=>
  rw[hs]
  refine assignInOrder_cons (aQ (h1 s σ H _ _ _ I r h) fun _ s1 hz_ =>?_)
  refine ae.el hz_ _ ?_
  clear hz_
  rintro σ1 H1 I1 q1
  exact h2 s1 σ1 H1 _ _ Q I1 rr q1
noncomputable def nJ (K:Ja)(n:Nat)(t:uC):TG:=fun v σ H Q=>cj fun a xs=>v = .ref a/\d9 K H a xs/\xs.length=n/\t xs σ H Q
theorem Eg {es:List Expr}{k:Nat}{t:uC}{n:Nat}(hc:X.calm=true)(h:Gh X es t)
  (hn:(assignEach es X.env).length=n:=by rfl) (fZ:(assignEach es X.env).findIdx? (·.1)=none:=by rfl):PG X (.Tuple es k pos) (nJ X.K n t):=by
 intro pins s σ H v u Q I r hw
 obtain⟨a,xs,e1,hq,hl,hw⟩:=hw
 subst e1
 cases r
 obtain⟨aw,rv,ht,hz⟩:=I.tuple hq
 refine assign_Tuple_tuple (I.ok.hd hc) ht (by simp[hn,<-hl,rv.length]) fZ fun h' hx =>?_
 have I1:Inv X pins σ H { s with heap:=h' }:=I.kept (t':=s.toks) fun b o e=>hx b o (J3 (Ji e)) e
 exact h _ σ H xs _ Q I1 (by simpa using rv) hw
noncomputable def Kw (to ti:TE)(t:EA):TG:=fun v σ H Q=>to σ H fun o H1=>ti σ H1 fun i H2=>t o i v H2 fun H3=>Q σ H3
theorem DQ {o i:Expr}{to ti:TE}{t:EA}(ho:PE X o to)(hi:PE X i ti)(hs:Ia X t)
  (ha:∀v,assign (.Subscript o i pos) X.env v=(do
   let ov <-holding [v] (eval o X.env)
   let iv <-holding [v,ov] (eval i X.env)
   standAt pos
   holding [v,ov,iv] (setItem ov iv v)
   release [v,ov,iv] []):=by intro _;rfl):PG X (.Subscript o i pos) (Kw to ti t):=by
 intro pins s σ H v u Q I r h
 rw[ha]
 refine wpAny_bind (wpAny_holding (aQ (ho s σ H _ I h) fun ov s1 hz_ =>?_))
 refine ae.el hz_ _ ?_
 clear hz_
 rintro x H1 I1 r1 q1
 refine wpAny_bind (wpAny_holding (aQ (hi s1 σ H1 _ I1 q1) fun iv s2 hz_ =>?_))
 refine ae.el hz_ _ ?_
 clear hz_
 rintro y H2 I2 r2 q2
 refine wpAny_bind (wpAny_standAt (wpAny_bind (wpAny_holding (aQ (hs s2 σ H2 x y v ov iv u _ I2 r1 r2 r q2) fun _ s3 hz_ =>?_))))
 refine ae.el hz_ _ ?_
 clear hz_
 rintro H3 I3 q3
 exact wpAny_release ⟨σ,H3,I3,q3⟩
noncomputable def gU (te:TE)(g:TG):TS:=fun D σ H=>te σ H fun x H1=>g x σ H1 D.nx
theorem fB {tg e:Expr}{te:TE}{g:TG}(he:PE X e te)(hg:PG X tg g)(hs:swapsWithSole [tg] e pos.line X.env=pure false:=by rfl)(hw:swappedStores [tg] e X.env=pure none:=by rfl)
  (h1:(assignEach [tg] X.env).map (·.2)=[assign tg X.env]:=by rfl):PS X (.Assign [tg] e pos) (gU te g):=by
 intro pins s σ H D I h
 refine wpAny_Assign_stores (aQ (he s σ H _ I h) fun v s1 hz_=>ae.el hz_ _ fun x H1 I1 r1 q1 =>?_) hs hw
 rw[h1]
 exact aQ (hg s1 σ H1 x v _ I1 r1 q1) fun _ s2 q=>q
theorem aE {i:Nat}{x:Str}{e:Expr}{te:TE}{pos':Pos}(hN:X.N.Nodup)(hi:X.N[i]? = some x)(hx:Loc X.env.scope x)(he:PE X e te)(hs:swapsWith e (some (.Name x pos')) pos.line X.env=pure false:=by rfl)(hf:X.fn x=true∨X.env.scope.names.lookup x=some .local:=by first|exact .inl rfl|exact .inr rfl|assumption):
  PS X (.Assign [.Name x pos'] e pos) (gU te (cM i)):=by
 intro pins s σ H D I h
 refine wpAny_Assign_Name (aQ (he s σ H _ I h) fun v s1 hz_=>ae.el hz_ _ fun y H1 I1 r1 q1 =>?_) hs
 exact gL I1 hN hi hx r1 (fun s2 I2=>⟨_,H1,I2,q1⟩) hf
noncomputable def KU (i j:Nat)(ta:TA):TS:=fun D σ H=>ta σ H fun vs H1=>cj fun v w=>vs=[v,w]/\D.nx ((σ.set i (some v)).set j (some w)) H1
theorem xh {i j:Nat}{x y:Str}{a b:Expr}{ta:TA}{px py pt:Pos}{kt k2 pt2}(hc:X.calm=true)(hN:X.N.Nodup)(hi:X.N[i]? = some x)(hj:X.N[j]? = some y)(fg:i≠j)
  (hx:X.env.scope.names.lookup x=some .local) (hy:X.env.scope.names.lookup y=some .local) (ha:PA X [a,b] ta)
  (hw:swappedStores [.Tuple [.Name x px,.Name y py] kt pt] (.Tuple [a,b] k2 pt2) X.env=pure (some [x,y]))
  (hs:swapsWithSole [.Tuple [.Name x px,.Name y py] kt pt] (.Tuple [a,b] k2 pt2) pos.line X.env=pure false:=by rfl) :
  PS X (.Assign [.Tuple [.Name x px,.Name y py] kt pt] (.Tuple [a,b] k2 pt2) pos) (KU i j ta):=by
 intro pins s σ H D I h
 rw[exec_Assign_arm]
 refine wpAny_bind (wpAny_standAt ?_)
 rw[hs]
 refine wpAny_bind (wpAny_pure ?_)
 rw[if_neg (by decide)]
 refine wpAny_bind (Tuple_ (aQ (ha s σ H _ I h) fun us s1 hz_ =>?_))
 refine ae.el hz_ _ ?_
 clear hz_
 rintro vs H1 I1 r1 q1
 obtain⟨v,w,e1,q1⟩:=q1
 subst e1
 obtain⟨u1,u2,rfl,rv,rw'⟩:∃u1 u2,us=[u1,u2]/\RelV v u1/\RelV w u2:=by
  cases r1 with
  | cons p q=>
   cases q with
   | cons p' q'=>
    cases q'
    exact⟨_,_,rfl,p,p'⟩
 refine wpAny_newObj_type ?_ (by show 2<=sizeLine;decide)
 have I2:Inv X pins σ H1 { s1 with heap:=s1.heap.push { cls := .type "tuple",data := .seq [u1,u2].toArray } }:=I1.kept (t':=s1.toks) fun b o e=>Jd _ e
 rw[hw]
 refine wpAny_bind (wpAny_pure ?_)
 show wpAny (model X.prog X.w) X.A (do rule "assign.swapped-stores";let items <-unpackItems (.ref s1.heap.objs.size) 2 none;assignInOrder [fun v=>bindName X.env y v,fun v=>bindName X.env x v] items.reverse;pure Flow.next) _ _ _
 refine wpAny_bind (wpAny_rule (wpAny_bind (unpackItems_tuple (items := #[u1,u2]) (I.ok.hd hc) (IsTup.new s1.heap _) fun h' hx' =>?_)))
 have I3:=I2.kept (h':=h') (t':=s1.toks) fun b o e=>hx' b o (J3 (Ji e)) e
 show wpAny _ _ (assignInOrder [fun v=>bindName X.env y v,fun v=>bindName X.env x v] [u2,u1] >>= fun _=>pure Flow.next) _ _ _
 refine wpAny_bind (assignInOrder_cons (wpAny_bindName (gL I3 hN hj (.inl hy) rw' (fun s2 I4 =>?_) (.inr hy))))
 refine assignInOrder_cons (wpAny_bindName (gL I4 hN hi (.inl hx) rv (fun s3 I5=>assignInOrder_nil (wpAny_pure ?_)) (.inr hx)))
 rw[List.set_comm _ _ (Ne.symm fg)] at I5
 exact⟨_,H1,I5,q1⟩
noncomputable def LI (i:Nat)(te:TE)(ti:JY):TS:=fun D σ H=>∃x,σ[i]? = some (some x)/\te σ H fun y H1=>ti x y H1 fun z H2=>D.nx (σ.set i (some z)) H2
theorem DH {i:Nat}{x:Str}{e:Expr}{te:TE}{op:Operator}{ti:JY}{pos':Pos}(hN:X.N.Nodup)(hi:X.N[i]? = some x)(hx:Loc X.env.scope x)(he:PE X e te)(ho:NY X op ti)(hf:X.fn x=true∨X.env.scope.names.lookup x=some .local:=by first|exact .inl rfl|exact .inr rfl|assumption):
  PS X (.AugAssign (.Name x pos') op e pos) (LI i te ti):=by
 intro pins s σ H D I h
 obtain⟨v,e1,h⟩:=h
 obtain⟨m,hn,hl⟩:=I.loc
 have G4:FC X.env.scope x:=by rcases hx with k|k;exact .inl k;exact .inr (.inl k)
 obtain⟨u,r,l⟩:=hl i x v hi e1 G4
 refine wpAny_AugAssign_Name ?_
 have go:wpAny (model X.prog X.w) X.A (eval e X.env) (fun w s₂=>wpAny (model X.prog X.w) X.A (inplaceOp op u w) (fun r s₃=>wpAny (model X.prog X.w) X.A (storeName X.env x r) (fun _=>SP X pins D .next) X.xe s₃) X.xe s₂) X.xe s:=by
  refine aQ (he s σ H _ I h) fun w s1 hz_ =>?_
  refine ae.el hz_ _ ?_
  clear hz_
  rintro y H1 I1 r1 q1
  refine aQ (ho s1 σ H1 v y u w _ I1 r r1 q1) fun z s2 hz_ =>?_
  refine ae.el hz_ _ ?_
  clear hz_
  rintro zv H2 I2 r2 q2
  exact gL I2 hN hi hx r2 (fun s3 I3=>⟨_,H2,I3,q2⟩) hf
 rcases l with ⟨hk,hm⟩|⟨hk,c,hc,hcell⟩
 ·exact wpAny_loadName_local I.ok.kind hk hn hm go
 ·rcases hk with hk|hk
  ·exact wpAny_loadName_cell I.ok.kind hk hc hcell go
  ·rcases hx with k|k
   ·have:X.env.scope.names.lookup x=some .free:=hk
    rw[k] at this;cases this
   ·have:X.env.scope.names.lookup x=some .free:=hk
    rw[k] at this;cases this
noncomputable def OP (f:Int->Int->Int):JY:=fun x y H Q=>cj fun i j=>x = .int i/\y = .int j/\Q (.int (f i j)) H
theorem ES:NY X .Add (OP fun i j=>i+j):=by
 intro pins s σ H x y v u Q I r1 r2 h
 obtain⟨i,j,e1,e2,q⟩:=h
 subst e1;subst e2
 obtain⟨t,rfl⟩:=r1
 obtain⟨t',rfl⟩:=r2
 exact iadd_int ⟨.int _,H,I.tok _,⟨_,rfl⟩,q⟩
end
section
variable {X:Cx}{pos:Pos}
noncomputable def kX (c:TT)(tb:TS):TS:=fun D σ H=>∃W:Nat->St->Hp->Prop,(∃m,W m σ H)/\∀m σ H,W m σ H ->
 c σ H fun b H1=>if b=true then ∃N:St->Hp->Prop,(∀ σ' H',N σ' H'->∃m',m'<m/\W m' σ' H')/\tb { D with nx:=N,ct:=N,bk:=D.nx } σ H1 else D.nx σ H1
theorem lR {c:Expr}{body:List Stmt}{tc:TT}{tb:TS}(hp:PassesOwn (model X.prog X.w) X.A X.env X.xe)(hc:PT X c tc)(hb:rF X body tb):PS X (.While c body [] pos) (kX tc tb):=by
 intro pins s σ H D I h
 obtain⟨W,⟨m0,w0⟩,turn⟩:=h
 refine wpAny_While (codeAny_whileLoop (fun n s'=>∃ σ' H',Inv X pins σ' H' s'/\W n σ' H') ?_ m0 ⟨σ,H,I,w0⟩)
 rintro n s1 ⟨σ1,H1,I1,w1⟩
 refine wpAny_passesOwn hp (aQ (hc s1 σ1 H1 _ I1 (turn n σ1 H1 w1)) fun b s2 hz_ =>?_)
 refine ae.el hz_ _ ?_
 clear hz_
 rintro H2 I2 q2
 cases b with
 | true=>
  obtain⟨N,hN,q2⟩:=q2
  rw[if_pos rfl]
  refine wpAny_passesOwn hp (aQ (hb s2 σ1 H2 _ I2 q2) fun f s3 q3 =>?_)
  cases f with
  | next=>
   obtain⟨σ3,H3,I3,n3⟩:=q3
   obtain⟨m',hm,w3⟩:=hN σ3 H3 n3
   exact⟨m',hm,σ3,H3,I3,w3⟩
  | cont=>
   obtain⟨σ3,H3,I3,n3⟩:=q3
   obtain⟨m',hm,w3⟩:=hN σ3 H3 n3
   exact⟨m',hm,σ3,H3,I3,w3⟩
  | brk=>exact q3
  | ret v=>exact q3
 | false=>
  rw[if_neg Jo]
  exact wpAny_execs_nil ⟨σ1,H2,I2,q2⟩
end
structure It where
 go:Nat->Hp->Prop
 yld:Nat->Hp->V->Hp->Prop
 stop:Nat->Hp->Prop
noncomputable def dZ (X:Cx)(pins:List (Addr×Obj))(H:Hp)(b:Addr):Prop:=
 H b=none/\b≠X.env.locals/\b∉X.fs/\(b∈X.ex∨X.s₀.heap.objs.size<=b)/\(∀x c,X.env.cells.lookup x=some c->c≠b)/\∀p∈X.pn++pins,p.1≠b
theorem Inv.kr {X:Cx}{pins:List (Addr×Obj)}{σ:St}{H H':Hp}{s:Shared}{b:Addr}(I:Inv X pins σ H s)(hb:s.heap.objs.size<=b)(hn:H' b=none):dZ X pins H' b:=by
 refine⟨hn,Yv (Ju I.lt hb),I.HY hb,.inr (Jp I.sz hb),fun x c e z =>?_,fun p hp z =>?_⟩
 ·obtain⟨v,q⟩:=I.cell x c e
  exact absurd (Ju q.lt (by rw[z];exact hb)) (Yc _)
 ·exact absurd (Ju (Ji (I.pin p hp).1) (by rw[z];exact hb)) (Yc _)
structure Turn (P:Program)(w:World)(K:Ja)(tg:Expr)(J:It)(fp:List Addr)(it:Addr)(tn:Nat->Heap->Prop):Prop where
 mem:it∈fp
 obj:∀i h,tn i h->∀b∈fp,∃o,h.get? b=some o/\∀v,o.data ≠ .cell v
 keep:∀i h h',tn i h->(∀b∈fp,∀o,h.get? b=some o->h'.get? b=some o)->tn i h'
 item:∀(X:Cx),X.prog=P->X.w=w->X.K=K->X.calm=true->∀(i:Nat) (pins:List (Addr×Obj)) (s:Shared) (σ:St) (H:Hp) (E:Value->Shared->Prop),Inv X pins σ H s->(∀b∈fp,dZ X pins H b)->tn i s.heap->J.go i H ->
  wpAny (model P w) X.A (pyNext (.ref it)) (fun r s1=>∃u,r=some u /\
   wpAny (model P w) X.A (letOwnedTupleGo tg (.ref it) u) (fun _ s2=>∃x H',Inv X pins σ H' s2/\RelV x u/\J.yld i H x H'/\tn (i+1) s2.heap/\∀b∈fp,H' b=none) E s1) E s
 done:∀(X:Cx),X.prog=P->X.w=w->X.K=K->X.calm=true->∀(i:Nat) (pins:List (Addr×Obj)) (s:Shared) (σ:St) (H:Hp) (E:Value->Shared->Prop),Inv X pins σ H s->(∀b∈fp,dZ X pins H b)->tn i s.heap->J.stop i H ->
  wpAny (model P w) X.A (pyNext (.ref it)) (fun r s1=>r=none/\Inv X pins σ H s1) E s
 self:∀(A:Around) (i:Nat) (s:Shared) (Q:Value->Shared->Prop) (E:Value->Shared->Prop),tn i s.heap->Q (.ref it) s->wpAny (model P w) A (pyIter (.ref it)) Q E s
noncomputable abbrev TI:=St->Hp->(It->Hp->Prop)->Prop
noncomputable def Ox (X:Cx)(pins:List (Addr×Obj))(σ:St)(tg:Expr)(R:It->Hp->Prop)(Fq:Value)(s2:Shared):Prop:=
 zT fun(it:Addr) (fp:List Addr) (tn:Nat->Heap->Prop) (J:It) (H':Hp)=>Fq = .ref it/\Inv X pins σ H' s2/\Turn X.prog X.w X.K tg J fp it tn/\tn 0 s2.heap/\(∀b∈fp,dZ X pins H' b)/\R J H'
noncomputable def PI (X:Cx)(tg iter:Expr)(wi:TI):Prop:=
 ∀ ⦃pins:List (Addr×Obj)⦄ (s:Shared) (σ:St) (H:Hp) (R:It->Hp->Prop),Inv X pins σ H s->wi σ H R ->
  wpAny (model X.prog X.w) X.A (eval iter X.env) (fun v s1=>wpAny (model X.prog X.w) X.A (pyIter v) (Ox X pins σ tg R) X.xe s1) X.xe s
theorem CH {M:Model}{A:Around}{E:Value->Shared->Prop}{s:Shared}{tg:Expr}{it:Addr}{u:Value}{o:Obj}{n:String}{vs:Array Value}{Q:Unit->Shared->Prop}(ho:s.heap.get? it=some o)(hc:o.cls = .type n)(hd:o.data = .fields vs)
  (hn:["enumerate", "zip", "dict_itemiterator", "dict_reverseitemiterator", "odict_iterator", "itertools.zip_longest", "itertools.pairwise"].contains n=false) (hQ:Q () s):wpAny M A (letOwnedTupleGo tg (.ref it) u) Q E s:=by
 unfold letOwnedTupleGo
 cases tg<;>first
  | exact wpAny_pure hQ
  | (cases u<;>first
    | exact wpAny_pure hQ
    | (refine wpAny_bind (wpAny_load ho ?_)
       rw[hc,hd]
       show wpAny M A (if (["enumerate", "zip", "dict_itemiterator", "dict_reverseitemiterator", "odict_iterator", "itertools.zip_longest", "itertools.pairwise"].contains n&&vs[0]? == some (rawInt _))=true then _ else _) Q E s
       rw[if_neg (by intro h;rw[hn,Bool.false_and] at h;cases h)]
       exact wpAny_pure hQ))
noncomputable def JJ (K:Ja)(a:Addr):It:=
 ⟨fun i H=>cj fun xs x=>aG K H a xs/\xs[i]? = some x,fun i H x H'=>H'=H/\∀xs,aG K H a xs->xs[i]? = some x,fun i H=>∃xs,aG K H a xs/\xs.length<=i⟩
noncomputable def DM (lo:Int)(n:Nat):It:=⟨fun i _=>i<n,fun i H x H'=>H'=H/\x = .int (lo+i),fun i _=>n<=i⟩
theorem wK {P:Program}{w:World}{K:Ja}{tg:Expr}(a it:Addr):Turn P w K tg (JJ K a) [it] it (fun i h=>h.IsListIter it a i) where
 mem:=by simp
 obj:=fun i h st b hb=>by
  have e:b=it:=by simpa using hb
  subst e
  obtain⟨o,e,c,d⟩:=st
  exact⟨o,e,fun v z=>by rw[d] at z;cases z⟩
 keep:=fun i h h' st k=>st.at fun o e=>k it (by simp) o e
 item:=by
  intro X hP hw hK hc i pins s σ H E I hf st hg
  subst hP hw hK
  obtain⟨xs,x,hq,hx⟩:=hg
  obtain⟨aw,rv,p,hz⟩:=I.list hq
  obtain⟨u,hu,ru⟩:=rv.get hx
  obtain⟨f0,f1,f2,f3,f4,f5⟩:=hf it (by simp)
  refine wpAny_pyNext_list_item st p.isList (x:=u) (by simpa using hu) fun h' aD sb =>?_
  have I1:Inv X pins σ H { s with heap:=h' }:=I.turned (t':=s.toks) (fun b o hb e=>(sb.2 b hb).trans e) f0 f1 f3 f4 f5
  obtain⟨o,e,c,d⟩:=id aD
  exact⟨u,rfl,CH (s:={ s with heap:=h' }) e c d (by decide) ⟨x,H,I1,ru,⟨rfl,fun ys hy=>by rw[I.yD hy hq];exact hx⟩,aD,fun b hb=>(hf b hb).1⟩⟩
 done:=by
  intro X hP hw hK hc i pins s σ H E I hf st hg
  subst hP hw hK
  obtain⟨xs,hq,hx⟩:=hg
  obtain⟨aw,rv,p,hz⟩:=I.list hq
  obtain⟨f0,f1,f2,f3,f4,f5⟩:=hf it (by simp)
  have hl:=rv.length
  exact wpAny_pyNext_list_end (I.ok.hd hc) st p.isList (by simp; (first|lia|omega)) fun h' eb=>⟨rfl,I.turned (t':=s.toks) (fun b o hb e=>eb b o hb e) f0 f1 f3 f4 f5⟩
 self:=fun _ _ _ _ _ st h=>wpAny_pyIter_listiter st h
theorem rP {P:Program}{w:World}{K:Ja}{tg:Expr}(it:Addr)(lo:Int)(n:Nat):Turn P w K tg (DM lo n) [it] it (fun i h=>IsRangeIter h it (lo+(i:Nat)*1) ((n:Int)-(i:Nat)) 1) where
 mem:=by simp
 obj:=fun i h st b hb=>by
  have e:b=it:=by simpa using hb
  subst e
  exact⟨_,st,fun v z=>by
   have z':Data.fields _=Data.cell v:=z
   cases z'⟩
 keep:=fun i h h' st k=>k it (by simp) _ st
 item:=by
  intro X hP hw hK hc i pins s σ H E I hf st hg
  subst hP hw hK
  obtain⟨f0,f1,f2,f3,f4,f5⟩:=hf it (by simp)
  have W:=Walks.range (prog:=X.prog) (w:=X.w) (I.ok.hd hc) it lo 1 n
  refine W.item i s _ _ hg st fun v h' tk hv aD kk =>?_
  obtain⟨t,rfl⟩:=hv
  have I1:Inv X pins σ H { s with heap:=h',toks:=tk }:=I.turned (fun b o hb e=>kk b o (by simpa using hb) e) f0 f1 f3 f4 f5
  refine⟨_,rfl,CH (s:={ s with heap:=h',toks:=tk }) (n := "range_iterator") aD rfl rfl (by decide) ⟨.int (lo+i),H,I1,⟨t,?_⟩,⟨rfl,rfl⟩,aD,fun b hb=>(hf b hb).1⟩⟩
  rw[Int.mul_one]
 done:=by
  intro X hP hw hK hc i pins s σ H E I hf st hg
  subst hP hw hK
  obtain⟨f0,f1,f2,f3,f4,f5⟩:=hf it (by simp)
  exact wpAny_pyNext_range_end (I.ok.hd hc) st (by have:n<=i:=hg; (first|lia|omega)) fun h' eb=>⟨rfl,I.turned (t':=s.toks) (fun b o hb e=>eb b o hb e) f0 f1 f3 f4 f5⟩
 self:=fun _ _ _ _ _ st h=>wpAny_pyIter_rangeiter st h
section
variable {X:Cx}{tg:Expr}
noncomputable def uc (K:Ja)(tl:TE):TI:=fun σ H R=>tl σ H fun x H1=>∃a,x = .ref a/\(∃xs,aG K H1 a xs)/\R (JJ K a) H1
theorem AR {l:Expr}{tl:TE}(hl:PE X l tl):PI X tg l (uc X.K tl):=by
 intro pins s σ H R I h
 refine aQ (hl s σ H _ I h) fun v s1 hz_ =>?_
 refine ae.el hz_ _ ?_
 clear hz_
 rintro x H1 I1 r1 q1
 obtain⟨a,e,⟨xs,hq⟩,q⟩:=q1
 subst e
 cases r1
 obtain⟨aw,rv,p,hz⟩:=I1.list hq
 refine wpAny_pyIter_list p.isList ?_
 refine⟨s1.heap.objs.size,[s1.heap.objs.size],_,_,H1,rfl,I1.kept (t':=s1.toks) fun b o e=>Jd _ e,wK a _,⟨_,Jy _ rfl,rfl,rfl⟩,fun b hb =>?_,q⟩
 have e:b=s1.heap.objs.size:=by simpa using hb
 subst e
 exact I1.kr (Jc _) (I1.aV.fresh (Jc _))
theorem qd {pins:List (Addr×Obj)}{σ:St}{H:Hp}{s:Shared}{R:It->Hp->Prop}{E:Value->Shared->Prop}{lo hi:Int}{t u v:Tok}{tk:Nat}(I:Inv X pins σ H s)(h1: -(2^62)<=lo)(h2:lo<2^62)(h3: -(2^62)<=hi)(h4:hi<2^62)
  (q:R (DM lo (hi-lo).toNat) H):wpAny (model X.prog X.w) X.A (pyIter (.ref s.heap.objs.size)) (Ox X pins σ tg R) E { s with heap:=s.heap.push { cls := .type "range",data := .fields #[.int lo t,.int hi u,.int 1 v] },toks:=tk }:=by
 refine wpAny_pyIter_range (IsRange.new ..) (small_one h1 h2 h3 h4) ?_
 have I1:Inv X pins σ H { s with heap:=s.heap.push { cls := .type "range",data := .fields #[.int lo t,.int hi u,.int 1 v] },toks:=tk }:=I.kept fun b o e=>Jd _ e
 refine⟨(s.heap.push { cls := .type "range",data := .fields #[.int lo t,.int hi u,.int 1 v] }).objs.size,[(s.heap.push { cls := .type "range",data := .fields #[.int lo t,.int hi u,.int 1 v] }).objs.size],_,_,H,rfl,
  I1.kept (t':=tk) fun b o e=>Jd _ e,rP _ lo (hi-lo).toNat,?_,fun b hb =>?_,q⟩
 ·have e1:lo+((0:Nat):Int)*1=lo:=by simp
  have e2:(((hi-lo).toNat:Nat):Int)-((0:Nat):Int)=Builtin.Range.rangeSize lo hi 1:=by rw[rangeSize_one];split<;>(first|lia|omega)
  show IsRangeIter _ _ (lo+((0:Nat):Int)*1) ((((hi-lo).toNat:Nat):Int)-((0:Nat):Int)) 1
  rw[e1,e2]
  exact Jy _ rfl
 ·have e:b=(s.heap.push { cls := .type "range",data := .fields #[.int lo t,.int hi u,.int 1 v] }).objs.size:=by simpa using hb
  subst e
  exact I1.kr (Jc _) (I1.aV.fresh (Jc _))
noncomputable def Cu (ta:TA):TI:=fun σ H R=>ta σ H fun vs H1=>∃j:Int,vs=[.int j] /\ -(2^62)<=j/\j<2^62/\R (DM 0 j.toNat) H1
noncomputable def IM (ta:TA):TI:=fun σ H R=>ta σ H fun vs H1=>∃i j:Int,vs=[.int i,.int j]/\(-(2^62)<=i/\i<2^62 /\ -(2^62)<=j/\j<2^62)/\R (DM i (j-i).toNat) H1
theorem cG {a:Expr}{ta:TA}{p pos:Pos}(hg:Gl X "range")(hm:X.mg "range" = none)(ha:PA X [a] ta)(hs:starEach [a] X.env=[(false,eval a X.env)]:=by rfl):PI X tg (.Call (.Name "range" p) [a] [] pos) (Cu ta):=by
 intro pins s σ H R I h
 refine Call_ (gI I hg hm boot_range (PyProof.Rows.callWith_type1 (aQ (ha s σ H _ I h) fun us s1 hz_=>ae.el hz_ _ fun vs H1 I1 r1 q1 =>?_) hs rfl))
 obtain⟨j,e,q1,q2,q⟩:=q1
 subst e
 cases r1 with
 | cons r rr=>
  cases rr
  obtain⟨t,rfl⟩:=r
  exact call_range_1 (qd I1 (by first|lia|omega) (by first|lia|omega) q1 q2 (by simpa using q))
theorem uW {a b:Expr}{ta:TA}{p pos:Pos}(hg:Gl X "range")(hm:X.mg "range" = none)(ha:PA X [a,b] ta)(hs:starEach [a,b] X.env=[(false,eval a X.env),(false,eval b X.env)]:=by rfl)(AJ:starEach [b] X.env=[(false,eval b X.env)]:=by rfl):
  PI X tg (.Call (.Name "range" p) [a,b] [] pos) (IM ta):=by
 intro pins s σ H R I h
 refine Call_ (gI I hg hm boot_range (PyProof.Rows.callWith_type1 (aQ (ha s σ H _ I h) fun us s1 hz_=>ae.el hz_ _ fun vs H1 I1 r1 q1 =>?_) (by rw[hs,AJ]) (by rw[AJ];rfl)))
 obtain⟨i,j,e,⟨q1,q2,q3,q4⟩,q⟩:=q1
 subst e
 cases r1 with
 | cons r rr=>
  cases rr with
  | cons r' rr=>
   cases rr
   obtain⟨t,rfl⟩:=r
   obtain⟨t',rfl⟩:=r'
   exact call_range_2 (qd I1 q1 q2 q3 q4 q)
noncomputable def vE (wi:TI)(g:TG)(tb:TS):TS:=fun D σ H=>wi σ H fun J H1=>∃W:Nat->Nat->St->Hp->Prop,(∃m,W 0 m σ H1)/\∀i m σ H,W i m σ H ->
 (J.stop i H/\D.nx σ H)∨(J.go i H/\∃N:St->Hp->Prop,(∀ σ' H',N σ' H'->∃m',m'<m/\W (i+1) m' σ' H')/\∀x H',J.yld i H x H'->g x σ H' fun σ2 H2=>tb { D with nx:=N,ct:=N,bk:=D.nx } σ2 H2)
noncomputable def dQ (fp:List Addr)(h:Heap):List (Addr×Obj):=fp.filterMap fun b=>(h.get? b).map fun o=>(b,o)
theorem bP {fp:List Addr}{h:Heap}{b:Addr}{o:Obj}(hb:b∈fp)(e:h.get? b=some o):(b,o)∈dQ fp h:=List.mem_filterMap.mpr ⟨b,hb,by rw[e];rfl⟩
theorem mP {fp:List Addr}{h:Heap}{p:Addr×Obj}(hp:p∈dQ fp h):p.1∈fp/\h.get? p.1=some p.2:=by
 obtain⟨b,hb,e⟩:=List.mem_filterMap.mp hp
 cases q:h.get? b with
 | none=>rw[q] at e;cases e
 | some o=>
  rw[q] at e
  have e':(b,o)=p:=Option.some.inj e
  subst e'
  exact⟨hb,q⟩
theorem Inv.pinned {pins:List (Addr×Obj)}{σ:St}{H:Hp}{s:Shared}{fp:List Addr}(I:Inv X pins σ H s)(hf:∀b∈fp,dZ X pins H b)(ho:∀b∈fp,∃o,s.heap.get? b=some o/\∀v,o.data ≠ .cell v):Inv X (pins++dQ fp s.heap) σ H s:=
 I.j5 fun p hp=>(Jq.mp hp).elim (fun z=>I.pin p (Jr _ z)) fun z=>by
  obtain⟨hb,e⟩:=mP z
  obtain⟨f0,f1,f2,_⟩:=hf p.1 hb
  obtain⟨o,e',d⟩:=ho p.1 hb
  rw[e] at e';cases e'
  exact⟨e,f0,f1,f2,d⟩
theorem Inv.cU {pins pl:List (Addr×Obj)}{σ:St}{H:Hp}{s:Shared}(I:Inv X (pins++pl) σ H s):Inv X pins σ H s:=I.j5 fun p hp=>I.pin p (Jr _ (Ym _ hp))
theorem gh {iter:Expr}{body:List Stmt}{wi:TI}{g:TG}{tb:TS}{pos:Pos}(hp:PassesOwn (model X.prog X.w) X.A X.env X.xe)(hc:X.calm=true)(hi:PI X tg iter wi)(hg:PG X tg g)(hb:rF X body tb)
  (hs:∀x,foldedSetIterable iter X.env x=pure x:=by intro _;rfl):PS X (.For tg iter body [] pos) (vE wi g tb):=by
 intro pins s σ H D I h
 refine wpAny_For (aQ (hi s σ H _ I h) fun v s1 h1=>aQ h1 fun Fq s2 h2 =>?_) hs
 obtain⟨it,fp,tn,J,H2,e,I2,T,aW,f2,W,⟨m0,w0⟩,turn⟩:=h2
 subst e
 have fO:∀{H':Hp},(∀b∈fp,H' b=none)->∀b∈fp,dZ X pins H' b:=fun hn b hb=>⟨hn b hb,(f2 b hb).2⟩
 refine codeAny_forLoop_any (fun n s'=>∃i σ' H',Inv X pins σ' H' s'/\tn i s'.heap/\(∀b∈fp,H' b=none)/\W i n σ' H') ?_ m0 ⟨0,σ,H2,I2,aW,fun b hb=>(f2 b hb).1,w0⟩
 rintro n s3 ⟨i,σ3,H3,I3,cp,fr3,w3⟩
 rcases turn i n σ3 H3 w3 with ⟨stop,qn⟩|⟨go,N,hN,step⟩
 ·refine wpAny_passesOwn hp (aQ (T.done X rfl rfl rfl hc i pins s3 σ3 H3 X.xe I3 (fO fr3) cp stop) fun r s4 hz_ =>?_)
  refine ae.el hz_ _ ?_
  clear hz_
  rintro hr I4
  subst hr
  exact wpAny_execs_nil ⟨σ3,H3,I4,qn⟩
 ·refine wpAny_passesOwn hp (aQ (T.item X rfl rfl rfl hc i pins s3 σ3 H3 X.xe I3 (fO fr3) cp go) fun r s4 hz_ =>?_)
  refine ae.el hz_ _ ?_
  clear hz_
  rintro u hr h4
  subst hr
  refine wpAny_passesOwn hp (aQ h4 fun _ s5 hz_=>ae.el hz_ _ fun x H5 I5 r5 y5 cC fr5 =>?_)
  have A8:=I5.pinned (fO fr5) (T.obj _ _ cC)
  refine wpAny_passesOwn hp (aQ (hg s5 σ3 H5 x u _ A8 r5 (step x H5 y5)) fun _ s6 hz_ =>?_)
  refine ae.el hz_ _ ?_
  clear hz_
  rintro σ6 H6 I6 q6
  refine wpAny_passesOwn hp (aQ (hb s6 σ6 H6 _ I6 q6) fun f s7 q7 =>?_)
  have again:∀{σ7:St} {H7:Hp},Inv X (pins++dQ fp s5.heap) σ7 H7 s7->N σ7 H7->∃m,m<n/\∃i σ' H',Inv X pins σ' H' s7/\tn i s7.heap/\(∀b∈fp,H' b=none)/\W i m σ' H':=fun{σ7 H7} I7 n7=>by
   obtain⟨m',hm,w7⟩:=hN σ7 H7 n7
   refine⟨m',hm,i+1,σ7,H7,I7.cU,T.keep _ _ _ cC fun b hb o e=>(I7.pin (b,o) (Jr _ (Jr _ (bP hb e)))).1,fun b hb =>?_,w7⟩
   obtain⟨o,e,d⟩:=T.obj _ _ cC b hb
   exact(I7.pin (b,o) (Jr _ (Jr _ (bP hb e)))).2.1
  cases f with
  | next=>obtain⟨σ7,H7,I7,n7⟩:=q7;exact again I7 n7
  | cont=>obtain⟨σ7,H7,I7,n7⟩:=q7;exact again I7 n7
  | brk=>obtain⟨σ7,H7,I7,q7⟩:=q7;exact⟨σ7,H7,I7.cU,q7⟩
  | ret v=>obtain⟨x7,σ7,H7,I7,r7,q7⟩:=q7;exact⟨x7,σ7,H7,I7.cU,r7,q7⟩
end
theorem jK {lo:Int}{n:Nat}{g:TG}{tb:TS}{D:Ends}{σ:St}{H:Hp}(Pv:Nat->St->Hp->Prop)(h0:Pv 0 σ H)
  (hs:∀i σ H,i<n->Pv i σ H->g (.int (lo+i)) σ H fun σ2 H2=>tb { D with nx:=Pv (i+1),ct:=Pv (i+1),bk:=D.nx } σ2 H2) (hd:∀ σ H,Pv n σ H->D.nx σ H) :
  ∃W:Nat->Nat->St->Hp->Prop,(∃m,W 0 m σ H)/\∀i m σ H,W i m σ H ->
   ((DM lo n).stop i H/\D.nx σ H)∨((DM lo n).go i H/\∃N:St->Hp->Prop,(∀ σ' H',N σ' H'->∃m',m'<m/\W (i+1) m' σ' H')/\∀x H',(DM lo n).yld i H x H'->g x σ H' fun σ2 H2=>tb { D with nx:=N,ct:=N,bk:=D.nx } σ2 H2):=by
 refine⟨fun i m σ H=>m=n-i/\i<=n/\Pv i σ H,⟨n,by simp,Us _,h0⟩,?_⟩
 rintro i m σ H ⟨rfl,hi,p⟩
 by_cases cF:i<n
 ·refine .inr ⟨cF,Pv (i+1),fun σ' H' p'=>⟨n-(i+1),by first|lia|omega,rfl,cF,p'⟩,fun x H' y =>?_⟩
  obtain⟨e,y⟩:=y
  subst e y
  exact hs i σ _ cF p
 ·have e:i=n:=by (first|lia|omega)
  subst e
  exact .inl ⟨Jc _,hd σ H p⟩
noncomputable abbrev R2:=V->V->Hp->VK->Prop
noncomputable def dM (X:Cx)(f:Value->Value->Sem Value)(r:R2):Prop:=
 ∀ ⦃pins:List (Addr×Obj)⦄ (s:Shared) (σ:St) (H:Hp) (x y:V) (v u:Value) (Q:VK),Inv X pins σ H s->RelV x v->RelV y u->r x y H Q ->
  wpAny (model X.prog X.w) X.A (f v u) (EP X pins σ Q) X.xe s
noncomputable def LJ (X:Cx)(f:Value->Sem Value)(r:V->Hp->VK->Prop):Prop:=
 ∀ ⦃pins:List (Addr×Obj)⦄ (s:Shared) (σ:St) (H:Hp) (x:V) (v:Value) (Q:VK),Inv X pins σ H s->RelV x v->r x H Q ->
  wpAny (model X.prog X.w) X.A (f v) (EP X pins σ Q) X.xe s
noncomputable def bZ (X:Cx)(f:Value)(r:List V->Hp->VK->Prop):Prop:=
 ∀ ⦃pins:List (Addr×Obj)⦄ (s:Shared) (σ:St) (H:Hp) (xs:List V) (us:List Value) (Q:VK),Inv X pins σ H s->Vals xs us->r xs H Q ->
  wpAny (model X.prog X.w) X.A (call f us) (EP X pins σ Q) X.xe s
noncomputable def M1 (X:Cx)(r:V->Hp->(Bool->Hp->Prop)->Prop):Prop:=
 ∀ ⦃pins:List (Addr×Obj)⦄ (s:Shared) (σ:St) (H:Hp) (x:V) (v:Value) (Q:Bool->Hp->Prop),Inv X pins σ H s->RelV x v->r x H Q ->
  wpAny (model X.prog X.w) X.A (truthy v) (TP X pins σ Q) X.xe s
noncomputable def zZ (r:R2)(ta tb:TE):TE:=fun σ H Q=>ta σ H fun x H1=>tb σ H1 fun y H2=>r x y H2 Q
noncomputable def NP (r:V->Hp->VK->Prop)(ta:TE):TE:=fun σ H Q=>ta σ H fun x H1=>r x H1 Q
noncomputable def rI (C:Int->Int->Prop)(g:Int->Int->V):R2:=fun x y H Q=>cj fun i j=>x = .int i/\y = .int j/\C i j/\Q (g i j) H
noncomputable def DC (g:Int->Int->V):R2:=fun x y H Q=>cj fun i j=>x = .int i/\y = .int j/\Q (g i j) H
noncomputable def rU (g:Int->V):V->Hp->VK->Prop:=fun x H Q=>∃i,x = .int i/\Q (g i) H
section
variable {X:Cx}{a b c:Expr}{ta tb tc:TE}{pos:Pos}
theorem E7 (ha:PE X a ta)(hb:PE X b tb){pins:List (Addr×Obj)}{s:Shared}{σ:St}{H:Hp}{R:V->V->Hp->Prop}(I:Inv X pins σ H s)
  (h:ta σ H fun x H1=>tb σ H1 fun y H2=>R x y H2) {Q:Value->Shared->Prop} {f:Value->Value->Sem Value}
  (hf:∀v u s2 x y H2,Inv X pins σ H2 s2->RelV x v->RelV y u->R x y H2->wpAny (model X.prog X.w) X.A (f v u) Q X.xe s2) :
  wpAny (model X.prog X.w) X.A (eval a X.env) (fun v s₁=>wpAny (model X.prog X.w) X.A (eval b X.env) (fun u s₂=>wpAny (model X.prog X.w) X.A (f v u) Q X.xe s₂) X.xe s₁) X.xe s:=by
 refine aQ (ha s σ H _ I h) fun v s1 hz_ =>?_
 refine ae.el hz_ _ ?_
 clear hz_
 rintro x H1 I1 r1 q1
 refine aQ (hb s1 σ H1 _ I1 q1) fun u s2 hz_ =>?_
 refine ae.el hz_ _ ?_
 clear hz_
 rintro y H2 I2 r2 q2
 exact hf v u s2 x y H2 I2 r1 r2 q2
theorem aF {op:Operator}{r:R2}(ho:dM X (binaryOp op) r)(ha:PE X a ta)(hb:PE X b tb):PE X (.BinOp a op b pos) (zZ r ta tb):=by
 intro pins s σ H Q I h
 exact wpAny_BinOp (E7 ha hb I h fun v u s2 x y H2 I2 rx ry q=>ho s2 σ H2 x y v u Q I2 rx ry q)
theorem FT {op:UnaryOp}{r:V->Hp->VK->Prop}(ho:LJ X (unaryOp op) r)(ha:PE X a ta):PE X (.UnaryOp op a pos) (NP r ta):=by
 intro pins s σ H Q I h
 exact UnaryOp_ (aQ (ha s σ H _ I h) fun v s1 hz_=>ae.el hz_ _ fun x H1 I1 r1 q1=>ho s1 σ H1 x v Q I1 r1 q1)
theorem JE {f:Value->Value->Sem Value}{C:Int->Int->Prop}{g:Int->Int->Int}
  (rule:∀(i j:Int) (t u:Tok) (s:Shared) (Q:Value->Shared->Prop) (E:Value->Shared->Prop),C i j->Q (.int (g i j) s.toks) { s with toks:=s.toks+1 } -> wpAny (model X.prog X.w) X.A (f (.int i t) (.int j u)) Q E s) :
  dM X f (rI C fun i j =>.int (g i j)):=by
 intro pins s σ H x y v u Q I rx ry h
 obtain⟨i,j,rfl,rfl,hc,q⟩:=h
 obtain⟨t,rfl⟩:=rx
 obtain⟨t',rfl⟩:=ry
 exact rule i j t t' s _ _ hc ⟨.int (g i j),H,I.tok _,⟨_,rfl⟩,q⟩
theorem GB {f:Value->Value->Sem Value}{g:Int->Int->Int}
  (rule:∀(i j:Int) (t u:Tok) (s:Shared) (Q:Value->Shared->Prop) (E:Value->Shared->Prop),Q (.int (g i j) s.toks) { s with toks:=s.toks+1 } -> wpAny (model X.prog X.w) X.A (f (.int i t) (.int j u)) Q E s) :
  dM X f (DC fun i j =>.int (g i j)):=by
 intro pins s σ H x y v u Q I rx ry h
 obtain⟨i,j,rfl,rfl,q⟩:=h
 obtain⟨t,rfl⟩:=rx
 obtain⟨t',rfl⟩:=ry
 exact rule i j t t' s _ _ ⟨.int (g i j),H,I.tok _,⟨_,rfl⟩,q⟩
theorem DN {f:Value->Value->Sem Value}{g:Int->Int->Bool}
  (rule:∀(i j:Int) (t u:Tok) (s:Shared) (Q:Value->Shared->Prop) (E:Value->Shared->Prop),Q (.bool (g i j)) s->wpAny (model X.prog X.w) X.A (f (.int i t) (.int j u)) Q E s) :
  dM X f (DC fun i j =>.bl (g i j)):=by
 intro pins s σ H x y v u Q I rx ry h
 obtain⟨i,j,rfl,rfl,q⟩:=h
 obtain⟨t,rfl⟩:=rx
 obtain⟨t',rfl⟩:=ry
 exact rule i j t t' s _ _ ⟨.bl (g i j),H,I,rfl,q⟩
noncomputable def CQ (i j:Int):Prop:=0<j/\j<1073741824
noncomputable def Lo (i j:Int):Prop:=0<=j/\j<=1000000/\i.natAbs<2^64
noncomputable def sI (i j:Int):Prop:=(-(2^64)<i/\i<2^64)∨(-(2^64)<j/\j<2^64)
theorem sI.ok {i j:Int}(h:sI i j):IntMulOk i j:=by
 rcases h with ⟨h1,h2⟩|⟨h1,h2⟩
 ·exact .of_left (intBits_le_64 h1 h2)
 ·exact .of_right (intBits_le_64 h1 h2)
theorem EM:dM X (binaryOp .Add) (DC fun i j =>.int (i+j)):=GB fun _ _ _ _ _ _ _ q=>add_int q
theorem rX:dM X (binaryOp .Sub) (DC fun i j =>.int (i-j)):=GB fun _ _ _ _ _ _ _ q=>sub_int q
theorem C8:dM X (binaryOp .Mult) (rI sI fun i j =>.int (i*j)):=JE fun _ _ _ _ _ _ _ hc q=>mul_int q hc.ok
theorem BA:dM X (binaryOp .FloorDiv) (rI CQ fun i j =>.int (i / j)):=JE fun i j _ _ _ _ _ hc q=>by
 have h1:(0:Int)<j:=hc.1
 have h2:j<1073741824:=hc.2
 exact floordiv_int (by first|lia|omega) (by rw[Int.fdiv_eq_ediv_of_nonneg i (by first|lia|omega)];exact q) (.inl (PyProof.noPylong_small (by first|lia|omega)))
theorem fz:dM X (binaryOp .Mod) (rI (fun _ j=>0<j) fun i j =>.int (i%j)):=JE fun i j _ _ _ _ _ hc q=>by
 have h1:(0:Int)<j:=hc
 exact mod_int' (by first|lia|omega) (by rw[Int.fmod_eq_emod_of_nonneg i (by first|lia|omega)];exact q)
theorem DX:dM X (binaryOp .Pow) (rI Lo fun i j =>.int (i^j.toNat)):=JE fun _ _ _ _ _ _ _ hc q=>pow_int_small hc.1 hc.2.1 hc.2.2 q
theorem Q4 {f:Value->Sem Value}{g:Int->Int}
  (rule:∀(i:Int) (t:Tok) (s:Shared) (Q:Value->Shared->Prop) (E:Value->Shared->Prop),Q (.int (g i) s.toks) { s with toks:=s.toks+1 } -> wpAny (model X.prog X.w) X.A (f (.int i t)) Q E s) :
  LJ X f (rU fun i =>.int (g i)):=by
 intro pins s σ H x v Q I rx h
 obtain⟨i,rfl,q⟩:=h
 obtain⟨t,rfl⟩:=rx
 exact rule i t s _ _ ⟨.int (g i),H,I.tok _,⟨_,rfl⟩,q⟩
theorem Dr:LJ X (unaryOp .USub) (rU fun i =>.int (-i)):=Q4 fun _ _ _ _ _ q=>neg_int q
end
noncomputable def G7:V->V->Bool
 | .non,.non=>true | .non,.int _=>true | .int _,.non=>true | .non,.bl _=>true | .bl _,.non=>true | .non,.str _=>true | .str _,.non=>true
 | .int _,.int _=>true | .bl _,.bl _=>true | .str _,.str _=>true | .byt _,.byt _=>true
 | .int _,.str _=>true | .str _,.int _=>true | .bl _,.str _=>true | .str _,.bl _=>true
 | _,_=>false
noncomputable def Kv:R2:=fun x y H Q=>G7 x y=true/\Q (.bl (decide (x=y))) H
noncomputable def Lw:R2:=fun x y H Q=>G7 x y=true/\Q (.bl (!decide (x=y))) H
theorem uv {i j:Int}:decide (V.int i=V.int j)=(i==j):=by
 rw[Bool.eq_iff_iff]
 simp
theorem y9 {i j:Bool}:decide (V.bl i=V.bl j)=(i==j):=by
 rw[Bool.eq_iff_iff]
 simp
theorem uL {i j:Str}:decide (V.str i=V.str j)=(i==j):=by
 rw[Bool.eq_iff_iff]
 simp
theorem uD {i j:Array UInt8}:decide (V.byt i=V.byt j)=(i.toList==j.toList):=by
 rw[Bool.eq_iff_iff]
 cases i
 cases j
 simp
section
variable {X:Cx}{a b c:Expr}{ta tb tc:TE}{pos:Pos}
theorem aU {pins:List (Addr×Obj)}{σ:St}{H:Hp}{s:Shared}{Q:VK}{k k':Bool}(I:Inv X pins σ H s)(q:Q (.bl k) H)(e:k=k'):EP X pins σ Q (.bool k') s:=by
 subst e
 exact⟨.bl k,H,I,rfl,q⟩
theorem GF:dM X (compareOp .Eq) Kv:=by
 intro pins s σ H x y v u Q I rx ry h
 obtain⟨hs,q⟩:=h
 cases x with
 | non=>
  cases rx
  cases y with
  | non=>cases ry;exact PySem.EqNone.eq_none_none (aU I q (by simp))
  | bl j=>cases ry;exact PySem.EqNone.eq_none_bool (aU I q (by simp))
  | int j=>obtain⟨t',rfl⟩:=ry;exact PySem.EqNone.eq_none_int (aU I q (by simp))
  | str j=>obtain⟨t',rfl⟩:=ry;exact PySem.EqNone.eq_none_str (aU I q (by simp))
  | _=>exact absurd (show false=true from hs) Jo
 | bl i=>
  cases rx
  cases y with
  | non=>cases ry;exact PySem.EqNone.eq_bool_none (aU I q (by simp))
  | bl j=>cases ry;exact eq_bool (aU I q y9)
  | str j=>obtain⟨t',rfl⟩:=ry;exact PySem.EqMixed.eq_bool_str (aU I q (by simp))
  | _=>exact absurd (show false=true from hs) Jo
 | int i=>
  obtain⟨t,rfl⟩:=rx
  cases y with
  | non=>cases ry;exact PySem.EqNone.eq_int_none (aU I q (by simp))
  | int j=>obtain⟨t',rfl⟩:=ry;exact eq_int (aU I q uv)
  | str j=>obtain⟨t',rfl⟩:=ry;exact PySem.EqMixed.eq_int_str (aU I q (by simp))
  | _=>exact absurd (show false=true from hs) Jo
 | str i=>
  obtain⟨t,rfl⟩:=rx
  cases y with
  | non=>cases ry;exact PySem.EqNone.eq_str_none (aU I q (by simp))
  | bl j=>cases ry;exact PySem.EqMixed.eq_str_bool (aU I q (by simp))
  | int j=>obtain⟨t',rfl⟩:=ry;exact PySem.EqMixed.eq_str_int (aU I q (by simp))
  | str j=>obtain⟨t',rfl⟩:=ry;exact eq_str (aU I q uL)
  | _=>exact absurd (show false=true from hs) Jo
 | byt i=>
  obtain⟨t,rfl⟩:=rx
  cases y with
  | byt j=>obtain⟨t',rfl⟩:=ry;exact PySem.W.eq_bytes (aU I q uD)
  | _=>exact absurd (show false=true from hs) Jo
 | _=>cases y<;>exact absurd (show false=true from hs) Jo
theorem GU:dM X (compareOp .NotEq) Lw:=by
 intro pins s σ H x y v u Q I rx ry h
 obtain⟨hs,q⟩:=h
 cases x with
 | non=>
  cases rx
  cases y with
  | non=>cases ry;exact PySem.EqNone.ne_none_none (aU I q (by simp))
  | bl j=>cases ry;exact PySem.EqNone.ne_none_bool (aU I q (by simp))
  | int j=>obtain⟨t',rfl⟩:=ry;exact PySem.EqNone.ne_none_int (aU I q (by simp))
  | str j=>obtain⟨t',rfl⟩:=ry;exact PySem.EqNone.ne_none_str (aU I q (by simp))
  | _=>exact absurd (show false=true from hs) Jo
 | bl i=>
  cases rx
  cases y with
  | non=>cases ry;exact PySem.EqNone.ne_bool_none (aU I q (by simp))
  | bl j=>cases ry;exact ne_bool (aU I q (congrArg not y9))
  | str j=>obtain⟨t',rfl⟩:=ry;exact PySem.EqMixed.ne_bool_str (aU I q (by simp))
  | _=>exact absurd (show false=true from hs) Jo
 | int i=>
  obtain⟨t,rfl⟩:=rx
  cases y with
  | non=>cases ry;exact PySem.EqNone.ne_int_none (aU I q (by simp))
  | int j=>obtain⟨t',rfl⟩:=ry;exact ne_int (aU I q (congrArg not uv))
  | str j=>obtain⟨t',rfl⟩:=ry;exact PySem.EqMixed.ne_int_str (aU I q (by simp))
  | _=>exact absurd (show false=true from hs) Jo
 | str i=>
  obtain⟨t,rfl⟩:=rx
  cases y with
  | non=>cases ry;exact PySem.EqNone.ne_str_none (aU I q (by simp))
  | bl j=>cases ry;exact PySem.EqMixed.ne_str_bool (aU I q (by simp))
  | int j=>obtain⟨t',rfl⟩:=ry;exact PySem.EqMixed.ne_str_int (aU I q (by simp))
  | str j=>obtain⟨t',rfl⟩:=ry;exact ne_str (aU I q (congrArg not uL))
  | _=>exact absurd (show false=true from hs) Jo
 | byt i=>
  obtain⟨t,rfl⟩:=rx
  cases y with
  | byt j=>obtain⟨t',rfl⟩:=ry;exact PySem.W.ne_bytes (aU I q (congrArg not uD))
  | _=>exact absurd (show false=true from hs) Jo
 | _=>cases y<;>exact absurd (show false=true from hs) Jo
theorem iK:dM X (compareOp .Lt) (DC fun i j =>.bl (decide (i<j))):=DN fun _ _ _ _ _ _ _ q=>lt_int q
theorem HG:dM X (compareOp .LtE) (DC fun i j =>.bl (decide (i<=j))):=DN fun _ _ _ _ _ _ _ q=>le_int q
theorem HB:dM X (compareOp .GtE) (DC fun i j =>.bl (decide (j<=i))):=DN fun _ _ _ _ _ _ _ q=>ge_int q
theorem D9:dM X (compareOp .Is) (fun x y H Q=>y = .non/\Q (.bl (decide (x = .non))) H):=by
 intro pins s σ H x y v u Q I rx ry h
 obtain⟨rfl,q⟩:=h
 cases ry
 refine is_none_gen (aU I q ?_)
 cases x<;>first
  | (cases rx;rfl)
  | (obtain⟨t,rfl⟩:=rx;rfl)
theorem Ar:dM X (compareOp .IsNot) (fun x y H Q=>y = .non/\Q (.bl (!decide (x = .non))) H):=by
 intro pins s σ H x y v u Q I rx ry h
 obtain⟨rfl,q⟩:=h
 cases ry
 refine isnot_none_gen (aU I q ?_)
 cases x<;>first
  | (cases rx;rfl)
  | (obtain⟨t,rfl⟩:=rx;rfl)
theorem dM.or {f:Value->Value->Sem Value}{r r':R2}(h:dM X f r)(h':dM X f r'):dM X f (fun x y H Q=>r x y H Q∨r' x y H Q):=by
 intro pins s σ H x y v u Q I rx ry q
 rcases q with q|q
 ·exact h s σ H x y v u Q I rx ry q
 ·exact h' s σ H x y v u Q I rx ry q
theorem aY (b:Expr){op:CmpOp}(h:op ≠ .In:=by decide)(h2:op ≠ .NotIn:=by decide):behindInMarks op b=false:=by
 have e1:(op==CmpOp.In)=false:=by cases op<;>first|rfl|exact absurd rfl h
 have e2:(op==CmpOp.NotIn)=false:=by cases op<;>first|rfl|exact absurd rfl h2
 cases b<;>simp[behindInMarks,e1,e2]
theorem A2 {op:CmpOp}{r:R2}(ho:dM X (compareOp op) r)(ha:PE X a ta)(hb:PE X b tb)(hm:behindInMarks op b=false):PE X (.Compare a [op] [b] pos) (zZ r ta tb):=by
 intro pins s σ H Q I h
 exact wpAny_Compare1 (E7 ha hb I h fun v u s2 x y H2 I2 rx ry q=>ho s2 σ H2 x y v u Q I2 rx ry q) hm
noncomputable def ze (t:TE):TT:=fun σ H Q=>t σ H fun x H'=>∃k,x = .bl k/\Q k H'
theorem aP {op:CmpOp}{r:R2}(ho:dM X (compareOp op) r)(ha:PE X a ta)(hb:PE X b tb)(hm:behindInMarks op b=false):PT X (.Compare a [op] [b] pos) (ze (zZ r ta tb)):=by
 intro pins s σ H Q I h
 refine wpAny_isTrue_Compare1 (aQ (ha s σ H _ I h) fun v s1 hz_=>ae.el hz_ _ fun x H1 I1 r1 q1=>aQ (hb s1 σ H1 _ I1 q1) fun u s2 ⟨y,H2,I2,r2,q2⟩=>
  aQ (ho s2 σ H2 x y v u _ I2 r1 r2 q2) fun c s3 ⟨z,H3,I3,r3,k,e,q3⟩=>?_) hm
 subst e
 cases r3
 exact wpAny_truthy_bool ⟨H3,I3,q3⟩
noncomputable def Ey (r r':R2)(ta tb tc:TE):TE:=fun σ H Q=>ta σ H fun x H1=>tb σ H1 fun y H2=>r x y H2 fun z H3=>∃k,z = .bl k /\
 (if k=true then tc σ H3 fun w' H4=>r' y w' H4 Q else Q (.bl false) H3)
theorem qf {op L4:CmpOp}{r r':R2}(ho:dM X (compareOp op) r)(sJ:dM X (compareOp L4) r')(ha:PE X a ta)(hb:PE X b tb)(hc:PE X c tc)
  (hm:lastMarks [op,L4] [b,c]=false:=by with_unfolding_all rfl):PT X (.Compare a [op,L4] [b,c] pos) (ze (Ey r r' ta tb tc)):=by
 intro pins s σ H Q I h
 refine isTrue_chain (aQ (ha s σ H _ I h) fun v s1 hz_=>ae.el hz_ _ fun x H1 I1 r1 q1=>test_link (aQ (hb s1 σ H1 _ I1 q1) fun u s2 ⟨y,H2,I2,r2,q2⟩=>
  aQ (ho s2 σ H2 x y v u _ I2 r1 r2 q2) fun d s3 ⟨z,H3,I3,r3,k,e,q3⟩=>?_)) hm
 subst e
 cases r3
 refine wpAny_truthy_bool ?_
 cases k with
 | false=>
  obtain⟨k',e',q'⟩:=q3
  cases e'
  exact ite_ff ⟨H3,I3,q'⟩
 | true=>
  refine ite_tt (test_last (aQ (hc s3 σ H3 _ I3 q3) fun w' s4 hz_=>ae.el hz_ _ fun z' H4 I4 r4 q4=>aQ (sJ s4 σ H4 y z' u w' _ I4 r2 r4 q4) fun d' s5 hz_ =>?_))
  refine ae.el hz_ _ ?_
  clear hz_
  rintro z2 H5 I5 r5 ⟨k2,e2,q5⟩
  subst e2
  cases r5
  exact wpAny_truthy_bool ⟨H5,I5,q5⟩
noncomputable def GJ (K:Ja)(x:V)(H:Hp)(k:Bool):Prop:=
 match x with
 | .non=>k=false
 | .bl b=>k=b
 | .int i=>k=(i != 0)
 | .str y=>y.length<=sizeLine/\k=((y.length:Int) != 0)
 | .byt y=>y.size<=sizeLine/\k=((y.size:Int) != 0)
 | .ref p=>(∃xs,aG K H p xs/\k = !xs.isEmpty)∨(∃xs,d9 K H p xs/\k = !xs.isEmpty)∨∃kvs,H p=some (.dK kvs)/\k = !kvs.isEmpty
 | _=>False
theorem sQ {κ:Type}{kvs:List (κ×V)}{vs:List (κ×Value)}(r:KV kvs vs):(!vs.isEmpty) = !kvs.isEmpty:=by
 cases r<;>rfl
theorem lg {xs:List V}{aw:List Value}(r:Vals xs aw):(!aw.toArray.isEmpty) = !xs.isEmpty:=by
 cases r<;>simp
theorem iC:(sizeLine:Nat)<2^63:=by rw[sizeLine_eq];decide
theorem EH:M1 X (fun x H Q=>∃k,GJ X.K x H k/\Q k H):=by
 intro pins s σ H x v Q I rx h
 obtain⟨k,e,q⟩:=h
 have hl:=iC
 have hs:sizeLine=16777216:=sizeLine_eq
 cases x with
 | non=>
  cases rx
  have e':k=false:=e
  subst e'
  exact truthy_none ⟨H,I,q⟩
 | bl b=>
  cases rx
  have e':k=b:=e
  subst e'
  exact wpAny_truthy_bool ⟨H,I,q⟩
 | int i=>
  obtain⟨t,rfl⟩:=rx
  have e':k=(i != 0):=e
  subst e'
  exact PySem.P.truthy_int ⟨H,I,q⟩
 | str y=>
  obtain⟨t,rfl⟩:=rx
  obtain⟨hy,e'⟩:y.length<=sizeLine/\k=((y.length:Int) != 0):=e
  subst e'
  exact PySem.P.truthy_str (by first|lia|omega) ⟨H,I.tok _,q⟩
 | byt y=>
  obtain⟨t,rfl⟩:=rx
  obtain⟨hy,e'⟩:y.size<=sizeLine/\k=((y.size:Int) != 0):=e
  subst e'
  exact PySem.W.truthy_bytes (by first|lia|omega) ⟨H,I.tok _,q⟩
 | ref p=>
  cases rx
  have e':(∃xs,aG X.K H p xs/\k = !xs.isEmpty)∨(∃xs,d9 X.K H p xs/\k = !xs.isEmpty)∨∃kvs,H p=some (.dK kvs)/\k = !kvs.isEmpty:=e
  rcases e' with ⟨xs,hx,e'⟩|⟨xs,hx,e'⟩|⟨kvs,hx,e'⟩
  ·subst e'
   obtain⟨aw,r,pl,hz⟩:=I.list hx
   have hlen:=r.length
   exact wpAny_truthy_list pl.isList (by simp only[Jn]; (first|lia|omega)) ⟨H,I.tok _,by rw[lg r];exact q⟩
  ·subst e'
   obtain⟨aw,r,pl,hz⟩:=I.tuple hx
   have hlen:=r.length
   exact truthy_tuple pl (by simp only[Jn]; (first|lia|omega)) ⟨H,I.tok _,by rw[lg r];exact q⟩
  ·subst e'
   obtain⟨hz,hS,vs,r,m⟩:kvs.length<=sizeLine/\(p==sysModules)=false/\∃vs,KV kvs vs/\s.heap.DictOf (bq X.prog X.w) p vs:=I.aV p _ hx
   have hlen:kvs.length=vs.length:=Paired.length r
   exact wpAny_truthy_dict hS m (by first|lia|omega) ⟨H,I.tok _,by rw[sQ r];exact q⟩
 | _=>exact(show False from e).elim
theorem xm (ha:PE X a ta)(he:∀whole,isTrue a X.env whole=(do let v <-whole;standAt a.pos;holding [v] (truthy v))):
  PT X a (fun σ H Q=>ta σ H fun x H'=>∃k,GJ X.K x H' k/\Q k H'):=by
 intro pins s σ H Q I h
 exact isTrue_plain (aQ (ha s σ H _ I h) fun v s1 hz_=>ae.el hz_ _ fun x H1 I1 r1 q1=>EH s1 σ H1 x v Q I1 r1 q1) (he _)
theorem tf:dM X (binaryOp .Add) (fun x y H Q=>∃i j,x = .str i/\y = .str j/\i.length+j.length<=sizeLine/\Q (.str (i++j)) H):=by
 intro pins s σ H x y v u Q I rx ry h
 obtain⟨i,j,rfl,rfl,hz,q⟩:=h
 obtain⟨t,rfl⟩:=rx
 obtain⟨t',rfl⟩:=ry
 exact add_str (fun t' tk=>⟨.str (i++j),H,I.tok _,⟨_,rfl⟩,q⟩) hz
theorem vals1 {x:V}{us:List Value}(r:Vals [x] us):∃u,us=[u]/\RelV x u:=by
 cases r with
 | cons r1 r2=>cases r2;exact⟨_,rfl,r1⟩
theorem vals2 {x y:V}{us:List Value}(r:Vals [x,y] us):∃u w',us=[u,w']/\RelV x u/\RelV y w':=by
 cases r with
 | cons r1 r2=>
  cases r2 with
  | cons r3 r4=>cases r4;exact⟨_,_,rfl,r1,r3⟩
noncomputable def EV (K:Ja)(x:V)(H:Hp)(n:Nat):Prop:=
 match x with
 | .str y=>y.length<=sizeLine/\n=y.length
 | .byt y=>y.size<=sizeLine/\n=y.size
 | .ref p=>(∃xs,aG K H p xs/\n=xs.length)∨∃xs,d9 K H p xs/\n=xs.length
 | _=>False
theorem zH:bZ X (.builtin "len") (fun xs H Q=>∃x n,xs=[x]/\EV X.K x H n/\Q (.int n) H):=by
 intro pins s σ H xs us Q I r h
 obtain⟨x,n,rfl,e,q⟩:=h
 obtain⟨u,rfl,rx⟩:=vals1 r
 have hl:=iC
 have hs:sizeLine=16777216:=sizeLine_eq
 cases x with
 | str y=>
  obtain⟨t,rfl⟩:=rx
  obtain⟨hy,e'⟩:y.length<=sizeLine/\n=y.length:=e
  subst e'
  exact len_str (by first|lia|omega) ⟨.int _,H,I.tok _,⟨_,rfl⟩,q⟩
 | byt y=>
  obtain⟨t,rfl⟩:=rx
  obtain⟨hy,e'⟩:y.size<=sizeLine/\n=y.size:=e
  subst e'
  exact PySem.W.len_bytes (by first|lia|omega) ⟨.int _,H,I.tok _,⟨_,rfl⟩,q⟩
 | ref p=>
  cases rx
  have e':(∃xs,aG X.K H p xs/\n=xs.length)∨∃xs,d9 X.K H p xs/\n=xs.length:=e
  rcases e' with ⟨xs,hx,e'⟩|⟨xs,hx,e'⟩
  ·subst e'
   obtain⟨aw,r',pl,hz⟩:=I.list hx
   have hlen:=r'.length
   exact Calls.call_len_list pl.isList (by simp only[Jn]; (first|lia|omega)) ⟨.int xs.length,H,I.tok _,⟨_,by simp only[Jn];rw[hlen]⟩,q⟩
  ·subst e'
   obtain⟨aw,r',pl,hz⟩:=I.tuple hx
   have hlen:=r'.length
   exact len_tuple pl (by simp only[Jn]; (first|lia|omega)) ⟨.int xs.length,H,I.tok _,⟨_,by simp only[Jn];rw[hlen]⟩,q⟩
 | _=>exact(show False from e).elim
theorem qO:bZ X (.builtin "divmod") (fun xs H Q=>∃i j,xs=[.int i,.int j]/\CQ i j/\∀p,H p=none->Q (.ref p) (upd H p (.tup [.int (i / j),.int (i%j)]))):=by
 intro pins s σ H xs us Q I r h
 obtain⟨i,j,rfl,⟨h1,h2⟩,q⟩:=h
 obtain⟨u,w',rfl,⟨t,rfl⟩,⟨t',rfl⟩⟩:=vals2 r
 refine divmod_int (by first|lia|omega) ?_ (.inl (PyProof.noPylong_small (by first|lia|omega)))
 rw[Int.fdiv_eq_ediv_of_nonneg i (by first|lia|omega),Int.fmod_eq_emod_of_nonneg i (by first|lia|omega)]
 have hn:H s.heap.objs.size=none:=I.aV.fresh (Jc _)
 refine⟨.ref s.heap.objs.size,_,?_,rfl,q _ hn⟩
 refine I.laid (fun b o e=>Jd _ e) (Jc _) ⟨by simp only[J8,Yy];rw[sizeLine_eq];decide,[.int (i / j) s.toks,.int (i%j) (s.toks+1)],.cons ⟨_,rfl⟩ (.cons ⟨_,rfl⟩ .nil),?_⟩
 exact⟨_,Jy s.heap rfl,rfl,0,rfl⟩
end
structure CS (h:Heap)(x dx C:Addr)(mA:Str->Option Value):Prop where
 obj:h.get? x=some (PySem.W.instObj C dx)
 ns:h.Ns1 dx mA
 ne:dx≠x
theorem wF {h:Heap}{dx:Addr}{mA:Str->Option Value}(n:h.Ns1 dx mA):∃od,h.get? dx=some od/\∀name,PySem.W.lookIn name od=some (mA name):=by
 obtain⟨o,es,ep,ho,hd,hk,_,hm⟩:=n
 refine⟨o,ho,fun name =>?_⟩
 have e:=hm name
 unfold nsFind findBy at e
 rw[<-Array.find?_toList] at e
 unfold PySem.W.lookIn
 rw[hd]
 dsimp only
 split
 ·rename_i y q
  rw[q] at e
  exact congrArg some e
 ·rename_i q
  rw[q] at e
  have a:es.toList.any (·.refKey)=false:=by
   rw[List.any_eq_false]
   intro y hy
   obtain⟨z,t,hkey⟩:=hk y (Wj.mp hy)
   simp[DictEntry.refKey,hkey]
  have a':¬es.toList.any (·.refKey)=true:=by rw[a];exact Jo
  rw[if_neg a']
  exact congrArg some e
theorem CS.look {h:Heap}{x dx C:Addr}{mA:Str->Option Value}(I:CS h x dx C mA):∃od,PySem.W.InstAt h x (PySem.W.instObj C dx) C (some od)/\∀name,PySem.W.lookIn name od=some (mA name):=
 let ⟨od,ho,hl⟩:=wF I.ns
 ⟨od,⟨I.obj,rfl,rfl,ho⟩,hl⟩
theorem jY.some_of {v:V}{o:Option Value}(r:jY (some v) o):∃u,o=some u/\RelV v u:=by
 cases o with
 | none=>exact(show False from r).elim
 | some u=>exact⟨u,rfl,r⟩
section
variable {P:Program}{w:World}{H H':Hp}{h h':Heap}{a C dx:Addr}{fs o9:List (Str×V)}
theorem Ad (aV:eO P w H h)(e:H a=some (.ins C dx fs)):∃mA,CS h a dx C mA/\(∀f,jY (fs.lookup f) (mA f))/\PySem.Within mA (fs.map (·.1))/\fs.length<=1000/\H dx=some (.own a):=by
 obtain⟨d,z,ne,ob,mA,n,r,q⟩:=(show bf P w H h a (.ins C dx fs) from aV a _ e)
 exact⟨mA,⟨ob,n,ne⟩,r,q,z,d⟩
end
structure LF (K:Ja)(C:Addr):Prop where
 pg:PySem.W.plainGet K C Str.empty=true
 hd:PySem.W.hasDictIn K C=true
 po:PySem.W.plainOver K C=true
 sa:PySem.W.findIn K (.ref C) "__setattr__" = some (some (.builtin "object.__setattr__"))
theorem LF.get {K:Ja}{C:Addr}(c:LF K C)(f:Str):PySem.W.plainGet K C f=true:=c.pg
section
variable {X:Cx}{pins:List (Addr×Obj)}{σ:St}{H:Hp}{s:Shared}{A:Around}{E:Value->Shared->Prop}{Q:Value->Shared->Prop}{c:Value}{b:Bool}
inductive iW (K:Ja)(H:Hp):V->Value->Prop where
 | non:iW K H .non (.type "NoneType")
 | bl (x:Bool):iW K H (.bl x) (.type "bool")
 | int (i:Int):iW K H (.int i) (.type "int")
 | str (x:Str):iW K H (.str x) (.type "str")
 | flt (x:UInt64):iW K H (.flt x) (.type "float")
 | lst {a:Addr} {xs:List V} (e:H a=some (.lst xs)):iW K H (.ref a) (.type "list")
 | frz {a:Addr} {o:Obj} {xs:List V} (e:H a=some (.frz o (.lst xs))):iW K H (.ref a) (.type "list")
 | tup {a:Addr} {xs:List V} (e:H a=some (.tup xs)):iW K H (.ref a) (.type "tuple")
 | dK {a:Addr} {kvs:List (Key×V)} (e:H a=some (.dK kvs)):iW K H (.ref a) (.type "dict")
 | dT {a:Addr} {kvs:List (List Key×V)} (e:H a=some (.dT kvs)):iW K H (.ref a) (.type "dict")
 | ins {a C dx:Addr} {fs:List (Str×V)} (e:H a=some (.ins C dx fs)) (cl:LF K C) (ha:PySem.W.findIn K (.ref C) "__class__" = some (some (.builtin "object.__class__")))
   (hn:PySem.W.specialIn K (.builtin "object.__class__") "__get__" = some (some (.builtin "getset_descriptor.__get__"))) (dH:PySem.W.takesIn K (.builtin "object.__class__")=some true)
   (hm:PySem.W.mroIn K C (.type "object")=some true):iW K H (.ref a) (.ref C)
theorem vF {x:V}{u t:Value}(I:Inv X pins σ H s)(rx:RelV x u)(ty:iW X.K H x t)(e:Yw X.K t c=some b)(h:∀tk,Q (.bool b) { s with toks:=tk }):
  wpAny (model X.prog X.w) A (call (.builtin "isinstance") [u,c]) Q E s:=by
 cases ty with
 | non=>cases (show u=Value.none from rx);exact Yd PySem.W.kitx_none I.jv True.intro e (fun z=>nomatch z) h
 | bl y=>cases (show u=Value.bool y from rx);exact Yd PySem.W.kitx_bool I.jv True.intro e (fun z=>nomatch z) h
 | int i=>obtain⟨t,q⟩:=(show ∃t,u=Value.int i t from rx);cases q;exact Yd PySem.W.kitx_int I.jv True.intro e (fun z=>nomatch z) h
 | str y=>obtain⟨t,q⟩:=(show ∃t,u=Value.str y t from rx);cases q;exact Yd PySem.W.kitx_str I.jv True.intro e (fun z=>nomatch z) h
 | flt y=>obtain⟨t,q⟩:=(show ∃t,u=Value.float y t from rx);cases q;exact Yd PySem.W.kitx_float I.jv True.intro e (fun z=>nomatch z) h
 | @lst a xs ea=>
  cases (show u=Value.ref a from rx)
  obtain⟨_,_,n,_,h1⟩:=(show bf X.prog X.w H s.heap a (.lst xs) from I.aV a _ ea)
  exact Yd PySem.W.kitx_list I.jv ⟨_,h1,rfl⟩ e (fun z=>nomatch z) h
 | @frz a ob xs ea=>
  cases (show u=Value.ref a from rx)
  obtain⟨_,_,_,n,_,h1⟩:=(show bf X.prog X.w H s.heap a (.frz ob (.lst xs)) from I.aV a _ ea)
  exact Yd PySem.W.kitx_list I.jv ⟨_,h1,rfl⟩ e (fun z=>nomatch z) h
 | @tup a xs ea=>
  cases (show u=Value.ref a from rx)
  obtain⟨_,_,_,p⟩:=(show bf X.prog X.w H s.heap a (.tup xs) from I.aV a _ ea)
  obtain⟨o,h1,h2,_⟩:=p
  exact Yd PySem.W.kitx_tuple I.jv ⟨o,h1,h2⟩ e (fun z=>nomatch z) h
 | @dK a kvs ea=>
  cases (show u=Value.ref a from rx)
  obtain⟨_,_,vs,_,p⟩:=(show bf X.prog X.w H s.heap a (.dK kvs) from I.aV a _ ea)
  obtain⟨o,es,ep,h1,h2,_⟩:=p
  exact Yd PySem.W.kitx_dict I.jv ⟨o,h1,h2.1⟩ e (fun z=>nomatch z) h
 | @dT a kvs ea=>
  cases (show u=Value.ref a from rx)
  obtain⟨_,_,xs,_,o,es,ep,h1,h2,_⟩:=(show bf X.prog X.w H s.heap a (.dT kvs) from I.aV a _ ea)
  exact Yd PySem.W.kitx_dict I.jv ⟨o,h1,h2.1⟩ e (fun z=>nomatch z) h
 | @ins a C dx fs ea cl ha hn dH hm=>
  cases (show u=Value.ref a from rx)
  obtain⟨mA,O,_⟩:=Ad I.aV ea
  obtain⟨od,J,_⟩:=O.look
  exact Yd (PySem.W.kitx_own (cl.get _) cl.hd ha hn dH hm) I.jv J e (fun z=>nomatch z) h
end
structure cL (k:Nat)(A:Around):Prop where
 hd:A.handled=none
 dp:A.depth+3*k+5<recursionLimit
 un:A.units+16*k+200<cLine
 gd:A.guards=some []
theorem cL.mono {j k:Nat}{A:Around}(r:cL k A)(h:j<=k):cL j A:=⟨r.hd,by have:=r.dp; (first|lia|omega),by have:=r.un; (first|lia|omega),r.gd⟩
theorem cL.deeper {k:Nat}{A:Around}(r:cL (k+1) A)(env:Env):cL k (A.deeper env):=
 ⟨r.hd,by have:=r.dp;show A.depth+1+3*k+5<_; (first|lia|omega),by have:=r.un;show A.units+3+16*k+200<_; (first|lia|omega),r.gd⟩
theorem cL.in1 {k:Nat}{A:Around}(r:cL (k+1) A):cL k A.in1:=
 ⟨r.hd,by have:=r.dp;show A.depth+3*k+5<_; (first|lia|omega),by have:=r.un;show A.units+1+16*k+200<_; (first|lia|omega),r.gd⟩
theorem rQ {A:Around}{C:Addr}{us:List Value}{kw:List (Str×Value)}:(A.under (.builtin "type.__call__" ⟨.ref C::us,kw⟩)).depth=A.depth+1:=by
 first|rfl|simp[Around.under,Code.weight,Code.isCreation,Code.isGuard,Code.isCaller,Code.frames,Code.isFrame,guardIds]
theorem rK {A:Around}{C:Addr}{us:List Value}{kw:List (Str×Value)}:(A.under (.builtin "type.__call__" ⟨.ref C::us,kw⟩)).units=A.units+1:=by
 first|rfl|simp[Around.under,Code.cUnits,Code.frames,Code.isFrame]
theorem qQ {A:Around}{C:Addr}{us:List Value}{kw:List (Str×Value)}:(A.under (.builtin "type.__call__" ⟨.ref C::us,kw⟩)).guards=A.guards:=by
 first|rfl|simp[Around.under,Code.guards,Code.isGuard,guardIds,pushGuards]
theorem cL.make {k:Nat}{A:Around}(r:cL (k+1) A)(C:Addr)(us:List Value)(kw:List (Str×Value)):cL k (A.under (.builtin "type.__call__" ⟨.ref C::us,kw⟩)):=
 ⟨r.hd,by have:=r.dp;rw[rQ]; (first|lia|omega),by have:=r.un;rw[rK]; (first|lia|omega),by rw[qQ];exact r.gd⟩
theorem cL.depth {k:Nat}{A:Around}(r:cL k A):A.depth<recursionLimit:=by have:=r.dp; (first|lia|omega)
theorem cL.units {k:Nat}{A:Around}(r:cL k A):A.units+64<cLine:=by have:=r.un; (first|lia|omega)
noncomputable def vD:TA:=fun _ H Q=>Q [] H
noncomputable def jS (ta:TE)(tr:TA):TA:=fun σ H Q=>ta σ H fun x H1=>tr σ H1 fun xs H2=>Q (x::xs) H2
section
variable {X:Cx}{e:Expr}{es:List Expr}{te:TE}{t:TA}{pos:Pos}
theorem ag:PA X [] vD:=fun _ _ _ _ H Q I h=>Calls.spliced_nil ⟨[],H,I,.nil,h⟩
theorem aa (ha:PE X e te)(hr:PA X es t)(hs:starEach (e::es) X.env=(false,eval e X.env)::starEach es X.env:=by rfl):PA X (e::es) (jS te t):=by
 intro pos pins s σ H Q I h
 rw[hs]
 show wpAny _ _ (spliced ((false,eval e X.env)::backTo pos (starEach es X.env))) _ _ s
 refine Calls.spliced_cons (aQ (ha s σ H _ I h) fun u s1 hz_ =>?_)
 refine ae.el hz_ _ ?_
 clear hz_
 rintro x H1 I1 r1 q1
 exact aQ (hr s1 σ H1 _ I1 q1) fun us s2 hz_=>ae.el hz_ _ fun xs H2 I2 r2 q2=>⟨x::xs,H2,I2,.cons r1 r2,q2⟩
noncomputable def HZ (t:TA):TE:=fun σ H Q=>t σ H fun xs H1=>xs.length<=sizeLine/\∀p,H1 p=none->Q (.ref p) (upd H1 p (.tup xs))
noncomputable def FK (t:TA):TE:=fun σ H Q=>t σ H fun xs H1=>xs.length<=sizeLine/\∀p,H1 p=none->Q (.ref p) (upd H1 p (.lst xs))
theorem Eo {x1}(h:PA X es t):PE X (.Tuple es x1 pos) (HZ t):=by
 intro pins s σ H Q I hq
 refine wpAny_Tuple_spliced (aQ (h s σ H _ I hq) fun us s1 ⟨xs,H1,I1,r,z,q⟩=>⟨by rw[<-r.length];exact z,?_⟩)
 have hf:H1 s1.heap.objs.size=none:=I1.aV.fresh (Jc _)
 refine⟨.ref s1.heap.objs.size,upd H1 s1.heap.objs.size (.tup xs),I1.laid (t':=s1.toks) (fun b u e=>Jd _ e) (Jc _) ?_,rfl,q _ hf⟩
 exact⟨z,us,r,⟨_,Jy _ rfl,rfl,_,rfl⟩⟩
theorem Dx (h:PA X es t):PE X (.List es pos) (FK t):=by
 intro pins s σ H Q I hq
 refine wpAny_List_spliced (aQ (h s σ H _ I hq) fun us s1 ⟨xs,H1,I1,r,z,q⟩=>⟨by rw[<-r.length];exact z,?_⟩)
 have hf:H1 s1.heap.objs.size=none:=I1.aV.fresh (Jc _)
 refine⟨.ref s1.heap.objs.size,upd H1 s1.heap.objs.size (.lst xs),I1.laid (t':=s1.toks) (fun b u e=>Jd _ e) (Jc _) ?_,rfl,q _ hf⟩
 exact⟨z,us,0,r,Jy _ rfl⟩
end
noncomputable abbrev Sp:=List V->Hp->VK->XK->Prop
noncomputable abbrev tT:=List Env->Hp->Shared->XK->Value->Shared->Prop
structure mi (P:Program)(w:World)(K:Ja)(mg:Str->Option Value)(base:Heap)(A:Around)(outer:List Env)(s:Shared)(H:Hp):Prop where
 frames:A.frames=some outer
 mod:Mod K mg base
 bs:∀b o,base.get? b=some o->s.heap.get? b=some o/\H b=none
 bsz:base.objs.size<=s.heap.objs.size
 fW:s.heap.FunFrames base outer
 rH:∀b∈fP outer,H b=none
 aV:eO P w H s.heap
 bare:AllBare s.gens
noncomputable def CE (outer:List Env)(P:Program)(w:World)(H:Hp)(s:Shared)(Q:VK)(u:Value)(s':Shared):Prop:=
 cj fun v H'=>s'.os=s.os/\AllBare s'.gens/\Un (fP outer) [] H H' s.heap s'.heap/\eO P w H' s'.heap/\RelV v u/\Q v H'
noncomputable def CR (CX:tT)(outer:List Env)(P:Program)(w:World)(H:Hp)(s:Shared)(Q:VK)(E:XK)(r:Result)(s':Shared):Prop:=
 match r with
 | .ok (.ret u)=>CE outer P w H s Q u s'
 | .ok _=>False
 | .error e=>CX outer H s E e s'
structure bA (P:Program)(w:World)(K:Ja)(mg:Str->Option Value)(base:Heap)(CX:tT)(k:Nat)(f:Addr)(fd:FuncData)(ps:List Str)(sp:Sp):Prop where
 len:∀vs H Q E,sp vs H Q E->vs.length=ps.length
 run:∀(A:Around) (outer:List Env) (s:Shared) (H:Hp) (args:Args) (us:List Value) (vs:List V) (Q:VK) (E:XK),cL k A->mi P w K mg base A outer s H->BindsTo s fd args (ps.zip us)->Vals vs us->sp vs H Q E ->
  codeAny (model P w) A (.call (.ref f) args) (CR CX outer P w H s Q E) s
theorem bA.mono {P:Program}{w:World}{K:Ja}{mg:Str->Option Value}{base:Heap}{CX:tT}{j k:Nat}{f:Addr}{fd:FuncData}{ps:List Str}{sp:Sp}(F:bA P w K mg base CX j f fd ps sp)(h:j<=k):
  bA P w K mg base CX k f fd ps sp:=⟨F.len,fun A outer s H args us vs Q E hr=>F.run A outer s H args us vs Q E (hr.mono h)⟩
theorem bA.imp {P:Program}{w:World}{K:Ja}{mg:Str->Option Value}{base:Heap}{CX:tT}{k:Nat}{f:Addr}{fd:FuncData}{ps:List Str}{sp Cb:Sp}(F:bA P w K mg base CX k f fd ps sp)
  (h:∀vs H Q E,Cb vs H Q E->sp vs H Q E):bA P w K mg base CX k f fd ps Cb:=
 ⟨fun vs H Q E q=>F.len vs H Q E (h _ _ _ _ q),fun A outer s H args us vs Q E hr he hb hv hs=>F.run A outer s H args us vs Q E hr he hb hv (h _ _ _ _ hs)⟩
theorem mi.make {P:Program}{w:World}{K:Ja}{mg:Str->Option Value}{base:Heap}{A:Around}{outer:List Env}{s:Shared}{H:Hp}(e:mi P w K mg base A outer s H)(C:Addr)(us:List Value)(kw:List (Str×Value)):
  mi P w K mg base (A.under (.builtin "type.__call__" ⟨.ref C::us,kw⟩)) outer s H:=⟨by first|exact e.frames|(simpa [Around.under,Code.envs,Code.isFrame,pushEnvs] using e.frames),e.mod,e.bs,e.bsz,e.fW,e.rH,e.aV,e.bare⟩
theorem mi.in1 {P:Program}{w:World}{K:Ja}{mg:Str->Option Value}{base:Heap}{A:Around}{outer:List Env}{s:Shared}{H:Hp}(e:mi P w K mg base A outer s H):
  mi P w K mg base A.in1 outer s H:=⟨e.frames,e.mod,e.bs,e.bsz,e.fW,e.rH,e.aV,e.bare⟩
section
variable {X:Cx}{pins:List (Addr×Obj)}{σ:St}{H:Hp}{s s':Shared}
theorem Inv.AN (I:Inv X pins σ H s):mi X.prog X.w X.K X.mg X.base X.A X.stack s H:=
 ⟨I.ok.frames,I.ok.mod,I.bs,Jp I.ok.bsz I.sz,I.stack,I.nU,I.aV,I.bare⟩
theorem Inv.after {Q:VK}{u:Value}(I:Inv X pins σ H s)(h:CE X.stack X.prog X.w H s Q u s'):EP X pins σ Q u s':=by
 obtain⟨v,H',os,bare,un,aV,r,q⟩:=h
 obtain⟨hh,g,d,t,os'⟩:=s'
 obtain rfl:os'=s.os:=os
 exact⟨v,H',I.call (h':=hh) (g':=g) (d':=d) (t':=t) (ch:=[]) un aV bare (fun b z=>absurd z (by simp)),r,q⟩
end
noncomputable def qu (sp:Sp)(Cy:List V)(E:XK)(t:TA):TE:=fun σ H Q=>t σ H fun vs H1=>sp (vs++Cy) H1 Q E
noncomputable def Binds (K:Ja)(fd:FuncData)(ps:List Str)(ds:List Value):Prop:=
 ∀(s:Shared) (us:List Value),K.In s.heap->(us++ds).length=ps.length->BindsTo s fd ⟨us,[]⟩ (ps.zip (us++ds))
theorem Binds.all {K:Ja}{fd:FuncData}{ps:List Str}(h:∀us:List Value,us.length=ps.length->bindArgs fd ⟨us,[]⟩=pure (ps.zip us)):Binds K fd ps []:=fun s us _ hl=>by
 rw[U5] at hl ⊢
 exact .of_eq (h us hl)
noncomputable def Passes (CX:tT)(X:Cx)(E:XK):Prop:=∀(pins:List (Addr×Obj)) (σ:St) (H:Hp) (s:Shared) (e:Value) (s':Shared),Inv X pins σ H s->CX X.stack H s E e s'->X.xe e s'
section
variable {X:Cx}{CX:tT}{k:Nat}{f C:Addr}{fd:FuncData}{ps:List Str}{sp:Sp}{Cy:List V}{ds:List Value}{E:XK}{x m:Str}{p pos apos:Pos}{e o:Expr}{es:List Expr}{ta:TE}{t:TA}
theorem DG {pins:List (Addr×Obj)}{σ:St}{H:Hp}{s:Shared}{Q:VK}{us:List Value}{vs:List V}(F:bA X.prog X.w X.K X.mg X.base CX k f fd ps sp)(hr:cL k X.A)(hb:Binds X.K fd ps ds)(hd:Vals Cy ds)(hx:Passes CX X E)
  (I:Inv X pins σ H s) (r:Vals vs us) (h:sp (vs++Cy) H Q E):wpAny (model X.prog X.w) X.A (call (.ref f) us) (EP X pins σ Q) X.xe s:=by
 have r2:Vals (vs++Cy) (us++ds):=r.append hd
 have hl:(us++ds).length=ps.length:=by rw[<-r2.length];exact F.len _ _ _ _ h
 refine wpAny_call (codeAny_mono (F.run X.A X.stack s H ⟨us,[]⟩ (us++ds) (vs++Cy) Q E hr I.AN (hb s us I.jv hl) r2 h) fun r s' hq =>?_)
 cases r with
 | error e=>exact hx pins σ H s e s' I hq
 | ok fl=>
  cases fl with
  | ret u=>exact I.after hq
  | next=>exact False.elim hq
  | brk=>exact False.elim hq
  | cont=>exact False.elim hq
theorem AD (F:bA X.prog X.w X.K X.mg X.base CX k f fd ps sp)(hr:cL k X.A)(hg:Gl X x)(hm:X.mg x=some (.ref f))(hk:Y4 X.K (.ref f)=true)(hb:Binds X.K fd ps ds)(hd:Vals Cy ds)(hx:Passes CX X E)
  (ha:PA X (e::es) t) (rD:(x==("__debug__" : Str))=false:=by decide) (he:starEach (e::es) X.env=(false,eval e X.env)::starEach es X.env:=by rfl) (g8:(backTo pos (starEach es X.env)).any (·.1)=false:=by rfl) :
  PE X (.Call (.Name x p) (e::es) [] pos) (qu sp Cy E t):=by
 intro pins s σ H Q I h
 refine wpAny_Call_Name_kw (iR I hg hm ?_ rD)
 refine PySem.W.callWith_K (h₀:=X.base) I.ok.mod.tY hk (aQ (ha s σ H _ I h) fun us s1 hz_=>ae.el hz_ _ fun vs H1 I1 r q=>⟨I1.jv,?_⟩) he g8
 exact DG F hr hb hd hx I1 r q
end
noncomputable def PK (X:Cx)(xU:List Keyword)(t:TA):Prop:=
 ∀ ⦃pos:Pos⦄ ⦃pins:List (Addr×Obj)⦄ (s:Shared) (σ:St) (H:Hp) (Q:List V->Hp->Prop),Inv X pins σ H s->t σ H Q->wpAny (model X.prog X.w) X.A (evalAll ((backToKw pos (keywordEach xU X.env)).map (·.2))) (AP X pins σ Q) X.xe s
section
variable {X:Cx}{CX:tT}{k:Nat}{f C:Addr}{fd:FuncData}{ps ks:List Str}{sp:Sp}{E:XK}{x m:Str}{p pos apos NA:Pos}{e o:Expr}{es:List Expr}{xU:List Keyword}{te ta:TE}{t tk:TA}{nm:Option Str}
theorem ER:PK X [] vD:=fun _ _ _ _ H Q I h=>wpAny_evalAll_nil ⟨[],H,I,.nil,h⟩
theorem Bi (ha:PE X e te)(hr:PK X xU t):PK X (⟨nm,e,NA⟩::xU) (jS te t):=by
 intro pos pins s σ H Q I h
 show wpAny _ _ (evalAll ((do let v <-eval e X.env;standAt pos;pure v)::(backToKw pos (keywordEach xU X.env)).map (·.2))) _ _ s
 refine wpAny_evalAll_cons (wpAny_bind (aQ (ha s σ H _ I h) fun u s1 hz_=>ae.el hz_ _ fun x H1 I1 r1 q1=>wpAny_bind (wpAny_standAt (wpAny_pure ?_))))
 exact aQ (hr s1 σ H1 _ I1 q1) fun us s2 hz_=>ae.el hz_ _ fun xs H2 I2 r2 q2=>⟨x::xs,H2,I2,.cons r1 r2,q2⟩
variable {g:List Value->List Value->List Value}{gV:List V->List V->List V}
end
structure aM (N P:List Str)(sc:Scope):Prop where
 kind:sc.kind = .function
 co:sc.isCoroutine=false
 gen:sc.isGenerator=false
 nd:N.Nodup
 pre:N.take P.length=P
 par:∀x∈P,sc.names.lookup x=some .local∨sc.names.lookup x=some .cell
 nofree:∀y∈sc.names,y.2 ≠ .free
theorem nj {kindOf:Str->Option NameKind}{x:Str}:∀{binds:List (Str×Value)} {m:Str->Option Value},(∀v,(x,v)∉binds)->bindL kindOf binds m x=m x
 | [],_,_=>rfl
 | (n,v)::r,m,h=>by
  unfold bindL
  rw[nj fun w hw=>h w (Jh _ hw)]
  split
  ·have:x≠n:=by rintro rfl;exact h v Jk
   simp[this]
  ·rfl
theorem nv {kindOf:Str->Option NameKind}{x:Str}:∀{binds:List (Str×Value)} {m:Str->Option Value},(∀v,(x,v)∉binds)->bindC kindOf binds m x=m x
 | [],_,_=>rfl
 | (n,v)::r,m,h=>by
  unfold bindC
  rw[nv fun w hw=>h w (Jh _ hw)]
  split
  ·rfl
  ·have:x≠n:=by rintro rfl;exact h v Jk
   simp[this]
theorem nB {kindOf:Str->Option NameKind}{x:Str}{v:Value}:∀{P:List Str} {vs:List Value} {i:Nat} {m:Str->Option Value},P.Nodup->P[i]? = some x->vs[i]? = some v->kindOf x=some .local ->
  bindL kindOf (P.zip vs) m x=some v
 | [],_,_,_,_,h,_,_=>by simp at h
 | _::_,[],_,_,_,_,h,_=>by simp at h
 | p::P,w::vs,0,m,nd,h1,h2,hk=>by
  simp at h1 h2;subst h1;subst h2
  show bindL kindOf ((p,w)::P.zip vs) m p=_
  unfold bindL
  rw[nj fun v hv=>(Ye.mp nd).1 (List.of_mem_zip hv).1,if_pos hk]
  simp
 | p::P,w::vs,i+1,m,nd,h1,h2,hk=>by
  show bindL kindOf ((p,w)::P.zip vs) m x=_
  unfold bindL
  exact nB (i:=i) (Ye.mp nd).2 (by simpa using h1) (by simpa using h2) hk
theorem mX {kindOf:Str->Option NameKind}{x:Str}{v:Value}:∀{P:List Str} {vs:List Value} {i:Nat} {m:Str->Option Value},P.Nodup->P[i]? = some x->vs[i]? = some v->kindOf x≠some .local ->
  bindC kindOf (P.zip vs) m x=some v
 | [],_,_,_,_,h,_,_=>by simp at h
 | _::_,[],_,_,_,_,h,_=>by simp at h
 | p::P,w::vs,0,m,nd,h1,h2,hk=>by
  simp at h1 h2;subst h1;subst h2
  show bindC kindOf ((p,w)::P.zip vs) m p=_
  unfold bindC
  rw[nv fun v hv=>(Ye.mp nd).1 (List.of_mem_zip hv).1,if_neg hk]
  simp
 | p::P,w::vs,i+1,m,nd,h1,h2,hk=>by
  show bindC kindOf ((p,w)::P.zip vs) m x=_
  unfold bindC
  exact mX (i:=i) (Ye.mp nd).2 (by simpa using h1) (by simpa using h2) hk
noncomputable def start (N:List Str)(vs:List V):St:=vs.map some++Jj (N.length-vs.length) none
noncomputable def jz (CX:tT)(P:Program)(w:World)(K:Ja)(mg:Str->Option Value)(base:Heap)(N:List Str)(qual:Str)(scope:Scope)(f:Addr)(cd:Value)(A:Around)(outer:List Env)(s:Shared)(H:Hp)(E:XK):Cx where
 prog:=P
 w:=w
 K:=K
 mg:=mg
 base:=base
 A:=A.deeper (envOfC qual scope s.heap.objs.size f cd)
 N:=N
 s₀:=s
 H₀:=H
 env:=envOfC qual scope s.heap.objs.size f cd
 outer:=outer
 stack:=envOfC qual scope s.heap.objs.size f cd::outer
 ex:=[]
 calm:=true
 fn:=fun _=>true
 pn:=[]
 xe:=fun e s'=>wpAny (model P w) (A.deeper (envOfC qual scope s.heap.objs.size f cd)) (leaving (envOfC qual scope s.heap.objs.size f cd) e) (fun _ s''=>CX outer H s E e s'') (fun e' s''=>CX outer H s E e' s'') s'
theorem pC {sc:Scope}{n:Nat}{x:Str}(h:sc.names.lookup x=some .cell):∃c,(cellsFrom n sc.names []).lookup x=some c:=by
 have q:=PySem.W.cellsFrom_some sc.names n [] (.inl h)
 exact Option.isSome_iff_exists.mp q
theorem vK {CX:tT}{P:Program}{w:World}{K:Ja}{mg:Str->Option Value}{base:Heap}{N ps:List Str}{qual:Str}{scope:Scope}{f:Addr}{cd:Value}{A:Around}{outer:List Env}{s s1:Shared}{H:Hp}{E:XK}{us:List Value}{vs:List V}
  (S:aM N ps scope) (hd:A.handled=none) (e0:mi P w K mg base A outer s H) (hl:vs.length=ps.length) (r:Vals vs us)
  (x:InCallC s s.heap.objs.size (bindL (envOfC qual scope s.heap.objs.size f cd).kindOf (ps.zip us) fun _=>none) (cellsFrom (s.heap.objs.size+1) scope.names []) (bindC (envOfC qual scope s.heap.objs.size f cd).kindOf (ps.zip us) fun _=>none) s1) :
  Inv (jz CX P w K mg base N qual scope f cd A outer s H E) [] (start N vs) H s1:=by
 have g8:ps.length<=N.length:=by have:=congrArg Wk S.pre;rw[Jw] at this; (first|lia|omega)
 obtain⟨h1,tk,rfl,hk⟩:=x.done
 have HE:∀b:Addr,b∉(jz CX P w K mg base N qual scope f cd A outer s H E).ex:=fun b z=>absurd (show b∈([]:List Addr) from z) (by simp)
 refine⟨⟨e0.mod,S.kind,rfl,rfl,Jc _,fun y z c h1 h2 =>?_,fun y hy =>?_,fun y c _ h =>?_,fun _=>hd,Around.frames_deeper e0.frames,.inr ⟨rfl,rfl⟩,fun b z=>absurd z (HE b),e0.bs,e0.bsz,fun b _ _=>HE b,fun b z=>absurd z (HE b),e0.fW,e0.rH⟩,
  rfl,e0.bare,Un.kept hk,⟨_,x.toInCall.ns,fun i y v h1 h2 h3 =>?_⟩,fun y c h=>⟨_,x.cell y c h⟩,e0.aV.fresh (Jc _),fun y c h =>?_,fun p hp=>absurd (show p∈([]:List (Addr×Obj)) from hp) (by simp),e0.aV.kept hk,?_⟩
 ·exact name_of_addr x.apart (PySem.mem_of_lookup h1) (PySem.mem_of_lookup h2)
 ·have hy:scope.names.lookup y=some .cell∨scope.names.lookup y=some .free:=hy
  rcases hy with hy|hy
  ·exact pC hy
  ·exact absurd rfl (S.nofree _ (PySem.mem_of_lookup hy))
 ·exact U6 (x.above y c (PySem.mem_of_lookup h))
 ·have hi:i<vs.length:=by
   unfold start at h2
   by_cases hi:i<vs.length
   ·exact hi
   ·rw[J0 (by simpa using hi)] at h2
    rw[U4] at h2
    split at h2<;>cases h2
  have ha:vs[i]? = some v:=by
   unfold start at h2
   rw[Ua (by simpa using hi),Jm] at h2
   cases e:vs[i]? with
   | none=>rw[e] at h2;cases h2
   | some a=>rw[e] at h2;cases h2;rfl
  obtain⟨u,hu,rv⟩:=r.get ha
  have hp:ps[i]? = some y:=by
   rw[<-S.pre,List.getElem?_take_of_lt (by first|lia|omega)];exact h1
  have OA:ps.Nodup:=by rw[<-S.pre];exact S.nd.sublist (Y7 _ _)
  refine⟨u,rv,?_⟩
  rcases S.par y (List.mem_of_getElem? hp) with k|k
  ·exact .inl ⟨k,nB OA hp hu k⟩
  ·obtain⟨c,e⟩:=pC (n:=s.heap.objs.size+1) k
   refine .inr ⟨.inl k,c,e,?_⟩
   have q:=x.cell y c e
   rw[mX OA hp hu (by show scope.names.lookup y≠_;rw[k];decide)] at q
   exact q
 ·exact e0.aV.fresh (U6 (x.above y c (PySem.mem_of_lookup h)))
 ·unfold start
  show _=N.length
  rw[Jf,Jb,Ut]
  (first|lia|omega)
theorem Ck {CX:tT}{P:Program}{w:World}{K:Ja}{mg:Str->Option Value}{base:Heap}{k:Nat}{f:Addr}{name qual:Str}{params:Arguments}{body:List Stmt}{scope:Scope}{dV kV doc pm di ct oc:Value}{an od:Option Addr}
  {ve:Array (Option Value)} {N ps:List Str} {sp:Sp} (lk:K.lookup f=some ⟨oc,od,.func (Wl name qual params body scope dV kV doc pm an di ct),ve⟩) (vh:PySem.W.codeIn K di qual=true) (S:aM N ps scope)
  (len:∀vs H Q E,sp vs H Q E->vs.length=ps.length)
  (qX:∀(A:Around) (outer:List Env) (s:Shared) (H:Hp) (vs:List V) (Q:VK) (E:XK),cL k (A.deeper (envOfC qual scope s.heap.objs.size f di))->sp vs H Q E ->
   ∃t,rF (jz CX P w K mg base N qual scope f di A outer s H E) body t/\t { nx:=fun _ H'=>Q .non H',rt:=Q } (start N vs) H) :
  bA P w K mg base CX (k+1) f (Wl name qual params body scope dV kV doc pm an di ct) ps sp:=by
 refine⟨len,fun A outer s H args us vs Q E hr e0 hb r oW =>?_⟩
 have hl:=len _ _ _ _ oW
 have KX:K.In s.heap:=e0.mod.tY.keeps fun b o e=>(e0.bs b o e).1
 have lim:s.heap.NoLimit:=e0.mod.nolimit.keeps fun b o e=>(e0.bs b o e).1
 have FQ:∀y∈ps.zip us,scope.names.lookup y.1=some .local∨(scope.names.lookup y.1=some .cell/\((cellsFrom (s.heap.objs.size+1) scope.names []).lookup y.1).isSome=true):=fun⟨n,v⟩ hy=>by
  rcases S.par n (List.of_mem_zip hy).1 with q|q
  ·exact .inl q
  ·exact .inr ⟨q,PySem.W.cellsFrom_some _ _ _ (.inl q)⟩
 refine codeAny_call_function hr.depth (KX _ _ lk) rfl S.co S.gen rfl (PySem.W.codeRec_of KX vh) (hb _ _ _ _ ?_)
 refine wpAny_newFunctionEnv_cells S.kind FQ fun env he s1 x =>?_
 subst he
 refine⟨lim.keeps x.toInCall.keep,codeAny_func ?_⟩
 obtain⟨t,ht,hq⟩:=qX A outer s H vs Q E (hr.deeper _) oW
 have I:Inv (jz CX P w K mg base N qual scope f di A outer s H E) [] (start N vs) H s1:=vK S hr.hd e0 hl r x
 refine wpAny_mono (ht s1 (start N vs) H _ I hq) (fun fl s' hs =>?_) fun e s' hs=>hs
 have fin:∀{σ':St} {H':Hp} {v:V} {u:Value},Inv (jz CX P w K mg base N qual scope f di A outer s H E) [] σ' H' s'->RelV v u->Q v H'->CE outer P w H s Q u s':=
  fun{σ' H' v u} J rv q=>⟨v,H',J.os,J.bare,J.base,J.aV,rv,q⟩
 cases fl with
 | ret u=>
  obtain⟨v,σ',H',J,rv,q⟩:=hs
  exact fin J rv q
 | next=>
  obtain⟨σ',H',J,q⟩:=hs
  exact fin (v:=V.non) (u:=Value.none) J rfl q
 | brk=>
  obtain⟨_,_,_,q⟩:=hs
  exact False.elim q
 | cont=>
  obtain⟨_,_,_,q⟩:=hs
  exact False.elim q
section
variable {X:Cx}{x:Str}{p pos:Pos}{e:Expr}{es:List Expr}{t:TA}{id T:String}{r:List V->Hp->VK->Prop}
noncomputable def JS (r:List V->Hp->VK->Prop)(t:TA):TE:=fun σ H Q=>t σ H fun vs H1=>r vs H1 Q
theorem av (hc:bZ X (.builtin id) r)(hg:Gl X x)(hm:X.mg x=none)(hv:bootBuiltins x=some (.builtin id))(ha:PA X (e::es) t)(hn:x ≠ "__name__":=by decide)(rD:(x==("__debug__" : Str))=false:=by decide)
  (he:starEach (e::es) X.env=(false,eval e X.env)::starEach es X.env:=by rfl) (g8:(backTo pos (starEach es X.env)).any (·.1)=false:=by rfl):PE X (.Call (.Name x p) (e::es) [] pos) (JS r t):=by
 intro pins s σ H Q I h
 refine wpAny_Call_Name_kw (gI I hg hm hv ?_ hn rD)
 exact PyProof.Rows.callWith_builtin1 (aQ (ha s σ H _ I h) fun us s1 hz_=>ae.el hz_ _ fun vs H1 I1 r1 q1=>hc s1 σ H1 vs us Q I1 r1 q1) he g8
theorem bX (hc:bZ X (.type T) r)(hg:Gl X x)(hm:X.mg x=none)(hv:bootBuiltins x=some (.type T))(ha:PA X (e::es) t)(hn:x ≠ "__name__":=by decide)(rD:(x==("__debug__" : Str))=false:=by decide)
  (he:starEach (e::es) X.env=(false,eval e X.env)::starEach es X.env:=by rfl) (g8:(backTo pos (starEach es X.env)).any (·.1)=false:=by rfl):PE X (.Call (.Name x p) (e::es) [] pos) (JS r t):=by
 intro pins s σ H Q I h
 refine wpAny_Call_Name_kw (gI I hg hm hv ?_ hn rD)
 exact PyProof.Rows.callWith_type1 (aQ (ha s σ H _ I h) fun us s1 hz_=>ae.el hz_ _ fun vs H1 I1 r1 q1=>hc s1 σ H1 vs us Q I1 r1 q1) he g8
end
section
variable {κ:Type}[DecidableEq κ]
noncomputable def aZ (kvs:List (κ×V))(k: κ):Option V:=(kvs.find? fun kv=>decide (kv.1=k)).map (·.2)
noncomputable def putK (kvs:List (κ×V))(k: κ)(v:V):List (κ×V):=
 if (kvs.any fun kv=>decide (kv.1=k))=true then kvs.map (fun kv=>if kv.1=k then (kv.1,v) else kv) else kvs++[(k,v)]
theorem bW {p: κ×V}{r:List (κ×V)}{k: κ}(e:p.1=k):aZ (p::r) k=some p.2:=by simp[aZ,List.find?_cons,e]
theorem bK {p: κ×V}{r:List (κ×V)}{k: κ}(e:¬p.1=k):aZ (p::r) k=aZ r k:=by simp[aZ,List.find?_cons,e]
theorem dY (k: κ):∀kvs:List (κ×V),(kvs.any fun kv=>decide (kv.1=k))=(aZ kvs k).isSome
 | []=>rfl
 | p::r=>by
  rw[List.any_cons]
  by_cases e:p.1=k
  ·simp only[bW e,decide_eq_true e,Bool.true_or,Option.isSome_some]
  ·rw[bK e,decide_eq_false e,Bool.false_or];exact dY k r
theorem pS (k j: κ)(y:V):∀kvs:List (κ×V),aZ (kvs.map fun kv=>if kv.1=k then (kv.1,y) else kv) j=(aZ kvs j).map fun x=>if j=k then y else x
 | []=>rfl
 | p::r=>by
  have ih:=pS k j y r
  rw[Ub]
  by_cases h:p.1=k
  ·rw[if_pos h]
   by_cases e:p.1=j
   ·rw[bW (p:=(p.1,y)) e,bW e,Option.map_some,if_pos (e.symm.trans h)]
   ·rw[bK (p:=(p.1,y)) e,bK e,ih]
  ·rw[if_neg h]
   by_cases e:p.1=j
   ·rw[bW (p:=p) e,bW e,Option.map_some,if_neg (fun z=>h (e.trans z))]
   ·rw[bK (p:=p) e,bK e,ih]
theorem jA (k j: κ)(y:V):∀kvs:List (κ×V),aZ kvs k=none->aZ (kvs++[(k,y)]) j=if j=k then some y else aZ kvs j
 | [],_=>by
  by_cases e:k=j
  ·rw[if_pos e.symm];exact bW (p:=(k,y)) e
  ·rw[if_neg (fun z=>e z.symm)];exact bK (p:=(k,y)) e
 | p::r,hn=>by
  rw[List.cons_append]
  have hk:¬p.1=k:=fun z=>by rw[bW z] at hn;cases hn
  rw[bK hk] at hn
  have ih:=jA k j y r hn
  by_cases e:p.1=j
  ·rw[bW e,bW e,if_neg (fun z=>hk (e.trans z))]
  ·rw[bK e,bK e,ih]
theorem yR (kvs:List (κ×V))(k j: κ)(y:V):aZ (putK kvs k y) j=if j=k then some y else aZ kvs j:=by
 unfold putK
 by_cases a:(kvs.any fun kv=>decide (kv.1=k))=true
 ·rw[if_pos a,pS]
  rw[dY] at a
  by_cases e:j=k
  ·obtain⟨x,hx⟩:=Option.isSome_iff_exists.mp a
   rw[if_pos e,e,hx,Option.map_some,if_pos rfl]
  ·rw[if_neg e]
   cases aZ kvs j with
   | none=>rfl
   | some x=>rw[Option.map_some,if_neg e]
 ·rw[if_neg a]
  refine jA k j y kvs ?_
  rw[dY] at a
  cases q:aZ kvs k with
  | none=>rfl
  | some x=>rw[q] at a;exact(a rfl).elim
theorem eF (kvs:List (κ×V))(k: κ)(v:V):(putK kvs k v).length<=kvs.length+1:=by
 unfold putK
 split
 ·rw[Jb]; (first|lia|omega)
 ·rw[Jf,J8,Yy]; (first|lia|omega)
theorem gK {kvs:List (κ×V)}{k: κ}(v:V)(h:aZ kvs k=none):putK kvs k v=kvs++[(k,v)]:=by
 unfold putK
 rw[dY,h]
 exact if_neg (by decide)
theorem jY.eU {o:Option V}{u:Option Value}(r:jY o u):o.isSome=u.isSome:=by
 cases o with
 | none=>cases u with
  | none=>rfl
  | some _=>exact(show False from r).elim
 | some _=>cases u with
  | none=>exact(show False from r).elim
  | some _=>rfl
theorem KV.val {kvs:List (κ×V)}{vs:List (κ×Value)}(r:KV kvs vs)(k: κ):jY (aZ kvs k) (valueAt vs k):=by
 unfold KV at r
 induction r with
 | nil=>exact True.intro
 | @cons p q ps qs h t ih=>
  obtain⟨h1,h2⟩:=h
  by_cases e:p.1=k
  ·have e':q.1=k:=h1.symm.trans e
   have b:valueAt (q::qs) k=some q.2:=by simp[valueAt,List.find?_cons,e']
   rw[bW e,b];exact h2
  ·have e':¬q.1=k:=fun z=>e (h1.trans z)
   have b:valueAt (q::qs) k=valueAt qs k:=by simp[valueAt,List.find?_cons,e']
   rw[bK e,b];exact ih
theorem KV.any {kvs:List (κ×V)}{vs:List (κ×Value)}(r:KV kvs vs)(k: κ):(kvs.any fun kv=>decide (kv.1=k))=vs.any fun kv=>decide (kv.1=k):=by
 unfold KV at r
 induction r with
 | nil=>rfl
 | cons h t ih=>rw[List.any_cons,List.any_cons,ih,h.1]
theorem KV.DJ {kvs:List (κ×V)}{vs:List (κ×Value)}(r:KV kvs vs)(k: κ){y:V}{u:Value}(ry:RelV y u):
  KV (kvs.map fun kv=>if kv.1=k then (kv.1,y) else kv) (vs.map fun kv=>if kv.1=k then (kv.1,u) else kv):=by
 unfold KV at r ⊢
 induction r with
 | nil=>exact .nil
 | @cons p q ps qs h t ih=>
  rw[Ub,Ub]
  refine .cons ?_ ih
  obtain⟨h1,h2⟩:=h
  by_cases e:p.1=k
  ·rw[if_pos e,if_pos (h1.symm.trans e)];exact⟨h1,ry⟩
  ·rw[if_neg e,if_neg (fun z=>e (h1.trans z))];exact⟨h1,h2⟩
theorem KV.put {kvs:List (κ×V)}{vs:List (κ×Value)}(r:KV kvs vs)(k: κ){y:V}{u:Value}(ry:RelV y u):KV (putK kvs k y) (stored vs k u):=by
 unfold putK stored
 rw[r.any k]
 by_cases e:(vs.any fun kv=>decide (kv.1=k))=true
 ·rw[if_pos e,if_pos e];exact r.DJ k ry
 ·rw[if_neg e,if_neg e];exact Paired.snoc r ⟨rfl,ry⟩
theorem KV.length {kvs:List (κ×V)}{vs:List (κ×Value)}(r:KV kvs vs):kvs.length=vs.length:=Paired.length r
end
theorem jQ {P:Program}{w:World}{k:Key}{u:Value}(r:RelV (kV k) u):(bq P w).is k u=true:=by
 cases k with
 | inl i=>obtain⟨t,e⟩:=(show ∃t,u=Value.int i t from r);subst e;exact qk P w i t
 | inr x=>obtain⟨t,e⟩:=(show ∃t,u=Value.str x t from r);subst e;exact qx P w x t
theorem mH {P:Program}{w:World}:∀{ks:List Key} {us:List Value},Vals (ks.map kV) us->ItemsAre (bq P w) ks us
 | [],_,r=>by rw[List.map_nil] at r;cases r;exact .nil
 | k::ks,_,r=>by
  rw[Ub] at r
  cases r with
  | cons h t=>exact .cons (jQ h) (mH t)
noncomputable abbrev KT (H:Hp):List (List Key×V)->List (List Key×Addr×Value)->Prop:=Paired fun p q=>p.1=q.1/\H q.2.1=some (.tup (p.1.map kV))/\RelV p.2 q.2.2
theorem KT.val {H:Hp}{kvs:List (List Key×V)}{xs:List (List Key×Addr×Value)}(r:KT H kvs xs)(k:List Key):jY (aZ kvs k) ((atKey xs k).map (·.2)):=by
 induction r with
 | nil=>exact True.intro
 | @cons p q ps qs h t ih=>
  obtain⟨h1,_,h2⟩:=h
  by_cases e:p.1=k
  ·have e':q.1=k:=h1.symm.trans e
   have b:atKey (q::qs) k=some q.2:=by simp[atKey,List.find?_cons,e']
   rw[bW e,b];exact h2
  ·have e':¬q.1=k:=fun z=>e (h1.trans z)
   have b:atKey (q::qs) k=atKey qs k:=by simp[atKey,List.find?_cons,e']
   rw[bK e,b];exact ih
theorem KT.DJ {H:Hp}{kvs:List (List Key×V)}{xs:List (List Key×Addr×Value)}(r:KT H kvs xs)(k:List Key){y:V}{u:Value}(ry:RelV y u):
  KT H (kvs.map fun kv=>if kv.1=k then (kv.1,y) else kv) (xs.map (putAt k u)):=by
 induction r with
 | nil=>exact .nil
 | @cons p q ps qs h t ih=>
  rw[Ub,Ub]
  refine .cons ?_ ih
  obtain⟨h1,h2,h3⟩:=h
  unfold putAt
  by_cases e:p.1=k
  ·rw[if_pos e,if_pos (h1.symm.trans e)];exact⟨h1,h2,ry⟩
  ·rw[if_neg e,if_neg (fun z=>e (h1.trans z))];exact⟨h1,h2,h3⟩
theorem KT.put {H:Hp}{kvs:List (List Key×V)}{xs:List (List Key×Addr×Value)}(r:KT H kvs xs)(k:List Key){b:Addr}{y:V}{u:Value}(hb:H b=some (.tup (k.map kV)))(ry:RelV y u):
  KT H (putK kvs k y) (storedH xs k b u):=by
 have e:(kvs.any fun kv=>decide (kv.1=k))=(atKey xs k).isSome:=by
  rw[dY,(r.val k).eU,Option.isSome_map]
 unfold putK storedH
 rw[e]
 by_cases q:(atKey xs k).isSome=true
 ·rw[if_pos q,if_pos q];exact r.DJ k ry
 ·rw[if_neg q,if_neg q];exact Paired.snoc r ⟨rfl,hb,ry⟩
theorem KT.keeps {H H':Hp}{kvs:List (List Key×V)}{xs:List (List Key×Addr×Value)}(r:KT H kvs xs)(ht:∀b ys,H b=some (.tup ys)->H' b=some (.tup ys)):KT H' kvs xs:=
 Paired.Ei r fun _ _ z=>⟨z.1,ht _ _ z.2.1,z.2.2⟩
section
variable {P:Program}{w:World}{H:Hp}{h:Heap}{a:Addr}
theorem Cv {u:HO}(ok:eO P w H h)(e:Rd H a u):bf P w H h a u:=e.ok ok
theorem qj {kvs:List (Key×V)}(ok:eO P w H h)(e:Rd H a (.dK kvs)):kvs.length<=sizeLine/\(a==sysModules)=false/\∃vs,KV kvs vs/\h.DictOf (bq P w) a vs:=
 show bf P w H h a (.dK kvs) from Cv ok e
theorem yN {kvs:List (Key×V)}(ok:eO P w H h)(e:H a=some (.dK kvs)):kvs.length<=sizeLine/\(a==sysModules)=false/\∃vs,KV kvs vs/\h.DictOf (bq P w) a vs:=qj ok (.inl e)
theorem lT {ks:List Key}(ok:eO P w H h)(e:H a=some (.tup (ks.map kV))):(tupleKind (bq P w)).is h ks a:=by
 obtain⟨_,aw,r,o,h1,h2,n,h3⟩:=(show bf P w H h a (.tup (ks.map kV)) from ok a _ e)
 exact⟨o,aw.toArray,n,h1,h2,h3,by simpa using mH r⟩
theorem rp {kvs:List (List Key×V)}(ok:eO P w H h)(e:Rd H a (.dT kvs)):kvs.length<=sizeLine/\(a==sysModules)=false /\
  ∃xs,KT H kvs xs/\h.DictOfH (tupleKind (bq P w)) a xs:=by
 obtain⟨z,y,xs,r,o,es,ep,h1,h2,h3,h4,h5⟩:=(show bf P w H h a (.dT kvs) from Cv ok e)
 refine⟨z,y,xs,r,o,es,ep,h1,h2,h3,h4,fun x hx =>?_,h5⟩
 have all:∀{l:List (List Key×V)} {m:List (List Key×Addr×Value)},KT H l m->∀x∈m,(tupleKind (bq P w)).is h x.1 x.2.1:=by
  intro l m q
  induction q with
  | nil=>intro x hx;exact nomatch hx
  | @cons p q ps qs hq t ih=>
   intro x hx
   rcases Uc.mp hx with e|hx
   ·subst e
    exact lT ok (by rw[<-hq.1];exact hq.2.1)
   ·exact ih x hx
 exact all r x hx
theorem Gi {kvs:List (List Key×V)}(ok:eO P w H h)(e:H a=some (.dT kvs)):kvs.length<=sizeLine/\(a==sysModules)=false /\
  ∃xs,KT H kvs xs/\h.DictOfH (tupleKind (bq P w)) a xs:=rp ok (.inl e)
end
noncomputable def iJ (H:Hp)(a:Addr)(y:V)(r:Option V):Prop:=
 (cj fun kvs k=>Rd H a (.dK kvs)/\y=kV k/\r=aZ kvs k)∨iU fun kvs k b=>Rd H a (.dT kvs)/\y = .ref b/\H b=some (.tup (k.map kV))/\r=aZ kvs k
noncomputable def vW (H:Hp)(a:Addr)(y v:V)(H':Hp):Prop:=
 (cj fun kvs k=>H a=some (.dK kvs)/\y=kV k/\kvs.length<sizeLine/\H'=upd H a (.dK (putK kvs k v))) ∨
 iU fun kvs k b=>H a=some (.dT kvs)/\y = .ref b/\H b=some (.tup (k.map kV))/\kvs.length<sizeLine/\H'=upd H a (.dT (putK kvs k v))
theorem iJ.k {H:Hp}{a:Addr}{kvs:List (Key×V)}{k:Key}(e:H a=some (.dK kvs)):iJ H a (kV k) (aZ kvs k) := .inl ⟨kvs,k,.inl e,rfl,rfl⟩
theorem vW.k {H:Hp}{a:Addr}{kvs:List (Key×V)}{k:Key}{v:V}(e:H a=some (.dK kvs))(hl:kvs.length<sizeLine):vW H a (kV k) v (upd H a (.dK (putK kvs k v))) := .inl ⟨kvs,k,e,rfl,hl,rfl⟩
section
variable {X:Cx}{pins:List (Addr×Obj)}{σ:St}{H:Hp}{s:Shared}{a:Addr}{y v:V}{u r:Value}{o:Option V}{A:Around}{E:Value->Shared->Prop}
theorem Inv.big (I:Inv X pins σ H s):sysModules<s.heap.objs.size:=by
 have h:mainGlobals<s.heap.objs.size:=(I.mod.glob.keeps I.bk).lt
 exact Nat.lt_trans (by decide) h
theorem vM {Q:Value->Shared->Prop}(hu:A.units+1<cLine)(I:Inv X pins σ H s)(g:iJ H a y (some v))(ry:RelV y u)(h:∀w' s',Inv X pins σ H s'->RelV v w'->Q w' s'):
  wpAny (model X.prog X.w) A (getItem (.ref a) u) Q E s:=by
 rcases g with ⟨kvs,k,e,ey,l⟩|⟨kvs,k,b,e,ey,eb,l⟩
 ·subst ey
  obtain⟨z,hd,vs,rel,dd⟩:=qj I.aV e
  obtain⟨w',hw,rw'⟩:=jY.some_of (v:=v) (o:=valueAt vs k) (by rw[l];exact rel.val k)
  exact wpAny_getItem_of (jQ ry) dd.mapOf hw (h w' _ (I.tok _) rw')
 ·subst ey
  cases (show u=Value.ref b from ry)
  obtain⟨z,hd,xs,rel,dd⟩:=rp I.aV e
  obtain⟨w',hw,rw'⟩:=jY.some_of (v:=v) (o:=(atKey xs k).map (·.2)) (by rw[l];exact rel.val k)
  obtain⟨p,hp,nu⟩:=Option.map_eq_some_iff.mp hw
  refine wpAny_getItem_heap (tupleKind_room_in1 hu) (lT I.aV eb) dd hp ?_
  rw[nu]
  exact h w' _ (I.tok _) rw'
theorem K7 {Q:Value->Shared->Prop}(hu:A.units+1<cLine)(I:Inv X pins σ H s)(g:iJ H a y o)(ry:RelV y u)(h:∀s',Inv X pins σ H s'->Q (.bool o.isSome) s'):
  wpAny (model X.prog X.w) A (compareOp .In u (.ref a)) Q E s:=by
 rcases g with ⟨kvs,k,e,ey,l⟩|⟨kvs,k,b,e,ey,eb,l⟩
 ·subst ey
  obtain⟨z,hd,vs,rel,dd⟩:=qj I.aV e
  refine wpAny_in_of (jQ ry) hd dd.mapOf ?_
  rw[<-(rel.val k).eU,<-l]
  exact h _ (I.tok _)
 ·subst ey
  cases (show u=Value.ref b from ry)
  obtain⟨z,hd,xs,rel,dd⟩:=rp I.aV e
  refine wpAny_in_heap (tupleKind_room_in1 hu) (lT I.aV eb) hd dd ?_
  have q:=(rel.val k).eU
  rw[Option.isSome_map] at q
  rw[<-q,<-l]
  exact h _ (I.tok _)
theorem Bv {Q:Value->Shared->Prop}(hu:A.units+1<cLine)(I:Inv X pins σ H s)(g:iJ H a y o)(ry:RelV y u)(h:∀s',Inv X pins σ H s'->Q (.bool (!o.isSome)) s'):
  wpAny (model X.prog X.w) A (compareOp .NotIn u (.ref a)) Q E s:=by
 rcases g with ⟨kvs,k,e,ey,l⟩|⟨kvs,k,b,e,ey,eb,l⟩
 ·subst ey
  obtain⟨z,hd,vs,rel,dd⟩:=qj I.aV e
  refine wpAny_notIn_of (jQ ry) hd dd.mapOf ?_
  rw[<-(rel.val k).eU,<-l]
  exact h _ (I.tok _)
 ·subst ey
  cases (show u=Value.ref b from ry)
  obtain⟨z,hd,xs,rel,dd⟩:=rp I.aV e
  refine wpAny_notIn_heap (tupleKind_room_in1 hu) (lT I.aV eb) hd dd ?_
  have q:=(rel.val k).eU
  rw[Option.isSome_map] at q
  rw[<-q,<-l]
  exact h _ (I.tok _)
theorem i7 {h':Heap}{t':Nat}{ob:HO}(I:Inv X pins σ H s)(mu:Ge (H a))(hs:Y3 a s.heap h')(he:∃q,h'.get? a=some q)(new:bf X.prog X.w (upd H a ob) h' a ob):
  Inv X pins σ (upd H a ob) { s with heap:=h',toks:=t' }:=
 I.write (x:=a) (e:=a) mu (.inl rfl) (fun b q hb z=>(hs.2 b hb).trans z) he new
theorem oC {P:Program}{w:World}{H':Hp}{h':Heap}{kvs:List (Key×V)}{vs:List (Key×Value)}(z:kvs.length<=sizeLine)(hd:(a==sysModules)=false)(rel:KV kvs vs)(dd:h'.DictOf (bq P w) a vs):
  bf P w H' h' a (.dK kvs):=⟨z,hd,vs,rel,dd⟩
theorem wo {H':Hp}{Q:Unit->Shared->Prop}(hu:A.units+1<cLine)(I:Inv X pins σ H s)(g:vW H a y v H')(ry:RelV y u)(rv:RelV v r)(h:∀s',Inv X pins σ H' s'->Q () s'):
  wpAny (model X.prog X.w) A (setItem (.ref a) u r) Q E s:=by
 rcases g with ⟨kvs,k,e,ey,l,eH⟩|⟨kvs,k,b,e,ey,eb,l,eH⟩
 ·subst ey eH
  obtain⟨z,hd,vs,rel,dd⟩:=yN I.aV e
  have hz:vs.length<=sizeLine:=by rw[<-rel.length];exact z
  have hl:(putK kvs k v).length<=sizeLine:=by have:=eF kvs k v; (first|lia|omega)
  refine wpAny_setItem_pairs (hsz:=hz) (jQ ry) dd fun h' dd' hs=>h _ ?_
  have he:∃q,h'.get? a=some q:=let ⟨q,_,_,hq,_⟩:=dd'; ⟨q,hq⟩
  exact i7 I (by rw[e];exact True.intro) hs he (oC hl hd (rel.put k rv) dd')
 ·subst ey eH
  cases (show u=Value.ref b from ry)
  obtain⟨z,hd,xs,rel,dd⟩:=Gi I.aV e
  have hz:xs.length<=sizeLine:=by rw[<-Paired.length rel];exact z
  have hl:(putK kvs k v).length<=sizeLine:=by have:=eF kvs k v; (first|lia|omega)
  refine wpAny_setItem_heap (hsz:=hz) (tupleKind_room_in1 hu) (lT I.aV eb) dd fun h' dd' hs=>h _ ?_
  obtain⟨q,es,ep,hq,h2,h3,h4,_,h5⟩:=dd'
  refine i7 I (by rw[e];exact True.intro) hs ⟨q,hq⟩ ⟨hl,hd,_,(rel.put k eb rv).keeps fun c ys ec =>?_,q,es,ep,hq,h2,h3,h4,h5⟩
  rw[ao (Cp ec e (fun z=>nomatch z))]
  exact ec
end
noncomputable def Gw (i:Expr):Prop:=∀ov iv,subscripted i false ov iv=operate [ov,iv] (getItem ov iv)
theorem BD {prog:Program}{w:World}{A:Around}{E:Value->Shared->Prop}{s:Shared}{env:Env}{value slice:Expr}{pos:Pos}{T id:String}{Q:Value->Shared->Prop}
  (hl:typeLookup (.type T) "__getitem__" = pure (some (.builtin id))) (hs:Gw slice)
  (h:wpAny (model prog w) A (eval value env) (fun o s₁=>wpAny (model prog w) A (eval slice env) (fun i s₂=>s₂.TypeIs o T/\wpAny (model prog w) A (getItem o i) Q E s₂) E s₁) E s) :
  wpAny (model prog w) A (eval (.Subscript value slice pos) env) Q E s:=by
 refine Subscript_ (wpAny_mono h (fun o s₁ h₁=>wpAny_mono h₁ (fun i s₂ h₂ =>?_) fun _ _ x=>x) fun _ _ x=>x)
 obtain⟨hT,h₂⟩:=h₂
 unfold subscriptTail
 refine wpAny_bind ?_
 rw[getitemInPython_of_ne hT.not_modules]
 refine wpAny_bind (wpAny_specialOf hT hl ?_)
 have fin:wpAny (model prog w) A (subscripted slice false o i) (fun r s₃=>wpAny (model prog w) A (letTemporaryGo value o r >>= fun _=>pure r) Q E s₃) E s₂:=by
  rw[hs o i]
  exact wpAny_operating (wpAny_mono h₂ (fun r s₃ h₃=>wpAny_bind (wpAny_letTemporaryGo (wpAny_pure h₃))) fun _ _ x=>x)
 first
  | exact wpAny_pure (wpAny_bind fin)
  | exact wpAny_bind (wpAny_pure (wpAny_bind fin))
  | exact wpAny_bind fin
theorem pQ {X:Cx}{pins:List (Addr×Obj)}{σ:St}{H:Hp}{s:Shared}{a:Addr}{y:V}{o:Option V}(I:Inv X pins σ H s)(g:iJ H a y o):s.TypeIs (.ref a) "dict":=by
 rcases g with ⟨kvs,k,e,_,_⟩|⟨kvs,k,b,e,_,_,_⟩
 ·obtain⟨_,_,vs,_,dd⟩:=qj I.aV e
  exact dd.typeIs
 ·obtain⟨_,_,xs,_,dd⟩:=rp I.aV e
  exact dd.typeIs
noncomputable def Gj (td ty:TE):TE:=fun σ H Q=>td σ H fun x H1=>ty σ H1 fun y H2=>cj fun a v=>x = .ref a/\iJ H2 a y (some v)/\Q v H2
noncomputable def KZ (ty td:TE):TE:=fun σ H Q=>ty σ H fun y H1=>td σ H1 fun x H2=>cj fun a o=>x = .ref a/\iJ H2 a y o/\Q (.bl o.isSome) H2
noncomputable def BM (ty td:TE):TE:=fun σ H Q=>ty σ H fun y H1=>td σ H1 fun x H2=>cj fun a o=>x = .ref a/\iJ H2 a y o/\Q (.bl (!o.isSome)) H2
noncomputable def FW (td ty tv:TE):TS:=fun D σ H=>tv σ H fun v H1=>td σ H1 fun x H2=>ty σ H2 fun y H3=>cj fun a H4=>x = .ref a/\vW H3 a y v H4/\D.nx σ H4
section
variable {X:Cx}{o i e value:Expr}{pos pos' OX:Pos}{td ty tv:TE}
theorem dv (hu:X.A.units+1<cLine)(ho:PE X o td)(hi:PE X i ty)(hs:Gw i):PE X (.Subscript o i pos) (Gj td ty):=by
 intro pins s σ H Q I h
 refine BD PySem.F.slot_dict_getitem.lookup hs (aQ (ho s σ H _ I h) fun u s1 hz_=>ae.el hz_ _ fun x H1 I1 rx q1=>aQ (hi s1 σ H1 _ I1 q1) fun iv s2 hz_ =>?_)
 refine ae.el hz_ _ ?_
 clear hz_
 rintro y H2 I2 ry ⟨a,v,ex,g,q2⟩
 subst ex
 obtain rfl:u=Value.ref a:=rx
 exact⟨pQ I2 g,vM hu I2 g ry fun w' s3 I3 rw'=>⟨v,H2,I3,rw',q2⟩⟩
theorem DV (hu:X.A.units+1<cLine)(hi:PE X i ty)(ho:PE X o td):PC X .In i o (KZ ty td):=by
 intro pins s σ H Q I h
 refine aQ (hi s σ H _ I h) fun iv s1 hz_=>ae.el hz_ _ fun y H1 I1 ry q1=>aQ (ho s1 σ H1 _ I1 q1) fun u s2 hz_ =>?_
 refine ae.el hz_ _ ?_
 clear hz_
 rintro x H2 I2 rx ⟨a,ov,ex,g,q2⟩
 subst ex
 obtain rfl:u=Value.ref a:=rx
 exact K7 hu I2 g ry fun s3 I3=>⟨.bl ov.isSome,H2,I3,rfl,q2⟩
theorem dN (hu:X.A.units+1<cLine)(hi:PE X i ty)(ho:PE X o td):PC X .NotIn i o (BM ty td):=by
 intro pins s σ H Q I h
 refine aQ (hi s σ H _ I h) fun iv s1 hz_=>ae.el hz_ _ fun y H1 I1 ry q1=>aQ (ho s1 σ H1 _ I1 q1) fun u s2 hz_ =>?_
 refine ae.el hz_ _ ?_
 clear hz_
 rintro x H2 I2 rx ⟨a,ov,ex,g,q2⟩
 subst ex
 obtain rfl:u=Value.ref a:=rx
 exact Bv hu I2 g ry fun s3 I3=>⟨.bl (!ov.isSome),H2,I3,rfl,q2⟩
theorem An (hu:X.A.units+1<cLine)(ho:PE X o td)(hi:PE X i ty)(hv:PE X value tv)(hs:swapsWith value (some (.Subscript o i pos')) pos.line X.env=pure false):
  PS X (.Assign [.Subscript o i pos'] value pos) (FW td ty tv):=by
 intro pins s σ H D I h
 refine wpAny_Assign_Subscript (aQ (hv s σ H _ I h) fun r s1 ⟨v,H1,I1,rv,q1⟩=>aQ (ho s1 σ H1 _ I1 q1) fun u s2 ⟨x,H2,I2,rx,q2⟩=>aQ (hi s2 σ H2 _ I2 q2) fun iv s3 ⟨y,H3,I3,ry,a,H4,ex,g,q3⟩=>?_) hs
 subst ex
 obtain rfl:u=Value.ref a:=rx
 exact wo hu I3 g ry rv fun s4 I4=>⟨σ,H4,I4,q3⟩
end
theorem jb {P:Program}{w:World}{H:Hp}(h:Heap)(hb:sysModules<h.objs.size):bf P w H (h.push { cls := .type "dict",data := .dict #[] }) h.objs.size (.dK []):=
 ⟨Us _,beq_eq_false_iff_ne.mpr (Ne.symm (J3 hb)),[],.nil,Heap.DictOf.new h⟩
noncomputable def yY:TE:=fun _ H Q=>∀p,H p=none->Q (.ref p) (upd H p (.dK []))
section
variable {X:Cx}{pos:Pos}
theorem ym:PE X (.Dict [] [] pos) yY:=fun pins s σ H Q I h=>
 wpAny_Dict_empty ⟨.ref s.heap.objs.size,_,I.laid (a:=s.heap.objs.size) (o := .dK []) (t':=s.toks) (fun _ _ q=>Jd _ q) (Jc _) (jb s.heap I.big),rfl,h _ (I.aV.fresh (Jc _))⟩
end
noncomputable def kW:List (TE×TE)->St->Hp->(List (V×V)->Hp->Prop)->Prop
 | [],_,H,Q=>Q [] H
 | (tk,tv)::r,σ,H,Q=>tk σ H fun x H1=>tv σ H1 fun y H2=>kW r σ H2 fun ps H3=>Q ((x,y)::ps) H3
noncomputable abbrev VV:List (V×V)->List (Value×Value)->Prop:=Paired fun p q=>RelV p.1 q.1/\RelV p.2 q.2
noncomputable def G8 (X:Cx)(pos:Pos)(keys:List (Option Expr))(values:List Expr)(pX:List (TE×TE)):Prop:=
 ∀ ⦃pins:List (Addr×Obj)⦄ (s:Shared) (σ:St) (H:Hp) (Q:List (V×V)->Hp->Prop),Inv X pins σ H s->kW pX σ H Q ->
  wpAny (model X.prog X.w) X.A (evalPairs (pairTrees keys values X.env pos)) (fun vs s'=>cj fun ps H'=>Inv X pins σ H' s'/\VV ps vs/\Q ps H') X.xe s
theorem AX {X:Cx}{pos:Pos}:G8 X pos [] [] []:=fun pins s σ H Q I h=>pairTrees_nil_walk ⟨[],H,I,.nil,h⟩
theorem pE {X:Cx}{pos:Pos}{k v:Expr}{ks:List (Option Expr)}{vs:List Expr}{tk tv:TE}{pX:List (TE×TE)}(hk:PE X k tk)(hv:PE X v tv)(hr:G8 X pos ks vs pX):
  G8 X pos (some k::ks) (v::vs) ((tk,tv)::pX):=fun pins s σ H Q I h=>
 pairTrees_cons_walk (aQ (hk s σ H _ I h) fun u s1 hz_=>ae.el hz_ _ fun x H1 I1 rx q1=>aQ (hv s1 σ H1 _ I1 q1) fun w2 s2 ⟨y,H2,I2,ry,q2⟩=>
  aQ (hr s2 σ H2 _ I2 q2) fun ws s3 hz_=>ae.el hz_ _ fun ps H3 I3 rel q3=>⟨(x,y)::ps,H3,I3,.cons ⟨rx,ry⟩ rel,q3⟩)
noncomputable def cS (kvs more:List (Key×V)):List (Key×V):=more.foldl (fun acc kv=>putK acc kv.1 kv.2) kvs
theorem KV.merge:∀{more:List (Key×V)} {rs:List (Key×Value)} {kvs:List (Key×V)} {vs:List (Key×Value)},KV more rs->KV kvs vs->KV (cS kvs more) (merged vs rs):=by
 intro more rs kvs vs r
 unfold KV at r
 induction r generalizing kvs vs with
 | nil=>intro q;exact q
 | @cons p q ps qs h t ih=>
  intro r0
  have e:KV (putK kvs p.1 p.2) (stored vs q.1 q.2):=by
   have:=r0.put p.1 h.2
   rw[<-h.1];exact this
  exact ih e
theorem dq:∀(more kvs:List (Key×V)),(cS kvs more).length<=kvs.length+more.length
 | [],kvs=>by show kvs.length<=kvs.length+0; (first|lia|omega)
 | p::r,kvs=>by
  have h1:=dq r (putK kvs p.1 p.2)
  have h2:=eF kvs p.1 p.2
  show(cS (putK kvs p.1 p.2) r).length<=_
  rw[J8]; (first|lia|omega)
theorem lX {P:Program}{w:World}:∀{kvs:List (Key×V)} {ws:List (Value×Value)},VV (kvs.map fun kv=>(kV kv.1,kv.2)) ws->∃rs,Carries (bq P w) ws rs/\KV kvs rs
 | [],_,r=>by rw[List.map_nil] at r;cases r;exact⟨[],True.intro,.nil⟩
 | p::kvs,_,r=>by
  rw[Ub] at r
  cases r with
  | @cons a b as bs h t=>
   obtain⟨rs,c,q⟩:=lX (P:=P) (w:=w) t
   obtain⟨b1,b2⟩:=b
   exact⟨(p.1,b2)::rs,⟨jQ h.1,rfl,c⟩,.cons ⟨rfl,h.2⟩ q⟩
noncomputable def yL (pX:List (TE×TE)):TE:=fun σ H Q=>∀p,H p=none->kW pX σ (upd H p (.dK [])) fun ps H2=>H2 p=some (.dK [])/\∃kvs:List (Key×V),ps=kvs.map (fun kv=>(kV kv.1,kv.2))/\kvs.length<=15/\Q (.ref p) (upd H2 p (.dK (cS [] kvs)))
theorem AF {X:Cx}{pos:Pos}{keys:List (Option Expr)}{values:List Expr}{pX:List (TE×TE)}(h:G8 X pos keys values pX)(gY:keys.all (·.isSome)=true)(hl:keys.length=values.length)(h0:keys≠[])
  (Md:keys.length<=15):PE X (.Dict keys values pos) (yL pX):=by
 intro pins s σ H Q I q
 have hn:=I.aV.fresh (Jc s.heap.objs.size)
 have I1:=I.laid (a:=s.heap.objs.size) (o := .dK []) (h':=s.heap.push { cls := .type "dict",data := .dict #[] }) (t':=s.toks) (fun _ _ q=>Jd _ q) (Jc _) (jb s.heap I.big)
 refine wpAny_Dict_walk (knd:=bq X.prog X.w) gY hl h0 Md (aQ (h _ σ _ _ I1 (q _ hn)) fun ws s2 hz_=>ae.el hz_ _ fun ps H2 I2 rel e kvs ep lk q2 =>?_)
 subst ep
 obtain⟨rs,c,rk⟩:=lX (P:=X.prog) (w:=X.w) rel
 obtain⟨z,hd,vs0,r0,dd⟩:=yN I2.aV e
 cases r0
 refine⟨rs,c,dd,fun h' dd' hs=>⟨.ref s.heap.objs.size,_,?_,rfl,q2⟩⟩
 have hz:(cS [] kvs).length<=sizeLine:=by
  have h1:=dq kvs []
  rw[Yy] at h1
  rw[sizeLine_eq]; (first|lia|omega)
 have he:∃q,h'.get? s.heap.objs.size=some q:=let ⟨q,_,_,hq,_⟩:=dd'; ⟨q,hq⟩
 exact i7 I2 (by rw[e];exact True.intro) hs he (oC hz hd (rk.merge .nil) dd')
end L2
namespace HT
open PySem PyProof.Rows
section
variable {prog:Program}{w:World}{A:Around}{E:Value->Shared->Prop}{s:Shared}
noncomputable def qA (n d:Nat):Option Int->Nat
 | none=>d
 | some v=>if v<0 then (v+(n:Int)).toNat else min v.toNat n
theorem qo (n d:Nat):qA n d none=d:=rfl
theorem uf (n d k:Nat):qA n d (some (k:Int))=min k n:=by
 show(if (k:Int)<0 then ((k:Int)+(n:Int)).toNat else min (k:Int).toNat n)=min k n
 rw[if_neg (by first|lia|omega),Yi]
end
end HT
namespace L2
open PySem PySem.Spec PyProof.Rows
noncomputable abbrev TO:=St->Hp->(Option Int->Hp->Prop)->Prop
noncomputable def PO (X:Cx)(e:Option Expr)(t:TO):Prop:=
 ∀ ⦃pins:List (Addr×Obj)⦄ (s:Shared) (σ:St) (H:Hp) (Q:Option Int->Hp->Prop),Inv X pins σ H s->t σ H Q ->
  wpAny (model X.prog X.w) X.A (evalPart e X.env) (fun u s'=>cj fun o H'=>Inv X pins σ H' s'/\IsPart u o/\Q o H') X.xe s
noncomputable def dr:TO:=fun _ H Q=>Q none H
noncomputable def yZ (t:TE):TO:=fun σ H Q=>t σ H fun x H1=>∃i,x = .int i/\Q (some i) H1
section
variable {X:Cx}{e:Expr}{te:TE}{lo hi:Option Expr}{tl th:TO}{pos p2:Pos}
theorem bQ:PO X none dr:=by
 intro pins s σ H Q I h
 rw[evalPart_none]
 exact wpAny_pure ⟨none,H,I,.none,h⟩
theorem bN (h:PE X e te):PO X (some e) (yZ te):=by
 intro pins s σ H Q I hw
 rw[evalPart_some]
 refine aQ (h s σ H _ I hw) fun u s1 hz_ =>?_
 refine ae.el hz_ _ ?_
 clear hz_
 rintro x H1 I1 r1 q1
 obtain⟨i,rfl,q⟩:=q1
 obtain⟨t,rfl⟩:=r1
 exact⟨some i,H1,I1,.int i t,q⟩
noncomputable def zQ (X:Cx)(r:V->Option Int->Option Int->Hp->VK->Prop):Prop:=
 ∀ ⦃pins:List (Addr×Obj)⦄ (s:Shared) (σ:St) (H:Hp) (x:V) (v vl vu:Value) (lo hi:Option Int) (sl:Addr) (Q:VK),Inv X pins σ H s->RelV x v->s.heap.IsSliceOf sl vl vu .none->IsPart vl lo->IsPart vu hi->r x lo hi H Q ->
  cj fun T id=>typeLookup (.type T) "__getitem__" = pure (some (.builtin id))/\s.TypeIs v T/\wpAny (model X.prog X.w) X.A (getItem v (.ref sl)) (EP X pins σ Q) X.xe s
theorem zQ.or {r r':V->Option Int->Option Int->Hp->VK->Prop}(h:zQ X r)(h':zQ X r'):zQ X (fun x lo hi H Q=>r x lo hi H Q∨r' x lo hi H Q):=by
 intro pins s σ H x v vl vu lo hi sl Q I rx hs pl pu q
 rcases q with q|q
 ·exact h s σ H x v vl vu lo hi sl Q I rx hs pl pu q
 ·exact h' s σ H x v vl vu lo hi sl Q I rx hs pl pu q
noncomputable def JR (r:V->Option Int->Option Int->Hp->VK->Prop)(te:TE)(tl th:TO):TE:=fun σ H Q=>te σ H fun x H1=>tl σ H1 fun l H2=>th σ H2 fun u H3=>r x l u H3 Q
theorem bC {r:V->Option Int->Option Int->Hp->VK->Prop}(hr:zQ X r)(he:PE X e te)(hl:PO X lo tl)(hu:PO X hi th):PE X (.Subscript e (.Slice lo hi none p2) pos) (JR r te tl th):=by
 intro pins s σ H Q I h
 refine Subscript_ (aQ (he s σ H _ I h) fun v s1 hz_ =>?_)
 refine ae.el hz_ _ ?_
 clear hz_
 rintro x H1 I1 r1 q1
 refine wpAny_Slice (aQ (hl s1 σ H1 _ I1 q1) fun vl s2 hz_=>ae.el hz_ _ fun l H2 I2 pl q2=>aQ (hu s2 σ H2 _ I2 q2) fun vu s3 hz_ =>?_)
 refine ae.el hz_ _ ?_
 clear hz_
 rintro u H3 I3 pu q3
 rw[evalPart_none]
 refine wpAny_pure ?_
 have I4:Inv X pins σ H3 { s3 with heap:=s3.heap.push { cls := .type "slice",data := .fields #[vl,vu,.none] } }:=I3.kept (t':=s3.toks) fun b ob q=>Jd _ q
 obtain⟨T,id,hT,ht,hg⟩:=hr { s3 with heap:=s3.heap.push { cls := .type "slice",data := .fields #[vl,vu,.none] } } σ H3 x v vl vu l u s3.heap.objs.size Q I4 r1 (Heap.IsSliceOf.new ..) pl pu q3
 show wpAny (model X.prog X.w) X.A (subscriptTail e (.Slice lo hi none p2) v (.ref s3.heap.objs.size)) (EP X pins σ Q) X.xe { s3 with heap:=s3.heap.push { cls := .type "slice",data := .fields #[vl,vu,.none] } }
 exact tail_any (ops:=[.ref s3.heap.objs.size,v]) ht hT hg (by with_unfolding_all rfl)
noncomputable def lF (xs:List V)(lo hi:Option Int):List V:=(xs.drop (HT.qA xs.length 0 lo)).take (HT.qA xs.length xs.length hi-HT.qA xs.length 0 lo)
theorem pj (xs:List V)(lo hi:Option Int):(lF xs lo hi).length<=xs.length:=by
 unfold lF
 rw[Jw,Ud]
 (first|lia|omega)
end
noncomputable def xg (n:Nat)(i:Int):Option Nat:=if 0<=i then (if i<n then some i.toNat else none) else if -(n:Int)<=i then some (i+n).toNat else none
noncomputable def o8 {α:Type}(xs:List α)(i:Int):Option α:=(xg xs.length i).bind fun j=>xs[j]?
theorem oV {n:Nat}{i:Int}{j:Nat}(h:xg n i=some j):seqIndex? i n=some j/\j<n /\ -(n:Int)<=i/\i<n:=by
 unfold xg at h
 by_cases h0:0<=i
 ·rw[if_pos h0] at h
  by_cases h1:i<n
  ·rw[if_pos h1] at h
   have e:i.toNat=j:=Option.some.inj h
   exact⟨by rw[seqIndex_of h0 h1,e],by first|lia|omega,by first|lia|omega,h1⟩
  ·rw[if_neg h1] at h;cases h
 ·rw[if_neg h0] at h
  by_cases h1: -(n:Int)<=i
  ·rw[if_pos h1] at h
   have e:(i+n).toNat=j:=Option.some.inj h
   exact⟨by rw[seqIndex_neg (by first|lia|omega) h1,e],by first|lia|omega,h1,by first|lia|omega⟩
  ·rw[if_neg h1] at h;cases h
theorem kj {α:Type}{xs:List α}{i:Int}{v: α}(h:o8 xs i=some v):∃j,seqIndex? i xs.length=some j/\xs[j]? = some v/\j<xs.length /\ -(xs.length:Int)<=i/\i<xs.length:=by
 unfold o8 at h
 cases e:xg xs.length i with
 | none=>rw[e] at h;cases h
 | some j=>
  rw[e] at h
  obtain⟨h1,h2,h3,h4⟩:=oV e
  exact⟨j,h1,h,h2,h3,h4⟩
theorem nO {α:Type}{xs:List α}{j:Nat}{v: α}(h:xs[j]? = some v):o8 xs (j:Int)=some v:=by
 have hj:j<xs.length:=(Js.mp h).1
 have e:xg xs.length (j:Int)=some j:=by
  unfold xg
  rw[if_pos (by first|lia|omega),if_pos (by first|lia|omega)];simp
 unfold o8;rw[e];exact h
noncomputable def B3 (b:Expr):Prop:=∀o i,subscripted b false o i=operate [o,i] (getItem o i)
noncomputable def zY (X:Cx)(r:R2):Prop:=
 ∀ ⦃value slice:Expr⦄ ⦃pins:List (Addr×Obj)⦄ (s:Shared) (σ:St) (H:Hp) (x y:V) (v u:Value) (Q:VK),Inv X pins σ H s->RelV x v->RelV y u->r x y H Q ->
  subscripted slice false v u=operate [v,u] (getItem v u)->wpAny (model X.prog X.w) X.A (subscriptTail value slice v u) (EP X pins σ Q) X.xe s
noncomputable def FF (X:Cx)(id:String)(r:V->List V->Hp->VK->Prop):Prop:=
 ∀ ⦃pins:List (Addr×Obj)⦄ (s:Shared) (σ:St) (H:Hp) (x:V) (xs:List V) (v:Value) (us:List Value) (Q:VK),Inv X pins σ H s->RelV x v->Vals xs us->r x xs H Q ->
  wpAny (model X.prog X.w) X.A (call (.builtin id) (v::us)) (EP X pins σ Q) X.xe s
section
variable {X:Cx}{a b:Expr}{ta tb:TE}{pos:Pos}
theorem zY.or {r r':R2}(h:zY X r)(h':zY X r'):zY X (fun x y H Q=>r x y H Q∨r' x y H Q):=by
 intro value slice pins s σ H x y v u Q I rx ry q hs
 rcases q with q|q
 ·exact h s σ H x y v u Q I rx ry q hs
 ·exact h' s σ H x y v u Q I rx ry q hs
theorem bt {r:R2}(hr:zY X r)(ha:PE X a ta)(hb:PE X b tb)(hs:B3 b):PE X (.Subscript a b pos) (zZ r ta tb):=by
 intro pins s σ H Q I h
 exact Subscript_ (E7 ha hb I h fun v u s2 x y H2 I2 rx ry q=>hr s2 σ H2 x y v u Q I2 rx ry q (hs _ _))
noncomputable def GQ (K:Ja):R2:=fun x y H Q=>pd fun p xs i v=>x = .ref p/\y = .int i/\aG K H p xs/\o8 xs i=some v/\Q v H
noncomputable def FP (K:Ja):R2:=fun x y H Q=>pd fun p xs i v=>x = .ref p/\y = .int i/\d9 K H p xs/\o8 xs i=some v/\Q v H
noncomputable def IC:R2:=fun x y H Q=>iU fun z i c=>x = .str z/\y = .int i/\z.length<=sizeLine/\o8 z.cps.toList i=some c/\Q (.str ⟨#[c]⟩) H
theorem A4:zY X (GQ X.K):=by
 intro value slice pins s σ H x y v u Q I rx ry h hs
 obtain⟨p,xs,i,z,rfl,rfl,hq,he,q⟩:=h
 cases rx
 obtain⟨t,rfl⟩:=ry
 obtain⟨aw,r,pl,hz⟩:=I.list hq
 obtain⟨j,h1,h2,h3,h4,h5⟩:=kj he
 obtain⟨w,ew,rw'⟩:=r.get h2
 have hl:=r.length
 have hn:=iC
 have fin:EP X pins σ Q w s:=⟨z,H,I,rw',q⟩
 by_cases h0:0<=i
 ·have hj:i.toNat=j:=by
   rw[seqIndex_of h0 h5] at h1
   exact Option.some.inj h1
  exact item_listR pl.isList h0 (by first|lia|omega) (by rw[hj];simpa using ew) fin hs
 ·have hj:(i+(aw.toArray.size:Int)).toNat=j:=by
   rw[seqIndex_neg (by first|lia|omega) h4] at h1
   rw[Jn,<-hl]
   exact Option.some.inj h1
  exact subscriptTail_builtinR (x:=w) pl.isList.typeIs slot_list_getitem.lookup
   (wpAny_getItem_list_neg (Q:=fun r s'=>r=w/\EP X pins σ Q r s') pl.isList (by first|lia|omega) (by rw[Jn]<;>(first|lia|omega)) (by first|lia|omega) (by rw[hj];simpa using ew) ⟨rfl,fin⟩) hs
theorem Eb:zY X (FP X.K):=by
 intro value slice pins s σ H x y v u Q I rx ry h hs
 obtain⟨p,xs,i,z,rfl,rfl,hq,he,q⟩:=h
 cases rx
 obtain⟨t,rfl⟩:=ry
 obtain⟨aw,r,pl,hz⟩:=I.tuple hq
 obtain⟨j,h1,h2,h3,h4,h5⟩:=kj he
 obtain⟨w,ew,rw'⟩:=r.get h2
 have hl:=r.length
 have hn:=iC
 have fin:EP X pins σ Q w s:=⟨z,H,I,rw',q⟩
 exact subscriptTail_builtinR (x:=w) pl.typeIs slot_tuple_getitem.lookup
  (getItem_tuple (j:=j) (Q:=fun r s'=>r=w/\EP X pins σ Q r s') pl (by first|lia|omega) (by first|lia|omega) (by rw[Jn,<-hl];exact h1) (by simpa using ew) ⟨rfl,fin⟩) hs
theorem Dm:zY X IC:=by
 intro value slice pins s σ H x y v u Q I rx ry h hs
 obtain⟨z,i,c,rfl,rfl,hz,he,q⟩:=h
 obtain⟨t,rfl⟩:=rx
 obtain⟨t',rfl⟩:=ry
 obtain⟨j,h1,h2,h3,h4,h5⟩:=kj he
 have hl:z.cps.toList.length=z.length:=by simp[Str.length]
 rw[hl] at h1 h4 h5
 have hn:=iC
 exact tail_any (typeIs_str s z t) slot_str_getitem.lookup (getItem_str (c:=c) (by
  have e1:decide (i < -(2^63:Int))=false:=decide_eq_false (by first|lia|omega)
  have e2:decide (i>=2^63)=false:=decide_eq_false (by first|lia|omega)
  rw[e1,e2,Bool.or_false]) (by rw[h1];simpa using h2) ⟨.str ⟨#[c]⟩,H,I.tok _,⟨_,rfl⟩,q⟩) hs
noncomputable def Fw (K:Ja):R2:=fun x y H Q=>GQ K x y H Q∨FP K x y H Q∨IC x y H Q
theorem C0:zY X (Fw X.K):=A4.or (Eb.or Dm)
theorem sT (aw:List Value)(n j:Nat)(u:Value):Obj.mapSeq (·.setIfInBounds j u) { cls := .type "list",data := .seq aw.toArray n } = { cls := .type "list",data := .seq (aw.set j u).toArray n }:=by
 simp[Obj.mapSeq]
theorem Inv.lst {pins:List (Addr×Obj)}{σ:St}{H:Hp}{s:Shared}{p:Addr}{xs:List V}(I:Inv X pins σ H s)(h:H p=some (.lst xs)):
  ∃(aw:List Value) (n:Nat),Vals xs aw/\s.heap.get? p=some { cls := .type "list",data := .seq aw.toArray n } /\ xs.length<=sizeLine:=by
 obtain⟨z,aw,n,r,e⟩:=I.aV p _ h
 exact⟨aw,n,r,e,z⟩
theorem Inv.ED {pins:List (Addr×Obj)}{σ:St}{H:Hp}{s:Shared}{p:Addr}{xs ys:List V}{aw its':List Value}{n n':Nat}{f:Obj->Obj}(I:Inv X pins σ H s)(h:H p=some (.lst xs))
  (ho:s.heap.get? p=some { cls := .type "list",data := .seq aw.toArray n }) (hf:f { cls := .type "list",data := .seq aw.toArray n } = { cls := .type "list",data := .seq its'.toArray n' }) (r:Vals ys its') (hz:ys.length<=sizeLine) (t:Nat) :
  Inv X pins σ (upd H p (.lst ys)) { s with heap:=s.heap.update p f,toks:=t }:=by
 have e:(s.heap.update p f).get? p=some { cls := .type "list",data := .seq its'.toArray n' }:=by
  rw[Uu f ho (by rw[hf]<;>rfl),hf]
 refine I.write (x:=p) (e:=p) (by rw[h];trivial) (.inl rfl) (fun b u hb q=>(Uq _ _ (Ne.symm hb)).trans q) ⟨_,e⟩ ?_
 exact⟨hz,its',n',r,e⟩
noncomputable def Gx:V->V->V->Hp->(Hp->Prop)->Prop:=fun o i v H Q=>pd fun p xs k j=>o = .ref p/\i = .int k/\H p=some (.lst xs)/\xg xs.length k=some j/\Q (upd H p (.lst (xs.set j v)))
theorem set_list:Ia X Gx:=by
 intro pins s σ H o i v ov iv u Q I ro ri rv h
 obtain⟨p,xs,k,j,rfl,rfl,hp,hj,q⟩:=h
 cases ro
 obtain⟨t,rfl⟩:=ri
 obtain⟨aw,n,r,ho,hz⟩:=I.lst hp
 obtain⟨h1,h2,h3,h4⟩:=oV hj
 have hl:=r.length
 have hn:=iC
 have I':Inv X pins σ (upd H p (.lst (xs.set j v))) { s with heap:=s.heap.update p (Obj.mapSeq (·.setIfInBounds j u)) }:=
  I.ED hp ho (sT aw n j u) (r.set rv j) (by rw[List.length_set];exact hz) s.toks
 by_cases h0:0<=k
 ·have hk:k.toNat=j:=by
   rw[seqIndex_of h0 h4] at h1
   exact Option.some.inj h1
  exact PySem.W.ki_setAt ho h0 (by first|lia|omega) (by rw[Jn,<-hl];exact h4) (by rw[hk];exact⟨_,I',q⟩)
 ·have hk:(k+(aw.toArray.size:Int)).toNat=j:=by
   rw[seqIndex_neg (by first|lia|omega) h3] at h1
   rw[Jn,<-hl]
   exact Option.some.inj h1
  exact PySem.W.ki_setBack ho (by first|lia|omega) (by rw[Jn,<-hl];exact h3) (by first|lia|omega) (by rw[hk];exact⟨_,I',q⟩)
theorem ow (lo hi:Option Int)(n:Nat):(sliceBounds lo hi none n).1=((HT.qA n 0 lo:Nat):Int)/\(sliceBounds lo hi none n).2.1=((HT.qA n n hi:Nat):Int)/\(sliceBounds lo hi none n).2.2=1:=by
 refine⟨?_,?_,rfl⟩
 ·cases lo with
  | none=>simp[sliceBounds,HT.qA]
  | some i=>
   simp only[sliceBounds,HT.qA,Option.getD_none,show(1:Int)>0 by decide,if_true]
   by_cases h:i<0
   ·simp only[h,if_true]<;>(first|lia|omega)
   ·simp only[h,if_false]<;>(first|lia|omega)
 ·cases hi with
  | none=>simp[sliceBounds,HT.qA]
  | some i=>
   simp only[sliceBounds,HT.qA,Option.getD_none,show(1:Int)>0 by decide,if_true]
   by_cases h:i<0
   ·simp only[h,if_true]<;>(first|lia|omega)
   ·simp only[h,if_false]<;>(first|lia|omega)
theorem mn (aw:List Value)(lo hi:Option Int):slicePick aw.toArray lo hi none=((aw.drop (HT.qA aw.length 0 lo)).take (HT.qA aw.length aw.length hi-HT.qA aw.length 0 lo)).toArray:=by
 obtain⟨h1,h2,h3⟩:=ow lo hi aw.toArray.size
 unfold slicePick
 rw[h1,h2,h3]
 simp only[sliceRange_one,pick_run,Jn]<;>rfl
noncomputable def Ej (K:Ja):V->Option Int->Option Int->Hp->VK->Prop:=fun x lo hi H Q=>cj fun a xs=>x = .ref a/\aG K H a xs/\∀p,H p=none->Q (.ref p) (upd H p (.lst (lF xs lo hi)))
theorem A9:zQ X (Ej X.K):=by
 intro pins s σ H x v vl vu lo hi sl Q I rx hs pl pu h
 obtain⟨a,xs,rfl,hx,q⟩:=h
 cases rx
 obtain⟨aw,r,ht,hz⟩:=I.list hx
 have hlen:=r.length
 refine⟨"list",_,slot_list_getitem.lookup,ht.isList.typeIs,?_⟩
 refine wpAny_getItem_list_slice ht.isList hs pl pu .none (by simp) ?_ (by rw[Jn]<;>(first|lia|omega))
 rw[mn,<-hlen]
 refine⟨.ref s.heap.objs.size,_,I.laid (t':=s.toks) (o := .lst (lF xs lo hi)) (fun b ob q=>Jd _ q) (Jc _) ?_,rfl,q _ (I.aV.fresh (Jc _))⟩
 exact⟨Jp (pj xs lo hi) hz,_,0,(r.drop (HT.qA xs.length 0 lo)).take (HT.qA xs.length xs.length hi-HT.qA xs.length 0 lo),Jy _ rfl⟩
noncomputable def iM:V->Bool
 | .non=>true
 | .bl _=>true
 | .int _=>true
 | .str _=>true
 | _=>false
noncomputable def Ci:V->V->Bool
 | .non,.non=>true
 | .bl a,.bl b=>a==b
 | .bl a,.int b=>(if a then 1 else 0)==b
 | .int a,.bl b=>a==(if b then 1 else 0)
 | .int a,.int b=>a==b
 | .str a,.str b=>a==b
 | _,_=>false
theorem Dp {A:Around}{s:Shared}{y x:V}{u v:Value}(ry:RelV y u)(rx:RelV x v)(fy:iM y=true)(fx:iM x=true):SeqAt.EqAt A s u v (Ci y x):=by
 cases y with
 | non=>
  cases ry
  cases x with
  | non=>cases rx;exact SeqAt.EqAt.same _
  | bl b=>cases rx;exact SeqAt.EqAt.none_bool b
  | int b=>obtain⟨t,rfl⟩:=rx;exact SeqAt.EqAt.none_int b t
  | str b=>obtain⟨t,rfl⟩:=rx;exact SeqAt.EqAt.none_str b t
  | _=>exact absurd (show false=true from fx) Jo
 | bl a=>
  cases ry
  cases x with
  | non=>cases rx;exact SeqAt.EqAt.bool_none a
  | bl b=>cases rx;exact SeqAt.EqAt.bool_bool a b
  | int b=>obtain⟨t,rfl⟩:=rx;exact SeqAt.EqAt.bool_int a b t
  | str b=>obtain⟨t,rfl⟩:=rx;exact SeqAt.EqAt.bool_str a b t
  | _=>exact absurd (show false=true from fx) Jo
 | int a=>
  obtain⟨t',rfl⟩:=ry
  cases x with
  | non=>cases rx;exact SeqAt.EqAt.int_none a t'
  | bl b=>cases rx;exact SeqAt.EqAt.int_bool a t' b
  | int b=>obtain⟨t,rfl⟩:=rx;exact SeqAt.EqAt.int_int a t' b t
  | str b=>obtain⟨t,rfl⟩:=rx;exact SeqAt.EqAt.int_str a t' b t
  | _=>exact absurd (show false=true from fx) Jo
 | str a=>
  obtain⟨t',rfl⟩:=ry
  cases x with
  | non=>cases rx;exact SeqAt.EqAt.str_none a t'
  | bl b=>cases rx;exact SeqAt.EqAt.str_bool a t' b
  | int b=>obtain⟨t,rfl⟩:=rx;exact SeqAt.EqAt.str_int a t' b t
  | str b=>obtain⟨t,rfl⟩:=rx;exact SeqAt.EqAt.str_str a t' b t
  | _=>exact absurd (show false=true from fx) Jo
 | _=>exact absurd (show false=true from fy) Jo
noncomputable def Aq (x:V)(u:Value):Bool:=match u with
 | .none=>Ci .non x
 | .bool b=>Ci (.bl b) x
 | .int i _=>Ci (.int i) x
 | .str z _=>Ci (.str z) x
 | _=>false
theorem xM {x y:V}{u:Value}(r:RelV y u)(f:iM y=true):Aq x u=Ci y x:=by
 cases y with
 | non=>cases r;rfl
 | bl b=>cases r;rfl
 | int i=>obtain⟨t,rfl⟩:=r;rfl
 | str z=>obtain⟨t,rfl⟩:=r;rfl
 | _=>exact absurd (show false=true from f) Jo
theorem nP {x:V}:∀{xs:List V} {us:List Value},Vals xs us->xs.all iM=true->us.any (Aq x)=xs.any fun y=>Ci y x
 | _,_,.nil,_=>rfl
 | y::xs,u::us,.cons r t,f=>by
  rw[List.all_cons,Yo] at f
  rw[List.any_cons,List.any_cons,xM r f.1,nP t f.2]
theorem lB {A:Around}{s:Shared}{x:V}{v:Value}(rx:RelV x v)(fx:iM x=true):∀{xs:List V} {us:List Value},Vals xs us->xs.all iM=true->∀u∈us,SeqAt.EqAt A s u v (Aq x u)
 | _,_,.nil,_=>fun u hu=>by cases hu
 | y::xs,u::us,.cons r t,f=>fun u' hu=>by
  rw[List.all_cons,Yo] at f
  rcases Uc.mp hu with rfl|hu
  ·rw[xM r f.1];exact Dp r rx f.1 fx
  ·exact lB rx fx t f.2 u' hu
noncomputable def Ez (x:V)(xs:List V):Bool:=xs.any fun y=>Ci y x
noncomputable def NV (K:Ja)(neg:Bool):R2:=fun x y H Q=>cj fun p xs=>y = .ref p/\(aG K H p xs∨d9 K H p xs)/\iM x=true/\xs.all iM=true/\Q (.bl (if neg then !Ez x xs else Ez x xs)) H
theorem nM:dM X (compareOp .NotIn) (NV X.K true):=by
 intro pins s σ H x y v u Q I rx ry h
 obtain⟨p,xs,rfl,hq,fx,fs,q⟩:=h
 cases ry
 rcases hq with hq|hq
 ·obtain⟨aw,r,pl,hz⟩:=I.list hq
  refine SeqAt.notIn_listAt (Aq x) pl.isList (fun w hw=>lB rx fx r fs w (by simpa using hw)) ⟨.bl _,H,I,rfl,?_⟩
  rw[show aw.toArray.any (Aq x)=aw.any (Aq x) by simp,nP r fs]
  exact q
 ·obtain⟨aw,r,pl,hz⟩:=I.tuple hq
  refine SeqAt.notIn_tupleAt (Aq x) pl (fun w hw=>lB rx fx r fs w (by simpa using hw)) ⟨.bl _,H,I,rfl,?_⟩
  rw[show aw.toArray.any (Aq x)=aw.any (Aq x) by simp,nP r fs]
  exact q
theorem bZ.or {f:Value}{r r':List V->Hp->VK->Prop}(h:bZ X f r)(h':bZ X f r'):bZ X f (fun xs H Q=>r xs H Q∨r' xs H Q):=by
 intro pins s σ H xs us Q I rs q
 rcases q with q|q
 ·exact h s σ H xs us Q I rs q
 ·exact h' s σ H xs us Q I rs q
theorem ox:bZ X (.type "list") (fun xs H Q=>∃p ys,xs=[.ref p]/\(aG X.K H p ys∨d9 X.K H p ys)/\∀l,H l=none->Q (.ref l) (upd H l (.lst ys))):=by
 intro pins s σ H xs us Q I r h
 obtain⟨p,ys,rfl,hq,q⟩:=h
 obtain⟨u,rfl,rx⟩:=vals1 r
 cases rx
 have fin:∀(aw:List Value),Vals ys aw->ys.length<=sizeLine->∀(h':Heap) (c':Nat),(∀b o',s.heap.get? b=some o'->h'.get? b=some o') ->
   h'.get? s.heap.objs.size=some { cls := .type "list",dict:=none,data := .seq aw.toArray c',slots := #[] } -> EP X pins σ Q (.ref s.heap.objs.size) { s with heap:=h' }:=fun aw r' hz h' c' kp e=>
  ⟨.ref s.heap.objs.size,_,I.laid (t':=s.toks) kp (Jc _) (show bf X.prog X.w _ h' _ (.lst ys) from⟨hz,aw,c',r',e⟩),rfl,q _ (I.aV.fresh (Jc _))⟩
 rcases hq with hq|hq
 ·obtain⟨aw,r',pl,hz⟩:=I.list hq
  have hlen:=r'.length
  obtain⟨o,ho,hc,n,hd⟩:=pl.isList
  exact call_list_seq p (.inl rfl) ho hc hd (fun h' c' kp e=>fin aw r' hz h' c' kp e) (by simp only[Jn]<;>(first|lia|omega))
 ·obtain⟨aw,r',pl,hz⟩:=I.tuple hq
  have hlen:=r'.length
  obtain⟨o,ho,hc,n,hd⟩:=pl
  exact call_list_seq p (.inr rfl) ho hc hd (fun h' c' kp e=>fin aw r' hz h' c' kp e) (by simp only[Jn]<;>(first|lia|omega))
theorem md:bZ X (.type "tuple") (fun xs H Q=>∃p ys,xs=[.ref p]/\((aG X.K H p ys/\∀l,H l=none->Q (.ref l) (upd H l (.tup ys)))∨(d9 X.K H p ys/\Q (.ref p) H))):=by
 intro pins s σ H xs us Q I r h
 obtain⟨p,ys,rfl,h⟩:=h
 obtain⟨u,rfl,rx⟩:=vals1 r
 cases rx
 rcases h with ⟨hq,q⟩|⟨hq,q⟩
 ·obtain⟨aw,r',pl,hz⟩:=I.list hq
  have hlen:=r'.length
  refine call_tuple_list pl.isList (fun h' kp =>?_) (by simp only[Jn]<;>(first|lia|omega))
  have I1:Inv X pins σ H { s with heap:=h' }:=I.kept (t':=s.toks) kp
  have I2:Inv X pins σ (upd H h'.objs.size (.tup ys)) { s with heap:=h'.push { cls := .type "tuple",data := .seq aw.toArray } }:=
   I1.laid (t':=s.toks) (fun b o e=>Jd _ e) (Jc _) (show bf X.prog X.w _ _ _ (.tup ys) from⟨hz,aw,r',IsTup.new _ _⟩)
  exact⟨.ref h'.objs.size,_,I2,rfl,q _ (I1.aV.fresh (Jc _))⟩
 ·obtain⟨aw,r',pl,hz⟩:=I.tuple hq
  exact call_tuple_same pl ⟨.ref p,H,I,rfl,q⟩
noncomputable def N7 (K:Ja)(T:String)(x:V)(H:Hp):Prop:=match x with
 | .str _=>T = "str"
 | .int _=>T = "int"
 | .ref p=>(T = "list" /\ ∃xs,aG K H p xs)∨(T = "tuple" /\ ∃o,K.lookup p=some o/\o.cls = .type "tuple" /\ o.dict=none) ∨
   (T = "dict" /\ ((∃kvs,H p=some (.dK kvs))∨∃kvs,H p=some (.dT kvs)))∨(T = "set" /\ cj fun S n=>H p=some (.set S n))
 | _=>False
theorem Ek {pins:List (Addr×Obj)}{σ:St}{H:Hp}{s:Shared}{T:String}{x:V}{v:Value}(I:Inv X pins σ H s)(r:RelV x v)(ty:N7 X.K T x H):
  s.TypeIs v T/\∀a,v = .ref a->∃ob,s.heap.get? a=some ob/\ob.dict=none:=by
 cases x with
 | str z=>
  obtain⟨t,rfl⟩:=r
  cases (show T = "str" from ty)
  exact⟨typeIs_str s z t,fun _ e=>nomatch e⟩
 | int i=>
  obtain⟨t,rfl⟩:=r
  cases (show T = "int" from ty)
  exact⟨typeIs_int s i t,fun _ e=>nomatch e⟩
 | ref p=>
  cases r
  rcases ty with ⟨rfl,xs,hq⟩|⟨rfl,o,hk,hc,hd⟩|⟨rfl,hk⟩|⟨rfl,S,n,hk⟩
  ·obtain⟨aw,_,pl,_⟩:=I.list hq
   refine⟨pl.isList.typeIs,fun a e =>?_⟩
   cases e
   obtain⟨o,n,e,c,hd,_⟩:=pl
   exact⟨o,e,hd⟩
  ·refine⟨⟨o,I.jv p o hk,hc⟩,fun a e =>?_⟩
   cases e
   exact⟨o,I.jv _ o hk,hd⟩
  ·have z:∃o,s.heap.get? p=some o/\o.ExactDict:=by
    rcases hk with ⟨kvs,hk⟩|⟨kvs,hk⟩
    ·obtain⟨_,_,_,_,o,_,_,e,ex,_⟩:=I.aV p _ hk
     exact⟨o,e,ex⟩
    ·obtain⟨_,_,_,_,o,_,_,e,ex,_⟩:=I.aV p _ hk
     exact⟨o,e,ex⟩
   obtain⟨o,e,ex⟩:=z
   refine⟨⟨o,e,ex.1⟩,fun a e2 =>?_⟩
   cases e2
   exact⟨o,e,ex.2.1⟩
  ·obtain⟨o,_,_,_,e,ex,_⟩:=I.aV p _ hk
   refine⟨⟨o,e,ex.1⟩,fun a e2 =>?_⟩
   cases e2
   exact⟨o,e,ex.2.1⟩
 | _=>exact False.elim ty
noncomputable def N2 (K:Ja)(T:String)(r:V->List V->Hp->VK->Prop)(to:TE)(t:TA):TE:=fun σ H Q=>to σ H fun x H1=>N7 K T x H1/\t σ H1 fun xs H2=>r x xs H2 Q
variable {o e:Expr}{es:List Expr}{to:TE}{t:TA}{name:Str}{apos gO:Pos}{T id:String}{r:V->List V->Hp->VK->Prop}
theorem Ih (pa:PlainAttrs T)(slot:Slot T name id)(Ls:typeOf (.builtin id)=pure (.type "method_descriptor"))(hm:FF X id r)(ho:PE X o to)(ha:PA X (e::es) t)
  (xR:attributeBase o name X.env (eval o X.env)=eval o X.env:=by rfl)
  (Dg:((backTo gO (starEach (e::es) X.env)).all (fun x => !x.1)&&(backToKw gO (keywordEach [] X.env)).all (fun x=>x.1.isSome)
   && decide ((e::es).length+([]:List Keyword).length+(if ([]:List Keyword).isEmpty then 0 else 1)<30))=true:=by rfl)
  (zF:(apos.endLine==gO.line)=true:=by rfl) (hs:starEach (e::es) X.env=(false,eval e X.env)::starEach es X.env:=by rfl) (sr:(backTo gO (starEach es X.env)).any (·.1)=false:=by rfl) :
  PE X (.Call (.Attribute o name apos) (e::es) [] gO) (N2 X.K T r to t):=by
 intro pins s σ H Q I h
 refine wpAny_Call_method_late xR Dg zF rfl (aQ (ho s σ H _ I h) fun v s1 hz_ =>?_)
 refine ae.el hz_ _ ?_
 clear hz_
 rintro x H1 I1 r1 ⟨ty,q1⟩
 obtain⟨h1,h2⟩:=Ek I1 r1 ty
 refine⟨T,id,pa,slot,Ls,h1,h2,?_⟩
 have hA:=ha (pos:=gO) s1 σ H1 _ I1 q1
 rw[hs] at hA ⊢
 refine Calls.callWith_builtin (by show(false||(backTo gO (starEach es X.env)).any (·.1))=false;rw[sr]<;>rfl) (Calls.evalArgs_plain ?_)
 exact aQ hA fun us s2 hz_=>ae.el hz_ _ fun vs H2 I2 r2 q2=>hm s2 σ H2 x vs v us Q I2 r1 r2 q2
end
noncomputable def DP (X:Cx)(id:String)(r:V->List V->Hp->VK->Prop):Prop:=
 ∀ ⦃pins:List (Addr×Obj)⦄ (s:Shared) (σ:St) (H:Hp) (x:V) (xs:List V) (v:Value) (us:List Value) (Q:VK),Inv X pins σ H s->RelV x v->Vals xs us->r x xs H Q ->
  wpAny (model X.prog X.w) X.A (call (.builtin id) (v::us)) (EP X pins σ Q) X.xe s
theorem Vals.hd {x:V}{xs:List V}{us:List Value}(h:Vals (x::xs) us):∃u r,us=u::r/\RelV x u/\Vals xs r:=by
 cases h with|cons a b=>exact⟨_,_,rfl,a,b⟩
theorem Vals.one {x:V}{us:List Value}(h:Vals [x] us):∃u,us=[u]/\RelV x u:=by
 obtain⟨u,r,rfl,a,h⟩:=h.hd
 cases h
 exact⟨_,rfl,a⟩
theorem Vals.two {x y:V}{us:List Value}(h:Vals [x,y] us):∃u v,us=[u,v]/\RelV x u/\RelV y v:=by
 obtain⟨u,r,rfl,a,h⟩:=h.hd
 obtain⟨v,rfl,b⟩:=h.one
 exact⟨_,_,rfl,a,b⟩
theorem Vals.eraseIdx:∀{xs:List V} {us:List Value} (i:Nat),Vals xs us->Vals (xs.eraseIdx i) (us.eraseIdx i)
 | _,_,_,.nil =>.nil
 | _,_,0,.cons _ t=>t
 | _,_,i+1,.cons r t =>.cons r (Vals.eraseIdx i t)
theorem Vals.rep {xs:List V}{us:List Value}(h:Vals xs us):∀k:Nat,Vals (Jj k xs).flatten (Jj k us).flatten
 | 0 =>.nil
 | k+1=>by
  rw[Yf,Yf,List.flatten_cons,List.flatten_cons]
  exact Vals.append h (Vals.rep h k)
theorem m8 {α:Type}:∀(l:List α) (i:Nat),(l.eraseIdx i).length<=l.length
 | [],_=>Jc _
 | _::_,0=>Yu _
 | _::r,i+1=>Wc (m8 r i)
theorem foldl_rep (aw:List Value):∀(k:Nat) (acc:List Value),
  List.foldl (fun x1 x2=>x1++x2) acc.toArray (Jj k aw.toArray)=(acc++(Jj k aw).flatten).toArray
 | 0,acc=>by simp
 | k+1,acc=>by
  have e:acc.toArray++aw.toArray=(acc++aw).toArray:=by simp
  have e2:(acc++aw)++(Jj k aw).flatten=acc++(Jj (k+1) aw).flatten:=by
   rw[Yf,List.flatten_cons,J9]
  rw[<-e2,<-foldl_rep aw k (acc++aw),<-e,Yf,List.foldl_cons]
section
variable {X:Cx}{pins:List (Addr×Obj)}{σ:St}{H:Hp}{s:Shared}{l b:Addr}{xs ys zs:List V}
theorem Inv.DE {aw its':List Value}{n:Nat}{f:Array Value->Array Value}{t':Nat}(I:Inv X pins σ H s)(hH:H l=some (.lst xs))
  (e:s.heap.get? l=some { cls := .type "list",data := .seq aw.toArray n }) (hf:f aw.toArray=its'.toArray) (hv:Vals ys its') (hz:ys.length<=sizeLine) :
  Inv X pins σ (upd H l (.lst ys)) { s with heap:=s.heap.update l (Obj.mapSeq f),toks:=t' }:=by
 have q:=PySem.IsL.update e f
 rw[hf] at q
 refine I.write (x:=l) (e:=l) (by rw[hH];exact trivial) (.inl rfl) (fun b' u hb hu=>(Uq s.heap (Obj.mapSeq f) (Ne.symm hb)).trans hu) ⟨_,q⟩ ?_
 exact⟨hz,its',_,hv,q⟩
theorem Inv.Ik {aw:List Value}{t':Nat}(I:Inv X pins σ H s)(hv:Vals ys aw)(hz:ys.length<=sizeLine):
  Inv X pins σ (upd H s.heap.objs.size (.lst ys)) { s with heap:=s.heap.push { cls := .type "list",data := .seq aw.toArray },toks:=t' }:=
 I.laid (fun _ _ q=>Jd _ q) (Jc _) ⟨hz,aw,0,hv,Jy _ rfl⟩
theorem Inv.fresh (I:Inv X pins σ H s):H s.heap.objs.size=none:=I.aV.fresh (Jc _)
theorem Inv.sZ (I:Inv X pins σ H s)(hH:H l=some (.lst xs)):xs.length<=sizeLine/\∃(aw:List Value) (n:Nat),Vals xs aw/\xs.length=aw.length/\s.heap.get? l=some { cls := .type "list",data := .seq aw.toArray n }:=by
 obtain⟨z,aw,n,r,e⟩:=I.aV l _ hH
 exact⟨z,aw,n,r,r.length,e⟩
theorem yE {n:Nat}(h:n<=sizeLine):Builtin.List.listTooLong n=false:=by
 unfold Builtin.List.listTooLong
 exact decide_eq_false (by first|lia|omega)
end
section
variable {X:Cx}
noncomputable def A5:V->List V->Hp->VK->Prop:=fun x vs H Q=>iU fun l xs y=>x = .ref l/\vs=[y]/\H l=some (.lst xs)/\xs.length<sizeLine/\Q .non (upd H l (.lst (xs++[y])))
theorem wd:DP X "list.append" A5:=by
 intro pins s σ H x vs v us Q I rx rv h
 obtain⟨l,xs,y,rfl,rfl,hH,hz,q⟩:=h
 cases rx
 obtain⟨u,rfl,ru⟩:=rv.one
 obtain⟨z,aw,n,r,hl,e⟩:=I.sZ hH
 refine call_meets F.slot_list_append ⟨_,e,rfl⟩ F.entry_list_append (F.args_list_append_2 _ _) (PySem.list_append l aw.toArray n u (by rw[Jn]; (first|lia|omega))) ⟨e,?_⟩
 refine⟨.non,_,I.DE (its':=aw++[u]) hH e (by simp) (r.append (.cons ru .nil)) ?_,rfl,q⟩
 rw[Jf,List.length_singleton]
 (first|lia|omega)
noncomputable def DR:V->List V->Hp->VK->Prop:=fun x vs H Q=>zT fun l xs i k y=>x = .ref l/\vs=[.int i]/\H l=some (.lst xs) /\ -(2^63)<=i/\i<2^63/\seqIndex? i xs.length=some k/\xs[k]? = some y/\Q y (upd H l (.lst (xs.eraseIdx k)))
theorem zo:DP X "list.pop" DR:=by
 intro pins s σ H x vs v us Q I rx rv h
 obtain⟨l,xs,i,k,y,rfl,rfl,hH,h1,h2,hk,hy,q⟩:=h
 cases rx
 obtain⟨u,rfl,ru⟩:=rv.one
 obtain⟨t,rfl⟩:=ru
 obtain⟨z,aw,n,r,hl,e⟩:=I.sZ hH
 obtain⟨w,hw,rw'⟩:=r.get hy
 refine call_meets F.slot_list_pop ⟨_,e,rfl⟩ F.entry_list_pop (F.args_list_pop_2 _ _)
  (MeetsSeq.list_pop_at l aw.toArray n i t k w (fitsIndex_both h1 h2) (by rw[Jn,<-hl];exact hk) (by rw[<-Uo];exact hw) (by rw[Jn]; (first|lia|omega))) ⟨e,?_⟩
 refine⟨y,_,I.DE (its':=aw.eraseIdx k) hH e ?_ (r.eraseIdx k) ?_,rw',q⟩
 ·show aw.toArray.eraseIdxIfInBounds k=(aw.eraseIdx k).toArray
  rw[List.eraseIdxIfInBounds_toArray]
 ·have:=m8 xs k
  (first|lia|omega)
noncomputable def Hz:R2:=fun x y H Q=>pd fun l b xs zs=>x = .ref l/\y = .ref b/\H l=some (.lst xs)/\H b=some (.lst zs)/\xs.length+zs.length<=sizeLine/\∀p,H p=none->Q (.ref p) (upd H p (.lst (xs++zs)))
theorem D5:dM X (binaryOp .Add) Hz:=by
 intro pins s σ H x y v u Q I rx ry h
 obtain⟨l,b,xs,zs,rfl,rfl,hH,hB,hz,q⟩:=h
 cases rx
 cases ry
 obtain⟨z,aw,n,r,hl,e⟩:=I.sZ hH
 obtain⟨z2,its2,n2,r2,Fp,e2⟩:=I.sZ hB
 refine PySem.P.add_list e e2 ?_ (by rw[Jn,Jn]; (first|lia|omega))
 have ea:aw.toArray++its2.toArray=(aw++its2).toArray:=by simp
 rw[ea]
 exact⟨.ref _,_,I.Ik (t':=s.toks) (r.append r2) (by rw[Jf]; (first|lia|omega)),rfl,q _ I.fresh⟩
noncomputable def Ib:R2:=fun x y H Q=>iU fun l k xs=>x = .ref l/\y = .int k/\H l=some (.lst xs) /\ -(2^63)<=k/\k<2^63/\xs.length*k.toNat<=sizeLine /\
 ∀p,H p=none->Q (.ref p) (upd H p (.lst (Jj k.toNat xs).flatten))
theorem len_rep {α:Type}(xs:List α)(k:Nat):(Jj k xs).flatten.length=k*xs.length:=by
 induction k with
 | zero=>simp
 | succ k ih=>rw[Yf,List.flatten_cons,Jf,ih,Nat.succ_mul,Nat.add_comm]
theorem EC:dM X (binaryOp .Mult) Ib:=by
 intro pins s σ H x y v u Q I rx ry h
 obtain⟨l,k,xs,rfl,rfl,hH,h1,h2,hz,q⟩:=h
 cases rx
 obtain⟨t,rfl⟩:=ry
 obtain⟨z,aw,n,r,hl,e⟩:=I.sZ hH
 have hlen:aw.toArray.size*k.toNat<=sizeLine:=by rw[Jn,<-hl];exact hz
 have MB:¬aw.toArray.size*k.toNat>(2^63-1) / 8:=by
  have:(sizeLine:Nat)<=(2^63-1) / 8:=by decide
  (first|lia|omega)
 have ME:¬(!Builtin.List.listFitsIndex k)=true:=by
  rw[fitsIndex_both h1 h2]
  exact Jo
 have Ig:¬Builtin.List.listTooLong (aw.toArray.size*k.toNat)=true:=by
  rw[yE hlen]
  exact Jo
 have Bt:List.foldl (fun x1 x2=>x1++x2) #[] (Jj (if aw.toArray.isEmpty=true then 0 else k.toNat) aw.toArray)=(Jj k.toNat aw).flatten.toArray:=by
  have f0:∀m:Nat,List.foldl (fun x1 x2=>x1++x2) #[] (Jj m aw.toArray)=(Jj m aw).flatten.toArray:=fun m=>by
   have:=foldl_rep aw m []
   rw[List.nil_append] at this
   exact this
  rw[f0]
  cases aw with
  | nil=>simp
  | cons a r'=>rw[if_neg (by simp)]
 refine wpAny_binaryOp_repeat_ref (T := "list") (U := "int") (by decide) ⟨_,e,rfl⟩ (fun s'=>typeIs_int s' k t) noFill_list_mul F.fills_int_mul F.slot_int_rmul repeat_list F.slot_int_index.lookup
  (call_meets F.slot_int_rmul (typeIs_int s k t) F.entry_int_rmul (F.args_int_rmul_2 _ _) (int___rmul___int_list k t l aw.toArray n)
   ⟨e,rfl,⟨_,e,rfl⟩,call_meets F.slot_list_mul ⟨_,e,rfl⟩ F.entry_list_mul (F.args_list_mul_2 _ _) (AutoListH.list___mul___list_int_3 l aw.toArray n k t ME MB Ig) ⟨e,?_⟩⟩)
 rw[Bt]
 exact⟨.ref _,_,I.Ik (t':=s.toks) (r.rep k.toNat) (by rw[len_rep,Nat.mul_comm];exact hz),rfl,q _ I.fresh⟩
end
section
variable {prog:Program}{w:World}{A:Around}{E:Value->Shared->Prop}{s:Shared}
set_option maxRecDepth 100000 in
end
end L2
namespace Att
open PySem PySem.W PySem.Calls PyProof.Rows
theorem jX {P:Params}{h:Heap}:∀(ns:List Int) (vs:List Value),WellAll P h vs (ns.map WData.int)->IntsAre vs ns:=by
 intro ns
 induction ns with
 | nil=>
  intro vs w
  rw[List.map_nil] at w
  cases w
  exact .nil
 | cons n ns ih=>
  intro vs w
  rw[Ub] at w
  cases w with
  | cons a b=>
   cases a
   exact .cons _ _ (ih _ b)
theorem vm {l:OpenLaw}{n:Nat}(hn:l.most=some n){P:Params}{h:Heap}{args:List WData}{vals:List Value}
  (Bl:l.row.toRowW.claim.pre args=true) (KN:WellAll P h vals args) :
  ∃a vs ns,vals=[Value.ref a]/\args=[WData.list (ns.map WData.int)]/\h.get? a=some { cls := .type "list",data := .seq vs.toArray } /\ IntsAre vs ns/\ns.length<=n:=by
 have PB:WShape.hasAll [] args [.list .int]=true:=(pre_splitW Bl).1
 have hc:l.pre.holds [] { args:=args } = true:=(pre_splitW Bl).2
 obtain⟨d,r,rfl,h1,h2⟩:=hasAllW_cons PB
 obtain rfl:=hasAllW_nil h2
 obtain⟨xs,rfl,h3⟩:=hasW_list h1
 obtain⟨ns,rfl⟩:=items_int h3
 have hlen:ns.length<=n:=by
  unfold OpenLaw.pre at hc
  have h4:(WTm.not (.lt (.lit (.int (n:Int))) (.len (.arg 0)))).holds [] { args:=[.list (ns.map .int)] } = true:=by
   have h4:=(holds_andW hc).1
   rw[hn] at h4
   exact h4
  have h5:=condW_of h4 (w_not (w_lt w_lit (w_len_list (w_arg rfl))))
  rw[Jb] at h5
  refine Y1 fun q =>?_
  have q':(n:Int)<((ns.length:Nat):Int):=by (first|lia|omega)
  first
   | (rw[decide_eq_true q'] at h5;exact absurd h5 (by decide))
   | (simp at h5; (first|lia|omega))
 cases KN with
 | cons w1 w2=>
  cases w2
  cases w1 with
  | list ho gY=>exact⟨_,_,ns,rfl,rfl,ho,jX ns _ gY,hlen⟩
theorem we (l:OpenLaw)(args:List WData):l.row.toRowW.claim.post args (.bool true) args=true:=
 postW_of (r:=l.row.toRowW) (X:=(true==true))
  (show WShape.has [] (.bool true) .bool=true by first|rfl|decide|simp[WShape.has,WShape.arms,WShape.armsAll])
  (show(WTm.eq .res (.lit (.bool true))).value [] { args:=args,res:=some (.bool true),after:=args } = some (.bool (true==true)) from w_eq_bool (w_res rfl) w_lit) rfl
theorem pY {l:OpenLaw}{n:Nat}{q:Program}{loose:List Str}{XP:(Str->Option Value)->Heap->Prop}{YP:World->Heap->Prop}{d:DefRec}
  (hn:l.most=some n) (Ie:d.params.defaults=[])
  (call:∀(w:World) (s₀ s₁:Shared) (mg mb:Str->Option Value) (fa:Addr) (o:Obj) (pm cd doc:Value) (a:Addr) (vs:List Value) (ns:List Int),
   Ground q loose [] XP w s₀ mg mb s₁.heap->YP w s₁.heap ->
   s₁.heap.get? fa=some o->o.data = .func (docDef d.name d.params d.body d.scope pm cd doc)->s₁.heap.CodeRec cd d.name->mg d.name=some (.ref fa) ->
   s₁.heap.get? a=some { cls := .type "list",data := .seq vs.toArray } -> IntsAre vs ns->ns.length<=n->s₁.gens = #[] ->
   codeAny (model l.prog w) callerA (.call (.ref fa) ⟨[.ref a],[]⟩) (fun r s'=>r = .ok (.ret (.bool true))/\OldK s₁.heap s'.heap/\s'.os=s₁.os/\AllBare s'.gens) s₁) :
  WalkO q loose XP YP l.row.toRowW d [] (fun f vs=>PySem.call f vs):=by
 intro w s₀ s₁ mg mb G Y fa o pm cd doc dV kV ho hd vh hD hmg hg args vals as Bl hlay hrd KN yl
 obtain rfl:dV = .none:=Dflts.none hD Ie
 obtain rfl:kV = .none:=Dflts.noKw hD
 obtain⟨a,vs,ns,rfl,rfl,hobj,hints,hlen⟩:=vm hn Bl KN
 refine enter_call (codeAny_mono (call w s₀ s₁ mg mb fa o pm cd doc a vs ns G Y ho (fd_plain hd) vh hmg hobj hints hlen hg) fun r s' hq =>?_)
 obtain⟨rfl,h2,h3,h4⟩:=hq
 exact⟨.inl ⟨.bool true,.bool true,[],rfl,fun _=>rfl,.bool true,we l _,fun _=>⟨List.Pairwise.nil,fun _ hm=>(nomatch hm)⟩⟩,h2,h3,h4⟩
end Att
namespace L2
open PySem PySem.Spec PyProof.Rows
theorem wM {vs:List Value}{ns:List Int}(h:IntsAre vs ns):Vals (ns.map V.int) vs:=by
 induction h with
 | nil=>exact .nil
 | cons n t h ih=>exact .cons ⟨t,rfl⟩ ih
noncomputable def En (H:Hp):Prop:=∀b,H b=none∨cj fun o xs=>H b=some (.frz o (.lst xs))
theorem zE {P:Program}{w:World}{K:Ja}{mg mb:Str->Option Value}{CX:tT}{k:Nat}{fa a:Addr}{fd:FuncData}{x:Str}{sp:Sp}{s₁:Shared}{vs:List Value}{ns:List Int}
  (KX:K.In s₁.heap) (Bk:s₁.heap.Ns mainGlobals mg) (hb:s₁.heap.Ns builtinsNs mb) (Ql:∀x:Str,x ≠ "__name__" -> mb x=bootBuiltins x) (Mq:s₁.heap.NoLimit) (hg:s₁.gens = #[])
  (ha:s₁.heap.get? a=some { cls := .type "list",data := .seq vs.toArray }) (hi:IntsAre vs ns) (hl:ns.length<=sizeLine) (hr:cL k callerA)
  (F:∀base:Heap,K.In base->base.Ns mainGlobals mg->bA P w K mg base CX k fa fd [x] sp) (GZ:∀(s:Shared) (u:Value),BindsTo s fd ⟨[u],[]⟩ [(x,u)])
  (oW:∀H:Hp,En H->aG K H a (ns.map V.int)->sp [.ref a] H (fun v _=>v = .bl true) fun _ _ _=>False)
  (Ko:∀H e s',CX [] H s₁ (fun _ _ _=>False) e s'->False) :
  codeAny (model P w) callerA (.call (.ref fa) ⟨[.ref a],[]⟩) (fun r s'=>r = .ok (.ret (.bool true))/\OldK s₁.heap s'.heap/\s'.os=s₁.os/\AllBare s'.gens) s₁:=by
 have rv:=wM hi
 have LB:=hi.length
 have core:∀H:Hp,En H->aG K H a (ns.map V.int)->eO P w H s₁.heap->(∀b,H b≠none->b=a)->(H a≠none->K.lookup a=none) ->
   codeAny (model P w) callerA (.call (.ref fa) ⟨[.ref a],[]⟩) (fun r s'=>r = .ok (.ret (.bool true))/\OldK s₁.heap s'.heap/\s'.os=s₁.os/\AllBare s'.gens) s₁:=by
  intro H hO hS aV hA hK
  have uB:∀{b:Addr} {o:Obj},s₁.heap.get? b=some o->H b=none->(nK s₁.heap H).get? b=some o:=fun e n=>zj e n
  have HE:∀{b:Addr} {o:Obj} {es:Array DictEntry} {ep:Nat},s₁.heap.get? b=some o->o.data = .dict es ep->H b=none:=fun{b o es ep} e d=>by
   cases q:H b with
   | none=>rfl
   | some u=>
    have e':b=a:=hA b (by rw[q];simp)
    subst e'
    rw[ha] at e;cases e
    have d':Data.seq vs.toArray _=Data.dict es ep:=d
    cases d'
  have Ka:∀{b:Addr} {m:Str->Option Value},s₁.heap.Ns b m->(nK s₁.heap H).Ns b m:=fun{b m} ⟨o,es,ep,e,d,r⟩=>⟨o,es,ep,uB e (HE e d),d,r⟩
  have Oc:K.In (nK s₁.heap H):=fun b o e=>uB (KX b o e) (by
   cases q:H b with
   | none=>rfl
   | some u=>
    have e':b=a:=hA b (by rw[q];simp)
    subst e'
    rw[hK (by rw[q];simp)] at e;cases e)
  have hM:Mod K mg (nK s₁.heap H):=⟨Oc,Ka Bk,⟨mb,Ka hb,Ql⟩,let ⟨mc,h1,h2⟩:=Mq; ⟨mc,Ka h1,h2⟩⟩
  have e0:mi P w K mg (nK s₁.heap H) callerA [] s₁ H:=⟨rfl,hM,fun b o e=>AG e,Yj (wc _ _),trivial,fun b hb=>absurd (show b∈([]:List Addr) from hb) (by simp),aV,.of_eq hg⟩
  refine codeAny_mono ((F _ Oc (Ka Bk)).run callerA [] s₁ H ⟨[.ref a],[]⟩ [.ref a] [.ref a] _ _ hr e0 (GZ s₁ (.ref a)) (.cons rfl .nil) (oW H hO hS)) fun r s' h =>?_
  cases r with
  | error e=>exact(Ko H e s' h).elim
  | ok fl=>
   cases fl with
   | next=>exact False.elim h
   | brk=>exact False.elim h
   | cont=>exact False.elim h
   | ret u=>
    obtain⟨v,H',os,bare,un,yw,r',q⟩:=h
    have q':v = .bl true:=q
    subst q'
    obtain rfl:u=Value.bool true:=r'
    refine⟨rfl,OldK.of_keep fun b o e =>?_,os,bare⟩
    cases q:H b with
    | none=>exact un.keep b o e q (by intro z;exact absurd (show b∈([]:List Addr) from z) (by simp)) (by simp)
    | some u=>
     rcases hO b with z|⟨ob,xs,z⟩
     ·rw[q] at z;cases z
     ·have z2:=un.eY b ob _ z
      obtain⟨e1,_⟩:=aV b _ z
      obtain⟨e2,_⟩:=yw b _ z2
      rw[e] at e1;cases e1
      exact e2
 cases hk:K.lookup a with
 | some o=>
  have e:=KX a o hk
  rw[ha] at e
  cases e
  refine core (fun _=>none) (fun _ =>.inl rfl) (.inr ⟨_,vs.toArray,_,hk,rfl,rfl,rfl,by rw[Jn,LB];exact hl,by simpa using rv⟩) (fun b u z=>by have z':(none:Option HO)=some u:=z;cases z') (fun b z=>absurd rfl z) fun z=>absurd rfl z
 | none=>
  refine core (fun b=>if b=a then some (.frz { cls := .type "list",data := .seq vs.toArray } (.lst (ns.map V.int))) else none) (fun b =>?_) (.inl (.inr ⟨{ cls := .type "list",data := .seq vs.toArray },if_pos rfl⟩)) (fun b u z =>?_) (fun b z =>?_) fun _=>hk
  ·by_cases hb:b=a
   ·exact .inr ⟨_,_,if_pos hb⟩
   ·exact .inl (if_neg hb)
  ·by_cases hb:b=a
   ·have z':=(if_pos hb).symm.trans z
    cases z'
    subst hb
    exact⟨ha,by rw[Jb];exact hl,vs,_,rv,ha⟩
   ·have z':=(if_neg hb).symm.trans z
    cases z'
  ·by_cases hb:b=a
   ·exact hb
   ·exact absurd (if_neg hb) z
theorem B1 {l:PySem.W.OpenLaw}{n k:Nat}{q:Program}{loose:List Str}{XP:(Str->Option Value)->Heap->Prop}{YP:World->Heap->Prop}{d:DefRec}{K:Params->Ja}{CX:World->tT}{sp:World->Sp}{x:Str}
  (hn:l.most=some n) (rG:n<=sizeLine) (Ie:d.params.defaults=[]) (hr:cL k callerA)
  (hY:∀(w:World) (h:Heap),YP w h->(K w.params).In h)
  (F:∀(w:World) (mg:Str->Option Value) (fa:Addr) (h:Heap),(K w.params).In h->h.Ns mainGlobals mg->mg d.name=some (.ref fa) ->
   ∃fd:FuncData,(∀(s:Shared) (u:Value),BindsTo s fd ⟨[u],[]⟩ [(x,u)]) /\
    ∀base:Heap,(K w.params).In base->base.Ns mainGlobals mg->bA l.prog w (K w.params) mg base (CX w) k fa fd [x] (sp w))
  (oW:∀(w:World) (H:Hp) (a:Addr) (ns:List Int),ns.length<=n->En H->aG (K w.params) H a (ns.map V.int)->sp w [.ref a] H (fun v _=>v = .bl true) fun _ _ _=>False)
  (Ko:∀(w:World) (H:Hp) (s:Shared) (e:Value) (s':Shared),CX w [] H s (fun _ _ _=>False) e s'->False) :
  PySem.W.WalkO q loose XP YP l.row.toRowW d [] (fun f vs=>PySem.call f vs):=by
 refine Att.pY hn Ie fun w s₀ s₁ mg mb fa o pm cd doc a vs ns G Y ho hd vh hmg hobj hints hlen hg =>?_
 have KX:=hY w _ Y
 obtain⟨fd,hb,hF⟩:=F w mg fa _ KX G.T.g hmg
 exact zE KX G.T.g G.T.b G.T.builtins G.T.nolimit hg hobj hints (Jp hlen rG) hr hF hb (fun H hO hS=>oW w H a ns hlen hO hS) fun H e s'=>Ko w H s₁ e s'
noncomputable def inClass (s:Stmt)(j:Nat):Stmt:=match s with
 | .ClassDef _ _ _ body _ _ _ _ _ _ _=>body.getD j (.Pass ⟨0,0,0,0⟩)
 | _ =>.Pass ⟨0,0,0,0⟩
noncomputable def fA (s:Stmt):Arguments:=match s with
 | .FunctionDef _ a _ _ _ _ _ _ _ _=>a
 | _=>{ posonlyargs:=[],args:=[],vararg:=none,kwonlyargs:=[],kw_defaults:=[],kwarg:=none,defaults:=[] }
noncomputable def dI (s:Stmt):List Stmt:=match s with
 | .FunctionDef _ _ b _ _ _ _ _ _ _=>b
 | _=>[]
noncomputable def ay (s:Stmt):Scope:=match s with
 | .FunctionDef _ _ _ _ _ _ sc _ _ _=>sc
 | _=>{ kind := .function,names:=[],isGenerator:=false,isCoroutine:=false }
noncomputable abbrev fQ:tT:=fun _ _ _ _ _ _=>False
noncomputable abbrev E0:XK:=fun _ _ _=>False
theorem G5 {X:Cx}:Passes fQ X E0:=fun _ _ _ _ _ _ _ h=>h.elim
structure cX (K:Ja)(x qual:Str)(st:Stmt)(f:Addr)(fd:FuncData):Prop where
 ex:∃(oc:Value) (od:Option Addr) (kV doc pm:Value) (an:Option Addr) (di ct:Value) (ve:Array (Option Value)),
  fd=Wl x qual (fA st) (dI st) (ay st) .none kV doc pm an di ct/\K.lookup f=some ⟨oc,od,.func fd,ve⟩/\PySem.W.codeIn K di qual=true
 kp:Y4 K (.ref f)=true
section
variable {P:Program}{w:World}{K:Ja}{mg:Str->Option Value}{base:Heap}
theorem cX.ok {x qual:Str}{st:Stmt}{f:Addr}{fd:FuncData}{N ps:List Str}{k:Nat}{sp:Sp}(F:cX K x qual st f fd)(S:aM N ps (ay st))(len:∀vs H Q E,sp vs H Q E->vs.length=ps.length)
  (qX:∀(di:Value) (A:Around) (outer:List Env) (s:Shared) (H:Hp) (vs:List V) (Q:VK) (E:XK),cL k (A.deeper (envOfC qual (ay st) s.heap.objs.size f di))->sp vs H Q E ->
   ∃t,rF (jz fQ P w K mg base N qual (ay st) f di A outer s H E).JX (dI st) t/\t { nx:=fun _ H'=>Q .non H',rt:=Q } (start N vs) H):bA P w K mg base fQ (k+1) f fd ps sp:=by
 obtain⟨oc,od,kV,doc,pm,an,di,ct,ve,rfl,lk,vh⟩:=F.ex
 refine Ck lk vh S len fun A outer s H vs Q E hr oW =>?_
 obtain⟨t,h,q⟩:=qX di A outer s H vs Q E hr oW
 exact⟨t,h.JX,q⟩
theorem cX.binds {x qual:Str}{st:Stmt}{f:Addr}{fd:FuncData}{ps:List Str}(F:cX K x qual st f fd)
  (h:∀(kV doc pm:Value) (an:Option Addr) (di ct:Value) (us:List Value),us.length=ps.length->bindArgs (Wl x qual (fA st) (dI st) (ay st) .none kV doc pm an di ct) ⟨us,[]⟩=pure (ps.zip us)):Binds K fd ps []:=by
 obtain⟨oc,od,kV,doc,pm,an,di,ct,ve,rfl,lk,vh⟩:=F.ex
 exact .all (h kV doc pm an di ct)
theorem bo {x qual:Str}{st:Stmt}{f:Addr}{oc:Value}{od an:Option Addr}{ve:Array (Option Value)}{kV doc pm di ct:Value}(l:K.lookup f=some ⟨oc,od,.func (Wl x qual (fA st) (dI st) (ay st) .none kV doc pm an di ct),ve⟩)
  (c:PySem.W.codeIn K di qual=true) (k:Y4 K (.ref f)=true):cX K x qual st f (Wl x qual (fA st) (dI st) (ay st) .none kV doc pm an di ct):=⟨⟨oc,od,kV,doc,pm,an,di,ct,ve,rfl,l,c⟩,k⟩
end
theorem gF {A:Around}{k:Nat}(hr:cL k A):A.units+1<cLine:=Jx (U9 (by decide:1<=64) _) hr.units
section
variable {X:Cx}
theorem pv (i:Nat){x:Str}{pos:Pos}(hN:X.N[i]? = some x:=by rfl)(hv:FC X.env.scope x:=by first|exact Or.inl rfl|exact Or.inr (Or.inl rfl)|exact Or.inr (Or.inr rfl))(hd:(x==("__debug__" : Str))=false:=by decide)
  (vh:(x==("__classdict__" : Str))=false:=by decide):PE X (.Name x pos) (g7 i):=DF hN hv hd vh
end
theorem cg {A B:Prop}(h:B):if false=true then A else B:=by
 rw[if_neg Jo]
 exact h
theorem bD {A B:Prop}(h:A):if true=true then A else B:=by
 rw[if_pos rfl]
 exact h
theorem gM {c A B:Prop}[Decidable c](h1:c->A)(h2:¬c->B):if c then A else B:=by
 by_cases h:c
 ·rw[if_pos h]
  exact h1 h
 ·rw[if_neg h]
  exact h2 h
noncomputable def au (H H':Hp):Prop:=∀b o,H b=some o->H' b=some o
theorem au.refl (H:Hp):au H H:=fun _ _ h=>h
theorem au.trans {H H1 H2:Hp}(a:au H H1)(b:au H1 H2):au H H2:=fun c o h=>b c o (a c o h)
theorem au.free {H H':Hp}(e:au H H'){l:Addr}(h:H' l=Option.none):H l=Option.none:=by
 cases q:H l with
 | none=>rfl
 | some o=>
  rw[e l o q] at h
  cases h
theorem au.seq {K:Ja}{H H':Hp}{a:Addr}{xs:List V}(e:au H H')(h:aG K H a xs):aG K H' a xs:=by
 rcases h with (h|⟨o,h⟩)|h
 ·exact .inl (.inl (e _ _ h))
 ·exact .inl (.inr ⟨o,e _ _ h⟩)
 ·exact .inr h
section
variable {κ:Type}[DecidableEq κ]
theorem ye {kvs:List (κ×V)}{k: κ}(h:aZ kvs k=none):¬k∈kvs.map (·.1):=by
 intro m
 obtain⟨p,hp,e⟩:=Um.mp m
 have q:(kvs.any fun kv=>decide (kv.1=k))=true:=List.any_eq_true.mpr ⟨p,hp,decide_eq_true e⟩
 rw[dY,h] at q
 exact absurd q (by simp)
theorem BP {kvs:List (κ×V)}{k: κ}{v:V}(h:aZ kvs k=some v):k∈kvs.map (·.1):=by
 have q:(kvs.any fun kv=>decide (kv.1=k))=true:=by
  rw[dY,h]
  all_goals rfl
 obtain⟨p,hp,e⟩:=List.any_eq_true.mp q
 exact Um.mpr ⟨p,hp,of_decide_eq_true e⟩
theorem nN:∀{l:List κ} {k: κ},l.Nodup->¬k∈l->(l++[k]).Nodup
 | [],k,_,_=>by simp
 | a::r,k,h,hk=>by
  obtain⟨h1,h2⟩:=Ye.mp h
  show(a::(r++[k])).Nodup
  refine Ye.mpr ⟨fun m =>?_,nN h2 fun m=>hk (Uc.mpr (Or.inr m))⟩
  rcases Jq.mp m with q|q
  ·exact h1 q
  ·exact hk (Uc.mpr (Or.inl (Jg.mp q).symm))
end
end L2
set_option maxHeartbeats 4000000
namespace L2
open PySem PySem.Spec PyProof.Rows
noncomputable abbrev fR:Value->Shared->Prop:=fun _ _=>False
theorem br {α:Type}{M:Model}{A:Around}{t:Sem α}{Q: α->Shared->Prop}{E:Value->Shared->Prop}{s:Shared}(h:wpAny M A t Q fR s):wpAny M A t Q E s:=
 wpAny_mono h (fun _ _ q=>q) fun _ _ z=>z.elim
theorem cv {a b:Addr}{n:Nat}(h:a<n)(h':n<=b):a≠b:=fun e=>absurd (Ju h h') (by rw[e];exact Yc _)
theorem qz {a b:Addr}{n:Nat}(h:a<n)(h':n<=b):b≠a:=fun e=>cv h h' e.symm
theorem iA (env:Env):∀(names:List (Str×NameKind)) (acc:List (Str×Addr)),
  (∀y∈names,y.2 = .free->∃c,env.cells.lookup y.1=some c)->(∀n c,acc.lookup n=some c->env.cells.lookup n=some c) ->
  ∃cl,(forIn names acc fun(x:Str×NameKind) (cs:List (Str×Addr))=>(if (x.2==NameKind.free)=true then do
    let a <-cellOf env x.1
    pure (ForInStep.yield ((x.1,a)::cs)) else pure (ForInStep.yield cs):Sem (ForInStep (List (Str×Addr)))))=pure cl /\
   (∀n c,cl.lookup n=some c->env.cells.lookup n=some c)/\(∀n c,acc.lookup n=some c->∃c',cl.lookup n=some c')/\∀y∈names,y.2 = .free->∃c,cl.lookup y.1=some c
 | [],acc,_,h2=>⟨acc,rfl,h2,fun _ c h=>⟨c,h⟩,fun _ h=>nomatch h⟩
 | (n,k)::r,acc,h1,h2=>by
  have hr:∀y∈r,y.2 = .free->∃c,env.cells.lookup y.1=some c:=fun y hy=>h1 y (Jh _ hy)
  by_cases hk:k = .free
  ·subst hk
   obtain⟨c,hc⟩:=h1 (n,.free) Jk rfl
   obtain⟨cl,e,p1,p2,p3⟩:=iA env r ((n,c)::acc) hr (fun m d hm=>by
    rw[Ux] at hm
    by_cases q:m==n
    ·rw[q] at hm
     have:m=n:=by simpa using q
     subst this
     cases hm
     exact hc
    ·have q':(m==n)=false:=by simpa using q
     rw[q'] at hm
     exact h2 m d hm)
   refine⟨cl,?_,p1,fun m d hm =>?_,fun y hy hf =>?_⟩
   ·rw[List.forIn_cons]
    rw[<-e]
    show(cellOf env n >>= fun a=>_) >>= _=_
    unfold cellOf
    rw[hc]
    rfl
   ·by_cases q:m=n
    ·subst q
     exact p2 m c (by rw[Ux];simp)
    ·exact p2 m d (by rw[Ux];simp -iota only [beq_eq_false_iff_ne.mpr q];exact hm)
   ·rcases Uc.mp hy with rfl|hy
    ·exact p2 n c (by rw[Ux];simp)
    ·exact p3 y hy hf
  ·refine ae.el (iA env r acc hr h2) _ ?_
   rintro cl e p1 p2 p3
   refine⟨cl,?_,p1,p2,fun y hy hf =>?_⟩
   ·rw[List.forIn_cons,<-e]
    have hb:(k==NameKind.free)=false:=by simpa using hk
    simp -iota only [hb,Ug,if_false]
    rfl
   ·rcases Uc.mp hy with rfl|hy
    ·exact absurd hf hk
    ·exact p3 y hy hf
theorem ir {scope:Scope}{env:Env}(h:∀y∈scope.names,y.2 = .free->∃c,env.cells.lookup y.1=some c):
  ∃cl,closureFor scope env=pure cl/\(∀n c,cl.lookup n=some c->env.cells.lookup n=some c)/\∀y∈scope.names,y.2 = .free->∃c,cl.lookup y.1=some c:=by
 obtain⟨cl,e,p1,_,p3⟩:=iA env scope.names [] h (fun n c h=>by simp at h)
 refine⟨cl,?_,p1,p3⟩
 unfold closureFor
 refine Eq.trans ?_ (congrArg (fun m=>m >>= fun(cs:List (Str×Addr))=>(pure cs:Sem _)) e)
 rfl
noncomputable def oB (ifs:List Expr)(env:Env):Sem Bool:=forIn ifs true fun c r=>if r=true then do let ok <-isTrue c env (eval c env);pure (ForInStep.yield ok) else pure (ForInStep.yield r)
section
variable {prog:Program}{w:World}{A:Around}{R:Result->Shared->Prop}{s:Shared}
theorem sA {elt target iter:Expr}{ifs:List Expr}{scope:Scope}{pos:Pos}{it acc:Value}{env:Env}(I:Nat->Shared->Prop)
  (turn:∀n s,I n s->wpAny (model prog w) A (pyNext it) (fun r s1=>match r with
   | none=>R (.ok .next) s1
   | some v=>wpAny (model prog w) A (letOwnedTupleGo target it v) (fun _ s1'=>wpAny (model prog w) A (assign target env v) (fun _ s2=>
     wpAny (model prog w) A (oB ifs env) (fun ok s3=>
      if ok=true then wpAny (model prog w) A (eval elt env) (fun x s4=>
       wpAny (model prog w) A (call (.builtin "list.append") [acc,x]) (fun _ s5=>∃m,m<n/\I m s5) fR s4) fR s3
      else ∃m,m<n/\I m s3) fR s2) fR s1') fR s1) fR s)
  (n:Nat) (h:I n s):codeAny (model prog w) A (.compLoop (.ListComp elt [⟨target,iter,ifs,0⟩] scope pos) 0 it acc env) R s:=by
 refine codeAny_loop rfl I (fun n s hI=>(show wpAny _ A (Sem.onRaise (compTurn (.ListComp elt [⟨target,iter,ifs,0⟩] scope pos) 0 it acc env) (fun x=>do noteFrame x env;theTreesLotGoes x)) _ _ s from wpAny_noted ?_)) n h
 rw[compTurn_list]
 refine wpAny_bind (wpAny_standAt (wpAny_bind (br (aQ (turn n s hI) fun r s1 h1 =>?_))))
 cases r with
 | none=>exact wpAny_pure h1
 | some v=>
  refine wpAny_bind (br (aQ h1 fun _ s1' h1' =>?_))
  refine wpAny_bind (br (aQ h1' fun _ s2 h2=>wpAny_bind (br (aQ h2 fun ok s3 h3 =>?_))))
  cases ok with
  | false=>exact wpAny_pure ⟨rfl,h3⟩
  | true=>exact wpAny_bind (wpAny_bind (br (aQ h3 fun x s4 h4=>wpAny_bind (br (aQ h4 fun _ s5 h5=>wpAny_pure (wpAny_pure ⟨rfl,h5⟩))))))
end
theorem eO.adopt {P:Program}{w:World}{H:Hp}{h:Heap}{a:Addr}{o:HO}(x:eO P w H h)(hn:H a=none)(new:bf P w (upd H a o) h a o):eO P w (upd H a o) h:=fun b u e=>by
 by_cases hb:b=a
 ·subst hb;rw[aH] at e;cases e;exact new
 ·rw[ao hb] at e
  exact(x b u e).d6 (fun c v _ q=>q) (fun c q=>by rw[ao (aq q hn)];exact q) fun c xs q=>by rw[ao (aq q hn)];exact q
structure dC (X:Cx)(scope:Scope)(Nc Fc:List Str)(js:List Nat):Prop where
 kind:scope.kind = .function
 nocell:∀y∈scope.names,y.2 ≠ .cell
 names:∀y∈scope.names,y.2 = .local->scope.names.lookup y.1=some .local
 free:∀y∈scope.names,y.2 = .free->X.env.kindOf y.1=some .cell∨X.env.kindOf y.1=some .free
 frees:∀(k:Nat) (x:Str),Fc[k]? = some x->scope.names.lookup x=some .free/\∃j,js[k]? = some j/\X.N[j]? = some x
 lens:js.length=Fc.length
noncomputable def cN (σ:St)(js:List Nat):St:=js.map fun j=>(σ[j]?).join
noncomputable def fq (X:Cx)(Nc Fc:List Str)(scope:Scope)(cl:List (Str×Addr))(C:Addr)(s:Shared)(H:Hp)(fp:List Addr):Cx:=
 { X with N:=Nc++Fc,s₀:=s,H₀:=H,env:=compEnvC scope cl C X.env,outer:=X.stack,stack:=X.stack,ex:=fp,fn:=fun _=>false,pn:=[],xe:=fR }
theorem fw {env:Env}:∀{names:List (Str×NameKind)} {x:Str} {k:NameKind},(names.map fun(n,k)=>if (k==NameKind.free&&env.scope.kind == .function&&env.kindOf n==some .cell) then (n,NameKind.cell) else (n,k)).lookup x=some k ->
  names.lookup x=some k∨(k = .cell/\names.lookup x=some .free)
 | [],_,_,h=>by simp at h
 | (n,k0)::r,x,k,h=>by
  have ih := @fw env r x k
  rw[Ub] at h
  dsimp only at h
  by_cases hx:x=n
  ·subst hx
   by_cases hc:(k0==NameKind.free&&env.scope.kind == .function&&env.kindOf x==some .cell)=true
   ·rw[if_pos hc] at h
    simp -iota only [Ux,beq_self_eq_true] at h
    have hk:k0 = .free:=by
     have:=(Yo _ _).mp ((Yo _ _).mp hc).1
     simpa using this.1
    subst hk
    cases h
    exact .inr ⟨rfl,by simp only[Ux,beq_self_eq_true]⟩
   ·rw[if_neg hc] at h
    simp -iota only [Ux,beq_self_eq_true] at h ⊢
    exact .inl h
  ·have hb:(x==n)=false:=beq_eq_false_iff_ne.mpr hx
   have e:List.lookup x ((if (k0==NameKind.free&&env.scope.kind == .function&&env.kindOf n==some .cell)=true then (n,NameKind.cell) else (n,k0))::(r.map fun(n,k)=>if (k==NameKind.free&&env.scope.kind == .function&&env.kindOf n==some .cell) then (n,NameKind.cell) else (n,k)))=some k:=h
   have e2:List.lookup x (r.map fun(n,k)=>if (k==NameKind.free&&env.scope.kind == .function&&env.kindOf n==some .cell) then (n,NameKind.cell) else (n,k))=some k:=by
    by_cases hc:(k0==NameKind.free&&env.scope.kind == .function&&env.kindOf n==some .cell)=true
    ·rw[if_pos hc] at e;simp -iota only [Ux,hb] at e;exact e
    ·rw[if_neg hc] at e;simp -iota only [Ux,hb] at e;exact e
   simp -iota only [Ux,hb]
   exact ih e2
theorem dE {env:Env}:∀{names:List (Str×NameKind)} {x:Str},names.lookup x=some .free ->
  (names.map fun(n,k)=>if (k==NameKind.free&&env.scope.kind == .function&&env.kindOf n==some .cell) then (n,NameKind.cell) else (n,k)).lookup x=some .cell ∨
  (names.map fun(n,k)=>if (k==NameKind.free&&env.scope.kind == .function&&env.kindOf n==some .cell) then (n,NameKind.cell) else (n,k)).lookup x=some .free
 | [],_,h=>by simp at h
 | (n,k0)::r,x,h=>by
  have ih := @dE env r x
  rw[Ub]
  dsimp only
  by_cases hx:x=n
  ·subst hx
   simp -iota only [Ux,beq_self_eq_true] at h
   cases h
   by_cases hc:(NameKind.free==NameKind.free&&env.scope.kind == .function&&env.kindOf x==some .cell)=true
   ·rw[if_pos hc];left;simp only[Ux,beq_self_eq_true]
   ·rw[if_neg hc];right;simp only[Ux,beq_self_eq_true]
  ·have hb:(x==n)=false:=beq_eq_false_iff_ne.mpr hx
   simp -iota only [Ux,hb] at h
   by_cases hc:(k0==NameKind.free&&env.scope.kind == .function&&env.kindOf n==some .cell)=true
   ·rw[if_pos hc];simp -iota only [Ux,hb];exact ih h
   ·rw[if_neg hc];simp -iota only [Ux,hb];exact ih h
theorem bV:∀{l:List (Str×NameKind)} {x:Str} {k:NameKind},l.lookup x=some k->(x,k)∈l:=fun h=>PySem.mem_of_lookup h
section
variable {X:Cx}{pins:List (Addr×Obj)}{σ:St}{H:Hp}{s:Shared}{scope:Scope}{Nc Fc:List Str}{js:List Nat}{cl:List (Str×Addr)}{C D:Addr}{fp:List Addr}
theorem kI {x:Str}:(fq X Nc Fc scope cl C s H fp).env.kindOf x=(scope.names.map fun(n,k)=>if (k==NameKind.free&&X.env.scope.kind == .function&&X.env.kindOf n==some .cell) then (n,NameKind.cell) else (n,k)).lookup x:=rfl
theorem kD (I:Inv X pins σ H s)(c:dC X scope Nc Fc js)(dk:∀n c,cl.lookup n=some c->X.env.cells.lookup n=some c)(gZ:∀y∈scope.names,y.2 = .free->∃c,cl.lookup y.1=some c)
  (hC:s.heap.objs.size<=C) (hf:∀b∈fp,dZ X pins H b) (ho:∀b∈fp,∃o,s.heap.get? b=some o):(fq X Nc Fc scope cl C s H fp).Ok where
 mod:=I.ok.mod
 kind:=c.kind
 glob:=I.ok.glob
 blt:=I.ok.blt
 above:=hC
 inj:=fun x y a h1 h2=>I.ok.inj x y a (dk _ _ h1) (dk _ _ h2)
 has:=fun x hx=>by
  have key:scope.names.lookup x=some .free:=by
   rw[kI] at hx
   rcases hx with h|h
   ·rcases fw h with q|⟨_,q⟩
    ·exact absurd rfl (c.nocell _ (bV q))
    ·exact q
   ·rcases fw h with q|⟨q,_⟩
    ·exact q
    ·cases q
  exact gZ _ (bV key) rfl
 cab:=fun _ _ h=>nomatch h
 hd:=I.ok.hd
 frames:=I.ok.frames
 stk := .inl rfl
 exf:=fun b hb=>⟨fun z=>by
   obtain⟨o,e⟩:=ho b hb
   exact cv (Ji e) hC z,fun x a e z=>(hf b hb).2.2.2.2.1 x a (dk _ _ e) z⟩
 bs:=fun b o e=>I.bs b o e
 bsz:=Jp I.ok.bsz I.sz
 noex:=fun b o e hb=>by
  rcases(hf b hb).2.2.2.1 with z|z
  ·exact I.ok.noex b o e z
  ·exact absurd (Ju (Ji (I.ok.bs b o e).1) z) (Yc _)
 exfs:=fun b hb z=>by
  rcases Uc.mp (I.oP b z) with q|q
  ·exact(hf b hb).2.1 q
  ·exact(hf b hb).2.2.1 q
 fW:=I.stack
 rH:=I.nU
theorem Ay (I:Inv X pins σ H s)(c:dC X scope Nc Fc js)(dk:∀n c,cl.lookup n=some c->X.env.cells.lookup n=some c)(gZ:∀y∈scope.names,y.2 = .free->∃c,cl.lookup y.1=some c)
  (hC:s.heap.objs.size<=C) (hD:s.heap.objs.size<=D) (Fv:D≠C) (hf:∀b∈fp,dZ X pins H b) (ho:∀b∈fp,∃o,s.heap.get? b=some o) {h1:Heap} {t1:Nat} {m:Str->Option Value} {ob:Obj}
  (hk:∀b o,s.heap.get? b=some o->h1.get? b=some o) (hm:h1.Ns C m) (LA:h1.get? D=some ob) (KP:∀v,ob.data ≠ .cell v) :
  Inv (fq X Nc Fc scope cl C s H fp) [(D,ob)] (Jj Nc.length none++cN σ js) H { s with heap:=h1,toks:=t1 }:=by
 refine⟨kD I c dk gZ hC hf ho,rfl,I.bare,Un.kept hk,⟨m,hm,fun i x v e1 e2 e3 =>?_⟩,fun x a e =>?_,I.aV.fresh hC,fun x a e=>I.freeC x a (dk x a e),fun p hp =>?_,I.aV.kept hk,?_⟩
 ·have e1:(Nc++Fc)[i]? = some x:=e1
  have e2:(Jj Nc.length none++cN σ js)[i]? = some (some v):=e2
  by_cases hi:i<Nc.length
  ·rw[Ua (by simpa using hi),U4] at e2
   split at e2<;>cases e2
  ·rw[J0 (by first|lia|omega)] at e1
   rw[J0 (by rw[Ut]; (first|lia|omega)),Ut] at e2
   refine ae.el (c.frees _ _ e1) _ ?_
   rintro mr j hj hN
   have hv: σ[j]? = some (some v):=by
    unfold cN at e2
    rw[Jm,hj] at e2
    have e2:some ((σ[j]?).join)=some (some v):=e2
    cases q: σ[j]? with
    | none=>rw[q] at e2;cases e2
    | some z=>rw[q] at e2;cases e2;rfl
   have kx:=c.free _ (bV mr) rfl
   refine ae.el (I.loc) _ ?_
   rintro m0 hn0 hl0
   have G4:FC X.env.scope x:=by
    rcases kx with k|k
    ·exact .inr (.inl k)
    ·exact .inr (.inr k)
   refine ae.el (hl0 j x v hN hv G4) _ ?_
   rintro u ru lk
   refine⟨u,ru,.inr ⟨?_,?_⟩⟩
   ·rw[kI];exact dE mr
   ·obtain⟨a,ha⟩:=gZ _ (bV mr) rfl
    refine⟨a,ha,?_⟩
    rcases lk with ⟨k,_⟩|⟨_,a',ha',hcell⟩
    ·rcases kx with q|q<;>(rw[k] at q;cases q)
    ·have e:=dk _ _ ha
     dsimp only at e
     rw[ha'] at e;cases e
     exact hcell.keeps hk
 ·obtain⟨v,z⟩:=I.cell x a (dk x a e)
  exact⟨v,z.keeps hk⟩
 ·have hp:p=(D,ob):=by
   have:p∈[(D,ob)]:=hp
   simpa using this
  subst hp
  refine⟨LA,I.aV.fresh hD,Fv,fun z =>?_,KP⟩
  have z:D∈fP X.stack:=z
  rcases Uc.mp (I.oP D z) with q|q
  ·exact qz I.lt hD q
  ·exact I.HY hD q
 ·show(Jj Nc.length none++cN σ js).length=(Nc++Fc).length
  unfold cN
  rw[Jf,Jf,Ut,Jb,c.lens]
end
noncomputable def Cz (X:Cx)(ifs:List Expr)(t:TT):Prop:=
 ∀ ⦃pins:List (Addr×Obj)⦄ (s:Shared) (σ:St) (H:Hp) (Q:Bool->Hp->Prop),Inv X pins σ H s->t σ H Q->wpAny (model X.prog X.w) X.A (oB ifs X.env) (TP X pins σ Q) X.xe s
noncomputable def ma:TT:=fun _ H Q=>Q true H
theorem bj {X:Cx}:Cz X [] ma:=fun _ _ _ H _ I h=>wpAny_tests_nil ⟨H,I,h⟩
theorem eg {X:Cx}{c:Expr}{t:TT}(h:PT X c t):Cz X [c] t:=fun pins s σ H Q I hw=>wpAny_tests_one (h s σ H Q I hw)
noncomputable def tV (J:It)(n:Nat)(js:List Nat)(g:TG)(tc:TT)(te:TE)(σ:St)(H1:Hp)(fin:List V->Hp->Prop):Prop:=
 ∃W:Nat->Nat->List V->Hp->Prop,(∃m,W 0 m [] H1)/\∀i m ys H,W i m ys H ->
  (J.stop i H/\fin ys H) ∨
  (J.go i H/\ys.length<sizeLine/\∀x H',J.yld i H x H'->g x (Jj n none++cN σ js) H' fun σ2 H2=>tc σ2 H2 fun b H3=>
   if b=true then te σ2 H3 fun y H4=>∃m',m'<m/\W (i+1) m' (ys++[y]) H4 else ∃m',m'<m/\W (i+1) m' ys H3)
noncomputable def dz (wi:TI)(n:Nat)(js:List Nat)(g:TG)(tc:TT)(te:TE):TE:=fun σ H Q=>wi σ H fun J H1=>
 tV J n js g tc te σ H1 fun ys H2=>∀p,H2 p=none->Q (.ref p) (upd H2 p (.lst ys))
noncomputable def Gk (n:Nat)(g:TG):Prop:=∀x σ H Q,g x σ H Q->g x σ H fun σ' H'=>Q σ' H'/\(∀j,n<=j -> σ'[j]? = σ[j]?) /\ σ'.length = σ.length
noncomputable def IV (n:Nat)(g:uC):Prop:=∀x σ H Q,g x σ H Q->g x σ H fun σ' H'=>Q σ' H'/\(∀j,n<=j -> σ'[j]? = σ[j]?) /\ σ'.length = σ.length
theorem aA {n i:Nat}(h:i<n:=by decide):Gk n (cM i):=fun x σ H Q q=>⟨q,fun j hj=>List.getElem?_set_ne (by first|lia|omega),List.length_set⟩
theorem cR {n:Nat}:IV n pR:=fun x σ H Q q=>⟨q.1,q.2,fun _ _=>rfl,rfl⟩
theorem aK {n:Nat}{t:TG}{u:uC}(h1:Gk n t)(h2:IV n u)(mt:∀x σ H Q Q',(∀a b,Q a b->Q' a b)->t x σ H Q->t x σ H Q')(mu:∀x σ H Q Q',(∀a b,Q a b->Q' a b)->u x σ H Q->u x σ H Q'):IV n (eV t u):=fun x σ H Q q=>by
 obtain⟨v,r,e,q⟩:=q
 refine⟨v,r,e,mt _ _ _ _ _ (fun σ1 H1 z =>?_) (h1 _ _ _ _ q)⟩
 refine ae.el (z) _ ?_
 rintro z k1 l1
 exact mu _ _ _ _ _ (fun σ2 H2 ⟨z2,k2,l2⟩=>⟨z2,fun j hj=>(k2 j hj).trans (k1 j hj),l2.trans l1⟩) (h2 _ _ _ _ z)
theorem dF {K:Ja}{n m:Nat}{t:uC}(h:IV n t):Gk n (nJ K m t):=fun x σ H Q q=>by
 obtain⟨a,xs,e,h1,h2,q⟩:=q
 exact⟨a,xs,e,h1,h2,h _ _ _ _ q⟩
theorem mE {X:Cx}{elt tg iter:Expr}{ifs:List Expr}{scope:Scope}{pos:Pos}{Nc Fc:List Str}{js:List Nat}{wi:TI}{g:TG}{tc:TT}{te:TE}{use:Option (Value->Sem Unit)}{QV:Value->Shared->Prop}
  (cK:X.calm=true) (c:dC X scope Nc Fc js) (hi:PI X tg iter wi)
  (hg:∀cl C s H fp,PG (fq X Nc Fc scope cl C s H fp) tg g) (zB:∀cl C s H fp,Cz (fq X Nc Fc scope cl C s H fp) ifs tc) (Hm:∀cl C s H fp,PE (fq X Nc Fc scope cl C s H fp) elt te) (gk:Gk Nc.length g)
  {pins:List (Addr×Obj)} {s:Shared} {σ:St} {H:Hp} {fin:List V->Hp->Prop} (I:Inv X pins σ H s)
  (h:wi σ H fun J H1=>tV J Nc.length js g tc te σ H1 fin)
  (behind:∀(C D:Addr) (m:Str->Option Value) (ys:List V) (H2:Hp) (s2:Shared),Inv X pins σ (upd H2 D (.lst ys)) s2->s2.heap.Ns C m->dZ X pins (upd H2 D (.lst ys)) C->H2 D=none->fin ys H2->compPost (model X.prog X.w) X.A X.xe use QV (.ref D) C (.ok .next) s2)
  (hs:∀x,foldedSetIterable iter X.env x=pure x) :
  wpAny (model X.prog X.w) X.A (comprehension (.ListComp elt [⟨tg,iter,ifs,0⟩] scope pos) scope X.env (firstIterPos [⟨tg,iter,ifs,0⟩] pos) (newList []) false (eval iter X.env) use) QV X.xe s:=by
 obtain⟨cl,hclos,dk,gZ⟩:=ir (scope:=scope) (env:=X.env) fun y hy hf=>I.ok.has y.1 (c.free y hy hf)
 refine wpAny_comprehension_free (use:=use) rfl hs hclos c.kind c.names ?_
 refine aQ (hi s σ H _ I h) fun v s1 h1=>aQ h1 fun Fq s2 h2 =>?_
 obtain⟨it,fp,tn,J,H2,e,I2,T,aW,f2,W,⟨m0,w0⟩,turn⟩:=h2
 subst e
 refine wpAny_newObj_type (wpAny_newFunctionEnv c.nocell (by intro y hy;simp at hy) (fun h1 hns1 hsb1 =>?_) c.kind)
 dsimp only at hns1 hsb1 ⊢
 generalize hG:s2.heap.push { cls := .type "list",dict:=none,data := .seq ([]:List Value).toArray } = G at hns1 hsb1 ⊢
 have hC:G.objs.size=s2.heap.objs.size+1:=by rw[<-hG,Ws]
 have Fv:s2.heap.objs.size≠G.objs.size:=by rw[hC];exact J3 (Nat.lt_succ_self _)
 have hle:s2.heap.objs.size<=G.objs.size:=by rw[hC];exact Yu _
 have old:∀b o,s2.heap.get? b=some o->h1.get? b=some o:=fun b o e=>
  hsb1.extBut b o (cv (Ji e) hle) (Jd _ (hG▸Jd _ e))
 have nG:h1.PlainList s2.heap.objs.size #[]:=⟨_,hsb1.extBut _ _ Fv (Jd _ (hG▸Jy _ rfl))⟩
 obtain⟨n0,nG⟩:=nG
 have fo:∀b∈fp,∃o,s2.heap.get? b=some o:=fun b hb=>let ⟨o,e,_⟩:=T.obj 0 _ aW b hb; ⟨o,e⟩
 have mw:∀b∈fp,b<s2.heap.objs.size:=fun b hb=>let ⟨o,e⟩:=fo b hb;Ji e
 let Xc:Cx:=fq X Nc Fc scope cl G.objs.size s2 H2 fp
 let D:Addr:=s2.heap.objs.size
 have fO:∀{pl:List (Addr×Obj)} {H':Hp},(∀p∈pl,p.1=D)->(∀b∈fp,H' b=none)->∀b∈fp,dZ Xc pl H' b:=fun{pl H'} hp hn b hb=>by
  refine⟨hn b hb,?_,?_,.inl hb,fun x a e =>?_,fun p hq =>?_⟩
  ·exact cv (mw b hb) hle
  ·exact(kD I2 c dk gZ hle f2 fo).exfs b hb
  ·exact(f2 b hb).2.2.2.2.1 x a (dk _ _ e)
  ·have q:p∈([]:List (Addr×Obj))++pl:=hq
   rw[hp p (by simpa using q)]
   exact qz (mw b hb) (Jc _)
 have loop:∀t1,codeAny (model X.prog X.w) X.A (.compLoop (.ListComp elt [⟨tg,iter,ifs,0⟩] scope pos) 0 (.ref it) (.ref s2.heap.objs.size) (compEnvC scope cl G.objs.size X.env))
   (compPost (model X.prog X.w) X.A X.xe use QV (.ref s2.heap.objs.size) G.objs.size) { s2 with heap:=h1,toks:=t1 }:=by
  intro t1
  refine sA (fun n s'=>∃i ys H' aw k,Inv Xc [(D,{ cls := .type "list",data := .seq aw k })] (Jj Nc.length none++cN σ js) H' s'/\Vals ys aw.toList/\ys.length<=sizeLine/\tn i s'.heap/\(∀b∈fp,H' b=none)/\W i n ys H') ?_ m0
   ⟨0,[],H2,#[],n0,Ay I2 c dk gZ hle (Jc _) Fv f2 fo old hns1 nG (fun _ z=>nomatch z),.nil,Us _,T.keep _ _ _ aW (fun b hb o e=>old b o e),fun b hb=>(f2 b hb).1,w0⟩
  intro n s3 hz_
  refine ae.el hz_ _ ?_
  clear hz_
  rintro i ys H3 aw k I3 rv hz cp fr3 w3
  have xJ:∀p∈[(D,({ cls := .type "list",data := .seq aw k }:Obj))],p.1=D:=fun p hp=>congrArg Prod.fst (Jg.mp hp)
  rcases turn i n ys H3 w3 with ⟨stop,qn⟩|⟨go,cF,step⟩
  ·refine aQ (T.done Xc rfl rfl rfl cK i _ s3 _ H3 fR I3 (fO xJ fr3) cp stop) fun r s4 hz_ =>?_
   refine ae.el hz_ _ ?_
   clear hz_
   rintro hr I4
   subst hr
   show compPost _ _ _ _ _ _ _ _ _
   obtain⟨hDo,AV,hDne,hDfs,_⟩:=I4.pin (D,_) (Jr _ Jk)
   have LV:D≠G.objs.size:=Fv
   refine ae.el (I4.loc) _ ?_
   rintro mC hmC _
   have FU:H3 G.objs.size=none:=I4.free
   have Qv:∀b o,s2.heap.get? b=some o->b≠D:=fun b o e=>J3 (Ji e)
   have u:Un (fP X.stack) fp H2 H3 s2.heap s4.heap:=I4.base
   have EX:H2 D=none:=I2.aV.fresh (Jc _)
   have u':Un (fP X.stack) fp H2 (upd H3 D (.lst ys)) s2.heap s4.heap:=
    ⟨u.keep,u.slot,fun b o e n hx=>by rw[ao (Qv b o e)];exact u.free b o e n hx,u.there,
      fun b xs e=>by rw[ao (aq e EX)];exact u.fN b xs e,fun b o xs e=>by rw[ao (aq e EX)];exact u.eY b o xs e,
      fun b ps e=>by rw[ao (aq e EX)];exact u.fT b ps e⟩
   have yw:eO X.prog X.w (upd H3 D (.lst ys)) s4.heap:=I4.aV.adopt AV ⟨hz,aw.toList,k,rv,by simpa using hDo⟩
   have rJ:∀b∈fp,(b∈X.ex∨X.s₀.heap.objs.size<=b)/\b≠X.env.locals/\(∀x c,X.env.cells.lookup x=some c->c≠b)/\∀p∈X.pn++pins,p.1≠b:=fun b hb=>
    ⟨(f2 b hb).2.2.2.1,(f2 b hb).2.1,(f2 b hb).2.2.2.2.1,(f2 b hb).2.2.2.2.2⟩
   have Hr:s4.os=s2.os:=I4.os
   have J4:Inv X pins σ (upd H3 D (.lst ys)) s4:=I2.pV (H':=upd H3 D (.lst ys)) Hr u' yw I4.bare rJ
   refine behind G.objs.size D mC ys H3 s4 J4 hmC (I2.kr hle ?_) AV qn
   rw[ao (Ne.symm LV)]
   exact FU
  ·refine aQ (T.item Xc rfl rfl rfl cK i _ s3 _ H3 fR I3 (fO xJ fr3) cp go) fun r s4 hz_ =>?_
   refine ae.el hz_ _ ?_
   clear hz_
   rintro u hr h4
   subst hr
   show wpAny _ _ (letOwnedTupleGo tg (.ref it) u) _ _ _
   refine aQ h4 fun _ s5 hz_ =>?_
   refine ae.el hz_ _ ?_
   clear hz_
   rintro x H5 I5 r5 y5 cC fr5
   have A8:=I5.pinned (fO xJ fr5) (T.obj _ _ cC)
   refine aQ (hg cl G.objs.size s2 H2 fp s5 _ H5 x u _ A8 r5 (gk _ _ _ _ (step x H5 y5))) fun _ s6 hz_ =>?_
   refine ae.el hz_ _ ?_
   clear hz_
   rintro σ6 H6 I6 q6 kσ kl
   refine aQ (zB cl G.objs.size s2 H2 fp s6 σ6 H6 _ I6 q6) fun b s7 hz_ =>?_
   refine ae.el hz_ _ ?_
   clear hz_
   rintro H7 I7 q7
   have later:∀{σ':St} {H':Hp} {s':Shared},Inv Xc ([(D,({ cls := .type "list",data := .seq aw k }:Obj))]++dQ fp s5.heap) σ' H' s'->tn (i+1) s'.heap/\∀b∈fp,H' b=none:=fun{σ' H' s'} Iz=>by
    refine⟨T.keep _ _ _ cC fun b hb o e=>(Iz.pin (b,o) (Jr _ (Jr _ (bP hb e)))).1,fun b hb =>?_⟩
    refine ae.el (T.obj _ _ cC b hb) _ ?_
    rintro o e d
    exact(Iz.pin (b,o) (Jr _ (Jr _ (bP hb e)))).2.1
   have back:∀{pl:List (Addr×Obj)} {H':Hp} {s':Shared},Inv Xc pl σ6 H' s'->Inv Xc pl (Jj Nc.length none++cN σ js) H' s':=fun{pl H' s'} Iz=>by
    refine Iz.weak (by rw[<-kl]) fun j v hj =>?_
    by_cases hn:j<Nc.length
    ·rw[Ua (by simpa using hn),U4] at hj
     split at hj<;>cases hj
    ·rw[kσ j (by first|lia|omega)];exact hj
   cases b with
   | false=>
    rw[if_neg Jo] at q7 ⊢
    refine ae.el (q7) _ ?_
    rintro m' tj w7
    obtain⟨l1,l2⟩:=later I7
    exact⟨m',tj,i+1,ys,H7,aw,k,back I7.cU,rv,hz,l1,l2,w7⟩
   | true=>
    rw[if_pos rfl] at q7 ⊢
    refine aQ (Hm cl G.objs.size s2 H2 fp s7 σ6 H7 _ I7 q7) fun yv s8 hz_ =>?_
    refine ae.el hz_ _ ?_
    clear hz_
    rintro y H8 I8 r8 q8
    refine ae.el (q8) _ ?_
    rintro m' tj w8
    obtain⟨hDo,AV,hDne,hDfs,_⟩:=I8.pin (D,_) (Jr _ (Ym _ Jk))
    obtain⟨l1,l2⟩:=later I8
    have hits:aw.size=ys.length:=by
     have e1:=rv.length
     simp -iota only [Jv] at e1
     (first|lia|omega)
    refine wpAny_list_append_plain (hsz:=by first|lia|omega) ⟨k,hDo⟩ fun h9 hl9 hs9 =>?_
    obtain⟨k9,hD9⟩:=hl9
    have Ks:∀p∈dQ fp s5.heap,p.1≠D:=fun p hp=>by
     obtain⟨hb,_⟩:=mP hp
     exact cv (mw _ hb) (Jc _)
    have Pc:Inv Xc (dQ fp s5.heap) σ6 H8 s8:=I8.j5 fun p hp=>I8.pin p (Jr _ (Jr _ hp))
    have I9:Inv Xc (dQ fp s5.heap) σ6 H8 { s8 with heap:=h9,toks:=s8.toks }:=Pc.turned (it:=D) (fun b o hb e=>hs9.extBut b o hb e) AV Fv (.inr (Jc _))
     (fun x a e z=>by
      obtain⟨v,q⟩:=I2.cell x a (dk _ _ e)
      exact cv q.lt (Jc _) z) (fun p hp=>Ks p (by
       have hp:p∈([]:List (Addr×Obj))++dQ fp s5.heap:=hp
       simpa using hp))
    obtain⟨ji,fr9⟩:tn (i+1) h9/\∀b∈fp,H8 b=none:=by
     refine⟨T.keep _ _ _ l1 fun b hb o e=>hs9.extBut b o ?_ e,l2⟩
     exact cv (mw _ hb) (Jc _)
    refine⟨m',tj,i+1,ys++[y],H8,aw.push yv,k9,back (I9.j5 fun p hp =>?_),?_,?_,ji,fr9,w8⟩
    ·cases Jg.mp hp
     exact⟨hD9,AV,hDne,hDfs,fun _ z=>nomatch z⟩
    ·rw[Yk]
     exact rv.append (.cons r8 .nil)
    ·rw[Jf,List.length_singleton]; (first|lia|omega)
 exact codeAny_compStart_list (loop _) (T.self _ 0 _ _ _ (T.keep _ _ _ aW fun b hb o e=>old b o e) (loop _))
theorem bO {X:Cx}{elt tg iter:Expr}{ifs:List Expr}{scope:Scope}{pos:Pos}{Nc Fc:List Str}{js:List Nat}{wi:TI}{g:TG}{tc:TT}{te:TE}
  (cK:X.calm=true) (c:dC X scope Nc Fc js) (hi:PI X tg iter wi) (gk:Gk Nc.length g)
  (hg:∀cl C s H fp,PG (fq X Nc Fc scope cl C s H fp) tg g) (zB:∀cl C s H fp,Cz (fq X Nc Fc scope cl C s H fp) ifs tc) (Hm:∀cl C s H fp,PE (fq X Nc Fc scope cl C s H fp) elt te)
  (hs:∀x,foldedSetIterable iter X.env x=pure x:=by intro _;rfl) :
  PE X (.ListComp elt [⟨tg,iter,ifs,0⟩] scope pos) (dz wi Nc.length js g tc te):=by
 intro pins s σ H Q I h
 rw[eval_ListComp]
 refine mE (use:=none) cK c hi hg zB Hm gk I h (fun C D m ys H2 s2 I2 hm hC hD q =>?_) hs
 refine⟨m,hm,fun h' hs' =>?_⟩
 refine⟨.ref D,_,I2.turned (it:=C) (t':=s2.toks) (fun b o hb e=>hs'.extBut b o hb e) hC.1 (hC.2.1) hC.2.2.2.1 hC.2.2.2.2.1 hC.2.2.2.2.2,rfl,q D hD⟩
theorem bJ {X:Cx}{i:Nat}{y:Str}{elt tg iter:Expr}{ifs:List Expr}{scope:Scope}{pos pos' py:Pos}{Nc Fc:List Str}{js:List Nat}{wi:TI}{g:TG}{tc:TT}{te:TE}(hN:X.N.Nodup)(hy:X.N[i]? = some y)(hl:Loc X.env.scope y)
  (cK:X.calm=true) (c:dC X scope Nc Fc js) (hi:PI X tg iter wi) (gk:Gk Nc.length g)
  (hg:∀cl C s H fp,PG (fq X Nc Fc scope cl C s H fp) tg g) (zB:∀cl C s H fp,Cz (fq X Nc Fc scope cl C s H fp) ifs tc) (Hm:∀cl C s H fp,PE (fq X Nc Fc scope cl C s H fp) elt te)
  (MZ:swapsWith (.ListComp elt [⟨tg,iter,ifs,0⟩] scope pos) (some (.Name y py)) pos'.line X.env=pure true:=by rfl)
  (hs:∀x,foldedSetIterable iter X.env x=pure x:=by intro _;rfl)
  (hf:X.fn y=true∨X.env.scope.names.lookup y=some .local:=by first|exact .inl rfl|exact .inr rfl|assumption) :
  PS X (.Assign [.Name y py] (.ListComp elt [⟨tg,iter,ifs,0⟩] scope pos) pos') (gU (dz wi Nc.length js g tc te) (cM i)):=by
 intro pins s σ H E I h
 rw[exec_Assign_Name_used _ _ _ _ MZ]
 refine wpAny_bind (wpAny_standAt (wpAny_bind ?_))
 show wpAny _ X.A (do let _ <-comprehension (.ListComp elt [⟨tg,iter,ifs,0⟩] scope pos) scope X.env _ (newList []) false (eval iter X.env) (some (assign (.Name y py) X.env))) _ _ s
 refine wpAny_bind (aQ (mE (use:=some (assign (.Name y py) X.env)) (QV:=fun _ s'=>SP X pins E .next s') cK c hi hg zB Hm gk I h (fun C D m ys H2 s2 I2 hm hC hD q =>?_) hs) fun _ s' hq=>wpAny_pure (wpAny_pure hq))
 show wpAny _ _ (assign (.Name y py) X.env (.ref D)) _ _ s2
 refine wpAny_assign_Name (jJ I2 hN hy hl (v := .ref D) rfl (fun s3 I3 ⟨a,Bq,ha⟩=>?_) hf)
 have jZ:C≠a:=by
  rcases ha with e|e
  ·rw[e];exact hC.2.1
  ·exact fun z=>hC.2.2.2.2.1 _ _ e z.symm
 refine⟨m,hm.at' fun o e=>Bq.extBut _ o jZ e,fun h' hs' =>?_⟩
 exact⟨_,_,I3.turned (it:=C) (t':=s3.toks) (fun b o hb e=>hs'.extBut b o hb e) hC.1 hC.2.1 hC.2.2.2.1 hC.2.2.2.2.1 hC.2.2.2.2.2,q D hD⟩
section
variable {X:Cx}{pins:List (Addr×Obj)}{σ:St}{H:Hp}{s:Shared}{p:Addr}{ys:List V}
theorem m6 {A:Around}(hh:A.handled=none)(I:Inv X pins σ H s)(hq:aG X.K H p ys){R:Value->Shared->Prop}{E:Value->Shared->Prop}
  (h:∀(aw:List Value) (it:Addr) (s2:Shared),Vals ys aw->aw.length<=sizeLine ->
   Walks X.prog X.w A it [it,p] [it] aw.toArray.size (fun i v=>aw.toArray[i]? = some v) (fun i h=>h.IsListIter it p i/\h.IsList p aw.toArray)->(s2.heap.IsListIter it p 0/\s2.heap.IsList p aw.toArray)->(∀b∈[it,p],b<s2.heap.objs.size) ->
   (∀h' tk,(∀b o,b∉[it]->s2.heap.get? b=some o->h'.get? b=some o)->Inv X pins σ H { s2 with heap:=h',toks:=tk })->R (.ref it) s2) :
  wpAny (model X.prog X.w) A (pyIter (.ref p)) R E s:=by
 obtain⟨aw,rv,pl,hz⟩:=I.list hq
 have hl:=pl.isList
 have hp:p<s.heap.objs.size:=by obtain⟨o,e,_⟩:=hl;exact Ji e
 refine wpAny_pyIter_list hl ?_
 refine h aw s.heap.objs.size _ rv (by have:=rv.length; (first|lia|omega)) (Walks.list hh _ p (J3 hp) aw.toArray) ⟨⟨_,Jy _ rfl,rfl,rfl⟩,hl.push _⟩ (fun b hb =>?_) fun h' tk hk =>?_
 ·show b<(s.heap.push _).objs.size
  rw[Ws]
  rcases Uc.mp hb with rfl|hb
  ·exact Nat.lt_succ_self _
  ·rw[Jg.mp hb];exact Wm hp
 ·exact I.kept (t':=tk) fun b o e=>hk b o (fun z=>cv (Ji e) (Jc _) (Jg.mp z)) (Jd _ e)
theorem fG {ys:List V}{aw:List Value}(r:Vals ys aw){i:Nat}{v:Value}(e:aw.toArray[i]? = some v):∃y,ys[i]? = some y/\RelV y v:=by
 have e':aw[i]? = some v:=by simpa using e
 have hi:i<aw.length:=(Js.mp e').1
 have hl:=r.length
 obtain⟨u,h1,h2⟩:=r.get (i:=i) (x:=ys[i]'(by first|lia|omega)) (by simp)
 rw[e'] at h1;cases h1
 exact⟨_,by simp,h2⟩
theorem range_all (bs:List Bool):(U3 bs.length).all (fun i=>bs.getD i false)=bs.all id:=by
 induction bs with
 | nil=>rfl
 | cons b r ih=>
  rw[J8,List.range_succ_eq_map,List.all_cons,List.all_map,List.all_cons,<-ih]
  rfl
theorem zM {A:Around}{bs:List Bool}{aw:List Value}(r:Vals (bs.map V.bl) aw):TruthOf X.prog X.w A (fun i v=>aw.toArray[i]? = some v) (fun i=>bs.getD i false):=by
 intro i v s Q E e hQ
 obtain⟨y,h1,h2⟩:=fG r e
 rw[Jm] at h1
 cases q:bs[i]? with
 | none=>rw[q] at h1;cases h1
 | some b=>
  rw[q] at h1;cases h1
  cases h2
  have:bs.getD i false=b:=by simp[List.getD,q]
  have hQ:Q (bs.getD i false) s:=hQ
  rw[this] at hQ
  exact wpAny_pure hQ
theorem pW (hc:X.calm=true):bZ X (.builtin "all") (fun xs H Q=>∃(p:Addr) (bs:List Bool),xs=[.ref p]/\aG X.K H p (bs.map V.bl)/\Q (.bl (bs.all id)) H):=by
 intro pins s σ H xs us Q I r h
 obtain⟨p,bs,rfl,hq,q⟩:=h
 obtain⟨u,rfl,ru⟩:=vals1 r
 cases ru
 refine call_all_walk (m6 (A:=X.A.in1) (I.ok.hd hc) I hq fun aw it s2 rv hz W st cF hI =>?_)
 refine⟨it,_,_,_,_,_,fun i=>bs.getD i false,rfl,W,st,zM rv,fun h' tk hk =>?_⟩
 have hl:aw.toArray.size=bs.length:=by have:=rv.length;simp at this ⊢; (first|lia|omega)
 rw[hl,range_all]
 exact⟨.bl _,H,hI h' tk hk,rfl,q⟩
theorem int_at {ns:List Int}{aw:List Value}(r:Vals (ns.map V.int) aw){i:Nat}{v:Value}(e:aw.toArray[i]? = some v):∃n t,ns[i]? = some n/\v = .int n t:=by
 obtain⟨y,h1,h2⟩:=fG r e
 rw[Jm] at h1
 cases q:ns[i]? with
 | none=>rw[q] at h1;cases h1
 | some b=>
  rw[q] at h1;cases h1
  obtain⟨t,rfl⟩:=h2
  exact⟨b,t,rfl,rfl⟩
theorem oQ (val:Nat->Int)(n:Nat):preSum val (n+1)=val 0+preSum (fun i=>val (i+1)) n:=by
 induction n with
 | zero=>simp[preSum]
 | succ n ih=>rw[preSum,ih,preSum]; (first|lia|omega)
theorem pM (ns:List Int):preSum (fun i=>ns.getD i 0) ns.length=ns.sum:=by
 induction ns with
 | nil=>rfl
 | cons n r ih=>
  rw[J8,oQ,List.sum_cons,<-ih]
  rfl
theorem mh (hc:X.calm=true):bZ X (.builtin "sum") (fun xs H Q=>∃(p:Addr) (ns:List Int),xs=[.ref p]/\aG X.K H p (ns.map V.int)/\Q (.int ns.sum) H):=by
 intro pins s σ H xs us Q I r h
 obtain⟨p,ns,rfl,hq,q⟩:=h
 obtain⟨u,rfl,ru⟩:=vals1 r
 cases ru
 refine call_sum_walkG (m6 (A:=X.A.in1) (I.ok.hd hc) I hq fun aw it s2 rv hz W st cF hI =>?_)
 refine⟨it,_,_,_,_,_,fun i=>ns.getD i 0,rfl,W,st,cF,fun i v e =>?_,fun h' tk t' hk =>?_⟩
 ·obtain⟨n,t,h1,rfl⟩:=int_at rv e
  exact⟨t,by simp[List.getD,h1]⟩
 ·have hl:aw.toArray.size=ns.length:=by have:=rv.length;simp at this ⊢; (first|lia|omega)
  rw[hl,pM]
  exact⟨.int _,H,hI h' tk hk,⟨_,rfl⟩,q⟩
theorem sumK (K:Ja)(hc:X.calm=true)(hK:X.K=K:=by rfl):bZ X (.builtin "sum") (fun xs H Q=>∃(p:Addr) (ns:List Int),xs=[.ref p]/\aG K H p (ns.map V.int)/\Q (.int ns.sum) H):=by subst hK;exact mh hc
theorem AK (K:Ja)(hc:X.calm=true)(hK:X.K=K:=by rfl):bZ X (.builtin "all") (fun xs H Q=>∃(p:Addr) (bs:List Bool),xs=[.ref p]/\aG K H p (bs.map V.bl)/\Q (.bl (bs.all id)) H):=by subst hK;exact pW hc
theorem hR:FF X "str.startswith" (fun x vs H Q=>∃a b,x = .str a/\vs=[.str b]/\Q (.bl (Txt.startswith a b)) H):=by
 intro pins s σ H x vs v us Q I rx rv h
 obtain⟨a,b,rfl,rfl,q⟩:=h
 obtain⟨t,rfl⟩:=rx
 obtain⟨u,rfl,t',rfl⟩:=rv.one
 exact SC.startswith ⟨.bl _,H,I,rfl,q⟩
theorem xt:∀{xs:List Str} {aw:List Value},Vals (xs.map V.str) aw->StrsAre aw xs:=by
 intro xs aw r
 induction xs generalizing aw with
 | nil=>cases r;exact StrsAre.nil
 | cons x xs ih=>
  cases r with
  | cons r1 r2=>
   obtain⟨t,rfl⟩:=r1
   exact StrsAre.cons x t (ih r2)
theorem BU:FF X "str.join" (fun x vs H Q=>∃(sep:Str) (p:Addr) (xs:List Str),x = .str sep/\vs=[.ref p]/\aG X.K H p (xs.map V.str)/\(xs.map (·.length)).sum+xs.length*sep.length<=16777216/\Q (.str (Txt.join sep xs)) H):=by
 intro pins s σ H x vs v us Q I rx rv h
 obtain⟨sep,p,xs,rfl,rfl,hq,hz,q⟩:=h
 obtain⟨t,rfl⟩:=rx
 obtain⟨u,rfl,ru⟩:=rv.one
 cases ru
 obtain⟨aw,r',pl,_⟩:=I.list hq
 exact join_list pl.isList (xt r') hz fun t' k=>⟨.str _,H,I.tok _,⟨_,rfl⟩,q⟩
end
mutual
noncomputable def Den (K:Ja)(H:Hp):PyData->V->Prop
 | .none,v=>v = .non
 | .bool b,v=>v = .bl b
 | .int i,v=>v = .int i
 | .str x,v=>v = .str x
 | .list ds,v=>cj fun a vs=>v = .ref a/\aG K H a vs/\az K H ds vs
 | .tuple ds,v=>cj fun a vs=>v = .ref a/\d9 K H a vs/\az K H ds vs
 | .dict _,_=>False
noncomputable def az (K:Ja)(H:Hp):List PyData->List V->Prop
 | [],vs=>vs=[]
 | d::ds,vs=>cj fun v r=>vs=v::r/\Den K H d v/\az K H ds r
end
theorem au.sG {K:Ja}{H H':Hp}{a:Addr}{xs:List V}(e:au H H')(h:d9 K H a xs):d9 K H' a xs:=by
 rcases h with (h|⟨o,h⟩)|h
 ·exact .inl (.inl (e _ _ h))
 ·exact .inl (.inr ⟨o,e _ _ h⟩)
 ·exact .inr h
mutual
theorem Den.same {K:Ja}{H H':Hp}(e:au H H'):∀{d:PyData} {v:V},Den K H d v->Den K H' d v
 | .none,_,h=>by unfold Den at h ⊢;exact h
 | .bool _,_,h=>by unfold Den at h ⊢;exact h
 | .int _,_,h=>by unfold Den at h ⊢;exact h
 | .str _,_,h=>by unfold Den at h ⊢;exact h
 | .list ds,_,h=>by
  unfold Den at h ⊢
  obtain⟨a,vs,h1,h2,h3⟩:=h
  exact⟨a,vs,h1,e.seq h2,az.same e h3⟩
 | .tuple ds,_,h=>by
  unfold Den at h ⊢
  obtain⟨a,vs,h1,h2,h3⟩:=h
  exact⟨a,vs,h1,e.sG h2,az.same e h3⟩
 | .dict _,_,h=>by unfold Den at h;exact h.elim
theorem az.same {K:Ja}{H H':Hp}(e:au H H'):∀{ds:List PyData} {vs:List V},az K H ds vs->az K H' ds vs
 | [],_,h=>by unfold az at h ⊢;exact h
 | d::ds,_,h=>by
  unfold az at h ⊢
  obtain⟨v,r,h1,h2,h3⟩:=h
  exact⟨v,r,h1,Den.same e h2,az.same e h3⟩
end
mutual
theorem Den.reads {X:Cx}{pins:List (Addr×Obj)}{σ:St}{H:Hp}{s:Shared}(I:Inv X pins σ H s):∀{d:PyData} {v:V} {u:Value},Den X.K H d v->RelV v u->∃as,Reads s.heap u d as
 | .none,_,_,h,r=>by unfold Den at h;subst h;cases r;exact⟨_,.none⟩
 | .bool _,_,_,h,r=>by unfold Den at h;subst h;cases r;exact⟨_,.bool _⟩
 | .int _,_,_,h,r=>by unfold Den at h;subst h;obtain⟨t,rfl⟩:=r;exact⟨_,.int _ _⟩
 | .str _,_,_,h,r=>by unfold Den at h;subst h;obtain⟨t,rfl⟩:=r;exact⟨_,.str _ _⟩
 | .list ds,_,_,h,r=>by
  unfold Den at h
  obtain⟨a,vs,rfl,h2,h3⟩:=h
  cases r
  obtain⟨aw,rv,⟨o,n,e1,e2,_,e4⟩,_⟩:=I.list h2
  obtain⟨as,q⟩:=az.reads I h3 rv
  exact⟨_,.list e1 e2 e4 (by simpa using q)⟩
 | .tuple ds,_,_,h,r=>by
  unfold Den at h
  obtain⟨a,vs,rfl,h2,h3⟩:=h
  cases r
  obtain⟨aw,rv,⟨o,e1,e2,n,e4⟩,_⟩:=I.tuple h2
  obtain⟨as,q⟩:=az.reads I h3 rv
  exact⟨_,.tuple e1 e2 e4 (by simpa using q)⟩
 | .dict _,_,_,h,_=>by unfold Den at h;exact h.elim
theorem az.reads {X:Cx}{pins:List (Addr×Obj)}{σ:St}{H:Hp}{s:Shared}(I:Inv X pins σ H s):∀{ds:List PyData} {vs:List V} {us:List Value},az X.K H ds vs->Vals vs us->∃as,ReadsAll s.heap us ds as
 | [],_,_,h,r=>by unfold az at h;subst h;cases r;exact⟨_,.nil⟩
 | d::ds,_,_,h,r=>by
  unfold az at h
  obtain⟨v,q,rfl,h2,h3⟩:=h
  cases r with
  | cons r1 r2=>
   obtain⟨as,q1⟩:=Den.reads I h2 r1
   obtain⟨bs,q2⟩:=az.reads I h3 r2
   exact⟨_,.cons q1 q2⟩
end
section
variable {X:Cx}
open PySem.SeqAt in
theorem Em (hu:X.A.units+64<cLine):dM X (compareOp .Eq) (fun x y H Q=>∃d e,Den X.K H d x/\Den X.K H e y/\shaped d=true/\shaped e=true/\Q (.bl (PyData.eqv d e)) H):=by
 intro pins s σ H x y v u Q I rx ry h
 obtain⟨d,e,hd,he,sd,se,q⟩:=h
 obtain⟨as,r1⟩:=hd.reads I rx
 obtain⟨bs,r2⟩:=he.reads I ry
 exact eq_dataH r1 r2 sd se hu ⟨.bl _,H,I,rfl,q⟩
open PySem.SeqAt in
theorem Ew (hu:X.A.units+64<cLine):dM X (compareOp .NotEq) (fun x y H Q=>∃d e,Den X.K H d x/\Den X.K H e y/\shaped d=true/\shaped e=true/\Q (.bl (!PyData.eqv d e)) H):=by
 intro pins s σ H x y v u Q I rx ry h
 obtain⟨d,e,hd,he,sd,se,q⟩:=h
 obtain⟨as,r1⟩:=hd.reads I rx
 obtain⟨bs,r2⟩:=he.reads I ry
 exact ne_dataH r1 r2 sd se hu ⟨.bl _,H,I,rfl,q⟩
theorem EG:dM X (compareOp .Is) (fun x y H Q=>∃a b,x = .bl a/\y = .bl b/\Q (.bl (decide (a=b))) H):=by
 intro pins s σ H x y v u Q I rx ry h
 obtain⟨a,b,rfl,rfl,q⟩:=h
 cases rx;cases ry
 refine wpAny_is_plain rfl (aU I q ?_)
 cases a<;>cases b<;>rfl
theorem wx:dM X (compareOp .IsNot) (fun x y H Q=>∃a b,x = .bl a/\y = .bl b/\Q (.bl (!decide (a=b))) H):=by
 intro pins s σ H x y v u Q I rx ry h
 obtain⟨a,b,rfl,rfl,q⟩:=h
 cases rx;cases ry
 refine wpAny_isNot_plain rfl (aU I q ?_)
 cases a<;>cases b<;>rfl
theorem yF:bZ X (.builtin "isinstance") (fun xs H Q=>∃x T t b,xs=[x,.ty T]/\iW X.K H x t/\Yw X.K t (.type T)=some b/\Q (.bl b) H):=by
 intro pins s σ H xs us Q I r h
 obtain⟨x,T,t,b,rfl,ty,e,q⟩:=h
 obtain⟨u,w',rfl,r1,r2⟩:=vals2 r
 cases r2
 exact vF I r1 ty e fun tk=>⟨.bl b,H,I.tok _,rfl,q⟩
theorem E9:zQ X (fun x lo hi H Q=>∃z,x = .str z/\z.length<=sizeLine/\Q (.str (Txt.slice z lo hi)) H):=by
 intro pins s σ H x v vl vu lo hi sl Q I rx hs pl pu q
 obtain⟨z,rfl,hz,q⟩:=q
 obtain⟨t,rfl⟩:=rx
 refine⟨"str",_,F.slot_str_getitem.lookup,typeIs_str _ _ _,?_⟩
 have fin:∀t' k,EP X pins σ Q (.str (Txt.slice z lo hi) t') { s with toks:=k }:=fun t' k=>⟨.str _,H,I.tok _,⟨_,rfl⟩,q⟩
 cases pl with
 | none=>
  cases pu with
  | none=>exact wpAny_getItem_str_slice (l:=none) (u:=none) (st:=none) hs rfl (post_val_or_str ⟨Jp (Txt.slice_le z _ _) hz,fin⟩)
  | int j uj=>exact wpAny_getItem_str_slice (l:=none) (u:=some (j,uj)) (st:=none) hs rfl (post_val_or_str ⟨Jp (Txt.slice_le z _ _) hz,fin⟩)
 | int i ui=>
  cases pu with
  | none=>exact wpAny_getItem_str_slice (l:=some (i,ui)) (u:=none) (st:=none) hs rfl (post_val_or_str ⟨Jp (Txt.slice_le z _ _) hz,fin⟩)
  | int j uj=>exact wpAny_getItem_str_slice (l:=some (i,ui)) (u:=some (j,uj)) (st:=none) hs rfl (post_val_or_str ⟨Jp (Txt.slice_le z _ _) hz,fin⟩)
end
section
variable {X:Cx}{pins:List (Addr×Obj)}{σ:St}{H:Hp}{s:Shared}{h':Heap}
theorem Inv.adopt {T:Addr}{o:HO}(I:Inv X pins σ H s)(hT:dZ X pins H T)(hex:X.s₀.heap.objs.size<=T)(new:bf X.prog X.w (upd H T o) s.heap T o):Inv X pins σ (upd H T o) s:=
 ⟨I.ok,I.os,I.bare,⟨I.base.keep,I.base.slot,fun b ob e n hx=>by rw[ao (cv (Ji e) hex)];exact I.base.free b ob e n hx,I.base.there,
   fun b xs e=>by rw[ao (aq (I.base.fN b xs e) hT.1)];exact I.base.fN b xs e,fun b ob xs e=>by rw[ao (aq (I.base.eY b ob xs e) hT.1)];exact I.base.eY b ob xs e,
   fun b ps e=>by
    obtain⟨m,q⟩:=I.base.fT b ps e
    exact⟨m,by rw[ao (aq q hT.1)];exact q⟩⟩,
  I.loc,I.cell,by rw[ao (Ne.symm hT.2.1)];exact I.free,fun x c e=>by rw[ao (hT.2.2.2.2.1 x c e)];exact I.freeC x c e,
  fun p hp=>by
   refine ae.el (I.pin p hp) _ ?_
   rintro a b c d f
   exact⟨a,by rw[ao (hT.2.2.2.2.2 p hp)];exact b,c,d,f⟩,I.aV.adopt hT.1 new,I.len⟩
end
section
variable {X:Cx}
noncomputable def FE:R2:=fun x y H Q=>(cj fun i j=>x = .int i/\y = .int j/\Q (.int (i+j)) H)∨(∃i j,x = .str i/\y = .str j/\i.length+j.length<=sizeLine/\Q (.str (i++j)) H)∨Hz x y H Q
theorem He:dM X (binaryOp .Add) FE:=EM.or (tf.or D5)
noncomputable def Hq:R2:=fun x y H Q=>(cj fun i j=>x = .int i/\y = .int j/\sI i j/\Q (.int (i*j)) H)∨Ib x y H Q
theorem Ga:dM X (binaryOp .Mult) Hq:=C8.or EC
structure Fn (P:Program)(w:World)(K:Ja)(mg:Str->Option Value)(base:Heap)(k:Nat)(x:Str)(ps:List Str)(sp:Sp):Prop where
 ex:∃f fd,bA P w K mg base fQ k f fd ps sp/\Binds K fd ps []/\Y4 K (.ref f)=true/\mg x=some (.ref f)
theorem Fn.mono {P:Program}{w:World}{K:Ja}{mg:Str->Option Value}{base:Heap}{j k:Nat}{x:Str}{ps:List Str}{sp:Sp}(F:Fn P w K mg base j x ps sp)(h:j<=k):Fn P w K mg base k x ps sp:=by
 refine ae.el (F.ex) _ ?_
 rintro f fd a b c d
 exact⟨f,fd,a.mono h,b,c,d⟩
theorem aJ {k:Nat}{x:Str}{ps:List Str}{sp:Sp}{p pos:Pos}{e:Expr}{es:List Expr}{t:TA}(F:Fn X.prog X.w X.K X.mg X.base k x ps sp)(hr:cL k X.A)(hg:Gl X x)
  (ha:PA X (e::es) t) (rD:(x==("__debug__" : Str))=false:=by decide) (he:starEach (e::es) X.env=(false,eval e X.env)::starEach es X.env:=by rfl) (g8:(backTo pos (starEach es X.env)).any (·.1)=false:=by rfl) :
  PE X (.Call (.Name x p) (e::es) [] pos) (qu sp [] E0 t):=by
 refine ae.el (F.ex) _ ?_
 rintro f fd a b c d
 exact AD a hr hg d c b .nil G5 ha rD he g8
end
noncomputable def ue (pn sn:List (Str×NameKind))(N Fc:List Str)(js:List Nat):Bool:=
 sn.all (fun y=>y.2 != .cell)&&sn.all (fun y=>y.2 != .local||sn.lookup y.1==some .local)&&sn.all (fun y=>y.2 != .free||pn.lookup y.1==some .cell||pn.lookup y.1==some .free)&&js.length==Fc.length &&
 (U3 Fc.length).all fun k=>match Fc[k]?,js[k]? with
  | some x,some j=>sn.lookup x==some .free&&N[j]? == some x
  | _,_=>false
theorem aO {X:Cx}{scope:Scope}{Nc Fc:List Str}{js:List Nat}(hk:scope.kind = .function:=by rfl)(h:ue X.env.scope.names scope.names X.N Fc js=true:=by rfl):dC X scope Nc Fc js:=by
 unfold ue at h
 simp -iota only [Yo,Wt,Bool.or_eq_true,bne_iff_ne,beq_iff_eq,ne_eq] at h
 obtain⟨⟨⟨⟨h1,h2⟩,h3⟩,h4⟩,h5⟩:=h
 refine⟨hk,h1,fun y hy hl=>(h2 y hy).resolve_left (fun z=>z hl),fun y hy hf =>?_,fun k x hx =>?_,h4⟩
 ·rcases h3 y hy with (z|z)|z
  ·exact absurd hf z
  ·exact .inl z
  ·exact .inr z
 ·have NS:k<Fc.length:=(Js.mp hx).1
  have q:=h5 k (Wd.mpr NS)
  have hj:k<js.length:=by (first|lia|omega)
  rw[hx,Je hj] at q
  simp only[Yo,beq_iff_eq] at q
  exact⟨q.1,_,Je hj,q.2⟩
section
variable {X:Cx}
theorem Np (hu:X.A.units+64<cLine):dM X (compareOp .Eq) (fun x y H Q=>Kv x y H Q∨(∃d e,Den X.K H d x/\Den X.K H e y/\SeqAt.shaped d=true/\SeqAt.shaped e=true/\Q (.bl (PyData.eqv d e)) H)):=GF.or (Em hu)
theorem LY (hu:X.A.units+64<cLine):dM X (compareOp .NotEq) (fun x y H Q=>Lw x y H Q∨(∃d e,Den X.K H d x/\Den X.K H e y/\SeqAt.shaped d=true/\SeqAt.shaped e=true/\Q (.bl (!PyData.eqv d e)) H)):=GU.or (Ew hu)
theorem AH:dM X (compareOp .Is) (fun x y H Q=>(y = .non/\Q (.bl (decide (x = .non))) H)∨(∃a b,x = .bl a/\y = .bl b/\Q (.bl (decide (a=b))) H)):=D9.or EG
theorem BR:dM X (compareOp .IsNot) (fun x y H Q=>(y = .non/\Q (.bl (!decide (x = .non))) H)∨(∃a b,x = .bl a/\y = .bl b/\Q (.bl (!decide (a=b))) H)):=Ar.or wx
theorem Ip:zQ X (fun x lo hi H Q=>Ej X.K x lo hi H Q∨(∃z,x = .str z/\z.length<=sizeLine/\Q (.str (Txt.slice z lo hi)) H)):=A9.or E9
structure Nm (mg:Str->Option Value):Prop where
 n_len:mg "len" = none
 n_range:mg "range" = none
 n_max:mg "max" = none
 n_min:mg "min" = none
 n_sum:mg "sum" = none
 n_all:mg "all" = none
 n_any:mg "any" = none
 n_list:mg "list" = none
 n_tuple:mg "tuple" = none
 n_int:mg "int" = none
 n_str:mg "str" = none
 n_bool:mg "bool" = none
 n_zip:mg "zip" = none
 n_enumerate:mg "enumerate" = none
 n_isinstance:mg "isinstance" = none
 n_divmod:mg "divmod" = none
end
theorem cw {J:It}{n:Nat}{js:List Nat}{g:TG}{tc:TT}{te:TE}{σ:St}{H1:Hp}{fin:List V->Hp->Prop}(N:Nat)(Pv:Nat->List V->Hp->Prop)(h0:Pv 0 [] H1)
  (go:∀i ys H (Nx:List V->Hp->Prop),i<N->Pv i ys H->(∀ys' H',Pv (i+1) ys' H'->Nx ys' H')->J.go i H/\ys.length<sizeLine /\
   ∀x H',J.yld i H x H'->g x (Jj n none++cN σ js) H' fun σ2 H2=>tc σ2 H2 fun b H3=>if b=true then te σ2 H3 fun y H4=>Nx (ys++[y]) H4 else Nx ys H3)
  (stop:∀ys H,Pv N ys H->J.stop N H/\fin ys H):tV J n js g tc te σ H1 fin:=by
 refine⟨fun i m ys H=>m=N-i/\i<=N/\Pv i ys H,⟨N,by simp,Us _,h0⟩,?_⟩
 intro i m ys H hz_
 refine ae.el hz_ _ ?_
 clear hz_
 rintro rfl hi p
 by_cases cF:i<N
 ·exact .inr (go i ys H (fun ys' H'=>∃m',m'<N-i/\(m'=N-(i+1)/\i+1<=N/\Pv (i+1) ys' H')) cF p fun ys' H' q=>⟨_,by first|lia|omega,rfl,cF,q⟩)
 ·have e:i=N:=by (first|lia|omega)
  subst e
  exact .inl (stop ys H p)
section
variable {X:Cx}(K:Ja)
theorem gP (hK:X.K=K:=by rfl):zY X (Fw K):=by subst hK;exact C0
theorem Oa (hK:X.K=K:=by rfl):zQ X (fun x lo hi H Q=>Ej K x lo hi H Q∨(∃z,x = .str z/\z.length<=sizeLine/\Q (.str (Txt.slice z lo hi)) H)):=by subst hK;exact Ip
theorem dA (hK:X.K=K:=by rfl):bZ X (.builtin "len") (fun xs H Q=>∃x n,xs=[x]/\EV K x H n/\Q (.int n) H):=by subst hK;exact zH
theorem yt (hK:X.K=K:=by rfl):FF X "str.join" (fun x vs H Q=>∃(sep:Str) (p:Addr) (xs:List Str),x = .str sep/\vs=[.ref p]/\aG K H p (xs.map V.str)/\(xs.map (·.length)).sum+xs.length*sep.length<=16777216/\Q (.str (Txt.join sep xs)) H):=by subst hK;exact BU
theorem iE {tg l:Expr}{tl:TE}(hl:PE X l tl)(hK:X.K=K:=by rfl):PI X tg l (uc K tl):=by subst hK;exact AR hl
theorem tupK {pos:Pos}{es:List Expr}{k:Nat}{t:uC}(n:Nat)(hc:X.calm=true)(h:Gh X es t)(hn:(assignEach es X.env).length=n:=by rfl)(fZ:(assignEach es X.env).findIdx? (·.1)=none:=by rfl)(hK:X.K=K:=by rfl):PG X (.Tuple es k pos) (nJ K n t):=by subst hK;exact Eg hc h hn fZ
theorem si {o e:Expr}{es:List Expr}{to:TE}{t:TA}{name:Str}{apos gO:Pos}{T id:String}{r:V->List V->Hp->VK->Prop}(pa:PlainAttrs T)(slot:Slot T name id)(Ls:typeOf (.builtin id)=pure (.type "method_descriptor"))(hm:FF X id r)(ho:PE X o to)(ha:PA X (e::es) t)
  (xR:attributeBase o name X.env (eval o X.env)=eval o X.env:=by rfl)
  (Dg:((backTo gO (starEach (e::es) X.env)).all (fun x => !x.1)&&(backToKw gO (keywordEach [] X.env)).all (fun x=>x.1.isSome)
   && decide ((e::es).length+([]:List Keyword).length+(if ([]:List Keyword).isEmpty then 0 else 1)<30))=true:=by rfl)
  (zF:(apos.endLine==gO.line)=true:=by rfl) (hs:starEach (e::es) X.env=(false,eval e X.env)::starEach es X.env:=by rfl) (sr:(backTo gO (starEach es X.env)).any (·.1)=false:=by rfl) (hK:X.K=K:=by rfl) :
  PE X (.Call (.Attribute o name apos) (e::es) [] gO) (N2 K T r to t):=by subst hK;exact Ih pa slot Ls hm ho ha xR Dg zF hs sr
theorem E8 (hu:X.A.units+64<cLine)(hK:X.K=K:=by rfl):dM X (compareOp .Eq) (fun x y H Q=>Kv x y H Q∨(∃d e,Den K H d x/\Den K H e y/\SeqAt.shaped d=true/\SeqAt.shaped e=true/\Q (.bl (PyData.eqv d e)) H)):=by subst hK;exact Np hu
theorem yk (hu:X.A.units+64<cLine)(hK:X.K=K:=by rfl):dM X (compareOp .NotEq) (fun x y H Q=>Lw x y H Q∨(∃d e,Den K H d x/\Den K H e y/\SeqAt.shaped d=true/\SeqAt.shaped e=true/\Q (.bl (!PyData.eqv d e)) H)):=by subst hK;exact LY hu
end
noncomputable abbrev Keeps (g h:Heap)(c:Addr->Prop):Prop:=∀b o,¬c b->g.get? b=some o->h.get? b=some o
structure xS (prog:Program)(w:World)(A:Around)(it S:Addr)(T:String)(fp:Addr->Prop)(n:Nat)(P:Nat->Value->Heap->Prop)(R:Value->Value->Prop)(St:Nat->Heap->Prop):Prop where
 sfp:¬fp S
 ne:it≠S
 ty:∀i h,St i h->∃o,h.get? it=some o/\o.cls = .type T
 self:∀(s:Shared) (Q:Value->Shared->Prop) (E:Value->Shared->Prop),St 0 s.heap->Q (.ref it) s->wpAny (model prog w) A (pyIter (.ref it)) Q E s
 item:∀i (s:Shared) (Q:Option Value->Shared->Prop) (E:Value->Shared->Prop),i<n->St i s.heap->S<s.heap.objs.size ->
  (∀v h' tk,Keeps s.heap h' fp->St (i+1) h'->P i v h'->(∀j u,P j u s.heap->R u v)->Q (some v) { s with heap:=h',toks:=tk })->wpAny (model prog w) A (pyNext (.ref it)) Q E s
 stop:∀(s:Shared) (Q:Option Value->Shared->Prop) (E:Value->Shared->Prop),St n s.heap->S<s.heap.objs.size->(∀h' tk,Keeps s.heap h' fp->Q none { s with heap:=h',toks:=tk })->wpAny (model prog w) A (pyNext (.ref it)) Q E s
 keepS:∀i h h',St i h->Keeps h h' (· = S)->St i h'
 keepP:∀j v h h',P j v h->Keeps h h' (fun b=>fp b∨b=S)->P j v h'
 nolen:typeLookup (.type T) "__len__" = pure none
 nohint:typeLookup (.type T) "__length_hint__" = pure none
 nl:(Value.type T==Value.type "list")=false
 nt:(Value.type T==Value.type "tuple")=false
structure qV (h:Heap)(S:Addr)(i:Nat)(P:Nat->Value->Heap->Prop)(R:Value->Value->Prop)(acc:Array Value)(c:Nat):Prop where
 ob:h.get? S=some { cls := .type "list",data := .seq acc c }
 sz:acc.size=i
 pw:acc.toList.Pairwise R
 all:∀(j:Nat) v,acc[j]? = some v->P j v h
noncomputable abbrev rT (prog:Program)(w:World)(A:Around)(R:Result->Shared->Prop):Fin->Shared->Prop:=fun fin s'=>match fin with
 | .done f=>R (.ok f) s'
 | .again c'=>c'.quiet=true/\codeAny (model prog w) A c' R s'
section
variable {prog:Program}{w:World}{A:Around}{it S:Addr}{T:String}{fp:Addr->Prop}{n:Nat}{P:Nat->Value->Heap->Prop}{R:Value->Value->Prop}{St:Nat->Heap->Prop}
noncomputable abbrev kh (g:Heap)(S:Addr)(fp:Addr->Prop)(n:Nat)(P:Nat->Value->Heap->Prop)(R:Value->Value->Prop)(s:Shared)(Z:Shared->Prop):Prop:=
 ∀h' tk acc c,Keeps g h' (fun b=>fp b∨b=S)->qV h' S n P R acc c->Z { s with heap:=h',toks:=tk }
theorem mR (Fd:xS prog w A.in1 it S T fp n P R St)(hn:n<=sizeLine){s:Shared}{Z:Result->Shared->Prop}{res:Value}{g:Heap}(fin:kh g S fp n P R s (Z (.ok (.ret res)))):
  ∀(k i:Nat) (h:Heap) (tk:Nat) (acc:Array Value) (c:Nat),i+k=n->St i h->qV h S i P R acc c->Keeps g h (fun b=>fp b∨b=S) ->
   codeAny (model prog w) A (.builtin "list.extend.loop" ⟨[.ref S,.ref it,res],[]⟩) Z { s with heap:=h,toks:=tk }
 | 0,i,h,tk,acc,c,hk,fZ,G,kp=>by
  have e:i=n:=by (first|lia|omega)
  subst e
  refine codeAny_builtin PySem.F.entry_extend_loop ?_
  rw[Around.under_plainId PySem.F.plain_extend_loop _]
  refine wpAny_bind (Fd.stop { s with heap:=h,toks:=tk } _ _ fZ (Ji G.ob) fun h' tk' k'=>wpAny_pure ?_)
  exact fin h' tk' acc c (fun b o nb q=>k' b o (fun z=>nb (.inl z)) (kp b o nb q)) ⟨k' _ _ Fd.sfp G.ob,G.sz,G.pw,fun j v e=>Fd.keepP _ _ _ _ (G.all j v e) fun b o nb q=>k' b o (fun z=>nb (.inl z)) q⟩
 | k+1,i,h,tk,acc,c,hk,fZ,G,kp=>by
  refine codeAny_builtin PySem.F.entry_extend_loop ?_
  rw[Around.under_plainId PySem.F.plain_extend_loop _]
  refine wpAny_bind (Fd.item i { s with heap:=h,toks:=tk } _ _ (by first|lia|omega) fZ (Ji G.ob) fun v h' tk' k' aD pv rv =>?_)
  have E3:=k' _ _ Fd.sfp G.ob
  have other:Keeps h' (h'.update S (Obj.mapSeq (·.push v))) (· = S):=fun b o nb q=>(Uq _ _ (Ne.symm nb)).trans q
  have k2:Keeps h (h'.update S (Obj.mapSeq (·.push v))) (fun b=>fp b∨b=S):=fun b o nb q=>other b o (fun z=>nb (.inr z)) (k' b o (fun z=>nb (.inl z)) q)
  have sz:=G.sz
  refine wpAny_bind (wpAny_updateSeq E3 rfl (wpAny_pure ⟨plainId_quiet PySem.F.plain_extend_loop _,?_⟩) (by rw[sz]; (first|lia|omega)) (by show(acc.push v).size<=sizeLine+1;rw[Wi,sz]; (first|lia|omega)))
  refine mR Fd hn fin k (i+1) _ tk' (acc.push v) _ (by first|lia|omega) (Fd.keepS _ _ _ aD other) ⟨Uu _ E3 rfl,by rw[Wi,sz],?_,fun j u e =>?_⟩ (fun b o nb q=>k2 b o nb (kp b o nb q))
  ·rw[Yk]
   refine Ue.mpr ⟨G.pw,Y8 _ _,fun a ha b hb =>?_⟩
   obtain⟨j,hj⟩:=U8.mp ha
   rw[Jg.mp hb]
   exact rv j a (G.all j a (by simpa using hj))
  ·by_cases hj:j<i
   ·rw[Array.getElem?_push_lt (by first|lia|omega)] at e
    exact Fd.keepP _ _ _ _ (G.all j u (by rw[Uh (by first|lia|omega)];exact e)) k2
   ·have wy:j=i:=by
     have:=(Yn.mp e).1
     rw[Wi] at this
     (first|lia|omega)
    subst wy
    have e':(acc.push v)[acc.size]? = some u:=by rw[sz];exact e
    rw[Array.getElem?_push_size] at e'
    cases e'
    exact Fd.keepP _ _ _ _ pv fun b o nb q=>other b o (fun z=>nb (.inr z)) q
theorem rg (Fd:xS prog w A.in1 it S T fp n P R St)(hn:n<=sizeLine){s:Shared}{Z:Result->Shared->Prop}{res:Value}{c₀:Nat}(fZ:St 0 s.heap)(hS:s.heap.get? S=some { cls := .type "list",data := .seq #[] c₀ })
  (fin:kh s.heap S fp n P R s (Z (.ok (.ret res)))) :
  wpAny (model prog w) A.in1 (Builtin.List.listExtendWith (.ref S) (.ref it) res) (rT prog w A Z) (fun e s'=>Z (.error e) s') s:=by
 have go:∀(h:Heap) (c tk:Nat),Keeps s.heap h (· = S)->h.get? S=some { cls := .type "list",data := .seq #[] c } -> codeAny (model prog w) A (.builtin "list.extend.loop" ⟨[.ref S,.ref it,res],[]⟩) Z { s with heap:=h,toks:=tk }:=
  fun h c tk k o=>mR Fd hn fin n 0 h tk #[] c (by first|lia|omega) (Fd.keepS _ _ _ fZ k) ⟨o,rfl,.nil,fun j v e=>by simp at e⟩ fun b o nb q=>k b o (fun z=>nb (.inr z)) q
 obtain⟨oi,hoi,hci⟩:=Fd.ty 0 _ fZ
 have hT:s.TypeIs (.ref it) T:=⟨oi,hoi,hci⟩
 have zG:Builtin.List.listSameRef (.ref S) (.ref it)=false:=by simp[Builtin.List.listSameRef,Ne.symm Fd.ne]
 unfold Builtin.List.listExtendWith
 refine wpAny_bind (wpAny_typeOf hT ?_)
 simp only[zG,Fd.nl,Fd.nt,Bool.or_false,Ug,if_false]
 refine wpAny_bind (Fd.self s _ _ fZ ?_)
 have hint:∀(Q:Bool->Shared->Prop),Q true s->wpAny (model prog w) A.in1 (Builtin.List.listLengthHint (.ref it)) Q (fun e s'=>Z (.error e) s') s:=fun Q q=>by
  unfold Builtin.List.listLengthHint
  refine wpAny_bind (wpAny_specialOf hT Fd.nolen ?_)
  refine wpAny_ite_split (fun z=>absurd z (by decide)) fun _=>wpAny_ite_split (fun z=>absurd z (by decide)) fun _ =>?_
  exact wpAny_bind (wpAny_specialOf hT Fd.nohint (wpAny_pure q))
 refine wpAny_bind (wpAny_holding (hint _ ?_))
 refine wpAny_ite_split (fun _ =>?_) fun _=>wpAny_pure ⟨plainId_quiet PySem.F.plain_extend_loop _,go _ c₀ _ (fun _ _ _ q=>q) hS⟩
 refine wpAny_bind (wpAny_rule (wpAny_bind ?_))
 have o1:=Uu (Obj.mapSeq (·.push Value.none)) hS rfl
 have o2:=Uu (Obj.mapSeq (·.pop)) o1 rfl
 refine wpAny_bind (wpAny_updateSeq hS rfl (wpAny_updateSeq (hz:=by seq_fits) o1 rfl (wpAny_pure ⟨plainId_quiet PySem.F.plain_extend_loop _,go _ _ _ (fun b o nb q =>?_) o2⟩)))
 exact(Uq _ _ (Ne.symm nb)).trans ((Uq _ _ (Ne.symm nb)).trans q)
theorem uX (Fd:xS prog w A.in1 it S T fp n P R St)(hn:n<=sizeLine){s:Shared}{Z:Result->Shared->Prop}(fZ:St 0 s.heap)(hS:s.heap.get? S=some { cls := .type "list",data := .seq #[] })
  (fin:kh s.heap S fp n P R s (Z (.ok (.ret .none)))) :
  wpAny (model prog w) A.in1 (Builtin.«list.__init__» ⟨[.ref S,.ref it],[]⟩) (rT prog w A Z) (fun e s'=>Z (.error e) s') s:=by
 refine wpAny_bind ?_
 unfold Builtin.List.listItems
 refine wpAny_bind (wpAny_seqItems hS rfl (wpAny_pure ?_))
 have o1:=Uu (Obj.mapSeq (fun _=>(#[]:Array Value))) hS rfl
 have k1:Keeps s.heap (s.heap.update S (Obj.mapSeq (fun _=>(#[]:Array Value)))) (· = S):=fun b o nb q=>(Uq _ _ (Ne.symm nb)).trans q
 refine wpAny_bind (wpAny_updateSeq hS rfl (wpAny_bind (wpAny_letGo ?_)))
 refine rg (s:={ s with heap:=_ }) Fd hn (Fd.keepS _ _ _ fZ k1) o1 fun h' tk acc c k G =>?_
 exact fin h' tk acc c (fun b o nb q=>k b o nb (k1 b o (fun z=>nb (.inr z)) q)) G
theorem vn {s:Shared}{Q:Value->Shared->Prop}{E:Value->Shared->Prop}(Fd:xS prog w A.in1.in1 it s.heap.objs.size T fp n P R St)(hn:n<=sizeLine)(fZ:∀o,St 0 (s.heap.push o))
  (fin:∀h' tk acc c,Keeps s.heap h' fp->qV h' s.heap.objs.size n P R acc c->Q (.ref s.heap.objs.size) { s with heap:=h',toks:=tk }) :
  wpAny (model prog w) A (call (.type "list") [.ref it]) Q E s:=by
 refine callType_codes (Q₁:=fun obj s₁=>obj = .ref s.heap.objs.size/\s₁={ s with heap:=s.heap.push { cls := .type "list",data := .seq #[] } }) F.called_list (F.typeCall_list_1 _) F.entry_list_init
  (code_list_new _ ⟨rfl,rfl⟩) fun obj s₁ h₁ =>?_
 obtain⟨rfl,rfl⟩:=h₁
 have hS:(s.heap.push { cls := .type "list",data := .seq #[] }).get? s.heap.objs.size=some { cls := .type "list",data := .seq #[] }:=Jy _ rfl
 refine⟨⟨_,hS,rfl⟩,F.args_list_init_2 _ _,uX (s:={ s with heap:=_ }) (A:=A.in1) Fd hn (fZ _) hS fun h' tk acc c k G=>⟨rfl,fin h' tk acc c (fun b o nb q =>?_) G⟩⟩
 exact k b o (fun z=>z.elim nb fun z=>cv (Ji q) (Jc _) z) (Jd _ q)
end
noncomputable abbrev jo (h:Heap)(z TI TO a:Addr)(f:Bool):Prop:=
 h.get? z=some { cls := .type "zip",dict:=none,data := .fields #[rawInt a,.bool f,.bool false,.ref TI,.ref TO],slots := #[] }
section
variable {prog:Program}{w:World}{A:Around}{E:Value->Shared->Prop}{s:Shared}{z TI TO i1 i2 l1 l2 a:Addr}{f:Bool}{oa:Obj}
theorem qH {Q:Bool->Shared->Prop}(hz:jo s.heap z TI TO a f)(ha:s.heap.get? a=some oa)
  (q:∀h,jo h z TI TO a true->Y3 z s.heap h->Q false { s with heap:=h }):wpAny (model prog w) A (Builtin.SmallTypes.ownedTupleIsFree (.ref z)) Q E s:=by
 unfold Builtin.SmallTypes.ownedTupleIsFree
 refine wpAny_bind (wpAny_field hz rfl (x:=rawInt a) rfl ?_)
 show wpAny _ _ (loadIfAlive ((a:Int).toNat) >>= _) _ _ _
 rw[Yi]
 refine wpAny_bind (PySem.W.kdx_alive ha ?_)
 simp -iota only [Option.isNone_some,Ug,if_false]
 refine wpAny_bind (wpAny_field hz rfl (x := .bool f) rfl ?_)
 cases f
 ·exact wpAny_bind (wpAny_setField_rec hz (by simp) fun h e k=>wpAny_pure (q h e k))
 ·exact wpAny_pure (q s.heap hz (Y3.refl _ _))
theorem oH {k:Nat}{xs ys:Array Value}{x y:Value}{Q:Option Value->Shared->Prop}(D:ZipApart z TI TO i1 i2 l1 l2)(hz:jo s.heap z TI TO a f)(ha:s.heap.get? a=some oa)(GL:IsPair s.heap TI (.ref i1) (.ref i2))
  (h1:s.heap.IsListIter i1 l1 k) (h2:s.heap.IsListIter i2 l2 k) (JO:s.heap.IsList l1 xs) (Fp:s.heap.IsList l2 ys) (hx:xs[k]? = some x) (hy:ys[k]? = some y)
  (q:∀h',jo h' z TI TO a true->h'.IsListIter i1 l1 (k+1)->h'.IsListIter i2 l2 (k+1)->IsPair h' s.heap.objs.size x y->Keeps s.heap h' (fun b=>b=z∨b=i1∨b=i2)->Q (some (.ref s.heap.objs.size)) { s with heap:=h' }) :
  wpAny (model prog w) A (pyNext (.ref z)) Q E s:=by
 have hT:s.TypeIs (.ref z) "zip":=⟨_,hz,rfl⟩
 unfold pyNext
 refine wpAny_bind (wpAny_attempt (wpAny_callSpecial?_slot (name:=Str.ofString "__next__") hT F.slot_zip_next (wpAny_call_entry F.slot_zip_next hT F.entry_zip_next ?_ (F.args_zip_next_1 _))))
 change wpAny _ _ (Bind.bind (field (.ref z) 2) _) _ _ _
 refine wpAny_bind (wpAny_field hz rfl (x := .bool false) rfl ?_)
 change wpAny _ _ (Bind.bind (field (.ref z) 3) _) _ _ _
 refine wpAny_bind (wpAny_field hz rfl (x := .ref TI) rfl (wpAny_bind (wpAny_seqItems GL rfl ?_)))
 change wpAny _ _ (Bind.bind (Builtin.SmallTypes.ownedTupleIsFree (.ref z)) _) _ _ _
 refine wpAny_bind (qH hz ha fun h0 z0 k0 =>?_)
 simp -iota only [Ug,if_false,<-Array.forIn_toList,List.forIn_cons,List.forIn_nil]
 refine wpAny_bind (wpAny_bind (wpAny_bind (wpAny_holding (wpAny_bind (wpAny_nextOf_list_item (h1.extBut k0.extBut D.i1z) (JO.extBut k0.extBut D.l1z) hx fun h4 e4 k4=>wpAny_pure (wpAny_pure ?_))))))
 refine wpAny_bind (wpAny_bind (wpAny_holding (wpAny_bind (wpAny_nextOf_list_item ((h2.extBut k0.extBut D.i2z).extBut k4.extBut D.i12.symm) ((Fp.extBut k0.extBut D.l2z).extBut k4.extBut D.l2i1) hy fun h5 e5 k5=>wpAny_pure (wpAny_pure (wpAny_pure ?_))))))
 refine wpAny_bind (wpAny_newTuple (hsz:=by show 2<=sizeLine;decide) (wpAny_pure ⟨_,rfl,wpAny_pure ?_⟩))
 have hsz:h5.objs.size=s.heap.objs.size:=by rw[k5.1,k4.1,k0.1]
 show Q (some (.ref h5.objs.size)) _
 rw[hsz]
 refine q (h5.push { cls := .type "tuple",data := .seq #[x,y] }) (Jd _ (k5.extBut _ _ D.i2z.symm (k4.extBut _ _ D.i1z.symm z0))) ((e4.extBut k5.extBut D.i12).at fun o e=>Jd _ e) (e5.at fun o e=>Jd _ e) (by rw[<-hsz];exact Jy _ rfl) fun b o nb e =>?_
 exact Jd _ (k5.extBut _ _ (fun z=>nb (.inr (.inr z))) (k4.extBut _ _ (fun z=>nb (.inr (.inl z))) (k0.extBut _ _ (fun z=>nb (.inl z)) e)))
theorem nX {k:Nat}{xs ys:Array Value}{Q:Option Value->Shared->Prop}(hh:A.handled=none)(D:ZipApart z TI TO i1 i2 l1 l2)(hz:jo s.heap z TI TO a f)(ha:s.heap.get? a=some oa)(GL:IsPair s.heap TI (.ref i1) (.ref i2))
  (h1:s.heap.IsListIter i1 l1 k) (h2:s.heap.IsListIter i2 l2 k) (JO:s.heap.IsList l1 xs) (Fp:s.heap.IsList l2 ys) (he:xs[k]? = none∨ys[k]? = none)
  (q:∀h',Keeps s.heap h' (fun b=>b=z∨b=i1∨b=i2)->Q none { s with heap:=h' }) :
  wpAny (model prog w) A (pyNext (.ref z)) Q E s:=by
 have hT:s.TypeIs (.ref z) "zip":=⟨_,hz,rfl⟩
 unfold pyNext
 refine wpAny_bind (wpAny_attempt (wpAny_callSpecial?_slot (name:=Str.ofString "__next__") hT F.slot_zip_next (wpAny_call_entry F.slot_zip_next hT F.entry_zip_next ?_ (F.args_zip_next_1 _))))
 change wpAny _ _ (Bind.bind (field (.ref z) 2) _) _ _ _
 refine wpAny_bind (wpAny_field hz rfl (x := .bool false) rfl ?_)
 change wpAny _ _ (Bind.bind (field (.ref z) 3) _) _ _ _
 refine wpAny_bind (wpAny_field hz rfl (x := .ref TI) rfl (wpAny_bind (wpAny_seqItems GL rfl ?_)))
 change wpAny _ _ (Bind.bind (Builtin.SmallTypes.ownedTupleIsFree (.ref z)) _) _ _ _
 refine wpAny_bind (qH hz ha fun h0 z0 k0 =>?_)
 simp -iota only [Ug,if_false,<-Array.forIn_toList,List.forIn_cons,List.forIn_nil]
 refine wpAny_bind (wpAny_bind (wpAny_bind (wpAny_holding ?_)))
 cases hx:xs[k]? with
 | none=>
  refine wpAny_bind (wpAny_nextOf_list_end hh (h1.extBut k0.extBut D.i1z) (JO.extBut k0.extBut D.l1z) hx fun h4 e k4 oe =>?_)
  refine ae.el (oe) _ ?_
  rintro o ho hc
  exact wpAny_bind (wpAny_isInstance (T := "StopIteration") (b:=true) ⟨o,ho,hc⟩ isSubtype_stop (wpAny_pure (q h4 fun b o nb x=>k4 _ _ (fun z=>nb (.inr (.inl z))) (k0.extBut _ _ (fun z=>nb (.inl z)) x))))
 | some x=>
  have hy:ys[k]? = none:=he.resolve_left (by rw[hx];exact fun z=>nomatch z)
  refine wpAny_bind (wpAny_nextOf_list_item (h1.extBut k0.extBut D.i1z) (JO.extBut k0.extBut D.l1z) hx fun h4 e4 k4=>wpAny_pure (wpAny_pure ?_))
  refine wpAny_bind (wpAny_bind (wpAny_holding (wpAny_bind (wpAny_nextOf_list_end hh ((h2.extBut k0.extBut D.i2z).extBut k4.extBut D.i12.symm) ((Fp.extBut k0.extBut D.l2z).extBut k4.extBut D.l2i1) hy fun h5 e k5 oe =>?_))))
  refine ae.el (oe) _ ?_
  rintro o ho hc
  exact wpAny_bind (wpAny_isInstance (T := "StopIteration") (b:=true) ⟨o,ho,hc⟩ isSubtype_stop (wpAny_pure (q h5 fun b o nb x=>k5 _ _ (fun z=>nb (.inr (.inr z))) (k4.extBut _ _ (fun z=>nb (.inr (.inl z))) (k0.extBut _ _ (fun z=>nb (.inl z)) x)))))
end
structure qe (z TI TO i1 i2 l1 l2 S:Addr)(xs ys:Array Value)(i:Nat)(h:Heap):Prop where
 ti:IsPair h TI (.ref i1) (.ref i2)
 to:∃a b,IsPair h TO a b
 it1:h.IsListIter i1 l1 i
 it2:h.IsListIter i2 l2 i
 a1:h.IsList l1 xs
 a2:h.IsList l2 ys
 zp:IsZip h z TI TO .none∨0<i/\∃a f oa,jo h z TI TO a f/\h.get? a=some oa/\S<a
noncomputable abbrev xY (z TO i1 i2:Addr)(b:Addr):Prop:=b=z∨b=TO∨b=i1∨b=i2
noncomputable abbrev uT (S:Addr)(xs ys:Array Value)(j:Nat)(v:Value)(h:Heap):Prop:=iU fun a x y=>v = .ref a/\S<a/\xs[j]? = some x/\ys[j]? = some y/\IsPair h a x y
noncomputable abbrev xc (u v:Value):Prop:=∃a b:Addr,u = .ref a/\v = .ref b/\a<b
theorem zJ {prog:Program}{w:World}{A:Around}{z TI TO i1 i2 l1 l2 S:Addr}{xs ys:Array Value}(hh:A.handled=none)(D:ZipApart z TI TO i1 i2 l1 l2)(b1:z<S)(b2:TI<S)(b3:TO<S)(b4:i1<S)(b5:i2<S)(b6:l1<S)(b7:l2<S):
  xS prog w A z S "zip" (xY z TO i1 i2) (min xs.size ys.size) (uT S xs ys) xc (qe z TI TO i1 i2 l1 l2 S xs ys) where
 sfp:=fun q=>by
  rcases q with q|q|q|q<;>(rw[q] at b1 b3 b4 b5;first|exact absurd b1 (Yc _)|exact absurd b3 (Yc _)|exact absurd b4 (Yc _)|exact absurd b5 (Yc _))
 ne:=J3 b1
 ty:=fun i h st=>by
  rcases st.zp with q|⟨_,a,f,oa,q,_⟩
  ·exact⟨_,q,rfl⟩
  ·exact⟨_,q,rfl⟩
 self:=fun s Q E st q=>by
  rcases st.zp with r|⟨r,_⟩
  ·exact wpAny_pyIter_zip r q
  ·exact absurd r (Yc _)
 item:=fun i s Q E hi st hS q=>by
  obtain⟨ti,⟨a,b,to⟩,it1,it2,a1,a2,zp⟩:=st
  have hx:xs[i]? = some (xs[i]'(by first|lia|omega)):=Uh (by first|lia|omega)
  have hy:ys[i]? = some (ys[i]'(by first|lia|omega)):=Uh (by first|lia|omega)
  have old:∀j u,uT S xs ys j u s.heap->xc u (.ref s.heap.objs.size):=fun j u hz_=>ae.el hz_ _ fun a x y e _ _ _ p=>⟨a,_,e,rfl,Ji p⟩
  rcases zp with r|⟨EJ,c,f,oc,r,oc',hc⟩
  ·refine wpAny_pyNext_zip_item D r ti to it1 it2 a1 a2 hx hy fun h' r1 r2 r3 r4 r5 r6 r7 =>?_
   have kp:Keeps s.heap h' (xY z TO i1 i2):=fun b o nb e=>r7 b o (fun z=>nb (.inl z)) (fun z=>nb (.inr (.inl z))) (fun z=>nb (.inr (.inr (.inl z)))) (fun z=>nb (.inr (.inr (.inr z)))) e
   refine q _ h' s.toks kp ⟨r7 _ _ D.TIz D.TITO D.TIi1 D.TIi2 ti,⟨_,_,r2⟩,r3,r4,a1.at fun o e=>r7 _ _ D.l1z D.l1TO D.l1i1 D.l1i2 e,a2.at fun o e=>r7 _ _ D.l2z D.l2TO D.l2i1 D.l2i2 e,.inr ⟨Nat.succ_pos _,_,_,_,r1,r5,hS⟩⟩ ⟨_,_,_,rfl,hS,hx,hy,r5⟩ old
  ·have ne:∀{b:Addr},b<S->c≠b:=fun hb=>Yv (Nat.lt_trans hb hc)
   refine oH D r oc' ti it1 it2 a1 a2 hx hy fun h' r1 r2 r3 r4 r5 =>?_
   have kp:Keeps s.heap h' (xY z TO i1 i2):=fun b o nb e=>r5 b o (fun z=>z.elim (fun z=>nb (.inl z)) fun z=>nb (.inr (.inr z))) e
   refine q _ h' s.toks kp ⟨r5 _ _ (fun z=>z.elim D.TIz fun z=>z.elim D.TIi1 D.TIi2) ti,⟨_,_,r5 _ _ (fun z=>z.elim D.TOz fun z=>z.elim D.TOi1 D.TOi2) to⟩,r2,r3,a1.at fun o e=>r5 _ _ (fun z=>z.elim D.l1z fun z=>z.elim D.l1i1 D.l1i2) e,a2.at fun o e=>r5 _ _ (fun z=>z.elim D.l2z fun z=>z.elim D.l2i1 D.l2i2) e,
    .inr ⟨Nat.succ_pos _,_,_,_,r1,r5 _ _ (fun z=>z.elim (ne b1) fun z=>z.elim (ne b4) (ne b5)) oc',hc⟩⟩ ⟨_,_,_,rfl,hS,hx,hy,r4⟩ old
 stop:=fun s Q E st hS q=>by
  obtain⟨ti,⟨a,b,to⟩,it1,it2,a1,a2,zp⟩:=st
  have he:xs[min xs.size ys.size]? = none∨ys[min xs.size ys.size]? = none:=by
   rcases Nat.le_total xs.size ys.size with h|h
   ·exact .inl (Yp (by first|lia|omega))
   ·exact .inr (Yp (by first|lia|omega))
  rcases zp with r|⟨EJ,c,f,oc,r,oc',hc⟩
  ·exact wpAny_pyNext_zip_end hh D r ti to it1 it2 a1 a2 he fun h' k=>q h' s.toks fun b o nb e=>k b o (fun z=>nb (.inl z)) (fun z=>nb (.inr (.inl z))) (fun z=>nb (.inr (.inr (.inl z)))) (fun z=>nb (.inr (.inr (.inr z)))) e
  ·exact nX hh D r oc' ti it1 it2 a1 a2 he fun h' k=>q h' s.toks fun b o nb e=>k b o (fun z=>z.elim (fun z=>nb (.inl z)) fun z=>nb (.inr (.inr z))) e
 keepS:=fun i h h' st k=>by
  obtain⟨ti,⟨a,b,to⟩,it1,it2,a1,a2,zp⟩:=st
  refine⟨k _ _ (J3 b2) ti,⟨a,b,k _ _ (J3 b3) to⟩,it1.at fun o e=>k _ o (J3 b4) e,it2.at fun o e=>k _ o (J3 b5) e,a1.at fun o e=>k _ o (J3 b6) e,a2.at fun o e=>k _ o (J3 b7) e,?_⟩
  rcases zp with r|⟨EJ,c,f,oc,r,oc',hc⟩
  ·exact .inl (k _ _ (J3 b1) r)
  ·exact .inr ⟨EJ,c,f,oc,k _ _ (J3 b1) r,k _ _ (Yv hc) oc',hc⟩
 keepP:=fun j v h h' ⟨a,x,y,e,ha,h1,h2,p⟩ k=>by
  have ne:∀{b:Addr},b<S->a≠b:=fun hb=>Yv (Nat.lt_trans hb ha)
  exact⟨a,x,y,e,ha,h1,h2,k _ _ (fun z=>z.elim (fun z=>z.elim (ne b1) fun z=>z.elim (ne b3) fun z=>z.elim (ne b4) (ne b5)) (Yv ha)) p⟩
 nolen:=by rw[typeLookup_type,builtinLookup_eq_fast];kernel_rfl
 nohint:=by rw[typeLookup_type,builtinLookup_eq_fast];kernel_rfl
 nl:=by decide
 nt:=by decide
theorem Inv.qL {X:Cx}{pins:List (Addr×Obj)}{σ:St}:∀(as:List Addr) (ps:List (List V)) {H:Hp} {s:Shared},Inv X pins σ H s->as.Nodup->as.length=ps.length->(∀a∈as,dZ X pins H a/\X.s₀.heap.objs.size<=a) ->
  (∀(j:Nat) a p,as[j]? = some a->ps[j]? = some p->p.length<=sizeLine/\∃aw:List Value,Vals p aw/\IsTup s.heap a aw.toArray) ->
  ∃H',Inv X pins σ H' s/\au H H'/\(∀b,b∉as->H' b=H b)/\∀(j:Nat) a p,as[j]? = some a->ps[j]? = some p->H' a=some (.tup p)
 | [],ps,H,s,I,_,_,_,_=>⟨H,I,au.refl H,fun _ _=>rfl,fun j a p h _=>by simp at h⟩
 | a::as,[],H,s,I,_,hl,_,_=>by simp at hl
 | a::as,p::ps,H,s,I,nd,hl,hf,ho=>by
  obtain⟨na,nd'⟩:=Ye.mp nd
  obtain⟨fa,sa⟩:=hf a Jk
  obtain⟨hz,aw,rv,ht⟩:=ho 0 a p rfl rfl
  have I1:=I.adopt (T:=a) (o := .tup p) fa sa ⟨hz,aw,rv,ht⟩
  obtain⟨H',I',sm,same,all⟩:=Inv.qL as ps I1 nd' (by simpa using hl) (fun b hb=>by
   obtain⟨fb,sb⟩:=hf b (Jh _ hb)
   exact⟨⟨by rw[ao (fun(e:b=a)=>na (by rw[<-e];exact hb))];exact fb.1,fb.2⟩,sb⟩) (fun j b q h1 h2=>ho (j+1) b q h1 h2)
  refine⟨H',I',fun b o e=>sm b o (by rw[ao (aq e fa.1)];exact e),fun b hb =>?_,fun j b q h1 h2 =>?_⟩
  ·rw[same b fun z=>hb (Jh _ z),ao (fun(z:b=a)=>hb (by rw[z];exact Jk))]
  ·cases j with
   | zero=>
    cases h1;cases h2
    rw[same a na];exact aH
   | succ j=>exact all j b q h1 h2
theorem uK:∀{l:List Value},(∀v∈l,∃a:Addr,v = .ref a)->∃as:List Addr,l=as.map Value.ref
 | [],_=>⟨[],rfl⟩
 | v::r,h=>by
  obtain⟨a,rfl⟩:=h v Jk
  obtain⟨as,rfl⟩:=uK fun u hu=>h u (Jh _ hu)
  exact⟨a::as,rfl⟩
section
variable {X:Cx}
noncomputable def O2 (K:Ja)(ta:TA):TE:=fun σ H Q=>ta σ H fun vs H1=>pd fun l1 l2 xs ys=>vs=[.ref l1,.ref l2]/\aG K H1 l1 xs/\aG K H1 l2 ys /\
 ∀H' p (as:List Addr),au H1 H'->H1 p=none->H' p=some (.lst (as.map V.ref))->as.length=min xs.length ys.length ->
  (∀(j:Nat) a x y,as[j]? = some a->xs[j]? = some x->ys[j]? = some y->H1 a=none/\H' a=some (.tup [x,y]))->Q (.ref p) H'
theorem mQ {xs ys:List V}(j:Nat)(x y:V)(hx:xs[j]? = some x)(hy:ys[j]? = some y):((xs.zip ys).map fun q=>[q.1,q.2])[j]? = some [x,y]:=by
 rw[Jm,(List.getElem?_zip_eq_some (z:=(x,y))).mpr ⟨hx,hy⟩]
 rfl
theorem lU {a b:Expr}{ta:TA}{p p2 pos BZ:Pos}(hc:X.calm=true)(N0:Gl X "list")(K2:X.mg "list" = none)(Q5:Gl X "zip")(OE:X.mg "zip" = none)(ha:PA X [a,b] ta)
  (GD:bootBuiltins "list" = some (.type "list"):=by first|rfl|decide) (QW:bootBuiltins "zip" = some (.type "zip"):=by first|rfl|decide)
  (JB:starEach [.Call (.Name "zip" p2) [a,b] [] BZ] X.env=[(false,eval (.Call (.Name "zip" p2) [a,b] [] BZ) X.env)]:=by rfl)
  (hs:starEach [a,b] X.env=[(false,eval a X.env),(false,eval b X.env)]:=by rfl) (AJ:starEach [b] X.env=[(false,eval b X.env)]:=by rfl) :
  PE X (.Call (.Name "list" p) [.Call (.Name "zip" p2) [a,b] [] BZ] [] pos) (O2 X.K ta):=by
 intro pins s σ H Q I h
 refine wpAny_Call_Name_kw (gI I N0 K2 GD ?_)
 refine PyProof.Rows.callWith_type1 ?_ JB rfl
 rw[JB]
 show wpAny _ _ (spliced ((false,eval (.Call (.Name "zip" p2) [a,b] [] BZ) X.env)::[])) _ _ _
 refine Calls.spliced_cons ?_
 refine Call_ (gI I Q5 OE QW (PyProof.Rows.callWith_type1 (aQ (ha s σ H _ I h) fun us s1 hz_=>ae.el hz_ _ fun vs H1 I1 r1 q1 =>?_) (by rw[hs,AJ]) (by rw[AJ];rfl)))
 obtain⟨l1,l2,xs,ys,e,q1,q2,q⟩:=q1
 subst e
 obtain⟨u,w',rfl,r1,r2⟩:=vals2 r1
 cases r1;cases r2
 obtain⟨its1,rv1,p1,hz1⟩:=I1.list q1
 refine ae.el (I1.list q2) _ ?_
 rintro its2 rv2 p2 hz2
 have e1:=rv1.length
 have e2:=rv2.length
 have a1:l1<s1.heap.objs.size:=by obtain⟨_,e,_⟩:=p1.isList;exact Ji e
 have a2:l2<s1.heap.objs.size:=by obtain⟨_,e,_⟩:=p2.isList;exact Ji e
 refine call_zip_2 p1.isList p2.isList fun h' hz GL hTO hi1 wQ hsz hk =>?_
 refine Calls.spliced_nil ?_
 have HL:s1.heap.objs.size<=h'.objs.size:=by rw[hsz];exact U0 _ _
 have d4:∀n,n<5->s1.heap.objs.size+n<h'.objs.size:=fun n hn=>by rw[hsz];exact Nat.add_lt_add_left hn _
 have zs:∀o,qe (s1.heap.objs.size+4) (s1.heap.objs.size+2) (s1.heap.objs.size+3) s1.heap.objs.size (s1.heap.objs.size+1) l1 l2 h'.objs.size its1.toArray its2.toArray 0 (h'.push o):=fun o=>
  ⟨Jd _ GL,⟨_,_,Jd _ hTO⟩,hi1.at fun o e=>Jd _ e,wQ.at fun o e=>Jd _ e,(p1.isList.at fun o e=>hk _ o e).push _,(p2.isList.at fun o e=>hk _ o e).push _,.inl (Jd _ hz)⟩
 refine vn (s:={ s1 with heap:=h' }) (zJ (I.ok.hd hc) (zipApart_new a1 a2) (d4 4 (by decide)) (d4 2 (by decide)) (d4 3 (by decide)) (d4 0 (by decide)) (d4 1 (by decide)) (Ju a1 HL) (Ju a2 HL)) (by simp; (first|lia|omega)) zs fun h2 tk acc c hk2 G =>?_
 obtain⟨hS2,hsz2,hpw,gY⟩:=G
 obtain⟨as,nG⟩:=uK (l:=acc.toList) fun v hv=>by
  obtain⟨j,hj⟩:=U8.mp hv
  obtain⟨a,_,_,e,_⟩:=gY j v (by simpa using hj)
  exact⟨a,e⟩
 have yG:∀(j:Nat) a,as[j]? = some a->∃x y,h'.objs.size<a/\its1.toArray[j]? = some x/\its2.toArray[j]? = some y/\IsPair h2 a x y:=fun j a h=>by
  obtain⟨a',x,y,e,g⟩:=gY j (.ref a) (by
   have:acc.toList[j]? = some (.ref a):=by rw[nG,Jm,h];rfl
   simpa using this)
  cases e
  exact⟨x,y,g⟩
 have above:∀a∈as,h'.objs.size<a:=fun a ha=>by
  obtain⟨j,hj⟩:=U8.mp ha
  obtain⟨_,_,g,_⟩:=yG j a hj
  exact g
 have old:∀b o,s1.heap.get? b=some o->h2.get? b=some o:=fun b o e=>by
  have hb:=Ji e
  have gt:∀n,b≠s1.heap.objs.size+n:=fun n=>J3 (Ju hb (U0 _ _))
  exact hk2 b o (fun z=>z.elim (gt 4) fun z=>z.elim (gt 3) fun z=>z.elim (gt 0) (gt 1)) (hk b o e)
 have I2:Inv X pins σ H1 { s1 with heap:=h2,toks:=tk }:=I1.kept old
 have IE:∀a∈as,s1.heap.objs.size<=a:=fun a ha=>U6 (Jx HL (above a ha))
 have nd:as.Nodup:=by
  rw[nG,List.pairwise_map] at hpw
  exact hpw.imp fun hz_=>ae.el hz_ _ fun a b e1 e2 h=>by cases e1;cases e2;exact J3 h
 have kr:∀a,s1.heap.objs.size<=a->dZ X pins H1 a/\X.s₀.heap.objs.size<=a:=fun a ha=>⟨I1.kr ha (I1.aV.fresh ha),Jp I1.sz ha⟩
 have CK:as.length=min xs.length ys.length:=by
  have z:acc.toList.length=as.length:=by rw[nG,Jb]
  simp at z hsz2
  (first|lia|omega)
 obtain⟨H',I',sm,same,all⟩:=I2.qL as ((xs.zip ys).map fun q=>[q.1,q.2]) nd (by rw[Jb,List.length_zip]; (first|lia|omega)) (fun a ha=>kr a (IE a ha)) (fun j a pp h1 h2'=>by
  refine ae.el (yG j a h1) _ ?_
  rintro x y _ g1 g2 g3
  refine ae.el (fG rv1 g1) _ ?_
  rintro vx gx rx
  refine ae.el (fG rv2 g2) _ ?_
  rintro vy gy ry
  have z:=mQ j vx vy gx gy
  rw[z] at h2';cases h2'
  exact⟨by show 2<=sizeLine;decide,[x,y],.cons rx (.cons ry .nil),⟨_,g3,rfl,_,rfl⟩⟩)
 have Mc:h'.objs.size∉as:=fun hm=>Yc _ (above _ hm)
 have Fl:H1 h'.objs.size=none:=I1.aV.fresh HL
 obtain⟨fS,sS⟩:=kr h'.objs.size HL
 have Pu:dZ X pins H' h'.objs.size:=⟨by rw[same _ Mc];exact Fl,fS.2⟩
 have I3:=I'.adopt (T:=h'.objs.size) (o := .lst (as.map V.ref)) Pu sS ⟨by rw[Jb]; (first|lia|omega),acc.toList,c,by
  rw[nG]
  clear hS2 nG all same I' sm IE nd CK Mc above yG
  induction as with
  | nil=>exact .nil
  | cons a r ih=>exact .cons rfl ih,by simpa using hS2⟩
 refine⟨.ref h'.objs.size,_,I3,rfl,q _ _ as (fun b o e =>?_) Fl aH CK fun j a x y h1 h2' h3'=>⟨(kr a (IE a (List.mem_of_getElem? h1))).1.1,?_⟩⟩
 ·rw[ao (aq e Fl)];exact sm b o e
 ·rw[ao (fun(z:a=h'.objs.size)=>Mc (by rw[<-z];exact List.mem_of_getElem? h1))]
  exact all j a [x,y] h1 (mQ j x y h2' h3')
end
structure cV (H:Hp)(p:Addr)(o:HO)(H':Hp):Prop where
 nn:H p=none
 eq:H'=upd H p o
theorem cV.at {H H':Hp}{p:Addr}{o:HO}(n:cV H p o H'):H' p=some o:=by rw[n.eq];exact aH
theorem cV.ne {H H':Hp}{p a:Addr}{o:HO}(n:cV H p o H')(h:a≠p):H' a=H a:=by rw[n.eq];exact ao h
theorem cV.same {H H':Hp}{p:Addr}{o:HO}(n:cV H p o H'):au H H':=fun a u e=>by rw[n.ne (aq e n.nn)];exact e
theorem cV.back {H H':Hp}{p a:Addr}{o:HO}(n:cV H p o H')(h:H' a=none):H a=none:=by
 cases e:H a with
 | none=>rfl
 | some u=>rw[n.same a u e] at h;cases h
structure vc (H:Hp)(p:Addr)(o:HO)(H':Hp):Prop where
 eq:H'=upd H p o
theorem vc.at {H H':Hp}{p:Addr}{o:HO}(n:vc H p o H'):H' p=some o:=by rw[n.eq];exact aH
theorem vc.ne {H H':Hp}{p a:Addr}{o:HO}(n:vc H p o H')(h:a≠p):H' a=H a:=by rw[n.eq];exact ao h
theorem j9 {H:Hp}{o:HO}{F:Addr->Hp->Prop}:(∀p,H p=none->F p (upd H p o)) = ∀p H',cV H p o H'->F p H':=
 propext ⟨fun h p H' n=>by rw[n.eq];exact h p n.nn,fun h p hp=>h p _ ⟨hp,rfl⟩⟩
theorem BG {H:Hp}{p:Addr}{o:HO}{F:Hp->Prop}:F (upd H p o) = ∀H',vc H p o H'->F H':=
 propext ⟨fun h H' n=>by rw[n.eq];exact h,fun h=>h _ ⟨rfl⟩⟩
section
variable {X:Cx}{pos:Pos}{es:List Expr}{t:TA}
noncomputable def CM (t:TA):TE:=fun σ H Q=>t σ H fun xs H1=>xs.length<=sizeLine/\∀p H',cV H1 p (.tup xs) H'->Q (.ref p) H'
noncomputable def tX (t:TA):TE:=fun σ H Q=>t σ H fun xs H1=>xs.length<=sizeLine/\∀p H',cV H1 p (.lst xs) H'->Q (.ref p) H'
theorem dj {x1}(h:PA X es t):PE X (.Tuple es x1 pos) (CM t):=by
 have e:CM t=HZ t:=by
  funext σ H Q
  show t σ H _=t σ H _
  congr 1;funext xs H1
  exact congrArg (_ /\ ·) (j9 (F:=fun p H'=>Q (.ref p) H')).symm
 rw[e];exact Eo h
theorem dg (h:PA X es t):PE X (.List es pos) (tX t):=by
 have e:tX t=FK t:=by
  funext σ H Q
  show t σ H _=t σ H _
  congr 1;funext xs H1
  exact congrArg (_ /\ ·) (j9 (F:=fun p H'=>Q (.ref p) H')).symm
 rw[e];exact Dx h
noncomputable def tH (pX:List (TE×TE)):TE:=fun σ H Q=>∀p H0,cV H p (.dK []) H0->kW pX σ H0 fun ps H2=>H2 p=some (.dK [])/\∃kvs:List (Key×V),ps=kvs.map (fun kv=>(kV kv.1,kv.2))/\kvs.length<=15/\∀H3,vc H2 p (.dK (cS [] kvs)) H3->Q (.ref p) H3
theorem IQ {keys:List (Option Expr)}{values:List Expr}{pX:List (TE×TE)}(h:G8 X pos keys values pX)(gY:keys.all (·.isSome)=true)(hl:keys.length=values.length)(h0:keys≠[])
  (Md:keys.length<=15):PE X (.Dict keys values pos) (tH pX):=by
 have e:tH pX=yL pX:=by
  funext σ H Q
  unfold tH yL
  rw[j9 (F:=fun p H0=>kW pX σ H0 fun ps H2=>H2 p=some (.dK [])/\∃kvs:List (Key×V),ps=kvs.map (fun kv=>(kV kv.1,kv.2))/\kvs.length<=15/\Q (.ref p) (upd H2 p (.dK (cS [] kvs))))]
  simp only[<-BG (F:=fun H3=>Q (.ref _) H3)]
 rw[e];exact AF h gY hl h0 Md
end
section
variable {X:Cx}(K:Ja)
noncomputable def Az (K:Ja):V->Option Int->Option Int->Hp->VK->Prop:=fun x lo hi H Q=>(cj fun a xs=>x = .ref a/\aG K H a xs/\∀p H',cV H p (.lst (lF xs lo hi)) H'->Q (.ref p) H')∨(∃z,x = .str z/\z.length<=sizeLine/\Q (.str (Txt.slice z lo hi)) H)
theorem uR (hK:X.K=K:=by rfl):zQ X (Az K):=by
 subst hK
 intro pins s σ H x v vl vu lo hi sl Q I rx hs pl pu q
 refine Ip s σ H x v vl vu lo hi sl Q I rx hs pl pu ?_
 rcases q with ⟨a,xs,e,h,q⟩|q
 ·exact .inl ⟨a,xs,e,h,fun p hp=>q p _ ⟨hp,rfl⟩⟩
 ·exact .inr q
theorem zK (hK:X.K=K:=by rfl):bZ X (.type "list") (fun xs H Q=>∃p ys,xs=[.ref p]/\(aG K H p ys∨d9 K H p ys)/\∀l H',cV H l (.lst ys) H'->Q (.ref l) H'):=by
 subst hK
 intro pins s σ H xs us Q I r h
 refine ae.el (h) _ ?_
 rintro p ys e h q
 exact ox s σ H xs us Q I r ⟨p,ys,e,h,fun l hl=>q l _ ⟨hl,rfl⟩⟩
theorem Dv (hK:X.K=K:=by rfl):bZ X (.type "tuple") (fun xs H Q=>∃p ys,xs=[.ref p]/\((aG K H p ys/\∀l H',cV H l (.tup ys) H'->Q (.ref l) H')∨(d9 K H p ys/\Q (.ref p) H))):=by
 subst hK
 intro pins s σ H xs us Q I r h
 refine ae.el (h) _ ?_
 rintro p ys e h
 refine md s σ H xs us Q I r ⟨p,ys,e,?_⟩
 rcases h with ⟨h,q⟩|h
 ·exact .inl ⟨h,fun l hl=>q l _ ⟨hl,rfl⟩⟩
 ·exact .inr h
end
section
variable {X:Cx}
noncomputable def uO:R2:=fun x y H Q=>(cj fun i j=>x = .int i/\y = .int j/\Q (.int (i+j)) H)∨(∃i j,x = .str i/\y = .str j/\i.length+j.length<=sizeLine/\Q (.str (i++j)) H) ∨
 pd fun l b xs zs=>x = .ref l/\y = .ref b/\H l=some (.lst xs)/\H b=some (.lst zs)/\xs.length+zs.length<=sizeLine/\∀p H',cV H p (.lst (xs++zs)) H'->Q (.ref p) H'
theorem ck:dM X (binaryOp .Add) uO:=by
 intro pins s σ H x y v u Q I rx ry h
 refine He s σ H x y v u Q I rx ry ?_
 rcases h with h|h|⟨l,b,xs,zs,e1,e2,h1,h2,h3,q⟩
 ·exact .inl h
 ·exact .inr (.inl h)
 ·exact .inr (.inr ⟨l,b,xs,zs,e1,e2,h1,h2,h3,fun p hp=>q p _ ⟨hp,rfl⟩⟩)
noncomputable def Cj:R2:=fun x y H Q=>(cj fun i j=>x = .int i/\y = .int j/\sI i j/\Q (.int (i*j)) H) ∨
 iU fun l k xs=>x = .ref l/\y = .int k/\H l=some (.lst xs) /\ -(2^63)<=k/\k<2^63/\xs.length*k.toNat<=sizeLine/\∀p H',cV H p (.lst (Jj k.toNat xs).flatten) H'->Q (.ref p) H'
theorem kM:dM X (binaryOp .Mult) Cj:=by
 intro pins s σ H x y v u Q I rx ry h
 refine Ga s σ H x y v u Q I rx ry ?_
 rcases h with h|⟨l,k,xs,e1,e2,h1,h2,h3,h4,q⟩
 ·exact .inl h
 ·exact .inr ⟨l,k,xs,e1,e2,h1,h2,h3,h4,fun p hp=>q p _ ⟨hp,rfl⟩⟩
theorem Bp:bZ X (.builtin "divmod") (fun xs H Q=>∃i j,xs=[.int i,.int j]/\CQ i j/\∀p H',cV H p (.tup [.int (i / j),.int (i%j)]) H'->Q (.ref p) H'):=by
 intro pins s σ H xs us Q I r h
 refine ae.el (h) _ ?_
 rintro i j e c q
 exact qO s σ H xs us Q I r ⟨i,j,e,c,fun p hp=>q p _ ⟨hp,rfl⟩⟩
theorem gQ:DP X "list.append" (fun x vs H Q=>∃l xs y,x = .ref l/\vs=[y]/\H l=some (.lst xs)/\xs.length<sizeLine/\∀H',vc H l (.lst (xs++[y])) H'->Q .non H'):=by
 intro pins s σ H x xs v us Q I rx rv h
 refine ae.el (h) _ ?_
 rintro l ys y e1 e2 h1 h2 q
 exact wd s σ H x xs v us Q I rx rv ⟨l,ys,y,e1,e2,h1,h2,q _ ⟨rfl⟩⟩
theorem Ed:DP X "list.pop" (fun x vs H Q=>∃l xs i y,x = .ref l/\vs=[.int i]/\H l=some (.lst xs)/\0<=i/\i<2^63/\xs[i.toNat]? = some y/\∀H',vc H l (.lst (xs.eraseIdx i.toNat)) H'->Q y H'):=by
 intro pins s σ H x xs v us Q I rx rv h
 refine ae.el (h) _ ?_
 rintro l ys i y e1 e2 h1 h2 h3 h4 q
 refine zo s σ H x xs v us Q I rx rv ⟨l,ys,i,i.toNat,y,e1,e2,h1,by first|lia|omega,h3,?_,h4,q _ ⟨rfl⟩⟩
 have hl:=(Js.mp h4).1
 have q:o8 ys ((i.toNat:Nat):Int)=some y:=nO h4
 have ei:((i.toNat:Nat):Int)=i:=by omega
 rw[ei] at q
 obtain⟨j,hj,Mm,_⟩:=kj q
 have:xg ys.length i=some i.toNat:=by unfold xg;rw[if_pos h2,if_pos (by first|lia|omega)]
 exact(oV this).1
end
theorem cY {J:It}{n:Nat}{js:List Nat}{g:TG}{tc:TT}{te:TE}{σ:St}{H1:Hp}{Q:V->Hp->Prop}(N:Nat)(Pv:Nat->List V->Hp->Prop)(h0:Pv 0 [] H1)
  (go:∀i ys H (Nx:List V->Hp->Prop),i<N->Pv i ys H->(∀ys' H',Pv (i+1) ys' H'->Nx ys' H')->J.go i H/\ys.length<sizeLine /\
   ∀x H',J.yld i H x H'->g x (Jj n none++cN σ js) H' fun σ2 H2=>tc σ2 H2 fun b H3=>if b=true then te σ2 H3 fun y H4=>Nx (ys++[y]) H4 else Nx ys H3)
  (stop:∀ys H,Pv N ys H->J.stop N H/\∀p H',cV H p (.lst ys) H'->Q (.ref p) H'):tV J n js g tc te σ H1 fun ys H2=>∀p,H2 p=none->Q (.ref p) (upd H2 p (.lst ys)):=
 cw N Pv h0 go fun ys H h=>⟨(stop ys H h).1,fun p hp=>(stop ys H h).2 p _ ⟨hp,rfl⟩⟩
theorem fE {α:Type}{xs:List α}{i:Int}{v: α}(h0:0<=i)(h:xs[i.toNat]? = some v):o8 xs i=some v:=by
 have q:=nO h
 have e:((i.toNat:Nat):Int)=i:=by (first|lia|omega)
 rw[e] at q
 exact q
noncomputable def zS:PyData->String
 | .none => "NoneType"
 | .bool _ => "bool"
 | .int _ => "int"
 | .str _ => "str"
 | .list _ => "list"
 | .tuple _ => "tuple"
 | .dict _ => "dict"
noncomputable def fj (d:PyData)(T:String):Bool:=zS d==T||(zS d == "bool" && T == "int")
theorem kZ (K:Ja)(d:PyData):Yw K (.type (zS d)) (.type "bool")=some (fj d "bool")/\Yw K (.type (zS d)) (.type "int")=some (fj d "int")/\Yw K (.type (zS d)) (.type "str")=some (fj d "str") /\
  Yw K (.type (zS d)) (.type "list")=some (fj d "list")/\Yw K (.type (zS d)) (.type "tuple")=some (fj d "tuple"):=by
 cases d<;>exact⟨rfl,rfl,rfl,rfl,rfl⟩
section
variable {X:Cx}
theorem BB {pins:List (Addr×Obj)}{σ:St}{H:Hp}{s:Shared}{x:V}{u:Value}{d:PyData}(I:Inv X pins σ H s)(rx:RelV x u)(h:Den X.K H d x):∃HH:Heap->Prop,PySem.W.KitX X.K u (.type (zS d)) HH/\HH s.heap/\u ≠ .builtin "__main__.__loader__#opaque":=by
 cases d with
 | none=>unfold Den at h;subst h;cases rx;exact⟨_,PySem.W.kitx_none,True.intro,fun z=>nomatch z⟩
 | bool b=>unfold Den at h;subst h;cases rx;exact⟨_,PySem.W.kitx_bool,True.intro,fun z=>nomatch z⟩
 | int i=>unfold Den at h;subst h;obtain⟨t,rfl⟩:=rx;exact⟨_,PySem.W.kitx_int,True.intro,fun z=>nomatch z⟩
 | str y=>unfold Den at h;subst h;obtain⟨t,rfl⟩:=rx;exact⟨_,PySem.W.kitx_str,True.intro,fun z=>nomatch z⟩
 | list ds=>
  unfold Den at h
  refine ae.el (h) _ ?_
  rintro a vs rfl h2 _
  cases rx
  obtain⟨aw,_,⟨o,n,e1,e2,_⟩,_⟩:=I.list h2
  exact⟨_,PySem.W.kitx_list,⟨o,e1,e2⟩,fun z=>nomatch z⟩
 | tuple ds=>
  unfold Den at h
  refine ae.el (h) _ ?_
  rintro a vs rfl h2 _
  cases rx
  obtain⟨aw,_,⟨o,e1,e2,_⟩,_⟩:=I.tuple h2
  exact⟨_,PySem.W.kitx_tuple,⟨o,e1,e2⟩,fun z=>nomatch z⟩
 | dict _=>unfold Den at h;exact h.elim
theorem vd:bZ X (.builtin "isinstance") (fun xs H Q=>∃(x:V) (T:String) (d:PyData) (b:Bool),xs=[x,.ty T]/\Den X.K H d x/\Yw X.K (.type (zS d)) (.type T)=some b/\Q (.bl b) H):=by
 intro pins s σ H xs us Q I r h
 refine ae.el (h) _ ?_
 rintro x T d b rfl hd e q
 refine ae.el (vals2 r) _ ?_
 rintro u w' rfl r1 r2
 cases r2
 refine ae.el (BB I r1 hd) _ ?_
 rintro HH Z hh hx
 exact Yd Z I.jv hh e hx fun tk=>⟨.bl b,H,I.tok _,rfl,q⟩
noncomputable def Mb (K:Ja):List V->Hp->VK->Prop:=fun xs H Q=>(∃(x:V) (T:String) (d:PyData) (b:Bool),xs=[x,.ty T]/\Den K H d x/\Yw K (.type (zS d)) (.type T)=some b/\Q (.bl b) H) ∨
 ∃x T t b,xs=[x,.ty T]/\iW K H x t/\Yw K t (.type T)=some b/\Q (.bl b) H
theorem kq (K:Ja)(hK:X.K=K:=by rfl):bZ X (.builtin "isinstance") (Mb K):=by subst hK;exact vd.or yF
end
theorem uY (n:Nat):sliceRange (sliceBounds none none (some (-1)) n).1 (sliceBounds none none (some (-1)) n).2.1 (sliceBounds none none (some (-1)) n).2.2=(U3 n).map fun k=>n-1-k:=by
 have e:=PyProof.Rows.picked_rev n
 rw[<-e]
 rfl
theorem yy {α β:Type}{f: α->Option β}{g: α -> β}:∀{l:List α},(∀k∈l,f k=some (g k))->l.filterMap f=l.map g
 | [],_=>rfl
 | a::l,h=>by
  rw[List.filterMap_cons_some (h a Jk),Ub,yy fun k hk=>h k (Jh _ hk)]
theorem yf (aw:List Value):slicePick aw.toArray none none (some (-1))=aw.reverse.toArray:=by
 unfold slicePick
 rw[uY,Jn]
 congr 1
 apply List.ext_getElem?
 intro i
 rw[List.filterMap_map]
 have hm:∀k∈U3 aw.length,((fun x=>aw.toArray[x]?)∘fun k=>aw.length-1-k) k=some (aw.reverse.getD k .none):=fun k hk=>by
  have hk:=Wd.mp hk
  simp only[Function.comp]
  rw[We,List.getElem?_reverse (by omega)]
  rw[List.getElem?_toArray,Je (by omega)]
  rfl
 have e2:(U3 aw.length).filterMap ((fun x=>aw.toArray[x]?)∘fun k=>aw.length-1-k)=(U3 aw.length).map fun k=>aw.reverse.getD k .none:=by
  exact yy hm
 rw[e2,Jm]
 by_cases hi:i<aw.length
 ·rw[List.getElem?_range hi,Je (by simpa using hi)]
  simp[List.getD,hi]
 ·rw[Wh (by simp; (first|lia|omega)),Wh (by simp; (first|lia|omega))]
  rfl
section
variable {X:Cx}{e:Expr}{te:TE}{pos p2 p3 p4:Pos}{j:Nat}
noncomputable def KO (K:Ja)(te:TE):TE:=fun σ H Q=>te σ H fun x H1=>cj fun a xs=>x = .ref a/\aG K H1 a xs/\∀p H',cV H1 p (.lst xs.reverse) H'->Q (.ref p) H'
theorem Vals.rev:∀{xs:List V} {us:List Value},Vals xs us->Vals xs.reverse us.reverse
 | _,_,.nil =>.nil
 | _,_,.cons r t=>by
  rw[List.reverse_cons,List.reverse_cons]
  exact(Vals.rev t).append (.cons r .nil)
theorem C3 (K:Ja)(he:PE X e te)(hK:X.K=K:=by rfl):PE X (.Subscript e (.Slice none none (some (.UnaryOp .USub (.Constant (.int 1) j p4) p3)) p2) pos) (KO K te):=by
 subst hK
 intro pins s σ H Q I h
 refine Subscript_ (aQ (he s σ H _ I h) fun v s1 hz_ =>?_)
 refine ae.el hz_ _ ?_
 clear hz_
 rintro x H1 I1 r1 q1
 obtain⟨a,xs,rfl,hx,q⟩:=q1
 cases r1
 refine wpAny_Slice ?_
 rw[evalPart_none]
 refine wpAny_pure ?_
 refine wpAny_pure ?_
 have hs:PE X (.UnaryOp .USub (.Constant (.int 1) j p4) p3) (NP (rU fun i =>.int (-i)) (tC (.int 1))):=FT Dr aj
 have hp:=bN hs s1 σ H1 (fun o H2=>o=some (-1)/\H2=H1) I1 ⟨1,rfl,-1,rfl,rfl,rfl⟩
 refine aQ hp fun vs s3 hz_ =>?_
 refine ae.el hz_ _ ?_
 clear hz_
 rintro o H3 I3 ps eo eh
 subst eo eh
 have I4:Inv X pins σ H3 { s3 with heap:=s3.heap.push { cls := .type "slice",data := .fields #[.none,.none,vs] } }:=I3.kept (t':=s3.toks) fun b ob q=>Jd _ q
 obtain⟨aw,r,ht,hz⟩:=I4.list hx
 have hlen:=r.length
 refine tail_any (ops:=[.ref a,.ref s3.heap.objs.size]) ht.isList.typeIs slot_list_getitem.lookup ?_ (by with_unfolding_all rfl)
 refine wpAny_getItem_list_slice (st:=some (-1)) ht.isList (Heap.IsSliceOf.new ..) .none .none ps (by decide) ?_ (by rw[Jn]; (first|lia|omega))
 rw[yf]
 refine⟨.ref _,_,I4.laid (t':=s3.toks) (o := .lst xs.reverse) (fun b ob q=>Jd _ q) (Jc _) ?_,rfl,q _ _ ⟨I4.aV.fresh (Jc _),rfl⟩⟩
 exact⟨by rw[List.length_reverse];exact hz,_,0,r.rev,Jy _ rfl⟩
end
section
variable {X:Cx}(K:Ja)
theorem E5 (hK:X.K=K:=by rfl):dM X (compareOp .NotIn) (NV K true):=by subst hK;exact nM
end
section
variable {prog:Program}{w:World}{A:Around}{R:Result->Shared->Prop}{s:Shared}
theorem rC {kx vx target iter:Expr}{ifs:List Expr}{scope:Scope}{pos:Pos}{it:Value}{D:Addr}{env:Env}(I:Nat->Shared->Prop)
  (turn:∀n s,I n s->wpAny (model prog w) A (pyNext it) (fun r s1=>match r with
   | none=>R (.ok .next) s1
   | some v=>wpAny (model prog w) A (letOwnedTupleGo target it v) (fun _ s1'=>wpAny (model prog w) A (assign target env v) (fun _ s2=>
     wpAny (model prog w) A (oB ifs env) (fun ok s3=>
      if ok=true then wpAny (model prog w) A (eval kx env) (fun kv s4=>wpAny (model prog w) A (eval vx env) (fun vv s5=>
       wpAny (model prog w) A (dictSet D kv vv) (fun _ s6=>∃m,m<n/\I m s6) fR s5) fR s4) fR s3
      else ∃m,m<n/\I m s3) fR s2) fR s1') fR s1) fR s)
  (n:Nat) (h:I n s):codeAny (model prog w) A (.compLoop (.DictComp kx vx [⟨target,iter,ifs,0⟩] scope pos) 0 it (.ref D) env) R s:=by
 refine codeAny_loop rfl I (fun n s hI=>(show wpAny _ A (Sem.onRaise (compTurn (.DictComp kx vx [⟨target,iter,ifs,0⟩] scope pos) 0 it (.ref D) env) (fun x=>do noteFrame x env;theTreesLotGoes x)) _ _ s from wpAny_noted ?_)) n h
 rw[compTurn_dict]
 refine wpAny_bind (wpAny_standAt (wpAny_bind (br (aQ (turn n s hI) fun r s1 h1 =>?_))))
 cases r with
 | none=>exact wpAny_pure h1
 | some v=>
  refine wpAny_bind (br (aQ h1 fun _ s1' h1' =>?_))
  refine wpAny_bind (br (aQ h1' fun _ s2 h2=>wpAny_bind (br (aQ h2 fun ok s3 h3 =>?_))))
  cases ok with
  | false=>exact wpAny_pure ⟨rfl,h3⟩
  | true=>
   exact wpAny_bind (wpAny_bind (br (aQ h3 fun kv s4 h4=>wpAny_bind (wpAny_holding (br (aQ h4 fun vv s5 h5=>wpAny_bind (wpAny_standAt (wpAny_holding (br (aQ h5 fun _ s6 h6=>wpAny_pure ⟨rfl,h6⟩))))))))))
end
section
variable {X:Cx}{pins:List (Addr×Obj)}{σ:St}{H:Hp}{s:Shared}{a:Addr}{y v:V}{u r:Value}{A:Around}{E:Value->Shared->Prop}
theorem nq {kvs:List (Key×V)}{k:Key}{Q:Unit->Shared->Prop}(I:Inv X pins σ H s)(e:H a=some (.dK kvs))(l:kvs.length<sizeLine)(ry:RelV (kV k) u)(rv:RelV v r)
  (h:∀s',Inv X pins σ (upd H a (.dK (putK kvs k v))) s'->Q () s'):wpAny (model X.prog X.w) A (dictSet a u r) Q E s:=by
 refine ae.el (yN I.aV e) _ ?_
 rintro z hd vs rel dd
 have hz:vs.length<=sizeLine:=by rw[<-rel.length];exact z
 have hl:(putK kvs k v).length<=sizeLine:=by have:=eF kvs k v; (first|lia|omega)
 refine wpAny_dictSet_pairs (hsz:=hz) (jQ ry) dd fun h' dd' hs=>h _ ?_
 have he:∃q,h'.get? a=some q:=let ⟨q,_,_,hq,_⟩:=dd'; ⟨q,hq⟩
 exact i7 I (by rw[e];exact True.intro) hs he (oC hl hd (rel.put k rv) dd')
end
section
variable {X:Cx}{pins:List (Addr×Obj)}{σ:St}{H:Hp}{s:Shared}{scope:Scope}{Nc Fc:List Str}{js:List Nat}{cl:List (Str×Addr)}{C:Addr}{fp:List Addr}
theorem qw (I:Inv X pins σ H s)(c:dC X scope Nc Fc js)(dk:∀n c,cl.lookup n=some c->X.env.cells.lookup n=some c)(gZ:∀y∈scope.names,y.2 = .free->∃c,cl.lookup y.1=some c)
  (hC:s.heap.objs.size<=C) (hf:∀b∈fp,dZ X pins H b) (ho:∀b∈fp,∃o,s.heap.get? b=some o) {h1:Heap} {t1:Nat} {m:Str->Option Value}
  (hk:∀b o,s.heap.get? b=some o->h1.get? b=some o) (hm:h1.Ns C m) :
  Inv (fq X Nc Fc scope cl C s H fp) [] (Jj Nc.length none++cN σ js) H { s with heap:=h1,toks:=t1 }:=by
 refine⟨kD I c dk gZ hC hf ho,rfl,I.bare,Un.kept hk,⟨m,hm,fun i x v e1 e2 e3 =>?_⟩,fun x a e =>?_,I.aV.fresh hC,fun x a e=>I.freeC x a (dk x a e),fun p hp =>?_,I.aV.kept hk,?_⟩
 ·have e1:(Nc++Fc)[i]? = some x:=e1
  have e2:(Jj Nc.length none++cN σ js)[i]? = some (some v):=e2
  by_cases hi:i<Nc.length
  ·rw[Ua (by simpa using hi),U4] at e2
   split at e2<;>cases e2
  ·rw[J0 (by first|lia|omega)] at e1
   rw[J0 (by rw[Ut]; (first|lia|omega)),Ut] at e2
   refine ae.el (c.frees _ _ e1) _ ?_
   rintro mr j hj hN
   have hv: σ[j]? = some (some v):=by
    unfold cN at e2
    rw[Jm,hj] at e2
    have e2:some ((σ[j]?).join)=some (some v):=e2
    cases q: σ[j]? with
    | none=>rw[q] at e2;cases e2
    | some z=>rw[q] at e2;cases e2;rfl
   have kx:=c.free _ (bV mr) rfl
   refine ae.el (I.loc) _ ?_
   rintro m0 hn0 hl0
   have G4:FC X.env.scope x:=by
    rcases kx with k|k
    ·exact .inr (.inl k)
    ·exact .inr (.inr k)
   refine ae.el (hl0 j x v hN hv G4) _ ?_
   rintro u ru lk
   refine⟨u,ru,.inr ⟨?_,?_⟩⟩
   ·rw[kI];exact dE mr
   ·obtain⟨a,ha⟩:=gZ _ (bV mr) rfl
    refine⟨a,ha,?_⟩
    rcases lk with ⟨k,_⟩|⟨_,a',ha',hcell⟩
    ·rcases kx with q|q<;>(rw[k] at q;cases q)
    ·have e:=dk _ _ ha
     dsimp only at e
     rw[ha'] at e;cases e
     exact hcell.keeps hk
 ·obtain⟨v,z⟩:=I.cell x a (dk x a e)
  exact⟨v,z.keeps hk⟩
 ·have hp:p∈([]:List (Addr×Obj)):=hp
  cases hp
 ·show(Jj Nc.length none++cN σ js).length=(Nc++Fc).length
  unfold cN
  rw[Jf,Jf,Ut,Jb,c.lens]
end
noncomputable def uQ (J:It)(n:Nat)(js:List Nat)(g:TG)(tc:TT)(tk tv:TE)(σ:St)(D:Addr)(H1:Hp)(fin:Hp->Prop):Prop:=
 ∃W:Nat->Nat->Hp->Prop,(∃m,W 0 m H1)/\∀i m H,W i m H ->
  (J.stop i H/\fin H) ∨
  (J.go i H/\∀x H',J.yld i H x H'->g x (Jj n none++cN σ js) H' fun σ2 H2=>tc σ2 H2 fun b H3=>
   if b=true then tk σ2 H3 fun y H4=>tv σ2 H4 fun z H5=>cj fun kvs k=>H5 D=some (.dK kvs)/\y=kV k/\kvs.length<sizeLine/\∃m',m'<m/\W (i+1) m' (upd H5 D (.dK (putK kvs k z))) else ∃m',m'<m/\W (i+1) m' H3)
noncomputable def jt (wi:TI)(n:Nat)(js:List Nat)(g:TG)(tc:TT)(tk tv:TE):TE:=fun σ H Q=>wi σ H fun J H1=>∀D,H1 D=none->uQ J n js g tc tk tv σ D (upd H1 D (.dK [])) fun H2=>Q (.ref D) H2
theorem kY {X:Cx}{kx vx tg iter:Expr}{ifs:List Expr}{scope:Scope}{pos:Pos}{Nc Fc:List Str}{js:List Nat}{wi:TI}{g:TG}{tc:TT}{tk tv:TE}{use:Option (Value->Sem Unit)}{QV:Value->Shared->Prop}
  (cK:X.calm=true) (c:dC X scope Nc Fc js) (hi:PI X tg iter wi)
  (hg:∀cl C s H fp,PG (fq X Nc Fc scope cl C s H fp) tg g) (zB:∀cl C s H fp,Cz (fq X Nc Fc scope cl C s H fp) ifs tc) (dH:∀cl C s H fp,PE (fq X Nc Fc scope cl C s H fp) kx tk) (wU:∀cl C s H fp,PE (fq X Nc Fc scope cl C s H fp) vx tv) (gk:Gk Nc.length g)
  {pins:List (Addr×Obj)} {s:Shared} {σ:St} {H:Hp} {fin:Addr->Hp->Prop} (I:Inv X pins σ H s)
  (h:wi σ H fun J H1=>∀D,H1 D=none->uQ J Nc.length js g tc tk tv σ D (upd H1 D (.dK [])) (fin D))
  (behind:∀(C D:Addr) (m:Str->Option Value) (H2:Hp) (s2:Shared),Inv X pins σ H2 s2->s2.heap.Ns C m->dZ X pins H2 C->fin D H2->compPost (model X.prog X.w) X.A X.xe use QV (.ref D) C (.ok .next) s2)
  (hs:∀x,foldedSetIterable iter X.env x=pure x) :
  wpAny (model X.prog X.w) X.A (comprehension (.DictComp kx vx [⟨tg,iter,ifs,0⟩] scope pos) scope X.env (firstIterPos [⟨tg,iter,ifs,0⟩] pos) newDict false (eval iter X.env) use) QV X.xe s:=by
 obtain⟨cl,hclos,dk,gZ⟩:=ir (scope:=scope) (env:=X.env) fun y hy hf=>I.ok.has y.1 (c.free y hy hf)
 refine wpAny_comprehension_free (use:=use) rfl hs hclos c.kind c.names ?_
 refine aQ (hi s σ H _ I h) fun v s1 h1=>aQ h1 fun Fq s2 h2 =>?_
 obtain⟨it,fp,tn,J,H2,e,I2,T,aW,f2,all⟩:=h2
 subst e
 refine wpAny_newObj_type (wpAny_newFunctionEnv c.nocell (by intro y hy;simp at hy) (fun h1 hns1 hsb1 =>?_) c.kind)
 dsimp only at hns1 hsb1 ⊢
 have AV:H2 s2.heap.objs.size=none:=I2.aV.fresh (Jc _)
 have xT:=I2.laid (a:=s2.heap.objs.size) (o := .dK []) (h':=s2.heap.push { cls := .type "dict",data := .dict #[] }) (t':=s2.toks) (fun _ _ q=>Jd _ q) (Jc _) (jb s2.heap I2.big)
 obtain⟨W,⟨m0,w0⟩,turn⟩:=all _ AV
 have HP:∀b∈fp,∃o,s2.heap.get? b=some o:=fun b hb=>let ⟨o,e,_⟩:=T.obj 0 _ aW b hb; ⟨o,e⟩
 have mw:∀b∈fp,b<s2.heap.objs.size:=fun b hb=>let ⟨o,e⟩:=HP b hb;Ji e
 generalize hG:s2.heap.push { cls := .type "dict",dict:=none,data := .dict #[] } = G at hns1 hsb1 xT ⊢
 have toG:∀b o,s2.heap.get? b=some o->G.get? b=some o:=fun b o e=>hG▸Jd _ e
 have hC:G.objs.size=s2.heap.objs.size+1:=by rw[<-hG,Ws]
 have old:∀b o,G.get? b=some o->h1.get? b=some o:=fun b o e=>
  hsb1.extBut b o (cv (Ji e) (Jc _)) (Jd _ e)
 let D:Addr:=s2.heap.objs.size
 let s2':Shared:={ s2 with heap:=G,toks:=s2.toks }
 let H2':Hp:=upd H2 D (.dK [])
 have Fj:∀b∈fp,dZ X pins H2' b:=fun b hb=>by
  obtain⟨a1,a2⟩:=f2 b hb
  refine⟨?_,a2⟩
  show upd H2 D (.dK []) b=none
  rw[ao (J3 (mw b hb))];exact a1
 have fo:∀b∈fp,∃o,s2'.heap.get? b=some o:=fun b hb=>let ⟨o,e⟩:=HP b hb; ⟨o,toG b o e⟩
 have LD:∀b∈fp,b<G.objs.size:=fun b hb=>by have:=mw b hb;rw[hC];exact Wm this
 let Xc:Cx:=fq X Nc Fc scope cl G.objs.size s2' H2' fp
 have fO:∀{H':Hp},(∀b∈fp,H' b=none)->∀b∈fp,dZ Xc [] H' b:=fun{H'} hn b hb=>by
  refine⟨hn b hb,?_,?_,.inl hb,fun x a e =>?_,fun p hq =>?_⟩
  ·exact cv (LD b hb) (Jc _)
  ·exact(kD xT c dk gZ (Jc _) Fj fo).exfs b hb
  ·exact(f2 b hb).2.2.2.2.1 x a (dk _ _ e)
  ·have q:p∈([]:List (Addr×Obj))++[]:=hq
   simp at q
 have loop:∀t1,codeAny (model X.prog X.w) X.A (.compLoop (.DictComp kx vx [⟨tg,iter,ifs,0⟩] scope pos) 0 (.ref it) (.ref s2.heap.objs.size) (compEnvC scope cl G.objs.size X.env))
   (compPost (model X.prog X.w) X.A X.xe use QV (.ref s2.heap.objs.size) G.objs.size) { s2 with heap:=h1,toks:=t1 }:=by
  intro t1
  refine rC (fun n s'=>∃i H',Inv Xc [] (Jj Nc.length none++cN σ js) H' s'/\tn i s'.heap/\(∀b∈fp,H' b=none)/\W i n H') ?_ m0
   ⟨0,H2',qw xT c dk gZ (Jc _) Fj fo old hns1,T.keep _ _ _ aW (fun b hb o e=>old b o (toG b o e)),fun b hb=>(Fj b hb).1,w0⟩
  intro n s3 hz_
  refine ae.el hz_ _ ?_
  clear hz_
  rintro i H3 I3 cp fr3 w3
  rcases turn i n H3 w3 with ⟨stop,qn⟩|⟨go,step⟩
  ·refine aQ (T.done Xc rfl rfl rfl cK i _ s3 _ H3 fR I3 (fO fr3) cp stop) fun r s4 hz_ =>?_
   refine ae.el hz_ _ ?_
   clear hz_
   rintro hr I4
   subst hr
   show compPost _ _ _ _ _ _ _ _ _
   refine ae.el (I4.loc) _ ?_
   rintro mC hmC _
   have FU:H3 G.objs.size=none:=I4.free
   have u:Un (fP X.stack) fp H2' H3 G s4.heap:=I4.base
   have rJ:∀b∈fp,(b∈X.ex∨X.s₀.heap.objs.size<=b)/\b≠X.env.locals/\(∀x c,X.env.cells.lookup x=some c->c≠b)/\∀p∈X.pn++pins,p.1≠b:=fun b hb=>
    ⟨(f2 b hb).2.2.2.1,(f2 b hb).2.1,(f2 b hb).2.2.2.2.1,(f2 b hb).2.2.2.2.2⟩
   have Hr:s4.os=s2'.os:=I4.os
   have J4:Inv X pins σ H3 s4:=xT.pV (H':=H3) Hr u I4.aV I4.bare rJ
   exact behind G.objs.size D mC H3 s4 J4 hmC (xT.kr (Jc _) FU) qn
  ·refine aQ (T.item Xc rfl rfl rfl cK i _ s3 _ H3 fR I3 (fO fr3) cp go) fun r s4 hz_ =>?_
   refine ae.el hz_ _ ?_
   clear hz_
   rintro u hr h4
   subst hr
   show wpAny _ _ (letOwnedTupleGo tg (.ref it) u) _ _ _
   refine aQ h4 fun _ s5 hz_ =>?_
   refine ae.el hz_ _ ?_
   clear hz_
   rintro x H5 I5 r5 y5 cC fr5
   have A8:=I5.pinned (fO fr5) (T.obj _ _ cC)
   refine aQ (hg cl G.objs.size s2' H2' fp s5 _ H5 x u _ A8 r5 (gk _ _ _ _ (step x H5 y5))) fun _ s6 hz_ =>?_
   refine ae.el hz_ _ ?_
   clear hz_
   rintro σ6 H6 I6 q6 kσ kl
   refine aQ (zB cl G.objs.size s2' H2' fp s6 σ6 H6 _ I6 q6) fun b s7 hz_ =>?_
   refine ae.el hz_ _ ?_
   clear hz_
   rintro H7 I7 q7
   have later:∀{σ':St} {H':Hp} {s':Shared},Inv Xc ([]++dQ fp s5.heap) σ' H' s'->tn (i+1) s'.heap/\∀b∈fp,H' b=none:=fun{σ' H' s'} Iz=>by
    refine⟨T.keep _ _ _ cC fun b hb o e=>(Iz.pin (b,o) (Jr _ (Jr _ (bP hb e)))).1,fun b hb =>?_⟩
    refine ae.el (T.obj _ _ cC b hb) _ ?_
    rintro o e d
    exact(Iz.pin (b,o) (Jr _ (Jr _ (bP hb e)))).2.1
   have back:∀{pl:List (Addr×Obj)} {H':Hp} {s':Shared},Inv Xc pl σ6 H' s'->Inv Xc pl (Jj Nc.length none++cN σ js) H' s':=fun{pl H' s'} Iz=>by
    refine Iz.weak (by rw[<-kl]) fun j v hj =>?_
    by_cases hn:j<Nc.length
    ·rw[Ua (by simpa using hn),U4] at hj
     split at hj<;>cases hj
    ·rw[kσ j (by first|lia|omega)];exact hj
   cases b with
   | false=>
    rw[if_neg Jo] at q7 ⊢
    refine ae.el (q7) _ ?_
    rintro m' tj w7
    obtain⟨l1,l2⟩:=later I7
    exact⟨m',tj,i+1,H7,back I7.cU,l1,l2,w7⟩
   | true=>
    rw[if_pos rfl] at q7 ⊢
    refine aQ (dH cl G.objs.size s2' H2' fp s7 σ6 H7 _ I7 q7) fun yv s8 hz_ =>?_
    refine ae.el hz_ _ ?_
    clear hz_
    rintro y H8 I8 r8 q8
    refine aQ (wU cl G.objs.size s2' H2' fp s8 σ6 H8 _ I8 q8) fun zv s9 hz_ =>?_
    refine ae.el hz_ _ ?_
    clear hz_
    rintro z H9 I9 r9 q9
    refine ae.el (q9) _ ?_
    rintro kvs k eD ey hl m' tj w9
    subst ey
    refine nq (X:=Xc) I9 eD hl r8 r9 fun s10 I10 =>?_
    obtain⟨l1,l2⟩:=later I10
    exact⟨m',tj,i+1,_,back I10.cU,l1,l2,w9⟩
 exact codeAny_compStart_dict (loop _) (T.self _ 0 _ _ _ (T.keep _ _ _ aW fun b hb o e=>old b o (toG b o e)) (loop _))
theorem i9 {X:Cx}{kx vx tg iter:Expr}{ifs:List Expr}{scope:Scope}{pos:Pos}{Nc Fc:List Str}{js:List Nat}{wi:TI}{g:TG}{tc:TT}{tk tv:TE}
  (cK:X.calm=true) (c:dC X scope Nc Fc js) (hi:PI X tg iter wi) (gk:Gk Nc.length g)
  (hg:∀cl C s H fp,PG (fq X Nc Fc scope cl C s H fp) tg g) (zB:∀cl C s H fp,Cz (fq X Nc Fc scope cl C s H fp) ifs tc) (dH:∀cl C s H fp,PE (fq X Nc Fc scope cl C s H fp) kx tk) (wU:∀cl C s H fp,PE (fq X Nc Fc scope cl C s H fp) vx tv)
  (hs:∀x,foldedSetIterable iter X.env x=pure x:=by intro _;rfl) :
  PE X (.DictComp kx vx [⟨tg,iter,ifs,0⟩] scope pos) (jt wi Nc.length js g tc tk tv):=by
 intro pins s σ H Q I h
 rw[arm_eval_DictComp]
 refine kY (use:=none) (fin:=fun D H2=>Q (.ref D) H2) cK c hi hg zB dH wU gk I h (fun C D m H2 s2 I2 hm hC q =>?_) hs
 refine⟨m,hm,fun h' hs' =>?_⟩
 exact⟨.ref D,_,I2.turned (it:=C) (t':=s2.toks) (fun b o hb e=>hs'.extBut b o hb e) hC.1 (hC.2.1) hC.2.2.2.1 hC.2.2.2.2.1 hC.2.2.2.2.2,rfl,q⟩
theorem pk {X:Cx}{i:Nat}{y:Str}{kx vx tg iter:Expr}{ifs:List Expr}{scope:Scope}{pos pos' py:Pos}{Nc Fc:List Str}{js:List Nat}{wi:TI}{g:TG}{tc:TT}{tk tv:TE}(hN:X.N.Nodup)(hy:X.N[i]? = some y)(hl:Loc X.env.scope y)
  (cK:X.calm=true) (c:dC X scope Nc Fc js) (hi:PI X tg iter wi) (gk:Gk Nc.length g)
  (hg:∀cl C s H fp,PG (fq X Nc Fc scope cl C s H fp) tg g) (zB:∀cl C s H fp,Cz (fq X Nc Fc scope cl C s H fp) ifs tc) (dH:∀cl C s H fp,PE (fq X Nc Fc scope cl C s H fp) kx tk) (wU:∀cl C s H fp,PE (fq X Nc Fc scope cl C s H fp) vx tv)
  (MZ:swapsWith (.DictComp kx vx [⟨tg,iter,ifs,0⟩] scope pos) (some (.Name y py)) pos'.line X.env=pure true:=by rfl)
  (hs:∀x,foldedSetIterable iter X.env x=pure x:=by intro _;rfl)
  (hf:X.fn y=true∨X.env.scope.names.lookup y=some .local:=by first|exact .inl rfl|exact .inr rfl|assumption) :
  PS X (.Assign [.Name y py] (.DictComp kx vx [⟨tg,iter,ifs,0⟩] scope pos) pos') (gU (jt wi Nc.length js g tc tk tv) (cM i)):=by
 intro pins s σ H E I h
 rw[exec_Assign_Name_used _ _ _ _ MZ]
 refine wpAny_bind (wpAny_standAt (wpAny_bind ?_))
 show wpAny _ X.A (do let _ <-comprehension (.DictComp kx vx [⟨tg,iter,ifs,0⟩] scope pos) scope X.env _ newDict false (eval iter X.env) (some (assign (.Name y py) X.env))) _ _ s
 refine wpAny_bind (aQ (kY (use:=some (assign (.Name y py) X.env)) (fin:=fun D H2=>cM i (.ref D) σ H2 E.nx) (QV:=fun _ s'=>SP X pins E .next s') cK c hi hg zB dH wU gk I h (fun C D m H2 s2 I2 hm hC q =>?_) hs) fun _ s' hq=>wpAny_pure (wpAny_pure hq))
 show wpAny _ _ (assign (.Name y py) X.env (.ref D)) _ _ s2
 refine wpAny_assign_Name (jJ I2 hN hy hl (v := .ref D) rfl (fun s3 I3 hz_=>ae.el hz_ _ fun a Bq ha =>?_) hf)
 have jZ:C≠a:=by
  rcases ha with e|e
  ·rw[e];exact hC.2.1
  ·exact fun z=>hC.2.2.2.2.1 _ _ e z.symm
 refine⟨m,hm.at' fun o e=>Bq.extBut _ o jZ e,fun h' hs' =>?_⟩
 exact⟨_,_,I3.turned (it:=C) (t':=s3.toks) (fun b o hb e=>hs'.extBut b o hb e) hC.1 hC.2.1 hC.2.2.2.1 hC.2.2.2.2.1 hC.2.2.2.2.2,q⟩
section
variable {prog:Program}{w:World}{A:Around}{E:Value->Shared->Prop}{s:Shared}{a₀:Array Keyed}{key:Keyed->Int}{kd:SortKind}
noncomputable def iG (prog:Program)(w:World)(A:Around)(E:Value->Shared->Prop)(s:Shared)(a₀:Array Keyed)(key:Keyed->Int)(kd:SortKind):Prop:=
 ∀(st:SortSt) (x y:Keyed) (Q:Option Bool->SortSt->Prop),x∈a₀.toList->y∈a₀.toList->kindOf st=kd->Q (some (decide (key x<key y))) st->wpS (model prog w) A E s (lt' x y) Q st
noncomputable def ky (key:Keyed->Int)(xs:Array Keyed)(i:Nat):Int:=match xs[i]? with
 | some p=>key p
 | none=>0
theorem da {xs ys:Array Keyed}{i j:Nat}(h:xs[i]? = ys[j]?):ky key xs i=ky key ys j:=by unfold ky;rw[h]
theorem dc {xs:Array Keyed}{i:Nat}{p:Keyed}(h:xs[i]? = some p):ky key xs i=key p:=by unfold ky;rw[h]
structure Af (a₀:Array Keyed)(kd:SortKind)(lo:Nat)(hJ st:SortSt):Prop where
 perm:(arrOf st).Perm a₀
 kind:kindOf st=kd
 failed:failedOf st=none
 pend:pendingOf st=pendingOf hJ
 low:∀i,i<lo->(arrOf st)[i]? = (arrOf hJ)[i]?
theorem Af.size {lo:Nat}{hJ st:SortSt}(h:Af a₀ kd lo hJ st):(arrOf st).size=a₀.size:=h.perm.size_eq
theorem Af.set {lo:Nat}{hJ st:SortSt}(h:Af a₀ kd lo hJ st){xs:Array Keyed}(hp:xs.Perm (arrOf st))(hl:∀i,i<lo->xs[i]? = (arrOf st)[i]?):Af a₀ kd lo hJ (setArr st xs):=
 ⟨hp.trans h.perm,h.kind,h.failed,h.pend,fun i hi=>(hl i hi).trans (h.low i hi)⟩
theorem xn {xs:Array Keyed}(hp:xs.Perm a₀){i:Nat}{p:Keyed}(h:xs[i]? = some p):p∈a₀.toList:=by
 refine(Wf.mp hp).mem_iff.mp ?_
 exact Wj.mpr (Array.mem_of_getElem? h)
theorem gR {xs:Array Keyed}{i:Nat}{st:SortSt}{Q:Keyed->SortSt->Prop}(hi:i<xs.size)(h:∀p,xs[i]? = some p->Q p st):wpS (model prog w) A E s (elem' xs i) Q st:=by
 rw[elem'_eq,getElem?_pos xs i hi]
 exact wpS_pure (h _ (getElem?_pos xs i hi))
theorem AE {st:SortSt}{i j:Nat}{Q:Option Bool->SortSt->Prop}(hL:iG prog w A E s a₀ key kd)(hp:(arrOf st).Perm a₀)(hk:kindOf st=kd)(hi:i<a₀.size)(hj:j<a₀.size)
  (h:Q (some (decide (ky key (arrOf st) i<ky key (arrOf st) j))) st):wpS (model prog w) A E s (ltAt' i j) Q st:=by
 rw[ltAt'_eq]
 refine wpS_bind (wpS_get ?_)
 show wpS _ _ _ _ (do let x <-elem' (arrOf st) i;let y <-elem' (arrOf st) j;lt' x y) Q st
 have hs:=hp.size_eq
 refine wpS_bind (gR (by first|lia|omega) fun p e1=>wpS_bind (gR (by first|lia|omega) fun q e2 =>?_))
 refine hL _ _ _ _ (xn hp e1) (xn hp e2) hk ?_
 rw[dc e1,dc e2] at h
 exact h
theorem Af.lt {lo:Nat}{hJ st:SortSt}{i j:Nat}{Q:Option Bool->SortSt->Prop}(h:Af a₀ kd lo hJ st)(hL:iG prog w A E s a₀ key kd)(hi:i<a₀.size)(hj:j<a₀.size)
  (q:Q (some (decide (ky key (arrOf st) i<ky key (arrOf st) j))) st):wpS (model prog w) A E s (ltAt' i j) Q st:=AE hL h.perm h.kind hi hj q
noncomputable def Sg (key:Keyed->Int)(xs:Array Keyed)(i j:Nat):Prop:=∀p q,i<=p->p<=q->q<j->ky key xs p<=ky key xs q
noncomputable def Ng (key:Keyed->Int)(xs:Array Keyed)(i j:Nat):Prop:=∀p q,i<=p->p<=q->q<j->ky key xs q<=ky key xs p
theorem jD {xs:Array Keyed}{i j:Nat}(hj:j<=xs.size)(k:Nat):
  ky key (mirror xs i j ((j-i) / 2)) k=if i<=k/\k<j then ky key xs (i+j-1-k) else ky key xs k:=by
 have e:=getElem?_mirror_all (i:=i) hj k
 by_cases h1:i<=k/\k<j
 ·rw[if_pos h1] at e ⊢;exact da e
 ·rw[if_neg h1] at e ⊢;exact da e
theorem tI {xs:Array Keyed}{i j lo:Nat}(hj:j<=xs.size)(hi:lo<=i):∀k,k<lo->(mirror xs i j ((j-i) / 2))[k]? = xs[k]?:=fun k hk=>by
 rw[getElem?_mirror_all hj,if_neg (by first|lia|omega)]
theorem cn {xs:Array Keyed}{i j:Nat}(hj:j<=xs.size)(heq:∀k,i<=k->k<j->ky key xs k=ky key xs (j-1))(k:Nat):
  ky key (mirror xs i j ((j-i) / 2)) k=ky key xs k:=by
 rw[jD hj]
 split
 ·rw[heq _ (by first|lia|omega) (by first|lia|omega),heq k (by first|lia|omega) (by first|lia|omega)]
 ·rfl
theorem Af.rev {lo i j:Nat}{hJ st:SortSt}(h:Af a₀ kd lo hJ st)(hi:lo<=i)(hj:j<=a₀.size):Af a₀ kd lo hJ (setArr st (mirror (arrOf st) i j ((j-i) / 2))):=
 h.set (mirror_perm _ _ _ _) (tI (by rw[h.size];exact hj) hi)
noncomputable def xA (lo a bM:Nat):StateT SortSt Sem AscSt:=
 forIn [a:bM] ((none,a):AscSt) fun _ c=>do
  let x <-ltAt' (lo+c.snd) (lo+c.snd-1)
  match x with
  | some smaller=>if smaller=true then pure (ForInStep.done (none,c.snd)) else pure (ForInStep.yield (none,c.snd+1))
  | _=>pure (ForInStep.done (some none,c.snd))
noncomputable def qi (lo n bM:Nat):StateT SortSt Sem (Option Nat):=do
 reverseSlice' lo (lo+n)
 let c <-xA lo n bM
 match c.fst with
 | some r=>pure r
 | none=>pure (some c.snd)
noncomputable def uh (lo n bM:Nat):StateT SortSt Sem DescSt:=
 forIn [n:bM] ((none,n,0):DescSt) fun _ c=>do
  let x <-ltAt' (lo+c.snd.fst) (lo+c.snd.fst-1)
  match x with
  | some smaller=>
   if smaller=true then
    if c.snd.snd>0 then do
     reverseSlice' (lo+c.snd.fst-(c.snd.snd+1)) (lo+c.snd.fst)
     pure (ForInStep.yield (none,c.snd.fst+1,0))
    else pure (ForInStep.yield (none,c.snd.fst+1,0))
   else do
    let x <-ltAt' (lo+c.snd.fst-1) (lo+c.snd.fst)
    match x with
    | some larger=>
     if larger=true then pure (ForInStep.done (none,c.snd.fst,c.snd.snd))
     else pure (ForInStep.yield (none,c.snd.fst+1,c.snd.snd+1))
    | _=>pure (ForInStep.done (some none,c.snd.fst,c.snd.snd))
  | _=>pure (ForInStep.done (some none,c.snd.fst,c.snd.snd))
noncomputable def rh (lo n bM:Nat):StateT SortSt Sem (Option Nat):=do
 liftM (rule "list.sort.descending-run")
 let c <-uh lo (n+1) bM
 match c.fst with
 | some r=>pure r
 | none=>
  if c.snd.snd>0 then do
   reverseSlice' (lo+c.snd.fst-(c.snd.snd+1)) (lo+c.snd.fst)
   qi lo c.snd.fst bM
  else qi lo c.snd.fst bM
theorem u0 (lo bM:Nat):countRun' lo bM=(do
  let c <-xA lo 1 bM
  match c.fst with
  | some r=>pure r
  | none=>
   if (c.snd==bM)=true then pure (some c.snd)
   else if c.snd>1 then do
    let x <-ltAt' lo (lo+c.snd-1)
    match x with
    | some rose=>if rose=true then pure (some c.snd) else do
      reverseSlice' lo (lo+c.snd)
      rh lo c.snd bM
    | _=>pure none
   else rh lo c.snd bM):=by
 rw[countRun'_eq]
 dsimp only
 unfold rh qi uh xA
 congr 1
 funext c
 obtain⟨r,n⟩:=c
 cases r with
 | some r=>rfl
 | none=>
  dsimp only
  split
  ·rfl
  ·split
   ·congr 1
    funext x
    cases x with
    | none=>rfl
    | some rose=>
     dsimp only
     split
     ·rfl
     ·congr 1
      funext _r
      congr 1;funext _u;congr 1;congr 1;funext s2;obtain⟨r2,n2,q2⟩:=s2
      cases r2 with
      | some r2=>rfl
      | none=>(dsimp only;split; (congr 1;funext _v; (congr 1;funext _w;congr 1; (funext s3;obtain⟨r3,n3⟩:=s3;cases r3<;>rfl))); (congr 1;funext _w;congr 1; (funext s3;obtain⟨r3,n3⟩:=s3;cases r3<;>rfl)))
   ·congr 1;funext _u;congr 1;congr 1;funext s2;obtain⟨r2,n2,q2⟩:=s2
    cases r2 with
    | some r2=>rfl
    | none=>(dsimp only;split; (congr 1;funext _v; (congr 1;funext _w;congr 1; (funext s3;obtain⟨r3,n3⟩:=s3;cases r3<;>rfl))); (congr 1;funext _w;congr 1; (funext s3;obtain⟨r3,n3⟩:=s3;cases r3<;>rfl)))
theorem xk {hJ st:SortSt}{lo a bM:Nat}{Q:AscSt->SortSt->Prop}(hL:iG prog w A E s a₀ key kd)(hn:lo+bM<=a₀.size)(ha:1<=a)(QX:a<=bM)(hB:Af a₀ kd lo hJ st)
  (hs:Sg key (arrOf st) lo (lo+a))
  (h:∀n,a<=n->n<=bM->Sg key (arrOf st) lo (lo+n)->(n=bM∨ky key (arrOf st) (lo+n)<ky key (arrOf st) (lo+n-1))->Q (none,n) st) :
  wpS (model prog w) A E s (xA lo a bM) Q st:=by
 unfold xA
 refine wpS_forRange (I:=fun x c aD=>aD=st/\c=(none,x)/\Sg key (arrOf st) lo (lo+x)) ?step ?fin ⟨rfl,rfl,hs⟩
 case fin=>
  intro c aD hz_
  refine ae.el hz_ _ ?_
  clear hz_
  rintro rfl rfl hs'
  rw[Nat.max_eq_right (by first|lia|omega)] at hs' ⊢
  exact h bM QX (Jc _) hs' (.inl rfl)
 case step=>
  intro x c aD hax hxn hz_
  refine ae.el hz_ _ ?_
  clear hz_
  rintro rfl rfl hs'
  dsimp only
  refine wpS_bind (hB.lt hL (by first|lia|omega) (by first|lia|omega) ?_)
  by_cases hless:ky key (arrOf aD) (lo+x)<ky key (arrOf aD) (lo+x-1)
  ·simp -iota only [hless,decide_true,if_true]
   exact wpS_pure (h x hax (by first|lia|omega) hs' (.inr hless))
  ·simp -iota only [hless,decide_false,Ug,if_false]
   refine wpS_pure ⟨rfl,rfl,fun i j hl fg hj =>?_⟩
   by_cases hjx:j<lo+x
   ·exact hs' i j hl fg hjx
   ·have wy:j=lo+x:=by (first|lia|omega)
    subst wy
    by_cases iD:i=lo+x
    ·subst iD;exact Yz _
    ·exact Int.le_trans (hs' i (lo+x-1) hl (Y5 (Uv fg iD)) (by first|lia|omega)) (Int.not_lt.mp hless)
theorem uN {hJ st:SortSt}{lo n bM:Nat}{Q:Option Nat->SortSt->Prop}(hL:iG prog w A E s a₀ key kd)(hn:lo+bM<=a₀.size)(h1:1<=n)(zR:n<=bM)(hB:Af a₀ kd lo hJ st)
  (hs:Ng key (arrOf st) lo (lo+n)) (h:∀m aD,Af a₀ kd lo hJ aD->1<=m->m<=bM->Sg key (arrOf aD) lo (lo+m)->Q (some m) aD) :
  wpS (model prog w) A E s (qi lo n bM) Q st:=by
 unfold qi
 have hsz:lo+n<=(arrOf st).size:=by rw[hB.size]; (first|lia|omega)
 refine wpS_bind (wpS_reverse ?_)
 have fv:=hB.rev (i:=lo) (j:=lo+n) (Jc _) (by first|lia|omega)
 refine wpS_bind (xk hL hn h1 zR fv ?_ fun m hm1 hm2 hsm _=>wpS_pure (h m _ fv (by first|lia|omega) hm2 hsm))
 intro i j hl fg hj
 show ky key (mirror (arrOf st) lo (lo+n) ((lo+n-lo) / 2)) i<=ky key (mirror (arrOf st) lo (lo+n) ((lo+n-lo) / 2)) j
 rw[jD hsz,jD hsz,if_pos (by first|lia|omega),if_pos (by first|lia|omega)]
 exact hs _ _ (by first|lia|omega) (Nat.sub_le_sub_left fg _) (by first|lia|omega)
theorem Ai {hJ st:SortSt}{lo n bM:Nat}{Q:DescSt->SortSt->Prop}(hL:iG prog w A E s a₀ key kd)(hn:lo+bM<=a₀.size)(h1:1<=n)(zR:n<=bM)(hB:Af a₀ kd lo hJ st)
  (hs:Ng key (arrOf st) lo (lo+n))
  (h:∀m neq aD,Af a₀ kd lo hJ aD->n<=m->m<=bM->Ng key (arrOf aD) lo (lo+m)->neq+1<=m->(∀i,lo+m-(neq+1)<=i->i<lo+m->ky key (arrOf aD) i=ky key (arrOf aD) (lo+m-1))->Q (none,m,neq) aD) :
  wpS (model prog w) A E s (uh lo n bM) Q st:=by
 unfold uh
 refine wpS_forRange (I:=fun x c aD=>∃neq,c=(none,x,neq)/\Af a₀ kd lo hJ aD/\Ng key (arrOf aD) lo (lo+x)/\neq+1<=x /\
   (∀i,lo+x-(neq+1)<=i->i<lo+x->ky key (arrOf aD) i=ky key (arrOf aD) (lo+x-1))) ?step ?fin ⟨0,rfl,hB,hs,by first|lia|omega,fun i h1 h2=>congrArg (ky key _) (Nat.le_antisymm (Y5 h2) h1)⟩
 case fin=>
  intro c aD hz_
  refine ae.el hz_ _ ?_
  clear hz_
  rintro neq rfl fv hs' hq he
  rw[Nat.max_eq_right zR] at hs' hq he ⊢
  exact h bM neq aD fv zR (Jc _) hs' hq he
 case step=>
  intro x c aD hax hxn hz_
  refine ae.el hz_ _ ?_
  clear hz_
  rintro neq rfl fv hs' hq he
  dsimp only
  have hsz:lo+x<=(arrOf aD).size:=by rw[fv.size]; (first|lia|omega)
  have lx:lo+x-1<lo+x:=by (first|lia|omega)
  refine wpS_bind (fv.lt hL (by first|lia|omega) (by first|lia|omega) ?_)
  by_cases hless:ky key (arrOf aD) (lo+x)<ky key (arrOf aD) (lo+x-1)
  ·simp -iota only [hless,decide_true,if_true]
   have nC:∀xs:Array Keyed,(∀k,ky key xs k=ky key (arrOf aD) k)->Ng key xs lo (lo+(x+1)):=by
    intro xs hk i j hl fg hj
    rw[hk,hk]
    by_cases hjx:j<lo+x
    ·exact hs' i j hl fg hjx
    ·have wy:j=lo+x:=by (first|lia|omega)
     subst wy
     by_cases iD:i=lo+x
     ·subst iD;exact Yz _
     ·exact Int.le_trans (Yt hless) (hs' i (lo+x-1) hl (Y5 (Uv fg iD)) lx)
   by_cases hneq:neq>0
   ·rw[if_pos hneq]
    refine wpS_bind (wpS_reverse (wpS_pure ⟨0,rfl,fv.rev (by first|lia|omega) (by first|lia|omega),nC _ (cn hsz he),by first|lia|omega,fun i h1 h2=>congrArg (ky key _) (Nat.le_antisymm (Y5 h2) h1)⟩))
   ·rw[if_neg hneq]
    exact wpS_pure ⟨0,rfl,fv,nC _ (fun _=>rfl),by first|lia|omega,fun i h1 h2=>congrArg (ky key _) (Nat.le_antisymm (Y5 h2) h1)⟩
  ·simp -iota only [hless,decide_false,Ug,if_false]
   refine wpS_bind (fv.lt hL (by first|lia|omega) (by first|lia|omega) ?_)
   by_cases hlarger:ky key (arrOf aD) (lo+x-1)<ky key (arrOf aD) (lo+x)
   ·simp -iota only [hlarger,decide_true,if_true]
    exact wpS_pure (h x neq aD fv hax (by first|lia|omega) hs' hq he)
   ·simp -iota only [hlarger,decide_false,Ug,if_false]
    have G3:ky key (arrOf aD) (lo+x)=ky key (arrOf aD) (lo+x-1):=by (first|lia|omega)
    refine wpS_pure ⟨neq+1,rfl,fv,fun i j hl fg hj =>?_,by first|lia|omega,fun i h1 h2 =>?_⟩
    ·by_cases hjx:j<lo+x
     ·exact hs' i j hl fg hjx
     ·have wy:j=lo+x:=by (first|lia|omega)
      subst wy
      by_cases iD:i=lo+x
      ·subst iD;exact Yz _
      ·rw[G3];exact hs' i (lo+x-1) hl (Y5 (Uv fg iD)) lx
    ·rw[show lo+(x+1)-1=lo+x from Nat.add_sub_cancel (lo+x) 1]
     by_cases hix:i=lo+x
     ·subst hix;rfl
     ·rw[G3];exact he i (Jp (Yj (Nat.succ_sub_succ (lo+x) (neq+1)).symm) h1) (Uv (Wn h2) hix)
theorem qW {hJ st:SortSt}{lo n bM:Nat}{Q:Option Nat->SortSt->Prop}(hL:iG prog w A E s a₀ key kd)(hn:lo+bM<=a₀.size)(zR:n+1<=bM)(hB:Af a₀ kd lo hJ st)
  (hs:Ng key (arrOf st) lo (lo+(n+1))) (h:∀m aD,Af a₀ kd lo hJ aD->1<=m->m<=bM->Sg key (arrOf aD) lo (lo+m)->Q (some m) aD) :
  wpS (model prog w) A E s (rh lo n bM) Q st:=by
 unfold rh
 refine wpS_bind (wpS_lift (wpAny_rule ⟨rfl,?_⟩))
 refine wpS_bind (Ai hL hn (by first|lia|omega) zR hB hs fun m neq aD fv hm1 hm2 hs' hq he =>?_)
 dsimp only
 have hsz:lo+m<=(arrOf aD).size:=by rw[fv.size]; (first|lia|omega)
 by_cases hneq:neq>0
 ·rw[if_pos hneq]
  refine wpS_bind (wpS_reverse (uN hL hn (by first|lia|omega) hm2 (fv.rev (by first|lia|omega) (by first|lia|omega)) ?_ h))
  intro i j hl fg hj
  show ky key (mirror (arrOf aD) _ _ _) j<=ky key (mirror (arrOf aD) _ _ _) i
  rw[cn hsz he,cn hsz he]
  exact hs' i j hl fg hj
 ·rw[if_neg hneq]
  exact uN hL hn (by first|lia|omega) hm2 fv hs' h
theorem yK {hJ st:SortSt}{lo bM:Nat}{Q:Option Nat->SortSt->Prop}(hL:iG prog w A E s a₀ key kd)(hn:lo+bM<=a₀.size)(h1:1<=bM)(hB:Af a₀ kd lo hJ st)
  (h:∀m aD,Af a₀ kd lo hJ aD->1<=m->m<=bM->Sg key (arrOf aD) lo (lo+m)->Q (some m) aD) :
  wpS (model prog w) A E s (countRun' lo bM) Q st:=by
 rw[u0]
 refine wpS_bind (xk hL hn (Jc 1) h1 hB (fun i j hl fg hj=>by rw[show i=j by first|lia|omega];exact Yz _) fun n hn1 rG hsn hor =>?_)
 dsimp only
 by_cases zR:n=bM
 ·rw[if_pos (by simpa using zR)]
  exact wpS_pure (h n st hB hn1 rG hsn)
 ·rw[if_neg (by simpa using zR)]
  have cF:ky key (arrOf st) (lo+n)<ky key (arrOf st) (lo+n-1):=hor.resolve_left zR
  by_cases hgt:n>1
  ·rw[if_pos hgt]
   refine wpS_bind (hB.lt hL (by first|lia|omega) (by first|lia|omega) ?_)
   by_cases hrose:ky key (arrOf st) lo<ky key (arrOf st) (lo+n-1)
   ·simp -iota only [hrose,decide_true,if_true]
    exact wpS_pure (h n st hB hn1 rG hsn)
   ·simp -iota only [hrose,decide_false,Ug,if_false]
    have hsz:lo+n<=(arrOf st).size:=by rw[hB.size]; (first|lia|omega)
    have gY:∀k,lo<=k->k<lo+n->ky key (arrOf st) k=ky key (arrOf st) (lo+n-1):=by
     intro k hl hk
     have a1:=hsn lo k (by first|lia|omega) hl hk
     have a2:=hsn k (lo+n-1) hl (by first|lia|omega) (by first|lia|omega)
     (first|lia|omega)
    refine wpS_bind (wpS_reverse (qW hL hn (by first|lia|omega) (hB.rev (by first|lia|omega) (by first|lia|omega)) ?_ h))
    intro i j hl fg hj
    show ky key (mirror (arrOf st) _ _ _) j<=ky key (mirror (arrOf st) _ _ _) i
    rw[cn hsz gY,cn hsz gY]
    by_cases hjn:j<lo+n
    ·rw[gY i hl (by first|lia|omega),gY j (by first|lia|omega) hjn];exact Yz _
    ·have wy:j=lo+n:=by (first|lia|omega)
     subst wy
     by_cases iD:i=lo+n
     ·subst iD;exact Yz _
     ·rw[gY i hl (by first|lia|omega)];exact Yt cF
  ·rw[if_neg hgt]
   have LP:n=1:=by (first|lia|omega)
   subst LP
   refine qW hL hn (by first|lia|omega) hB ?_ h
   intro i j hl fg hj
   by_cases iD:i=j
   ·subst iD;exact Yz _
   ·have EJ:i=lo:=by (first|lia|omega)
    have O7:j=lo+1:=by (first|lia|omega)
    subst EJ;subst O7
    exact Yt cF
theorem mL {xs:Array Keyed}{src d:Nat}(hs:src<xs.size)(hd:d<=src)(k:Nat):
  ky key (bubble xs src d) k=if k=src-d then ky key xs src else if src-d<k/\k<=src then ky key xs (k-1) else ky key xs k:=by
 have e:=getElem?_bubble hs d hd k
 by_cases h1:k=src-d
 ·rw[if_pos h1] at e ⊢;exact da e
 ·rw[if_neg h1] at e ⊢
  by_cases h2:src-d<k/\k<=src
  ·rw[if_pos h2] at e ⊢;exact da e
  ·rw[if_neg h2] at e ⊢;exact da e
theorem C2 {hJ st:SortSt}{lo n ok:Nat}{Q:Bool->SortSt->Prop}(hL:iG prog w A E s a₀ key kd)(hn:lo+n<=a₀.size)(aV:ok<=n)(hB:Af a₀ kd lo hJ st)(hs:Sg key (arrOf st) lo (lo+ok))
  (h:∀aD,Af a₀ kd lo hJ aD->Sg key (arrOf aD) lo (lo+n)->Q true aD):wpS (model prog w) A E s (binarySort' lo n ok) Q st:=by
 rw[binarySort'_eq]
 refine wpS_bind (wpS_mono (wpS_forRange (I:=fun k c aD=>c=(none,())/\Af a₀ kd lo hJ aD/\Sg key (arrOf aD) lo (lo+min k n))
  (Q:=fun c aD=>c=(none,())/\Af a₀ kd lo hJ aD/\Sg key (arrOf aD) lo (lo+n)) ?step ?fin ?init) ?post)
 case post=>
  intro c aD hz_
  refine ae.el hz_ _ ?_
  clear hz_
  rintro rfl fv hs'
  exact wpS_pure (h aD fv hs')
 case init=>
  refine⟨rfl,hB,fun i j hl fg hj =>?_⟩
  by_cases h1:ok=0
  ·subst h1
   have Mm:j<lo+1:=Ju hj (U9 (Nat.min_le_left _ _) _)
   have:i=j:=Nat.le_antisymm fg (Jp (Wn Mm) hl)
   subst this;exact Yz _
  ·exact hs i j hl fg (Ju hj (U9 (Jp (Nat.min_le_left _ _) (Yj (Nat.max_eq_left (Nat.pos_of_ne_zero h1)))) _))
 case fin=>
  intro c aD hz_
  refine ae.el hz_ _ ?_
  clear hz_
  rintro hc fv hs'
  refine⟨hc,fv,?_⟩
  rwa[Nat.min_eq_right (Nat.le_max_right _ _)] at hs'
 case step=>
  intro k c aD hak hkn hz_
  refine ae.el hz_ _ ?_
  clear hz_
  rintro rfl fv hs'
  rw[Ya (U6 hkn)] at hs'
  have hk:lo+k<a₀.size:=by (first|lia|omega)
  refine wpS_bind (wpS_mono (wpS_forRange (I:=fun x c st''=>st''=aD/\∃l r,c=(none,l,r)/\l<=r/\r<=k/\r+x<=k+l /\
    (∀i,i<l->ky key (arrOf aD) (lo+i)<=ky key (arrOf aD) (lo+k))/\(∀i,r<=i->i<k->ky key (arrOf aD) (lo+k)<ky key (arrOf aD) (lo+i)))
   (Q:=fun c st''=>st''=aD/\∃l r,c=(none,l,r)/\l<=k /\
    (∀i,i<l->ky key (arrOf aD) (lo+i)<=ky key (arrOf aD) (lo+k))/\(∀i,l<=i->i<k->ky key (arrOf aD) (lo+k)<ky key (arrOf aD) (lo+i))) ?istep ?ifin ?iinit) ?ipost)
  case iinit=>exact⟨rfl,0,k,rfl,by first|lia|omega,by first|lia|omega,by first|lia|omega,fun i hi=>by first|lia|omega,fun i h1 h2=>by first|lia|omega⟩
  case ifin=>
   intro c st'' hz_
   refine ae.el hz_ _ ?_
   clear hz_
   rintro rfl l r rfl hlr hrk hm yl hhi
   have:l=r:=by (first|lia|omega)
   subst this
   exact⟨rfl,l,l,rfl,hrk,yl,hhi⟩
  case istep=>
   intro x c st'' _ hxk hz_
   refine ae.el hz_ _ ?_
   clear hz_
   rintro rfl l r rfl hlr hrk hm yl hhi
   dsimp only
   by_cases hge:l>=r
   ·rw[if_pos hge]
    have:l=r:=by (first|lia|omega)
    subst this
    exact wpS_pure ⟨rfl,l,l,rfl,hrk,yl,hhi⟩
   ·rw[if_neg hge]
    have y1:l<=(l+r) / 2:=by (first|lia|omega)
    have y2:(l+r) / 2<r:=by (first|lia|omega)
    generalize (l+r) / 2=m at y1 y2 ⊢
    refine wpS_bind (fv.lt hL hk (by first|lia|omega) ?_)
    by_cases hless:ky key (arrOf st'') (lo+k)<ky key (arrOf st'') (lo+m)
    ·simp -iota only [hless,decide_true,if_true]
     refine wpS_pure ⟨rfl,l,m,rfl,y1,by first|lia|omega,by first|lia|omega,yl,fun i h1 h2 =>?_⟩
     exact Int.lt_of_lt_of_le hless (hs' _ _ (U0 _ _) (by first|lia|omega) (by first|lia|omega))
    ·simp -iota only [hless,decide_false,Ug,if_false]
     refine wpS_pure ⟨rfl,m+1,r,rfl,y2,hrk,by first|lia|omega,fun i h1 =>?_,hhi⟩
     exact Int.le_trans (hs' (lo+i) (lo+m) (U0 _ _) (by first|lia|omega) (by first|lia|omega)) (Int.not_lt.mp hless)
  case ipost=>
   intro c st'' hz_
   refine ae.el hz_ _ ?_
   clear hz_
   rintro rfl l r rfl hlk yl hhi
   show wpS _ _ _ _ (do moveDown' (lo+k) (lo+l);pure (ForInStep.yield (none,()))) _ _
   rw[moveDown'_eq]
   have Ft:lo+k<(arrOf st'').size:=by rw[fv.size];exact hk
   refine wpS_bind (wpS_modify (wpS_pure ⟨rfl,fv.set (bubble_perm _ _ _) (fun i hi =>?_),?_⟩))
   ·rw[getElem?_bubble Ft _ (Nat.sub_le _ _),Nat.sub_sub_self (U9 hlk lo),if_neg (by first|lia|omega),if_neg (by first|lia|omega)]
   rw[Ya hkn]
   have EK:∀i,lo<=i->i<lo+l->ky key (arrOf st'') i<=ky key (arrOf st'') (lo+k):=fun i h1 h2=>by
    have:=yl (i-lo) (Nat.sub_lt_left_of_lt_add h1 h2);rwa[Y9 h1] at this
   have EB:∀i,lo+l<=i->i<lo+k->ky key (arrOf st'') (lo+k)<ky key (arrOf st'') i:=fun i h1 h2=>by
    have h0:=Jp (U0 lo l) h1;have:=hhi (i-lo) (Nat.le_sub_of_add_le' h1) (Nat.sub_lt_left_of_lt_add h0 h2);rwa[Y9 h0] at this
   intro i j hl fg hj
   show ky key (bubble (arrOf st'') (lo+k) (lo+k-(lo+l))) i<=ky key (bubble (arrOf st'') (lo+k) (lo+k-(lo+l))) j
   have hj:j<lo+k+1:=hj
   have hy:lo+l<=lo+k:=U9 hlk _
   have h0:lo<=lo+l:=U0 _ _
   rw[mL Ft (Nat.sub_le _ _),mL Ft (Nat.sub_le _ _),Nat.sub_sub_self hy]
   clear yl hhi h hB hs hn aV hak hkn hk hlk hL
   generalize lo+l=y at h0 hy EK EB ⊢
   generalize lo+k=z at hy EK EB hs' hj Ft ⊢
   repeat' split
   all_goals first
    | (exfalso; (first|lia|omega))
    | exact Yz _
    | exact EK _ (by first|lia|omega) (by first|lia|omega)
    | exact Yt (EB _ (by first|lia|omega) (by first|lia|omega))
    | exact hs' _ _ (by first|lia|omega) (Nat.sub_le_sub_right fg 1) (by first|lia|omega)
    | exact hs' _ _ (by first|lia|omega) (by first|lia|omega) (by first|lia|omega)
end
noncomputable def tW:Bool->Keyed->Array Keyed->Nat->Nat->Nat->StateT SortSt Sem (Option Nat):=sortPriv% PySem.Builtin.gallop
noncomputable def oY (left:Bool)(k:Keyed)(arr:Array Keyed)(base i:Nat):StateT SortSt Sem (Option Bool):=do
 let x <-elem' arr (base+i)
 if left then lt' x k else return (<-lt' k x).map (!·)
section
variable {prog:Program}{w:World}{A:Around}{E:Value->Shared->Prop}{s:Shared}{a₀:Array Keyed}{key:Keyed->Int}{kd:SortKind}
noncomputable def hZ (left:Bool)(k x:Int):Bool:=if left then decide (x<k) else !decide (k<x)
theorem nW {left:Bool}{k:Keyed}{arr:Array Keyed}{base i:Nat}{st:SortSt}{Q:Option Bool->SortSt->Prop}(hL:iG prog w A E s a₀ key kd)(fZ:kindOf st=kd)(ha:∀p∈arr.toList,p∈a₀.toList)(hk:k∈a₀.toList)
  (hi:base+i<arr.size) (h:Q (some (hZ left (key k) (ky key arr (base+i)))) st):wpS (model prog w) A E s (oY left k arr base i) Q st:=by
 unfold oY
 refine wpS_bind (gR hi fun p e =>?_)
 have hp:=ha p (Wj.mpr (Array.mem_of_getElem? e))
 rw[dc e] at h
 cases left with
 | true=>exact hL _ _ _ _ hp hk fZ h
 | false=>
  refine wpS_bind (m:=lt' k p) (hL _ _ _ _ hk hp fZ ?_)
  exact wpS_pure h
theorem yg {left:Bool}{k x y:Int}(h:x<=y)(hy:hZ left k y=true):hZ left k x=true:=by
 unfold hZ at *
 cases left
 ·simp at hy ⊢; (first|lia|omega)
 ·simp at hy ⊢; (first|lia|omega)
noncomputable def KC (left:Bool)(k:Int)(key:Keyed->Int)(arr:Array Keyed)(base n r:Nat):Prop:=
 r<=n/\(∀i,i<r->hZ left k (ky key arr (base+i))=true)/\∀i,r<=i->i<n->hZ left k (ky key arr (base+i))=false
theorem tE {α γ:Type}{m:StateT SortSt Sem α}{Q: α->SortSt->Prop}{st:SortSt}(V: γ->StateT SortSt Sem α)(G: γ->Prop)(hV:∀z,G z->wpS (model prog w) A E s (V z) Q st)
  (hm:(∀z,G z->wpS (model prog w) A E s (V z) Q st)->wpS (model prog w) A E s m Q st):wpS (model prog w) A E s m Q st:=hm hV
section
variable {α:Type}{c:Prop}[Decidable c]{m n:StateT SortSt Sem α}{Q: α->SortSt->Prop}{st:SortSt}
theorem MF (h:c)(hm:wpS (model prog w) A E s m Q st):wpS (model prog w) A E s (if c then m else n) Q st:=by rw[if_pos h];exact hm
theorem IZ (h:¬c)(hm:wpS (model prog w) A E s n Q st):wpS (model prog w) A E s (if c then m else n) Q st:=by rw[if_neg h];exact hm
theorem l6 (h1:c->wpS (model prog w) A E s m Q st)(h2:¬c->wpS (model prog w) A E s n Q st):wpS (model prog w) A E s (if c then m else n) Q st:=by
 split
 ·exact h1 ‹_›
 ·exact h2 ‹_›
theorem oo {x y:Nat}(h1:x=y->wpS (model prog w) A E s m Q st)(h2:¬x=y->wpS (model prog w) A E s n Q st):wpS (model prog w) A E s (if (x==y)=true then m else n) Q st:=
 l6 (fun z=>h1 (by simpa using z)) fun z=>h2 (by simpa using z)
end
theorem jH {left:Bool}{k:Keyed}{arr:Array Keyed}{base n hint:Nat}{st:SortSt}{Q:Option Nat->SortSt->Prop}(hL:iG prog w A E s a₀ key kd)(fZ:kindOf st=kd)(ha:∀p∈arr.toList,p∈a₀.toList)(hk:k∈a₀.toList)
  (hs:Sg key arr base (base+n)) (hn:base+n<=arr.size) (hh:hint<n) (h:∀r,KC left (key k) key arr base n r->Q (some r) st):wpS (model prog w) A E s (tW left k arr base n hint) Q st:=by
 have up:∀i j,i<=j->j<n->hZ left (key k) (ky key arr (base+j))=true->hZ left (key k) (ky key arr (base+i))=true:=fun i j fg hj=>yg (hs _ _ (by first|lia|omega) (by first|lia|omega) (by first|lia|omega))
 have dn:∀i j,i<=j->j<n->hZ left (key k) (ky key arr (base+i))=false->hZ left (key k) (ky key arr (base+j))=false:=fun i j fg hj e=>by
  cases e2:hZ left (key k) (ky key arr (base+j)) with
  | false=>rfl
  | true=>rw[up i j fg hj e2] at e;cases e
 refine wpS_bind (m:=oY left k arr base hint) (nW hL fZ ha hk (by first|lia|omega) ?_)
 dsimp -zeta only
 extract_lets jp mo1 mo2
 refine tE (fun z:Nat×Nat×Nat×Nat=>jp () z.1 z.2.1 z.2.2.1 z.2.2.2) (fun z=>(z.2.2.1<=z.2.2.2/\z.2.2.2<=n)/\(∀i,i<z.2.2.1->hZ left (key k) (ky key arr (base+i))=true)/\(∀i,z.2.2.2<=i->i<n->hZ left (key k) (ky key arr (base+i))=false)) (fun z hz =>?_) fun H =>?_
 ·obtain⟨z1,z2,lo0,EJ⟩:=z
  refine wpS_bind (wpS_mono (wpS_forRange (I:=fun x c aD=>aD=st/\∃lo hi,c=(none,lo,hi)/\lo<=hi/\hi<=n/\hi+x<=n+lo/\(∀i,i<lo->hZ left (key k) (ky key arr (base+i))=true)/\(∀i,hi<=i->i<n->hZ left (key k) (ky key arr (base+i))=false))
   (Q:=fun c aD=>aD=st/\∃r,c=(none,r,r)/\KC left (key k) key arr base n r) ?stepA ?finA ⟨rfl,lo0,EJ,rfl,hz.1.1,hz.1.2,Jp hz.1.2 (U0 _ _),hz.2.1,hz.2.2⟩) ?postA)
  case postA=>
   intro c aD hz_
   refine ae.el hz_ _ ?_
   clear hz_
   rintro rfl r rfl g
   exact wpS_pure (h r g)
  case finA=>
   intro c aD hz_
   refine ae.el hz_ _ ?_
   clear hz_
   rintro rfl lo hi rfl b1 b2 b3 b4 b5
   have:lo=hi:=by (first|lia|omega)
   subst this
   exact⟨rfl,lo,rfl,b2,b4,b5⟩
  case stepA=>
   intro x c aD _ hx hz_
   refine ae.el hz_ _ ?_
   clear hz_
   rintro rfl lo hi rfl b1 b2 b3 b4 b5
   dsimp only
   refine l6 (fun hge =>?_) fun hge =>?_
   ·have:lo=hi:=by (first|lia|omega)
    subst this
    exact wpS_pure ⟨rfl,lo,rfl,b2,b4,b5⟩
   ·have y1:lo<=lo+(hi-lo) / 2:=U0 _ _
    have y2:lo+(hi-lo) / 2<hi:=by (first|lia|omega)
    generalize lo+(hi-lo) / 2=m at y1 y2 ⊢
    refine wpS_bind (nW hL fZ ha hk (by first|lia|omega) ?_)
    cases e:hZ left (key k) (ky key arr (base+m)) with
    | true=>
     dsimp only
     refine MF rfl ?_
     exact wpS_pure ⟨rfl,_,_,rfl,y2,b2,by first|lia|omega,fun i iD=>up i _ (Wn iD) (by first|lia|omega) e,b5⟩
    | false=>
     dsimp only
     refine IZ Jo ?_
     exact wpS_pure ⟨rfl,_,_,rfl,y1,by first|lia|omega,by first|lia|omega,b4,fun i i1 i2=>dn _ i i1 i2 e⟩
 have eN:hint+(n-hint)=n:=Y9 (U6 hh)
 refine l6 (fun e =>?_) fun e =>?_
 ·refine wpS_bind (wpS_mono (wpS_forRange (I:=fun x c aD=>aD=st/\∃last ofs,c=(none,last,ofs)/\last<ofs/\x+1<=ofs/\last<n-hint/\hZ left (key k) (ky key arr (base+(hint+last)))=true)
   (Q:=fun c aD=>aD=st/\∃last ofs,c=(none,last,ofs)/\last<ofs/\last<n-hint/\hZ left (key k) (ky key arr (base+(hint+last)))=true/\(n-hint<=ofs∨hZ left (key k) (ky key arr (base+(hint+ofs)))=false)) ?step ?fin ⟨rfl,0,1,rfl,by first|lia|omega,by first|lia|omega,by first|lia|omega,e⟩) ?post)
  case post=>
   intro c dy hz_
   refine ae.el hz_ _ ?_
   clear hz_
   rintro rfl last ofs rfl c1 c2 c3 c4
   refine H (last,ofs,hint+last+1,hint+min ofs (n-hint)) ⟨⟨U9 (Nat.le_min.mpr ⟨c1,c2⟩) hint,Jp (U9 (Nat.min_le_right _ _) _) (Yj eN)⟩,fun i hi=>up i (hint+last) (Wn hi) (Nat.lt_of_lt_of_eq (Nat.add_lt_add_left c2 hint) eN) c3,fun i i1 i2 =>?_⟩
   have i1:hint+min ofs (n-hint)<=i:=i1
   rcases Nat.le_total (n-hint) ofs with t|t
   ·rw[Nat.min_eq_right t,eN] at i1
    exact absurd i2 (Nat.not_lt.mpr i1)
   ·rw[Ya t] at i1
    rcases c4 with c4|c4
    ·rw[Nat.le_antisymm t c4,eN] at i1
     exact absurd i2 (Nat.not_lt.mpr i1)
    ·exact dn (hint+ofs) i i1 i2 c4
  case fin=>
   intro c aD hz_
   refine ae.el hz_ _ ?_
   clear hz_
   rintro rfl last ofs rfl c1 c2 c3 c4
   exact⟨rfl,last,ofs,rfl,c1,c3,c4,.inl (by first|lia|omega)⟩
  case step=>
   intro x c aD _ hx hz_
   refine ae.el hz_ _ ?_
   clear hz_
   rintro rfl last ofs rfl c1 c2 c3 c4
   dsimp only[mo1]
   refine l6 (fun hge=>wpS_pure ⟨rfl,last,ofs,rfl,c1,c3,c4,.inl hge⟩) fun hge =>?_
   refine wpS_bind (nW hL fZ ha hk (by first|lia|omega) ?_)
   cases e2:hZ left (key k) (ky key arr (base+(hint+ofs))) with
   | true=>
    exact wpS_pure ⟨rfl,ofs,2*ofs+1,rfl,by first|lia|omega,by first|lia|omega,by first|lia|omega,e2⟩
   | false=>
    exact wpS_pure ⟨rfl,last,ofs,rfl,c1,c3,c4,.inr e2⟩
 ·have e:=Bool.eq_false_iff.mpr e
  refine wpS_bind (wpS_mono (wpS_forRange (I:=fun x c aD=>aD=st/\∃last ofs,c=(none,last,ofs)/\last<ofs/\x+1<=ofs/\last<hint+1/\hZ left (key k) (ky key arr (base+(hint-last)))=false)
   (Q:=fun c aD=>aD=st/\∃last ofs,c=(none,last,ofs)/\last<ofs/\last<hint+1/\hZ left (key k) (ky key arr (base+(hint-last)))=false/\(hint+1<=ofs∨(ofs<=hint/\hZ left (key k) (ky key arr (base+(hint-ofs)))=true))) ?step ?fin ⟨rfl,0,1,rfl,by first|lia|omega,by first|lia|omega,by first|lia|omega,e⟩) ?post)
  case post=>
   intro c dy hz_
   refine ae.el hz_ _ ?_
   clear hz_
   rintro rfl last ofs rfl c1 c2 c3 c4
   refine H (last,ofs,hint+1-min ofs (hint+1),hint-last) ⟨⟨?_,Jp (Nat.sub_le _ _) (U6 hh)⟩,fun i hi =>?_,fun i i1 i2=>dn (hint-last) i i1 i2 c3⟩
   ·show hint+1-min ofs (hint+1)<=hint-last
    rw[<-Nat.succ_sub_succ hint last]
    exact Nat.sub_le_sub_left (Nat.le_min.mpr ⟨c1,c2⟩) _
   have hi:i<hint+1-min ofs (hint+1):=hi
   rcases c4 with c4|⟨c4,c5⟩
   ·rw[Nat.min_eq_right c4,Nat.sub_self] at hi
    exact absurd hi (Nat.not_lt_zero _)
   ·rw[Ya (Nat.le_succ_of_le c4),Nat.succ_sub c4] at hi
    exact up i (hint-ofs) (Wn hi) (Jx (Nat.sub_le _ _) hh) c5
  case fin=>
   intro c aD hz_
   refine ae.el hz_ _ ?_
   clear hz_
   rintro rfl last ofs rfl c1 c2 c3 c4
   exact⟨rfl,last,ofs,rfl,c1,c3,c4,.inl (by first|lia|omega)⟩
  case step=>
   intro x c aD _ hx hz_
   refine ae.el hz_ _ ?_
   clear hz_
   rintro rfl last ofs rfl c1 c2 c3 c4
   dsimp only[mo2]
   refine l6 (fun hge=>wpS_pure ⟨rfl,last,ofs,rfl,c1,c3,c4,.inl hge⟩) fun hge =>?_
   refine wpS_bind (nW hL fZ ha hk (by first|lia|omega) ?_)
   cases e2:hZ left (key k) (ky key arr (base+(hint-ofs))) with
   | true=>
    exact wpS_pure ⟨rfl,last,ofs,rfl,c1,c3,c4,.inr ⟨by first|lia|omega,e2⟩⟩
   | false=>
    exact wpS_pure ⟨rfl,ofs,2*ofs+1,rfl,by first|lia|omega,by first|lia|omega,by first|lia|omega,e2⟩
end
noncomputable def CA:Nat->StateT SortSt Sem Unit:=sortPriv% PySem.Builtin.setMinGallop
noncomputable def CI (st:SortSt)(g:Nat):SortSt:=SortSt.mk' (kindOf st) (arrOf st) (pendingOf st) g (failedOf st)
noncomputable def xC:Array Keyed->Array Keyed->StateT SortSt Sem (Array Keyed):=sortPriv% PySem.Builtin.mergeLo
section
variable {prog:Program}{w:World}{A:Around}{E:Value->Shared->Prop}{s:Shared}{a₀:Array Keyed}{key:Keyed->Int}{kd:SortKind}
noncomputable def Sl (key:Keyed->Int)(l:List Keyed):Prop:=l.Pairwise fun x y=>key x<=key y
structure Kp (st aD:SortSt):Prop where
 kind:kindOf aD=kindOf st
 arr:arrOf aD=arrOf st
 pend:pendingOf aD=pendingOf st
 failed:failedOf aD=failedOf st
theorem Kp.refl (st:SortSt):Kp st st:=⟨rfl,rfl,rfl,rfl⟩
theorem Kp.O8 {st aD:SortSt}(h:Kp st aD)(g:Nat):Kp st (CI aD g):=⟨h.kind,h.arr,h.pend,h.failed⟩
theorem ix {xs:Array Keyed}{i:Nat}{x:Keyed}(h:xs.toList[i]? = some x):xs[i]? = some x:=by rw[<-h,Uo]
theorem gc {xs:Array Keyed}{i:Nat}{x:Keyed}(h:x∈xs.toList.drop i):∃j,i<=j/\j<xs.size/\ky key xs j=key x:=by
 obtain⟨j,hj⟩:=U8.mp h
 rw[Wg] at hj
 have hl:=(Js.mp hj).1
 rw[Jv] at hl
 exact⟨i+j,by first|lia|omega,hl,dc (ix hj)⟩
theorem gr {xs:Array Keyed}{i:Nat}{x:Keyed}(h:x∈xs.toList.take i):∃j,j<i/\j<xs.size/\ky key xs j=key x:=by
 obtain⟨j,hj⟩:=U8.mp h
 have hl:=(Js.mp hj).1
 rw[Jw,Jv] at hl
 rw[List.getElem?_take_of_lt (by first|lia|omega)] at hj
 exact⟨j,by first|lia|omega,by first|lia|omega,dc (ix hj)⟩
theorem oX {xs:Array Keyed}{i k:Nat}{x:Keyed}(h:x∈(xs.toList.drop i).take k):∃j,i<=j/\j<i+k/\j<xs.size/\ky key xs j=key x:=by
 obtain⟨j,hj⟩:=U8.mp h
 have hl:=(Js.mp hj).1
 rw[Jw,Ud,Jv] at hl
 rw[List.getElem?_take_of_lt (by first|lia|omega),Wg] at hj
 exact⟨i+j,by first|lia|omega,by first|lia|omega,by first|lia|omega,dc (ix hj)⟩
theorem Dw {xs:Array Keyed}{i:Nat}{p:Keyed}(h:xs[i]? = some p):(xs.toList.drop i).take 1=[p]:=by
 rw[<-Uo] at h
 obtain⟨hl,e⟩:=Js.mp h
 rw[Y0 hl,e];rfl
theorem hW {xs:Array Keyed}(h:Sg key xs 0 xs.size):Sl key xs.toList:=by
 refine Ur.mpr fun i j hi hj fg =>?_
 rw[Jv] at hi hj
 have:=h i j (by first|lia|omega) (by first|lia|omega) hj
 rwa[dc (getElem?_pos xs i hi),dc (getElem?_pos xs j hj)] at this
structure Mg (key:Keyed->Int)(a b:Array Keyed)(out:List Keyed)(ia ib:Nat):Prop where
 ha:ia<=a.size
 hb:ib<=b.size
 sa:Sg key a 0 a.size
 sb:Sg key b 0 b.size
 perm:(out++(a.toList.drop ia++b.toList.drop ib)).Perm (a.toList++b.toList)
 so:Sl key out
 la:∀x∈out,∀y∈a.toList.drop ia,key x<=key y
 lb:∀x∈out,∀y∈b.toList.drop ib,key x<=key y
theorem Mg.swap {a b:Array Keyed}{out:List Keyed}{ia ib:Nat}(h:Mg key a b out ia ib):Mg key b a out ib ia:=
 ⟨h.hb,h.ha,h.sb,h.sa,((Yr).append_left out).trans (h.perm.trans Yr),h.so,h.lb,h.la⟩
theorem Mg.tA {a b:Array Keyed}{out:List Keyed}{ia ib k:Nat}(h:Mg key a b out ia ib)(hk:ia+k<=a.size)(q:∀j,ia<=j->j<ia+k->ky key a j<=ky key b ib):Mg key a b (out++(a.toList.drop ia).take k) (ia+k) ib:=by
 have e:a.toList.drop ia=(a.toList.drop ia).take k++a.toList.drop (ia+k):=by
  rw[<-List.drop_drop,Ys]
 have sd:Sl key (a.toList.drop ia):=(hW h.sa).sublist (Wo _ _)
 rw[e] at sd
 obtain⟨s1,s2,s3⟩:=Ue.mp sd
 refine⟨hk,h.hb,h.sa,h.sb,?_,?_,?_,?_⟩
 ·have p:=h.perm
  rw[e] at p
  rw[J9] at p ⊢
  exact p
 ·refine Ue.mpr ⟨h.so,s1,fun x hx y hy=>h.la x hx y (Wq hy)⟩
 ·intro x hx y hy
  rcases Jq.mp hx with hx|hx
  ·exact h.la x hx y (by rw[e];exact Jr _ hy)
  ·exact s3 x hx y hy
 ·intro x hx y hy
  rcases Jq.mp hx with hx|hx
  ·exact h.lb x hx y hy
  ·obtain⟨j,j1,j2,j3,e1⟩:=oX (key:=key) hx
   obtain⟨i,i1,i2,e2⟩:=gc (key:=key) hy
   have:=q j j1 j2
   have:=h.sb ib i (by first|lia|omega) i1 i2
   (first|lia|omega)
theorem Mg.tB {a b:Array Keyed}{out:List Keyed}{ia ib k:Nat}(h:Mg key a b out ia ib)(hk:ib+k<=b.size)(q:∀j,ib<=j->j<ib+k->ky key b j<=ky key a ia):Mg key a b (out++(b.toList.drop ib).take k) ia (ib+k):=
 (h.swap.tA hk q).swap
theorem Mg.nD {a b out:Array Keyed}{ia ib:Nat}{p:Keyed}(h:Mg key a b out.toList ia ib)(e:a[ia]? = some p)(hk:ia<a.size)(q:ky key a ia<=ky key b ib):Mg key a b (out.push p).toList (ia+1) ib:=by
 rw[Yk,<-Dw e]
 exact h.tA hk fun j j1 j2=>by rw[show j=ia by first|lia|omega];exact q
theorem Mg.mJ {a b out:Array Keyed}{ia ib:Nat}{p:Keyed}(h:Mg key a b out.toList ia ib)(e:b[ib]? = some p)(hk:ib<b.size)(q:ky key b ib<=ky key a ia):Mg key a b (out.push p).toList ia (ib+1):=by
 rw[Yk,<-Dw e]
 exact h.tB hk fun j j1 j2=>by rw[show j=ib by first|lia|omega];exact q
theorem ext_toList {xs:Array Keyed}{i k:Nat}(h:i+k<=xs.size):(xs.extract i (i+k)).toList=(xs.toList.drop i).take k:=by
 rw[Array.toList_extract,List.extract_eq_take_drop]
 congr 1; (first|lia|omega)
theorem ke {xs:Array Keyed}{i:Nat}:(xs.extract i xs.size).toList=xs.toList.drop i:=by
 rw[Array.toList_extract,List.extract_eq_take_drop]
 refine Uw ?_
 rw[Ud,Jv]; (first|lia|omega)
theorem Mg.Kl {a b out:Array Keyed}{ia ib k:Nat}(h:Mg key a b out.toList ia ib)(hk:ia+k<=a.size)(q:∀j,ia<=j->j<ia+k->ky key a j<=ky key b ib):Mg key a b (out++a.extract ia (ia+k)).toList (ia+k) ib:=by
 rw[U1,ext_toList hk]
 exact h.tA hk q
theorem Mg.MO {a b out:Array Keyed}{ia ib k:Nat}(h:Mg key a b out.toList ia ib)(hk:ib+k<=b.size)(q:∀j,ib<=j->j<ib+k->ky key b j<=ky key a ia):Mg key a b (out++b.extract ib (ib+k)).toList ia (ib+k):=by
 rw[U1,ext_toList hk]
 exact h.tB hk q
noncomputable def Good (key:Keyed->Int)(a b res:Array Keyed):Prop:=res.toList.Perm (a.toList++b.toList)/\Sl key res.toList
theorem Mg.done {a b out:Array Keyed}{ia ib:Nat}(h:Mg key a b out.toList ia ib)(q:ia=a.size∨ib=b.size):Good key a b (out++a.extract ia a.size++b.extract ib b.size):=by
 unfold Good
 rw[U1,U1,ke,ke,J9]
 refine⟨h.perm,Ue.mpr ⟨h.so,Ue.mpr ⟨(hW h.sa).sublist (Wo _ _),(hW h.sb).sublist (Wo _ _),fun x hx y hy =>?_⟩,fun x hx y hy =>?_⟩⟩
 ·obtain⟨j,j1,j2,_⟩:=gc (key:=key) hx
  obtain⟨i,i1,i2,_⟩:=gc (key:=key) hy
  (first|lia|omega)
 ·rcases Jq.mp hy with hy|hy
  ·exact h.la x hx y hy
  ·exact h.lb x hx y hy
theorem Mg.last {a b out:Array Keyed}{ia ib:Nat}(h:Mg key a b out.toList ia ib)(e:ia+1=a.size)(q:∀j,j<b.size->ky key b j<=ky key a (a.size-1)):Good key a b (out++b.extract ib b.size++a.extract ia a.size):=by
 unfold Good
 rw[U1,U1,ke,ke,J9]
 refine⟨(Yr.append_left out.toList).trans h.perm,Ue.mpr ⟨h.so,Ue.mpr ⟨(hW h.sb).sublist (Wo _ _),(hW h.sa).sublist (Wo _ _),fun x hx y hy =>?_⟩,fun x hx y hy =>?_⟩⟩
 ·obtain⟨j,j1,j2,e1⟩:=gc (key:=key) hx
  obtain⟨i,i1,i2,e2⟩:=gc (key:=key) hy
  have:=q j j2
  rw[show a.size-1=i by first|lia|omega] at this
  (first|lia|omega)
 ·rcases Jq.mp hy with hy|hy
  ·exact h.lb x hx y hy
  ·exact h.la x hx y hy
theorem oj {k x:Int}(h:hZ false k x=true):x<=k:=by unfold hZ at h;simp at h;exact h
theorem oI {k x:Int}(h:hZ false k x=false):k<x:=by unfold hZ at h;simp at h;exact h
theorem j8 {k x:Int}(h:hZ true k x=true):x<k:=by unfold hZ at h;simp at h;exact h
theorem ko {k x:Int}(h:hZ true k x=false):k<=x:=by unfold hZ at h;simp at h;exact h
end
section
variable {prog:Program}{w:World}{A:Around}{E:Value->Shared->Prop}{s:Shared}{a₀:Array Keyed}{key:Keyed->Int}{kd:SortKind}
theorem dh {α:Type}{xs:Array Keyed}{i:Nat}{f:Keyed->StateT SortSt Sem α}{Q: α->SortSt->Prop}{st:SortSt}(hi:i<xs.size)(h:∀p,xs[i]? = some p->wpS (model prog w) A E s (f p) Q st):wpS (model prog w) A E s (elem' xs i >>= f) Q st:=wpS_bind (gR hi h)
theorem ltB {α:Type}{x y:Keyed}{f:Option Bool->StateT SortSt Sem α}{Q: α->SortSt->Prop}{st:SortSt}(hL:iG prog w A E s a₀ key kd)(hx:x∈a₀.toList)(hy:y∈a₀.toList)(hk:kindOf st=kd)(h:wpS (model prog w) A E s (f (some (decide (key x<key y)))) Q st):wpS (model prog w) A E s (lt' x y >>= f) Q st:=wpS_bind (hL _ _ _ _ hx hy hk h)
theorem j6 {α:Type}{left:Bool}{k:Keyed}{arr:Array Keyed}{base n hint:Nat}{st:SortSt}{f:Option Nat->StateT SortSt Sem α}{Q: α->SortSt->Prop}(hL:iG prog w A E s a₀ key kd)(fZ:kindOf st=kd)(ha:∀p∈arr.toList,p∈a₀.toList)(hk:k∈a₀.toList)
  (hs:Sg key arr base (base+n)) (hn:base+n<=arr.size) (hh:hint<n) (h:∀r,KC left (key k) key arr base n r->wpS (model prog w) A E s (f (some r)) Q st):wpS (model prog w) A E s (tW left k arr base n hint >>= f) Q st:=wpS_bind (jH hL fZ ha hk hs hn hh h)
theorem IH {α β γ δ ε ζ:Type}{P: α × β × γ × δ × ε × ζ->Prop}(h:∀a b c d e f,P (a,b,c,d,e,f)):∀x,P x:=fun⟨a,b,c,d,e,f⟩=>h a b c d e f
theorem HI {α β γ δ ε ζ η:Type}{P: α × β × γ × δ × ε × ζ × η->Prop}(h:∀a b c d e f g,P (a,b,c,d,e,f,g)):∀x,P x:=fun⟨a,b,c,d,e,f,g⟩=>h a b c d e f g
theorem uz {α:Type}{g:Nat}{f:Unit->StateT SortSt Sem α}{st cp:SortSt}{Q: α->SortSt->Prop}(kp:Kp st cp)(h:∀dG,Kp st dG->wpS (model prog w) A E s (f ()) Q dG):wpS (model prog w) A E s (CA g >>= f) Q cp:=by
 exact wpS_bind (m:=CA g) (wpS_modify (f:=fun s=>CI s g) (h _ (kp.O8 g)))
theorem mem_of {xs:Array Keyed}{i:Nat}{p:Keyed}(h:xs[i]? = some p):p∈xs.toList:=Wj.mpr (Array.mem_of_getElem? h)
theorem uk {xs:Array Keyed}{i j:Nat}(h:Sg key xs 0 j):Sg key xs i j:=fun p q _ h2 h3=>h p q (Us _) h2 h3
noncomputable abbrev Nk (key:Keyed->Int)(a b:Array Keyed)(st:SortSt)(x:Nat)(c:Option (Array Keyed)×Array Keyed×Nat×Nat×Nat)(aD:SortSt):Prop:=Kp st aD/\∃out ia ib g,c=(none,out,ia,ib,g)/\Mg key a b out.toList ia ib/\x+1<=ia+ib/\ia+1<a.size/\ib<b.size
noncomputable abbrev LN (key:Keyed->Int)(a b:Array Keyed)(st:SortSt)(c:Option (Array Keyed)×Array Keyed×Nat×Nat×Nat)(aD:SortSt):Prop:=Kp st aD/\∃r,c.1=some r/\Good key a b r
noncomputable abbrev LW (key:Keyed->Int)(a b:Array Keyed)(dy:SortSt)(x:Nat)(y:Nat)(c:Option (Array Keyed)×Array Keyed×Nat×Nat×Nat×Nat)(aD:SortSt):Prop:=aD=dy/\∃out ia ib p q,c=(none,out,ia,ib,p,q)/\Mg key a b out.toList ia ib/\x+1+y<=ia+ib/\ia+1<a.size/\ib<b.size
noncomputable abbrev Mj (key:Keyed->Int)(a b:Array Keyed)(dy:SortSt)(x:Nat)(c:Option (Array Keyed)×Array Keyed×Nat×Nat×Nat×Nat)(aD:SortSt):Prop:=aD=dy/\((∃r,c.1=some r/\Good key a b r)∨(c.1=none/\Mg key a b c.2.1.toList c.2.2.1 c.2.2.2.1/\x+2<=c.2.2.1+c.2.2.2.1/\c.2.2.1+1<a.size/\c.2.2.2.1<b.size))
noncomputable abbrev La (key:Keyed->Int)(a b:Array Keyed)(st:SortSt)(x:Nat)(y:Nat)(c:Option (Array Keyed)×Array Keyed×Nat×Nat×Nat×Nat×Nat)(aD:SortSt):Prop:=Kp st aD/\∃out ia ib g p q,c=(none,out,ia,ib,g,p,q)/\Mg key a b out.toList ia ib/\x+2<=ia+ib/\ia+1<a.size/\ib<b.size
noncomputable abbrev Ln (key:Keyed->Int)(a b:Array Keyed)(st:SortSt)(x:Nat)(c:Option (Array Keyed)×Array Keyed×Nat×Nat×Nat×Nat×Nat)(aD:SortSt):Prop:=Kp st aD/\((∃r,c.1=some r/\Good key a b r)∨(c.1=none/\Mg key a b c.2.1.toList c.2.2.1 c.2.2.2.1/\x+2<=c.2.2.1+c.2.2.2.1/\c.2.2.1+1<a.size/\c.2.2.2.1<b.size))
theorem GH {a b:Array Keyed}{st:SortSt}{Q:Array Keyed->SortSt->Prop}(hL:iG prog w A E s a₀ key kd)(hk:kindOf st=kd)(Aa:∀p∈a.toList,p∈a₀.toList)(zX:∀p∈b.toList,p∈a₀.toList)
  (Bq:Sg key a 0 a.size) (Ir:Sg key b 0 b.size) (FZ:1<=a.size) (sY:1<=b.size) (h0:ky key b 0<=ky key a 0) (hl:∀j,j<b.size->ky key b j<=ky key a (a.size-1))
  (h:∀res aD,Kp st aD->Good key a b res->Q res aD):wpS (model prog w) A E s (xC a b) Q st:=by
 refine wpS_bind (m:=liftM (rule "list.sort.merge-lo")) (wpS_lift (wpAny_rule ⟨rfl,?_⟩))
 refine dh sY fun p e =>?_
 have mz:Mg key a b (#[]:Array Keyed).toList 0 0:=⟨Us _,Us _,Bq,Ir,by simp,.nil,(fun _ h=>by cases h),(fun _ h=>by cases h)⟩
 have m0:Mg key a b (#[p]:Array Keyed).toList 0 1:=mz.mJ e sY h0
 refine oo (fun z1=>wpS_pure (h _ _ (Kp.refl _) (m0.done (.inr z1)))) fun z1 =>?_
 refine oo (fun z2=>wpS_pure (h _ _ (Kp.refl _) (m0.last z2 hl))) fun z2 =>?_
 refine wpS_bind (wpS_get ?_)
 refine wpS_bind (wpS_mono (wpS_forRange
  (I:=Nk key a b st)
  (Q:=LN key a b st) ?step ?fin ⟨Kp.refl _,_,_,_,_,rfl,m0,by first|lia|omega,by first|lia|omega,by first|lia|omega⟩) ?post)
 case post=>
  rintro⟨c1,c⟩ aD ⟨kp,r,e1,g⟩
  cases e1
  exact wpS_pure (h _ _ kp g)
 case fin=>
  intro c aD hz_
  refine ae.el hz_ _ ?_
  clear hz_
  rintro kp out ia ib g rfl mm h1 h2 h3
  rw[Nat.zero_max] at h1
  (first|lia|omega)
 case step=>
  intro x c dy _ hx hz_
  refine ae.el hz_ _ ?_
  clear hz_
  rintro kp1 out ia ib g rfl mm h1 h2 h3
  dsimp -zeta only
  refine wpS_bind (wpS_mono (wpS_forRange
   (I:=LW key a b dy x)
   (Q:=Mj key a b dy x) ?nC ?fin1 ⟨rfl,out,ia,ib,_,_,rfl,mm,by first|lia|omega,h2,h3⟩) ?post1)
  case fin1=>
   intro c aD hz_
   refine ae.el hz_ _ ?_
   clear hz_
   rintro rfl out ia ib p q rfl mm h1 h2 h3
   exact⟨rfl,.inr ⟨rfl,mm,by rw[Nat.zero_max] at h1;show x+2<=ia+ib; (first|lia|omega),h2,h3⟩⟩
  case nC=>
   intro y c aD _ hy hz_
   refine ae.el hz_ _ ?_
   clear hz_
   rintro rfl out ia ib p q rfl mm h1 h2 h3
   dsimp only
   refine dh h3 fun p1 e1=>dh (Wr h2) fun p2 e2 =>?_
   refine ltB hL (zX _ (mem_of e1)) (Aa _ (mem_of e2)) (kp1.kind.trans hk) ?_
   rw[<-dc (key:=key) e1,<-dc (key:=key) e2]
   by_cases cF:ky key b ib<ky key a ia
   ·rw[decide_eq_true cF]
    dsimp only
    refine MF rfl ?_
    refine dh h3 fun p3 e3 =>?_
    have m1:=mm.mJ e3 h3 (Yt cF)
    refine oo (fun z3=>wpS_pure ⟨rfl,.inl ⟨_,rfl,m1.done (.inr z3)⟩⟩) fun z3 =>?_
    refine l6 (fun z4=>wpS_pure ⟨rfl,.inr ⟨rfl,m1,by show x+2<=ia+(ib+1); (first|lia|omega),h2,Uv h3 z3⟩⟩) fun z4 =>?_
    exact wpS_pure ⟨rfl,_,_,_,_,_,rfl,m1,by first|lia|omega,h2,Uv h3 z3⟩
   ·rw[decide_eq_false cF]
    dsimp only
    refine IZ Jo ?_
    refine dh (Wr h2) fun p3 e3 =>?_
    have m1:=mm.nD e3 (by first|lia|omega) (Int.not_lt.mp cF)
    refine oo (fun z3=>wpS_pure ⟨rfl,.inl ⟨_,rfl,m1.last z3 hl⟩⟩) fun z3 =>?_
    refine l6 (fun z4=>wpS_pure ⟨rfl,.inr ⟨rfl,m1,by show x+2<=ia+1+ib; (first|lia|omega),Uv h2 z3,h3⟩⟩) fun z4 =>?_
    exact wpS_pure ⟨rfl,_,_,_,_,_,rfl,m1,by first|lia|omega,Uv h2 z3,h3⟩
  refine IH fun c1 out ia ib p q =>?_
  intro aW hc
  have es:aW=dy:=hc.1
  subst es
  refine Or.elim hc.2 (fun gg =>?_) fun gg =>?_
  ·refine ae.el gg _ ?_
   intro r e1 gd
   have e1:c1=some r:=e1
   subst e1
   exact wpS_pure ⟨kp1,r,rfl,gd⟩
  have e1:c1=none:=gg.1
  have mm:Mg key a b out.toList ia ib:=gg.2.1
  have h1:x+2<=ia+ib:=gg.2.2.1
  have h2:ia+1<a.size:=gg.2.2.2.1
  have h3:ib<b.size:=gg.2.2.2.2
  clear gg hc
  subst e1
  dsimp -zeta only
  refine wpS_bind (wpS_lift (wpAny_rule ⟨rfl,?_⟩))
  refine wpS_bind (wpS_mono (wpS_forRange
   (I:=La key a b st x)
   (Q:=Ln key a b st x) ?step2 ?fin2 ⟨kp1,out,ia,ib,_,_,_,rfl,mm,by first|lia|omega,h2,h3⟩) ?post2)
  case fin2=>
   intro c aD hz_
   refine ae.el hz_ _ ?_
   clear hz_
   rintro kp out ia ib g p q rfl mm h1 h2 h3
   exact⟨kp,.inr ⟨rfl,mm,h1,h2,h3⟩⟩
  case post2=>
   refine HI fun c1 out ia ib g p q =>?_
   intro cp hc
   have kp:Kp st cp:=hc.1
   refine Or.elim hc.2 (fun gg =>?_) fun gg =>?_
   ·refine ae.el gg _ ?_
    intro r e1 gd
    have e1:c1=some r:=e1
    subst e1
    exact wpS_pure ⟨kp,r,rfl,gd⟩
   have e1:c1=none:=gg.1
   have mm:Mg key a b out.toList ia ib:=gg.2.1
   have h1:x+2<=ia+ib:=gg.2.2.1
   have h2:ia+1<a.size:=gg.2.2.2.1
   have h3:ib<b.size:=gg.2.2.2.2
   clear gg hc
   subst e1
   dsimp only
   exact uz kp fun dG kk=>wpS_pure ⟨kk,_,_,_,_,rfl,mm,by first|lia|omega,h2,h3⟩
  case step2=>
   intro y c cp _ hy hz_
   refine ae.el hz_ _ ?_
   clear hz_
   rintro kp out ia ib g p q rfl mm h1 h2 h3
   dsimp -zeta only
   extract_lets s1 o1 s2 i1 s3 i2 s4 mg s5 ac bc ib1 jp mg1
   refine tE (fun z:Nat=>jp () z) (fun _=>True) (fun g' _ =>?_) fun H =>?_
   rotate_left
   ·exact l6 (fun _=>H _ trivial) fun _=>H _ trivial
   refine uz kp fun dG kk =>?_
   dsimp -zeta only [s1,o1,s2,i1,s3,i2,s4,mg,s5,ac,bc,ib1]
   have Hg:kindOf dG=kd:=kk.kind.trans hk
   have eA:ia+(a.size-ia)=a.size:=Y9 (U6 (Wr h2))
   refine dh h3 fun p1 e1 =>?_
   refine j6 hL Hg Aa (zX _ (mem_of e1)) (by rw[eA];exact uk Bq) (Yj eA) (by first|lia|omega) fun k1 g1 =>?_
   obtain⟨g11,g12,g13⟩:=g1
   rw[<-dc (key:=key) e1] at g12 g13
   dsimp -zeta only
   extract_lets ac2 jp2 o2 i3
   refine tE (fun z:Array Keyed×Nat=>jp2 () z.1 z.2) (fun z=>Mg key a b z.1.toList z.2 ib/\ia<=z.2/\z.2+1<a.size/\ky key b ib<=ky key a z.2) (fun z hz =>?_) fun H =>?_
   rotate_left
   ·refine l6 (fun ka =>?_) fun ka =>?_
    ·have Nd:k1>0:=ka
     have kA:ia+k1<=a.size:=Jp (U9 g11 ia) (Yj eA)
     have m1:=mm.Kl (k:=k1) kA (fun j j1 j2=>by have:=oj (g12 (j-ia) (Nat.sub_lt_left_of_lt_add j1 j2));rw[Y9 j1] at this;exact this)
     refine oo (fun z1=>wpS_pure ⟨kk,.inl ⟨_,rfl,m1.last z1 hl⟩⟩) fun z1 =>?_
     refine oo (fun z2=>wpS_pure ⟨kk,.inl ⟨_,rfl,m1.done (.inl z2)⟩⟩) fun z2 =>?_
     exact H (o2,i3) ⟨m1,U0 _ _,Uv (Uv kA z2) z1,Yt (oI (g13 k1 (Jc _) (by first|lia|omega)))⟩
    ·exact H (out,ia) ⟨mm,Jc _,h2,Yt (oI (g13 0 (by first|lia|omega) (by first|lia|omega)))⟩
   obtain⟨out2,ia2⟩:=z
   have m1:Mg key a b out2.toList ia2 ib:=hz.1
   have n1:ia<=ia2:=hz.2.1
   have n2:ia2+1<a.size:=hz.2.2.1
   have n3:ky key b ib<=ky key a ia2:=hz.2.2.2
   clear hz
   refine dh h3 fun p2 e2 =>?_
   have m2:=m1.mJ e2 h3 n3
   dsimp -zeta only [ac2]
   extract_lets o3
   refine oo (fun z3=>wpS_pure ⟨kk,.inl ⟨_,rfl,m2.done (.inr z3)⟩⟩) fun z3 =>?_
   have eB:ib+1+(b.size-(ib+1))=b.size:=Y9 h3
   have h4:ib+1<b.size:=Uv h3 z3
   refine dh (Wr n2) fun p3 e3 =>?_
   refine j6 hL Hg zX (Aa _ (mem_of e3)) (by rw[eB];exact uk Ir) (Yj eB) (Nat.sub_pos_of_lt h4) fun k2 g2 =>?_
   obtain⟨g21,g22,g23⟩:=g2
   rw[<-dc (key:=key) e3] at g22 g23
   dsimp -zeta only
   extract_lets bc2 jp3 o4 i4
   refine tE (fun z:Array Keyed×Nat=>jp3 () z.1 z.2) (fun z=>Mg key a b z.1.toList ia2 z.2/\ib<=z.2/\z.2<b.size/\ky key a ia2<=ky key b z.2) (fun z hz =>?_) fun H =>?_
   rotate_left
   ·refine l6 (fun kz =>?_) fun kz =>?_
    ·have kB:ib+1+k2<=b.size:=Jp (U9 g21 _) (Yj eB)
     have m3:=m2.MO (k:=k2) kB (fun j j1 j2=>by have:=j8 (g22 (j-(ib+1)) (Nat.sub_lt_left_of_lt_add j1 j2));rw[Y9 j1] at this;exact Yt this)
     refine oo (fun z4=>wpS_pure ⟨kk,.inl ⟨_,rfl,m3.done (.inr z4)⟩⟩) fun z4 =>?_
     exact H (o4,i4) ⟨m3,Jp (Yu _) (U0 _ _),Uv kB z4,ko (g23 k2 (Jc _) (by first|lia|omega))⟩
    ·exact H (o3,ib+1) ⟨m2,Yu _,h4,ko (g23 0 (by first|lia|omega) (Nat.sub_pos_of_lt h4))⟩
   obtain⟨out3,ib3⟩:=z
   have m3:Mg key a b out3.toList ia2 ib3:=hz.1
   have n4:ib<=ib3:=hz.2.1
   have n5:ib3<b.size:=hz.2.2.1
   have n6:ky key a ia2<=ky key b ib3:=hz.2.2.2
   clear hz
   refine dh (Wr n2) fun p4 e4 =>?_
   have m4:=m3.nD e4 (by first|lia|omega) n6
   dsimp only[bc2]
   refine oo (fun z5=>wpS_pure ⟨kk,.inl ⟨_,rfl,m4.last z5 hl⟩⟩) fun z5 =>?_
   refine l6 (fun _ =>?_) fun _ =>?_
   ·exact wpS_pure ⟨kk,.inr ⟨rfl,m4,by dsimp only; (first|lia|omega),Uv n2 z5,n5⟩⟩
   ·exact wpS_pure ⟨kk,_,_,_,_,_,_,rfl,m4,by first|lia|omega,Uv n2 z5,n5⟩
end
noncomputable def yr:Array Keyed->Array Keyed->StateT SortSt Sem (Array Keyed):=sortPriv% PySem.Builtin.mergeHi
section
variable {prog:Program}{w:World}{A:Around}{E:Value->Shared->Prop}{s:Shared}{a₀:Array Keyed}{key:Keyed->Int}{kd:SortKind}
theorem Cn {xs:Array Keyed}{n:Nat}(hn:n<=xs.size)(h:Sg key xs 0 xs.size):Sg key xs 0 (0+n):=fun p q h1 h2 h3=>h p q h1 h2 (by first|lia|omega)
structure Mh (key:Keyed->Int)(a b:Array Keyed)(out:List Keyed)(na nb:Nat):Prop where
 ha:na<=a.size
 hb:nb<=b.size
 sa:Sg key a 0 a.size
 sb:Sg key b 0 b.size
 perm:(a.toList.take na++b.toList.take nb++out.reverse).Perm (a.toList++b.toList)
 so:Sl key out.reverse
 la:∀x∈a.toList.take na,∀y∈out,key x<=key y
 lb:∀x∈b.toList.take nb,∀y∈out,key x<=key y
theorem Mh.swap {a b:Array Keyed}{out:List Keyed}{na nb:Nat}(h:Mh key a b out na nb):Mh key b a out nb na:=
 ⟨h.hb,h.ha,h.sb,h.sa,((Yr).append_right _).trans (h.perm.trans Yr),h.so,h.lb,h.la⟩
theorem zO {xs:Array Keyed}{t n:Nat}{x:Keyed}(h:x∈(xs.toList.take n).drop t):∃j,t<=j/\j<n/\j<xs.size/\ky key xs j=key x:=by
 rw[List.drop_take] at h
 obtain⟨j,j1,j2,j3,e⟩:=oX (key:=key) h
 exact⟨j,j1,by first|lia|omega,j3,e⟩
theorem Mh.tA {a b:Array Keyed}{out:List Keyed}{na nb t:Nat}(h:Mh key a b out na nb)(ht:t<=na)(hn:1<=nb)(q:∀j,t<=j->j<na->ky key b (nb-1)<=ky key a j):Mh key a b (out++((a.toList.take na).drop t).reverse) t nb:=by
 have e:a.toList.take na=a.toList.take t++(a.toList.take na).drop t:=by
  have:=Ys t (a.toList.take na)
  rw[List.take_take,Ya ht] at this
  exact this.symm
 have sd:Sl key (a.toList.take na):=(hW h.sa).sublist (Y7 _ _)
 rw[e] at sd
 refine ae.el (Ue.mp sd) _ ?_
 rintro s1 s2 s3
 have ha:=h.ha
 have hb:=h.hb
 refine⟨by first|lia|omega,h.hb,h.sa,h.sb,?_,?_,?_,?_⟩
 ·have p:=h.perm
  rw[e,J9,J9] at p
  rw[List.reverse_append,List.reverse_reverse,J9]
  refine U7.trans (U7.append_left _ ?_) p
  rw[<-J9,<-J9]
  exact Yr.append_right _
 ·rw[List.reverse_append,List.reverse_reverse]
  exact Ue.mpr ⟨s2,h.so,fun x hx y hy=>h.la x (List.mem_of_mem_drop hx) y (Y2.mp hy)⟩
 ·intro x hx y hy
  rcases Jq.mp hy with hy|hy
  ·exact h.la x (by rw[e];exact Ym _ hx) y hy
  ·exact s3 x hx y (Y2.mp hy)
 ·intro x hx y hy
  rcases Jq.mp hy with hy|hy
  ·exact h.lb x hx y hy
  ·obtain⟨j,j1,j2,j3,e1⟩:=zO (key:=key) (Y2.mp hy)
   obtain⟨i,i1,i2,e2⟩:=gr (key:=key) hx
   have:=q j j1 j2
   have:=h.sb i (nb-1) (by first|lia|omega) (by first|lia|omega) (by first|lia|omega)
   (first|lia|omega)
theorem Mh.tB {a b:Array Keyed}{out:List Keyed}{na nb t:Nat}(h:Mh key a b out na nb)(ht:t<=nb)(hn:1<=na)(q:∀j,t<=j->j<nb->ky key a (na-1)<=ky key b j):Mh key a b (out++((b.toList.take nb).drop t).reverse) na t:=
 (h.swap.tA ht hn q).swap
theorem Cs {xs:Array Keyed}{n:Nat}{p:Keyed}(hn:1<=n)(h:xs[n-1]? = some p):((xs.toList.take n).drop (n-1)).reverse=[p]:=by
 rw[List.drop_take,show n-(n-1)=1 by first|lia|omega,Dw h];rfl
theorem Mh.nD {a b out:Array Keyed}{na nb:Nat}{p:Keyed}(h:Mh key a b out.toList na nb)(hn:1<=na)(e:a[na-1]? = some p)(hb:1<=nb)(q:ky key b (nb-1)<=ky key a (na-1)):Mh key a b (out.push p).toList (na-1) nb:=by
 rw[Yk,<-Cs hn e]
 exact h.tA (by first|lia|omega) hb fun j j1 j2=>by rw[show j=na-1 by first|lia|omega];exact q
theorem Mh.mJ {a b out:Array Keyed}{na nb:Nat}{p:Keyed}(h:Mh key a b out.toList na nb)(hn:1<=nb)(e:b[nb-1]? = some p)(hb:1<=na)(q:ky key a (na-1)<=ky key b (nb-1)):Mh key a b (out.push p).toList na (nb-1):=by
 rw[Yk,<-Cs hn e]
 exact h.tB (by first|lia|omega) hb fun j j1 j2=>by rw[show j=nb-1 by first|lia|omega];exact q
theorem vB {xs:Array Keyed}{t n:Nat}:(xs.extract t n).toList=(xs.toList.take n).drop t:=by
 rw[Array.toList_extract,List.extract_eq_take_drop,List.drop_take]
theorem Mh.Kl {a b out:Array Keyed}{na nb t:Nat}(h:Mh key a b out.toList na nb)(ht:t<=na)(hn:1<=nb)(q:∀j,t<=j->j<na->ky key b (nb-1)<=ky key a j):Mh key a b (out++(a.extract t na).reverse).toList t nb:=by
 rw[U1,Array.toList_reverse,vB]
 exact h.tA ht hn q
theorem Mh.MO {a b out:Array Keyed}{na nb t:Nat}(h:Mh key a b out.toList na nb)(ht:t<=nb)(hn:1<=na)(q:∀j,t<=j->j<nb->ky key a (na-1)<=ky key b j):Mh key a b (out++(b.extract t nb).reverse).toList na t:=by
 rw[U1,Array.toList_reverse,vB]
 exact h.tB ht hn q
theorem B4 {xs:Array Keyed}{n:Nat}:(xs.extract 0 n).toList=xs.toList.take n:=by rw[vB,List.drop_zero]
theorem Mh.done {a b out:Array Keyed}{na nb:Nat}(h:Mh key a b out.toList na nb)(q:na=0∨nb=0):Good key a b (a.extract 0 na++b.extract 0 nb++out.reverse):=by
 unfold Good
 rw[U1,U1,B4,B4,Array.toList_reverse]
 refine⟨h.perm,Ue.mpr ⟨Ue.mpr ⟨(hW h.sa).sublist (Y7 _ _),(hW h.sb).sublist (Y7 _ _),fun x hx y hy =>?_⟩,h.so,fun x hx y hy =>?_⟩⟩
 ·obtain⟨j,j1,j2,_⟩:=gr (key:=key) hx
  obtain⟨i,i1,i2,_⟩:=gr (key:=key) hy
  (first|lia|omega)
 ·rcases Jq.mp hx with hx|hx
  ·exact h.la x hx y (Y2.mp hy)
  ·exact h.lb x hx y (Y2.mp hy)
theorem Mh.first {a b out:Array Keyed}{na nb:Nat}(h:Mh key a b out.toList na nb)(e:nb=1)(q:ky key b 0<=ky key a 0):Good key a b (b.extract 0 nb++a.extract 0 na++out.reverse):=by
 unfold Good
 rw[U1,U1,B4,B4,Array.toList_reverse]
 refine⟨(Yr.append_right _).trans h.perm,Ue.mpr ⟨Ue.mpr ⟨(hW h.sb).sublist (Y7 _ _),(hW h.sa).sublist (Y7 _ _),fun x hx y hy =>?_⟩,h.so,fun x hx y hy =>?_⟩⟩
 ·obtain⟨j,j1,j2,e1⟩:=gr (key:=key) hx
  obtain⟨i,i1,i2,e2⟩:=gr (key:=key) hy
  have:=h.sa 0 i (by first|lia|omega) (by first|lia|omega) i2
  rw[show j=0 by first|lia|omega] at e1
  (first|lia|omega)
 ·rcases Jq.mp hx with hx|hx
  ·exact h.lb x hx y (Y2.mp hy)
  ·exact h.la x hx y (Y2.mp hy)
noncomputable abbrev Lv (key:Keyed->Int)(a b:Array Keyed)(st:SortSt)(x:Nat)(c:Option (Array Keyed)×Nat×Nat×Array Keyed×Nat)(aD:SortSt):Prop:=Kp st aD/\∃na nb out g,c=(none,na,nb,out,g)/\Mh key a b out.toList na nb/\na+nb+x+1<=a.size+b.size/\1<=na/\2<=nb
noncomputable abbrev MX (key:Keyed->Int)(a b:Array Keyed)(st:SortSt)(c:Option (Array Keyed)×Nat×Nat×Array Keyed×Nat)(aD:SortSt):Prop:=Kp st aD/\∃r,c.1=some r/\Good key a b r
noncomputable abbrev MJ (key:Keyed->Int)(a b:Array Keyed)(dy:SortSt)(x:Nat)(y:Nat)(c:Option (Array Keyed)×Nat×Nat×Array Keyed×Nat×Nat)(aD:SortSt):Prop:=aD=dy/\∃na nb out p q,c=(none,na,nb,out,p,q)/\Mh key a b out.toList na nb/\na+nb+x+1+y<=a.size+b.size/\1<=na/\2<=nb
noncomputable abbrev Kx (key:Keyed->Int)(a b:Array Keyed)(dy:SortSt)(x:Nat)(c:Option (Array Keyed)×Nat×Nat×Array Keyed×Nat×Nat)(aD:SortSt):Prop:=aD=dy/\((∃r,c.1=some r/\Good key a b r)∨(c.1=none/\Mh key a b c.2.2.2.1.toList c.2.1 c.2.2.1/\c.2.1+c.2.2.1+x+2<=a.size+b.size/\1<=c.2.1/\2<=c.2.2.1))
noncomputable abbrev Lr (key:Keyed->Int)(a b:Array Keyed)(st:SortSt)(x:Nat)(y:Nat)(c:Option (Array Keyed)×Nat×Nat×Array Keyed×Nat×Nat×Nat)(aD:SortSt):Prop:=Kp st aD/\∃na nb out g p q,c=(none,na,nb,out,g,p,q)/\Mh key a b out.toList na nb/\na+nb+x+2<=a.size+b.size/\1<=na/\2<=nb
noncomputable abbrev M7 (key:Keyed->Int)(a b:Array Keyed)(st:SortSt)(x:Nat)(c:Option (Array Keyed)×Nat×Nat×Array Keyed×Nat×Nat×Nat)(aD:SortSt):Prop:=Kp st aD/\((∃r,c.1=some r/\Good key a b r)∨(c.1=none/\Mh key a b c.2.2.2.1.toList c.2.1 c.2.2.1/\c.2.1+c.2.2.1+x+2<=a.size+b.size/\1<=c.2.1/\2<=c.2.2.1))
theorem HN {a b:Array Keyed}{st:SortSt}{Q:Array Keyed->SortSt->Prop}(hL:iG prog w A E s a₀ key kd)(hk:kindOf st=kd)(Aa:∀p∈a.toList,p∈a₀.toList)(zX:∀p∈b.toList,p∈a₀.toList)
  (Bq:Sg key a 0 a.size) (Ir:Sg key b 0 b.size) (FZ:1<=a.size) (sY:1<=b.size) (h0:ky key b 0<=ky key a 0) (hl:∀j,j<b.size->ky key b j<=ky key a (a.size-1))
  (h:∀res aD,Kp st aD->Good key a b res->Q res aD):wpS (model prog w) A E s (yr a b) Q st:=by
 refine wpS_bind (m:=liftM (rule "list.sort.merge-hi")) (wpS_lift (wpAny_rule ⟨rfl,?_⟩))
 refine dh (by first|lia|omega) fun p e =>?_
 have mz:Mh key a b (#[]:Array Keyed).toList a.size b.size:=⟨Jc _,Jc _,Bq,Ir,by rw[<-Jv,<-Jv,Ui,Ui];simp,.nil,(fun _ _ _ h=>by cases h),(fun _ _ _ h=>by cases h)⟩
 have m0:Mh key a b (#[p]:Array Keyed).toList (a.size-1) b.size:=mz.nD FZ e sY (hl _ (by first|lia|omega))
 refine oo (fun z1=>wpS_pure (h _ _ (Kp.refl _) (m0.done (.inl z1)))) fun z1 =>?_
 refine oo (fun z2=>wpS_pure (h _ _ (Kp.refl _) (m0.first z2 h0))) fun z2 =>?_
 refine wpS_bind (wpS_get ?_)
 refine wpS_bind (wpS_mono (wpS_forRange
  (I:=Lv key a b st)
  (Q:=MX key a b st) ?step ?fin ⟨Kp.refl _,_,_,_,_,rfl,m0,by first|lia|omega,by first|lia|omega,by first|lia|omega⟩) ?post)
 case post=>
  rintro⟨c1,c⟩ aD ⟨kp,r,e1,g⟩
  cases e1
  exact wpS_pure (h _ _ kp g)
 case fin=>
  intro c aD hz_
  refine ae.el hz_ _ ?_
  clear hz_
  rintro kp na nb out g rfl mm h1 h2 h3
  rw[Nat.zero_max] at h1
  (first|lia|omega)
 case step=>
  intro x c dy _ hx hz_
  refine ae.el hz_ _ ?_
  clear hz_
  rintro kp1 na nb out g rfl mm h1 h2 h3
  have ua:=mm.ha
  have ub:=mm.hb
  dsimp -zeta only
  refine wpS_bind (wpS_mono (wpS_forRange
   (I:=MJ key a b dy x)
   (Q:=Kx key a b dy x) ?nC ?fin1 ⟨rfl,na,nb,out,_,_,rfl,mm,by first|lia|omega,h2,h3⟩) ?post1)
  case fin1=>
   intro c aD hz_
   refine ae.el hz_ _ ?_
   clear hz_
   rintro rfl na nb out p q rfl mm h1 h2 h3
   exact⟨rfl,.inr ⟨rfl,mm,by rw[Nat.zero_max] at h1;dsimp only; (first|lia|omega),h2,h3⟩⟩
  case nC=>
   intro y c aD _ hy hz_
   refine ae.el hz_ _ ?_
   clear hz_
   rintro rfl na nb out p q rfl mm h1 h2 h3
   have ua:=mm.ha
   have ub:=mm.hb
   dsimp only
   have la:na-1<a.size:=Y6 h2 mm.ha
   have Dk:1<=nb:=Nat.le_of_succ_le h3
   have lb:nb-1<b.size:=Y6 Dk mm.hb
   refine dh (by first|assumption|(first|lia|omega)) fun p1 e1=>dh (by first|assumption|(first|lia|omega)) fun p2 e2 =>?_
   refine ltB hL (zX _ (mem_of e1)) (Aa _ (mem_of e2)) (kp1.kind.trans hk) ?_
   rw[<-dc (key:=key) e1,<-dc (key:=key) e2]
   by_cases cF:ky key b (nb-1)<ky key a (na-1)
   ·rw[decide_eq_true cF]
    dsimp only
    refine MF rfl ?_
    refine dh (by first|assumption|(first|lia|omega)) fun p3 e3 =>?_
    have m1:=mm.nD h2 e3 Dk (by first|exact Yt cF|(first|lia|omega))
    refine oo (fun z3=>wpS_pure ⟨rfl,.inl ⟨_,rfl,m1.done (.inl z3)⟩⟩) fun z3 =>?_
    refine l6 (fun z4=>wpS_pure ⟨rfl,.inr ⟨rfl,m1,by dsimp only; (first|lia|omega),by dsimp only; (first|lia|omega),h3⟩⟩) fun z4 =>?_
    exact wpS_pure ⟨rfl,_,_,_,_,_,rfl,m1,by first|lia|omega,by first|lia|omega,h3⟩
   ·rw[decide_eq_false cF]
    dsimp only
    refine IZ Jo ?_
    refine dh (by first|assumption|(first|lia|omega)) fun p3 e3 =>?_
    have m1:=mm.mJ Dk e3 h2 (Int.not_lt.mp cF)
    refine oo (fun z3=>wpS_pure ⟨rfl,.inl ⟨_,rfl,m1.first z3 h0⟩⟩) fun z3 =>?_
    refine l6 (fun z4=>wpS_pure ⟨rfl,.inr ⟨rfl,m1,by dsimp only; (first|lia|omega),h2,by dsimp only; (first|lia|omega)⟩⟩) fun z4 =>?_
    exact wpS_pure ⟨rfl,_,_,_,_,_,rfl,m1,by first|lia|omega,h2,by first|lia|omega⟩
  refine IH fun c1 na nb out p q =>?_
  intro aW hc
  have es:aW=dy:=hc.1
  subst es
  refine Or.elim hc.2 (fun gg =>?_) fun gg =>?_
  ·refine ae.el gg _ ?_
   intro r e1 gd
   have e1:c1=some r:=e1
   subst e1
   exact wpS_pure ⟨kp1,r,rfl,gd⟩
  have e1:c1=none:=gg.1
  have mm:Mh key a b out.toList na nb:=gg.2.1
  have h1:na+nb+x+2<=a.size+b.size:=gg.2.2.1
  have h2:1<=na:=gg.2.2.2.1
  have h3:2<=nb:=gg.2.2.2.2
  clear gg hc
  subst e1
  dsimp -zeta only
  refine wpS_bind (wpS_lift (wpAny_rule ⟨rfl,?_⟩))
  refine wpS_bind (wpS_mono (wpS_forRange
   (I:=Lr key a b st x)
   (Q:=M7 key a b st x) ?step2 ?fin2 ⟨kp1,na,nb,out,_,_,_,rfl,mm,by first|lia|omega,h2,h3⟩) ?post2)
  case fin2=>
   intro c aD hz_
   refine ae.el hz_ _ ?_
   clear hz_
   rintro kp na nb out g p q rfl mm h1 h2 h3
   exact⟨kp,.inr ⟨rfl,mm,h1,h2,h3⟩⟩
  case post2=>
   refine HI fun c1 na nb out g p q =>?_
   intro cp hc
   have kp:Kp st cp:=hc.1
   refine Or.elim hc.2 (fun gg =>?_) fun gg =>?_
   ·refine ae.el gg _ ?_
    intro r e1 gd
    have e1:c1=some r:=e1
    subst e1
    exact wpS_pure ⟨kp,r,rfl,gd⟩
   have e1:c1=none:=gg.1
   have mm:Mh key a b out.toList na nb:=gg.2.1
   have h1:na+nb+x+2<=a.size+b.size:=gg.2.2.1
   have h2:1<=na:=gg.2.2.2.1
   have h3:2<=nb:=gg.2.2.2.2
   clear gg hc
   subst e1
   dsimp only
   exact uz kp fun dG kk=>wpS_pure ⟨kk,_,_,_,_,rfl,mm,by first|lia|omega,h2,h3⟩
  case step2=>
   intro y c cp _ hy hz_
   refine ae.el hz_ _ ?_
   clear hz_
   rintro kp na nb out g p q rfl mm h1 h2 h3
   have ua:=mm.ha
   have ub:=mm.hb
   dsimp -zeta only
   extract_lets s1 o1 s2 i1 s3 i2 s4 mg s5 ac bc ib1 jp mg1
   refine tE (fun z:Nat=>jp () z) (fun _=>True) (fun g' _ =>?_) fun H =>?_
   rotate_left
   ·exact l6 (fun _=>H _ trivial) fun _=>H _ trivial
   refine uz kp fun dG kk =>?_
   dsimp -zeta only [s1,o1,s2,i1,s3,i2,s4,mg,s5,ac,bc,ib1]
   have Hg:kindOf dG=kd:=kk.kind.trans hk
   have Dk:1<=nb:=Nat.le_of_succ_le h3
   have lb:nb-1<b.size:=Y6 Dk ub
   refine dh lb fun p1 e1 =>?_
   refine j6 hL Hg Aa (zX _ (mem_of e1)) (Cn ua Bq) (by rw[Nat.zero_add];exact ua) (Nat.sub_one_lt (Yv h2)) fun k1 g1 =>?_
   obtain⟨g11,g12,g13⟩:=g1
   rw[<-dc (key:=key) e1] at g12 g13
   simp only[Nat.zero_add] at g12 g13
   dsimp -zeta only
   extract_lets kx ac2 jp2 o2 na2
   refine tE (fun z:Nat×Array Keyed=>jp2 () z.1 z.2) (fun z=>Mh key a b z.2.toList z.1 nb/\1<=z.1/\z.1<=na/\ky key a (z.1-1)<=ky key b (nb-1)) (fun z hz =>?_) fun H =>?_
   rotate_left
   ·refine l6 (fun ka =>?_) fun ka =>?_
    ·have Nd:na-k1>0:=ka
     have m1:=mm.Kl (t:=k1) g11 Dk (fun j j1 j2=>Yt (oI (g13 j j1 j2)))
     refine oo (fun z1=>wpS_pure ⟨kk,.inl ⟨_,rfl,m1.done (.inl z1)⟩⟩) fun z1 =>?_
     have z2:¬k1=0:=z1
     exact H (na2,o2) ⟨m1,Nat.pos_of_ne_zero z2,g11,oj (g12 (k1-1) (Nat.sub_one_lt z2))⟩
    ·have Nd:¬na-k1>0:=ka
     exact H (na,out) ⟨mm,h2,Jc _,oj (g12 (na-1) (Y6 h2 (Nat.le_of_sub_eq_zero (Nat.eq_zero_of_not_pos Nd))))⟩
   obtain⟨na3,out2⟩:=z
   have m1:Mh key a b out2.toList na3 nb:=hz.1
   have n1:1<=na3:=hz.2.1
   have n2:na3<=na:=hz.2.2.1
   have n3:ky key a (na3-1)<=ky key b (nb-1):=hz.2.2.2
   clear hz
   refine dh lb fun p2 e2 =>?_
   have m2:=m1.mJ Dk e2 n1 n3
   dsimp -zeta only [ac2,kx]
   extract_lets o3
   refine oo (fun z3=>wpS_pure ⟨kk,.inl ⟨_,rfl,m2.first z3 h0⟩⟩) fun z3 =>?_
   have JG:na3-1<a.size:=Y6 n1 (Jp n2 ua)
   have Ot:2<=nb-1:=by (first|lia|omega)
   have NL:0<nb-1:=Ju Nat.one_pos (Nat.le_of_succ_le Ot)
   refine dh JG fun p3 e3 =>?_
   refine j6 hL Hg zX (Aa _ (mem_of e3)) (Cn (U6 lb) Ir) (by rw[Nat.zero_add];exact U6 lb) (Nat.sub_one_lt (Yv NL)) fun k2 g2 =>?_
   obtain⟨g21,g22,g23⟩:=g2
   rw[<-dc (key:=key) e3] at g22 g23
   simp only[Nat.zero_add] at g22 g23
   dsimp -zeta only
   extract_lets ky2 bc2 jp3 o4 nb4
   refine tE (fun z:Nat×Array Keyed=>jp3 () z.1 z.2) (fun z=>Mh key a b z.2.toList na3 z.1/\2<=z.1/\z.1<=nb/\ky key b (z.1-1)<=ky key a (na3-1)) (fun z hz =>?_) fun H =>?_
   rotate_left
   ·refine l6 (fun kz =>?_) fun kz =>?_
    ·have NK:nb-1-k2>0:=kz
     have m3:=m2.MO (t:=k2) g21 n1 (fun j j1 j2=>ko (g23 j j1 j2))
     refine oo (fun z4=>wpS_pure ⟨kk,.inl ⟨_,rfl,m3.first z4 h0⟩⟩) fun z4 =>?_
     refine oo (fun z7=>wpS_pure ⟨kk,.inl ⟨_,rfl,m3.done (.inr z7)⟩⟩) fun z7 =>?_
     have y4:¬k2=1:=z4
     have y7:¬k2=0:=z7
     exact H (nb4,o4) ⟨m3,by show 2<=k2; (first|lia|omega),Jp g21 (Nat.sub_le _ _),Yt (j8 (g22 (k2-1) (Nat.sub_one_lt y7)))⟩
    ·have NK:¬nb-1-k2>0:=kz
     exact H (nb-1,o3) ⟨m2,Ot,Nat.sub_le _ _,Yt (j8 (g22 (nb-1-1) (Y6 NL (Nat.le_of_sub_eq_zero (Nat.eq_zero_of_not_pos NK)))))⟩
   obtain⟨nb3,out3⟩:=z
   have m3:Mh key a b out3.toList na3 nb3:=hz.1
   have n4:2<=nb3:=hz.2.1
   have n5:nb3<=nb:=hz.2.2.1
   have n6:ky key b (nb3-1)<=ky key a (na3-1):=hz.2.2.2
   clear hz
   dsimp only[jp3]
   refine dh JG fun p4 e4 =>?_
   have m4:=m3.nD n1 e4 (Nat.le_of_succ_le n4) n6
   dsimp only[bc2,ky2]
   refine oo (fun z5=>wpS_pure ⟨kk,.inl ⟨_,rfl,m4.done (.inl z5)⟩⟩) fun z5 =>?_
   refine l6 (fun _=>wpS_pure ⟨kk,.inr ⟨rfl,m4,by dsimp only; (first|lia|omega),Nat.pos_of_ne_zero z5,n4⟩⟩) fun _ =>?_
   exact wpS_pure ⟨kk,_,_,_,_,_,_,rfl,m4,by first|lia|omega,Nat.pos_of_ne_zero z5,n4⟩
end
section
variable {prog:Program}{w:World}{A:Around}{E:Value->Shared->Prop}{s:Shared}{a₀:Array Keyed}{key:Keyed->Int}{kd:SortKind}
theorem Bo {M:Model}{σ:Type}{st aD: σ}{Q:PUnit -> σ->Prop}(h:Q ⟨⟩ aD):wpS M A E s (set aD:StateT σ Sem PUnit) Q st:=by
 unfold wpS
 rw[StateT.run_set];exact wpAny_pure ⟨rfl,h⟩
theorem xf {sa:Nat}:∀(l:List Keyed) (n:Nat) (xs:Array Keyed),sa+n+l.length<=xs.size->∀k:Nat,
  ((l.zipIdx n).foldl (fun a (p:Keyed×Nat)=>a.setIfInBounds (sa+p.2) p.1) xs)[k]? = if sa+n<=k/\k<sa+n+l.length then l[k-(sa+n)]? else xs[k]?
 | [],n,xs,h,k=>by rw[List.zipIdx_nil,List.foldl_nil,if_neg (by simp only[Yy]; (first|lia|omega))]
 | p::l,n,xs,h,k=>by
  rw[J8] at h
  rw[List.zipIdx_cons,List.foldl_cons,xf l (n+1) _ (by rw[Array.size_setIfInBounds]; (first|lia|omega)),J8]
  by_cases e1:sa+(n+1)<=k/\k<sa+(n+1)+l.length
  ·rw[if_pos e1,if_pos (by first|lia|omega),show k-(sa+n)=(k-(sa+(n+1)))+1 by first|lia|omega,List.getElem?_cons_succ]
  ·rw[if_neg e1,Array.getElem?_setIfInBounds]
   by_cases e2:sa+n=k
   ·subst e2
    rw[if_pos rfl,if_pos (by first|lia|omega),if_pos (by first|lia|omega),Nat.sub_self];rfl
   ·rw[if_neg e2,if_neg (by first|lia|omega)]
noncomputable def wr (sa:Nat)(l:List Keyed)(xs:Array Keyed):Array Keyed:=l.zipIdx.foldl (fun a (p:Keyed×Nat)=>a.setIfInBounds (sa+p.2) p.1) xs
theorem xW {sa:Nat}{l:List Keyed}{xs:Array Keyed}(h:sa+l.length<=xs.size)(k:Nat):(wr sa l xs)[k]? = if sa<=k/\k<sa+l.length then l[k-sa]? else xs[k]?:=xf l 0 xs h k
theorem A3 {sa:Nat}{l:List Keyed}{xs:Array Keyed}(h:sa+l.length<=xs.size):(wr sa l xs).toList=xs.toList.take sa++(l++xs.toList.drop (sa+l.length)):=by
 refine List.ext_getElem? fun k =>?_
 have hl:(xs.toList.take sa).length=sa:=by rw[Jw,Jv]; (first|lia|omega)
 rw[Uo,xW h]
 by_cases e1:k<sa
 ·rw[if_neg (by first|lia|omega),Ua (by first|lia|omega),List.getElem?_take_of_lt e1,Uo]
 ·rw[J0 (by first|lia|omega),hl]
  by_cases e2:k<sa+l.length
  ·rw[if_pos (by first|lia|omega),Ua (by first|lia|omega)]
  ·rw[if_neg (by first|lia|omega),J0 (by first|lia|omega),Wg,<-Uo]
   congr 1; (first|lia|omega)
theorem Bj {sa:Nat}{l:List Keyed}{xs:Array Keyed}(h:sa+l.length<=xs.size)(hp:l.Perm ((xs.toList.drop sa).take l.length)):(wr sa l xs).Perm xs:=by
 refine Wf.mpr ?_
 rw[A3 h]
 have e:xs.toList=xs.toList.take sa++((xs.toList.drop sa).take l.length++xs.toList.drop (sa+l.length)):=by
  rw[<-List.drop_drop,Ys,Ys]
 exact((hp.append_right _).append_left _).trans (U7.of_eq e.symm)
theorem je {xs:Array Keyed}{i j k:Nat}(hj:j<=xs.size)(hk:i+k<j):ky key (xs.extract i j) k=ky key xs (i+k):=by
 refine da ?_
 rw[Array.getElem?_extract,if_pos (by first|lia|omega)]
theorem xv {xs:Array Keyed}{i j:Nat}(hj:j<=xs.size)(fg:i<=j)(h:Sg key xs i j):Sg key (xs.extract i j) 0 (xs.extract i j).size:=by
 rw[Array.size_extract,Ya hj]
 intro p q _ h2 h3
 rw[je hj (by first|lia|omega),je hj (by first|lia|omega)]
 exact h _ _ (by first|lia|omega) (by first|lia|omega) (by first|lia|omega)
theorem t8 {xs:Array Keyed}{i j:Nat}{p:Keyed}(h:p∈(xs.extract i j).toList):p∈xs.toList:=by
 rw[vB] at h
 exact Wq (List.mem_of_mem_drop h)
structure Tb (a₀:Array Keyed)(kd:SortKind)(st:SortSt):Prop where
 perm:(arrOf st).Perm a₀
 kind:kindOf st=kd
 failed:failedOf st=none
theorem vi {xs:Array Keyed}{res:List Keyed}{sa u sb v e:Nat}(h1:sa<=u)(h2:u<=sb)(h3:sb<=v)(h4:v<=e)(h5:e<=xs.size)(h6:sa<sb)(len:u+res.length=v)(gp:res.Perm ((xs.toList.drop u).take res.length))(gs:res.Pairwise fun a b=>key a<=key b)
  (s1:Sg key xs sa sb) (s2:Sg key xs sb e) (hA:∀p,sa<=p->p<u->ky key xs p<=ky key xs sb) (hB:∀q,v<=q->q<e->ky key xs (sb-1)<=ky key xs q):Sg key (wr u res xs) sa e:=by
 have at':=xW (sa:=u) (l:=res) (xs:=xs) (by first|lia|omega)
 have mB:∀p,(p<u∨v<=p)->ky key (wr u res xs) p=ky key xs p:=fun p hp'=>by
  refine da ?_
  rw[at' p,if_neg (by first|lia|omega)]
 have d4:∀p,u<=p->p<v->∃x,res[p-u]? = some x/\ky key (wr u res xs) p=key x:=fun p a1 a2=>by
  obtain⟨x,hx⟩:∃x,res[p-u]? = some x:=⟨_,Je (by first|lia|omega)⟩
  exact⟨x,hx,dc ((at' p).trans ((if_pos (by first|lia|omega)).trans hx))⟩
 have hm:∀p,u<=p->p<v->∃j,u<=j/\j<v/\ky key (wr u res xs) p=ky key xs j:=fun p a1 a2=>by
  refine ae.el (d4 p a1 a2) _ ?_
  rintro x hx ex
  have FO:=gp.mem_iff.mp (U8.mpr ⟨_,hx⟩)
  obtain⟨j,j1,j2,j3,e4⟩:=oX (key:=key) FO
  exact⟨j,j1,by first|lia|omega,by first|lia|omega⟩
 have sl:sb-1<sb:=by (first|lia|omega)
 intro p q g1 g2 g3
 by_cases a1:q<u
 ·have a0:=Jx g2 a1
  rw[mB p (.inl a0),mB q (.inl a1)];exact s1 p q g1 g2 (Ju a1 h2)
 have a1:=Y1 a1
 by_cases a2:q<v
 ·by_cases a3:p<u
  ·refine ae.el (hm q a1 a2) _ ?_
   rintro j j1 j2 ej
   rw[mB p (.inl a3),ej]
   by_cases a4:j<sb
   ·exact s1 p j g1 (Jp (U6 a3) j1) a4
   ·exact Int.le_trans (hA p g1 a3) (s2 sb j (Jc _) (Y1 a4) (Ju j2 h4))
  ·have a3:=Y1 a3
   refine ae.el (d4 p a3 (Jx g2 a2)) _ ?_
   rintro x hx ex
   refine ae.el (d4 q a1 a2) _ ?_
   rintro y hy ey
   rw[ex,ey]
   by_cases a5:p=q
   ·subst a5
    rw[hx] at hy;cases hy;exact Yz _
   ·obtain⟨l1,e5⟩:=Js.mp hx
    obtain⟨l2,e6⟩:=Js.mp hy
    have:=Ur.mp gs _ _ l1 l2 (Nat.sub_lt_sub_right a3 (Uv g2 a5))
    rw[e5,e6] at this;exact this
 ·have a2:=Y1 a2
  rw[mB q (.inr a2)]
  have hq:=hB q a2 g3
  by_cases a3:p<u
  ·rw[mB p (.inl a3)]
   exact Int.le_trans (s1 p (sb-1) g1 (by first|lia|omega) sl) hq
  ·by_cases a4:p<v
   ·refine ae.el (hm p (Y1 a3) a4) _ ?_
    rintro j j1 j2 ej
    rw[ej]
    by_cases a5:j<sb
    ·exact Int.le_trans (s1 j (sb-1) (Jp h1 j1) (by first|lia|omega) sl) hq
    ·exact s2 j q (Y1 a5) (Jp (U6 j2) a2) g3
   ·have a4:=Y1 a4
    rw[mB p (.inr a4)]
    exact s2 p q (Jp h3 a4) g2 g3
theorem rV {st:SortSt}{i sa na sb nb p1 p2:Nat}{L R:List (Nat×Nat×Nat)}{Q:Bool->SortSt->Prop}(hL:iG prog w A E s a₀ key kd)(hT:Tb a₀ kd st)
  (hp:(pendingOf st).toList=L++(sa,na,p1)::(sb,nb,p2)::R) (hi:L.length=i) (e1:sb=sa+na) (n1:1<=na) (n2:1<=nb) (hz:sb+nb<=a₀.size)
  (s1:Sg key (arrOf st) sa sb) (s2:Sg key (arrOf st) sb (sb+nb))
  (h:∀aD,Tb a₀ kd aD->(pendingOf aD).toList=L++(sa,na+nb,p1)::R->(∀k,k<sa∨sb+nb<=k->(arrOf aD)[k]? = (arrOf st)[k]?)->Sg key (arrOf aD) sa (sb+nb)->Q true aD) :
  wpS (model prog w) A E s (mergeAt' i) Q st:=by
 have hsz:=hT.perm.size_eq
 have g1:(pendingOf st)[i]? = some (sa,na,p1):=by
  rw[<-Uo,hp,J0 (by first|lia|omega),hi,Nat.sub_self];rfl
 have g2:(pendingOf st)[i+1]? = some (sb,nb,p2):=by
  rw[<-Uo,hp,J0 (by first|lia|omega),hi,show i+1-i=1 by first|lia|omega];rfl
 have hP:(((pendingOf st).setIfInBounds i (sa,na+nb,p1)).eraseIdxIfInBounds (i+1)).toList=L++(sa,na+nb,p1)::R:=by
  have cF:i+1<((pendingOf st).setIfInBounds i (sa,na+nb,p1)).size:=by
   rw[Array.size_setIfInBounds,<-Jv,hp,Jf,J8,J8]; (first|lia|omega)
  rw[Array.eraseIdxIfInBounds,dif_pos cF,Array.toList_eraseIdx,Array.toList_setIfInBounds,hp]
  rw[List.set_append_right _ _ (by first|lia|omega),hi,Nat.sub_self,List.set_cons_zero,List.eraseIdx_append_of_length_le (by first|lia|omega),hi,show i+1-i=1 by first|lia|omega]
  rfl
 refine wpS_bind (m:=get) (wpS_get ?_)
 dsimp only
 rw[g1,g2]
 dsimp only
 refine wpS_bind (Bo ?_)
 have am:∀p∈(arrOf st).toList,p∈a₀.toList:=fun p h'=>(Wf.mp hT.perm).mem_iff.mp h'
 refine wpS_bind (gR (xs:=arrOf st) (by first|lia|omega) fun q1 f1 =>?_)
 refine wpS_bind (jH (arr:=arrOf st) hL (show kindOf (setPending st _)=kd from hT.kind) am (am _ (mem_of f1)) (by rw[<-e1];exact s1) (by first|lia|omega) (by first|lia|omega) fun k gk =>?_)
 obtain⟨k1,k2,k3⟩:=gk
 rw[<-dc (key:=key) f1] at k2 k3
 obtain⟨d,rfl⟩:∃d,na=k+d:=Nat.exists_eq_add_of_le k1
 have eD:sb=sa+k+d:=by (first|lia|omega)
 have hA:∀p,sa<=p->p<sa+k->ky key (arrOf st) p<=ky key (arrOf st) sb:=fun p h1 h2=>by
  have:=oj (k2 (p-sa) (by first|lia|omega));rwa[show sa+(p-sa)=p by first|lia|omega] at this
 dsimp only
 rw[Wa]
 refine oo (fun z1 =>?_) fun z1 =>?_
 ·refine wpS_pure (h _ ⟨hT.perm,hT.kind,hT.failed⟩ hP (fun _ _=>rfl) fun p q h1 h2 h3 =>?_)
  show ky key (arrOf st) p<=ky key (arrOf st) q
  by_cases c1:q<sb
  ·exact s1 p q h1 h2 c1
  ·by_cases c2:sb<=p
   ·exact s2 p q c2 h2 h3
   ·exact Int.le_trans (hA p h1 (by first|lia|omega)) (s2 sb q (Jc _) (by first|lia|omega) h3)
 have d1:1<=d:=Nat.pos_of_ne_zero z1
 refine wpS_bind (gR (xs:=arrOf st) (by first|lia|omega) fun q2 f2 =>?_)
 refine wpS_bind (jH (arr:=arrOf st) hL (show kindOf (setPending st _)=kd from hT.kind) am (am _ (mem_of f2)) s2 (by first|lia|omega) (by first|lia|omega) fun m gm =>?_)
 obtain⟨m1,m2,m3⟩:=gm
 rw[<-dc (key:=key) f2,<-eD] at m2 m3
 have hB:∀q,sb+m<=q->q<sb+nb->ky key (arrOf st) (sb-1)<=ky key (arrOf st) q:=fun q h1 h2=>by
  have:=ko (m3 (q-sb) (by first|lia|omega) (by first|lia|omega));rwa[show sb+(q-sb)=q by first|lia|omega] at this
 dsimp only
 have hC:=oI (k3 k (Jc _) (by first|lia|omega))
 by_cases z2:m=0
 ·have:=hB sb (by first|lia|omega) (by first|lia|omega)
  have:=s1 (sa+k) (sb-1) (by first|lia|omega) (by first|lia|omega) (by first|lia|omega)
  (first|lia|omega)
 refine IZ (by simpa using z2) ?_
 have x1:((arrOf st).extract (sa+k) sb).size=d:=by rw[Array.size_extract,Ya (by first|lia|omega),eD,Wa]
 have y1:((arrOf st).extract sb (sb+m)).size=m:=by rw[Array.size_extract,Ya (by first|lia|omega),Wa]
 have sx:=xv (key:=key) (xs:=arrOf st) (i:=sa+k) (j:=sb) (by first|lia|omega) (by first|lia|omega) (fun p q h1 h2 h3=>s1 p q (by first|lia|omega) h2 h3)
 have sy:=xv (key:=key) (xs:=arrOf st) (i:=sb) (j:=sb+m) (by first|lia|omega) (by first|lia|omega) (fun p q h1 h2 h3=>s2 p q h1 h2 (by first|lia|omega))
 have h0:ky key ((arrOf st).extract sb (sb+m)) 0<=ky key ((arrOf st).extract (sa+k) sb) 0:=by
  rw[je (by first|lia|omega) (by first|lia|omega),je (by first|lia|omega) (by first|lia|omega)]
  exact Yt hC
 have hl:∀j,j<((arrOf st).extract sb (sb+m)).size->ky key ((arrOf st).extract sb (sb+m)) j<=ky key ((arrOf st).extract (sa+k) sb) (((arrOf st).extract (sa+k) sb).size-1):=fun j hj=>by
  rw[y1] at hj
  rw[x1,je (by first|lia|omega) (by first|lia|omega),je (by first|lia|omega) (by first|lia|omega),show sa+k+(d-1)=sb-1 by rw[eD,Nat.add_sub_assoc d1]]
  have:=j8 (m2 j hj); (first|lia|omega)
 have wb:∀(res:Array Keyed) (aW:SortSt),Kp (setPending st (((pendingOf st).setIfInBounds i (sa,k+d+nb,p1)).eraseIdxIfInBounds (i+1))) aW->Good key ((arrOf st).extract (sa+k) sb) ((arrOf st).extract sb (sb+m)) res->Q true (setArr aW (wr (sa+k) res.toList (arrOf aW))):=fun res aW kp gd=>by
  have ea:arrOf aW=arrOf st:=kp.arr
  obtain⟨gp,gs⟩:=gd
  have len:res.toList.length=d+m:=by rw[gp.length_eq,Jf,Jv,Jv,x1,y1]
  have hw:sa+k+res.toList.length<=(arrOf st).size:=by (first|lia|omega)
  have eM:((arrOf st).extract (sa+k) sb).toList++((arrOf st).extract sb (sb+m)).toList=((arrOf st).toList.drop (sa+k)).take res.toList.length:=by
   rw[vB,vB,List.drop_take,List.drop_take,len,Wa,show sb-(sa+k)=d by rw[eD,Wa],List.take_add,List.drop_drop,<-eD]
  refine h _ ⟨?_,kp.kind.trans hT.kind,kp.failed.trans hT.failed⟩ ?_ (fun p hp' =>?_) fun p q h1 h2 h3 =>?_
  ·show(wr (sa+k) res.toList (arrOf aW)).Perm a₀
   rw[ea]
   exact(Bj hw (gp.trans (U7.of_eq eM))).trans hT.perm
  ·show(pendingOf aW).toList=_
   rw[kp.pend];exact hP
  ·show(wr (sa+k) res.toList (arrOf aW))[p]? = _
   rw[ea,xW hw p,if_neg (by first|lia|omega)]
  ·show ky key (wr (sa+k) res.toList (arrOf aW)) p<=ky key (wr (sa+k) res.toList (arrOf aW)) q
   rw[ea]
   exact vi (U0 _ _) (Jp (U0 _ _) (Yj eD.symm)) (U0 _ _) (U9 m1 _) (Jp hz (Yj hsz.symm)) (by first|lia|omega) (by first|lia|omega) (gp.trans (U7.of_eq eM)) gs s1 s2 hA hB p q h1 h2 h3
 have Aa:∀p∈((arrOf st).extract (sa+k) sb).toList,p∈a₀.toList:=fun p hp'=>am _ (t8 hp')
 have zX:∀p∈((arrOf st).extract sb (sb+m)).toList,p∈a₀.toList:=fun p hp'=>am _ (t8 hp')
 have tl:∀(res:Array Keyed) (aW:SortSt),Kp (setPending st (((pendingOf st).setIfInBounds i (sa,k+d+nb,p1)).eraseIdxIfInBounds (i+1))) aW->Good key ((arrOf st).extract (sa+k) sb) ((arrOf st).extract sb (sb+m)) res ->
   wpS (model prog w) A E s (do
    modify fun s=>setArr s (wr (sa+k) res.toList (arrOf s))
    return (failedOf (<-get)).isNone) Q aW:=fun res aW kp gd=>by
  refine wpS_bind (wpS_modify (wpS_bind (wpS_get (wpS_pure ?_))))
  have ef:failedOf (setArr aW (wr (sa+k) res.toList (arrOf aW)))=none:=kp.failed.trans hT.failed
  rw[ef]
  exact wb res aW kp gd
 refine l6 (fun _ =>?_) fun _ =>?_
 ·exact wpS_bind (GH (a:=(arrOf st).extract (sa+k) sb) (b:=(arrOf st).extract sb (sb+m)) hL (show kindOf (setPending st _)=kd from hT.kind) Aa zX sx sy (by first|lia|omega) (by first|lia|omega) h0 hl fun res aW kp gd=>tl res aW kp gd)
 ·exact wpS_bind (HN (a:=(arrOf st).extract (sa+k) sb) (b:=(arrOf st).extract sb (sb+m)) hL (show kindOf (setPending st _)=kd from hT.kind) Aa zX sx sy (by first|lia|omega) (by first|lia|omega) h0 hl fun res aW kp gd=>tl res aW kp gd)
end
section
variable {prog:Program}{w:World}{A:Around}{E:Value->Shared->Prop}{s:Shared}{a₀:Array Keyed}{key:Keyed->Int}{kd:SortKind}
noncomputable def gS (key:Keyed->Int)(xs:Array Keyed):Nat->List (Nat×Nat×Nat)->Nat->Prop
 | lo,[],hi=>lo=hi
 | lo,(s,n,_)::t,hi=>s=lo/\1<=n/\Sg key xs lo (lo+n)/\gS key xs (lo+n) t hi
theorem gS.le {xs:Array Keyed}:∀{L:List (Nat×Nat×Nat)} {lo hi:Nat},gS key xs lo L hi->lo+L.length<=hi
 | [],lo,hi,h=>by have h:lo=hi:=h;simp -iota only [Yy]; (first|lia|omega)
 | (s,n,p)::t,lo,hi,h=>by
  obtain⟨_,h1,_,h2⟩:=h
  have:=h2.le
  rw[J8]; (first|lia|omega)
theorem gS.app {xs:Array Keyed}:∀{L R:List (Nat×Nat×Nat)} {lo mid hi:Nat},gS key xs lo L mid->gS key xs mid R hi->gS key xs lo (L++R) hi
 | [],R,lo,mid,hi,h,h'=>by have h:lo=mid:=h;rw[h];exact h'
 | (s,n,p)::t,R,lo,mid,hi,h,h'=>⟨h.1,h.2.1,h.2.2.1,h.2.2.2.app h'⟩
theorem gS.cut {xs:Array Keyed}:∀{L R:List (Nat×Nat×Nat)} {lo hi:Nat},gS key xs lo (L++R) hi->∃mid,gS key xs lo L mid/\gS key xs mid R hi
 | [],R,lo,hi,h=>⟨lo,rfl,h⟩
 | (s,n,p)::t,R,lo,hi,h=>by
  obtain⟨mid,h1,h2⟩:=gS.cut (L:=t) h.2.2.2
  exact⟨mid,⟨h.1,h.2.1,h.2.2.1,h1⟩,h2⟩
theorem uy {xs ys:Array Keyed}{i j:Nat}(e:∀k,i<=k->k<j->ys[k]? = xs[k]?)(h:Sg key xs i j):Sg key ys i j:=fun p q h1 h2 h3=>by
 rw[da (e p h1 (by first|lia|omega)),da (e q (by first|lia|omega) h3)];exact h p q h1 h2 h3
theorem gS.same {xs ys:Array Keyed}:∀{L:List (Nat×Nat×Nat)} {lo hi:Nat},(∀k,lo<=k->k<hi->ys[k]? = xs[k]?)->gS key xs lo L hi->gS key ys lo L hi
 | [],lo,hi,e,h=>h
 | (s,n,p)::t,lo,hi,e,h=>by
  obtain⟨h0,h1,h2,h3⟩:=h
  have:=h3.le
  exact⟨h0,h1,uy (fun k a b=>e k a (by first|lia|omega)) h2,gS.same (fun k a b=>e k (by first|lia|omega) b) h3⟩
theorem mS {st:SortSt}{i hi:Nat}{Q:Bool->SortSt->Prop}(hL:iG prog w A E s a₀ key kd)(hT:Tb a₀ kd st)(hc:gS key (arrOf st) 0 (pendingOf st).toList hi)(hz:hi<=a₀.size)(wQ:i+1<(pendingOf st).size)
  (h:∀aD,Tb a₀ kd aD->gS key (arrOf aD) 0 (pendingOf aD).toList hi->(pendingOf aD).size+1=(pendingOf st).size->(∀k,hi<=k->(arrOf aD)[k]? = (arrOf st)[k]?)->Q true aD):wpS (model prog w) A E s (mergeAt' i) Q st:=by
 have hl:i+1<(pendingOf st).toList.length:=by rw[Jv];exact wQ
 obtain⟨⟨sa,na,p1⟩,e1⟩:∃y,(pendingOf st).toList[i]'(by first|lia|omega)=y:=⟨_,rfl⟩
 obtain⟨⟨sb,nb,p2⟩,e2⟩:∃y,(pendingOf st).toList[i+1]'hl=y:=⟨_,rfl⟩
 have ep:(pendingOf st).toList=(pendingOf st).toList.take i++(sa,na,p1)::(sb,nb,p2)::(pendingOf st).toList.drop (i+2):=by
  have d1:=Y0 (i:=i) (l:=(pendingOf st).toList) (by first|lia|omega)
  have d2:=Y0 (i:=i+1) (l:=(pendingOf st).toList) hl
  rw[e1] at d1
  rw[e2] at d2
  rw[<-d2,<-d1,Ys]
 have GP:=hc
 rw[ep] at GP
 refine ae.el (GP.cut) _ ?_
 rintro mid c1 c2
 obtain⟨rfl,n1,s1,c3⟩:=c2
 obtain⟨rfl,n2,s2,c4⟩:=c3
 have Rg:=c4.le
 refine rV hL hT ep (by rw[Jw]; (first|lia|omega)) rfl n1 n2 (by first|lia|omega) s1 s2 fun aD t' p' o' s' =>?_
 refine h aD t' ?_ ?_ (fun k hk=>o' k (.inr (by first|lia|omega)))
 ·rw[p']
  refine gS.app (mid:=sa) (c1.same fun k _ hk=>o' k (.inl hk)) ⟨rfl,by first|lia|omega,?_,?_⟩
  ·rw[<-Nat.add_assoc];exact s'
  ·rw[<-Nat.add_assoc];exact c4.same fun k hk _=>o' k (.inr hk)
 ·have l1:=congrArg Wk p'
  have l2:=congrArg Wk ep
  rw[Jv] at l1 l2
  rw[l1,l2]
  simp -iota only [Jf,J8]
  (first|lia|omega)
theorem gS.pow {xs:Array Keyed}{f:Nat×Nat×Nat->Nat×Nat×Nat}(hf:∀y,(f y).1=y.1/\(f y).2.1=y.2.1):∀{L:List (Nat×Nat×Nat)} {i lo hi:Nat},gS key xs lo L hi->gS key xs lo (L.modify i f) hi
 | [],i,lo,hi,h=>by rw[List.modify_nil];exact h
 | (s,n,p)::t,0,lo,hi,h=>by
  rw[List.modify_zero_cons]
  obtain⟨e1,e2⟩:=hf (s,n,p)
  generalize f (s,n,p)=y at e1 e2
  obtain⟨y1,y2,y3⟩:=y
  dsimp only at e1 e2
  subst e1 e2
  exact h
 | (s,n,p)::t,i+1,lo,hi,h=>by
  rw[List.modify_succ_cons]
  exact⟨h.1,h.2.1,h.2.2.1,gS.pow hf h.2.2.2⟩
theorem BL {c:Prop}[Decidable c]{n:Nat}(h:1<n):(if c then n-2-1 else n-2)+1<n:=by
 by_cases z:c
 ·rw[if_pos z]; (first|lia|omega)
 ·rw[if_neg z]; (first|lia|omega)
theorem Io {α γ:Type}{m:StateT SortSt Sem α}{Q: α->SortSt->Prop}{st:SortSt}(V: γ->StateT SortSt Sem α)(G: γ->SortSt->Prop)(hV:∀z st,G z st->wpS (model prog w) A E s (V z) Q st)
  (hm:(∀z st,G z st->wpS (model prog w) A E s (V z) Q st)->wpS (model prog w) A E s m Q st):wpS (model prog w) A E s m Q st:=hm hV
theorem Bw {st:SortSt}{Q:Unit->SortSt->Prop}(hL:iG prog w A E s a₀ key kd)(hT:Tb a₀ kd st)(hp:pendingOf st = #[])
  (h:∀aD,Tb a₀ kd aD->Sg key (arrOf aD) 0 a₀.size->Q () aD):wpS (model prog w) A E s sortRuns' Q st:=by
 have hsz:=hT.perm.size_eq
 rw[sortRuns'_eq]
 refine wpS_bind (wpS_get ?_)
 dsimp -zeta only
 rw[hsz]
 refine wpS_bind (wpS_mono (wpS_forRange
  (I:=fun x c aD=>∃lo,c=(none,lo)/\Tb a₀ kd aD/\gS key (arrOf aD) 0 (pendingOf aD).toList lo/\lo<=a₀.size/\(x<=lo∨lo=a₀.size))
  (Q:=fun c aD=>c=(none,a₀.size)/\Tb a₀ kd aD/\gS key (arrOf aD) 0 (pendingOf aD).toList a₀.size) ?step ?fin ⟨0,rfl,hT,by rw[hp];rfl,Us _,.inl (Jc _)⟩) ?post)
 case fin=>
  intro c aD hz_
  refine ae.el hz_ _ ?_
  clear hz_
  rintro lo rfl t ch h1 h2
  have:lo=a₀.size:=by (first|lia|omega)
  subst this
  exact⟨rfl,t,ch⟩
 case post=>
  intro c dy hz_
  refine ae.el hz_ _ ?_
  clear hz_
  rintro rfl t1 ch1
  dsimp only
  refine wpS_bind (wpS_mono (wpS_forRange
   (I:=fun x c aD=>c=(none,())/\Tb a₀ kd aD/\gS key (arrOf aD) 0 (pendingOf aD).toList a₀.size/\((pendingOf aD).size<=1∨(pendingOf aD).size+x<=a₀.size))
   (Q:=fun c aD=>c=(none,())/\Tb a₀ kd aD/\gS key (arrOf aD) 0 (pendingOf aD).toList a₀.size/\(pendingOf aD).size<=1) ?step2 ?fin2 ⟨rfl,t1,ch1,.inr (by have:=ch1.le;rw[Jv] at this; (first|lia|omega))⟩) ?post2)
  case fin2=>
   intro c aD hz_
   refine ae.el hz_ _ ?_
   clear hz_
   rintro rfl t ch hs
   exact⟨rfl,t,ch,by first|lia|omega⟩
  case post2=>
   intro c aD hz_
   refine ae.el hz_ _ ?_
   clear hz_
   rintro rfl t ch hs
   refine wpS_pure (h aD t ?_)
   cases e:(pendingOf aD).toList with
   | nil=>
    rw[e] at ch
    have ch:0=a₀.size:=ch
    intro p q _ _ h3; (first|lia|omega)
   | cons y r=>
    have hl:(pendingOf aD).toList.length<=1:=by rw[Jv];exact hs
    rw[e] at ch hl
    have hr:r=[]:=by
     cases r with
     | nil=>rfl
     | cons _ _=>simp -iota only [J8] at hl; (first|lia|omega)
    subst hr
    obtain⟨y1,y2,y3⟩:=y
    obtain⟨_,_,g1,g2⟩:=ch
    have g2:0+y2=a₀.size:=g2
    rw[g2] at g1;exact g1
  case step2=>
   intro x c aD _ hx hz_
   refine ae.el hz_ _ ?_
   clear hz_
   rintro rfl t ch hs
   refine wpS_bind (wpS_get ?_)
   by_cases z:(pendingOf aD).size<=1
   ·rw[if_pos z]
    exact wpS_pure ⟨rfl,t,ch,z⟩
   ·rw[if_neg z]
    refine wpS_bind (mS hL t ch (Jc _) (BL (by first|lia|omega)) fun aW t2 ch2 N5 _ =>?_)
    exact wpS_pure ⟨rfl,t2,ch2,by first|lia|omega⟩
 case step=>
  intro x c dy _ hx hz_
  refine ae.el hz_ _ ?_
  clear hz_
  rintro lo rfl t1 ch1 h1 h2
  dsimp -zeta only
  extract_lets l0 jp fc n2
  refine l6 (fun z =>?_) fun z =>?_
  ·have:lo=a₀.size:=Nat.le_antisymm h1 z
   subst this
   exact wpS_pure ⟨rfl,t1,ch1⟩
  have z:¬lo>=a₀.size:=z
  have tl:∀(n:Nat) (aW:SortSt),Tb a₀ kd aW->1<=n->lo+n<=a₀.size->Sg key (arrOf aW) lo (lo+n)->∀p:Array (Nat×Nat×Nat),gS key (arrOf aW) 0 p.toList lo ->
    Tb a₀ kd (setPending aW (p.push (lo,n,0)))/\gS key (arrOf aW) 0 (p.push (lo,n,0)).toList (lo+n):=fun n aW t2 n1 n2 s2 p hp'=>by
   refine⟨⟨t2.perm,t2.kind,t2.failed⟩,?_⟩
   rw[Yk]
   exact hp'.app ⟨rfl,n1,s2,rfl⟩
  have af:Af a₀ kd lo dy dy:=⟨t1.perm,t1.kind,t1.failed,rfl,fun _ _=>rfl⟩
  have back:∀{aW:SortSt},Af a₀ kd lo dy aW->Tb a₀ kd aW/\gS key (arrOf aW) 0 (pendingOf aW).toList lo:=fun{aW} f=>⟨⟨f.perm,f.kind,f.failed⟩,by rw[f.pend];exact ch1.same fun k _ hk=>f.low k hk⟩
  refine Io (fun n:Nat=>jp () n) (fun n aW=>Af a₀ kd lo dy aW/\1<=n/\lo+n<=a₀.size/\Sg key (arrOf aW) lo (lo+n)) (fun m aW hz =>?_) fun H =>?_
  rotate_left
  ·refine wpS_bind (yK hL (by first|lia|omega) (by first|lia|omega) af fun m aW f2 m1 m2 s2 =>?_)
   dsimp only[l0,fc,n2]
   refine l6 (fun zm =>?_) fun zm =>?_
   ·refine wpS_bind (wpS_lift (wpAny_rule ⟨rfl,?_⟩))
    refine wpS_bind (C2 hL (by first|lia|omega) (by first|lia|omega) f2 s2 fun cp f3 s3 =>?_)
    simp -iota only [Bool.not_true,Ug,if_false]
    exact H _ cp ⟨f3,by first|lia|omega,by first|lia|omega,s3⟩
   ·exact H _ aW ⟨f2,m1,by first|lia|omega,s2⟩
  obtain⟨f2,m1,m2,s2⟩:=hz
  have b2:=back f2
  refine wpS_bind (wpS_get ?_)
  dsimp only[l0]
  cases hb:(pendingOf aW).back? with
  | none=>
   dsimp only
   obtain⟨u1,u2⟩:=tl m aW b2.1 m1 m2 s2 (pendingOf aW) b2.2
   exact wpS_bind (wpS_modify (wpS_pure ⟨_,rfl,u1,u2,m2,.inl (by first|lia|omega)⟩))
  | some y=>
   obtain⟨y1,y2,y3⟩:=y
   dsimp only
   refine wpS_bind (wpS_mono (wpS_forRange
    (I:=fun _ c aD=>c=(none,())/\Tb a₀ kd aD/\gS key (arrOf aD) 0 (pendingOf aD).toList lo/\Sg key (arrOf aD) lo (lo+m))
    (Q:=fun c aD=>c=(none,())/\Tb a₀ kd aD/\gS key (arrOf aD) 0 (pendingOf aD).toList lo/\Sg key (arrOf aD) lo (lo+m)) ?step4 (fun _ _ hh=>hh) ⟨rfl,b2.1,b2.2,s2⟩) ?post4)
   case post4=>
    intro c cC hz_
    refine ae.el hz_ _ ?_
    clear hz_
    rintro rfl t5 c5 s5
    dsimp only
    have c6:gS key (arrOf cC) 0 ((pendingOf cC).modify ((pendingOf cC).size-1) fun z=>(z.1,z.2.1,power' a₀.size (2*y1+y2) (2*y1+y2+y2+m) a₀.size)).toList lo:=by
     rw[Array.toList_modify]
     refine gS.pow (fun _ =>?_) c5
     exact⟨rfl,rfl⟩
    obtain⟨u1,u2⟩:=tl m cC t5 m1 m2 s5 _ c6
    exact wpS_bind (wpS_modify (wpS_bind (wpS_modify (wpS_pure ⟨_,rfl,u1,u2,m2,.inl (by first|lia|omega)⟩))))
   case step4=>
    intro x5 c cC _ _ hz_
    refine ae.el hz_ _ ?_
    clear hz_
    rintro rfl t5 c5 s5
    refine wpS_bind (wpS_get ?_)
    by_cases z5:(pendingOf cC).size>1
    ·have JI:(pendingOf cC).size-2<(pendingOf cC).size:=by (first|lia|omega)
     rw[if_pos z5,getElem?_pos (pendingOf cC) ((pendingOf cC).size-2) JI]
     obtain⟨⟨v1,v2,v3⟩,ev⟩:∃v,(pendingOf cC)[(pendingOf cC).size-2]'JI=v:=⟨_,rfl⟩
     rw[ev]
     dsimp only
     refine l6 (fun _=>wpS_pure ⟨rfl,t5,c5,s5⟩) fun _ =>?_
     refine wpS_bind (mS hL t5 c5 h1 (by first|lia|omega) fun fh t6 c6 _ o6 =>?_)
     exact wpS_pure ⟨rfl,t6,c6,uy (fun k hk _=>o6 k hk) s5⟩
    ·rw[if_neg z5]
     exact wpS_pure ⟨rfl,t5,c5,s5⟩
end
open PySem.W
noncomputable def JC (h base:Heap)(e:Addr)(cls a0:Value)(dx:Option Addr)(fl:Value):Prop:=∃oe vs T oT ts,
 h.get? e=some oe/\oe.cls=cls/\oe.dict=dx/\oe.data = .fields vs/\vs[0]? = some a0/\vs[1]? = some (.ref T)/\base.get? T=none/\T≠e/\h.get? T=some oT/\oT.data = .fields ts/\ts[3]? = some fl
noncomputable def nY (base:Heap)(l:List Env)(e:Addr)(cls a0:Value)(dx:Option Addr)(h:Heap):Prop:=base.StaysIn h/\base.get? e=none/\h.FunFrames base l/\JC h base e cls a0 dx .none
noncomputable def CN (base:Heap)(l:List Env)(e:Addr)(cls a0:Value)(dx:Option Addr)(L:Addr)(h:Heap):Prop:=base.StaysIn h/\base.get? e=none/\h.FunFrames base l/\JC h base e cls a0 dx (rawInt L)
theorem nY.own {base h:Heap}{l:List Env}{e:Addr}{cls a0:Value}{dx:Option Addr}(x:nY base l e cls a0 dx h):∃o,h.get? e=some o/\o.cls=cls/\o.dict=dx/\∃vs,o.data = .fields vs:=by
 obtain⟨_,_,_,oe,vs,T,oT,ts,a1,a2,a3,a4,_⟩:=x
 exact⟨oe,a1,a2,a3,vs,a4⟩
section
variable {M:Model}{A:Around}{E:Value->Shared->Prop}{s:Shared}{base:Heap}{env:Env}{outer:List Env}{L e:Addr}{cls a0:Value}{dx:Option Addr}{Q:Unit->Shared->Prop}
theorem lC {oe:Obj}{vs:Array Value}{head:Value}{hn:Bool}(mr:A.frames=some (env::outer))(i6:s.heap.FunFrames base (env::outer))(hf:env.frame=some L)(he:s.heap.get? e=some oe)(d6:base.StaysIn s.heap)(new:base.get? e=none)
  (hd:oe.data = .fields vs) (sz:1<vs.size) (h0:vs[0]? = some a0)
  (q:∀h',base.StaysIn h'->h'.FunFrames base (env::outer)->JC h' base e oe.cls a0 oe.dict (rawInt L)->s.heap.UpToSlots h'->Q () { s with heap:=h' }) :
  wpAny M A (do let a <-frameOf env;let pl <-entryPlaceOf L hn;let b <-EntryCells.newEntry head a .none (rawInt L) .none pl;setField (.ref e) 1 b) Q E s:=by
 have apart:e∉(env::outer).filterMap (·.frame):=fun m=>by
  obtain⟨_,o,ho,nf⟩:=i6.mem m
  rw[he] at ho;cases ho
  exact nf vs hd
 refine wpAny_bind (wpAny_frameOf_fun mr i6 hf fun h1 so=>wpAny_bind (wpAny_entryPlaceOf fun pl isp =>?_))
 unfold EntryCells.newEntry newFields
 refine wpAny_bind (wpAny_newObj_type ?_ (isp.sizeOk5 _ _ _ _ _))
 obtain⟨tr,etr⟩:∃tr:Obj,tr={ cls := .type "traceback",dict:=none,data := .fields ([head,.ref L,.none,rawInt L,.none]++(if pl.isEmpty then Jj 6 Value.none else pl)).toArray }:=⟨_,rfl⟩
 rw[<-etr]
 have e1:h1.get? e=some oe:=(so.2.1 e apart).trans he
 have dy:base.StaysIn h1:=fun b o x=>(so.2.1 b fun m=>by rw[(i6.mem m).1] at x;cases x).trans (d6 b o x)
 have e2:(h1.push tr).get? e=some oe:=Jd _ e1
 refine wpAny_setField e2 hd sz (q _ ?_ ?_ ?_ ?_)
 all_goals have nT:h1.objs.size≠e:=Yv (Ji e1)
 all_goals have kp:∀b o,b≠e->h1.get? b=some o->((h1.push tr).update e (Obj.mapFields (·.setIfInBounds 1 (Value.ref h1.objs.size)))).get? b=some o:=fun b o nb x=>(Uq _ _ (Ne.symm nb)).trans (Jd _ x)
 all_goals have nr:∀b o,s.heap.get? b=some o->(∀ws,o.data ≠ .fields ws)->b≠e:=fun b o x nf z=>(by rw[z,he] at x;cases x;exact nf vs hd)
 ·exact fun b o x=>kp b o (fun z=>by rw[z,new] at x;cases x) (dy b o x)
 ·refine i6.of_keeps fun b o x nf =>?_
  obtain⟨sl,hs⟩:=so.2.2 b o x
  exact⟨_,kp b _ (nr b o x nf) hs,rfl⟩
 ·have d3:=Obj.data_mapFields hd (·.setIfInBounds 1 (Value.ref h1.objs.size))
  have e3:=Uu (Obj.mapFields (·.setIfInBounds 1 (Value.ref h1.objs.size))) e2 (Obj.isFreed_of_fields d3)
  refine⟨_,_,h1.objs.size,tr,_,e3,Obj.cls_mapFields _ _,?_,d3,by rw[Array.getElem?_setIfInBounds_ne (by decide)];exact h0,by simp[sz],dy.fresh,nT,(Uq _ _ (Ne.symm nT)).trans (Jy h1 (by rw[etr];rfl)),by rw[etr],?_⟩
  ·obtain⟨c1,c2,c3,c4⟩:=oe
   cases c3<;>rfl
  ·first
    | (simp;done)
    | (rcases isp with rfl|⟨_,_,_,_,_,_,_,rfl⟩<;>simp)
 ·intro b o x nf
  obtain⟨sl,hs⟩:=so.2.2 b o x
  exact⟨sl,kp b _ (nr b o x nf) hs⟩
theorem su {oe:Obj}{vs:Array Value}(mr:A.frames=some (env::outer))(i6:s.heap.FunFrames base (env::outer))(hf:env.frame=some L)(he:s.heap.get? e=some oe)(d6:base.StaysIn s.heap)(new:base.get? e=none)
  (hd:oe.data = .fields vs) (h1:vs[1]? = some .none) (h0:vs[0]? = some a0) (q:∀h',CN base (env::outer) e oe.cls a0 oe.dict L h'->s.heap.UpToSlots h'->Q () { s with heap:=h' }):wpAny M A (noteFrame (.ref e) env) Q E s:=by
 unfold noteFrame
 simp only[hf]
 refine wpAny_bind (wpAny_field he hd h1 ?_)
 rw[if_neg (by decide)]
 exact lC mr i6 hf he d6 new hd (Yn.mp h1).1 h0 fun h' k1 k2 k3 k4=>q h' ⟨k1,new,k2,k3⟩ k4
theorem slot_set {T:Addr}{oT:Obj}{ts:Array Value}{x:Value}(hT:s.heap.get? T=some oT)(dT:oT.data = .fields ts)(nT:base.get? T=none)(d6:base.StaysIn s.heap){l:List Env}(i6:s.heap.FunFrames base l):
  (∀b,b≠T->(s.heap.update T (Obj.mapFields (·.setIfInBounds 3 x))).get? b=s.heap.get? b)/\base.StaysIn (s.heap.update T (Obj.mapFields (·.setIfInBounds 3 x)))/\(s.heap.update T (Obj.mapFields (·.setIfInBounds 3 x))).FunFrames base l /\
   ∀b o,s.heap.get? b=some o->(∀ws,o.data ≠ .fields ws)->(s.heap.update T (Obj.mapFields (·.setIfInBounds 3 x))).get? b=some o:=by
 have off:∀b,b≠T->(s.heap.update T (Obj.mapFields (·.setIfInBounds 3 x))).get? b=s.heap.get? b:=fun b nb=>Uq _ _ (Ne.symm nb)
 have kp:∀b o,s.heap.get? b=some o->(∀ws,o.data ≠ .fields ws)->(s.heap.update T (Obj.mapFields (·.setIfInBounds 3 x))).get? b=some o:=fun b o z nf=>
  (off b fun w=>by rw[w,hT] at z;cases z;exact nf ts dT).trans z
 exact⟨off,fun b o z=>(off b fun w=>by rw[w,nT] at z;cases z).trans (d6 b o z),i6.of_keeps fun b o z nf=>⟨o,kp b o z nf,rfl⟩,kp⟩
theorem BW (mr:A.frames=some (env::outer))(hf:env.frame=some L)(zV:nY base (env::outer) e cls a0 dx s.heap)(q:∀h',CN base (env::outer) e cls a0 dx L h'->s.heap.UpToSlots h'->Q () { s with heap:=h' }):wpAny M A (noteFrame (.ref e) env) Q E s:=by
 obtain⟨d6,new,i6,oe,vs,T,oT,ts,he,rfl,rfl,hd,h0,h1,nT,ne,hT,dT,h3⟩:=zV
 obtain⟨off,aW,fu2,kp⟩:=slot_set (x := .none) hT dT nT d6 i6
 unfold noteFrame
 simp only[hf]
 refine wpAny_bind (wpAny_field he hd h1 ?_)
 rw[if_pos (show(Value.ref T != Value.none)=true by simp)]
 refine wpAny_bind (wpAny_field hT dT h3 ?_)
 rw[if_neg (show ¬((Value.none==rawInt L)=true) by simp[rawInt])]
 refine wpAny_bind (wpAny_setField hT dT (Yn.mp h3).1 ?_)
 refine lC mr fu2 hf ((off e (Ne.symm ne)).trans he) aW new hd (Yn.mp h1).1 h0 fun h' k1 k2 k3 k4=>q h' ⟨k1,new,k2,k3⟩ fun b o z nf=>k4 b o (kp b o z nf) nf
theorem lands {l:List Env}{fl:Value}(d6:base.StaysIn s.heap)(new:base.get? e=none)(i6:s.heap.FunFrames base l)(tr:JC s.heap base e cls a0 dx fl)(q:∀h',nY base l e cls a0 dx h'->s.heap.UpToSlots h'->Q () { s with heap:=h' }):
  wpAny M A (setFlight (.ref e) none) Q E s:=by
 obtain⟨oe,vs,T,oT,ts,he,rfl,rfl,hd,h0,h1,nT,ne,hT,dT,h3⟩:=tr
 have OB:3<ts.size:=(Yn.mp h3).1
 obtain⟨off,aW,fu2,kp⟩:=slot_set (x:=(none:Option Addr).elim Value.none fun f=>rawInt f) hT dT nT d6 i6
 unfold setFlight
 refine wpAny_bind (wpAny_field he hd h1 ?_)
 rw[if_pos (show(Value.ref T != Value.none)=true by simp)]
 have OC:=Obj.data_mapFields dT (·.setIfInBounds 3 ((none:Option Addr).elim Value.none fun f=>rawInt f))
 exact wpAny_setField hT dT OB (q _ ⟨aW,new,fu2,oe,vs,T,_,_,(off e (Ne.symm ne)).trans he,rfl,rfl,hd,h0,h1,nT,ne,Uu _ hT (Obj.isFreed_of_fields OC),OC,by simp[OB]⟩ fun b o z nf=>⟨o.slots,kp b o z nf⟩)
theorem nY.tail {h:Heap}(x:nY base (env::outer) e cls a0 dx h):nY base outer e cls a0 dx h:=let ⟨a,b,⟨_,_,c⟩,d⟩:=x; ⟨a,b,c,d⟩
theorem oh {oe:Obj}{vs:Array Value}(mr:A.frames=some (env::outer))(i6:s.heap.FunFrames base (env::outer))(hf:env.frame=some L)(he:s.heap.get? e=some oe)(d6:base.StaysIn s.heap)(new:base.get? e=none)
  (hd:oe.data = .fields vs) (h1:vs[1]? = some .none) (h0:vs[0]? = some a0) (q:∀h',nY base outer e oe.cls a0 oe.dict h'->s.heap.UpToSlots h'->Q () { s with heap:=h' }):wpAny M A (leaving env (.ref e)) Q E s:=by
 unfold leaving
 exact wpAny_bind (su mr i6 hf he d6 new hd h1 h0 fun h1 hd up=>lands hd.1 hd.2.1 hd.2.2.1 hd.2.2.2 fun h2 fly2 up2=>q h2 fly2.tail (up.trans up2))
end
theorem bf.ex {P:Program}{w:World}{H:Hp}{h:Heap}{a:Addr}{o:HO}(x:bf P w H h a o):∃q,h.get? a=some q:=by
 cases o with
 | lst xs=>obtain⟨_,_,_,_,e⟩:=x;exact⟨_,e⟩
 | tup xs=>obtain⟨_,_,_,_,e,_⟩:=x;exact⟨_,e⟩
 | dK kvs=>obtain⟨_,_,_,_,_,_,_,e,_⟩:=x;exact⟨_,e⟩
 | dT kvs=>obtain⟨_,_,_,_,_,_,_,e,_⟩:=x;exact⟨_,e⟩
 | set S n=>obtain⟨_,_,_,_,e,_⟩:=x;exact⟨_,e⟩
 | ins C dx fs=>exact⟨_,x.2.2.2.1⟩
 | own y=>exact x
 | xd fs=>obtain⟨_,⟨_,_,_,e,_⟩,_⟩:=x;exact⟨_,e⟩
 | rng lo hi=>obtain⟨_,_,_,e⟩:=x;exact⟨_,e⟩
 | frz ob u=>exact⟨_,x.1⟩
 | tbl ps=>exact⟨_,x⟩
 | met f y=>exact⟨_,x⟩
 | ext φ=>exact x.2.1
theorem eO.part {P:Program}{w:World}{H:Hp}{h h' B:Heap}(x:eO P w H h)(hB:B.StaysIn h)(fv:B.StaysIn h')(d4:∀b u,H b=some u->∃o,B.get? b=some o):eO P w H h':=fun a o e=>
 (x a o e).d6 (fun b u hb q=>by
  obtain⟨o',eo⟩:∃o',B.get? b=some o':=by
   rcases hb with hb|hb
   ·subst hb;exact d4 _ _ e
   ·exact d4 _ _ hb
  have:=hB b o' eo
  rw[q] at this;cases this
  exact fv b _ eo) (fun _ q=>q) fun _ _ q=>q
noncomputable def Co (H:Hp)(a:Addr):Hp:=fun b=>if b=a then none else H b
theorem pZ {H:Hp}{a:Addr}:Co H a a=none:=if_pos rfl
theorem iz {H:Hp}{a b:Addr}(h:b≠a):Co H a b=H b:=if_neg h
noncomputable def wR (P:Program)(w:World)(base:Heap):tT:=fun outer H s E e s'=>Br fun ea cls t B H' dx=>e = .ref ea/\s'.os=s.os/\AllBare s'.gens/\Un (fP outer) [] H H' s.heap s'.heap/\eO P w H' s'.heap /\
 base.StaysIn B/\(∀b o,s.heap.get? b=some o->b∉fP outer->∃o',B.get? b=some o')/\(∀b u,H' b=some u->∃o',B.get? b=some o')/\nY B outer ea cls (.ref t) dx s'.heap/\E cls dx H'
theorem pq {base h:Heap}:∀{l:List Env} {b:Addr},h.FunFrames base l->b∈fP l->∃o,h.get? b=some o/\∀vs,o.data ≠ .fields vs:=fun{l b} hl hb=>by
 refine ae.el (hl.mem hb) _ ?_
 rintro _ o e n
 exact⟨o,e,n⟩
section
variable {P:Program}{w:World}{K:Ja}{mg:Str->Option Value}{base:Heap}{N:List Str}{qual:Str}{scope:Scope}{f:Addr}{cd:Value}{A:Around}{outer:List Env}{s0:Shared}{H0:Hp}{E:XK}
theorem sE {pins:List (Addr×Obj)}{σ:St}{H:Hp}{s:Shared}{e t:Addr}{oe:Obj}{vs:Array Value}
  (I:Inv (jz (wR P w base) P w K mg base N qual scope f cd A outer s0 H0 E) pins σ H s) (he:s.heap.get? e=some oe) (new:s0.heap.get? e=none) (hd:oe.data = .fields vs) (v1:vs[1]? = some .none) (v0:vs[0]? = some (.ref t))
  (Gn:H e=none∨∃ φ,H e=some (.ext φ)) (hE:E oe.cls oe.dict (Co H e)):(jz (wR P w base) P w K mg base N qual scope f cd A outer s0 H0 E).xe (.ref e) s:=by
 let env:=envOfC qual scope s0.heap.objs.size f cd
 let B:=hideAll s.heap (e::fP (env::outer))
 have fZ:B.StaysIn s.heap:=fun b o q=>of_hideAll _ q
 have Ff:s.heap.FunFrames base (env::outer):=I.stack
 have mr:(A.deeper env).frames=some (env::outer):=I.ok.frames
 have P7:∀b o,s0.heap.get? b=some o->b≠s0.heap.objs.size:=fun b o q=>J3 (Ji q)
 have jc:∀b o,s0.heap.get? b=some o->b≠e:=fun b o q z=>by rw[z,new] at q;cases q
 have Lj:∀b,b∈fP (env::outer)->b=s0.heap.objs.size∨b∈fP outer:=fun b hb=>by
  have:b∈(env::outer).filterMap (·.frame):=hb
  rw[Wb] at this
  exact Uc.mp this
 have Qp:∀b o,base.get? b=some o->b≠e:=fun b o q z=>by
  have q0:=I.ok.bs b o q
  exact jc b _ q0.1 z
 have d4:∀b u,Co H e b=some u->∃o,B.get? b=some o:=fun b u q=>by
  have nb:b≠e:=fun z=>by rw[z,pZ] at q;cases q
  rw[iz nb] at q
  obtain⟨o,eo⟩:=(I.aV b u q).ex
  refine⟨o,hideAll_get _ eo fun z =>?_⟩
  rcases Uc.mp z with z|z
  ·exact nb z
  ·have:=I.nU b z
   rw[q] at this;cases this
 have N8:base.StaysIn B:=fun b o q=>by
  refine hideAll_get _ (I.bs b o q).1 fun z =>?_
  rcases Uc.mp z with z|z
  ·exact Qp b o q z
  ·have:=(Ff.mem z).1
   rw[q] at this;cases this
 have ub:Un (fP outer) [] H0 H s0.heap s.heap:=I.base
 show wpAny _ _ (leaving env (.ref e)) _ _ _
 refine oh (base:=B) mr (funFrames_hide Ff fun v hv a ha=>Jh _ (List.mem_filterMap.mpr ⟨v,hv,ha⟩)) rfl he fZ (hideAll_none _ (Jk ..)) hd v1 v0 fun h' zV up =>?_
 have hk:∀b o,b≠e->b∉fP (env::outer)->s.heap.get? b=some o->h'.get? b=some o:=fun b o ne hb q=>zV.1 b o (hideAll_get _ q fun z=>(Uc.mp z).elim ne hb)
 have Cg:∀b o,b∈fP (env::outer)->s.heap.get? b=some o->∃sl,h'.get? b=some { o with slots:=sl }:=fun b o hb q=>by
  refine ae.el (pq Ff hb) _ ?_
  rintro o' e' nf
  rw[q] at e';cases e'
  exact up b o q nf
 have old:∀b o,s0.heap.get? b=some o->b∉fP outer->b∉fP (env::outer):=fun b o q hb z=>(Lj b z).elim (P7 b o q) hb
 have II:eO P w (Co H e) s.heap:=fun b u q=>by
  have nb:b≠e:=fun z=>by rw[z,pZ] at q;cases q
  rw[iz nb] at q
  refine(I.aV b u q).d6 (fun _ _ _ z=>z) (fun c z =>?_) fun c xs z =>?_
  all_goals
   have nc:c≠e:=fun y=>by
    rw[y] at z
    rcases Gn with l|⟨φ,l⟩<;>(rw[l] at z;cases z)
   rw[iz nc];exact z
 have yj:∀b o,H0 b=some o->(∀ φ,H b≠some (.ext φ))->H b≠none->Co H e b=H b:=fun b o q n1 n2=>by
  refine iz fun z =>?_
  rw[z] at n1 n2
  rcases Gn with l|⟨φ,l⟩
  ·exact n2 l
  ·exact n1 φ l
 refine⟨e,oe.cls,t,B,Co H e,oe.dict,rfl,I.os,I.bare,⟨?_,?_,?_,?_,?_,?_,?_⟩,II.part fZ zV.1 d4,N8,?_,d4,zV,hE⟩
 ·exact fun b o q n hb hx'=>hk b o (jc b o q) (old b o q hb) (ub.keep b o q n hb hx')
 ·intro b o q n hb hx'
  obtain⟨sl,e1⟩:=ub.slot b o q n hb hx'
  obtain⟨sl',e2⟩:=Cg b _ (by show b∈(env::outer).filterMap (·.frame);rw[Wb];exact Jh _ hb) e1
  exact⟨sl',e2⟩
 ·intro b o q n hx'
  rw[iz (jc b o q)]
  exact ub.free b o q n hx'
 ·intro b o q hx'
  obtain⟨o1,e1⟩:=ub.there b o q hx'
  by_cases hb:b∈fP (env::outer)
  ·obtain⟨sl,e2⟩:=Cg b o1 hb e1
   exact⟨_,e2⟩
  ·exact⟨o1,hk b o1 (jc b o q) hb e1⟩
 ·intro b xs q
  have z:=ub.fN b xs q
  rw[yj b _ q (fun φ y=>by rw[z] at y;cases y) (fun y=>by rw[z] at y;cases y)]
  exact z
 ·intro b o u q
  have z:=ub.eY b o u q
  rw[yj b _ q (fun φ y=>by rw[z] at y;cases y) (fun y=>by rw[z] at y;cases y)]
  exact z
 ·intro b ps q
  obtain⟨m,z⟩:=ub.fT b ps q
  refine⟨m,?_⟩
  rw[yj b _ q (fun φ y=>by rw[z] at y;cases y) (fun y=>by rw[z] at y;cases y)]
  exact z
 ·intro b o q hb
  obtain⟨o1,e1⟩:=ub.there b o q (by simp)
  exact⟨o1,hideAll_get _ e1 fun z=>(Uc.mp z).elim (jc b o q) (old b o q hb)⟩
end
noncomputable def Et (X:Cx)(pins:List (Addr×Obj))(σ0:St)(E':XK):Value->Shared->Prop:=fun e s'=>iU fun iO H s=>Inv X (pins++iO) σ0 H s/\wR X.prog X.w X.base X.stack H s E' e s'
noncomputable def xB (X:Cx)(pins:List (Addr×Obj))(σ0:St)(E':XK):Cx:={ X with pn:=X.pn++pins,xe:=Et X pins σ0 E' }
noncomputable def xH (X:Cx)(e:Addr):Cx:={ X with A:=X.A.mark (some (.ref e)),calm:=false,xe:=fun _ _=>False }
section
variable {X:Cx}{pins iO:List (Addr×Obj)}{σ σ0:St}{E':XK}{H:Hp}{s:Shared}
theorem Inv.QE (I:Inv X pins σ H s):Inv (xB X pins σ0 E') [] σ H s:=
 ⟨⟨I.ok.mod,I.ok.kind,I.ok.glob,I.ok.blt,I.ok.above,I.ok.inj,I.ok.has,I.ok.cab,I.ok.hd,I.ok.frames,I.ok.stk,I.ok.exf,I.ok.bs,I.ok.bsz,I.ok.noex,I.ok.exfs,I.ok.fW,I.ok.rH⟩,I.os,I.bare,I.base,I.loc,I.cell,I.free,I.freeC,
  fun p hp=>I.pin p (by have hp:p∈(X.pn++pins)++[]:=hp;simpa using hp),I.aV,I.len⟩
theorem Inv.HQ (I:Inv (xB X pins σ0 E') iO σ H s):Inv X (pins++iO) σ H s:=
 ⟨⟨I.ok.mod,I.ok.kind,I.ok.glob,I.ok.blt,I.ok.above,I.ok.inj,I.ok.has,I.ok.cab,I.ok.hd,I.ok.frames,I.ok.stk,I.ok.exf,I.ok.bs,I.ok.bsz,I.ok.noex,I.ok.exfs,I.ok.fW,I.ok.rH⟩,I.os,I.bare,I.base,I.loc,I.cell,I.free,I.freeC,
  fun p hp=>I.pin p (by show p∈(X.pn++pins)++iO;simpa [J9] using hp),I.aV,I.len⟩
theorem Inv.NZ {e:Addr}(I:Inv X pins σ H s):Inv (xH X e) pins σ H s:=
 ⟨⟨I.ok.mod,I.ok.kind,I.ok.glob,I.ok.blt,I.ok.above,I.ok.inj,I.ok.has,I.ok.cab,fun z=>Bool.noConfusion z,I.ok.frames,I.ok.stk,I.ok.exf,I.ok.bs,I.ok.bsz,I.ok.noex,I.ok.exfs,I.ok.fW,I.ok.rH⟩,I.os,I.bare,I.base,I.loc,I.cell,I.free,I.freeC,I.pin,I.aV,I.len⟩
theorem Inv.JK {e:Addr}(k:X.Ok)(I:Inv (xH X e) pins σ H s):Inv X pins σ H s:=
 ⟨k,I.os,I.bare,I.base,I.loc,I.cell,I.free,I.freeC,I.pin,I.aV,I.len⟩
noncomputable def uP (σ0:St)(sp:Sp)(E:XK)(t:TA):TE:=fun σ H Q =>σ = σ0/\t σ H fun vs H1=>sp vs H1 Q E
theorem C7 {k:Nat}{f:Addr}{fd:FuncData}{ps:List Str}{sp:Sp}{x:Str}{e:Expr}{es:List Expr}{t:TA}{p pos:Pos}(F:bA X.prog X.w X.K X.mg X.base (wR X.prog X.w X.base) k f fd ps sp)(hr:cL k X.A)(hg:Gl X x)(hm:X.mg x=some (.ref f))
  (hk:Y4 X.K (.ref f)=true) (hb:Binds X.K fd ps []) (ha:PA (xB X pins σ0 E') (e::es) t) (rD:(x==("__debug__" : Str))=false:=by decide)
  (he:starEach (e::es) X.env=(false,eval e X.env)::starEach es X.env:=by rfl) (g8:(backTo pos (starEach es X.env)).any (·.1)=false:=by rfl) :
  PE (xB X pins σ0 E') (.Call (.Name x p) (e::es) [] pos) (uP σ0 sp E' t):=by
 intro pl s σ H Q I h
 obtain⟨hσ,h⟩:=h
 subst hσ
 refine wpAny_Call_Name_kw (iR (X:=xB X pins σ E') I hg hm ?_ rD)
 refine PySem.W.callWith_K (h₀:=X.base) I.ok.mod.tY hk (aQ (ha s σ H _ I h) fun us s1 hz_=>ae.el hz_ _ fun vs H1 I1 r q=>⟨I1.jv,?_⟩) he g8
 have J1:Inv X (pins++pl) σ H1 s1:=I1.HQ
 have hl:us.length=ps.length:=by rw[<-r.length];exact F.len _ _ _ _ q
 have sY:=hb s1 us J1.jv (by simpa using hl)
 refine wpAny_call (codeAny_mono (F.run X.A X.stack s1 H1 ⟨us,[]⟩ us vs Q E' hr J1.AN (by simpa using sY) r q) fun r s' hq =>?_)
 cases r with
 | error e=>exact⟨pl,H1,s1,J1,hq⟩
 | ok fl=>
  cases fl with
  | ret u=>exact I1.after hq
  | next=>exact False.elim hq
  | brk=>exact False.elim hq
  | cont=>exact False.elim hq
end
theorem Un.land {st:List Env}{H H':Hp}{h h1 h3 B:Heap}(u:Un (fP st) [] H H' h h1)(hold:∀b o,h.get? b=some o->b∉fP st->∃o',B.get? b=some o')(k1:B.StaysIn h1)(k3:B.StaysIn h3)(hf:h1.FunFrames B st)(up:h1.UpToSlots h3):
  Un (fP st) [] H H' h h3:=by
 have step:∀b o,h.get? b=some o->b∉fP st->∀o1,h1.get? b=some o1->h3.get? b=some o1:=fun b o q hb o1 e1=>by
  obtain⟨o',eo⟩:=hold b o q hb
  have e2:=k1 b o' eo
  rw[e1] at e2;cases e2
  exact k3 b _ eo
 have sl:∀b o,b∈fP st->h1.get? b=some o->∃l,h3.get? b=some { o with slots:=l }:=fun b o hb q=>by
  refine ae.el (pq hf hb) _ ?_
  rintro o' e' nf
  rw[q] at e';cases e'
  exact up b o q nf
 refine⟨fun b o q n hb hx=>step b o q hb o (u.keep b o q n hb hx),fun b o q n hb hx =>?_,u.free,fun b o q hx =>?_,u.fN,u.eY,u.fT⟩
 ·obtain⟨l1,e1⟩:=u.slot b o q n hb hx
  obtain⟨l2,e2⟩:=sl b _ hb e1
  exact⟨l2,e2⟩
 ·obtain⟨o1,e1⟩:=u.there b o q hx
  by_cases hb:b∈fP st
  ·obtain⟨l,e2⟩:=sl b o1 hb e1
   exact⟨_,e2⟩
  ·exact⟨o1,step b o q hb o1 e1⟩
theorem wB {M:Model}{h:Heap}{e:Addr}{o:Obj}(he:h.get? e=some o):Looks M h (typeOf (.ref e)) o.cls:=by
 exact(Looks.ld he).andThen .now
section
variable {X:Cx}{L:Addr}
noncomputable def HR (K:Ja)(C:Addr)(tb:St->XK->TS)(th:TS):TS:=fun D σ H=>∃E':XK,tb σ E' D σ H/\∀cls dx H',E' cls dx H'->exmOne K cls (.ref C)=some true/\th D σ H'
theorem AZ {c:Str}{C:Addr}{body CC:List Stmt}{b0:Stmt}{tb:St->XK->TS}{th:TS}{np hp pos:Pos}(fZ:X.stack=X.env::X.outer)(Pj:X.env.frame=some L)(hg:Gl X c)(hm:X.mg c=some (.ref C))
  (hb:∀pins σ0 E',rF (xB X pins σ0 E') body (tb σ0 E')) (hh:∀e,rF (xH X e) (b0::CC) th) (hd:(c==("__debug__" : Str))=false:=by decide) :
  PS X (.Try body [.ExceptHandler (some (.Name c np)) none (b0::CC) hp] [] [] pos) (HR X.K C tb th):=by
 intro pins s σ H D I h
 obtain⟨E',Fo,hc⟩:=h
 refine wpAny_Try_except (wpAny_mono (hb pins σ E' s σ H D I.QE Fo) (fun f s1 q =>?_) fun ev s1 q =>?_)
 ·cases f with
  | next=>
   obtain⟨σ',H',J,q⟩:=q
   have J:=J.HQ
   rw[U5] at J
   exact wpAny_execs_nil ⟨σ',H',J,q⟩
  | brk=>
   obtain⟨σ',H',J,q⟩:=q
   have J:=J.HQ
   rw[U5] at J
   exact⟨σ',H',J,q⟩
  | cont=>
   obtain⟨σ',H',J,q⟩:=q
   have J:=J.HQ
   rw[U5] at J
   exact⟨σ',H',J,q⟩
  | ret u=>
   obtain⟨v,σ',H',J,r,q⟩:=q
   have J:=J.HQ
   rw[U5] at J
   exact⟨v,σ',H',J,r,q⟩
 ·obtain⟨iO,H1,s0,J,ea,cls,t,B,H',dx,rfl,os',bare',u1,yw,N8,hold,d4,zV,q⟩:=q
  obtain⟨hx,ht⟩:=hc _ _ _ q
  have mr:X.A.frames=some (X.env::X.outer):=by rw[<-fZ];exact J.ok.frames
  have Gr:=zV
  rw[fZ] at Gr
  refine BW mr Pj Gr fun h4 held4 up4 =>?_
  refine lands held4.1 held4.2.1 held4.2.2.1 held4.2.2.2 fun h5 fly5 up5 =>?_
  have at_:∀{h9:Heap},B.StaysIn h9->s1.heap.UpToSlots h9->Inv X pins σ H' { s1 with heap:=h9 }:=fun{h9} k9 up9=>
   (J.pV (s':={ s1 with heap:=h9 }) (ch:=[]) os' (u1.land hold zV.1 k9 zV.2.2.1 up9) (yw.part zV.1 k9 d4) bare' (fun b z=>absurd z (by simp))).cU
  have J5:=at_ fly5.1 (up4.trans up5)
  obtain⟨ob,LA,wA,_⟩:=fly5.own
  refine wpAny_handleBy_cons (codeAny_handlers_test (iR (X:=xH X ea) J5.NZ hg hm ?_ hd)) (by intro z;cases z)
  refine exm_one (K:=X.K) J5.jv (by rw[<-wA];exact wB LA) hx _ _ _ _ (fun b o z=>z) ?_
  refine codeAny_handlers_suite (lands fly5.1 fly5.2.1 fly5.2.2.1 fly5.2.2.2 fun h6 fly6 up6 =>?_)
  have J6:=at_ fly6.1 ((up4.trans up5).trans up6)
  refine wpAny_mono (hh ea _ σ H' D J6.NZ ht) (fun f s7 q7 =>?_) fun _ _ z=>False.elim z
  cases f with
  | next=>obtain⟨σ',H7,J7,q7⟩:=q7;exact⟨σ',H7,J7.JK J.ok,q7⟩
  | brk=>obtain⟨σ',H7,J7,q7⟩:=q7;exact⟨σ',H7,J7.JK J.ok,q7⟩
  | cont=>obtain⟨σ',H7,J7,q7⟩:=q7;exact⟨σ',H7,J7.JK J.ok,q7⟩
  | ret u=>obtain⟨v,σ',H7,J7,r,q7⟩:=q7;exact⟨v,σ',H7,J7.JK J.ok,r,q7⟩
end
section
variable {X:Cx}{L:Addr}{pins:List (Addr×Obj)}{σ:St}{H:Hp}{s:Shared}
theorem Inv.yh {e:Addr}{o:HO}(I:Inv X pins σ H s)(h0:H e=none)(h1:e≠X.env.locals)(h2:∀x c,X.env.cells.lookup x=some c->c≠e)(h3:∀p∈X.pn++pins,p.1≠e)(h4:∀b u,X.s₀.heap.get? b=some u->b≠e)
  (new:bf X.prog X.w (upd H e o) s.heap e o):Inv X pins σ (upd H e o) s:=by
 refine⟨I.ok,I.os,I.bare,⟨I.base.keep,I.base.slot,fun b u q n hx =>?_,I.base.there,fun b xs q =>?_,fun b u xs q =>?_,fun b ps q =>?_⟩,I.loc,I.cell,?_,fun x c q =>?_,fun p hp =>?_,I.aV.adopt h0 new,I.len⟩
 ·rw[ao (h4 b u q)];exact I.base.free b u q n hx
 ·have z:=I.base.fN b xs q
  rw[ao (aq z h0)];exact z
 ·have z:=I.base.eY b u xs q
  rw[ao (aq z h0)];exact z
 ·obtain⟨m,z⟩:=I.base.fT b ps q
  exact⟨m,by rw[ao (aq z h0)];exact z⟩
 ·rw[ao (Ne.symm h1)];exact I.free
 ·rw[ao (h2 x c q)];exact I.freeC x c q
 ·obtain⟨p1,p2,p3⟩:=I.pin p hp
  exact⟨p1,by rw[ao (h3 p hp)];exact p2,p3⟩
end
section
variable {P:Program}{w:World}{K:Ja}{mg:Str->Option Value}{base:Heap}
theorem cX.Qs {x qual:Str}{st:Stmt}{f:Addr}{fd:FuncData}{N ps:List Str}{k:Nat}{sp:Sp}(F:cX K x qual st f fd)(S:aM N ps (ay st))(len:∀vs H Q E,sp vs H Q E->vs.length=ps.length)
  (qX:∀(di:Value) (A:Around) (outer:List Env) (s:Shared) (H:Hp) (vs:List V) (Q:VK) (E:XK),cL k (A.deeper (envOfC qual (ay st) s.heap.objs.size f di))->sp vs H Q E ->
   ∃t,rF (jz (wR P w base) P w K mg base N qual (ay st) f di A outer s H E) (dI st) t/\t { nx:=fun _ H'=>Q .non H',rt:=Q } (start N vs) H):bA P w K mg base (wR P w base) (k+1) f fd ps sp:=by
 refine ae.el (F.ex) _ ?_
 rintro oc od kV doc pm an di ct ve rfl lk vh
 exact Ck lk vh S len fun A outer s H vs Q E hr oW=>qX di A outer s H vs Q E hr oW
structure Be (P:Program)(w:World)(K:Ja)(mg:Str->Option Value)(base:Heap)(k:Nat)(x:Str)(ps:List Str)(sp:Sp):Prop where
 ex:∃f fd,bA P w K mg base (wR P w base) k f fd ps sp/\Binds K fd ps []/\Y4 K (.ref f)=true/\mg x=some (.ref f)
theorem Be.mono {j k:Nat}{x:Str}{ps:List Str}{sp:Sp}(F:Be P w K mg base j x ps sp)(h:j<=k):Be P w K mg base k x ps sp:=by
 refine ae.el (F.ex) _ ?_
 rintro f fd a b c d
 exact⟨f,fd,a.mono h,b,c,d⟩
theorem Fe {X:Cx}{pins:List (Addr×Obj)}{σ0:St}{E':XK}{k:Nat}{x:Str}{ps:List Str}{sp:Sp}{p pos:Pos}{e:Expr}{es:List Expr}{t:TA}(F:Be X.prog X.w X.K X.mg X.base k x ps sp)(hr:cL k X.A)(hg:Gl X x)
  (ha:PA (xB X pins σ0 E') (e::es) t) (rD:(x==("__debug__" : Str))=false:=by decide) (he:starEach (e::es) X.env=(false,eval e X.env)::starEach es X.env:=by rfl) (g8:(backTo pos (starEach es X.env)).any (·.1)=false:=by rfl) :
  PE (xB X pins σ0 E') (.Call (.Name x p) (e::es) [] pos) (uP σ0 sp E' t):=by
 refine ae.el (F.ex) _ ?_
 rintro f fd a b c d
 exact C7 a hr hg d c b ha rD he g8
end
section
variable {X:Cx}{pos:Pos}
noncomputable def yO:TE:=fun _ H Q=>∀p H',cV H p (.dK []) H'->Q (.ref p) H'
theorem G9:PE X (.Dict [] [] pos) yO:=by
 have e:yO=yY:=by
  funext σ H Q
  exact(j9 (F:=fun p H'=>Q (.ref p) H')).symm
 rw[e];exact ym
end
theorem Be.calm {P:Program}{w:World}{K:Ja}{mg:Str->Option Value}{base:Heap}{k:Nat}{x:Str}{ps:List Str}{sp Cb:Sp}(F:Be P w K mg base k x ps sp)(h:∀vs H Q E,Cb vs H Q E->sp vs H Q (fun _ _ _=>False)):Fn P w K mg base k x ps Cb:=by
 refine ae.el (F.ex) _ ?_
 rintro f fd a b c d
 refine⟨f,fd,⟨fun vs H Q E q=>a.len _ _ _ _ (h _ _ _ _ q),fun A outer s H args us vs Q E hr he hb hv hs=>codeAny_mono (a.run A outer s H args us vs Q _ hr he hb hv (h _ _ _ _ hs)) fun r s' q =>?_⟩,b,c,d⟩
 cases r with
 | error e=>obtain⟨_,_,_,_,_,_,_,_,_,_,_,_,_,_,_,z⟩:=q;exact z
 | ok fl=>cases fl<;>exact q
open PySem.Calls Builtin Builtin.ObjectAttr Builtin.Getset_descriptor
section
variable {K:Frag}{e C:Addr}
variable {prog:Program}{w:World}{A:Around}{E:Value->Shared->Prop}{s:Shared}
theorem BI {C D:Addr}{cd}(h1:subIn K (.ref D) (.type "BaseException")=some true)(h2:clsIn K D=some cd)(h3:typeIn K (.ref D)=some (.type "type"))(h4:subIn K (.ref C) (.ref D)=some true):exmOne K (.ref C) (.ref D)=some true:=by
 unfold exmOne kitCls
 rw[h1]
 simp[h2,h3,h4]
end
section
variable {X:Cx}
theorem AQ:dM X (binaryOp .Mult) (fun x y H Q=>∃(z:Str) (n:Int),x = .str z/\y = .int n/\MulOk z n/\Q (.str (Txt.mul z n)) H):=by
 intro pins s σ H x y v u Q I rx ry h
 obtain⟨z,n,rfl,rfl,ok,q⟩:=h
 obtain⟨t,rfl⟩:=rx
 obtain⟨t',rfl⟩:=ry
 exact SB.mul ok fun t' k=>⟨.str _,H,I.tok _,⟨_,rfl⟩,q⟩
noncomputable def Hb:R2:=fun x y H Q=>Cj x y H Q∨∃(z:Str) (n:Int),x = .str z/\y = .int n/\MulOk z n/\Q (.str (Txt.mul z n)) H
theorem C1:dM X (binaryOp .Mult) Hb:=kM.or AQ
theorem gG {z:Str}{n:Int}(h1:z.length<=1000)(h2:n<=1000)(h3: -1000<=n):MulOk z n:=by
 refine⟨?_,fun a _ =>?_,fun a _ =>?_⟩
 ·rw[decide_eq_false (by first|lia|omega),decide_eq_false (by first|lia|omega)];rfl
 ·have:(1000:Int)<=(2^63-1) / n:=by
   rw[Int.le_ediv_iff_mul_le (by first|lia|omega)]
   (first|lia|omega)
  (first|lia|omega)
 ·have:z.length*n.toNat<=1000*1000:=Nat.mul_le_mul h1 (by first|lia|omega)
  show decide (_>sizeLine)=false
  simp
  exact Jp this (by decide)
end
noncomputable def oneMore {K:Type}[DecidableEq K](D:List K)(k:K):List K:=if k∈D then D else D++[k]
noncomputable def bL {K:Type}[DecidableEq K](ks:Nat->K):Nat->List K
 | 0=>[]
 | i+1=>oneMore (bL ks i) (ks i)
theorem iw {K:Type}[DecidableEq K](ks:Nat->K):∀i,(bL ks i).length<=i
 | 0=>Jc _
 | i+1=>by
  have:=iw ks i
  unfold bL oneMore
  split
  ·(first|lia|omega)
  ·rw[Jf];exact Wc this
section
variable {prog:Program}{w:World}{K:Type}[DecidableEq K]{knd:PySem.KeyKind prog w K}
noncomputable def iL (knd:PySem.KeyKind prog w K)(h:Heap)(a:Addr)(D:List K):Prop:=h.SetOf knd a (fun k=>decide (k∈D)) D.length
theorem iL.at' {h h':Heap}{a:Addr}{D:List K}(x:iL knd h a D)(k:∀o,h.get? a=some o->h'.get? a=some o):iL knd h' a D:=by
 obtain⟨o,es,ep,t,e,r⟩:=x
 exact⟨o,es,ep,t,k _ e,r⟩
variable {A:Around}{R:Result->Shared->Prop}{I:Addr}{fp wr:List Addr}{G:Array GenState->Array GenState->Prop}{n:Nat}{P:Nat->Value->Prop}{St:Nat->Shared->Prop}
end
noncomputable abbrev cf (led:Bool):Obj:={ cls := .type "set",dict:=none,data := .set #[] 0 (.fresh 0 0 led) }
noncomputable def lu (zs:List Str):List Str:=bL (fun i=>zs.getD i Str.empty) zs.length
noncomputable def Up (xs:List Nat):Prop:=xs.Pairwise (· < ·)
theorem Up.lt {xs:Array Nat}(h:Up xs.toList){i j:Nat}(hj:j<xs.size)(fg:i<j):xs[i]<xs[j]:=by
 have:=Ur.mp h i j (by simpa using Nat.lt_trans fg hj) (by simpa using hj) fg
 simpa using this
structure Cut (xs:Array Nat)(j p:Nat):Prop where
 le:p<=xs.size
 lo:∀i (h:i<xs.size),i<p->xs[i]<j
 hi:∀i (h:i<xs.size),p<=i->j<=xs[i]
theorem lQ {xs:Array Nat}(u:Up xs.toList)(j:Nat):∀(fuel lo hi:Nat),hi-lo<=fuel->lo<=hi->hi<=xs.size->(∀i (h:i<xs.size),i<lo->xs[i]<j)->(∀i (h:i<xs.size),hi<=i->j<=xs[i])->Cut xs j (SetTable.below.go xs j fuel lo hi)
 | 0,lo,hi,hf,hl,hs,h1,h2=>by
  have e:lo=hi:=by (first|lia|omega)
  unfold SetTable.below.go
  subst e
  exact⟨hs,h1,h2⟩
 | fuel+1,lo,hi,hf,hl,hs,h1,h2=>by
  unfold SetTable.below.go
  by_cases cF:lo<hi
  ·rw[if_pos cF]
   have hm:(lo+hi) / 2<xs.size:=by (first|lia|omega)
   have e:xs.getD ((lo+hi) / 2) j=xs[(lo+hi) / 2]:=by simp[Array.getD,hm]
   dsimp only
   rw[e]
   by_cases hc:xs[(lo+hi) / 2]<j
   ·rw[if_pos hc]
    refine lQ u j fuel _ _ (by first|lia|omega) (by first|lia|omega) hs (fun i h iD =>?_) h2
    by_cases q:i=(lo+hi) / 2
    ·subst q;exact hc
    ·exact Nat.lt_trans (u.lt hm (by first|lia|omega)) hc
   ·rw[if_neg hc]
    refine lQ u j fuel _ _ (by first|lia|omega) (by first|lia|omega) (by first|lia|omega) h1 (fun i h iD =>?_)
    by_cases q:i=(lo+hi) / 2
    ·subst q; (first|lia|omega)
    ·have:=u.lt h (show(lo+hi) / 2<i by first|lia|omega)
     (first|lia|omega)
  ·rw[if_neg cF]
   have e:lo=hi:=by (first|lia|omega)
   subst e
   exact⟨hs,h1,h2⟩
theorem eS {xs:Array Nat}(u:Up xs.toList)(j:Nat):Cut xs j (SetTable.below xs j):=
 lQ u j _ _ _ (by first|lia|omega) (Us _) (Jc _) (fun i h z=>absurd z (Nat.not_lt_zero _)) fun i h z=>absurd h (by first|lia|omega)
theorem Cut.next {xs:Array Nat}{p i:Nat}(u:Up xs.toList)(h:i<xs.size)(c:Cut xs (xs[i]+1) p):p=i+1:=by
 have h1:¬p<i+1:=fun z=>by have:=c.hi i h (by first|lia|omega); (first|lia|omega)
 have h2:¬i+1<p:=fun z=>by
  have hs:i+1<xs.size:=by have:=c.le; (first|lia|omega)
  have a:=c.lo (i+1) hs z
  have b:=u.lt hs (Nat.lt_succ_self i)
  (first|lia|omega)
 (first|lia|omega)
noncomputable def cJ (t:SetTable):Prop:=t.dummies = #[]/\Up t.place.toList
theorem tL {a b:Nat}{led:Bool}:cJ (SetTable.fresh a b led):=⟨rfl,List.Pairwise.nil⟩
theorem fM (t:SetTable)(n:Nat):cJ (t.standIn n):=⟨rfl,by
 show List.Pairwise _ (Array.range n).toList
 rw[Array.toList_range]
 exact List.pairwise_lt_range⟩
theorem has_none (j:Nat):SetTable.has #[] j=false:=by
 unfold SetTable.has
 simp
theorem vR {t:SetTable}(g:cJ t)(j:Nat):t.slot j = .empty∨∃i,t.slot j = .live i:=by
 unfold SetTable.slot
 dsimp only
 split
 ·exact .inr ⟨_,rfl⟩
 ·rw[g.1,has_none]
  exact .inl rfl
theorem vP {t:SetTable}(g:cJ t){j:Nat}(h:t.slot j = .empty):j∉t.place.toList:=fun hm=>by
 obtain⟨i,hi,e⟩:=U2.mp hm
 have iD:i<t.place.size:=by simpa using hi
 have e':t.place[i]=j:=by simpa using e
 have c:=eS g.2 j
 have hp:SetTable.below t.place j=i:=by
  have h1:¬i<SetTable.below t.place j:=fun z=>by have:=c.lo i iD z; (first|lia|omega)
  have h2:¬SetTable.below t.place j<i:=fun z=>by
   have hs:SetTable.below t.place j<t.place.size:=by (first|lia|omega)
   have a:=c.hi _ hs (Jc _)
   have b:=g.2.lt iD z
   (first|lia|omega)
  (first|lia|omega)
 unfold SetTable.slot at h
 dsimp only at h
 rw[hp,Uh iD,e'] at h
 simp at h
theorem lJ {t:SetTable}(g:cJ t){h:Int}{j:Nat}{d:Option Nat}:∀(fuel:Nat) (p:SetTable.Probe),p.dummy=none->SetTable.probe.go t (fun _=>h+1) h fuel p=some (.empty j d)->t.slot j = .empty/\d=none
 | 0,p,hp,e=>by unfold SetTable.probe.go at e;cases e
 | fuel+1,p,hp,e=>by
  unfold SetTable.probe.go at e
  rcases vR g p.j with q|⟨i,q⟩
  ·rw[q] at e
   dsimp only at e
   cases e
   exact⟨q,hp⟩
  ·rw[q] at e
   dsimp only at e
   rw[if_neg (by rw[beq_iff_eq]; (first|lia|omega))] at e
   refine lJ g fuel _ ?_ e
   unfold SetTable.advance
   split
   ·exact hp
   ·exact hp
theorem xG {t:SetTable}(g:cJ t){j:Nat}(h:t.slot j = .empty):cJ (t.put j).1:=by
 have hn:=vP g h
 have c:=eS g.2 j
 unfold SetTable.put
 refine⟨?_,?_⟩
 ·show(if SetTable.has t.dummies j=true then _ else t.dummies) = #[]
  rw[g.1,has_none,if_neg Jo]
 ·show Up (SetTable.insertAt t.place _ j).toList
  rw[SetTable.toList_insertAt]
  have u:Up t.place.toList:=g.2
  refine Ue.mpr ⟨List.Pairwise.sublist (Y7 _ _) u,List.pairwise_cons.mpr ⟨fun x hx =>?_,List.Pairwise.sublist (Wo _ _) u⟩,fun x hx y hy =>?_⟩
  ·obtain⟨i,hi,e⟩:=U2.mp hx
   rw[List.getElem_drop] at e
   have iD:SetTable.below t.place j+i<t.place.size:=by rw[Ud] at hi;simp at hi; (first|lia|omega)
   have:=c.hi _ iD (U0 _ _)
   have e':t.place[SetTable.below t.place j+i]=x:=by simpa using e
   have jZ:j≠x:=fun z=>hn (by rw[z];exact List.mem_of_mem_drop hx)
   (first|lia|omega)
  ·have Pd:x<j:=by
    obtain⟨i,hi,e⟩:=U2.mp hx
    rw[List.getElem_take] at e
    rw[Jw] at hi
    have iD:i<t.place.size:=by simp at hi; (first|lia|omega)
    have:=c.lo i iD (by first|lia|omega)
    have e':t.place[i]=x:=by simpa using e
    (first|lia|omega)
   rcases Uc.mp hy with rfl|hy
   ·exact Pd
   ·obtain⟨i,hi,e⟩:=U2.mp hy
    rw[List.getElem_drop] at e
    have iD:SetTable.below t.place j+i<t.place.size:=by rw[Ud] at hi;simp at hi; (first|lia|omega)
    have:=c.hi _ iD (U0 _ _)
    have e':t.place[SetTable.below t.place j+i]=y:=by simpa using e
    (first|lia|omega)
theorem AO {t:SetTable}(g:cJ t)(n:Nat):cJ (t.orStandIn n):=by
 unfold SetTable.orStandIn
 split
 ·exact g
 ·exact fM t n
theorem za {t:SetTable}(g:cJ t)(es:Array (Int×Value))(h:Int)(x:Value):cJ (layNew t es h x).2.1/\(layNew t es h x).2.1.led=t.led:=by
 unfold layNew
 split
 ·rename_i slot wasDummy hs
  dsimp only
  have tQ:t.slot slot = .empty:=by
   unfold SetTable.freeSlot at hs
   split at hs
   ·rename_i j d hp
    unfold SetTable.probe at hp
    obtain⟨h1,h2⟩:=lJ g _ _ rfl hp
    subst h2
    cases hs
    exact h1
   ·cases hs
  refine⟨AO (xG g tQ) _,?_⟩
  unfold SetTable.orStandIn
  split<;>rfl
 ·exact⟨fM t _,rfl⟩
theorem kJ {β:Type}(f:Nat->Option β):∀l:List Nat,List.Sublist ((l.filterMap fun j=>(f j).map (j, ·)).map (·.1)) l
 | []=>List.Sublist.refl _
 | j::l=>by
  rw[Wb]
  cases f j with
  | none=>exact List.Sublist.cons _ (kJ f l)
  | some b=>exact List.Sublist.cons_cons _ (kJ f l)
theorem wI {mask finger moves:Nat}{led plain:Bool}{hs:Array Int}{t:SetTable}{order:Array Nat}(e:SetTable.laid mask finger moves led plain hs=some (t,order)):cJ t/\t.led=led:=by
 unfold SetTable.laid at e
 cases q:SetTable.layClean mask hs with
 | none=>rw[q] at e;cases e
 | some owner=>
  rw[q] at e
  cases e
  refine⟨⟨rfl,?_⟩,rfl⟩
  exact List.Pairwise.sublist (kJ _ _) List.pairwise_lt_range
theorem tN {t:SetTable}(es:Array (Int×Value))(n:Nat):cJ (relayAll t es n).2.1/\(relayAll t es n).2.1.led=t.led:=by
 unfold relayAll
 split
 ·rename_i t' order hr
  dsimp only
  split
  ·unfold SetTable.relaid at hr
   exact wI hr
  ·exact⟨fM t _,rfl⟩
 ·exact⟨fM t _,rfl⟩
section
variable {prog:Program}{w:World}{K:Type}[DecidableEq K]{knd:PySem.KeyKind prog w K}{A:Around}{E:Value->Shared->Prop}{s:Shared}{a:Addr}
noncomputable def iY (w:World)(h:Heap)(a:Addr):Prop:=∃o es ep t,h.get? a=some o/\o.data = .set es ep t/\cJ t/\(w.params.followText "set-order" = false->t.led=true)
theorem iY.at' {h h':Heap}(x:iY w h a)(k:∀o,h.get? a=some o->h'.get? a=some o):iY w h' a:=by
 obtain⟨o,es,ep,t,e,r⟩:=x
 exact⟨o,es,ep,t,k _ e,r⟩
noncomputable def bS (knd:PySem.KeyKind prog w K)(h:Heap)(a:Addr)(D:List K):Prop:=iL knd h a D/\iY w h a
theorem pG {o:Obj}{es:Array (Int×Value)}{ep:Nat}{t:SetTable}(ho:s.heap.get? a=some o)(hd:o.data = .set es ep t){es':Array (Int×Value)}{t':SetTable}(g:cJ t')(l:w.params.followText "set-order" = false->t'.led=true):
  (s.heap.update a (Obj.putSet es' t')).get? a=some { o with data := .set es' (ep+1) t' } /\ iY w (s.heap.update a (Obj.putSet es' t')) a:=by
 have e:=Uu (Obj.putSet es' t') ho (by rw[putSet_of es' t' hd];rfl)
 rw[putSet_of es' t' hd] at e
 exact⟨e,_,_,_,_,e,rfl,g,l⟩
theorem sP {D:List K}{k:K}{x:Value}{Q:Bool->Shared->Prop}(hk:knd.is k x=true)(hx:x.scannable=true)(S:bS knd s.heap a D)(room:D.length+1<scanBound)
  (fin:∀b h',Y3 a s.heap h'->bS knd h' a (oneMore D k)->Q b { s with heap:=h' }):wpAny (model prog w) A (setAddHashed a x (knd.hash k)) Q E s:=by
 obtain⟨HK,o',es',ep',t',sJ,hd',gt',ld'⟩:=S
 obtain⟨o,es,ep,t,ho,ex,hd,el,mem,bnd,fit,len⟩:=id HK
 obtain⟨gt,ld⟩:cJ t/\(w.params.followText "set-order" = false->t.led=true):=by
  rw[ho] at sJ;cases sJ
  rw[hd] at hd';cases hd'
  exact⟨gt',ld'⟩
 have PY:=byScan_of hx bnd el
 unfold setAddHashed setAddHashedIn setAddByScan
 refine wpAny_holding (wpAny_bind (wpAny_setState_of ho hd fit ?_))
 dsimp only
 rw[PY,if_pos rfl]
 refine wpAny_bind (wpAny_bind (wpAny_rule (wpAny_bind (wpAny_setScan_of hk ho hd fit el ?_))))
 have Hw:∀(b:Bool) {s1:Shared} {Q':Unit->Shared->Prop},Q' () s1->wpAny (model prog w) A (match b with|true=>rule "set.scan.the-table-gave-way" | false=>pure ()) Q' E s1:=fun b s1 Q' q=>by
  cases b
  ·exact wpAny_pure q
  ·exact wpAny_rule q
 cases hr:es.toList.findIdx? (fun e=>knd.is k e.2) with
 | some j=>
  obtain⟨hj,hp,_⟩:=List.findIdx?_eq_some_iff_getElem.mp hr
  have d4:k∈D:=of_decide_eq_true ((mem k).mpr ⟨_,Jt hj,hp⟩)
  refine wpAny_pure (wpAny_pure ?_)
  have q:=fin false s.heap (Y3.refl a s.heap) (by
   unfold oneMore
   rw[if_pos d4]
   exact⟨HK,_,_,_,_,ho,hd,gt,ld⟩)
  exact q
 | none=>
  have mB:k∉D:=fun z=>by
   obtain⟨e,he,hp⟩:=(mem k).mp (decide_eq_true z)
   have:=List.findIdx?_eq_none_iff.mp hr e he
   rw[hp] at this;cases this
  have more:∀k',decide (k'∈oneMore D k)=(decide (k'∈D)||decide (k'=k)):=fun k'=>by
   unfold oneMore
   rw[if_neg mB]
   simp[Bool.decide_or]
  obtain⟨g1,l1⟩:=za gt es (knd.hash k) x
  have pm:=layNew_perm t es (knd.hash k) x
  have ft:=layNew_fits t es (knd.hash k) x
  dsimp only
  generalize layNew t es (knd.hash k) x=L at g1 l1 pm ft ⊢
  obtain⟨es1,t1,dummy,gv⟩:=L
  dsimp only at g1 l1 pm ft ⊢
  rw[Yk] at pm
  have Ow:ElemsOf knd es1.toList:=(el.push hk hx).perm pm
  have Hf:∀k',decide (k'∈oneMore D k)=true ↔ ∃e∈es1.toList,knd.is k' e.2=true:=fun k'=>by
   rw[more];exact mem_push_iff hk mem pm k'
  have NR:es1.size=(oneMore D k).length:=by
   unfold oneMore
   rw[if_neg mB,<-Jv,pm.length_eq,Jf,Jf,Jv,len];rfl
  have Pm:(oneMore D k).length=D.length+1:=by
   unfold oneMore
   rw[if_neg mB,Jf];rfl
  have GY:es1.size<scanBound:=by (first|lia|omega)
  have Lq:w.params.followText "set-order" = false->t1.led=true:=fun z=>l1.trans (ld z)
  have tail:∀t2:SetTable,cJ t2->(w.params.followText "set-order" = false->t2.led=true)->t2.fits es1.size=true->∀c:Bool,
    wpAny (model prog w) A (do
     storeSet a es1 t2
     if c=true then do
       (match (relayAll t2 es1 (SetTable.grown es1.size)).2.2 with|true=>rule "set.scan.the-table-gave-way" | false=>pure ())
       storeSet a (relayAll t2 es1 (SetTable.grown es1.size)).1 (relayAll t2 es1 (SetTable.grown es1.size)).2.1
       pure (some true)
      else pure (some true)) (fun r s'=>r=some true/\∃h',s'={ s with heap:=h' } /\ Y3 a s.heap h'/\bS knd h' a (oneMore D k)) E s:=by
   intro t2 g2 ld2 ft2 c
   refine wpAny_bind (wpAny_storeSet_of ho hd ?_ (fits_of_scanBound GY))
   obtain⟨e1,gs1⟩:=pG (es':=es1) ho hd g2 ld2
   have Fu:=Y3.update s.heap a (Obj.putSet es1 t2)
   cases c with
   | false=>
    rw[if_neg Jo]
    exact wpAny_pure ⟨rfl,_,rfl,Fu,⟨_,_,_,_,e1,ex,rfl,Ow,Hf,GY,ft2,NR⟩,gs1⟩
   | true=>
    rw[if_pos rfl]
    have Fs:=relayAll_perm t2 es1 (SetTable.grown es1.size)
    have LC:=relayAll_fits t2 es1 (SetTable.grown es1.size)
    obtain⟨g3,l3⟩:=tN (t:=t2) es1 (SetTable.grown es1.size)
    generalize relayAll t2 es1 (SetTable.grown es1.size)=L2 at Fs LC g3 l3 ⊢
    obtain⟨es2,t3,gv2⟩:=L2
    dsimp only at Fs LC g3 l3 ⊢
    have N5:es2.size=es1.size:=by rw[<-Jv,Fs.length_eq,Jv]
    refine wpAny_bind (Hw _ ?_)
    refine wpAny_bind (wpAny_storeSet_of e1 rfl ?_ (fits_of_scanBound (by first|lia|omega)))
    obtain⟨e2,gs2⟩:=pG (s:={ s with heap:=s.heap.update a (Obj.putSet es1 t2) }) (es':=es2) e1 rfl g3 (fun z=>l3.trans (ld2 z))
    refine wpAny_pure ⟨rfl,_,rfl,Fu.trans (Y3.update _ a _),⟨_,_,_,_,e2,ex,rfl,Ow.perm Fs,fun k'=>(Hf k').trans ⟨fun hz_=>ae.el hz_ _ fun e he q=>⟨e,Fs.mem_iff.mpr he,q⟩,fun hz_=>ae.el hz_ _ fun e he q=>⟨e,Fs.mem_iff.mp he,q⟩⟩,by first|lia|omega,LC,N5.trans NR⟩,gs2⟩
  have out:∀(r:Option Bool) s',(r=some true/\∃h',s'={ s with heap:=h' } /\ Y3 a s.heap h'/\bS knd h' a (oneMore D k))->wpAny (model prog w) A (match r with|some added=>pure added|none=>setAddHashedIn a x (knd.hash k) 99999) Q E s':=by
   rintro r s' ⟨rfl,h',rfl,sb,sk⟩
   exact wpAny_pure (fin true h' sb sk)
  refine wpAny_bind (Hw _ ?_)
  cases g8:t1.plain with
  | false=>
   rw[if_neg Jo]
   refine wpAny_bind (wpAny_pure ?_)
   rw[if_pos rfl]
   exact wpAny_mono (tail t1 g1 Lq ft _) (fun r s' q=>out r s' q) fun _ _ z=>z
  | true=>
   rw[if_pos rfl]
   refine wpAny_bind ?_
   rw[hashByValue_scannable 8 hx]
   refine wpAny_pure ?_
   cases plainKind x with
   | true=>
    rw[if_pos rfl]
    exact wpAny_mono (tail t1 g1 Lq ft _) (fun r s' q=>out r s' q) fun _ _ z=>z
   | false=>
    rw[if_neg Jo]
    exact wpAny_mono (tail { t1 with plain:=false } g1 Lq (SetTable.fits_plain_off ft) _) (fun r s' q=>out r s' q) fun _ _ z=>z
theorem bS.at' {D:List K}{h h':Heap}(x:bS knd h a D)(k:∀o,h.get? a=some o->h'.get? a=some o):bS knd h' a D:=⟨x.1.at' k,x.2.at' k⟩
end
noncomputable def Du:PyData->Str
 | .str x=>x
 | d=>d.shown
section
variable {X:Cx}{pins:List (Addr×Obj)}{σ:St}{H:Hp}{s:Shared}
mutual
theorem mZ (I:Inv X pins σ H s):∀(d:PyData) (x:V) (u:Value),Den X.K H d x->RelV x u->∃as,Reads s.heap u d as
 | .none,x,u,h,r=>by unfold Den at h;subst h;cases r;exact⟨_,.none⟩
 | .bool b,x,u,h,r=>by unfold Den at h;subst h;cases r;exact⟨_,.bool b⟩
 | .int i,x,u,h,r=>by unfold Den at h;subst h;obtain⟨t,rfl⟩:=r;exact⟨_,.int i t⟩
 | .str y,x,u,h,r=>by unfold Den at h;subst h;obtain⟨t,rfl⟩:=r;exact⟨_,.str y t⟩
 | .list ds,x,u,h,r=>by
  unfold Den at h
  obtain⟨a,vs,rfl,h1,h2⟩:=h
  cases r
  obtain⟨aw,rv,pl,hz⟩:=I.list h1
  obtain⟨o,e1,e2,n,e3⟩:=pl.isList
  obtain⟨bs,hb⟩:=ig I ds vs aw h2 rv
  exact⟨_,.list e1 e2 e3 (by simpa using hb)⟩
 | .tuple ds,x,u,h,r=>by
  unfold Den at h
  obtain⟨a,vs,rfl,h1,h2⟩:=h
  cases r
  obtain⟨aw,rv,⟨o,e1,e2,n,e3⟩,hz⟩:=I.tuple h1
  obtain⟨bs,hb⟩:=ig I ds vs aw h2 rv
  exact⟨_,.tuple e1 e2 e3 (by simpa using hb)⟩
 | .dict _,x,u,h,r=>by unfold Den at h;exact h.elim
theorem ig (I:Inv X pins σ H s):∀(ds:List PyData) (vs:List V) (us:List Value),az X.K H ds vs->Vals vs us->∃as,ReadsAll s.heap us ds as
 | [],vs,us,h,r=>by unfold az at h;subst h;cases r;exact⟨_,.nil⟩
 | d::ds,vs,us,h,r=>by
  unfold az at h
  obtain⟨v,vr,rfl,h1,h2⟩:=h
  cases r with
  | cons r1 r2=>
   obtain⟨as,ha⟩:=mZ I d _ _ h1 r1
   obtain⟨bs,hb⟩:=ig I ds _ _ h2 r2
   exact⟨_,.cons ha hb⟩
end
mutual
theorem nodict {K:Ja}{H:Hp}:∀(d:PyData) (x:V),Den K H d x->d.hasDict=false
 | .none,_,_=>rfl
 | .bool _,_,_=>rfl
 | .int _,_,_=>rfl
 | .str _,_,_=>rfl
 | .list ds,x,h=>by
  unfold Den at h
  obtain⟨a,vs,_,_,h2⟩:=h
  simp only[PyData.hasDict]
  exact oO ds vs h2
 | .tuple ds,x,h=>by
  unfold Den at h
  obtain⟨a,vs,_,_,h2⟩:=h
  simp only[PyData.hasDict]
  exact oO ds vs h2
 | .dict _,x,h=>by unfold Den at h;exact h.elim
theorem oO {K:Ja}{H:Hp}:∀(ds:List PyData) (vs:List V),az K H ds vs->PyData.hasDictAll ds=false
 | [],_,_=>rfl
 | d::ds,vs,h=>by
  unfold az at h
  obtain⟨v,r,_,h1,h2⟩:=h
  simp only[PyData.hasDictAll,nodict d v h1,oO ds r h2,Bool.or_false]
end
noncomputable def K3 (K:Ja):List V->Hp->VK->Prop:=fun xs H Q=>cj fun(x:V) (d:PyData)=>xs=[x]/\Den K H d x/\d.showable=true/\d.depth<=40/\d.shown.length<=sizeLine/\Q (.str (Du d)) H
theorem Ef (K:Ja)(hg:X.A.guards=some [])(hu:X.A.units+64<cLine)(hK:X.K=K:=by rfl):bZ X (.type "str") (K3 K):=by
 subst hK
 intro pins s σ H xs us Q I r h
 obtain⟨x,d,rfl,hd,hs,hp,hz,q⟩:=h
 obtain⟨u,rfl,ru⟩:=vals1 r
 have nd:=nodict d x hd
 obtain⟨as,rd⟩:=mZ I d x u hd ru
 cases d with
 | none=>cases rd;exact PySem.P.str_of_none ⟨.str _,H,I.tok _,⟨_,rfl⟩,q⟩
 | bool b=>cases rd;exact PySem.P.str_of_bool ⟨.str _,H,I.tok _,⟨_,rfl⟩,q⟩
 | int i=>
  cases rd
  refine PySem.P.str_of_int (by simpa [PyData.showable] using hs) ⟨.str _,H,I.tok _,⟨_,rfl⟩,q⟩
 | str y=>cases rd;exact PySem.P.str_of_str ⟨.str _,H,I,⟨_,rfl⟩,q⟩
 | list ds=>
  have CY:∃a,u = .ref a:=by cases rd;exact⟨_,rfl⟩
  obtain⟨a,rfl⟩:=CY
  exact str_of_reads rd hs (fun z=>by rw[nd] at z;cases z) hg (by first|lia|omega) (fun _ _ e=>e) (fun h' u' tk k=>⟨.str _,H,I.kept k,⟨_,rfl⟩,q⟩) hz
 | tuple ds=>
  have CY:∃a,u = .ref a:=by cases rd;exact⟨_,rfl⟩
  obtain⟨a,rfl⟩:=CY
  exact str_of_reads rd hs (fun z=>by rw[nd] at z;cases z) hg (by first|lia|omega) (fun _ _ e=>e) (fun h' u' tk k=>⟨.str _,H,I.kept k,⟨_,rfl⟩,q⟩) hz
 | dict _=>unfold Den at hd;exact hd.elim
end
structure Di (P:Program)(w:World)(K:Type)[DecidableEq K] where
 knd:PySem.KeyKind P w K
 v:K->V
 ok:∀k u,RelV (v k) u->knd.is k u=true/\u.scannable=true
noncomputable def Av (P:Program)(w:World):Di P w Str:=⟨strKind P w,V.str,fun k u r=>by obtain⟨t,rfl⟩:=r;exact⟨strKind_is _ _ _ _,rfl⟩⟩
noncomputable def xq {P:Program}{w:World}{K:Type}[DecidableEq K](kv:Di P w K)(a:Addr)(D:List K):HO := .ext fun h=>bS kv.knd h a D
theorem AB {P:Program}{w:World}{K:Type}[DecidableEq K]{kv:Di P w K}{a:Addr}{D:List K}{H:Hp}{h:Heap}(x:bS kv.knd h a D):bf P w H h a (xq kv a D):=by
 have x':=x.1
 obtain⟨o,es,ep,t,e,rest⟩:=x'
 exact⟨x,⟨o,e⟩,fun h1 h2 y k=>bS.at' y k⟩
theorem sR {prog:Program}{w:World}{K:Type}[DecidableEq K]{knd:PySem.KeyKind prog w K}{h:Heap}{a:Addr}{led:Bool}(e:h.get? a=some (cf led)):iL knd h a []:=by
 have z:=(setObjOf_fresh (knd:=knd) led).setOf e (by decide)
 have q:(fun k:K=>decide (k∈([]:List K)))=fun _=>false:=by funext k;simp
 show Heap.SetOf knd _ _ (fun k=>decide (k∈([]:List K))) 0
 rw[q]
 exact z
theorem rM {prog:Program}{w:World}{K:Type}[DecidableEq K]{knd:PySem.KeyKind prog w K}{h:Heap}{a:Addr}{led:Bool}(l:w.params.followText "set-order" = false->led=true)(e:h.get? a=some (cf led)):bS knd h a []:=⟨sR e,_,_,_,_,e,rfl,tL,l⟩
theorem iZ:∀{ss:List Str} {us:List Value},StrsAre us ss->Vals (ss.map V.str) us
 | _,_,.nil =>.nil
 | _,_,.cons _ _ h =>.cons ⟨_,rfl⟩ (iZ h)
section
variable {X:Cx}{H Hj:Hp}{s sj:Shared}{pins:List (Addr×Obj)}{σ:St}
structure Run (X:Cx)(H:Hp)(s:Shared)(Hj:Hp)(sj:Shared):Prop where
 un:Un (fP X.stack) [] H Hj s.heap sj.heap
 aV:eO X.prog X.w Hj sj.heap
 os:sj.os=s.os
 bare:AllBare sj.gens
theorem Run.inv (r:Run X H s Hj sj)(I:Inv X pins σ H s):Inv X pins σ Hj sj:=I.pV (ch:=[]) r.os r.un r.aV r.bare fun _ z=>by cases z
theorem Run.start (I:Inv X pins σ H s):Run X H s H s:=⟨Un.refl,I.aV,rfl,I.bare⟩
theorem Run.kept {h':Heap}(r:Run X H s Hj sj)(k:∀b u,sj.heap.get? b=some u->h'.get? b=some u):Run X H s Hj { sj with heap:=h' }:=⟨r.un.trans (Un.kept k),r.aV.kept k,r.os,r.bare⟩
theorem Run.alter {h':Heap}{b:Addr}(r:Run X H s Hj sj)(hb:s.heap.get? b=none)(hn:Hj b=none)(k:∀c u,c≠b->sj.heap.get? c=some u->h'.get? c=some u):Run X H s Hj { sj with heap:=h' }:=by
 have ne:∀{c:Addr} {o:Obj},s.heap.get? c=some o->c≠b:=fun e z=>by rw[z,hb] at e;cases e
 refine⟨⟨fun c o q n h1 h2=>k c o (ne q) (r.un.keep c o q n h1 h2),fun c o q n h1 h2 =>?_,r.un.free,fun c o q h1 =>?_,r.un.fN,r.un.eY,r.un.fT⟩,fun a o e=>(r.aV a o e).d6 (fun c u hc q=>k c u ?_ q) (fun _ q=>q) fun _ _ q=>q,r.os,r.bare⟩
 ·obtain⟨sl,e⟩:=r.un.slot c o q n h1 h2
  exact⟨sl,k c _ (ne q) e⟩
 ·obtain⟨o',e⟩:=r.un.there c o q h1
  exact⟨o',k c _ (ne q) e⟩
 ·rintro rfl
  rcases hc with rfl|hc
  ·rw[hn] at e;cases e
  ·rw[hn] at hc;cases hc
theorem Run.told {b:Addr}{o:HO}(r:Run X H s Hj sj)(hb:s.heap.get? b=none)(hn:Hj b=none)(new:bf X.prog X.w (upd Hj b o) sj.heap b o):Run X H s (upd Hj b o) sj:=by
 have ne:∀{c:Addr} {o:Obj},s.heap.get? c=some o->c≠b:=fun e z=>by rw[z,hb] at e;cases e
 have hH:∀{c:Addr} {q:HO},Hj c=some q->c≠b:=fun e z=>by rw[z,hn] at e;cases e
 refine⟨⟨r.un.keep,r.un.slot,fun c o q n h1=>by rw[ao (ne q)];exact r.un.free c o q n h1,r.un.there,fun c xs q =>?_,fun c o u q =>?_,fun c ps q =>?_⟩,fun a u e =>?_,r.os,r.bare⟩
 ·have:=r.un.fN c xs q;rw[ao (hH this)];exact this
 ·have:=r.un.eY c o u q;rw[ao (hH this)];exact this
 ·obtain⟨more,e⟩:=r.un.fT c ps q
  exact⟨more,by rw[ao (hH e)];exact e⟩
 ·by_cases z:a=b
  ·subst z;rw[aH] at e;cases e;exact new
  ·rw[ao z] at e
   exact(r.aV a u e).d6 (fun _ _ _ q=>q) (fun c q=>by rw[ao (hH q)];exact q) fun c xs q=>by rw[ao (hH q)];exact q
theorem Run.called {Q:VK}{u:Value}{s':Shared}(r:Run X H s Hj sj)(c:CE X.stack X.prog X.w Hj sj Q u s'):∃v H',Run X H s H' s'/\RelV v u/\Q v H'/\Un (fP X.stack) [] Hj H' sj.heap s'.heap:=by
 obtain⟨v,H',os,bare,un,aV,rv,q⟩:=c
 exact⟨v,H',⟨r.un.trans un,aV,os.trans r.os,bare⟩,rv,q,un⟩
end
noncomputable def C5 (X:Cx)(f:Value)(r:V->Hp->VK->Prop):Prop:=
 ∀ ⦃pins:List (Addr×Obj)⦄ (s:Shared) (σ:St) (H:Hp) (x:V) (u:Value) (Q:VK),Inv X pins σ H s->RelV x u->r x H Q ->
  wpAny (model X.prog X.w) X.A.in1.in1 (call f [u]) (CE X.stack X.prog X.w H s Q) (fun _ _=>False) s
theorem EU {X:Cx}{k:Nat}{f:Addr}{fd:FuncData}{ps:List Str}{sp:Sp}(F:bA X.prog X.w X.K X.mg X.base fQ k f fd ps sp)(hr:cL (k+2) X.A)(hb:Binds X.K fd ps []):C5 X (.ref f) fun x H Q=>sp [x] H Q E0:=by
 intro pins s σ H x u Q I rx h
 have rv:Vals [x] [u] := .cons rx .nil
 have hl:([u]++([]:List Value)).length=ps.length:=F.len _ _ _ _ h
 have b:=hb s [u] I.jv hl
 rw[U5] at b
 refine wpAny_call (codeAny_mono (F.run X.A.in1.in1 X.stack s H ⟨[u],[]⟩ [u] [x] Q E0 hr.in1.in1 I.AN.in1.in1 b rv h) fun r s' hq =>?_)
 cases r with
 | error e=>exact hq.elim
 | ok fl=>cases fl with
  | ret u=>exact hq
  | next=>exact False.elim hq
  | brk=>exact False.elim hq
  | cont=>exact False.elim hq
noncomputable def gX (a b:Str):Prop:=a.length<b.length∨(a.length=b.length/\a.cps.toList<b.cps.toList)
noncomputable instance (a b:Str):Decidable (gX a b):=by unfold gX;infer_instance
theorem Bb {x y:Str}(h:x.cps.toList=y.cps.toList):x=y:=by
 cases x;cases y;congr 1;exact Array.toList_inj.mp h
theorem jR (a:Str):¬gX a a:=fun h=>by
 rcases h with h|⟨_,h⟩
 ·(first|lia|omega)
 ·exact List.lt_irrefl _ h
theorem rL {a b c:Str}(h1:gX a b)(h2:gX b c):gX a c:=by
 rcases h1 with h1|⟨e1,h1⟩<;>rcases h2 with h2|⟨e2,h2⟩
 ·exact .inl (by first|lia|omega)
 ·exact .inl (by first|lia|omega)
 ·exact .inl (by first|lia|omega)
 ·exact .inr ⟨by first|lia|omega,List.lt_trans h1 h2⟩
theorem Am {a b:Str}(h:a≠b):gX a b∨gX b a:=by
 by_cases h1:a.length<b.length
 ·exact .inl (.inl h1)
 by_cases h2:b.length<a.length
 ·exact .inr (.inl h2)
 by_cases h3:a.cps.toList<b.cps.toList
 ·exact .inl (.inr ⟨by first|lia|omega,h3⟩)
 ·refine .inr (.inr ⟨by first|lia|omega,?_⟩)
  rcases List.le_iff_lt_or_eq.mp (List.not_lt.mp h3) with z|z
  ·exact z
  ·exact absurd (Bb z).symm h
noncomputable def rk (L:List Str)(t:Str):Nat:=L.countP fun u=>decide (gX u t)
theorem m7 {α:Type}{p q: α->Bool}:∀{L:List α} {t: α},(∀v∈L,p v=true->q v=true)->t∈L->q t=true->p t=false->L.countP p<L.countP q
 | [],_,_,m,_,_=>by cases m
 | v::L,t,h,m,h1,h2=>by
  have hle:L.countP p<=L.countP q:=List.countP_mono_left fun v hv=>h v (Jh _ hv)
  rw[List.countP_cons,List.countP_cons]
  rcases Uc.mp m with rfl|m
  ·rw[h1,h2];simp; (first|lia|omega)
  ·have:=m7 (fun v hv=>h v (Jh _ hv)) m h1 h2
   by_cases hp:p v=true
   ·rw[hp,h v Jk hp];simp; (first|lia|omega)
   ·rw[if_neg hp]; (first|lia|omega)
theorem CJ {L:List Str}{t u:Str}(ht:t∈L)(h:gX t u):rk L t<rk L u:=
 m7 (fun v _ hv=>decide_eq_true (rL (of_decide_eq_true hv) h)) ht (decide_eq_true h) (decide_eq_false (jR t))
theorem xE {L:List Str}{t u:Str}(ht:t∈L)(hu:u∈L):gX t u↔rk L t<rk L u:=by
 refine⟨CJ ht,fun h =>?_⟩
 by_cases e:t=u
 ·subst e; (first|lia|omega)
 rcases Am e with z|z
 ·exact z
 ·have:=CJ hu z; (first|lia|omega)
noncomputable def iQ (H:Hp)(v:Value):Str:=match v with
 | .ref q=>match H q with
  | some (.tup [_,.str t])=>t
  | _=>⟨#[]⟩
 | _=>⟨#[]⟩
noncomputable def B0 (H:Hp)(L:List Str)(p:Keyed):Int:=rk L (iQ H p.1)
noncomputable def d8 (H:Hp)(t:Str)(v:Value):Prop:=∃q,v = .ref q/\H q=some (.tup [.int t.length,.str t])
theorem d8.txt {H:Hp}{t:Str}{v:Value}(h:d8 H t v):iQ H v=t:=by
 obtain⟨q,rfl,e⟩:=h
 unfold iQ;simp only[e]
theorem d8.obj {P:Program}{w:World}{H:Hp}{t:Str}{v:Value}{h:Heap}(k:d8 H t v)(ok:eO P w H h):∃q o n t1 t2,v = .ref q/\h.get? q=some o/\o.cls = .type "tuple" /\ o.data = .seq #[.int t.length t1,.str t t2] n:=by
 obtain⟨q,rfl,e⟩:=k
 obtain⟨_,aw,r,o,e1,c,n,d⟩:=ok q _ e
 obtain⟨w1,w2,rfl,⟨t1,rfl⟩,⟨t2,rfl⟩⟩:=vals2 r
 exact⟨q,o,n,t1,t2,rfl,e1,c,d⟩
noncomputable abbrev mD:SortKind:=tuples' (Value.type "int" != Value.type "tuple")
section
variable {prog:Program}{w:World}{A:Around}{E:Value->Shared->Prop}{s:Shared}
theorem EE {H:Hp}{L:List Str}{a₀:Array Keyed}(ok:eO prog w H s.heap)(h0:∀x∈a₀.toList,∃t,t∈L/\d8 H t x.1):iG prog w A E s a₀ (B0 H L) mD:=fun st x y Q hx hy hk q=>by
 refine ae.el (h0 x hx) _ ?_
 rintro t mt kt
 refine ae.el (h0 y hy) _ ?_
 rintro u mu ku
 have q':Q (some (decide (gX t u))) st:=by
  have e:decide (B0 H L x<B0 H L y)=decide (gX t u):=decide_eq_decide.mpr (by unfold B0;rw[kt.txt,ku.txt,Int.ofNat_lt];exact(xE mt mu).symm)
  rw[e] at q;exact q
 clear q
 refine ae.el (kt.obj ok) _ ?_
 rintro q1 o1 n1 t1 t2 e1 g1 _ d1
 refine ae.el (ku.obj ok) _ ?_
 rintro q2 o2 n2 u1 u2 e2 g2 _ d2
 rw[lt'_eq]
 refine wpS_bind (wpS_get ?_)
 rw[hk,e1,e2]
 refine wpS_bind (wpS_lift (wpAny_attempt (wpAny_mono (kat_lt g1 d1 g2 d2 (Q:=fun b s'=>b=decide (gX t u)/\s'=s) ?_) (fun b s' hb =>?_) (fun _ _ z=>False.elim z))))
 ·show KatLex _ _ _ _ _ _ [(_,_),(_,_)] 0 s
  refine kat_cons (wpAny_eqBool_int ?_)
  by_cases c:t.length=u.length
  ·rw[show((t.length:Int)==(u.length:Int))=true by simp -iota [c]]
   refine kat_yes (kat_cons (wpAny_eqBool_str ?_))
   by_cases d:t=u
   ·rw[decide_eq_true d]
    refine kat_yes (kat_nil ⟨?_,rfl⟩)
    subst d
    exact(decide_eq_false (jR t)).symm
   ·rw[decide_eq_false d]
    refine kat_no (kat_one _ _ (lt_str ?_))
    refine⟨?_,rfl⟩
    refine decide_eq_decide.mpr ⟨fun z =>.inr ⟨c,z⟩,fun z =>?_⟩
    rcases z with z|z
    ·(first|lia|omega)
    ·exact z.2
  ·rw[show((t.length:Int)==(u.length:Int))=false by simp; (first|lia|omega)]
   refine kat_no (oneLt_int ⟨?_,rfl⟩)
   refine decide_eq_decide.mpr ⟨fun z =>.inl (by first|lia|omega),fun z =>?_⟩
   rcases z with z|z
   ·(first|lia|omega)
   ·exact absurd z.1 c
 ·obtain⟨rfl,rfl⟩:=hb
  exact⟨rfl,wpS_pure q'⟩
end
section
variable {X:Cx}{H:Hp}{s0:Shared}{pins:List (Addr×Obj)}{σ:St}{D kS:Addr}{ts:List Str}{vs:List Value}
structure Kj (X:Cx)(H:Hp)(s0:Shared)(D kS:Addr)(e1:Nat)(ts:List Str)(Hj:Hp)(ks:List Value)(sj:Shared):Prop where
 run:Run X H s0 Hj sj
 same:au H Hj
 dn:Hj D=none
 kn:Hj kS=none
 d0:s0.heap.get? D=none
 k0:s0.heap.get? kS=none
 ne:kS≠D
 dat:sj.heap.get? D=some (seqObj "list" #[] e1)
 kat:∃e,sj.heap.get? kS=some (seqObj "list" ks.toArray e)
 keys:Paired (d8 Hj) ts ks
theorem lH {α β:Type}{R: α -> β->Prop}{a: α}{b: β}:∀{l₁:List α} {l₂:List β},Paired R l₁ l₂->R a b->Paired R (l₁++[a]) (l₂++[b])
 | _,_,.nil,h =>.cons h .nil
 | _,_,.cons r t,h =>.cons r (lH t h)
theorem Cr (I:Inv X pins σ H s0){b:Addr}(h:s0.heap.get? b=none):b∉fP X.stack:=fun hb=>by
 refine ae.el (I.stack.mem hb) _ ?_
 rintro _ o e _
 rw[h] at e;cases e
theorem d8.new {H H':Hp}{t:Str}{v:Value}{q:Addr}{o:HO}(k:d8 H t v)(n:cV H q o H'):d8 H' t v:=by
 obtain⟨a,rfl,e⟩:=k
 exact⟨a,rfl,n.same _ _ e⟩
theorem Kj.more {e1:Nat}{Hj:Hp}{ks:List Value}{sj s':Shared}{t:Str}{u:Value}(I:Inv X pins σ H s0)(k:Kj X H s0 D kS e1 ts Hj ks sj)(hz:ks.length<sizeLine)
  (c:CE X.stack X.prog X.w Hj sj (fun v H'=>∃q,v = .ref q/\cV Hj q (.tup [.int t.length,.str t]) H') u s') :
  ∃e,s'.heap.get? kS=some (seqObj "list" ks.toArray e)/\∃Hi,Kj X H s0 D kS e1 (ts++[t]) Hi (ks++[u]) { s' with heap:=s'.heap.update kS (Obj.mapSeq (·.push u)) }:=by
 obtain⟨v,H',r',rv,⟨q,rfl,n⟩,un⟩:=k.run.called c
 cases rv
 obtain⟨e,hk⟩:=k.kat
 have nd:=un.keep D _ k.dat k.dn (Cr I k.d0) (by simp)
 have nk:=un.keep kS _ hk k.kn (Cr I k.k0) (by simp)
 have fd:=un.free D _ k.dat k.dn (by simp)
 have fk:=un.free kS _ hk k.kn (by simp)
 refine⟨e,nk,H',?_⟩
 refine⟨r'.alter k.k0 fk fun c u hc q=>by rw[Yg _ _ _ _ hc];exact q,fun a o z=>n.same _ _ (k.same a o z),fd,fk,k.d0,k.k0,k.ne,?_,?_,?_⟩
 ·show(s'.heap.update _ _).get? D=_
  rw[Yg _ _ _ _ k.ne.symm];exact nd
 ·have ea:ks.toArray.push (Value.ref q)=List.toArray (ks++[.ref q]):=by simp
  exact⟨_,by rw[<-ea];exact get?_update_seq nk (·.push (Value.ref q))⟩
 ·exact lH (Paired.imp' (fun a b z=>d8.new z n) k.keys) ⟨q,rfl,n.at⟩
theorem kF {Hn:Hp}:∀{ts:List Str} {ks vs:List Value},Paired (d8 Hn) ts ks->Vals (ts.map V.str) vs->(ks.zip vs).map (fun p=>iQ Hn p.1)=ts/\∀p∈ks.zip vs,∃t,t∈ts/\d8 Hn t p.1/\RelV (.str t) p.2
 | [],_,_,.nil,.nil=>⟨rfl,fun _ h=>by cases h⟩
 | t::ts,_,_,.cons r a,.cons q b=>by
  obtain⟨e,m⟩:=kF a b
  refine⟨?_,fun p hp =>?_⟩
  ·rw[List.zip_cons_cons,Ub,e]
   show iQ Hn _::ts=_
   rw[r.txt]
  ·rw[List.zip_cons_cons] at hp
   rcases Uc.mp hp with rfl|hp
   ·exact⟨t,Jk,r,q⟩
   ·obtain⟨t,h1,h2⟩:=m p hp
    exact⟨t,Jh _ h1,h2⟩
theorem rj {Hn:Hp}:∀{l:List Keyed},(∀p∈l,RelV (.str (iQ Hn p.1)) p.2)->Vals ((l.map fun p=>iQ Hn p.1).map V.str) (l.map (·.2))
 | [],_ =>.nil
 | p::l,h =>.cons (h p Jk) (rj fun q hq=>h q (Jh _ hq))
noncomputable def Ec (X:Cx)(H:Hp)(s0:Shared)(D:Addr)(ts:List Str)(P:Shared->Prop):Prop:=
 ∀(us:List Str) (out:Array Value) (Hn:Hp) (sn:Shared) (e:Nat),Run X H s0 Hn sn->au H Hn->Hn D=none->sn.heap.get? D=some (seqObj "list" out e)->Vals (us.map V.str) out.toList->us.Perm ts->us.Pairwise (fun a b =>¬gX b a)->P sn
theorem lA {A:Around}{E:Value->Shared->Prop}{e1:Nat}{Hn:Hp}{ks:List Value}{sn:Shared}{P:PySem.Fin->Shared->Prop}{st:SortSt}(k:Kj X H s0 D kS e1 ts Hn ks sn)(rv:Vals (ts.map V.str) vs)(hz:ts.length<=sizeLine)
  (hp:(arrOf st).Perm (ks.toArray.zip vs.toArray)) (hf:failedOf st=none) (hs:Sg (B0 Hn ts) (arrOf st) 0 (arrOf st).size) (h:Ec X H s0 D ts fun sn=>P (.done (.ret .none)) sn) :
  wpAny (model X.prog X.w) A (ksk_tail D false e1 (.ref kS) st) P E sn:=by
 obtain⟨e,hk⟩:=k.kat
 have lk:ks.length=ts.length:=k.keys.length.symm
 have g8:(arrOf st).toList.Perm (ks.zip vs):=by
  have:=Wf.mp hp
  rw[ksk_zip] at this;exact this
 obtain⟨z1,z2⟩:=kF k.keys rv
 have z3:∀p∈(arrOf st).toList,∃t,t∈ts/\d8 Hn t p.1/\RelV (.str t) p.2:=fun p h=>z2 p (g8.subset h)
 have up:((arrOf st).toList.map fun p=>iQ Hn p.1).Perm ts:=by rw[<-z1];exact g8.map _
 have ul:=up.length_eq
 rw[Jb,Jv] at ul
 have d1:(sn.heap.update kS (Obj.mapSeq fun _=>(#[]:Array Value))).get? D=some (seqObj "list" #[] e1):=by rw[Yg _ _ _ _ k.ne.symm];exact k.dat
 unfold ksk_tail
 try dsimp only
 refine wpAny_bind (listUpdate_at hk rfl ?_ (by rw[Jn]; (first|lia|omega)) (Us _))
 refine wpAny_bind (wpAny_letGo ?_)
 refine wpAny_bind (seqEpoch_at d1 rfl ?_)
 simp -iota only [Ug,if_false]
 refine wpAny_bind (listUpdate_at d1 rfl ?_ (Us _) (by rw[Array.size_map]; (first|lia|omega)))
 rw[hf]
 simp -iota only [bne_self_eq_false,Ug,if_false]
 obtain⟨e2,g2⟩:∃e2,((sn.heap.update kS (Obj.mapSeq fun _=>(#[]:Array Value))).update D (Obj.mapSeq fun _=>(arrOf st).map (·.2))).get? D=some (seqObj "list" ((arrOf st).map (·.2)) e2):=⟨_,get?_update_seq d1 fun _=>(arrOf st).map (·.2)⟩
 have r1:=k.run.alter (h':=sn.heap.update kS (Obj.mapSeq fun _=>(#[]:Array Value))) k.k0 k.kn fun c u hc q=>by rw[Yg _ _ _ _ hc];exact q
 have r2:=r1.alter (h':=(sn.heap.update kS (Obj.mapSeq fun _=>(#[]:Array Value))).update D (Obj.mapSeq fun _=>(arrOf st).map (·.2))) k.d0 k.dn fun c u hc q=>by rw[Yg _ _ _ _ hc];exact q
 refine wpAny_pure (h _ _ Hn _ e2 r2 k.same k.dn g2 ?_ up ?_)
 ·rw[Array.toList_map]
  exact rj fun p hp=>by
   refine ae.el (z3 p hp) _ ?_
   rintro t _ h2 h3
   rw[h2.txt];exact h3
 ·rw[List.pairwise_map,Ur]
  intro i j hi hj fg
  rw[Jv] at hi hj
  have q:=hs i j (Us _) (U6 fg) hj
  have ki:∀{i:Nat} (hi:i<(arrOf st).size),ky (B0 Hn ts) (arrOf st) i=rk ts (iQ Hn ((arrOf st)[i]).1):=fun{i} hi=>by unfold ky;rw[Uh hi];rfl
  rw[ki hi,ki hj] at q
  rw[Array.getElem_toList,Array.getElem_toList]
  obtain⟨t,m1,k1,_⟩:=z3 (arrOf st)[i] (by rw[<-Array.getElem_toList];exact Jt _)
  obtain⟨u,m2,k2,_⟩:=z3 (arrOf st)[j] (by rw[<-Array.getElem_toList];exact Jt _)
  rw[k1.txt,k2.txt] at q ⊢
  intro z
  have:=(xE m2 m1).mp z
  (first|lia|omega)
theorem uE {P:Program}{w:World}{Hn:Hp}{h:Heap}(ok:eO P w Hn h):∀{ts:List Str} {ks:List Value},Paired (d8 Hn) ts ks->∃fs,KatTups h ks fs/\fs.length=ks.length/\∀v∈fs,∃z t,v=Value.int z t
 | [],_,.nil=>⟨[],.nil,rfl,fun v hv=>by cases hv⟩
 | t::ts,_,.cons r k=>by
  refine ae.el (uE ok k) _ ?_
  rintro fs a l q
  refine ae.el (r.obj ok) _ ?_
  rintro x o n t1 t2 rfl e1 e2 e3
  refine⟨.int t.length t1::fs,.cons e1 e2 e3 rfl a,by rw[J8,J8,l],fun v hv =>?_⟩
  rcases Uc.mp hv with rfl|hv
  ·exact⟨_,_,rfl⟩
  ·exact q v hv
theorem wk {A:Around}{E:Value->Shared->Prop}{e1:Nat}{Hn:Hp}{ks:List Value}{sn:Shared}{P:PySem.Fin->Shared->Prop}(k:Kj X H s0 D kS e1 ts Hn ks sn)(rv:Vals (ts.map V.str) vs)(hz:ts.length<=sizeLine)
  (h:Ec X H s0 D ts fun sn=>P (.done (.ret .none)) sn):wpAny (model X.prog X.w) A (ksk_end D false vs.toArray e1 (.ref kS) ks.toArray) P E sn:=by
 have lk:ks.length=ts.length:=k.keys.length.symm
 have lv:vs.length=ts.length:=by have:=rv.length;rw[Jb] at this;exact this.symm
 obtain⟨z1,z2⟩:=kF k.keys rv
 unfold ksk_end
 try dsimp only
 simp -iota only [Ug,if_false]
 by_cases h2:vs.toArray.size<2
 ·rw[if_pos h2,if_pos h2]
  refine wpAny_bind (wpAny_pure ?_)
  rw[StateT.run_pure]
  refine wpAny_bind (wpAny_pure ?_)
  refine lA k rv hz (Array.Perm.refl _) rfl (fun i j _ fg hj =>?_) h
  have:(arrOf (SortSt.mk' general' (ks.toArray.zip vs.toArray) #[] 7 none)).size<2:=by
   show(ks.toArray.zip vs.toArray).size<2
   rw[Array.size_zip,Jn,Jn]
   rw[Jn] at h2
   (first|lia|omega)
  have Mm:j<1:=Ju hj (Wn this)
  rw[show i=j by first|lia|omega]
  exact Yz _
 ·rw[if_neg h2,if_neg h2]
  rw[Jn] at h2
  refine ae.el (uE k.run.aV k.keys) _ ?_
  rintro fs kt lf hf
  refine wpAny_bind (wpAny_mono (kat_kind (Q:=fun κ s' => κ=mD/\s'=sn) kt (by first|lia|omega) (fun v hv =>?_) (by decide) ⟨rfl,rfl⟩) (fun κ s' hk =>?_) (fun _ _ z=>z))
  ·refine ae.el (hf v hv) _ ?_
   rintro z t rfl
   exact Looks.of_pure rfl
  obtain⟨rfl,rfl⟩:=hk
  have hL:iG X.prog X.w A E s' (ks.toArray.zip vs.toArray) (B0 Hn ts) mD:=EE k.run.aV fun x hx=>by
   rw[ksk_zip] at hx
   refine ae.el (z2 x hx) _ ?_
   rintro t h1 h2 _
   exact⟨t,h1,h2⟩
  refine wpAny_bind (wpAny_mono (Bw (a₀:=ks.toArray.zip vs.toArray) (key:=B0 Hn ts) (kd:=mD) (st:=SortSt.mk' mD (ks.toArray.zip vs.toArray) #[] 7 none) (Q:=fun _ st=>Tb (ks.toArray.zip vs.toArray) mD st/\Sg (B0 Hn ts) (arrOf st) 0 (ks.toArray.zip vs.toArray).size) hL ⟨Array.Perm.refl _,rfl,rfl⟩ rfl fun _ t g=>⟨t,g⟩) ?_ fun _ _ z=>z)
  rintro⟨⟨⟩,st⟩ s2 ⟨rfl,t,g⟩
  exact lA k rv hz t.perm t.failed (by rw[t.perm.size_eq];exact g) h
theorem tG {E:Value->Shared->Prop}{f:Value}{r:V->Hp->VK->Prop}{n:Nat}{s:Shared}{P:PySem.Fin->Shared->Prop}(I:Inv X pins σ H s0)(F:C5 X f r)(hr:∀t∈ts,∀Hj,r (.str t) Hj fun v H'=>∃q,v = .ref q/\cV Hj q (.tup [.int t.length,.str t]) H')
  (r0:Run X H s0 H s) (d0:s0.heap.get? D=none) (hd:s.heap.get? D=some (seqObj "list" vs.toArray n)) (dn:H D=none) (rv:Vals (ts.map V.str) vs) (hz:ts.length<=sizeLine) (JB:∀b o,s0.heap.get? b=some o->b<s.heap.objs.size)
  (h:Ec X H s0 D ts fun sn=>P (.done (.ret .none)) sn):wpAny (model X.prog X.w) X.A.in1.in1 (ksk_tree D f false) P E s:=by
 have lv:vs.length=ts.length:=by have:=rv.length;rw[Jb] at this;exact this.symm
 obtain⟨e1,g1⟩:∃e1,(s.heap.update D (Obj.mapSeq fun _=>(#[]:Array Value))).get? D=some (seqObj "list" #[] e1):=⟨_,get?_update_seq hd fun _ =>#[]⟩
 have k1:((s.heap.update D (Obj.mapSeq fun _=>(#[]:Array Value))).push (seqObj "tuple" vs.toArray 0)).objs.size=s.heap.objs.size+1:=by rw[size_push',Heap.size_update]
 have lD:D<s.heap.objs.size:=Ji hd
 unfold ksk_tree
 refine wpAny_bind (listItems_at hd rfl ?_)
 refine wpAny_bind (listUpdate_at hd rfl ?_ (by rw[Jn]; (first|lia|omega)) (Us _))
 refine wpAny_bind (seqEpoch_at g1 rfl ?_)
 refine wpAny_bind (wpAny_newTuple ?_ (by show vs.length<=_; (first|lia|omega)))
 refine wpAny_bind (wpAny_newList ?_ (Us _))
 refine wpAny_holding ?_
 show wpAny _ _ (ksk_rest D f false vs.toArray e1 (.ref ((s.heap.update D (Obj.mapSeq fun _=>(#[]:Array Value))).push (seqObj "tuple" vs.toArray 0)).objs.size)) P E { s with heap:=((s.heap.update D (Obj.mapSeq fun _=>(#[]:Array Value))).push (seqObj "tuple" vs.toArray 0)).push (seqObj "list" #[] 0) }
 rw[k1]
 have g3:(((s.heap.update D (Obj.mapSeq fun _=>(#[]:Array Value))).push (seqObj "tuple" vs.toArray 0)).push (seqObj "list" #[] 0)).get? (s.heap.objs.size+1)=some (seqObj "list" #[] 0):=by rw[<-k1];exact Jy _ rfl
 have ra:=r0.alter (h':=s.heap.update D (Obj.mapSeq fun _=>(#[]:Array Value))) d0 dn fun c u hc q=>by rw[Yg _ _ _ _ hc];exact q
 have rb:=ra.kept (h':=((s.heap.update D (Obj.mapSeq fun _=>(#[]:Array Value))).push (seqObj "tuple" vs.toArray 0)).push (seqObj "list" #[] 0)) fun b u q=>Jd _ (Jd _ q)
 have kk:Kj X H s0 D (s.heap.objs.size+1) e1 (ts.take 0) H ([]:List Value) { s with heap:=((s.heap.update D (Obj.mapSeq fun _=>(#[]:Array Value))).push (seqObj "tuple" vs.toArray 0)).push (seqObj "list" #[] 0) }:=
  ⟨rb,fun _ _ z=>z,dn,r0.aV.fresh (Yu _),d0,by
   cases q:s0.heap.get? (s.heap.objs.size+1) with
   | none=>rfl
   | some o=>exact absurd (JB _ _ q) (by show ¬s.heap.objs.size+1<s.heap.objs.size; (first|lia|omega)),Yv (Wm lD),Jd _ (Jd _ g1),⟨0,g3⟩,.nil⟩
 unfold ksk_rest
 refine wpAny_bind (wpAny_rule ?_)
 first
  | rw[List.forIn_toArray]
  | (rw[<-Array.forIn_toList];simp -iota only [List.toList_toArray])
  | rw[<-Array.forIn_toList]
 refine wpAny_bind (ksk_fold (I:=fun j s'=>∃Hj ks,Kj X H s0 D (s.heap.objs.size+1) e1 (ts.take j) Hj ks s') vs 0 _ ⟨_,_,kk⟩ (fun j x s' hx hI =>?_) fun s' hI =>?_)
 ·refine ae.el (hI) _ ?_
  rintro Hj ks k
  rw[Nat.zero_add] at k ⊢
  have hj:j<ts.length:=by have:=(Js.mp hx).1; (first|lia|omega)
  obtain⟨u,hu,ru⟩:=rv.get (i:=j) (x := .str ts[j]) (by rw[Jm,Je hj];rfl)
  rw[hx] at hu;cases hu
  have lk:ks.length=j:=by have:=k.keys.length;rw[Jw] at this; (first|lia|omega)
  refine wpAny_bind (wpAny_attempt (wpAny_mono (F s' σ Hj _ _ _ (k.run.inv I) ru (hr ts[j] (Jt hj) Hj)) (fun v s2 c =>?_) fun _ _ z=>z.elim))
  refine ae.el (k.more I (by first|lia|omega) c) _ ?_
  rintro e nk Hi k'
  try dsimp only
  refine wpAny_bind (listUpdate_at nk rfl ?_ (by rw[Jn]; (first|lia|omega)) (Jp (Yj (Wi ..)) (by rw[Jn]; (first|lia|omega))))
  refine wpAny_pure ⟨rfl,Hi,ks++[v],?_⟩
  rw[List.take_succ_eq_append_getElem hj]
  exact k'
 ·refine ae.el (hI) _ ?_
  rintro Hj ks k
  rw[Nat.zero_add,lv,Ui] at k
  obtain⟨e,hk⟩:=k.kat
  try dsimp only
  refine wpAny_bind (listItems_at hk rfl ?_)
  exact wk k rv hz h
end
noncomputable def yQ (X:Cx)(id:String)(ks:List Str)(r:List V->List V->Hp->VK->Prop):Prop:=
 ∀ ⦃pins:List (Addr×Obj)⦄ (s:Shared) (σ:St) (H:Hp) (xs:List V) (us:List Value) (zs:List V) (ws:List Value) (Q:VK),Inv X pins σ H s->Vals xs us->Vals zs ws->r xs zs H Q ->
  wpAny (model X.prog X.w) X.A (call (.builtin id) us (ks.zip ws)) (EP X pins σ Q) X.xe s
section
variable {X:Cx}{x:Str}{p pos:Pos}{e:Expr}{es:List Expr}{xU:List Keyword}{t tk:TA}{id:String}{ks:List Str}{r:List V->List V->Hp->VK->Prop}
noncomputable def KI (r:List V->List V->Hp->VK->Prop)(t tk:TA):TE:=fun σ H Q=>t σ H fun vs H1=>tk σ H1 fun zs H2=>r vs zs H2 Q
theorem wu (hc:yQ X id ks r)(hg:Gl X x)(hm:X.mg x=none)(hv:bootBuiltins x=some (.builtin id))(ha:PA X (e::es) t)(QU:PK X xU tk)(hn:x ≠ "__name__":=by decide)(rD:(x==("__debug__" : Str))=false:=by decide)
  (he:backTo pos (starEach (e::es) X.env)=(false,eval e X.env)::backTo pos (starEach es X.env):=by rfl) (g8:(backTo pos (starEach (e::es) X.env)).any (·.1)=false:=by rfl)
  (gY:(backToKw pos (keywordEach xU X.env)).all (·.1.isSome)=true:=by rfl) (Hd:(backToKw pos (keywordEach xU X.env)).any (·.1.isNone)=false:=by rfl) (Ft:(backToKw pos (keywordEach xU X.env)).filterMap (·.1)=ks:=by rfl) :
  PE X (.Call (.Name x p) (e::es) xU pos) (KI r t tk):=by
 intro pins s σ H Q I h
 refine wpAny_Call_Name_kw (gI I hg hm hv ?_ hn rD)
 refine callWith_kw (aQ (ha s σ H _ I h) fun us s1 hz_=>ae.el hz_ _ fun vs H1 I1 r1 q1 =>?_) he g8 gY Hd
 refine aQ (QU s1 σ H1 _ I1 q1) fun ws s2 hz_ =>?_
 refine ae.el hz_ _ ?_
 clear hz_
 rintro zs H2 I2 r2 q2
 rw[Ft]
 exact hc s2 σ H2 vs us zs ws Q I2 r1 r2 q2
end
section
variable {X:Cx}(K:Ja)
theorem ya {f:Addr}{r:V->Hp->VK->Prop}(F:C5 X (.ref f) r)(hK:X.K=K:=by rfl):yQ X "sorted" [Str.ofString "key"] (fun xs zs H Q=>cj fun(p:Addr) (ts:List Str)=>xs=[.ref p]/\zs=[.ref f]/\aG K H p (ts.map V.str) /\
  (∀t∈ts,∀Hj,r (.str t) Hj fun v H'=>∃q,v = .ref q/\cV Hj q (.tup [.int t.length,.str t]) H') /\
  ∀(us:List Str) (q:Addr) (H':Hp),us.Perm ts->us.Pairwise (fun a b =>¬gX b a)->au H H'->H q=none->H' q=some (.lst (us.map V.str))->Q (.ref q) H'):=by
 subst hK
 intro pins s σ H xs us zs ws Q I r1 r2 h
 refine ae.el (h) _ ?_
 rintro p ts rfl rfl hq hr q
 refine ae.el (vals1 r1) _ ?_
 rintro u rfl ru
 refine ae.el (vals1 r2) _ ?_
 rintro z rfl rz
 cases ru;cases rz
 refine ae.el (I.list hq) _ ?_
 rintro aw rv pl hz
 have ht:ts.length<=sizeLine:=by rw[Jb] at hz;exact hz
 have hi:aw.length<=sizeLine:=by rw[<-rv.length];exact hz
 have k1:((s.heap.push (seqObj "list" #[] 0)).update s.heap.objs.size (Obj.mapSeq (· ++ aw.toArray))).objs.size=s.heap.objs.size+1:=(Heap.size_update ..).trans (size_push' _ _)
 have k2:(((s.heap.push (seqObj "list" #[] 0)).update s.heap.objs.size (Obj.mapSeq (· ++ aw.toArray))).push (seqObj "list" aw.toArray 0)).get? _=some (seqObj "list" aw.toArray 0):=Jy _ rfl
 have keep:∀b o,s.heap.get? b=some o->(((s.heap.push (seqObj "list" #[] 0)).update s.heap.objs.size (Obj.mapSeq (· ++ aw.toArray))).push (seqObj "list" aw.toArray 0)).get? b=some o:=fun b o e=>
  Jd _ (by rw[Yg _ _ _ _ (J3 (Ji e))];exact Jd _ e)
 show wpAny _ _ (call (.builtin "sorted") [.ref p] [(Str.ofString "key",.ref f)]) _ _ _
 refine call_function_entry_kw kind_sorted plain_sorted entry_sorted (ksk_s1 _ _) ?_
 unfold Builtin.«sorted»
 refine wpAny_bind (m:=checkCount "sorted" 1 1 _) (wpAny_pure (wpAny_bind (collect_list pl.isList (wpAny_bind (wpAny_newList ?_ hi)) hi)))
 rw[k1] at k2
 show wpAny _ _ _ _ _ { s with heap:=Heap.push _ (seqObj "list" aw.toArray 0) }
 rw[k1]
 refine wpAny_bind (wpAny_holding (wpAny_call_entry_kw slot_list_sort ⟨_,k2,rfl⟩ entry_list_sort ?_ (ksk_l1 _ _)))
 rw[ksk_t1]
 have d0:s.heap.get? (s.heap.objs.size+1)=none:=Heap.get?_none_of_le (Yu _)
 refine tG (ts:=ts) I F hr ((Run.start I).kept keep) d0 k2 (I.aV.fresh (Yu _)) rv ht (fun b o e=>Ji (keep b o e)) ?_
 intro vs out Hn sn e run same dn hD rv' up pw
 have lo:vs.length<=sizeLine:=by rw[up.length_eq];exact ht
 have new:=run.told (o := .lst (vs.map V.str)) d0 dn ⟨by rw[Jb];exact lo,out.toList,e,rv',by simpa [seqObj] using hD⟩
 refine⟨_,rfl,wpAny_pure ⟨_,rfl,.ref (s.heap.objs.size+1),_,new.inv I,rfl,q vs _ _ up pw (fun a o z =>?_) (I.aV.fresh (Yu _)) aH⟩⟩
 rw[ao (fun h=>by rw[h,I.aV.fresh (Yu _)] at z;cases z)]
 exact same a o z
end
section
variable {X:Cx}
theorem kO:∀{xs:List V} {us:List Value} (j:Nat),Vals xs us->Vals (xs.eraseIdx j) (us.eraseIdx j)
 | _,_,_,.nil=>by simp;exact .nil
 | _,_,0,.cons _ t=>by simpa using t
 | _,_,j+1,.cons h t=>by simpa using .cons h (kO j t)
end
noncomputable def inD (d:PyData)(ds:List PyData):Bool:=ds.any fun e=>PyData.eqv e d
noncomputable def HD (K:Ja)(neg:Bool):R2:=fun x y H Q=>pd fun p xs d ds=>y = .ref p/\(aG K H p xs∨d9 K H p xs)/\Den K H d x/\az K H ds xs/\d.canLay0=true/\(∀e∈ds,SeqAt.shaped e=true)/\Q (.bl (if neg then !inD d ds else inD d ds)) H
section
variable {X:Cx}{pins:List (Addr×Obj)}{σ:St}{H:Hp}{s:Shared}
open Classical in
noncomputable def jW (h:Heap)(d:PyData)(u:Value):Bool:=if hd:∃e as,Reads h u e as/\e.canLay0=true/\e.depth<=64 then PyData.eqv hd.choose d else false
theorem mG (hu:X.A.units+66<cLine)(I:Inv X pins σ H s){d:PyData}{x:V}{v:Value}(hd:Den X.K H d x)(rx:RelV x v)(hc:d.canLay0=true){e:PyData}{y:V}{u:Value}(he:Den X.K H e y)(ry:RelV y u)(hs:SeqAt.shaped e=true):
  SeqAt.EqAt X.A.in1 s u v (PyData.eqv e d):=by
 obtain⟨as,ra⟩:=hd.reads I rx
 obtain⟨bs,rb⟩:=he.reads I ry
 have Q6:=SeqAt.depth_of_shaped hs
 refine SeqAt.eqAt_reads e d X.A.in1 s u v bs as rb ra (SeqAt.canLay_of_shaped hs) hc ?_
 have:X.A.in1.units=X.A.units+1:=rfl
 have:min e.depth d.depth<=e.depth:=Nat.min_le_left _ _
 (first|lia|omega)
theorem ug (hu:X.A.units+66<cLine)(I:Inv X pins σ H s){d:PyData}{x:V}{v:Value}(hd:Den X.K H d x)(rx:RelV x v)(hc:d.canLay0=true):∀{ds:List PyData} {xs:List V} {us:List Value},az X.K H ds xs->Vals xs us->(∀e∈ds,SeqAt.shaped e=true) ->
  ∃f:Value->Bool,(∀u∈us,SeqAt.EqAt X.A.in1 s u v (f u))/\us.any f=inD d ds:=by
 intro ds xs us h r hs
 refine⟨jW s.heap d,?_⟩
 induction ds generalizing xs us with
 | nil=>unfold az at h;subst h;cases r;exact⟨(fun u hu=>nomatch hu),rfl⟩
 | cons e ds ih=>
  unfold az at h
  obtain⟨y,ys,rfl,h1,h2⟩:=h
  cases r with
  | @cons _ u _ us r1 r2=>
   obtain⟨g1,g2⟩:=ih h2 r2 fun e he=>hs e (Jh _ he)
   have Ky:=hs e Jk
   obtain⟨bs,rb⟩:=h1.reads I r1
   have hex:∃e as,Reads s.heap u e as/\e.canLay0=true/\e.depth<=64:=⟨e,bs,rb,SeqAt.canLay_of_shaped Ky,SeqAt.depth_of_shaped Ky⟩
   have ea:jW s.heap d u=PyData.eqv hex.choose d:=by unfold jW;rw[dif_pos hex]
   have JA:hex.choose=e:=SeqAt.Reads.unique _ _ _ _ _ hex.choose_spec.choose_spec.2.1 hex.choose_spec.choose_spec.1 rb
   refine⟨fun u' CY =>?_,?_⟩
   ·rcases Uc.mp CY with rfl|CY
    ·rw[ea,JA];exact mG hu I hd rx hc h1 r1 Ky
    ·exact g1 u' CY
   ·rw[List.any_cons,g2,ea,JA];rfl
end
section
variable {X:Cx}
theorem wq (hu:X.A.units+66<cLine):dM X (compareOp .NotIn) (HD X.K true):=by
 intro pins s σ H x y v u Q I rx ry h
 obtain⟨p,xs,d,ds,rfl,hq,hd,hds,hc,hs,q⟩:=h
 cases ry
 rcases hq with hq|hq
 ·obtain⟨aw,r,pl,hz⟩:=I.list hq
  obtain⟨f,g1,g2⟩:=ug hu I hd rx hc hds r hs
  refine SeqAt.notIn_listAt f pl.isList (fun w hw=>g1 w (by simpa using hw)) ⟨.bl _,H,I,rfl,?_⟩
  rw[show aw.toArray.any f=aw.any f by simp,g2]
  exact q
 ·obtain⟨aw,r,pl,hz⟩:=I.tuple hq
  obtain⟨f,g1,g2⟩:=ug hu I hd rx hc hds r hs
  refine SeqAt.notIn_tupleAt f pl (fun w hw=>g1 w (by simpa using hw)) ⟨.bl _,H,I,rfl,?_⟩
  rw[show aw.toArray.any f=aw.any f by simp,g2]
  exact q
theorem AL (K:Ja)(hu:X.A.units+66<cLine)(hK:X.K=K:=by rfl):dM X (compareOp .NotIn) (HD K true):=by subst hK;exact wq hu
end
theorem Bz {k:Nat}{A:Around}(r:cL k A):A.units+66<cLine:=by have:=r.un; (first|lia|omega)
noncomputable abbrev cW:List Value:=[.type "ValueError",.type "Exception",.type "BaseException",.type "object"]
structure rf (K:Frag)(C:Addr)(f:Str):Prop where
 sa:findIn K (.ref C) "__setattr__" = some (some (.builtin "object.__setattr__"))
 na:findIn K (.ref C) f=some none
 mo:mroIn K C (.type "object")=some true
 cl:∃cd D,clsIn K C=some cd/\cd.mro = .ref C :: .ref D::cW/\cd.hasDict=true
noncomputable def Raw (o:Obj):Prop:=∃t,o.data = .fields #[.ref t,.none,.none,.none,.bool false,.none]
theorem Raw.nc {o:Obj}(h:Raw o):notCls o=true:=by
 obtain⟨_,_,dt,_⟩:=o
 obtain⟨t,h⟩:=h
 cases h;rfl
noncomputable def qr (e C:Addr):HO := .ext fun h=>∃o,h.get? e=some o/\o.cls = .ref C/\o.dict=none/\Raw o
noncomputable def wD (e C dx:Addr):HO := .ext fun h=>∃o,h.get? e=some o/\o.cls = .ref C/\o.dict=some dx/\Raw o
section
variable {prog:Program}{w:World}{A:Around}{K:Frag}{C e:Addr}{s:Shared}{E:Value->Shared->Prop}{f:Str}{v:Value}
theorem vO {o:Obj}{Q:Unit->Shared->Prop}(X:K.In s.heap)(O:rf K C f)(hx:s.heap.get? e=some o)(hc:o.cls = .ref C)(hd:o.dict=none)(hn:notCls o=true)
  (k:∀h' tk,h'.get? e=some { o with dict:=some s.heap.objs.size } -> h'.Ns1 s.heap.objs.size (fun y=>if y=f then some v else none)->(∀b ob,b≠e->s.heap.get? b=some ob->h'.get? b=some ob)->Q () { s with heap:=h',toks:=tk }) :
  wpAny (model prog w) A (setAttr (.ref e) f v) Q E s:=by
 have J:InstAt s.heap e o C none:=⟨hx,hc,hn,by rw[hd];trivial⟩
 refine ae.el (O.cl) _ ?_
 rintro cd D c1 c2 c3
 have SF:=PySem.F.store_object
 have top:Looks (model prog w) s.heap (isInstance (.ref e) (.type "object")) true:=J.type.andThen (looks_mroIn X O.mo)
 have Ma:Looks (model prog w) s.heap (mroOf (.ref C)) cd.mro:=(looks_clsIn X c1).andThen .now
 refine set_plain X J O.sa ?_
 refine codeAny_call_builtin SF.slot.plain SF.entry ?_
 refine @check_slot (model prog w) _ _ { s with toks:=s.toks+1 } "object.__setattr__" "object" "__setattr__" (.ref e) [.str f s.toks,v] [] _ SF.kind SF.split top (SF.args (.ref e) (.str f s.toks) v) ?_
 rw[osa_eq,refuse_eq]
 refine wpAny_bind (wpAny_bind (J.type.here (s:={ s with toks:=s.toks+1 }) (wpAny_bind (Ma.here (s:={ s with toks:=s.toks+1 }) ?_))))
 rw[c2,refuseLoop_ref,refuseLoop_ref,PySem.F.store_ValueError.passes]
 refine wpAny_pure (wpAny_bind (J.type.here (s:={ s with toks:=s.toks+1 }) ?_))
 refine wpAny_bind ((looks_findIn X O.na).here (s:={ s with toks:=s.toks+1 }) ?_)
 refine wpAny_bind (wpAny_pure ?_)
 show wpAny _ _ (storeInOwnDict (.ref e) (.ref C) (.str f s.toks) f v false) _ _ _
 obtain⟨oc,od,odt,ve⟩:=o
 dsimp only at hc hd
 subst hc hd
 have mr:=(Heap.get?_some_iff.mp hx).2
 have jc:e≠s.heap.objs.size:=J3 (Ji hx)
 refine wpAny_bind (wpAny_pure (wpAny_bind ?_))
 show wpAny _ _ (instanceDict e true) _ _ _
 unfold instanceDict
 refine wpAny_bind (wpAny_loadPart hx ?_)
 refine wpAny_bind ((looks_clsIn X c1).here (s:={ s with toks:=s.toks+1 }) ?_)
 rw[c3]
 dsimp only
 rw[if_neg (by decide),if_neg (by simp[typeHasDict])]
 split
 ·rename_i c
  exact absurd hn (by simp[notCls])
 have Oh:(s.heap.push { cls := .type "dict",data := .dict #[] }).get? e=some ⟨.ref C,none,odt,ve⟩:=Jd _ hx
 refine wpAny_bind (wpAny_alloc' ?_)
 refine wpAny_bind (wpAny_update' Oh ?_)
 refine wpAny_pure ?_
 obtain⟨G,hG⟩:∃G,G=(s.heap.push { cls := .type "dict",data := .dict #[] }).update e fun o=>{ cls:=o.cls,dict:=some s.heap.objs.size,data:=o.data,slots:=o.slots }:=⟨_,rfl⟩
 have gd:G.get? s.heap.objs.size=some { cls := .type "dict",data := .dict #[] }:=by
  rw[hG]
  exact(Yg _ _ _ _ jc.symm).trans (Heap.get?_push_at rfl rfl)
 have ge:G.get? e=some ⟨.ref C,some s.heap.objs.size,odt,ve⟩:=by
  rw[hG]
  refine Uu _ Oh ?_
  cases odt<;>first|rfl|exact mr
 have go:∀b ob,b≠e->s.heap.get? b=some ob->G.get? b=some ob:=fun b ob nb q=>by
  rw[hG]
  exact(Yg _ _ _ _ nb).trans (Jd _ q)
 have QA:G.Ns s.heap.objs.size (fun _=>none):=⟨_,#[],_,gd,rfl,(fun a ha=>absurd ha (by simp)),fun _=>rfl⟩
 rw[<-hG]
 show wpAny _ _ (storeInDict s.heap.objs.size (.str f s.toks) f v) _ _ _
 unfold storeInDict newKeyGuard
 refine wpAny_bind (wpAny_pure (wpAny_bind (wpAny_nsSet1 (Heap.Ns1.of_empty QA) fun h2 ns2 sb =>?_)))
 refine ae.el (ns2.count (Within.cons f v Within.nil)) _ ?_
 rintro oD eD pD hoD dD cD
 refine wpAny_bind (wpAny_lookBehind hoD ?_ ?_)
 ·rw[dD]
  refine pastItsLine_dict (Jp cD ?_)
  rw[J8,Yy,sizeLine_eq]
  (first|lia|omega)
 exact wpAny_pure (k h2 _ ((sb.2 e jc).trans ge) ns2 fun b ob nb q=>(sb.2 b (J3 (Ji q))).trans (go b ob nb q))
end
section
variable {prog:Program}{w:World}{A:Around}{E:Value->Shared->Prop}{h0:Heap}{g0:Array GenState}{d0:Drawn}{t0:Nat}{os0:OsState}{nm qn:Str}{C N fi:Addr}{bs up tail:List Value}{hdct:Bool}{sn:List Str}{sub:List Value}{ab:Bool}
 {col:Option Bool} {dd:Option Addr} {k0 k1 k2 k3 k5:Option Value} {B newId yT:String}
theorem vZ (FB:ExcBaseFacts B newId yT tail)(TL:OwnTail h0 tail up){vs:List Value}{oi:Obj}{Q:Fin->Shared->Prop}
  (wA:h0.get? C=some (excClassObj nm qn C N bs up hdct sn sub ab col dd k0 k1 k2 k3 k5 newId)) (d4:∀h1:Heap,(∀b o,h0.get? b=some o->h1.get? b=some o)->Looks (model prog w) h1 (typeLookup (.ref C) "__init__") (some (.ref fi))) (L6:h0.get? fi=some oi) (Mw:oi.cls = .type "function") (fit:vs.length<=sizeLine)
  (run:∀h' e,Heap.MadeExcOf h0 h' e (.ref C) vs->wpAny (model prog w) A (call (.ref fi) (.ref e::vs)) (fun r s'=>r = .none/\Q (.done (.ret (.ref e))) s') E ⟨h',g0,d0,t0,os0⟩) :
  wpAny (model prog w) A (Builtin.«type.__call__» ⟨.ref C::vs,[]⟩) Q E ⟨h0,g0,d0,t0,os0⟩:=by
 repeat (first
  | with_reducible refine wpAny_loadPart_at wA ?_
  | with_reducible refine wpAny_madeBy_exc wA ?_
  | wp_step)
 refine codeAny_call_builtin_code (Code.quiet_builtin _ FB.quiet) ?_
 refine wpAny_check_new_subT FB TL wA ?_
 refine codeAny_exc_new_subT FB TL wA ?_ fit
 show wpAny _ _ _ _ _ _
 obtain⟨H1,e1⟩:∃H1,H1=(h0.push { cls := .type "tuple",data := .seq vs.toArray }).push { cls := .ref C,data := .fields #[.ref h0.objs.size,.none,.none,.none,.bool false,.none] }:=⟨_,rfl⟩
 have kp:∀b o,h0.get? b=some o->H1.get? b=some o:=fun b o z=>by
  rw[e1]
  exact Jd _ (Jd _ z)
 have me:H1.get? (h0.objs.size+1)=some { cls := .ref C,data := .fields #[.ref h0.objs.size,.none,.none,.none,.bool false,.none] }:=by
  rw[e1]
  heap_get
 have mt:H1.get? h0.objs.size=some { cls := .type "tuple",data := .seq vs.toArray }:=by
  rw[e1]
  exact Jd _ (Heap.get?_push_at rfl rfl)
 rw[<-e1]
 have Ms:=kp _ _ wA
 have self:(Value.ref C::up).contains (.ref C)=true:=by simp
 unfold isInstance
 repeat (first
  | with_reducible refine wpAny_loadPart_at me ?_
  | (with_reducible refine wpAny_isSubtype_exc Ms ?_;rw[self])
  | wp_step)
 show wpAny _ _ (typeLookup (.ref C) _) _ _ _
 refine(d4 H1 kp).at ?_
 refine wpAny_holding (wpAny_bind ?_)
 unfold bindSpecial
 refine wpAny_bind (wpAny_typeOf (T := "function") ⟨_,kp _ _ L6,Mw⟩ ?_)
 rw[if_pos (by decide)]
 have made:Heap.MadeExcOf h0 H1 (h0.objs.size+1) (.ref C) vs:=⟨kp,Heap.get?_none_of_le (Yu _),h0.objs.size,me,Heap.get?_none_of_le (Jc _),mt⟩
 refine wpAny_pure (wpAny_bind (wpAny_mono (run H1 _ made) (fun r s' hr =>?_) fun _ _ x=>x))
 obtain⟨rfl,q⟩:=hr
 wp_walk
 exact q
theorem FI (FB:ExcBaseFacts B newId yT tail)(TL:OwnTail h0 tail up){vs:List Value}{oi:Obj}{Q:Value->Shared->Prop}
  (wA:h0.get? C=some (excClassObj nm qn C N bs up hdct sn sub ab col dd k0 k1 k2 k3 k5 newId)) (d4:∀h1:Heap,(∀b o,h0.get? b=some o->h1.get? b=some o)->Looks (model prog w) h1 (typeLookup (.ref C) "__init__") (some (.ref fi))) (L6:h0.get? fi=some oi) (Mw:oi.cls = .type "function") (fit:vs.length<=sizeLine)
  (run:∀h' e,Heap.MadeExcOf h0 h' e (.ref C) vs->wpAny (model prog w) (A.under (.builtin "type.__call__" ⟨.ref C::vs,[]⟩)) (call (.ref fi) (.ref e::vs)) (fun r s'=>r = .none/\Q (.ref e) s') E ⟨h',g0,d0,t0,os0⟩) :
  wpAny (model prog w) A (call (.ref C) vs) Q E ⟨h0,g0,d0,t0,os0⟩:=by
 have b1:=tc_lookup
 have b2:=tc_bind (.ref C)
 have ty:(⟨h0,g0,d0,t0,os0⟩:Shared).TypeIs (.ref C) "type":=⟨_,wA,rfl⟩
 refine wpAny_call (codeAny_of_tree ?_)
 show wpAny _ _ (callAny (.ref C) _) _ _ _
 repeat (any_goals (first
  | assumption
  | with_reducible refine wpAny_loadPart_at wA ?_
  | wp_step))
 refine⟨rfl,codeAny_call_builtin_at (Code.quiet_builtin _ (by decide +kernel)) entry_typeCall ?_⟩
 exact wpAny_check_type_call_sub wA (vZ FB TL wA d4 L6 Mw fit fun h' e m=>run h' e m)
end
section
variable {X:Cx}{pins:List (Addr×Obj)}{σ:St}{H:Hp}{s:Shared}{e C:Addr}
theorem Ah {P:Program}{w:World}{H:Hp}{h:Heap}{o:Obj}(h1:h.get? e=some o)(h2:o.cls = .ref C)(h3:o.dict=none)(h4:Raw o):bf P w H h e (qr e C):=
 ⟨⟨o,h1,h2,h3,h4⟩,⟨o,h1⟩,fun a b ⟨o,e1,r⟩ k=>⟨o,k _ e1,r⟩⟩
theorem B6 {P:Program}{w:World}{H:Hp}{h:Heap}{o:Obj}{dx:Addr}(h1:h.get? e=some o)(h2:o.cls = .ref C)(h3:o.dict=some dx)(h4:Raw o):bf P w H h e (wD e C dx):=
 ⟨⟨o,h1,h2,h3,h4⟩,⟨o,h1⟩,fun a b ⟨o,e1,r⟩ k=>⟨o,k _ e1,r⟩⟩
theorem Inv.noObj (I:Inv X pins σ H s)(h:s.heap.get? e=none):H e=none:=by
 cases z:H e with
 | none=>rfl
 | some o=>obtain⟨q,hq⟩:=(I.aV e o z).ex;rw[hq] at h;cases h
theorem Inv.FD {h':Heap}{us:List Value}{tk:Nat}(I:Inv X pins σ H s)(m:Heap.MadeExcOf s.heap h' e (.ref C) us)(hex:X.ex=[]):Inv X pins σ (upd H e (qr e C)) { s with heap:=h',toks:=tk }:=by
 obtain⟨k,ne,t0,me,nt,mt⟩:=m
 have I2:Inv X pins σ H { s with heap:=h',toks:=tk }:=I.kept k
 have hs:∀b o,s.heap.get? b=some o->b≠e:=fun b o q z=>by rw[z,ne] at q;cases q
 refine I2.yh (I.noObj ne) (fun z =>?_) (fun x c q =>?_) (fun p hp =>?_) (fun b u q =>?_) (Ah me rfl rfl ⟨_,rfl⟩)
 ·obtain⟨m,⟨oL,_,_,q,_⟩,_⟩:=I.loc
  exact hs _ _ q z.symm
 ·obtain⟨v,o,e1,_⟩:=I.cell x c q
  exact hs _ _ e1
 ·exact hs _ _ (I.pin p hp).1
 ·obtain⟨o',q'⟩:=I.base.there b u q (by rw[hex];exact fun z=>nomatch z)
  exact hs _ _ q'
structure GO (K:Frag)(C fi:Addr):Prop where
 cl:∃nm qn N bs D hdct sn sub ab col dd k0 k1 k2 k3 k5,K.lookup C=some (excClassObj nm qn C N bs (.ref D::cW) hdct sn sub ab col dd k0 k1 k2 k3 k5 "ValueError.__new__")/\∀h:Heap,K.In h->OwnTail h cW (.ref D::cW)
 ini:findIn K (.ref C) "__init__" = some (some (.ref fi))
 fn:∃oi:Obj,K.lookup fi=some oi/\oi.cls = .type "function"
 kp:keepIn K (.ref C)=true
noncomputable def xp (C:Addr)(sp:Sp)(t:TA):TE:=fun σ H Q=>t σ H fun vs H1=>vs.length<=1000/\∀e,H1 e=none->sp (.ref e::vs) (upd H1 e (qr e C)) (fun v H2=>v = .non/\Q (.ref e) H2) E0
theorem wH {k:Nat}{fi:Addr}{fd:FuncData}{ps:List Str}{sp:Sp}{Q:VK}{us:List Value}{vs:List V}(M:GO X.K C fi)(F:bA X.prog X.w X.K X.mg X.base fQ k fi fd ps sp)(hr:cL (k+1) X.A)(hb:Binds X.K fd ps [])(hex:X.ex=[])
  (I:Inv X pins σ H s) (r:Vals vs us) (hl:vs.length<=1000) (h:∀e,H e=none->sp (.ref e::vs) (upd H e (qr e C)) (fun v H2=>v = .non/\Q (.ref e) H2) E0):wpAny (model X.prog X.w) X.A (call (.ref C) us) (EP X pins σ Q) X.xe s:=by
 refine ae.el (M.cl) _ ?_
 rintro nm qn N bs D hdct sn sub ab col dd k0 k1 k2 k3 k5 lk TL
 refine ae.el (M.fn) _ ?_
 rintro oi l2 ft
 have tY:=I.jv
 refine FI (h0:=s.heap) (g0:=s.gens) (d0:=s.drawn) (t0:=s.toks) (os0:=s.os) PySem.F.excBase_ValueError (TL _ tY) (tY _ _ lk) (fun h1 kp=>looks_findIn (fun a o z=>kp a o (tY a o z)) M.ini) (tY _ _ l2) ft (by rw[<-r.length];exact Jp hl (by decide)) fun h' e m =>?_
 have I2:Inv X pins σ (upd H e (qr e C)) { s with heap:=h',toks:=s.toks }:=I.FD m hex
 have hq:=h e (I.noObj m.2)
 have r2:Vals (V.ref e::vs) (Value.ref e::us) := .cons rfl r
 have hlen:(Value.ref e::us).length=ps.length:=by rw[<-r2.length];exact F.len _ _ _ _ hq
 have JD:=hb { s with heap:=h',toks:=s.toks } (Value.ref e::us) I2.jv (by rw[U5];exact hlen)
 rw[U5] at JD
 refine wpAny_call (codeAny_mono (F.run _ X.stack { s with heap:=h',toks:=s.toks } _ ⟨Value.ref e::us,[]⟩ (Value.ref e::us) _ _ E0 (hr.make C us []) (I2.AN.make C us []) JD r2 hq) fun rr s' hq' =>?_)
 cases rr with
 | error x=>exact hq'.elim
 | ok fl=>
  cases fl with
  | ret u=>
   obtain⟨v,H',I3,rv,ev,q3⟩:=I2.after hq'
   subst ev
   exact⟨rv,⟨V.ref e,H',I3,rfl,q3⟩⟩
  | next=>exact hq'.elim
  | brk=>exact hq'.elim
  | cont=>exact hq'.elim
theorem yp {k:Nat}{fi:Addr}{fd:FuncData}{ps:List Str}{sp:Sp}{x:Str}{p pos:Pos}{a:Expr}{as:List Expr}{t:TA}(M:GO X.K C fi)(F:bA X.prog X.w X.K X.mg X.base fQ k fi fd ps sp)(hr:cL (k+1) X.A)(hg:Gl X x)(hm:X.mg x=some (.ref C))
  (hb:Binds X.K fd ps []) (ha:PA X (a::as) t) (hex:X.ex=[]:=by rfl) (rD:(x==("__debug__" : Str))=false:=by decide) (he:starEach (a::as) X.env=(false,eval a X.env)::starEach as X.env:=by rfl) (g8:(backTo pos (starEach as X.env)).any (·.1)=false:=by rfl) :
  PE X (.Call (.Name x p) (a::as) [] pos) (xp C sp t):=by
 intro pins s σ H Q I h
 refine wpAny_Call_Name_kw (iR I hg hm ?_ rD)
 refine PySem.W.callWith_K (h₀:=X.base) I.ok.mod.tY M.kp (aQ (ha s σ H _ I h) fun us s1 hz_=>ae.el hz_ _ fun vs H1 I1 r q=>⟨I1.jv,?_⟩) he g8
 exact wH M F hr hb hex I1 r q.1 q.2
noncomputable def IK (K:Frag)(to tv:TE)(f:Str):TS:=fun D σ H=>tv σ H fun v H1=>to σ H1 fun x H2=>∃e C,x = .ref e/\H2 e=some (qr e C)/\rf K C f/\∀dx,H2 dx=none->dx≠e->D.nx σ (upd (upd H2 e (wD e C dx)) dx (.xd [(f,v)]))
theorem Bc {o value:Expr}{f:Str}{to tv:TE}{pos pos':Pos}(ho:PE X o to)(hv:PE X value tv)(hs:swapsWith value (some (.Attribute o f pos')) pos.line X.env=pure false):PS X (.Assign [.Attribute o f pos'] value pos) (IK X.K to tv f):=by
 intro pins s σ H D I h
 refine plainObj_wpAny_Assign_Attribute (aQ (hv s σ H _ I h) fun u s1 ⟨v,H1,I1,ru,q⟩=>aQ (ho s1 σ H1 _ I1 q) fun ov s2 ⟨x,H2,I2,rx,e,C,ex,ee,S,q2⟩=>?_) hs
 subst ex
 obtain rfl:ov=Value.ref e:=rx
 obtain⟨ob,b1,b2,b3,b4⟩:=(show bf X.prog X.w H2 s2.heap e (qr e C) from I2.aV e _ ee).1
 have jc:e≠s2.heap.objs.size:=J3 (Ji b1)
 refine vO I2.jv S b1 b2 b3 b4.nc fun h' tk a1 a2 a3 =>?_
 have I3:Inv X pins σ (upd H2 e (wD e C s2.heap.objs.size)) { s2 with heap:=h',toks:=tk }:=I2.write (x:=e) (e:=e) (by rw[ee];exact True.intro) (.inl rfl) a3 ⟨_,a1⟩ (B6 a1 b2 rfl b4)
 have hd:H2 s2.heap.objs.size=none:=I2.aV.fresh (Jc _)
 have fp:=I2.kr (H':=H2) (Jc _) hd
 refine⟨σ,_,?_,q2 _ hd jc.symm⟩
 refine I3.yh (by rw[ao jc.symm];exact hd) fp.2.1 fp.2.2.2.2.1 fp.2.2.2.2.2 (fun b u q z =>?_) ⟨_,a2,fun g =>?_⟩
 ·have:=Ji q
  rw[z] at this
  exact absurd (Ju this I2.sz) (Yc _)
 ·show jY (List.lookup g [(f,v)]) (if g=f then some u else none)
  by_cases z:g=f
  ·rw[if_pos z,z,List.lookup_cons_self];exact ru
  ·rw[if_neg z]
   have:List.lookup g [(f,v)]=none:=by
    rw[Ux]
    have:(g==f)=false:=by simpa using z
    rw[this];rfl
   rw[this];trivial
end
section
variable {K:Frag}{C D N:Addr}{nm qn:Str}{bs up:List Value}{hdct:Bool}{sn:List Str}{sub:List Value}{ab:Bool}{col:Option Bool}{dd:Option Addr}{k0 k1 k2 k3 k5:Option Value}
theorem uU (lk:K.lookup C=some (excClassObj nm qn C N bs up hdct sn sub ab col dd k0 k1 k2 k3 k5 "ValueError.__new__"))(made:excIn K C cW "ValueError.__new__" = true):nsOkIn K N=true/\nsIn K N "__init__" = some none:=by
 have h:(C==C && "ValueError.__new__" == "ValueError.__new__" && !false&&tailIn K cW up&&nsOkIn K N&&nsIn K N "__init__" == some none)=true:=by
  unfold excIn at made
  rw[lk] at made
  exact made
 have h1:=Bool.and_eq_true_iff.mp h
 exact⟨(Bool.and_eq_true_iff.mp h1.1).2,beq_iff_eq.mp h1.2⟩
theorem y8 (lk:K.lookup C=some (excClassObj nm qn C N bs cW hdct sn sub ab col dd k0 k1 k2 k3 k5 "ValueError.__new__"))(made:excIn K C cW "ValueError.__new__" = true)(h:Heap)(tY:K.In h):OwnTail h cW (.ref C::cW):=by
 obtain⟨a,b⟩:=uU lk made
 exact .own (tY _ _ lk) (.of_isNs (isNs_of_in tY a)) (nsMap_none_of_in tY a b) .base
theorem zy {f:Str}(lk:K.lookup C=some (excClassObj nm qn C N bs (.ref D::cW) true sn sub ab col dd k0 k1 k2 k3 k5 "ValueError.__new__"))(sa:findIn K (.ref C) "__setattr__" = some (some (.builtin "object.__setattr__")))(na:findIn K (.ref C) f=some none)
  (mo:mroIn K C (.type "object")=some true):rf K C f:=by
 refine⟨sa,na,mo,⟨{ name:=nm,bases:=bs,mro := .ref C :: .ref D::cW,ns:=N,qualname:=qn,hasDict:=true,slotNames:=sn,subclasses:=sub,abstract:=ab,collection:=col,hasDel:=false },D,?_,rfl,rfl⟩⟩
 unfold clsIn
 rw[lk]
end
theorem xF {prog:Program}{w:World}{kvs:List (Key×V)}{vs:List (Key×Value)}(h:KV kvs vs):∀{aw:List Value},aw.length=vs.length ->
  (∀(j:Nat) v,aw[j]? = some v->∃k x,vs[j]? = some (k,x)/\(bq prog w).is k v=true)->Vals (kvs.map fun q=>kV q.1) aw:=by
 unfold KV at h
 induction h with
 | nil=>
  intro aw hl _
  rw[Uy hl]
  exact .nil
 | @cons p q kvs vs h1 _ ih=>
  intro aw hl h
  cases aw with
  | nil=>cases hl
  | cons v aw=>
  refine .cons ?_ (ih (Nat.succ.inj hl) fun j u e=>h (j+1) u e)
  obtain⟨k,x,e1,e2⟩:=h 0 v rfl
  cases e1
  show RelV (kV p.1) v
  rw[show p.1=k from h1.1]
  rcases bE e2 with ⟨n,t,z1,z2⟩|⟨y,t,z1,z2⟩
  ·rw[z1,z2];exact⟨t,rfl⟩
  ·rw[z1,z2];exact⟨t,rfl⟩
section
variable {X:Cx}
theorem Iq (hc:X.calm=true):bZ X (.type "list") (fun xs H Q=>cj fun(d:Addr) (kvs:List (Key×V))=>xs=[.ref d]/\H d=some (.dK kvs)/\∀p H',cV H p (.lst (kvs.map fun q=>kV q.1)) H'->Q (.ref p) H'):=by
 intro pins s σ H xs us Q I r h
 obtain⟨d,kvs,rfl,hd,q⟩:=h
 obtain⟨u,rfl,ru⟩:=vals1 r
 cases ru
 obtain⟨z,ns,vs,kv,o,es,ep,e,rr⟩:=I.aV d _ hd
 have kl:=kv.length
 refine kdl_call (kdl_dict (knd:=bq X.prog X.w) (kvs:=vs) (ep:=ep) ns) (I.ok.hd hc) ⟨o,es,e,rr⟩ (by first|lia|omega) fun h' tk acc c k hS items =>?_
 refine⟨.ref s.heap.objs.size,_,I.laid (a:=s.heap.objs.size) (o := .lst (kvs.map fun q=>kV q.1)) (t':=tk) k (Jc _) ⟨by rw[Jb];exact z,acc.toList,c,?_,by simpa using hS⟩,rfl,q _ _ ⟨I.aV.fresh (Jc _),rfl⟩⟩
 exact xF kv (by rw[Jv];exact items.1) fun j v ej=>items.2 j v (by rw[<-Uo];exact ej)
end
section
variable {prog:Program}{w:World}{A:Around}{R:Result->Shared->Prop}{s:Shared}{kx vx t1 i1 t2 i2:Expr}{scope:Scope}{pos:Pos}{it:Value}{D:Addr}{env:Env}
theorem rn (I:Nat->Shared->Prop)
  (turn:∀n s,I n s->wpAny (model prog w) A (pyNext it) (fun r s1=>match r with
   | none=>R (.ok .next) s1
   | some v=>wpAny (model prog w) A (letOwnedTupleGo t2 it v) (fun _ s1'=>wpAny (model prog w) A (assign t2 env v) (fun _ s2=>
     wpAny (model prog w) A (eval kx env) (fun kv s4=>wpAny (model prog w) A (eval vx env) (fun vv s5=>
       wpAny (model prog w) A (dictSet D kv vv) (fun _ s6=>∃m,m<n/\I m s6) fR s5) fR s4) fR s2) fR s1') fR s1) fR s)
  (n:Nat) (h:I n s):codeAny (model prog w) A (.compLoop (.DictComp kx vx [⟨t1,i1,[],0⟩,⟨t2,i2,[],0⟩] scope pos) 1 it (.ref D) env) R s:=by
 refine codeAny_loop rfl I (fun n s hI=>(show wpAny _ A (Sem.onRaise (compTurn (.DictComp kx vx [⟨t1,i1,[],0⟩,⟨t2,i2,[],0⟩] scope pos) 1 it (.ref D) env) (fun x=>do noteFrame x env;theTreesLotGoes x)) _ _ s from wpAny_noted ?_)) n h
 refine wpAny_bind (wpAny_standAt (wpAny_bind (br (aQ (turn n s hI) fun r s1 h1 =>?_))))
 cases r with
 | none=>exact wpAny_pure h1
 | some v=>
  refine wpAny_bind (br (aQ h1 fun _ s1' h1' =>?_))
  refine wpAny_bind (br (aQ h1' fun _ s2 h3=>wpAny_bind (wpAny_pure (a:=true) ?_)))
  exact wpAny_bind (wpAny_bind (br (aQ h3 fun kv s4 h4=>wpAny_bind (wpAny_holding (br (aQ h4 fun vv s5 h5=>wpAny_bind (wpAny_standAt (wpAny_holding (br (aQ h5 fun _ s6 h6=>wpAny_pure ⟨rfl,h6⟩))))))))))
theorem rB (hs:∀x,foldedSetIterable i2 env x=pure x)(I:Nat->Shared->Prop)
  (turn:∀n s,I n s->wpAny (model prog w) A (pyNext it) (fun r s1=>match r with
   | none=>R (.ok .next) s1
   | some v=>wpAny (model prog w) A (letOwnedTupleGo t1 it v) (fun _ s1'=>wpAny (model prog w) A (assign t1 env v) (fun _ s2=>
     wpAny (model prog w) A (eval i2 env) (fun x s3=>wpAny (model prog w) A (pyIter x) (fun it2 s4=>
       codeAny (model prog w) A (.compStart (.DictComp kx vx [⟨t1,i1,[],0⟩,⟨t2,i2,[],0⟩] scope pos) 1 it2 (.ref D) env) (fun r s5=>match r with | .ok _=>∃m,m<n/\I m s5 | .error _=>False) s4) fR s3) fR s2) fR s1') fR s1) fR s)
  (n:Nat) (h:I n s):codeAny (model prog w) A (.compLoop (.DictComp kx vx [⟨t1,i1,[],0⟩,⟨t2,i2,[],0⟩] scope pos) 0 it (.ref D) env) R s:=by
 refine codeAny_loop rfl I (fun n s hI=>(show wpAny _ A (Sem.onRaise (compTurn (.DictComp kx vx [⟨t1,i1,[],0⟩,⟨t2,i2,[],0⟩] scope pos) 0 it (.ref D) env) (fun x=>do noteFrame x env;theTreesLotGoes x)) _ _ s from wpAny_noted ?_)) n h
 refine wpAny_bind (wpAny_standAt (wpAny_bind (br (aQ (turn n s hI) fun r s1 h1 =>?_))))
 cases r with
 | none=>exact wpAny_pure h1
 | some v=>
  refine wpAny_bind (br (aQ h1 fun _ s1' h1' =>?_))
  refine wpAny_bind (br (aQ h1' fun _ s2 h3=>wpAny_bind (wpAny_pure (a:=true) ?_)))
  refine wpAny_bind (br (aQ h3 fun x s3 h4=>wpAny_bind (wpAny_standAt (wpAny_bind (wpAny_of_eq (hs x) (wpAny_bind (wpAny_holding (br (aQ h4 fun it2 s4 h5 =>?_)))))))))
  refine wpAny_bind (wpAny_runOwn (codeAny_mono h5 fun r s5 h6 =>?_))
  cases r with
  | ok f=>exact wpAny_pure ⟨rfl,h6⟩
  | error e=>exact h6.elim
theorem qM {acc:Value}(h0:codeAny (model prog w) A (.compLoop (.DictComp kx vx [⟨t1,i1,[],0⟩,⟨t2,i2,[],0⟩] scope pos) 1 it acc env) R s)
  (h:wpAny (model prog w) A (pyIter it) (fun it' s'=>codeAny (model prog w) A (.compLoop (.DictComp kx vx [⟨t1,i1,[],0⟩,⟨t2,i2,[],0⟩] scope pos) 1 it' acc env) R s') fR s) :
  codeAny (model prog w) A (.compStart (.DictComp kx vx [⟨t1,i1,[],0⟩,⟨t2,i2,[],0⟩] scope pos) 1 it acc env) R s:=by
 refine codeAny_of_tree ?_
 show wpAny _ A ((compStart (.DictComp kx vx [⟨t1,i1,[],0⟩,⟨t2,i2,[],0⟩] scope pos) 1 it acc env).onRaise (fun x=>do noteFrame x env;standAt theWindowsPlace)) _ _ s
 refine wpAny_notedAt ?_
 unfold compStart
 show wpAny _ A (ask >>= _) _ _ s
 refine wpAny_bind (wpAny_askSetting (wpAny_ite ?_))
 split
 ·first
   | exact wpAny_bind (wpAny_pure (wpAny_pure (And.intro rfl h0)))
   | exact wpAny_pure (And.intro rfl h0)
 ·first
   | exact wpAny_bind (wpAny_rule (wpAny_bind (wpAny_standAt (wpAny_bind (br (aQ h fun it' s' h'=>wpAny_pure (And.intro rfl h')))))))
   | (refine wpAny_bind (wpAny_rule ?_);show wpAny _ _ (standAt i2.pos >>= _) _ _ s;exact wpAny_bind (wpAny_standAt (wpAny_bind (br (aQ h fun it' s' h'=>wpAny_pure (And.intro rfl h'))))))
end
noncomputable def xu (J:It)(n:Nat)(js:List Nat)(g:TG)(wO:TI)(i:Nat)(tk tv:TE)(σ:St)(D:Addr)(H1:Hp)(fin:Hp->Prop):Prop:=
 ∃W:Nat->Nat->Hp->Prop,(∃m,W 0 m H1)/\∀k m H,W k m H ->
  (J.stop k H/\fin H) ∨
  (J.go k H/\∀x H',J.yld k H x H'->g x (Jj n none++cN σ js) H' fun σ2 H2 =>σ2[i]? = some none/\wO σ2 H2 fun J2 H3=>∃V:Nat->Nat->Hp->Prop,(∃m2,V 0 m2 H3)/\∀k2 m2 H,V k2 m2 H ->
   (J2.stop k2 H/\∃m',m'<m/\W (k+1) m' H) ∨
   (J2.go k2 H/\∀y H',J2.yld k2 H y H'->tk (σ2.set i (some y)) H' fun kk H4=>tv (σ2.set i (some y)) H4 fun z H5=>cj fun kvs key=>H5 D=some (.dK kvs)/\kk=kV key/\kvs.length<sizeLine/\∃m',m'<m2/\V (k2+1) m' (upd H5 D (.dK (putK kvs key z)))))
noncomputable def B5 (wi:TI)(n:Nat)(js:List Nat)(g:TG)(wO:TI)(i:Nat)(tk tv:TE):TE:=fun σ H Q=>wi σ H fun J H1=>∀D,H1 D=none->xu J n js g wO i tk tv σ D (upd H1 D (.dK [])) fun H2=>Q (.ref D) H2
section
variable {X:Cx}{kx vx t1 i1 t2 i2:Expr}{scope:Scope}{pos:Pos}{wO:TI}{i:Nat}{tk tv:TE}{pins:List (Addr×Obj)}{s:Shared}{σ:St}{H:Hp}{D:Addr}{fin:Hp->Prop}
theorem yJ (Kb:X.xe=fR)(cK:X.calm=true)(wQ:PI X t2 i2 wO)(Fm:PG X t2 (cM i))(dH:PE X kx tk)(wU:PE X vx tv)(I:Inv X pins σ H s)(h0: σ[i]? = some none)
  (h:wO σ H fun J2 H3=>∃V:Nat->Nat->Hp->Prop,(∃m2,V 0 m2 H3)/\∀k2 m2 H,V k2 m2 H->(J2.stop k2 H/\fin H) ∨
   (J2.go k2 H/\∀y H',J2.yld k2 H y H'->tk (σ.set i (some y)) H' fun kk H4=>tv (σ.set i (some y)) H4 fun z H5=>cj fun kvs key=>H5 D=some (.dK kvs)/\kk=kV key/\kvs.length<sizeLine/\∃m',m'<m2/\V (k2+1) m' (upd H5 D (.dK (putK kvs key z)))))
  {R:Shared->Prop} (q:∀H' s',Inv X pins σ H' s'->fin H'->R s') :
  wpAny (model X.prog X.w) X.A (eval i2 X.env) (fun x s3=>wpAny (model X.prog X.w) X.A (pyIter x) (fun it2 s4=>
   codeAny (model X.prog X.w) X.A (.compStart (.DictComp kx vx [⟨t1,i1,[],0⟩,⟨t2,i2,[],0⟩] scope pos) 1 it2 (.ref D) X.env) (fun r s5=>match r with | .ok _=>R s5 | .error _=>False) s4) fR s3) fR s:=by
 have wQ:=wQ s σ H _ I h
 have QR:=Fm
 have PJ:=dH
 have OJ:=wU
 rw[Kb] at wQ
 refine aQ wQ fun v s1 h1=>aQ h1 fun Fq s2 h2 =>?_
 obtain⟨it,fp,tn,J,H2,e,I2,T,aW,f2,V,⟨m0,w0⟩,turn⟩:=h2
 subst e
 have fO:∀{H':Hp},(∀b∈fp,H' b=none)->∀b∈fp,dZ X pins H' b:=fun hn b hb=>⟨hn b hb,(f2 b hb).2⟩
 have loop:∀t1',codeAny (model X.prog X.w) X.A (.compLoop (.DictComp kx vx [⟨t1,i1,[],0⟩,⟨t2,i2,[],0⟩] scope pos) 1 (.ref it) (.ref D) X.env) (fun r s5=>match r with | .ok _=>R s5 | .error _=>False) { s2 with toks:=t1' }:=by
  intro t1'
  refine rn (fun n s'=>∃k H',Inv X pins σ H' s'/\tn k s'.heap/\(∀b∈fp,H' b=none)/\V k n H') ?_ m0 ⟨0,H2,I2.tok _,aW,fun b hb=>(f2 b hb).1,w0⟩
  intro n s3 hz_
  refine ae.el hz_ _ ?_
  clear hz_
  rintro k H3 I3 cp fr3 w3
  rcases turn k n H3 w3 with ⟨stop,qn⟩|⟨go,step⟩
  ·refine aQ (T.done X rfl rfl rfl cK k pins s3 σ H3 fR I3 (fO fr3) cp stop) fun r s4 hz_ =>?_
   refine ae.el hz_ _ ?_
   clear hz_
   rintro hr I4
   subst hr
   exact q H3 s4 I4 qn
  ·refine aQ (T.item X rfl rfl rfl cK k pins s3 σ H3 fR I3 (fO fr3) cp go) fun r s4 hz_ =>?_
   refine ae.el hz_ _ ?_
   clear hz_
   rintro u hr h4
   subst hr
   refine aQ h4 fun _ s5 hz_ =>?_
   refine ae.el hz_ _ ?_
   clear hz_
   rintro x H5 I5 r5 y5 cC fr5
   have A8:=I5.pinned (fO fr5) (T.obj _ _ cC)
   have hg:=Fm s5 σ H5 x u (fun σ' H' =>σ' = σ.set i (some x)/\H'=H5) A8 r5 ⟨rfl,rfl⟩
   rw[Kb] at hg
   refine aQ hg fun _ s6 hz_ =>?_
   refine ae.el hz_ _ ?_
   clear hz_
   rintro σ6 H6 I6 e6 e6'
   subst e6 e6'
   have hk:=dH s6 _ _ _ I6 (step x _ y5)
   rw[Kb] at hk
   refine aQ hk fun yv s8 hz_ =>?_
   refine ae.el hz_ _ ?_
   clear hz_
   rintro y H8 I8 r8 q8
   have hv:=wU s8 _ _ _ I8 q8
   rw[Kb] at hv
   refine aQ hv fun zv s9 hz_ =>?_
   refine ae.el hz_ _ ?_
   clear hz_
   rintro z H9 I9 r9 q9
   refine ae.el (q9) _ ?_
   rintro kvs key eD ey hl m' tj w9
   subst ey
   refine nq I9 eD hl r8 r9 fun s10 I10 =>?_
   refine⟨m',tj,k+1,_,Inv.weak I10.cU (by rw[List.length_set]) fun j v hj =>?_,T.keep _ _ _ cC fun b hb o e=>(I10.pin (b,o) (Jr _ (Jr _ (bP hb e)))).1,fun b hb =>?_,w9⟩
   ·by_cases hji:j=i
    ·subst hji;rw[h0] at hj;cases hj
    ·rw[List.getElem?_set_ne (Ne.symm hji)];exact hj
   ·refine ae.el (T.obj _ _ cC b hb) _ ?_
    rintro o e d
    exact(I10.pin (b,o) (Jr _ (Jr _ (bP hb e)))).2.1
 exact qM (loop _) (T.self _ 0 _ _ _ aW (loop _))
end
theorem qG {X:Cx}{kx vx tg iter t2 i2:Expr}{wO:TI}{Hu:Nat}{scope:Scope}{pos:Pos}{Nc Fc:List Str}{js:List Nat}{wi:TI}{g:TG}{tk tv:TE}{use:Option (Value->Sem Unit)}{QV:Value->Shared->Prop}
  (cK:X.calm=true) (c:dC X scope Nc Fc js) (hi:PI X tg iter wi)
  (hg:∀cl C s H fp,PG (fq X Nc Fc scope cl C s H fp) tg g) (wQ:∀cl C s H fp,PI (fq X Nc Fc scope cl C s H fp) t2 i2 wO) (Fm:∀cl C s H fp,PG (fq X Nc Fc scope cl C s H fp) t2 (cM Hu)) (dH:∀cl C s H fp,PE (fq X Nc Fc scope cl C s H fp) kx tk) (wU:∀cl C s H fp,PE (fq X Nc Fc scope cl C s H fp) vx tv) (gk:Gk Nc.length g)
  {pins:List (Addr×Obj)} {s:Shared} {σ:St} {H:Hp} {fin:Addr->Hp->Prop} (I:Inv X pins σ H s)
  (h:wi σ H fun J H1=>∀D,H1 D=none->xu J Nc.length js g wO Hu tk tv σ D (upd H1 D (.dK [])) (fin D))
  (behind:∀(C D:Addr) (m:Str->Option Value) (H2:Hp) (s2:Shared),Inv X pins σ H2 s2->s2.heap.Ns C m->dZ X pins H2 C->fin D H2->compPost (model X.prog X.w) X.A X.xe use QV (.ref D) C (.ok .next) s2)
  (hs:∀x,foldedSetIterable iter X.env x=pure x) (AJ:∀cl C s H fp x,foldedSetIterable i2 (fq X Nc Fc scope cl C s H fp).env x=pure x) :
  wpAny (model X.prog X.w) X.A (comprehension (.DictComp kx vx [⟨tg,iter,[],0⟩,⟨t2,i2,[],0⟩] scope pos) scope X.env (firstIterPos [⟨tg,iter,[],0⟩,⟨t2,i2,[],0⟩] pos) newDict false (eval iter X.env) use) QV X.xe s:=by
 obtain⟨cl,hclos,dk,gZ⟩:=ir (scope:=scope) (env:=X.env) fun y hy hf=>I.ok.has y.1 (c.free y hy hf)
 refine wpAny_comprehension_free (use:=use) rfl hs hclos c.kind c.names ?_
 refine aQ (hi s σ H _ I h) fun v s1 h1=>aQ h1 fun Fq s2 h2 =>?_
 obtain⟨it,fp,tn,J,H2,e,I2,T,aW,f2,all⟩:=h2
 subst e
 refine wpAny_newObj_type (wpAny_newFunctionEnv c.nocell (by intro y hy;simp at hy) (fun h1 hns1 hsb1 =>?_) c.kind)
 dsimp only at hns1 hsb1 ⊢
 have AV:H2 s2.heap.objs.size=none:=I2.aV.fresh (Jc _)
 have xT:=I2.laid (a:=s2.heap.objs.size) (o := .dK []) (h':=s2.heap.push { cls := .type "dict",data := .dict #[] }) (t':=s2.toks) (fun _ _ q=>Jd _ q) (Jc _) (jb s2.heap I2.big)
 obtain⟨W,⟨m0,w0⟩,turn⟩:=all _ AV
 have HP:∀b∈fp,∃o,s2.heap.get? b=some o:=fun b hb=>let ⟨o,e,_⟩:=T.obj 0 _ aW b hb; ⟨o,e⟩
 have mw:∀b∈fp,b<s2.heap.objs.size:=fun b hb=>let ⟨o,e⟩:=HP b hb;Ji e
 generalize hG:s2.heap.push { cls := .type "dict",dict:=none,data := .dict #[] } = G at hns1 hsb1 xT ⊢
 have toG:∀b o,s2.heap.get? b=some o->G.get? b=some o:=fun b o e=>hG▸Jd _ e
 have hC:G.objs.size=s2.heap.objs.size+1:=by rw[<-hG,Ws]
 have old:∀b o,G.get? b=some o->h1.get? b=some o:=fun b o e=>
  hsb1.extBut b o (cv (Ji e) (Jc _)) (Jd _ e)
 let D:Addr:=s2.heap.objs.size
 let s2':Shared:={ s2 with heap:=G,toks:=s2.toks }
 let H2':Hp:=upd H2 D (.dK [])
 have Fj:∀b∈fp,dZ X pins H2' b:=fun b hb=>by
  obtain⟨a1,a2⟩:=f2 b hb
  refine⟨?_,a2⟩
  show upd H2 D (.dK []) b=none
  rw[ao (J3 (mw b hb))];exact a1
 have fo:∀b∈fp,∃o,s2'.heap.get? b=some o:=fun b hb=>let ⟨o,e⟩:=HP b hb; ⟨o,toG b o e⟩
 have LD:∀b∈fp,b<G.objs.size:=fun b hb=>by have:=mw b hb;rw[hC];exact Wm this
 let Xc:Cx:=fq X Nc Fc scope cl G.objs.size s2' H2' fp
 have fO:∀{H':Hp},(∀b∈fp,H' b=none)->∀b∈fp,dZ Xc [] H' b:=fun{H'} hn b hb=>by
  refine⟨hn b hb,?_,?_,.inl hb,fun x a e =>?_,fun p hq =>?_⟩
  ·exact cv (LD b hb) (Jc _)
  ·exact(kD xT c dk gZ (Jc _) Fj fo).exfs b hb
  ·exact(f2 b hb).2.2.2.2.1 x a (dk _ _ e)
  ·have q:p∈([]:List (Addr×Obj))++[]:=hq
   simp at q
 have loop:∀t1,codeAny (model X.prog X.w) X.A (.compLoop (.DictComp kx vx [⟨tg,iter,[],0⟩,⟨t2,i2,[],0⟩] scope pos) 0 (.ref it) (.ref s2.heap.objs.size) (compEnvC scope cl G.objs.size X.env))
   (compPost (model X.prog X.w) X.A X.xe use QV (.ref s2.heap.objs.size) G.objs.size) { s2 with heap:=h1,toks:=t1 }:=by
  intro t1
  refine rB (AJ cl G.objs.size s2' H2' fp) (fun n s'=>∃i H',Inv Xc [] (Jj Nc.length none++cN σ js) H' s'/\tn i s'.heap/\(∀b∈fp,H' b=none)/\W i n H') ?_ m0
   ⟨0,H2',qw xT c dk gZ (Jc _) Fj fo old hns1,T.keep _ _ _ aW (fun b hb o e=>old b o (toG b o e)),fun b hb=>(Fj b hb).1,w0⟩
  intro n s3 hz_
  refine ae.el hz_ _ ?_
  clear hz_
  rintro i H3 I3 cp fr3 w3
  rcases turn i n H3 w3 with ⟨stop,qn⟩|⟨go,step⟩
  ·refine aQ (T.done Xc rfl rfl rfl cK i _ s3 _ H3 fR I3 (fO fr3) cp stop) fun r s4 hz_ =>?_
   refine ae.el hz_ _ ?_
   clear hz_
   rintro hr I4
   subst hr
   show compPost _ _ _ _ _ _ _ _ _
   refine ae.el (I4.loc) _ ?_
   rintro mC hmC _
   have FU:H3 G.objs.size=none:=I4.free
   have u:Un (fP X.stack) fp H2' H3 G s4.heap:=I4.base
   have rJ:∀b∈fp,(b∈X.ex∨X.s₀.heap.objs.size<=b)/\b≠X.env.locals/\(∀x c,X.env.cells.lookup x=some c->c≠b)/\∀p∈X.pn++pins,p.1≠b:=fun b hb=>
    ⟨(f2 b hb).2.2.2.1,(f2 b hb).2.1,(f2 b hb).2.2.2.2.1,(f2 b hb).2.2.2.2.2⟩
   have Hr:s4.os=s2'.os:=I4.os
   have J4:Inv X pins σ H3 s4:=xT.pV (H':=H3) Hr u I4.aV I4.bare rJ
   exact behind G.objs.size D mC H3 s4 J4 hmC (xT.kr (Jc _) FU) qn
  ·refine aQ (T.item Xc rfl rfl rfl cK i _ s3 _ H3 fR I3 (fO fr3) cp go) fun r s4 hz_ =>?_
   refine ae.el hz_ _ ?_
   clear hz_
   rintro u hr h4
   subst hr
   show wpAny _ _ (letOwnedTupleGo tg (.ref it) u) _ _ _
   refine aQ h4 fun _ s5 hz_ =>?_
   refine ae.el hz_ _ ?_
   clear hz_
   rintro x H5 I5 r5 y5 cC fr5
   have A8:=I5.pinned (fO fr5) (T.obj _ _ cC)
   refine aQ (hg cl G.objs.size s2' H2' fp s5 _ H5 x u _ A8 r5 (gk _ _ _ _ (step x H5 y5))) fun _ s6 ⟨σ6,H6,I6,⟨q60,q6⟩,kσ,kl⟩=>?_
   have later:∀{σ':St} {H':Hp} {s':Shared},Inv Xc ([]++dQ fp s5.heap) σ' H' s'->tn (i+1) s'.heap/\∀b∈fp,H' b=none:=fun{σ' H' s'} Iz=>by
    refine⟨T.keep _ _ _ cC fun b hb o e=>(Iz.pin (b,o) (Jr _ (Jr _ (bP hb e)))).1,fun b hb =>?_⟩
    refine ae.el (T.obj _ _ cC b hb) _ ?_
    rintro o e d
    exact(Iz.pin (b,o) (Jr _ (Jr _ (bP hb e)))).2.1
   have back:∀{pl:List (Addr×Obj)} {H':Hp} {s':Shared},Inv Xc pl σ6 H' s'->Inv Xc pl (Jj Nc.length none++cN σ js) H' s':=fun{pl H' s'} Iz=>by
    refine Iz.weak (by rw[<-kl]) fun j v hj =>?_
    by_cases hn:j<Nc.length
    ·rw[Ua (by simpa using hn),U4] at hj
     split at hj<;>cases hj
    ·rw[kσ j (by first|lia|omega)];exact hj
   refine yJ (X:=Xc) rfl cK (wQ cl G.objs.size s2' H2' fp) (Fm cl G.objs.size s2' H2' fp) (dH cl G.objs.size s2' H2' fp) (wU cl G.objs.size s2' H2' fp) I6 q60 q6 fun H7 s7 I7 q7 =>?_
   refine ae.el (q7) _ ?_
   rintro m' tj w7
   obtain⟨l1,l2⟩:=later I7
   exact⟨m',tj,i+1,H7,back I7.cU,l1,l2,w7⟩
 exact codeAny_compStart_dict (loop _) (T.self _ 0 _ _ _ (T.keep _ _ _ aW fun b hb o e=>old b o (toG b o e)) (loop _))
theorem vT {X:Cx}{kx vx tg iter t2 i2:Expr}{wO:TI}{Hu:Nat}{scope:Scope}{pos:Pos}{Nc Fc:List Str}{js:List Nat}{wi:TI}{g:TG}{tk tv:TE}
  (cK:X.calm=true) (c:dC X scope Nc Fc js) (hi:PI X tg iter wi) (gk:Gk Nc.length g)
  (hg:∀cl C s H fp,PG (fq X Nc Fc scope cl C s H fp) tg g) (wQ:∀cl C s H fp,PI (fq X Nc Fc scope cl C s H fp) t2 i2 wO) (Fm:∀cl C s H fp,PG (fq X Nc Fc scope cl C s H fp) t2 (cM Hu)) (dH:∀cl C s H fp,PE (fq X Nc Fc scope cl C s H fp) kx tk) (wU:∀cl C s H fp,PE (fq X Nc Fc scope cl C s H fp) vx tv)
  (hs:∀x,foldedSetIterable iter X.env x=pure x:=by intro _;rfl) (AJ:∀cl C s H fp x,foldedSetIterable i2 (fq X Nc Fc scope cl C s H fp).env x=pure x:=by intros;rfl) :
  PE X (.DictComp kx vx [⟨tg,iter,[],0⟩,⟨t2,i2,[],0⟩] scope pos) (B5 wi Nc.length js g wO Hu tk tv):=by
 intro pins s σ H Q I h
 rw[arm_eval_DictComp]
 refine qG (use:=none) (fin:=fun D H2=>Q (.ref D) H2) cK c hi hg wQ Fm dH wU gk I h (fun C D m H2 s2 I2 hm hC q =>?_) hs AJ
 refine⟨m,hm,fun h' hs' =>?_⟩
 exact⟨.ref D,_,I2.turned (it:=C) (t':=s2.toks) (fun b o hb e=>hs'.extBut b o hb e) hC.1 (hC.2.1) hC.2.2.2.1 hC.2.2.2.2.1 hC.2.2.2.2.2,rfl,q⟩
structure Cq (prog:Program)(w:World)(A:Around)(it S:Addr)(fp:Addr->Prop)(n:Nat)(P:Nat->Value->Heap->Prop)(R:Value->Value->Prop)(St:Nat->Heap->Prop):Prop where
 sfp:¬fp S
 item:∀i (s:Shared) (Q:Option Value->Shared->Prop) (E:Value->Shared->Prop),i<n->St i s.heap->S<s.heap.objs.size ->
  (∀v h' tk,Keeps s.heap h' fp->St (i+1) h'->P i v h'->(∀j u,P j u s.heap->R u v)->Q (some v) { s with heap:=h',toks:=tk })->wpAny (model prog w) A (pyNext (.ref it)) Q E s
 stop:∀(s:Shared) (Q:Option Value->Shared->Prop) (E:Value->Shared->Prop),St n s.heap->S<s.heap.objs.size->(∀h' tk,Keeps s.heap h' fp->Q none { s with heap:=h',toks:=tk })->wpAny (model prog w) A (pyNext (.ref it)) Q E s
 keepS:∀i h h',St i h->Keeps h h' (· = S)->St i h'
 keepP:∀j v h h',P j v h->Keeps h h' (fun b=>fp b∨b=S)->P j v h'
section
variable {prog:Program}{w:World}{A:Around}{it S:Addr}{fp:Addr->Prop}{n:Nat}{P:Nat->Value->Heap->Prop}{R:Value->Value->Prop}{St:Nat->Heap->Prop}
theorem kC (Fd:Cq prog w A.in1 it S fp n P R St)(hn:n<=sizeLine){s:Shared}{Z:Result->Shared->Prop}{res:Value}{g:Heap}(fin:kh g S fp n P R s (Z (.ok (.ret res)))):
  ∀(k i:Nat) (h:Heap) (tk:Nat) (acc:Array Value) (c:Nat),i+k=n->St i h->qV h S i P R acc c->Keeps g h (fun b=>fp b∨b=S) ->
   codeAny (model prog w) A (.builtin "list.extend.loop" ⟨[.ref S,.ref it,res],[]⟩) Z { s with heap:=h,toks:=tk }
 | 0,i,h,tk,acc,c,hk,fZ,G,kp=>by
  have e:i=n:=by (first|lia|omega)
  subst e
  refine codeAny_builtin PySem.F.entry_extend_loop ?_
  rw[Around.under_plainId PySem.F.plain_extend_loop _]
  refine wpAny_bind (Fd.stop { s with heap:=h,toks:=tk } _ _ fZ (Ji G.ob) fun h' tk' k'=>wpAny_pure ?_)
  exact fin h' tk' acc c (fun b o nb q=>k' b o (fun z=>nb (.inl z)) (kp b o nb q)) ⟨k' _ _ Fd.sfp G.ob,G.sz,G.pw,fun j v e=>Fd.keepP _ _ _ _ (G.all j v e) fun b o nb q=>k' b o (fun z=>nb (.inl z)) q⟩
 | k+1,i,h,tk,acc,c,hk,fZ,G,kp=>by
  refine codeAny_builtin PySem.F.entry_extend_loop ?_
  rw[Around.under_plainId PySem.F.plain_extend_loop _]
  refine wpAny_bind (Fd.item i { s with heap:=h,toks:=tk } _ _ (by first|lia|omega) fZ (Ji G.ob) fun v h' tk' k' aD pv rv =>?_)
  have E3:=k' _ _ Fd.sfp G.ob
  have other:Keeps h' (h'.update S (Obj.mapSeq (·.push v))) (· = S):=fun b o nb q=>(Uq _ _ (Ne.symm nb)).trans q
  have k2:Keeps h (h'.update S (Obj.mapSeq (·.push v))) (fun b=>fp b∨b=S):=fun b o nb q=>other b o (fun z=>nb (.inr z)) (k' b o (fun z=>nb (.inl z)) q)
  have sz:=G.sz
  refine wpAny_bind (wpAny_updateSeq E3 rfl (wpAny_pure ⟨plainId_quiet PySem.F.plain_extend_loop _,?_⟩) (by rw[sz]; (first|lia|omega)) (by show(acc.push v).size<=sizeLine+1;rw[Wi,sz]; (first|lia|omega)))
  refine kC Fd hn fin k (i+1) _ tk' (acc.push v) _ (by first|lia|omega) (Fd.keepS _ _ _ aD other) ⟨Uu _ E3 rfl,by rw[Wi,sz],?_,fun j u e =>?_⟩ (fun b o nb q=>k2 b o nb (kp b o nb q))
  ·rw[Yk]
   refine Ue.mpr ⟨G.pw,Y8 _ _,fun a ha b hb =>?_⟩
   obtain⟨j,hj⟩:=U8.mp ha
   rw[Jg.mp hb]
   exact rv j a (G.all j a (by simpa using hj))
  ·by_cases hj:j<i
   ·rw[Array.getElem?_push_lt (by first|lia|omega)] at e
    exact Fd.keepP _ _ _ _ (G.all j u (by rw[Uh (by first|lia|omega)];exact e)) k2
   ·have wy:j=i:=by
     have:=(Yn.mp e).1
     rw[Wi] at this
     (first|lia|omega)
    subst wy
    have e':(acc.push v)[acc.size]? = some u:=by rw[sz];exact e
    rw[Array.getElem?_push_size] at e'
    cases e'
    exact Fd.keepP _ _ _ _ pv fun b o nb q=>other b o (fun z=>nb (.inr z)) q
end
theorem dw:Slot "set_iterator" "__next__" "set_iterator.__next__":=by
 refine .of (owner := "set_iterator") (n := "__next__") ?_ ?_ ?_ ?_ ?_ ?_
 ·rw[typeLookup_type,builtinLookup_eq_fast];kernel_rfl
 ·decide +kernel
 ·decide +kernel
 ·decide +kernel
 ·first
   | exact .inl (by decide +kernel)
   | exact .inr (by decide +kernel)
 ·rw[isSubtype_type];kernel_rfl
theorem iH:entryFor table "set_iterator.__next__" = some Builtin.«set_iterator.__next__»:=entryFor_of_fast (by kernel_rfl)
theorem jT (a:Value):argsOk "set_iterator.__next__" ⟨[a],[]⟩:=by
 unfold argsOk
 rw[signature?_of (id := "set_iterator.__next__") (n := "__txen__".toList) (o := "rotareti_tes".toList) (rows:=Manifest.sig_set_iterator) (by kernel_rfl) (by kernel_rfl)]
 kernel_rfl
theorem l4:entryFor table "set.__iter__" = some Builtin.«frozenset.__iter__»:=entryFor_alias (id' := "frozenset.__iter__") (by kernel_rfl) rfl (by decide +kernel) (by kernel_rfl)
theorem h7 {α:Type}:∀{l:List α} {i:Nat} (h:i<l.length),U7 (l[i]::l.eraseIdx i) l
 | x::l,0,h=>U7.refl _
 | x::l,i+1,h=>by
  rw[List.eraseIdx_cons_succ,List.getElem_cons_succ]
  exact(U7.swap _ _ _).trans ((h7 (Nat.lt_of_succ_lt_succ h)).cons x)
theorem uS {α:Type}(next:Nat->Nat):∀(n k:Nat) (left:List α) (out:Array α),left.length=n->U7 (pickOrder.go next n k left out).toList (out.toList++left)
 | 0,k,left,out,h=>by
  unfold pickOrder.go
  rw[Uy h,U5]
 | n+1,k,left,out,h=>by
  unfold pickOrder.go
  have hp:next k%left.length<left.length:=Nat.mod_lt _ (by first|lia|omega)
  rw[Je hp]
  dsimp only
  refine(uS next n (k+1) _ _ (by rw[List.length_eraseIdx,if_pos hp]; (first|lia|omega))).trans ?_
  rw[Yk,J9]
  refine U7.append_left _ ?_
  rw[List.singleton_append]
  exact h7 hp
theorem vU {α:Type}(next:Nat->Nat)(xs:Array α):U7 (pickOrder next xs).toList xs.toList:=uS next _ 0 _ #[] rfl
theorem tM {M:Model}{A:Around}{E:Value->Shared->Prop}{α:Type}:∀(n:Nat) (xs:List α) (s:Shared) (Q:List α->Shared->Prop),xs.length=n ->
  (∀ys d,U7 ys xs->Q ys { s with drawn:=d })->wpAny M A (drawOrder n xs) Q E s:=by
 intro n
 induction n with
 | zero=>
  intro xs s Q h q
  unfold drawOrder
  exact wpAny_pure (q [] s.drawn (by rw[Uy h]))
 | succ n ih=>
  intro xs s Q h q
  cases xs with
  | nil=>cases h
  | cons x xs=>
   unfold drawOrder
   refine wpAny_bind (fun Γ p hΓ =>?_)
   unfold choose
   rw[Sem.wp_choose]
   refine⟨by simp,?_⟩
   have hp:M.w.draws .order (s.drawn.get .order)%(x::xs).length<(x::xs).length:=Nat.mod_lt _ (by simp)
   generalize M.w.draws .order (s.drawn.get .order)%(x::xs).length=i at hp ⊢
   rw[Sem.wp_pure]
   dsimp only
   rw[Je hp]
   refine wpAny_bind (ih _ _ _ (by rw[List.length_eraseIdx,if_pos hp]; (first|lia|omega)) fun ys d hy=>wpAny_pure (q _ d ?_))
   exact(hy.cons _).trans (h7 hp)
noncomputable def Er (w:World):Bool:=w.params.followText "set-order"
inductive yi (w:World)(a:Addr)(es:Array (Int×Value))(ep:Nat)(t:SetTable)(lo i:Nat)(h:Heap)(it:Addr):Value->List Value->Prop
 | text (b:Er w=true):yi w a es ep t lo i h it (.int 0 0) ((pickOrder (w.params.setOrder a ep) es).toList.map (·.2))
 | places (b:Er w=false) (d:(!t.plain&&decide (es.size>1))=false) (l:t.led=true) (z:Nat) (c:Cut t.place z i):yi w a es ep t lo i h it (.int (z:Int) 0) (es.toList.map (·.2))
 | drawn (ys:List Nat) (p:U7 ys (U3 es.size)) (tp:Addr) (low:lo<=tp) (ne:tp≠it) (o:Obj) (n:Nat) (e:h.get? tp=some o) (d:o.data = .seq (ys.map fun(k:Nat)=>rawInt k).toArray n):yi w a es ep t lo i h it (.ref tp) (ys.map fun k=>(es.toList.map (·.2)).getD k .none)
structure Cf (w:World)(a:Addr)(es:Array (Int×Value))(ep:Nat)(t:SetTable)(lo:Nat)(vals:List Value)(it:Addr)(i:Nat)(h:Heap):Prop where
 set:∃o,h.get? a=some o/\o.data = .set es ep t
 fit:t.fits es.size=true
 good:cJ t
 ne:a≠it
 low:lo<=it
 ex:∃first,yi w a es ep t lo i h it first vals/\h.get? it=some { cls := .type "set_iterator",data := .fields #[first,.int i 0,.ref a,.int es.size 0,.int ep 0] }
theorem Cf.keep {w:World}{a:Addr}{es:Array (Int×Value)}{ep:Nat}{t:SetTable}{lo:Nat}{vals:List Value}{it:Addr}{i:Nat}{h h':Heap}(x:Cf w a es ep t lo vals it i h)(k:∀b o,h.get? b=some o->(b=a∨lo<=b)->h'.get? b=some o):Cf w a es ep t lo vals it i h':=by
 obtain⟨⟨o,e1,e2⟩,ft,g,ne,low,first,so,e3⟩:=x
 refine⟨⟨o,k _ _ e1 (.inl rfl),e2⟩,ft,g,ne,low,first,?_,k _ _ e3 (.inr low)⟩
 cases so with
 | text b=>exact .text b
 | places b d l z c=>exact .places b d l z c
 | drawn ys p tp tl ne o n e d=>exact .drawn ys p tp tl ne o n (k _ _ e (.inr tl)) d
section
variable {prog:Program}{w:World}{A:Around}{E:Value->Shared->Prop}{s:Shared}{a:Addr}{es:Array (Int×Value)}{ep:Nat}{t:SetTable}{o:Obj}{lo:Nat}
theorem wX {Q:Value->Shared->Prop}(ho:s.heap.get? a=some o)(hx:o.ExactSet)(hd:o.data = .set es ep t)(hf:t.fits es.size=true)(g:cJ t)(l:Er w=false->t.led=true)(hz:es.size<=sizeLine)
  (fin:∀it h' d vals,vals.length=es.size->U7 vals (es.toList.map (·.2))->s.heap.objs.size<=it->(∀b o,s.heap.get? b=some o->h'.get? b=some o)->Cf w a es ep t s.heap.objs.size vals it 0 h'->Q (.ref it) { s with heap:=h',drawn:=d }) :
  wpAny (model prog w) A (pyIter (.ref a)) Q E s:=by
 have hT:s.TypeIs (.ref a) "set":=⟨o,ho,hx.1⟩
 have low:a<s.heap.objs.size:=Ji ho
 refine wpAny_pyIter_slot hT F.slot_set_iter (wpAny_call_entry F.slot_set_iter hT l4 ?_ (F.args_set_iter_1 _))
 unfold Builtin.«frozenset.__iter__» Builtin.Frozenset.slot0 slotArgs Builtin.Frozenset.addrOf Builtin.Frozenset.sizeOf setEntries setDrawn setEpoch setsByText
 simp -iota only [List.isEmpty_nil,Bool.not_true,Ug, ↓reduceIte,bind_assoc,Yy,bne_self_eq_false]
 dsimp only
 try simp -iota only [bind_assoc,Ug, ↓reduceIte]
 refine wpAny_bind (wpAny_pure (wpAny_bind (wpAny_pure (wpAny_bind (wpAny_setState_of ho hd hf (wpAny_bind (wpAny_pure (wpAny_bind (wpAny_pure (wpAny_bind (wpAny_setState_of ho hd hf ?_)))))))))))
 refine wpAny_bind (wpAny_askSetting (wpAny_bind (wpAny_pure (wpAny_bind (wpAny_pure ?_)))))
 have last:∀(s1:Shared) (d:Drawn) (first:Value) (vals:List Value),s1.drawn=d->s1.gens=s.gens->s1.toks=s.toks->s1.os=s.os->(∀b o,s.heap.get? b=some o->s1.heap.get? b=some o)->s.heap.objs.size<=s1.heap.objs.size->vals.length=es.size->U7 vals (es.toList.map (·.2)) ->
   (∀h' it,s1.heap.objs.size<=it->(∀b o,s1.heap.get? b=some o->h'.get? b=some o)->yi w a es ep t s.heap.objs.size 0 h' it first vals) ->
   wpAny (model prog w) A.in1 (do
    let x <-setState a
    let y <-pure x.2.1
    let z <-newFields "set_iterator" [first,rawInt 0,.ref a,rawInt es.size,rawInt y]
    ret z) (fun fin s'=>∃v,fin = .done (.ret v)/\∃T' r,s'.TypeIs v T'/\typeLookup (.type T') (Str.ofString "__next__")=pure (some r)/\Q v s') E s1:=by
  intro s1 d first vals e1 e2 e3 e4 k1 z1 hl hp so
  refine wpAny_bind (wpAny_setState_of (k1 _ _ ho) hd hf (wpAny_bind (wpAny_pure ?_)))
  unfold newFields
  refine wpAny_bind (wpAny_newObj_type (wpAny_pure ?_))
  refine⟨_,rfl, "set_iterator",_,⟨_,Jy _ rfl,rfl⟩,dw.lookup,?_⟩
  have k2:∀b o,s1.heap.get? b=some o->(s1.heap.push { cls := .type "set_iterator",data := .fields [first,rawInt 0,.ref a,rawInt es.size,rawInt ep].toArray }).get? b=some o:=fun b o x=>Jd _ x
  have q:=fin s1.heap.objs.size (s1.heap.push { cls := .type "set_iterator",data := .fields [first,rawInt 0,.ref a,rawInt es.size,rawInt ep].toArray }) d vals hl hp z1 (fun b o x=>k2 b o (k1 b o x)) ⟨⟨o,k2 _ _ (k1 _ _ ho),hd⟩,hf,g,J3 (Ju low z1),z1,first,so _ _ (Jc _) k2,Jy _ rfl⟩
  subst e1
  rw[<-e2,<-e3,<-e4] at q
  exact q
 have lv:(es.toList.map (·.2)).length=es.size:=by rw[Jb,Jv]
 cases hb:Er w with
 | true=>
  have Fo:w.params.followText "set-order" = true:=hb
  refine wpAny_ite ?_
  rw[if_neg (by show ¬((!w.params.followText "set-order" && _)=true);rw[Fo];exact Jo)]
  refine wpAny_bind (wpAny_pure ?_)
  have pm:=vU (w.params.setOrder a ep) es
  exact last s s.drawn _ _ rfl rfl rfl rfl (fun _ _ x=>x) (Jc _) (by rw[Jb,pm.length_eq,Jv]) (pm.map _) fun h' it _ _ =>.text hb
 | false=>
  have Fo:w.params.followText "set-order" = false:=hb
  refine wpAny_ite ?_
  cases hc:(!t.plain&&decide (es.size>1)) with
  | false=>
   rw[if_neg (by show ¬((!w.params.followText "set-order" && (!t.plain&&decide (es.size>1)))=true);rw[Fo,hc];exact Jo)]
   refine wpAny_bind (wpAny_pure ?_)
   exact last s s.drawn _ _ rfl rfl rfl rfl (fun _ _ x=>x) (Jc _) lv (U7.refl _) fun h' it _ _ =>.places hb hc (l hb) 0 ⟨Us _,fun i _ z=>absurd z (Nat.not_lt_zero _),fun i _ _=>Us _⟩
  | true=>
   rw[if_pos (by show(!w.params.followText "set-order" && (!t.plain&&decide (es.size>1)))=true;rw[Fo,hc];rfl)]
   refine wpAny_bind (tM _ _ _ _ Yq fun ys d hy =>?_)
   have CO:ys.length=es.size:=by rw[hy.length_eq,Yq]
   refine wpAny_bind (wpAny_newTuple ?_ (by rw[Jb,CO];exact hz))
   have rm:U7 (ys.map fun k=>(es.toList.map (·.2)).getD k .none) (es.toList.map (·.2)):=by
    refine(hy.map _).trans ?_
    have:(U3 es.size).map (fun k=>(es.toList.map (·.2)).getD k .none)=es.toList.map (·.2):=by
     refine List.ext_getElem (by rw[Jb,Yq,lv]) fun i h1 h2 =>?_
     rw[Yb,List.getElem_range,We,Je h2];rfl
    rw[this]
   refine last { s with heap:=s.heap.push { cls := .type "tuple",data := .seq (ys.map fun(i:Nat)=>rawInt i).toArray },drawn:=d } d _ _ rfl rfl rfl rfl (fun b o x=>Jd _ x) (by show _<=(s.heap.push _).objs.size;rw[Ws];exact Yu _) (by rw[Jb,CO]) rm fun h' it hit k' =>?_
   refine .drawn ys hy _ (Jc _) ?_ _ 0 (k' _ _ (Jy _ rfl)) rfl
   have hit:(s.heap.push { cls := .type "tuple",data := .seq (ys.map fun(i:Nat)=>rawInt i).toArray }).objs.size<=it:=hit
   rw[Ws] at hit
   exact J3 hit
theorem m5 {Q:Array (Int×Value)->Shared->Prop}(b:Er w=true)(ho:s.heap.get? a=some o)(hd:o.data = .set es ep t)(hf:t.fits es.size=true)(q:Q (pickOrder (w.params.setOrder a ep) es) s):wpAny (model prog w) A (setWalk a) Q E s:=by
 unfold setWalk setsByText
 have b':w.params.followText "set-order" = true:=b
 refine wpAny_bind (wpAny_setState_of ho hd hf (wpAny_bind (wpAny_bind (wpAny_askSetting (wpAny_pure ?_)))))
 refine wpAny_ite ?_
 rw[if_pos (show({ program:=(model prog w).prog,params:=(model prog w).w.params }:Setting).params.followText "set-order" = true from b')]
 exact wpAny_bind (wpAny_askSetting (wpAny_pure q))
theorem yo {vals:List Value}{it:Addr}{i:Nat}{v:Value}{Q:Option Value->Shared->Prop}(st:Cf w a es ep t lo vals it i s.heap)(hv:vals[i]? = some v)
  (fin:∀h',(∀b o,b≠it->s.heap.get? b=some o->h'.get? b=some o)->h'.objs.size=s.heap.objs.size->Cf w a es ep t lo vals it (i+1) h'->Q (some v) { s with heap:=h' }) :
  wpAny (model prog w) A (pyNext (.ref it)) Q E s:=by
 obtain⟨⟨o,ho,hd⟩,hf,g,ne,low,first,so,e⟩:=st
 have hT:s.TypeIs (.ref it) "set_iterator":=⟨_,e,rfl⟩
 refine wpAny_bind (wpAny_attempt (wpAny_callSpecial?_slot (name:=Str.ofString "__next__") hT dw (wpAny_call_entry dw hT iH ?_ (jT _))))
 unfold Builtin.«set_iterator.__next__» slotArgs setEntries setNext setsByText
 simp -iota only [List.isEmpty_nil,Bool.not_true,Ug, ↓reduceIte,bind_assoc,Yy,bne_self_eq_false]
 dsimp only
 try simp -iota only [bind_assoc,Ug, ↓reduceIte]
 refine wpAny_bind (wpAny_pure (wpAny_bind (wpAny_fieldsOf e rfl ?_)))
 dsimp only
 refine wpAny_bind (wpAny_setState_of ho hd hf (wpAny_bind (wpAny_pure ?_)))
 refine wpAny_ite ?_
 rw[if_neg (by simp)]
 cases so with
 | text b=>
  have b':w.params.followText "set-order" = true:=b
  refine wpAny_bind (wpAny_setState_of ho hd hf (wpAny_bind (wpAny_askSetting (wpAny_bind (wpAny_pure ?_)))))
  refine wpAny_bind (wpAny_ite ?_)
  rw[if_pos (show({ program:=(model prog w).prog,params:=(model prog w).w.params }:Setting).params.followText "set-order" = true from b')]
  refine wpAny_ite ?_
  rw[if_neg (by simp)]
  refine wpAny_bind (m5 b ho hd hf (wpAny_pure ?_))
  have hx:((pickOrder (w.params.setOrder a ep) es)[(i:Int).toNat]?).map (fun e=>(e.2,(0:Int).toNat))=some (v,0):=by
   rw[Yi,<-Uo]
   rw[Jm] at hv
   cases q:(pickOrder (w.params.setOrder a ep) es).toList[i]? with
   | none=>rw[q] at hv;cases hv
   | some y=>rw[q] at hv;cases hv;rfl
  rw[hx]
  refine wpAny_bind (wpAny_setField_rec e (by simp) fun h1 e1 s1=>wpAny_bind (wpAny_setField_rec (s:={ s with heap:=h1 }) e1 (by simp) fun h2 e2 s2 =>?_))
  refine wpAny_pure ⟨_,rfl,wpAny_pure (fin h2 (fun b o nb x=>s2.extBut b o nb (s1.extBut b o nb x)) (s2.1.trans s1.1) ⟨⟨o,s2.extBut _ _ ne (s1.extBut _ _ ne ho),hd⟩,hf,g,ne,low,_,.text b,?_⟩)⟩
  simpa [rawInt] using e2
 | places b d l z c=>
  have b':w.params.followText "set-order" = false:=b
  have PF:t.place.size=es.size:=by
   have:=hf
   simp only[SetTable.fits,Yo,beq_iff_eq] at this
   exact this.1
  have hi:i<es.size:=by
   have:=(Js.mp hv).1
   rwa[Jb,Jv] at this
  refine wpAny_bind (wpAny_setState_of ho hd hf (wpAny_bind (wpAny_askSetting (wpAny_bind (wpAny_pure ?_)))))
  refine wpAny_bind (wpAny_ite ?_)
  rw[if_neg (by show ¬(w.params.followText "set-order" = true);rw[b'];exact Jo)]
  refine wpAny_ite ?_
  rw[if_neg (by show ¬((!t.plain&&decide (es.size>1))=true);rw[d];exact Jo)]
  refine wpAny_bind ?_
  show wpAny _ _ (if (!t.led && !es.isEmpty)=true then unsupported "set:maker-not-led" else pure ()) _ _ _
  rw[l]
  refine wpAny_pure ?_
  have GD:SetTable.below t.place ((z:Int)).toNat=i:=by
   rw[Yi]
   have c2:=eS g.2 z
   have h1:¬SetTable.below t.place z<i:=fun q=>by
    have hs:SetTable.below t.place z<t.place.size:=by (first|lia|omega)
    have:=c2.hi _ hs (Jc _)
    have:=c.lo _ hs q
    (first|lia|omega)
   have h2:¬i<SetTable.below t.place z:=fun q=>by
    have hs:i<t.place.size:=by (first|lia|omega)
    have:=c2.lo _ hs q
    have:=c.hi _ hs (Jc _)
    (first|lia|omega)
   (first|lia|omega)
  refine wpAny_pure ?_
  dsimp only
  rw[GD,Uh hi,Uh (show i<t.place.size by first|lia|omega)]
  have N6:es[i].2=v:=by
   rw[Jm,Uo,Uh hi] at hv
   injection hv
  dsimp only
  rw[N6]
  refine wpAny_bind (wpAny_setField_rec e (by simp) fun h1 e1 s1=>wpAny_bind (wpAny_setField_rec (s:={ s with heap:=h1 }) e1 (by simp) fun h2 e2 s2 =>?_))
  refine wpAny_pure ⟨_,rfl,wpAny_pure (fin h2 (fun b o nb x=>s2.extBut b o nb (s1.extBut b o nb x)) (s2.1.trans s1.1) ⟨⟨o,s2.extBut _ _ ne (s1.extBut _ _ ne ho),hd⟩,hf,g,ne,low,_,.places b d l (t.place[i]+1) ?_,?_⟩)⟩
  ·have c3:=eS g.2 (t.place[i]+1)
   rw[Cut.next g.2 (by first|lia|omega) c3] at c3
   exact c3
  ·simpa [rawInt] using e2
 | drawn ys p tp tl nt ot n et dt=>
  dsimp only
  unfold seqItems?
  refine wpAny_bind (wpAny_bind (wpAny_load et ?_))
  rw[dt]
  refine wpAny_pure ?_
  dsimp only
  rw[Jm] at hv
  cases hy:ys[i]? with
  | none=>rw[hy] at hv;cases hv
  | some y=>
   rw[hy] at hv
   injection hv with hv
   have N9:y<es.size:=Wd.mp (p.mem_iff.mp (List.mem_of_getElem? hy))
   have g8:(ys.map fun(k:Nat)=>rawInt k).toArray[(i:Int).toNat]? = some (rawInt y):=by
    rw[Yi,List.getElem?_toArray,Jm,hy];rfl
   rw[g8]
   have jc:es[y].2=v:=by
    rw[<-hv]
    dsimp only
    rw[We,Jm,Uo,Uh N9];rfl
   show wpAny _ _ (setNextDrawn a ((y:Int)).toNat ((ep:Int)).toNat >>= _) _ _ _
   rw[Yi,Yi]
   unfold setNextDrawn
   refine wpAny_bind (wpAny_bind (wpAny_setState_of ho hd hf ?_))
   dsimp only
   refine wpAny_ite ?_
   rw[if_neg (by simp),Uh N9]
   refine wpAny_pure ?_
   show wpAny _ _ (setField (.ref it) 1 (rawInt ((i:Int)+1)) >>= fun _=>ret es[y].2) _ _ _
   rw[jc]
   refine wpAny_bind (wpAny_setField_rec e (by simp) fun h1 e1 s1 =>?_)
   refine wpAny_pure ⟨_,rfl,wpAny_pure (fin h1 (fun b o nb x=>s1.extBut b o nb x) s1.1 ⟨⟨o,s1.extBut _ _ ne ho,hd⟩,hf,g,ne,low,_,.drawn ys p tp tl nt ot n (s1.extBut _ _ nt et) dt,?_⟩)⟩
   simpa [rawInt] using e1
theorem zt {vals:List Value}{it:Addr}{Q:Option Value->Shared->Prop}(hh:A.handled=none)(st:Cf w a es ep t lo vals it es.size s.heap)(hl:vals.length=es.size)
  (fin:∀h',(∀b o,b≠it->s.heap.get? b=some o->h'.get? b=some o)->Q none { s with heap:=h' }) :
  wpAny (model prog w) A (pyNext (.ref it)) Q E s:=by
 obtain⟨⟨o,ho,hd⟩,hf,g,ne,low,first,so,e⟩:=st
 have hT:s.TypeIs (.ref it) "set_iterator":=⟨_,e,rfl⟩
 refine wpAny_bind (wpAny_attempt (wpAny_callSpecial?_slot (name:=Str.ofString "__next__") hT dw (wpAny_call_entry dw hT iH ?_ (jT _))))
 unfold Builtin.«set_iterator.__next__» slotArgs setEntries setNext setsByText
 simp -iota only [List.isEmpty_nil,Bool.not_true,Ug, ↓reduceIte,bind_assoc,Yy,bne_self_eq_false]
 dsimp only
 try simp -iota only [bind_assoc,Ug, ↓reduceIte]
 refine wpAny_bind (wpAny_pure (wpAny_bind (wpAny_fieldsOf e rfl ?_)))
 dsimp only
 refine wpAny_bind (wpAny_setState_of ho hd hf (wpAny_bind (wpAny_pure ?_)))
 refine wpAny_ite ?_
 rw[if_neg (by simp)]
 cases so with
 | text b=>
  have b':w.params.followText "set-order" = true:=b
  refine wpAny_bind (wpAny_setState_of ho hd hf (wpAny_bind (wpAny_askSetting (wpAny_bind (wpAny_pure ?_)))))
  refine wpAny_bind (wpAny_ite ?_)
  rw[if_pos (show({ program:=(model prog w).prog,params:=(model prog w).w.params }:Setting).params.followText "set-order" = true from b')]
  refine wpAny_ite ?_
  rw[if_neg (by simp)]
  refine wpAny_bind (m5 b ho hd hf (wpAny_pure ?_))
  have hx:((pickOrder (w.params.setOrder a ep) es)[(es.size:Int).toNat]?).map (fun e=>(e.2,(0:Int).toNat))=none:=by
   have:(pickOrder (w.params.setOrder a ep) es).size=es.size:=by rw[<-hl,Jb,Jv]
   rw[Yi,Yp (by first|lia|omega)];rfl
  rw[hx]
  refine wpAny_bind (wpAny_setField_rec e (by simp) fun h1 e1 s1 =>?_)
  wp_walk
  refine wpAny_raiseNew_none hh (wpAny_bind (wpAny_isInstance (T := "StopIteration") (b:=true) ⟨_,Jy _ rfl,rfl⟩ isSubtype_stop (wpAny_pure (fin _ fun b o nb x =>?_))))
  exact Jd _ (Jd _ (s1.extBut b o nb x))
 | places b d l z c=>
  have b':w.params.followText "set-order" = false:=b
  have PF:t.place.size=es.size:=by
   have:=hf
   simp only[SetTable.fits,Yo,beq_iff_eq] at this
   exact this.1
  refine wpAny_bind (wpAny_setState_of ho hd hf (wpAny_bind (wpAny_askSetting (wpAny_bind (wpAny_pure ?_)))))
  refine wpAny_bind (wpAny_ite ?_)
  rw[if_neg (by show ¬(w.params.followText "set-order" = true);rw[b'];exact Jo)]
  refine wpAny_ite ?_
  rw[if_neg (by show ¬((!t.plain&&decide (es.size>1))=true);rw[d];exact Jo)]
  refine wpAny_bind ?_
  show wpAny _ _ (if (!t.led && !es.isEmpty)=true then unsupported "set:maker-not-led" else pure ()) _ _ _
  rw[l]
  refine wpAny_pure ?_
  have GD:es.size<=SetTable.below t.place ((z:Int)).toNat:=by
   rw[Yi]
   have c2:=eS g.2 z
   refine Nat.not_lt.mp fun q =>?_
   have hs:SetTable.below t.place z<t.place.size:=by (first|lia|omega)
   have:=c2.hi _ hs (Jc _)
   have:=c.lo _ hs q
   (first|lia|omega)
  refine wpAny_pure ?_
  dsimp only
  rw[Yp GD]
  dsimp only
  refine wpAny_bind (wpAny_setField_rec e (by simp) fun h1 e1 s1 =>?_)
  wp_walk
  refine wpAny_raiseNew_none hh (wpAny_bind (wpAny_isInstance (T := "StopIteration") (b:=true) ⟨_,Jy _ rfl,rfl⟩ isSubtype_stop (wpAny_pure (fin _ fun b o nb x =>?_))))
  exact Jd _ (Jd _ (s1.extBut b o nb x))
 | drawn ys p tp tl nt ot n et dt=>
  dsimp only
  unfold seqItems?
  refine wpAny_bind (wpAny_bind (wpAny_load et ?_))
  rw[dt]
  refine wpAny_pure ?_
  dsimp only
  have CO:ys.length=es.size:=by rw[p.length_eq,Yq]
  have g8:(ys.map fun(k:Nat)=>rawInt k).toArray[(es.size:Int).toNat]? = none:=by
   rw[Yi,Yp (by rw[Jn,Jb,CO];exact Jc _)]
  rw[g8]
  refine wpAny_bind (wpAny_setField_rec e (by simp) fun h0 e0 s0=>wpAny_bind (wpAny_setField_rec (s:={ s with heap:=h0 }) e0 (by simp) fun h1 e1 s1 =>?_))
  wp_walk
  refine wpAny_raiseNew_none hh (wpAny_bind (wpAny_isInstance (T := "StopIteration") (b:=true) ⟨_,Jy _ rfl,rfl⟩ isSubtype_stop (wpAny_pure (fin _ fun b o nb x =>?_))))
  exact Jd _ (Jd _ (s1.extBut b o nb (s0.extBut b o nb x)))
end
section
variable {prog:Program}{w:World}{a:Addr}{es:Array (Int×Value)}{ep:Nat}{t:SetTable}{lo:Nat}
theorem zd {A:Around}{it S:Addr}{vals:List Value}(hh:A.handled=none)(hl:vals.length=es.size)(n1:it≠S)(n2:a≠S)(hS:S<lo):
  Cq prog w A it S (· = it) es.size (fun i v _=>vals[i]? = some v) (fun _ _=>True) (fun i h=>Cf w a es ep t lo vals it i h) where
 sfp:=fun z=>n1 z.symm
 item:=fun i s Q E hi st _ q=>yo st (v:=vals[i]) (Je (by first|lia|omega)) fun h' k' z' aD=>q _ h' s.toks (fun b o nb x=>k' b o nb x) aD (Je (by first|lia|omega)) fun _ _ _=>trivial
 stop:=fun s Q E st _ q=>zt hh st hl fun h' k'=>q h' s.toks fun b o nb x=>k' b o nb x
 keepS:=fun i h h' st k=>st.keep fun b o e hb=>k b o (fun z=>by
  rcases hb with rfl|hb
  ·exact n2 z
  ·subst z;exact absurd hS (Nat.not_lt.mpr hb)) e
 keepP:=fun j v h h' p k=>p
theorem Ae:isSubtype (.type "set") (.type "set")=pure true:=by
 first|rfl|decide|(unfold isSubtype;rfl)
theorem sC {A:Around}{S:Addr}{o:Obj}(hh:A.in1.handled=none){s:Shared}{Z:Result->Shared->Prop}{res:Value}{c0:Nat}(ho:s.heap.get? a=some o)(hx:o.ExactSet)(hd:o.data = .set es ep t)(hf:t.fits es.size=true)(g:cJ t)(l:Er w=false->t.led=true)(hz:es.size<=sizeLine)
  (Od:a≠S) (hS:s.heap.get? S=some { cls := .type "list",data := .seq #[] c0 })
  (fin:∀h' tk d acc c vals,Keeps s.heap h' (· = S)->vals.length=es.size->U7 vals (es.toList.map (·.2))->qV h' S es.size (fun i v _=>vals[i]? = some v) (fun _ _=>True) acc c->Z (.ok (.ret res)) { s with heap:=h',toks:=tk,drawn:=d }) :
  wpAny (model prog w) A.in1 (Builtin.List.listExtendWith (.ref S) (.ref a) res) (rT prog w A Z) (fun e s'=>Z (.error e) s') s:=by
 have hT:s.TypeIs (.ref a) "set":=⟨o,ho,hx.1⟩
 have zG:Builtin.List.listSameRef (.ref S) (.ref a)=false:=by simp[Builtin.List.listSameRef,Ne.symm Od]
 have low:=Ji hS
 unfold Builtin.List.listExtendWith
 refine wpAny_bind (wpAny_typeOf hT ?_)
 simp only[zG,show(Value.type "set" == Value.type "list")=false by decide,show(Value.type "set" == Value.type "tuple")=false by decide,Bool.or_false,Ug,if_false]
 refine wpAny_bind (wX ho hx hd hf g l hz fun it h1 d vals hl hp hit k1 dy =>?_)
 have L3:Shared.TypeIs { s with heap:=h1,drawn:=d } (.ref a) "set":=⟨o,k1 _ _ ho,hx.1⟩
 have hint:∀(Q:Bool->Shared->Prop),Q false { s with heap:=h1,drawn:=d } -> wpAny (model prog w) A.in1 (Builtin.List.listLengthHint (.ref a)) Q (fun e s'=>Z (.error e) s') { s with heap:=h1,drawn:=d }:=fun Q q=>by
  unfold Builtin.List.listLengthHint
  refine wpAny_bind (wpAny_specialOf L3 F.slot_set_len.lookup ?_)
  refine wpAny_bind (wpAny_isInstance (T := "set") (b:=true) L3 Ae ?_)
  refine wpAny_ite_split (fun z=>absurd z (by decide)) fun _=>wpAny_ite_split (fun _ =>?_) fun z=>absurd (show _=true by decide +kernel) z
  exact wpAny_bind (wpAny_typeOf L3 (wpAny_pure q))
 refine wpAny_bind (wpAny_holding (hint _ ?_))
 have Fl:=k1 _ _ hS
 have nS:it≠S:=fun z=>by subst z;exact absurd low (Nat.not_lt.mpr hit)
 have go:∀(h:Heap) (c tk:Nat),Keeps h1 h (· = S)->h.get? S=some { cls := .type "list",data := .seq #[] c } -> codeAny (model prog w) A (.builtin "list.extend.loop" ⟨[.ref S,.ref it,res],[]⟩) Z { s with heap:=h,toks:=tk,drawn:=d }:=fun h c tk k ob=>by
  have Fd:=zd (prog:=prog) (w:=w) (ep:=ep) (t:=t) (vals:=vals) (A:=A.in1) hh hl nS Od low
  refine kC Fd hz (s:={ s with drawn:=d }) (g:=h1) (fun h' tk acc c k' G=>fin h' tk d acc c vals (fun b o nb q=>k' b o (fun z=>z.elim (fun z=>by subst z;exact absurd (Ji q) (Nat.not_lt.mpr hit)) nb) (k1 b o q)) hl hp G) es.size 0 h tk #[] c (by first|lia|omega) (Fd.keepS _ _ _ dy k) ⟨ob,rfl,.nil,fun j v e=>by simp at e⟩ fun b o nb q=>k b o (fun z=>nb (.inr z)) q
 refine wpAny_ite_split (fun _ =>?_) fun z=>absurd (show _=true by decide +kernel) z
 refine wpAny_bind (wpAny_rule (wpAny_bind ?_))
 have o1:=Uu (Obj.mapSeq (·.push Value.none)) Fl rfl
 have o2:=Uu (Obj.mapSeq (·.pop)) o1 rfl
 refine wpAny_bind (wpAny_updateSeq (s:={ s with heap:=h1,drawn:=d }) Fl rfl (wpAny_updateSeq (hz:=by seq_fits) o1 rfl (wpAny_pure ⟨plainId_quiet PySem.F.plain_extend_loop _,go _ _ _ (fun b o nb q =>?_) o2⟩)))
 exact(Uq _ _ (Ne.symm nb)).trans ((Uq _ _ (Ne.symm nb)).trans q)
theorem pP {A:Around}{E:Value->Shared->Prop}{o:Obj}(hh:A.handled=none){s:Shared}{Q:List Value->Shared->Prop}(ho:s.heap.get? a=some o)(hx:o.ExactSet)(hd:o.data = .set es ep t)(hf:t.fits es.size=true)(g:cJ t)(l:Er w=false->t.led=true)(hz:es.size<=sizeLine)
  (fin:∀h' tk d vals,s.heap.objs.size<=h'.objs.size->(∀b o,s.heap.get? b=some o->h'.get? b=some o)->U7 vals (es.toList.map (·.2))->Q vals { s with heap:=h',toks:=tk,drawn:=d }):wpAny (model prog w) A (collect (.ref a)) Q E s:=by
 unfold collect
 refine wpAny_bind (wpAny_runValue (codeAny_builtin PySem.F.entry_proto_collect ?_))
 rw[Around.under_plainId PySem.F.plain_proto_collect _]
 show wpAny _ A.in1 (newList [] >>= fun l=>again (.builtin "list.__iadd__" ⟨[l,.ref a],[]⟩)) _ _ s
 refine wpAny_bind (wpAny_newObj_type (wpAny_pure ⟨plainId_quiet PySem.F.plain_list_iadd _,codeAny_builtin PySem.F.entry_list_iadd ?_⟩))
 rw[Around.under_plainId PySem.F.plain_list_iadd _]
 have k0:∀b o,s.heap.get? b=some o->(s.heap.push { cls := .type "list",data := .seq ([]:List Value).toArray }).get? b=some o:=fun b o x=>Jd _ x
 refine sC (s:={ s with heap:=s.heap.push { cls := .type "list",data := .seq ([]:List Value).toArray } }) (A:=A) (res := .ref s.heap.objs.size)
  (Z:=fun(r:Result) s'=>match r with
   | .ok (.ret v)=>wpAny (model prog w) A (match v with
    | .ref a=>(load a >>= fun o=>match o.data with
     | .seq xs _=>pure xs.toList
     | _=>unsupported "internal:collect")
    | _=>unsupported "internal:collect") Q E s'
   | .ok _=>False
   | .error e=>E e s') hh (k0 _ _ ho) hx hd hf g l hz (J3 (Ji ho)) (Jy _ rfl) fun h' tk d acc c vals k hl hp G =>?_
 refine wpAny_bind (wpAny_load G.ob (wpAny_pure ?_))
 have e:acc.toList=vals:=by
  refine List.ext_getElem? fun j =>?_
  by_cases hj:j<acc.size
  ·rw[Uo,Uh hj]
   exact(G.all j _ (Uh hj)).symm
  ·rw[Uo,Yp (by first|lia|omega),Wh (by have:=G.sz; (first|lia|omega))]
 rw[e]
 exact fin h' tk d vals (U6 (Ji G.ob)) (fun b o x=>k b o (J3 (Ji x)) (k0 b o x)) hp
end
theorem jP {α:Type}[DecidableEq α]:∀{D ns:List α},D.Nodup->(∀k∈D,k∈ns)->ns.length<=D.length->U7 ns D
 | [],ns,_,_,hl=>by rw[Uy (Nat.le_zero.mp hl)]
 | k::D,ns,nd,sub,hl=>by
  obtain⟨nk,nd'⟩:=Ye.mp nd
  have hk:=sub k Jk
  refine(List.perm_cons_erase hk).trans (U7.cons k (jP nd' (fun x hx =>?_) ?_))
  ·exact(List.mem_erase_of_ne (fun z=>nk (by rw[<-z];exact hx))).mpr (sub x (Jh _ hx))
  ·rw[List.length_erase_of_mem hk]
   rw[J8] at hl
   (first|lia|omega)
theorem Inv.drawn {X:Cx}{pins:List (Addr×Obj)}{σ:St}{H:Hp}{s:Shared}(d:Drawn)(I:Inv X pins σ H s):Inv X pins σ H { s with drawn:=d }:=⟨I.ok,I.os,I.bare,I.base,I.loc,I.cell,I.free,I.freeC,I.pin,I.aV,I.len⟩
theorem Ax:typeLookup (.type "list") "keys" = pure none:=by rw[typeLookup_type,builtinLookup_eq_fast];kernel_rfl
theorem Hc:typeLookup (.type "list") "__getattr__" = pure none:=by rw[typeLookup_type,builtinLookup_eq_fast];kernel_rfl
theorem wY:isSubtype (.type "AttributeError") (.type "AttributeError")=pure true:=by first|rfl|(rw[isSubtype_type];kernel_rfl)
section
variable {prog:Program}{w:World}{A:Around}{E:Value->Shared->Prop}{h:Heap}{g:Array GenState}{d:Drawn}{t:Nat}{os:OsState}{a:Addr}{o:Obj}
theorem sf {tk:Tok}{Q:Fin->Shared->Prop}(hx:h.get? a=some o)(hc:o.cls = .type "list")(Ea:o.dict=none){xs:Array Value}{n:Nat}(hd:o.data = .seq xs n)(hh:A.handled=none)
  (hq:∀e h' t',(∀b o,h.get? b=some o->h'.get? b=some o)->(∃oe,h'.get? e=some oe/\oe.cls = .type "AttributeError")->E (.ref e) ⟨h',g,d,t',os⟩) :
  wpAny (model prog w) A (Builtin.«object.__getattribute__» ⟨[.ref a,.str "keys" tk],[]⟩) Q E ⟨h,g,d,t,os⟩:=by
 have hT:(⟨h,g,d,t,os⟩:Shared).TypeIs (.ref a) "list":=⟨_,hx,hc⟩
 have f4:=Ax
 repeat (any_goals (first|assumption|wp_step))
 rw[hd]
 dsimp only
 unfold instanceDict
 repeat (any_goals (first|assumption|wp_step))
 rw[Ea,hc]
 repeat (any_goals (first|assumption|wp_step))
 have f9:=wY
 unfold raiseAttrError noteAttr
 wp_walk
 rw[show(Manifest.find? "AttributeError").elim false (fun t=>t.mro.contains "StopIteration" || t.mro.contains "SystemExit")=false by decide +kernel,if_neg Jo]
 repeat (any_goals (first|assumption|wp_step))
 refine wpAny_raiseNew_none hh (hq _ _ _ (fun b o' x =>?_) ⟨_,Uu _ (Jy _ rfl) rfl,rfl⟩)
 have x1:=Jd (h:=h) { cls:=Value.type "tuple",data:=Data.seq #[Value.str (Str.ofString (toString "'" ++ toString ((Manifest.find? "list").elim "list" fun x=>x.tpName)++toString "' object has no attribute '")++Str.ofString "keys" ++ Str.ofString "'") t] } x
 rw[Uq _ _ (Yv (Ji x1))]
 exact Jd _ x1
theorem vV {tk:Tok}{R:Result->Shared->Prop}(hx:h.get? a=some o)(hc:o.cls = .type "list")(Ea:o.dict=none){xs:Array Value}{n:Nat}(hd:o.data = .seq xs n)(hh:A.handled=none)
  (hq:∀e h' t',(∀b o,h.get? b=some o->h'.get? b=some o)->(∃oe,h'.get? e=some oe/\oe.cls = .type "AttributeError")->R (.error (.ref e)) ⟨h',g,d,t',os⟩) :
  codeAny (model prog w) A (.call (.builtin "list.__getattribute__") ⟨[.ref a,.str "keys" tk],[]⟩) R ⟨h,g,d,t,os⟩:=
 codeAny_call_builtin F.slot_list_getattribute.plain F.entry_list_ga (F.slot_list_getattribute.check _ _ _ _ _ _ _ _ (show(⟨h,g,d,t,os⟩:Shared).TypeIs (.ref a) "list" from⟨_,hx,hc⟩) (F.args_list_getattribute_2 _ _) (sf hx hc Ea hd hh hq))
theorem wL {Q:Option Value->Shared->Prop}(hx:h.get? a=some o)(hc:o.cls = .type "list")(Ea:o.dict=none){xs:Array Value}{n:Nat}(hd:o.data = .seq xs n)(hh:A.handled=none)
  (hq:∀h' t',(∀b o,h.get? b=some o->h'.get? b=some o)->Q none ⟨h',g,d,t',os⟩):wpAny (model prog w) A (getAttr? (.ref a) "keys") Q E ⟨h,g,d,t,os⟩:=by
 have hT:(⟨h,g,d,t+1,os⟩:Shared).TypeIs (.ref a) "list":=⟨_,hx,hc⟩
 have f2:=F.slot_list_getattribute.lookup
 have f3:=F.slot_list_getattribute.bind (.ref a)
 have f4:=Hc
 unfold getAttr? getAttrBy?
 repeat (any_goals (first|assumption|wp_step))
 refine vV hx hc Ea hd hh fun e h' t' k hoe =>?_
 have Qt:Shared.TypeIs ⟨h',g,d,t',os⟩ (.ref e) "AttributeError":=hoe
 have f5:=wY
 dsimp only
 unfold getattributeRaised
 refine wpAny_bind (wpAny_isInstance (T := "AttributeError") (b:=true) Qt f5 ?_)
 rw[if_pos rfl]
 unfold hookBehind
 repeat (any_goals (first|assumption|wp_step))
 exact hq h' t' k
end
theorem gD:entryFor table "dict.update.loop" = some Builtin.«dict.update.loop»:=entryFor_of_fast (by kernel_rfl)
theorem cZ:plainId "dict.update.loop" = true:=by decide +kernel
section
variable {prog:Program}{w:World}{K:Type}[DecidableEq K]{knd:KeyKind prog w K}{A:Around}{E:Value->Shared->Prop}
noncomputable def rW (knd:KeyKind prog w K)(h:Heap)(v:Value)(kv:K×Value):Prop:=∃(tp:Addr) (o:Obj) (n:Nat) (ku:Value),v = .ref tp/\h.get? tp=some o/\o.cls = .type "tuple" /\ o.data = .seq #[ku,kv.2] n/\knd.is kv.1 ku=true
theorem kU {s:Shared}{R:Result->Shared->Prop}{it l d:Addr}{items:Array Value}{kvs:List (K×Value)}{g:Heap}(hh:A.in1.handled=none)(hl:g.IsList l items)(hn:items.size=kvs.length)(hz:kvs.length<=100000)
  (hp:∀(j:Nat) v kv,items[j]? = some v->kvs[j]? = some kv->rW knd g v kv) (lit:∀b o,g.get? b=some o->b≠it/\b≠d) (ne:d≠it)
  (fin:∀h tk,(∀b o,b≠d->b≠it->g.get? b=some o->h.get? b=some o)->h.DictOf knd d (merged [] kvs)->R (.ok (.ret .none)) { s with heap:=h,toks:=tk }) :
  ∀(k i:Nat) (h:Heap) (tk:Nat) (acc:List (K×Value)),i+k=kvs.length->acc.length<=i->merged acc (kvs.drop i)=merged [] kvs->(∀b o,b≠d->b≠it->g.get? b=some o->h.get? b=some o)->h.IsListIter it l i->h.DictOf knd d acc ->
   codeAny (model prog w) A (.builtin "dict.update.loop" ⟨[.ref d,.ref it,rawInt i,.none],[]⟩) R { s with heap:=h,toks:=tk }
 | 0,i,h,tk,acc,hk,ha,hm,kp,hi,hd=>by
  have e:i=kvs.length:=by (first|lia|omega)
  subst e
  have CT:h.IsList l items:=by
   obtain⟨o,ho,r⟩:=hl
   exact⟨o,kp _ _ (lit _ _ ho).2 (lit _ _ ho).1 ho,r⟩
  refine codeAny_builtin gD ?_
  rw[Around.under_plainId cZ _]
  unfold Builtin.«dict.update.loop»
  refine wpAny_bind (wpAny_pyNext_list_end (s:={ s with heap:=h,toks:=tk }) hh hi CT (by rw[Yp (by first|lia|omega)]) fun h' eb =>?_)
  refine wpAny_bind (m:=Builtin.Dict.addKeywords d []) (wpAny_pure (wpAny_pure ?_))
  refine fin h' tk (fun b o nd ni x=>eb b o ni (kp b o nd ni x)) ?_
  rw[List.drop_length] at hm
  have hm:acc=merged [] kvs:=hm
  rw[<-hm]
  obtain⟨o,es,ep,ho,r⟩:=hd
  exact⟨o,es,ep,eb _ _ ne ho,r⟩
 | k+1,i,h,tk,acc,hk,ha,hm,kp,hi,hd=>by
  have cF:i<kvs.length:=by (first|lia|omega)
  have CT:h.IsList l items:=by
   obtain⟨o,ho,r⟩:=hl
   exact⟨o,kp _ _ (lit _ _ ho).2 (lit _ _ ho).1 ho,r⟩
  have hit:items[i]? = some items[i]:=Uh (by first|lia|omega)
  obtain⟨tp,o,n,ku,ev,ho,hc,hdat,hkey⟩:=hp i _ _ hit (Je cF)
  refine codeAny_builtin gD ?_
  rw[Around.under_plainId cZ _]
  unfold Builtin.«dict.update.loop»
  refine wpAny_bind (wpAny_pyNext_list_item (s:={ s with heap:=h,toks:=tk }) hi CT hit fun h1 hi1 Fu =>?_)
  rw[ev]
  have Oz:h1.get? tp=some o:=Fu.extBut _ _ (lit _ _ ho).1 (kp _ _ (lit _ _ ho).2 (lit _ _ ho).1 ho)
  have KA:h1.DictOf knd d acc:=by
   obtain⟨o,es,ep,ho,r⟩:=hd
   exact⟨o,es,ep,Fu.extBut _ _ ne ho,r⟩
  have hT:Shared.TypeIs { s with heap:=h1,toks:=tk } (.ref tp) "tuple":=⟨o,Oz,hc⟩
  refine wpAny_bind (wpAny_holding ?_)
  refine wpAny_bind (wpAny_tryCatch ?_)
  unfold Builtin.Dict.pairItems
  refine wpAny_bind (wpAny_typeOf hT ?_)
  rw[if_pos (by decide)]
  refine wpAny_bind (wpAny_seqItems (s:={ s with heap:=h1,toks:=tk }) Oz hdat (wpAny_pure ?_))
  refine wpAny_holding (wpAny_dictSet_pairs (s:={ s with heap:=h1,toks:=tk }) hkey KA (fun h2 hd2 sb2 =>?_) (Jp (show acc.length<=100000 by first|lia|omega) (by decide)))
  refine wpAny_pure ⟨plainId_quiet cZ _,?_⟩
  have:=kU hh hl hn hz hp lit ne fin k (i+1) h2 (tk+1) (stored acc kvs[i].1 kvs[i].2) (by first|lia|omega) ?_ ?_ (fun b o nd ni x=>sb2.extBut b o nd (Fu.extBut b o ni (kp b o nd ni x))) ?_ hd2
  ·exact this
  ·refine Jp ?_ (Wc ha)
   unfold stored
   split
   ·rw[Jb];exact Yu _
   ·rw[Jf];exact Jc _
  ·rw[<-hm,Y0 cF]
   rfl
  ·obtain⟨oi,e1,r⟩:=hi1
   exact⟨oi,sb2.extBut _ _ (Ne.symm ne) e1,r⟩
theorem sL {s:Shared}{Q:Value->Shared->Prop}{l:Addr}{items:Array Value}{kvs:List (K×Value)}{ol:Obj}{n:Nat}(hh:A.handled=none)(ho:s.heap.get? l=some ol)(hc:ol.cls = .type "list")(Ea:ol.dict=none)(hd:ol.data = .seq items n)(hn:items.size=kvs.length)(hz:kvs.length<=100000)
  (hp:∀(j:Nat) v kv,items[j]? = some v->kvs[j]? = some kv->rW knd s.heap v kv)
  (fin:∀h tk,(∀b o,s.heap.get? b=some o->h.get? b=some o)->h.DictOf knd s.heap.objs.size (merged [] kvs)->Q (.ref s.heap.objs.size) { s with heap:=h,toks:=tk }) :
  wpAny (model prog w) A (call (.type "dict") [.ref l]) Q E s:=by
 refine callType_codes (Q₁:=fun obj s₁=>obj = .ref s.heap.objs.size/\s₁={ s with heap:=s.heap.push { cls := .type "dict",data := .dict #[] } }) F.kt_called_dict (F.kt_typeCall_dict_1 _) F.entry_dict_init (kt_code_dict_new _ ⟨rfl,rfl⟩) ?_
 rintro obj s1 ⟨rfl,rfl⟩
 have new:(s.heap.push { cls := .type "dict",data := .dict #[] }).DictOf knd s.heap.objs.size []:=Heap.DictOf.new s.heap
 have k0:∀b o,s.heap.get? b=some o->(s.heap.push { cls := .type "dict",data := .dict #[] }).get? b=some o:=fun b o x=>Jd _ x
 refine⟨new.typeIs,F.args_dict_init_2 _ _,?_⟩
 unfold Builtin.«dict.__init__» Builtin.Dict.selfAndRest
 refine wpAny_bind (wpAny_bind (wpAny_notOrdered_dict new.typeIs ?_))
 show wpAny _ _ (pure (s.heap.objs.size,[Value.ref l])) _ _ _
 refine wpAny_pure ?_
 show wpAny _ _ (Builtin.Dict.updateFrom "dict.__init__" s.heap.objs.size (.ref l) [] .none) _ _ _
 unfold Builtin.Dict.updateFrom
 have hT:Shared.TypeIs { s with heap:=s.heap.push { cls := .type "dict",data := .dict #[] } } (.ref l) "list":=⟨ol,k0 _ _ ho,hc⟩
 refine wpAny_bind (wpAny_typeOf hT ?_)
 rw[if_pos (by decide)]
 refine wpAny_bind (wL (h:=s.heap.push { cls := .type "dict",data := .dict #[] }) (k0 _ _ ho) hc Ea hd hh fun h1 t1 k1 =>?_)
 rw[if_pos (by rfl)]
 have kk:∀b o,s.heap.get? b=some o->h1.get? b=some o:=fun b o x=>k1 b o (k0 b o x)
 refine wpAny_bind (wpAny_rule (wpAny_bind (wpAny_pyIter_list (l:=l) (items:=items) ⟨ol,kk _ _ ho,hc,n,hd⟩ ?_)))
 have hS:s.heap.objs.size<h1.objs.size:=by
  obtain⟨o,es,ep,e,_⟩:=new
  exact Ji (k1 _ _ e)
 refine wpAny_pure ⟨plainId_quiet cZ _,?_⟩
 have low:∀b o,s.heap.get? b=some o->b≠h1.objs.size/\b≠s.heap.objs.size:=fun b o x=>⟨J3 (Ji (kk b o x)),J3 (Ji x)⟩
 refine kU (s:=s) (knd:=knd) (A:=A.in1) (it:=h1.objs.size) (g:=s.heap) (kvs:=kvs) hh ⟨ol,ho,hc,n,hd⟩ hn hz hp low (J3 hS) (fun h tk k dd=>⟨rfl,fin h tk (fun b o x=>k b o (low b o x).2 (low b o x).1 x) dd⟩) kvs.length 0 _ _ [] (by first|lia|omega) (Jc _) rfl (fun b o nd ni x=>Jd _ (kk b o x)) ⟨_,Jy _ rfl,rfl,rfl⟩ ?_
 obtain⟨o,es,ep,e,r⟩:=new
 exact⟨o,es,ep,Jd _ (k1 _ _ e),r⟩
end
section
variable {X:Cx}{pins:List (Addr×Obj)}{σ:St}{H:Hp}{s:Shared}
theorem vC (I:Inv X pins σ H s)(as:List Addr):∀{kvs:List (Key×V)},as.length=kvs.length->(∀(j:Nat) b kv,as[j]? = some b->kvs[j]? = some kv->d9 X.K H b [kV kv.1,kv.2]) ->
  ∃vs,KV kvs vs/\∀(j:Nat) b kv,as[j]? = some b->vs[j]? = some kv->rW (bq X.prog X.w) s.heap (.ref b) kv:=by
 induction as with
 | nil=>
  intro kvs hl _
  rw[Uy hl.symm]
  exact⟨[],.nil,fun j b kv h=>by simp at h⟩
 | cons a as ih=>
  intro kvs hl h
  cases kvs with
  | nil=>cases hl
  | cons p kvs=>
  obtain⟨vs,h1,h2⟩:=ih (kvs:=kvs) (by simpa using hl) fun j b kv e1 e2=>h (j+1) b kv e1 e2
  obtain⟨aw,r,⟨o,e1,e2,n,e3⟩,_⟩:=I.tuple (h 0 a p rfl rfl)
  obtain⟨ku,vu,rfl,r1,r2⟩:=r.two
  refine⟨(p.1,vu)::vs,.cons ⟨rfl,r2⟩ h1,fun j b kv e4 e5 =>?_⟩
  cases j with
  | zero=>
   cases e4;cases e5
   exact⟨a,o,n,ku,rfl,e1,e2,e3,jQ r1⟩
  | succ j=>exact h2 j b kv e4 e5
theorem lj:∀{as:List Addr} {aw:List Value},Vals (as.map V.ref) aw->aw=as.map Value.ref
 | [],_,rv=>by cases rv;rfl
 | a::as,_,rv=>by
  obtain⟨v,r,rfl,rv1,rv2⟩:=rv.hd
  cases rv1
  rw[lj rv2];rfl
theorem Cd (K:Ja)(hc:X.calm=true)(hK:X.K=K:=by rfl):bZ X (.type "dict") (fun xs H Q=>∃(p:Addr) (as:List Addr) (kvs:List (Key×V)),xs=[.ref p]/\aG K H p (as.map V.ref)/\as.length=kvs.length/\kvs.length<=100000 /\
  (∀(j:Nat) b kv,as[j]? = some b->kvs[j]? = some kv->d9 K H b [kV kv.1,kv.2])/\∀d H',cV H d (.dK (cS [] kvs)) H'->Q (.ref d) H'):=by
 subst hK
 intro pins s σ H xs us Q I r h
 obtain⟨p,as,kvs,rfl,hp,hl,hz,ht,q⟩:=h
 obtain⟨u,rfl,ru⟩:=vals1 r
 cases ru
 obtain⟨aw,rv,⟨o,n,e1,e2,e3,e4⟩,_⟩:=I.list hp
 obtain⟨vs,kv,pa⟩:=vC I _ hl ht
 have hits:=lj rv
 have kl:=kv.length
 refine sL (knd:=bq X.prog X.w) (kvs:=vs) (I.ok.hd hc) e1 e2 e3 e4 (by rw[hits];simp; (first|lia|omega)) (by first|lia|omega) (fun j v kw h1 h2 =>?_) fun h1 tk k1 dd =>?_
 ·rw[hits] at h1
  simp only[List.getElem?_toArray,Jm] at h1
  cases e:as[j]? with
  | none=>rw[e] at h1;cases h1
  | some b=>rw[e] at h1;cases h1;exact pa j b kw e h2
 ·have ml:=dq kvs []
  have big:=I.big
  refine⟨.ref s.heap.objs.size,_,I.laid (a:=s.heap.objs.size) (o := .dK (cS [] kvs)) (t':=tk) k1 (Jc _) ⟨Jp (show _<=100000 by simp at ml; (first|lia|omega)) (by decide),?_,_,KV.merge kv .nil,dd⟩,rfl,q _ _ ⟨I.aV.fresh (Jc _),rfl⟩⟩
  exact beq_eq_false_iff_ne.mpr (Yv big)
end
section
variable {X:Cx}
theorem B2:DP X "dict.update" (fun x vs H Q=>pd fun(d o:Addr) (kvs more:List (Key×V))=>x = .ref d/\vs=[.ref o]/\d≠o/\H d=some (.dK kvs)/\H o=some (.dK more)/\kvs.length+more.length<=sizeLine/\Q .non (upd H d (.dK (cS kvs more)))):=by
 intro pins s σ H x vs v us Q I rx rv h
 obtain⟨d,o,kvs,more,rfl,rfl,hdo,hd,ho,hl,q⟩:=h
 cases rx
 obtain⟨u,rfl,ru⟩:=vals1 rv
 cases ru
 obtain⟨z1,ns1,vs1,kv1,dd1⟩:=I.aV d _ hd
 obtain⟨z2,ns2,vs2,kv2,dd2⟩:=I.aV o _ ho
 have l1:=kv1.length
 have l2:=kv2.length
 refine call_meetsIn F.slot_dict_update dd1.typeIs F.entry_dict_update (F.args_dict_update_2 _ _) (meets_dict_update (bq X.prog X.w) d o hdo ns2) ⟨vs1,vs2,dd1,dd2,by first|lia|omega,fun h' dd' _ hs =>?_⟩
 have ml:=dq more kvs
 have he:∃q,h'.get? d=some q:=let ⟨q,_,_,hq,_⟩:=dd'; ⟨q,hq⟩
 exact⟨.non,_,i7 I (by rw[hd];exact True.intro) hs he (oC (by first|lia|omega) ns1 (KV.merge kv2 kv1) dd'),rfl,q⟩
end
theorem mW {K:Ja}{H:Hp}:∀{ds:List PyData} {vs:List V},az K H ds vs->vs.length=ds.length
 | [],_,h=>by unfold az at h;rw[h];rfl
 | _::_,_,h=>by
  unfold az at h
  obtain⟨v,r,rfl,_,h2⟩:=h
  rw[J8,J8,mW h2]
theorem mK {K:Ja}{H:Hp}:∀{ds:List PyData} {vs:List V} {m:Nat} {d:PyData},az K H ds vs->ds[m]? = some d->∃v,vs[m]? = some v/\Den K H d v
 | [],_,_,_,_,e=>by cases e
 | _::_,_,0,_,h,e=>by
  unfold az at h
  obtain⟨v,r,rfl,h1,_⟩:=h
  cases e
  exact⟨v,rfl,h1⟩
 | _::_,_,m+1,_,h,e=>by
  unfold az at h
  obtain⟨v,r,rfl,_,h2⟩:=h
  exact mK (m:=m) h2 e
section
variable {X:Cx}{pins:List (Addr×Obj)}{σ:St}{H:Hp}{s:Shared}
theorem Bu (hu:X.A.units+66<cLine)(I:Inv X pins σ H s){d:PyData}{x:V}{v:Value}(hd:Den X.K H d x)(rx:RelV x v)(hc:d.canLay0=true){e:PyData}{y:V}{u:Value}(he:Den X.K H e y)(ry:RelV y u)(hs:SeqAt.shaped e=true):
  jW s.heap d u=PyData.eqv e d/\SeqAt.EqAt X.A.in1 s u v (jW s.heap d u):=by
 obtain⟨bs,rb⟩:=he.reads I ry
 have hex:∃e as,Reads s.heap u e as/\e.canLay0=true/\e.depth<=64:=⟨e,bs,rb,SeqAt.canLay_of_shaped hs,SeqAt.depth_of_shaped hs⟩
 have ea:jW s.heap d u=PyData.eqv hex.choose d:=by unfold jW;rw[dif_pos hex]
 have JA:hex.choose=e:=SeqAt.Reads.unique _ _ _ _ _ hex.choose_spec.choose_spec.2.1 hex.choose_spec.choose_spec.1 rb
 rw[ea,JA]
 exact⟨rfl,mG hu I hd rx hc he ry hs⟩
theorem CP (K:Ja)(hu:X.A.units+66<cLine)(hK:X.K=K:=by rfl):DP X "list.index" (fun x vs H Q=>Br fun(l:Addr) (xs:List V) (y:V) (d:PyData) (ds:List PyData) (j:Nat)=>x = .ref l/\vs=[y]/\H l=some (.lst xs)/\Den K H d y/\az K H ds xs/\d.canLay0=true/\(∀e∈ds,SeqAt.shaped e=true) /\
  (∃e,ds[j]? = some e/\PyData.eqv e d=true)/\(∀m e,m<j->ds[m]? = some e->PyData.eqv e d=false)/\Q (.int (j:Nat)) H):=by
 subst hK
 intro pins s σ H x vs v us Q I rx rv h
 refine ae.el (h) _ ?_
 rintro l xs y d ds j rfl rfl hH hd hds hc hs ⟨e0,hj,wy⟩ Hd q
 cases rx
 refine ae.el (vals1 rv) _ ?_
 rintro u rfl ru
 refine ae.el (I.sZ hH) _ ?_
 rintro z aw n r hl e
 have hlen:=r.length
 have dl:=mW hds
 have jl:j<ds.length:=(Js.mp hj).1
 have at':∀m (hm:m<aw.length),jW s.heap d aw[m]=PyData.eqv (ds[m]'(by first|lia|omega)) d/\SeqAt.EqAt X.A.in1 s aw[m] u (jW s.heap d aw[m]):=fun m hm=>by
  obtain⟨a,h1,h2⟩:=fG r (i:=m) (v:=aw[m]) (by simp[hm])
  obtain⟨b,h3,h4⟩:=mK hds (Je (show m<ds.length by first|lia|omega))
  rw[h1] at h3
  cases h3
  exact Bu hu I hd ru hc h4 h2 (hs _ (Jt _))
 have hn:=iC
 refine call_meets F.slot_list_index ⟨_,e,rfl⟩ F.entry_list_index (F.args_list_index_2 _ _) (SeqAt.list_indexAt l aw.toArray n none #[] u (jW s.heap d) j (by rw[Jn]; (first|lia|omega)) (by first|lia|omega) ?_ ?_) ⟨e,fun w hw =>?_,?_⟩
 ·show jW s.heap d aw[j]=true
  rw[(at' j (by first|lia|omega)).1]
  have:=(Js.mp hj).2
  rw[this];exact wy
 ·intro m hm hmj
  have tj:m<aw.length:=by rw[Jn] at hm;exact hm
  show jW s.heap d aw[m]=false
  rw[(at' m tj).1]
  exact Hd m _ hmj (Je (by first|lia|omega))
 ·have hw:w∈aw:=by simpa using hw
  refine ae.el (U2.mp hw) _ ?_
  rintro i hi ew
  rw[<-ew]
  exact(at' i hi).2
 ·exact⟨.int _,H,I.tok _,⟨_,rfl⟩,q⟩
end
section
variable {prog:Program}{w:World}{K:Type}[DecidableEq K]{knd:PySem.KeyKind prog w K}
variable {A:Around}{R:Result->Shared->Prop}{I:Addr}{fp wr:List Addr}{G:Array GenState->Array GenState->Prop}{n:Nat}{P:Nat->Value->Prop}{St:Nat->Shared->Prop}
theorem mM (W:WalksS prog w A.in1 I fp wr G n P St)(S:Addr)(hS:S∉fp)(ks:Nat->K)(hv:∀i v,P i v->knd.is (ks i) v=true/\v.scannable=true)(hb:n+1<scanBound):
  ∀(k i:Nat) (s:Shared),i+k=n->St i s->bS knd s.heap S (bL ks i)->(∀s',Moved (S::wr) G s s'->bS knd s'.heap S (bL ks n)->R (.ok (.ret .none)) s') ->
   codeAny (model prog w) A (.builtin "set.update.loop" ⟨[.ref S,.ref I],[]⟩) R s
 | 0,i,s,hk,st,hK,fin=>by
  have e:i=n:=by (first|lia|omega)
  subst e
  refine codeAny_builtin F.entry_set_update_loop ?_
  rw[Around.under_plainId F.plain_set_update_loop _]
  refine wpAny_bind (m:=pyNext (.ref I)) (W.done s _ _ st fun s' mv =>?_)
  refine wpAny_pure (fin s' (mv.mono fun b hb=>Jh _ hb) (hK.at' fun o e=>mv.heap S o (fun z=>hS (W.sub _ z)) e))
 | k+1,i,s,hk,st,hK,fin=>by
  refine codeAny_builtin F.entry_set_update_loop ?_
  rw[Around.under_plainId F.plain_set_update_loop _]
  refine wpAny_bind (m:=pyNext (.ref I)) (W.item i s _ _ (by first|lia|omega) st fun v s' pv aD mv =>?_)
  obtain⟨h1,h2⟩:=hv i v pv
  have QD:bS knd s'.heap S (bL ks i):=hK.at' fun o e=>mv.heap S o (fun z=>hS (W.sub _ z)) e
  refine wpAny_bind (m:=holding [v] (setAdd S v)) (wpAny_holding ?_)
  unfold setAdd
  refine wpAny_holding (wpAny_bind (knd.pyHash (k:=ks i) h1 ?_))
  have room:(bL ks i).length+1<scanBound:=by have:=iw ks i; (first|lia|omega)
  refine sP (s:={ s' with toks:=s'.toks+1 }) h1 h2 QD room fun _ h' sb hN =>?_
  refine wpAny_pure ⟨plainId_quiet F.plain_set_update_loop _,?_⟩
  refine mM W S hS ks hv hb k (i+1) _ (by first|lia|omega) (W.frame _ s' _ _ aD (Yu _) fun b hb o e =>?_) hN fun s2 mv2 hK2 =>?_
  ·rw[sb.2 b (fun z:b=S=>hS (by rw[<-z];exact hb))];exact e
  ·refine fin s2 (Moved.trans W.gtrans ((mv.mono fun b hb=>Jh _ hb).then_heap (Yu _) fun b o nb e =>?_) mv2) hK2
   rw[sb.2 b (fun z:b=S=>nb (by rw[z];exact Jk))];exact e
end
section
variable {prog:Program}{w:World}{K:Type}[DecidableEq K]{knd:PySem.KeyKind prog w K}{A:Around}{E:Value->Shared->Prop}{s:Shared}
theorem pF (v:Value){Q₁:Value->Shared->Prop}(h:∀led,(w.params.followText "set-order" = false->led=true)->Q₁ (.ref s.heap.objs.size) { s with heap:=s.heap.push (cf led) }):
  codeAny (model prog w) A (.call (.builtin "set.__new__") ⟨[.type "set",v],[]⟩) (wants Q₁ E) s:=by
 refine codeAny_of_tree (show wpAny _ A.in1 (do checkBuiltinCall "set.__new__" ⟨[.type "set",v],[]⟩;again (.builtin "set.__new__" ⟨[.type "set",v],[]⟩)) _ _ s from ?_)
 refine wpAny_bind (wpAny_of_eq (F.newCall_set_1 v) (wpAny_pure ⟨plainId_quiet F.plain_set_new _,codeAny_builtin F.entry_set_new ?_⟩))
 rw[Around.under_plainId F.plain_set_new _]
 have dk:=sub_set_self
 obtain⟨hp,g,d,tk,os⟩:=s
 unfold Builtin.«set.__new__» Builtin.Frozenset.newClass
 dsimp only
 wp_walk
 refine wpAny_askSetting (wpAny_pure ?_)
 dsimp only
 simp only[newObj]
 exact wpAny_bind (wpAny_alloc (wpAny_pure (wpAny_pure (h _ fun z=>by show(!w.params.followText "set-order")=true;rw[z];rfl))))
theorem vb {l:Addr}{items:Array Value}{led:Bool}{R:Result->Shared->Prop}(yx:w.params.followText "set-order" = false->led=true)(hh:A.handled=none)(hl:s.heap.IsList l items)(ks:Nat->K)(hv:∀(i:Nat) v,items[i]? = some v->knd.is (ks i) v=true/\v.scannable=true)(hb:items.size+1<scanBound)
  (fin:∀(h':Heap) (tk:Nat),bS knd h' s.heap.objs.size (bL ks items.size)->(∀b o,s.heap.get? b=some o->h'.get? b=some o)->R (.ok (.ret .none)) { s with heap:=h',toks:=tk }) :
  codeAny (model prog w) A (.call (.builtin "set.__init__") ⟨[.ref s.heap.objs.size,.ref l],[]⟩) R { s with heap:=s.heap.push (cf led) }:=by
 have hS:(s.heap.push (cf led)).get? s.heap.objs.size=some (cf led):=Jy _ rfl
 have hT:Shared.TypeIs { s with heap:=s.heap.push (cf led) } (.ref s.heap.objs.size) "set":=⟨_,hS,rfl⟩
 refine codeAny_call_builtin F.called_set.init.plain F.entry_set_init ?_
 refine check_set_init_1 hT ?_
 obtain⟨ol,g1,g2,nl,g3⟩:=hl
 obtain⟨c1,c2,c3,c4⟩:=ol
 have g2:c1 = .type "list":=g2
 have g3:c3 = .seq items nl:=g3
 subst g2 g3
 have Rk:Shared.TypeIs { s with heap:=s.heap.push (cf led) } (.ref l) "list":=⟨_,Jd _ g1,rfl⟩
 have gl:(s.heap.push (cf led)).get? l=some { cls := .type "list",dict:=c2,data := .seq items nl,slots:=c4 }:=Jd _ g1
 have N1:(s.heap.push (cf led)).IsList l items:=⟨_,gl,rfl,nl,rfl⟩
 have z1:=F.sub_list_set
 have z2:=F.sub_list_frozenset
 have z3:(Value.type "list" == Value.type "dict")=false:=by decide
 unfold Builtin.«set.__init__» noKeywords
 unfold Builtin.Frozenset.updateFrom
 generalize hPI:pyIter=PI
 wp_walk
 subst hPI
 refine wpAny_pyIter_list N1 ?_
 refine wpAny_bind (wpAny_runValue ?_)
 have lS:l<s.heap.objs.size:=Ji g1
 have sz:(s.heap.push (cf led)).objs.size=s.heap.objs.size+1:=Ws ..
 have nI:l≠(s.heap.push (cf led)).objs.size:=by rw[sz];exact J3 (Wm lS)
 have nS:s.heap.objs.size∉[(s.heap.push (cf led)).objs.size,l]:=by
  rw[sz]
  intro z
  rcases Uc.mp z with z|z
  ·exact J3 (Nat.lt_succ_self _) z
  ·exact Yv lS (Jg.mp z)
 have W:=Walks.list (prog:=prog) (w:=w) (A:=A.in1.in1) (by simp[hh]) _ l nI items
 refine mM W.toS s.heap.objs.size nS ks hv hb items.size 0 _ (by first|lia|omega) ?st ?k0 ?fin
 case st=>exact⟨⟨_,Jy _ rfl,rfl,rfl⟩,N1.push _⟩
 case k0=>exact rM yx (Jd { cls := .type "list_iterator",data := .fields #[.ref l,.int 0 0] } hS)
 case fin=>
  intro s2 mv hK
  obtain⟨h2,g2,d2,t2,o2⟩:=s2
  have q1:g2=s.gens:=mv.gens
  have q2:d2=s.drawn:=mv.drawn
  have q3:o2=s.os:=mv.os
  subst q1 q2 q3
  refine wpAny_pure ?_
  refine wpAny_pure (fin h2 t2 hK fun b o e =>?_)
  have nb:=Ji e
  refine mv.heap b o (fun z =>?_) (Jd _ (Jd _ e))
  rcases Uc.mp z with z|z
  ·exact J3 nb z
  ·have z:=Jg.mp z
   rw[z,sz] at nb
   exact Yc _ (Wr nb)
theorem wJ {l:Addr}{items:Array Value}{Q:Value->Shared->Prop}(hh:A.handled=none)(hl:s.heap.IsList l items)(ks:Nat->K)(hv:∀(i:Nat) v,items[i]? = some v->knd.is (ks i) v=true/\v.scannable=true)(hb:items.size+1<scanBound)
  (fin:∀(h':Heap) (tk:Nat),bS knd h' s.heap.objs.size (bL ks items.size)->(∀b o,s.heap.get? b=some o->h'.get? b=some o)->Q (.ref s.heap.objs.size) { s with heap:=h',toks:=tk }) :
  wpAny (model prog w) A (call (.type "set") [.ref l]) Q E s:=by
 have a1:=F.called_set.made
 have a2:=F.called_set.sub
 have a3:=F.called_set.notType
 have a4:=F.called_set.canCreate
 have a5:=F.typeCall_set_1 (.ref l)
 obtain⟨c,tl,a6⟩:=F.called_set.mro
 refine wpAny_call (codeAny_of_tree ?_)
 refine wpAny_pure ⟨Code.quiet_builtin _ (by decide +kernel),codeAny_builtin F.entry_type_call ?_⟩
 rw[Around.under_plain (weight_type_call_type "set" [.ref l] []) rfl]
 repeat (any_goals (first|assumption|wp_step))
 have mk:=pF (prog:=prog) (w:=w) (A:=A.in1) (s:=s) (.ref l) (E:=E) (Q₁:=fun obj s1=>∃led,(w.params.followText "set-order" = false->led=true)/\obj = .ref s.heap.objs.size/\s1={ s with heap:=s.heap.push (cf led) }) fun led yx=>⟨led,yx,rfl,rfl⟩
 refine codeAny_mono mk fun r s1 hr =>?_
 cases r with
 | error e=>exact hr
 | ok fl=>
  cases fl with
  | ret obj=>
   obtain⟨led,yx,rfl,rfl⟩:=hr
   have b1:Shared.TypeIs { s with heap:=s.heap.push (cf led) } (.ref s.heap.objs.size) "set":=⟨_,Jy _ rfl,rfl⟩
   have b2:=F.called_set.init.lookup
   have b3:=F.called_set.init.bind (.ref s.heap.objs.size)
   repeat (any_goals (first|assumption|wp_step))
   refine vb yx (A:=A.in1) (by simp[hh]) hl ks hv hb fun h' tk hK old =>?_
   refine wpAny_pure ?_
   exact wpAny_pure (fin h' tk hK old)
  | _=>exact hr.elim
end
section
variable {X:Cx}
theorem vJ (hc:X.calm=true):bZ X (.type "set") (fun xs H Q=>∃(p:Addr) (zs:List Str),xs=[.ref p]/\aG X.K H p (zs.map V.str)/\zs.length<=4000/\∀(a:Addr) (H':Hp),cV H a (xq (Av X.prog X.w) a (lu zs)) H'->Q (.ref a) H'):=by
 intro pins s σ H xs us Q I r h
 obtain⟨p,zs,rfl,hq,hl,q⟩:=h
 obtain⟨u,rfl,ru⟩:=vals1 r
 cases ru
 obtain⟨aw,rv,pl,hz⟩:=I.list hq
 have hn:aw.length=zs.length:=by have:=rv.length;rw[Jb] at this;exact this.symm
 refine wJ (knd:=strKind X.prog X.w) (I.ok.hd hc) pl.isList (fun i=>zs.getD i Str.empty) (fun i v e =>?_) (by rw[Jn,hn];unfold scanBound; (first|lia|omega)) fun h' tk hK old =>?_
 ·obtain⟨y,h1,h2⟩:=fG rv e
  rw[Jm] at h1
  cases e1:zs[i]? with
  | none=>rw[e1] at h1;cases h1
  | some z=>
   rw[e1] at h1;cases h1
   obtain⟨t,rfl⟩:=h2
   have:zs.getD i Str.empty=z:=by simp[List.getD,e1]
   exact⟨by rw[this];exact strKind_is _ _ _ _,rfl⟩
 ·have en:aw.toArray.size=zs.length:=by rw[Jn,hn]
  rw[en] at hK
  exact⟨.ref _,_,I.laid (o:=xq (Av X.prog X.w) s.heap.objs.size (lu zs)) (t':=tk) old (Jc _) (AB hK),rfl,q _ _ ⟨I.aV.fresh (Jc _),rfl⟩⟩
theorem gJ:∀{vs:List Value},(∀v∈vs,∃k t,v = .str k t)->∃ns,StrsAre vs ns/\∀k,k∈ns ↔ ∃t,Value.str k t∈vs
 | [],_=>⟨[],.nil,fun k=>⟨(fun h=>nomatch h),(fun⟨_,h⟩=>nomatch h)⟩⟩
 | v::vs,h=>by
  obtain⟨ns,h1,h2⟩:=gJ (vs:=vs) fun u hu=>h u (Jh _ hu)
  obtain⟨k,t,rfl⟩:=h v Jk
  refine⟨k::ns,.cons k t h1,fun j=>⟨fun hj =>?_,fun⟨u,hu⟩=>?_⟩⟩
  ·rcases Uc.mp hj with rfl|hj
   ·exact⟨t,Jk⟩
   ·obtain⟨u,hu⟩:=(h2 j).mp hj
    exact⟨u,Jh _ hu⟩
  ·rcases Uc.mp hu with e|hu
   ·cases e;exact Jk
   ·exact Jh _ ((h2 j).mpr ⟨u,hu⟩)
theorem rA:∀{vs:List Value} {ns:List Str},StrsAre vs ns->vs.length=ns.length
 | _,_,.nil=>rfl
 | _,_,.cons _ _ h=>by rw[J8,J8,rA h]
theorem tw (hc:X.calm=true):bZ X (.builtin "sorted") (fun xs H Q=>∃(a:Addr) (D:List Str),xs=[.ref a]/\H a=some (xq (Av X.prog X.w) a D)/\D.Nodup/\D.length<64 /\
  ∀(ms:List Str) (q:Addr) (H':Hp),ms.Perm D->cV H q (.lst (ms.map V.str)) H'->Q (.ref q) H'):=by
 intro pins s σ H xs us Q I r h
 obtain⟨a,D,rfl,ha,nd,hl,q⟩:=h
 obtain⟨u,rfl,ru⟩:=vals1 r
 cases ru
 obtain⟨HK,o',es',ep',t',sJ,hd',g',l'⟩:=(show bf X.prog X.w H s.heap a (xq (Av X.prog X.w) a D) from I.aV a _ ha).1
 obtain⟨o,es,ep,t,ho,ex,hd,el,mem,bnd,fit,len⟩:=id HK
 obtain⟨g,l⟩:cJ t/\(X.w.params.followText "set-order" = false->t.led=true):=by
  rw[ho] at sJ;cases sJ
  rw[hd] at hd';cases hd'
  exact⟨g',l'⟩
 refine Calls.call_function_entry kind_sorted plain_sorted entry_sorted (args_sorted1 _) ?_
 unfold Builtin.«sorted»
 refine wpAny_bind (m:=checkCount "sorted" 1 1 _) (wpAny_pure ?_)
 refine wpAny_bind (pP (A:=X.A.in1) (show X.A.in1.handled=none from I.ok.hd hc) ho ex hd fit g l (fits_of_scanBound bnd) fun h1 tk d vals hle k1 pm =>?_)
 have hv:∀v∈vals,∃k t,v = .str k t:=fun v hv=>by
  obtain⟨e,he,rfl⟩:=Um.mp (pm.mem_iff.mp hv)
  obtain⟨⟨k,hk,_⟩,_⟩:=el e he
  obtain⟨t,ht⟩:=Value.isStrOf_shape hk
  exact⟨k,t,ht⟩
 obtain⟨ns,hI,Bk⟩:=gJ hv
 have hlen:vals.length=D.length:=by rw[pm.length_eq,Jb,Jv,len]
 have Ri:=rA hI
 have pD:U7 ns D:=jP nd (fun k hk=>by
  obtain⟨e,he,h2⟩:=(mem k).mp (decide_eq_true hk)
  obtain⟨t,ht⟩:=Value.isStrOf_shape h2
  exact(Bk k).mpr ⟨t,by rw[<-ht];exact pm.mem_iff.mpr (Um.mpr ⟨e,he,rfl⟩)⟩) (by first|lia|omega)
 refine wpAny_bind (wpAny_newList ?_ (Jp (show vals.length<=64 by first|lia|omega) (by decide)))
 have ob:(h1.push (seqObj "list" vals.toArray 0)).get? h1.objs.size=some (seqObj "list" vals.toArray 0):=Jy _ rfl
 refine wpAny_bind (wpAny_holding (wpAny_call_entry slot_list_sort ⟨_,ob,rfl⟩ entry_list_sort (list_sort_treeK PyProof.Rows.strKind_oneLt ob hI.keysOf (fun v₁ v₂ rest e=>keyKind_strs (by rw[<-e];exact hI)) (by first|lia|omega) fun aD hp hs=>⟨_,rfl,wpAny_pure ⟨_,rfl,?_⟩⟩) (args_list_sort _)))
 obtain⟨ms,a1,a2,a3⟩:=sorted_out_str hI hp hs
 generalize (arrOf aD).map (·.2)=out at a1 ⊢
 obtain⟨e,he⟩:=sortedHeap_at (out:=out) ob
 have hm:ms.length=D.length:=(a2.trans pD).length_eq
 have hr:=iZ a1
 have kk:∀b o,s.heap.get? b=some o->(sortedHeap (h1.push (seqObj "list" vals.toArray 0)) h1.objs.size vals out).get? b=some o:=fun b E3 x=>by
  have x1:=k1 b E3 x
  rw[sortedHeap_old (J3 (Ji x1)) (by rw[size_push'];exact Wm (Ji x1)),Heap.get?_push_ne _ _ _ (J3 (Ji x1))]
  exact x1
 refine⟨.ref h1.objs.size,_,(I.laid (a:=h1.objs.size) (o := .lst (ms.map V.str)) (t':=tk) kk hle ⟨?_,out.toList,e,hr,?_⟩).drawn d,rfl,q ms _ _ (a2.trans pD) ⟨I.aV.fresh hle,rfl⟩⟩
 ·rw[Jb];exact Jp (show ms.length<=64 by first|lia|omega) (by decide)
 ·simpa [seqObj] using he
theorem Bg:DP X "list.remove" (fun x vs H Q=>∃(l:Addr) (xs:List Str) (y:Str),x = .ref l/\vs=[.str y]/\H l=some (.lst (xs.map V.str))/\y∈xs/\∀H',vc H l (.lst ((xs.erase y).map V.str)) H'->Q .non H'):=by
 intro pins s σ H x vs v us Q I rx rv h
 obtain⟨l,xs,y,rfl,rfl,hH,hy,q⟩:=h
 cases rx
 obtain⟨u,rfl,ru⟩:=vals1 rv
 obtain⟨t,rfl⟩:=ru
 obtain⟨z,aw,n,r,hl,e⟩:=I.sZ hH
 have hlen:=r.length
 rw[Jb] at hlen
 obtain⟨j,hj⟩:∃j,j=xs.idxOf y:=⟨_,rfl⟩
 have jl:j<xs.length:=by rw[hj];exact List.idxOf_lt_length_iff.mpr hy
 have jy:xs[j]=y:=by simp only[hj];exact List.getElem_idxOf (by rw[<-hj];exact jl)
 have jn:∀m (hm:m<xs.length),m<j->xs[m]≠y:=fun m hm hmj w=>by
  have:m<List.findIdx (· == y) xs:=by rw[hj] at hmj;exact hmj
  have:=List.not_of_lt_findIdx this
  rw[w] at this
  simp at this
 let ev:Value->Bool:=fun u=>match u with | .str a _=>a==y|_=>false
 have at':∀m (hm:m<aw.length),∃t',aw[m] = .str (xs[m]'(by first|lia|omega)) t':=fun m hm=>by
  obtain⟨a,h1,h2⟩:=fG r (i:=m) (v:=aw[m]) (by simp[hm])
  rw[Jm,Je (by first|lia|omega)] at h1
  cases h1
  exact h2
 refine call_meets F.slot_list_remove ⟨_,e,rfl⟩ F.entry_list_remove (F.args_list_remove_2 _ _) (MeetsSeq.list_remove l aw.toArray n (.str y t) ev (fun w hw =>?_) j (by rw[Jn]; (first|lia|omega)) ?_ ?_ (by rw[Jn]; (first|lia|omega))) ⟨e,?_⟩
 ·have hw:w∈aw:=by simpa using hw
  obtain⟨i,hi,ew⟩:=U2.mp hw
  obtain⟨t',e'⟩:=at' i hi
  rw[<-ew,e']
  have z:=SeqRoads2.EqGives.str (xs[i]'(by first|lia|omega)) y t' t
  rw[show((xs[i]'(by first|lia|omega)).cps.toList==y.cps.toList)=((xs[i]'(by first|lia|omega))==y) from by rw[Bool.eq_iff_iff,beq_iff_eq,beq_iff_eq,Array.toList_inj];exact⟨fun q=>by generalize xs[i]'(by first|lia|omega)=x at q ⊢;cases x;cases y;simp_all,fun q=>by rw[q]⟩] at z
  exact z
 ·obtain⟨t',e'⟩:=at' j (by first|lia|omega)
  show ev aw[j]=true
  rw[e']
  show(xs[j]==y)=true
  rw[jy];simp
 ·intro m hm hmj
  have tj:m<aw.length:=by rw[Jn] at hm;exact hm
  obtain⟨t',e'⟩:=at' m tj
  show ev aw[m]=false
  rw[e']
  show(xs[m]==y)=false
  simpa using jn m (by first|lia|omega) hmj
 ·have ex:(xs.map V.str).eraseIdx j=(xs.erase y).map V.str:=by
   rw[List.erase_eq_eraseIdx_of_idxOf (i:=j) hj.symm,Yl,Yl,Jl,List.map_take,List.map_drop]
  refine⟨.non,_,I.DE (ys:=(xs.map V.str).eraseIdx j) (its':=aw.eraseIdx j) hH e ?_ (kO j r) (by rw[List.length_eraseIdx];split<;>(first|lia|omega)),rfl,?_⟩
  ·simp[Array.eraseIdxIfInBounds,show j<aw.length by first|lia|omega]
  ·exact q _ ⟨by rw[ex]⟩
end
section
variable {M:Model}{A:Around}{E:Value->Shared->Prop}{s:Shared}{env:Env}
variable {nm q:Str}{C N:Addr}{bs bm:List Value}{hdct:Bool}{sn:List Str}{sub:List Value}{ab:Bool}{col:Option Bool}{dd:Option Addr}{k0 k1 k2 k3 k5:Option Value}{newId:String}
theorem uV {x:Expr}{pos:Pos}{Q:Flow->Shared->Prop}(hh:A.handled=none)(hb:bm.contains (.type "BaseException")=true)
  (h:wpAny M A (eval x env) (fun v s1=>∃e o,v = .ref e/\s1.heap.get? C=some (excClassObj nm q C N bs bm hdct sn sub ab col dd k0 k1 k2 k3 k5 newId)/\s1.heap.get? e=some o/\o.cls = .ref C/\Raw o/\E (.ref e) s1) E s) :
  wpAny M A (exec (.Raise (some x) none pos) env) Q E s:=by
 have Qh:(Value.ref C::bm).contains (.type "BaseException")=true:=by rw[List.contains_cons,hb,Bool.or_true]
 rw[arm_exec_Raise]
 show wpAny M A (do standAt pos;raiseStmt env (some (do let v <-eval x env;standAt pos;pure v)) none) Q E s
 refine wpAny_bind (wpAny_standAt ?_)
 unfold raiseStmt
 refine wpAny_bind (wpAny_bind (wpAny_mono h (fun v s1 h1=>wpAny_bind (wpAny_standAt (wpAny_pure ?_))) fun _ _ z=>z))
 obtain⟨e,o,rfl,hC,he,hc,⟨t,hd⟩,hE⟩:=h1
 obtain⟨oc,od,odt,ve⟩:=o
 dsimp only at hc hd
 subst hc hd
 obtain⟨hp,g,d,tk,os⟩:=s1
 repeat (first|with_reducible refine wpAny_loadPart_at he ?_|with_reducible refine wpAny_loadPart_at hC ?_|(with_reducible refine wpAny_isSubtype_exc hC ?_;rw[Qh])|wp_step)
 exact wpAny_raiseNew_none hh hE
end
section
variable {P:Program}{w:World}{K:Ja}{mg:Str->Option Value}{base:Heap}{N:List Str}{qual:Str}{scope:Scope}{f:Addr}{cd:Value}{A:Around}{outer:List Env}{s0:Shared}{H0:Hp}{E:XK}
noncomputable def AU (C:Addr)(H0:Hp)(E:XK)(sp:Sp)(t:TA):TS:=fun _ σ H=>xp C sp t σ H fun v H2=>∃e dx,v = .ref e/\H2 e=some (wD e C dx)/\H0 e=none/\E (.ref C) (some dx) (Co H2 e)
theorem vX {k:Nat}{fi C:Addr}{fd:FuncData}{ps:List Str}{sp:Sp}{x:Str}{p gO pos:Pos}{a:Expr}{as:List Expr}{t:TA}(M:GO K C fi)(F:bA P w K mg base fQ k fi fd ps sp)(hr:cL (k+1) (A.deeper (envOfC qual scope s0.heap.objs.size f cd)))
  (hg:Gl (jz (wR P w base) P w K mg base N qual scope f cd A outer s0 H0 E) x) (hm:mg x=some (.ref C)) (hb:Binds K fd ps []) (ha:PA (jz (wR P w base) P w K mg base N qual scope f cd A outer s0 H0 E) (a::as) t) (rD:(x==("__debug__" : Str))=false:=by decide)
  (he:starEach (a::as) (envOfC qual scope s0.heap.objs.size f cd)=(false,eval a (envOfC qual scope s0.heap.objs.size f cd))::starEach as (envOfC qual scope s0.heap.objs.size f cd):=by rfl) (g8:(backTo gO (starEach as (envOfC qual scope s0.heap.objs.size f cd))).any (·.1)=false:=by rfl) :
  PS (jz (wR P w base) P w K mg base N qual scope f cd A outer s0 H0 E) (.Raise (some (.Call (.Name x p) (a::as) [] gO)) none pos) (AU C H0 E sp t):=by
 intro pins s σ H D I h
 obtain⟨nm,qn,Nn,bs,Db,hdct,sn,sub,ab,col,dd,k0,k1,k2,k3,k5,lk,TL⟩:=id M.cl
 have ev:=yp (X:=jz (wR P w base) P w K mg base N qual scope f cd A outer s0 H0 E) (pos:=gO) (p:=p) M F hr hg hm hb ha rfl rD he g8 s σ H _ I h
 refine uV (C:=C) (nm:=nm) (q:=qn) (N:=Nn) (bs:=bs) (bm := .ref Db::cW) (hdct:=hdct) (sn:=sn) (sub:=sub) (ab:=ab) (col:=col) (dd:=dd) (k0:=k0) (k1:=k1) (k2:=k2) (k3:=k3) (k5:=k5) (newId := "ValueError.__new__")
  (I.ok.hd rfl) (by simp[cW]) (aQ ev fun v s1 ⟨y,H1,I1,ry,e,dx,ey,ee,h0,hE⟩=>?_)
 subst ey
 obtain rfl:v=Value.ref e:=ry
 obtain⟨ob,b1,b2,b3,b4⟩:=(show bf P w H1 s1.heap e (wD e C dx) from I1.aV e _ ee).1
 obtain⟨t0,b5⟩:=id b4
 have ub:Un (fP outer) [] H0 H1 s0.heap s1.heap:=I1.base
 refine⟨e,ob,rfl,I1.jv _ _ lk,b1,b2,b4,sE (t:=t0) I1 b1 ?_ b5 rfl rfl (.inr ⟨_,ee⟩) (by rw[b2,b3];exact hE)⟩
 cases z:s0.heap.get? e with
 | none=>rfl
 | some o=>
  have:=ub.free e o z h0 (by simp)
  rw[ee] at this;cases this
end
end L2
namespace Z
open PySem L2
noncomputable def top (i:Nat):Stmt:=PySem.Challenge.pw_oddlong_k63_shows_ring.main.body.getD i (.Pass ⟨0,0,0,0⟩)
noncomputable abbrev jF:Nat:=1
noncomputable abbrev fX:Nat:=2
noncomputable abbrev dS:Nat:=3
noncomputable abbrev fV:Nat:=4
noncomputable abbrev eI:Nat:=5
noncomputable abbrev Fg:Nat:=7
noncomputable abbrev eX:Nat:=8
noncomputable abbrev jq:Nat:=10
noncomputable abbrev jw:Nat:=11
noncomputable abbrev fK:Nat:=13
noncomputable abbrev gq:Nat:=14
noncomputable abbrev jE:Nat:=16
noncomputable abbrev fH:Nat:=17
noncomputable abbrev eP:Nat:=18
noncomputable abbrev gi:Nat:=19
noncomputable abbrev dW:Nat:=20
noncomputable abbrev gC:Nat:=22
noncomputable abbrev ij:Nat:=23
noncomputable abbrev gz:Nat:=24
noncomputable abbrev ip:Nat:=25
noncomputable abbrev gw:Nat:=26
noncomputable abbrev iy:Nat:=27
noncomputable abbrev fu:Nat:=28
noncomputable abbrev eJ:Nat:=29
noncomputable abbrev iB:Nat:=30
noncomputable abbrev ic:Nat:=31
noncomputable abbrev fL:Nat:=32
noncomputable abbrev iI:Nat:=33
theorem sizeOk {n:Nat}(h:n<=10000000):n<=sizeLine:=Jp h (by decide)
end Z
namespace L2
set_option genSizeOf false
set_option genInjectivity false
inductive HW {α0 α1 α2 α3 α4 α5 α6:Type}(P: α0 -> α1 -> α2 -> α3 -> α4 -> α5 -> α6->Prop):Prop|mk (x0: α0) (x1: α1) (x2: α2) (x3: α3) (x4: α4) (x5: α5) (x6: α6) (h:P x0 x1 x2 x3 x4 x5 x6):HW P
noncomputable instance JM {α0 α1 α2 α3 α4 α5 α6:Type} {P: α0 -> α1 -> α2 -> α3 -> α4 -> α5 -> α6->Prop} {F: α0 -> α1 -> α2 -> α3 -> α4 -> α5 -> α6->Prop->Prop} [i:∀x0 x1 x2 x3 x4 x5 x6,ae (P x0 x1 x2 x3 x4 x5 x6) (F x0 x1 x2 x3 x4 x5 x6)]:ae (HW P) (fun G=>∀x0 x1 x2 x3 x4 x5 x6,F x0 x1 x2 x3 x4 x5 x6 G):=⟨fun⟨x0,x1,x2,x3,x4,x5,x6,h⟩ G k=>(i x0 x1 x2 x3 x4 x5 x6).el h G (k x0 x1 x2 x3 x4 x5 x6)⟩
set_option genSizeOf false
set_option genInjectivity false
inductive DD {α0 α1 α2 α3 α4 α5 α6 α7 α8 α9 HS:Type}(P: α0 -> α1 -> α2 -> α3 -> α4 -> α5 -> α6 -> α7 -> α8 -> α9 -> HS->Prop):Prop|mk (x0: α0) (x1: α1) (x2: α2) (x3: α3) (x4: α4) (x5: α5) (x6: α6) (x7: α7) (x8: α8) (x9: α9) (zA: HS) (h:P x0 x1 x2 x3 x4 x5 x6 x7 x8 x9 zA):DD P
noncomputable instance GA {α0 α1 α2 α3 α4 α5 α6 α7 α8 α9 HS:Type} {P: α0 -> α1 -> α2 -> α3 -> α4 -> α5 -> α6 -> α7 -> α8 -> α9 -> HS->Prop} {F: α0 -> α1 -> α2 -> α3 -> α4 -> α5 -> α6 -> α7 -> α8 -> α9 -> HS->Prop->Prop} [i:∀x0 x1 x2 x3 x4 x5 x6 x7 x8 x9 zA,ae (P x0 x1 x2 x3 x4 x5 x6 x7 x8 x9 zA) (F x0 x1 x2 x3 x4 x5 x6 x7 x8 x9 zA)]:ae (DD P) (fun G=>∀x0 x1 x2 x3 x4 x5 x6 x7 x8 x9 zA,F x0 x1 x2 x3 x4 x5 x6 x7 x8 x9 zA G):=⟨fun⟨x0,x1,x2,x3,x4,x5,x6,x7,x8,x9,zA,h⟩ G k=>(i x0 x1 x2 x3 x4 x5 x6 x7 x8 x9 zA).el h G (k x0 x1 x2 x3 x4 x5 x6 x7 x8 x9 zA)⟩
end L2
namespace Z
open PySem L2
structure pU (H:Hp)(b c:Addr)(t:Int)(ns:List Int):Prop where
 d:H b=some (.dK [(.inr "cells",.ref c),(.inr "turn",.int t)])
 l:H c=some (.lst (ns.map V.int))
 ne:0<ns.length
 le:ns.length<=64
noncomputable def cu (H:Hp)(b c:Addr):Hp:=fun a=>if a=b∨a=c then none else H a
theorem bT {H:Hp}{b c a:Addr}(h1:a≠b)(h2:a≠c):cu H b c a=H a:=if_neg (fun z=>z.elim h1 h2)
theorem df {H:Hp}{b c a:Addr}{o:HO}(h:cu H b c a=some o):H a=some o/\a≠b/\a≠c:=by
 unfold cu at h
 split at h
 ·cases h
 ·rename_i n
  exact⟨h,fun z=>n (.inl z),fun z=>n (.inr z)⟩
theorem rY {H:Hp}{b c:Addr}:au (cu H b c) H:=fun a o h=>(df h).1
theorem pU.bc {H:Hp}{b c:Addr}{t:Int}{ns:List Int}(x:pU H b c t ns):b≠c:=Cp x.d x.l (by intro z;cases z)
theorem pU.zf {H:Hp}{b c:Addr}{t:Int}{ns:List Int}(x:pU H b c t ns):iJ H b (.str "turn") (some (.int t)):=iJ.k (k:=Sum.inr "turn") x.d
theorem pU.jh {H:Hp}{b c:Addr}{t:Int}{ns:List Int}(x:pU H b c t ns):iJ H b (.str "cells") (some (.ref c)):=iJ.k (k:=Sum.inr "cells") x.d
theorem pU.xO {H:Hp}{b c:Addr}{t:Int}{ns:List Int}(x:pU H b c t ns)(t':Int):vW H b (.str "turn") (.int t') (upd H b (.dK [(.inr "cells",.ref c),(.inr "turn",.int t')])):=
 vW.k (k:=Sum.inr "turn") x.d (by show 2<sizeLine;decide)
theorem pU.turned {H:Hp}{b c:Addr}{t:Int}{ns:List Int}(x:pU H b c t ns)(t':Int):pU (upd H b (.dK [(.inr "cells",.ref c),(.inr "turn",.int t')])) b c t' ns:=
 ⟨aH,by rw[ao (Ne.symm x.bc)];exact x.l,x.ne,x.le⟩
theorem u9 {H:Hp}{b c:Addr}{o:HO}:cu (upd H b o) b c=cu H b c:=by
 funext a;unfold cu;split
 ·rfl
 ·rename_i n;exact ao (fun z=>n (.inl z))
theorem vq {H:Hp}{b c:Addr}{o:HO}:cu (upd H c o) b c=cu H b c:=by
 funext a;unfold cu;split
 ·rfl
 ·rename_i n;exact ao (fun z=>n (.inr z))
noncomputable def sv:Sp:=fun vs H Q _=>zT fun(b c:Addr) (t:Int) (ns:List Int) (many:Int)=>vs=[.ref b,.int many]/\pU H b c t ns/\0<=t/\t<100000000/\0<many/\many<1073741824 /\
 ∀(r:Int) (H':Hp) (BQ:List Int),0<=r->r<many->pU H' b c (t+1) BQ->au (cu H b c) (cu H' b c)->Q (.int r) H'
theorem at_of {ns:List Int}{p:Int}(h0:0<=p)(h1:p<ns.length):∃v,o8 (ns.map V.int) p=some (.int v)/\ns[p.toNat]? = some v:=by
 have hk:p.toNat<ns.length:=by (first|lia|omega)
 have ek:p=((p.toNat:Nat):Int):=by (first|lia|omega)
 have q:o8 (ns.map V.int) ((p.toNat:Nat):Int)=some (.int ns[p.toNat]):=nO (by rw[Jm,Je hk]<;>rfl)
 rw[<-ek] at q
 exact⟨_,q,Je hk⟩
theorem DY {a j m:Int}(h0:0<m)(h:m<2^64):sI (a%m) j:=by
 have h1:=Int.emod_nonneg a (b:=m) (by first|lia|omega)
 have h2:=Int.emod_lt_of_pos a h0
 exact .inl ⟨by first|lia|omega,by first|lia|omega⟩
theorem Es {n:Nat}{p:Int}(h0:0<=p)(h1:p<n):xg n p=some p.toNat:=by unfold xg;rw[if_pos h0,if_pos h1]
theorem kP {H H':Hp}{b c:Addr}(h:∀a o,a≠b->a≠c->H a=some o->H' a=some o):au (cu H b c) (cu H' b c):=fun a o e=>by
 refine ae.el (df e) _ ?_
 rintro e h1 h2
 rw[bT h1 h2]
 exact h a o h1 h2 e
end Z
namespace L2
open PySem
noncomputable def Gm (t:TG):Prop:=∀x σ H (Q Q':St->Hp->Prop),(∀a b,Q a b->Q' a b)->t x σ H Q->t x σ H Q'
noncomputable def JQ (t:uC):Prop:=∀x σ H (Q Q':St->Hp->Prop),(∀a b,Q a b->Q' a b)->t x σ H Q->t x σ H Q'
theorem aB {i:Nat}:Gm (cM i):=fun _ _ _ _ _ h q=>h _ _ q
theorem aR:JQ pR:=fun _ _ _ _ _ h q=>⟨q.1,h _ _ q.2⟩
theorem aX {t:TG}{u:uC}(a:Gm t)(b:JQ u):JQ (eV t u):=fun _ _ _ _ _ h ⟨v,r,e,q⟩=>⟨v,r,e,a _ _ _ _ _ (fun _ _ z=>b _ _ _ _ _ h z) q⟩
theorem yn {K:Ja}{n:Nat}{t:uC}(a:JQ t):Gm (nJ K n t):=fun _ _ _ _ _ h ⟨v,r,e,h1,h2,q⟩=>⟨v,r,e,h1,h2,a _ _ _ _ _ h q⟩
theorem az.get {K:Ja}{H:Hp}:∀{ds:List PyData} {vs:List V} {i:Nat} {d:PyData},az K H ds vs->ds[i]? = some d->∃v,vs[i]? = some v/\Den K H d v
 | [],_,_,_,_,e=>by simp at e
 | d::ds,vs,i,d',h,e=>by
  unfold az at h
  obtain⟨v,r,rfl,h1,h2⟩:=h
  cases i with
  | zero=>cases e;exact⟨v,rfl,h1⟩
  | succ i=>exact az.get (i:=i) h2 e
theorem az.len {K:Ja}{H:Hp}:∀{ds:List PyData} {vs:List V},az K H ds vs->vs.length=ds.length
 | [],_,h=>by unfold az at h;subst h;rfl
 | d::ds,vs,h=>by
  unfold az at h
  obtain⟨v,r,rfl,h1,h2⟩:=h
  rw[J8,J8,az.len h2]
theorem Den.pair {K:Ja}{H:Hp}{a b:Str}{v:V}(h:Den K H (.tuple [.str a,.str b]) v):∃p,v = .ref p/\d9 K H p [.str a,.str b]:=by
 unfold Den at h
 obtain⟨p,vs,e,h1,h2⟩:=h
 unfold az at h2
 obtain⟨v1,r1,rfl,d1,h2⟩:=h2
 unfold az at h2
 obtain⟨v2,r2,rfl,d2,h2⟩:=h2
 unfold az at h2
 subst h2
 unfold Den at d1 d2
 subst d1 d2
 exact⟨p,e,h1⟩
end L2
namespace Z
open PySem L2
theorem cP {H:Hp}{p:Addr}(h:H p=none)(o:HO):au H (upd H p o):=fun b u q=>by rw[ao (aq q h)];exact q
end Z
namespace L2
open PySem
theorem lP {J:It}{g:TG}{tb:TS}{D:Ends}{σ:St}{H:Hp}(N:Nat)(Pv:Nat->St->Hp->Prop)(h0:Pv 0 σ H)
  (go:∀i σ H,i<N->Pv i σ H->J.go i H/\∀x H',J.yld i H x H'->g x σ H' fun σ2 H2=>tb { D with nx:=Pv (i+1),ct:=Pv (i+1),bk:=D.nx } σ2 H2)
  (stop:∀ σ H,Pv N σ H->J.stop N H/\D.nx σ H) :
  ∃W:Nat->Nat->St->Hp->Prop,(∃m,W 0 m σ H)/\∀i m σ H,W i m σ H ->
   (J.stop i H/\D.nx σ H)∨(J.go i H/\∃N:St->Hp->Prop,(∀ σ' H',N σ' H'->∃m',m'<m/\W (i+1) m' σ' H')/\∀x H',J.yld i H x H'->g x σ H' fun σ2 H2=>tb { D with nx:=N,ct:=N,bk:=D.nx } σ2 H2):=by
 refine⟨fun i m σ H=>m=N-i/\i<=N/\Pv i σ H,⟨N,by simp,Us _,h0⟩,?_⟩
 intro i m σ H hz_
 refine ae.el hz_ _ ?_
 clear hz_
 rintro rfl hi p
 by_cases cF:i<N
 ·obtain⟨g1,g2⟩:=go i σ H cF p
  exact .inr ⟨g1,Pv (i+1),fun σ' H' p'=>⟨N-(i+1),by first|lia|omega,rfl,cF,p'⟩,g2⟩
 ·have e:i=N:=by (first|lia|omega)
  subst e
  exact .inl (stop σ H p)
theorem dU {t u:TS}{D:Ends}{σ:St}{H:Hp}(Ex:St->Hp->Prop)(h:∀Nx:St->Hp->Prop,(∀ σ H,Ex σ H->Nx σ H)->t { D with nx:=Nx } σ H)(fin:∀ σ H,Ex σ H->u D σ H):Bd t u D σ H:=h (u D) fin
theorem nR {c:TT}{tb:TS}{D:Ends}{σ:St}{H:Hp}(Pv:Nat->St->Hp->Prop)(h0:∃m,Pv m σ H)
  (hs:∀m σ H,Pv m σ H->c σ H fun b H1=>if b=true then ∃N:St->Hp->Prop,(∀ σ' H',N σ' H'->∃m',m'<m/\Pv m' σ' H')/\tb { D with nx:=N,ct:=N,bk:=D.nx } σ H1 else D.nx σ H1):kX c tb D σ H:=⟨Pv,h0,hs⟩
theorem bG {te:TE}{g:TG}{u:TS}{D:Ends}{σ:St}{H:Hp}(Ex:V->Hp->Prop)(h:∀Qn:VK,(∀v H,Ex v H->Qn v H)->te σ H Qn)(fin:∀v H,Ex v H->g v σ H (u D)):Bd (gU te g) u D σ H:=h _ fin
theorem Dd {te:TE}{g:TG}{D:Ends}{σ:St}{H:Hp}(Ex:V->Hp->Prop)(h:∀Qn:VK,(∀v H,Ex v H->Qn v H)->te σ H Qn)(fin:∀v H,Ex v H->g v σ H D.nx):gU te g D σ H:=h _ fin
theorem gn {i:Nat}{v:V}{σ:St}{H:Hp}{Q:St->Hp->Prop}(h:Q (σ.set i (some v)) H):cM i v σ H Q:=h
theorem cc {t u:TS}{D:Ends}{σ:St}{H:Hp}(h:∀D':Ends,(∀ σ H,u D σ H->D'.nx σ H)->(∀v H,D.rt v H->D'.rt v H)->t D' σ H):Bd t u D σ H:=h { D with nx:=u D } (fun _ _ h=>h) fun _ _ h=>h
end L2
namespace Z
open PySem L2
noncomputable def Bx (H:Hp)(b c:Addr)(t:Int):Prop:=∃ns,pU H b c t ns
structure Step (b c:Addr)(H H':Hp)(t t' N:Int):Prop where
 le:t<=t'
 ub:t'<=t+N
 bx:Bx H' b c t'
 sm:au (cu H b c) (cu H' b c)
theorem Step.refl {b c:Addr}{H:Hp}{t:Int}(h:Bx H b c t):Step b c H H t t 0:=⟨Yz _,by first|lia|omega,h,au.refl _⟩
theorem Step.trans {b c:Addr}{H H' H2:Hp}{t t' t2 N M:Int}(x:Step b c H H' t t' N)(y:Step b c H' H2 t' t2 M):Step b c H H2 t t2 (N+M):=
 ⟨by have:=x.le;have:=y.le; (first|lia|omega),by have:=x.ub;have:=y.ub; (first|lia|omega),y.bx,x.sm.trans y.sm⟩
theorem Step.more {b c:Addr}{H H':Hp}{t t' N M:Int}(x:Step b c H H' t t' N)(h:N<=M):Step b c H H' t t' M:=⟨x.le,by have:=x.ub; (first|lia|omega),x.bx,x.sm⟩
theorem Bx.aN {H:Hp}{b c p:Addr}{t:Int}(x:Bx H b c t)(h:H p=none):p≠b/\p≠c:=by
 obtain⟨ns,x⟩:=x
 exact⟨fun z=>(by rw[z,x.d] at h;cases h),fun z=>(by rw[z,x.l] at h;cases h)⟩
theorem Bx.upd {H:Hp}{b c p:Addr}{t:Int}{o:HO}(x:Bx H b c t)(h1:p≠b)(h2:p≠c):Bx (upd H p o) b c t:=by
 obtain⟨ns,x⟩:=x
 exact⟨ns,by rw[ao (Ne.symm h1)];exact x.d,by rw[ao (Ne.symm h2)];exact x.l,x.ne,x.le⟩
theorem Step.new {b c p:Addr}{H H':Hp}{t t' N:Int}(x:Step b c H H' t t' N)(h:H' p=none)(o:HO):Step b c H (upd H' p o) t t' N:=
 ⟨x.le,x.ub,x.bx.upd (x.bx.aN h).1 (x.bx.aN h).2,x.sm.trans (kP fun a u _ _ e=>by rw[ao (aq e h)];exact e)⟩
theorem Step.chg {b c p:Addr}{H H':Hp}{t t' N:Int}(x:Step b c H H' t t' N)(h:H p=none)(h1:p≠b)(h2:p≠c)(o:HO):Step b c H (upd H' p o) t t' N:=
 ⟨x.le,x.ub,x.bx.upd h1 h2,fun a u e=>by
  have q:=x.sm a u e
  refine ae.el (df q) _ ?_
  rintro q n1 n2
  rw[bT n1 n2,ao (fun z =>?_)]
  ·exact q
  ·rw[z] at e
   rw[(df e).1] at h;cases h⟩
theorem Step.old {b c a:Addr}{H H':Hp}{t t' N:Int}{o:HO}(x:Step b c H H' t t' N)(h:H a=some o)(h1:a≠b)(h2:a≠c):H' a=some o:=
 (df (x.sm a o (by rw[bT h1 h2];exact h))).1
theorem Step.fresh {b c a:Addr}{H H':Hp}{t t' N:Int}(x:Step b c H H' t t' N)(hb:Bx H b c t)(h:H' a=none):H a=none:=by
 obtain⟨h1,h2⟩:=x.bx.aN h
 cases e:H a with
 | none=>rfl
 | some o=>rw[x.old e h1 h2] at h;cases h
theorem au.cu {H H':Hp}{b c:Addr}(s:au H H'):au (cu H b c) (cu H' b c):=kP fun a o _ _ e=>s a o e
theorem Bx.same {H H':Hp}{b c:Addr}{t:Int}(x:Bx H b c t)(s:au H H'):Bx H' b c t:=by
 obtain⟨ns,x⟩:=x
 exact⟨ns,s _ _ x.d,s _ _ x.l,x.ne,x.le⟩
theorem Step.same {b c:Addr}{H H':Hp}{t:Int}(x:Bx H b c t)(s:au H H'):Step b c H H' t t 0:=⟨Yz _,by first|lia|omega,x.same s,au.cu s⟩
noncomputable def kL:Sp:=fun vs H Q _=>pd fun(b c:Addr) (t many:Int)=>vs=[.ref b,.int many]/\Bx H b c t/\0<=t/\t<100000000/\0<many/\many<1073741824 /\
 ∀(r:Int) (H':Hp),0<=r->r<many->Step b c H H' t (t+1) 1->Q (.int r) H'
theorem Aw {vs:List V}{H:Hp}{Q:VK}{E:XK}(h:kL vs H Q E):sv vs H Q E:=by
 obtain⟨b,c,t,many,e,⟨ns,bx⟩,h1,h2,h3,h4,q⟩:=h
 exact⟨b,c,t,ns,many,e,bx,h1,h2,h3,h4,fun r H' BQ r0 r1 bx' sm=>q r H' r0 r1 ⟨by first|lia|omega,by first|lia|omega,⟨BQ,bx'⟩,sm⟩⟩
theorem CW (vs:List V)(j:Nat):lF vs none (some (j:Int))=vs.take j:=by
 unfold lF
 rw[HT.qo,HT.uf,List.drop_zero,Nat.sub_zero]
 rcases Nat.le_total j vs.length with h|h
 ·rw[Ya h]
 ·rw[Nat.min_eq_right h,Uw (Jc _),Uw h]
theorem zu (vs:List V)(j:Nat):lF vs (some (j:Int)) none=vs.drop j:=by
 unfold lF
 rw[HT.qo,HT.uf]
 rcases Nat.le_total j vs.length with h|h
 ·rw[Ya h,Uw (by rw[Ud];exact Jc _)]
 ·rw[Nat.min_eq_right h,List.drop_of_length_le (Jc _),List.drop_of_length_le h];simp
theorem Fn.imp {P:Program}{w:World}{K:Ja}{mg:Str->Option Value}{base:Heap}{k:Nat}{x:Str}{ps:List Str}{sp Cb:Sp}(F:Fn P w K mg base k x ps sp)(h:∀vs H Q E,Cb vs H Q E->sp vs H Q E):Fn P w K mg base k x ps Cb:=by
 refine ae.el (F.ex) _ ?_
 rintro f fd a b c d
 exact⟨f,fd,a.imp h,b,c,d⟩
theorem Step.cH {b c p:Addr}{H H' H2:Hp}{t t' N:Int}{o:HO}(x:Step b c H H' t t' N)(n:cV H' p o H2):Step b c H H2 t t' N:=by rw[n.eq];exact x.new n.nn _
theorem Step.B7 {b c p:Addr}{H H' H2:Hp}{t t' N:Int}{o:HO}(x:Step b c H H' t t' N)(n:vc H' p o H2)(h:H p=none)(h1:p≠b)(h2:p≠c):Step b c H H2 t t' N:=by rw[n.eq];exact x.chg h h1 h2 _
theorem pU.same {H H':Hp}{b c:Addr}{t:Int}{ns:List Int}(x:pU H b c t ns)(s:au H H'):pU H' b c t ns:=⟨s _ _ x.d,s _ _ x.l,x.ne,x.le⟩
section
variable {P:Program}{w:World}{K:Ja}{mg:Str->Option Value}{base:Heap}{f:Addr}{fd:FuncData}
theorem cE:aM ["_law_state", "_law_many", "_law_turn", "_law_place", "_law_cell", "_law_digit", "_law_mixed"] ["_law_state", "_law_many"] (ay (top ij)):=⟨rfl,rfl,rfl,by decide +kernel,rfl,by decide +kernel,by decide +kernel⟩
theorem B9 (F:cX K "_law_take" "_law_take" (top ij) f fd)(T:Nm mg):bA P w K mg base fQ 1 f fd ["_law_state", "_law_many"] sv:=by
 refine F.ok cE (fun vs H Q E h =>?_) (fun di A outer s H vs Q E hr h =>?_)
 ·obtain⟨b,c,t,ns,many,rfl,_⟩:=h
  rfl
 obtain⟨b,c,t,ns,many,rfl,bx,t0,t1,m0,m1,q⟩:=h
 have hu:=gF hr
 refine⟨_,(ah (aE (i:=2) cE.nd rfl (Or.inl rfl) (aF ck (dv hu (pv 0) bI (fun _ _=>rfl)) aj))
  (ah (An hu (pv 0) bI (pv 2) rfl)
  (ah (aE (i:=3) cE.nd rfl (Or.inl rfl) (aF fz (pv 2) (av (dA K) rfl T.n_len (by rfl) (aa (dv hu (pv 0) bI (fun _ _=>rfl)) ag))))
  (ah (aE (i:=4) cE.nd rfl (Or.inl rfl) (bt (gP K) (dv hu (pv 0) bI (fun _ _=>rfl)) (pv 3) (fun _ _=>rfl)))
  (ah (cB (aP HB (pv 4) (aF DX aj aj) (aY _)) (ah (fB (av Bp rfl T.n_divmod (by rfl) (aa (pv 4) (aa (pv 1) ag))) (tupK K 2 rfl (ar (DQ (dv hu (pv 0) bI (fun _ _=>rfl)) (pv 3) set_list) (ar (ai (i:=5) cE.nd rfl (Or.inl rfl)) bp))))
  (ak (aI (pv 5)))) bh)
  (ah (aE (i:=6) cE.nd rfl (Or.inl rfl) (aF fz (aF kM (aF ck (aF ck (aF fz (pv 4) aj) (aF kM (aF kM (pv 2) (pv 2)) aj)) aj) aj) aj))
  (ah (aE (i:=6) cE.nd rfl (Or.inl rfl) (aF fz (aF kM (pv 6) (pv 6)) aj))
  (ak (aI (aF fz (aF BA (aF fz (aF kM (aF ck (pv 6) (aF kM (pv 2) aj)) aj) aj) aj) (pv 1))))))))))),?_⟩
 refine⟨_,rfl,b,_,rfl,bx.zf,.inl ⟨_,_,rfl,rfl,?_⟩⟩
 refine⟨_,rfl,_,rfl,b,_,rfl,bx.xO (t+1),?_⟩
 have tu:=bx.turned (t+1)
 refine⟨_,rfl,_,rfl,b,_,rfl,tu.jh,_,_,rfl,.inl ⟨_,aG.of tu.l,rfl⟩,_,_,rfl,rfl,?_,?_⟩
 ·rw[Jb];have:=tu.ne; (first|lia|omega)
 have hlen:(ns.map V.int).length=ns.length:=Jb _
 have Hl:0<=(t+1)%((ns.map V.int).length:Int):=Int.emod_nonneg _ (by have:=tu.ne; (first|lia|omega))
 have gW:(t+1)%((ns.map V.int).length:Int)<ns.length:=by rw[hlen];exact Int.emod_lt_of_pos _ (by have:=tu.ne; (first|lia|omega))
 refine ae.el (at_of Hl gW) _ ?_
 rintro v hv N6
 refine⟨_,rfl,b,_,rfl,tu.jh,_,rfl,.inl ⟨c,_,_,_,rfl,rfl,aG.of tu.l,hv,?_⟩⟩
 refine⟨_,rfl,_,_,rfl,rfl,⟨by decide,by decide,by decide⟩,_,_,rfl,rfl,_,rfl,?_⟩
 refine gM (fun _ =>?_) (fun _ =>?_)
 ·refine⟨_,rfl,_,rfl,v,many,rfl,⟨m0,by first|lia|omega⟩,fun pt H2 n2 =>?_⟩
  obtain⟨hpb,hpc⟩:pt≠b/\pt≠c:=⟨fun z=>(by have:=n2.nn;rw[z,tu.d] at this;cases this),fun z=>(by have:=n2.nn;rw[z,tu.l] at this;cases this)⟩
  have Kd:=tu.same n2.same
  refine⟨pt,_,rfl,d9.of n2.at,rfl,_,_,rfl,?_⟩
  refine⟨_,rfl,b,_,rfl,Kd.jh,_,rfl,c,_,_,_,rfl,rfl,Kd.l,Es Hl (by simpa only [hlen] using gW),?_⟩
  refine⟨_,_,rfl,rfl,_,rfl,?_⟩
  refine q (v%many) _ (ns.set ((t+1)%((ns.map V.int).length:Int)).toNat (v / many)) (Int.emod_nonneg _ (by first|lia|omega)) (Int.emod_lt_of_pos _ m0) ⟨?_,?_,?_,?_⟩ ?_
  ·rw[ao Kd.bc];exact Kd.d
  ·rw[aH,List.map_set]
  ·rw[List.length_set];exact tu.ne
  ·rw[List.length_set];exact tu.le
  ·rw[vq]
   refine kP fun a o h1 h2 e =>?_
   rw[n2.ne (fun z =>?_),ao h1]
   ·exact e
   ·have z2:=n2.nn
    rw[ao hpb,<-z,e] at z2
    cases z2
 ·refine⟨_,rfl,_,_,rfl,rfl,(by dsimp only;decide),_,rfl,_,rfl,.inl ⟨_,_,rfl,rfl,.inl ⟨by first|lia|omega,by first|lia|omega⟩,.inl ⟨_,_,rfl,rfl,.inr ⟨by decide,by decide⟩,.inl ⟨_,_,rfl,rfl,.inl ⟨_,_,rfl,rfl,.inl ⟨_,_,rfl,rfl,.inr ⟨by decide,by decide⟩,_,_,rfl,rfl,(by dsimp only;decide),?_⟩⟩⟩⟩⟩⟩
  have cm:∀(x y p:Int),0<p->p<2^64->sI (x%p) y:=fun x y p h0 h1=>DY h0 h1
  refine⟨_,rfl,_,rfl,.inl ⟨_,_,rfl,rfl,cm _ _ _ (by decide) (by decide),?_⟩⟩
  refine⟨_,_,rfl,rfl,(by dsimp only;decide),?_⟩
  refine⟨_,rfl,_,rfl,.inl ⟨_,_,rfl,rfl,.inl ⟨by first|lia|omega,by first|lia|omega⟩,.inl ⟨_,_,rfl,rfl,.inl ⟨_,_,rfl,rfl,.inr ⟨by decide,by decide⟩,_,_,rfl,rfl,(by dsimp only;decide),_,_,rfl,rfl,⟨by decide,by decide⟩,_,rfl,_,_,rfl,rfl,m0,?_⟩⟩⟩⟩
  exact q _ _ ns (Int.emod_nonneg _ (by first|lia|omega)) (Int.emod_lt_of_pos _ m0) tu (by rw[u9];exact au.refl _)
end
noncomputable def tP (x:Str):Prop:=∀c∈x.cps.toList,c=48∨c=49
theorem lW (g:Str):∀(parts:List Str) (acc:Array Nat),(parts.foldl (fun acc p=>acc++g.cps++p.cps) acc).toList=acc.toList++parts.flatMap (fun p=>g.cps.toList++p.cps.toList)
 | [],acc=>by simp
 | p::r,acc=>by rw[List.foldl_cons,lW g r];simp
theorem ie (xs:List Str):(Txt.join "" xs).cps.toList=xs.flatMap (fun p=>p.cps.toList):=by
 cases xs with
 | nil=>rfl
 | cons x r=>
  show((r.foldl (fun acc p=>acc++(Str.ofString "").cps++p.cps) x.cps)).toList=_
  rw[lW]
  have e:(Str.ofString "").cps.toList=[]:=rfl
  simp[e]
noncomputable abbrev Lc:Str := "abcdefghijklmnopqrstuvwxyz"
theorem yB:Lc.cps.toList=(U3 26).map (97 + ·):=by decide +kernel
theorem yW {r:Int}(h0:0<=r)(h1:r<26):o8 Lc.cps.toList r=some (97+r.toNat):=by
 refine fE h0 ?_
 rw[yB,Jm,List.getElem?_range (by first|lia|omega)]
 rfl
theorem bw (x y:Str):(x++y).cps.toList=x.cps.toList++y.cps.toList:=by
 show(x.cps++y.cps).toList=_
 simp
theorem str_len (x:Str):x.length=x.cps.toList.length:=by simp[Str.length]
theorem dP (x y:Str):(x++y).length=x.length+y.length:=by rw[str_len,bw,Jf,<-str_len,<-str_len]
theorem len_one (ch:Nat):(⟨#[ch]⟩:Str).length=1:=rfl
noncomputable def Sh (n:Nat)(d:PyData):Prop:=d.canLay0=true/\d.depth<=n
theorem Sh.all {n:Nat}:∀{ds:List PyData},(∀d∈ds,Sh n d)->PyData.canLayAll0 ds=true/\PyData.depthAll ds<=n
 | [],_=>⟨by simp[PyData.canLayAll0],by simp[PyData.depthAll]⟩
 | d::ds,h=>by
  obtain⟨h1,h2⟩:=h d Jk
  obtain⟨h3,h4⟩:=Sh.all fun e he=>h e (Jh _ he)
  exact⟨by simp[PyData.canLayAll0,h1,h3],by simp only[PyData.depthAll]; (first|lia|omega)⟩
theorem Sh.list {n:Nat}{ds:List PyData}(h:∀d∈ds,Sh n d):Sh (n+1) (.list ds):=by
 obtain⟨h1,h2⟩:=Sh.all h
 exact⟨by simpa [PyData.canLay0] using h1,by simp only[PyData.depth]; (first|lia|omega)⟩
theorem Sh.tuple {n:Nat}{ds:List PyData}(h:∀d∈ds,Sh n d):Sh (n+1) (.tuple ds):=by
 obtain⟨h1,h2⟩:=Sh.all h
 exact⟨by simpa [PyData.canLay0] using h1,by simp only[PyData.depth]; (first|lia|omega)⟩
theorem Sh.shaped {n:Nat}{d:PyData}(h:Sh n d)(hn:n<=64):SeqAt.shaped d=true:=by
 unfold SeqAt.shaped
 rw[h.1,decide_eq_true (Jp h.2 hn)]
 rfl
theorem Sh.str {n:Nat}{x:Str}(h:PyData.canLay0 (.str x)=true):Sh n (.str x):=⟨h,by simp[PyData.depth]⟩
theorem Sh.int {n:Nat}{i:Int}:Sh n (.int i):=⟨by simp[PyData.canLay0],by simp[PyData.depth]⟩
theorem fI {x:Str}(h:∀ch∈x.cps.toList,ch<128):PyData.canLay0 (.str x)=true:=by
 simp only[PyData.canLay0,PyData.strOk]
 rw[<-Array.all_toList,Wt]
 intro ch hc
 have:=h ch hc
 exact decide_eq_true (by first|lia|omega)
theorem Den.strs {K:Ja}{H:Hp}:∀(xs:List Str),az K H (xs.map PyData.str) (xs.map V.str)
 | []=>by unfold az;rfl
 | x::xs=>by
  rw[Ub]
  unfold az
  exact⟨_,_,rfl,by unfold Den;rfl,Den.strs xs⟩
theorem Den.list {K:Ja}{H:Hp}{l:Addr}{ds:List PyData}{vs:List V}(h:aG K H l vs)(hd:az K H ds vs):Den K H (.list ds) (.ref l):=by
 unfold Den
 exact⟨l,vs,rfl,h,hd⟩
theorem az.of_get {K:Ja}{H:Hp}:∀{ds:List PyData} {vs:List V},ds.length=vs.length->(∀(j:Nat) d v,ds[j]? = some d->vs[j]? = some v->Den K H d v)->az K H ds vs
 | [],[],_,_=>by unfold az;rfl
 | [],_::_,h,_=>by simp at h
 | _::_,[],h,_=>by simp at h
 | d::ds,v::vs,h,g=>by
  unfold az
  exact⟨v,vs,rfl,g 0 d v rfl rfl,az.of_get (by simpa using h) fun j d' v' h1 h2=>g (j+1) d' v' h1 h2⟩
theorem Den.pairOf {K:Ja}{H:Hp}{a:Addr}{x y:Str}(h:H a=some (.tup [.str x,.str y])):Den K H (.tuple [.str x,.str y]) (.ref a):=by
 unfold Den
 refine⟨a,_,rfl,d9.of h,?_⟩
 unfold az
 refine⟨_,_,rfl,by unfold Den;rfl,?_⟩
 unfold az
 refine⟨_,_,rfl,by unfold Den;rfl,?_⟩
 unfold az
 rfl
noncomputable def fD (K:Ja)(H:Hp)(bk:List (Str×Str))(v:V):Prop:=cj fun(l:Addr) (vs:List V)=>v = .ref l/\H l=some (.lst vs)/\az K H (bk.map fun q =>.tuple [.str q.1,.str q.2]) vs
theorem fD.same {K:Ja}{H H':Hp}{bk:List (Str×Str)}{v:V}(h:fD K H bk v)(s:au H H'):fD K H' bk v:=by
 obtain⟨l,vs,rfl,h1,h2⟩:=h
 exact⟨l,vs,rfl,s _ _ h1,h2.same s⟩
theorem yU {K:Ja}{H1 H':Hp}{b c p:Addr}{t:Int}{as:List Addr}{ns cs:List Str}(bx:Bx H1 b c t)(hp:H1 p=none)(hl:H' p=some (.lst (as.map V.ref)))(hle:ns.length=cs.length)
  (CK:as.length=min (ns.map V.str).length (cs.map V.str).length) (h:∀(j:Nat) a x y,as[j]? = some a->(ns.map V.str)[j]? = some x->(cs.map V.str)[j]? = some y->H1 a=none/\H' a=some (.tup [x,y])) :
  fD K (cu H' b c) (ns.zip cs) (.ref p):=by
 have PZ:as.length=ns.length:=by rw[CK,Jb,Jb,<-hle,Nat.min_self]
 obtain⟨pb,pc⟩:=bx.aN hp
 refine⟨p,_,rfl,by rw[bT pb pc];exact hl,az.of_get ?_ fun j d v hd hv =>?_⟩
 ·rw[Jb,Jb,List.length_zip]; (first|lia|omega)
 ·rw[Jm] at hd hv
  have hj:j<as.length:=by
   cases e:as[j]? with
   | none=>rw[e] at hv;cases hv
   | some a=>exact(Js.mp e).1
  have e1:as[j]? = some as[j]:=Je hj
  have e2:ns[j]? = some (ns[j]'(by first|lia|omega)):=Je (by first|lia|omega)
  have e3:cs[j]? = some (cs[j]'(by first|lia|omega)):=Je (by first|lia|omega)
  rw[e1] at hv;cases hv
  rw[(List.getElem?_zip_eq_some (z:=(ns[j]'(by first|lia|omega),cs[j]'(by first|lia|omega)))).mpr ⟨e2,e3⟩] at hd
  cases hd
  obtain⟨h1,h2⟩:=h j as[j] _ _ e1 (by rw[Jm,e2];rfl) (by rw[Jm,e3];rfl)
  obtain⟨ab,ac⟩:=bx.aN h1
  exact Den.pairOf (by rw[bT ab ac];exact h2)
structure bu (n:Nat)(x:Str):Prop where
 bin:tP x
 pos:1<=x.length
 le:x.length<=n
theorem bu.mono {n m:Nat}{x:Str}(h:bu n x)(le:n<=m):bu m x:=⟨h.bin,h.pos,Jp h.le le⟩
theorem tP.app {x y:Str}(h:tP x)(h':tP y):tP (x++y):=fun ch hc=>by
 rw[bw] at hc
 rcases Jq.mp hc with q|q
 ·exact h ch q
 ·exact h' ch q
theorem mN (cs:List Str):(!PyData.eqv (.list (cs.map PyData.str)) (.list [])) = !cs.isEmpty:=by
 cases cs<;>simp[PyData.eqv,PyData.eqvAll]
noncomputable abbrev sg (x:Str):List Nat:=x.cps.toList
noncomputable def RF (a b:Str):Prop := ¬(sg a <+: sg b)/\¬(sg b <+: sg a)
theorem RF.symm {a b:Str}(h:RF a b):RF b a:=⟨h.2,h.1⟩
theorem jr (x y:Str):sg (x++y)=sg x++sg y:=bw x y
theorem RF.ext {a b u v:Str}(h:RF a b):RF (a++u) (b++v):=by
 refine⟨fun z =>?_,fun z =>?_⟩
 ·rw[jr,jr] at z
  rcases List.prefix_or_prefix_of_prefix ((List.prefix_append _ _).trans z) (List.prefix_append (sg b) (sg v)) with q|q
  ·exact h.1 q
  ·exact h.2 q
 ·rw[jr,jr] at z
  rcases List.prefix_or_prefix_of_prefix ((List.prefix_append _ _).trans z) (List.prefix_append (sg a) (sg u)) with q|q
  ·exact h.2 q
  ·exact h.1 q
noncomputable abbrev eG (cs:List Str):Prop:=cs.Pairwise RF
theorem eG.perm {cs ds:List Str}(h:eG cs)(p:cs.Perm ds):eG ds:=(p.pairwise_iff fun h=>RF.symm h).mp h
theorem eG.sub {cs ds:List Str}(h:eG cs)(s:ds.Sublist cs):eG ds:=List.Pairwise.sublist s h
noncomputable abbrev s0:Str := "0"
noncomputable abbrev s1:Str := "1"
theorem RF.two (x:Str):RF (x++s0) (x++s1):=by
 have e0:sg (x++s0)=sg x++[48]:=bw x s0
 have e1:sg (x++s1)=sg x++[49]:=bw x s1
 refine⟨fun z =>?_,fun z =>?_⟩
 ·rw[e0,e1] at z
  have:=z.eq_of_length (by simp)
  simp at this
 ·rw[e0,e1] at z
  have:=z.eq_of_length (by simp)
  simp at this
theorem RF.one {x y u:Str}(h:RF y x):RF y (x++u):=by
 have z:=h.ext (u:=Str.empty) (v:=u)
 have e:y++Str.empty=y:=by
  show(⟨y.cps ++ #[]⟩:Str)=y
  simp
 rw[e] at z
 exact z
theorem eG.split {A B:List Str}{x:Str}(h:eG (A++x::B)):eG (A++[x++s0,x++s1]++B):=by
 rw[J9]
 refine ae.el (Ue.mp h) _ ?_
 rintro hA hxB hAB
 obtain⟨hx,hB⟩:=List.pairwise_cons.mp hxB
 refine Ue.mpr ⟨hA,?_,fun a ha y hy =>?_⟩
 ·refine Ue.mpr ⟨List.pairwise_cons.mpr ⟨fun y hy=>by rw[Jg.mp hy];exact RF.two x,Y8 _ _⟩,hB,fun y hy z hz =>?_⟩
  have q:=(hx z hz).symm
  simp at hy
  rcases hy with rfl|rfl
  ·exact q.one.symm
  ·exact q.one.symm
 ·rcases Jq.mp hy with hy|hy
  ·have q:=hAB a ha x Jk
   simp at hy
   rcases hy with rfl|rfl
   ·exact q.one
   ·exact q.one
  ·exact hAB a ha y (Jh _ hy)
theorem yq {cs:List Str}{k:Nat}{x:Str}(h:cs[k]? = some x):cs=cs.take k++x::cs.drop (k+1):=by
 obtain⟨hk,e⟩:=Js.mp h
 rw[<-e,<-Y0 hk,Ys]
theorem wW {cs:List Str}{k:Nat}{x:Str}(h:cs[k]? = some x):cs.Perm (x::cs.eraseIdx k):=by
 have e:=yq h
 have e2:cs.eraseIdx k=cs.take k++cs.drop (k+1):=Yl _ _
 rw[e2]
 conv=>lhs;rw[e]
 exact List.perm_middle
theorem Hy:eG [s0,s1]:=by
 refine List.pairwise_cons.mpr ⟨fun y hy =>?_,Y8 _ _⟩
 rw[Jg.mp hy]
 have:=RF.two Str.empty
 exact this
theorem fY {x y:Str}(h:sg x=sg y):x=y:=by
 cases x;cases y
 simp only[sg] at h
 rw[Array.toList_inj.mp h]
theorem G6 {x:Str}{j:Int}(h0:0<=j)(h1:j<=x.length):sg (Txt.slice x none (some j))=(sg x).take j.toNat:=by
 have e:=PyProof.Rows.slice_closes_to (x:=x) (j:=j) ⟨h0,by rw[<-str_len];exact h1⟩
 rw[eq_of_beq e]
 simp
theorem lN {H:Hp}{b c:Addr}:au (cu H b c) H:=fun a o e=>(df e).1
theorem CU {K:Ja}{H:Hp}{ds:List PyData}{vs:List V}{j:Nat}{d:PyData}{v:V}(h:az K H ds vs)(hd:ds[j]? = some d)(hv:vs[j]? = some v):Den K H d v:=by
 obtain⟨u,hu,q⟩:=h.get hd
 rw[hv] at hu;cases hu
 exact q
theorem Ag {K:Ja}{H:Hp}{ds:List PyData}{vs:List V}{d:PyData}{v:V}(h:az K H ds vs)(q:Den K H d v):az K H (ds++[d]) (vs++[v]):=by
 have hl:=h.len
 refine az.of_get (by simp[hl]) fun j d' v' h1 h2 =>?_
 by_cases e:j<ds.length
 ·rw[Ua e] at h1
  rw[Ua (by first|lia|omega)] at h2
  exact CU h h1 h2
 ·rw[J0 (by first|lia|omega)] at h1
  rw[J0 (by first|lia|omega),hl] at h2
  have:j-ds.length=0:=by
   have:=(Js.mp h1).1
   simp at this; (first|lia|omega)
  rw[this] at h1 h2
  cases h1;cases h2;exact q
theorem sW {i:Int}(h:i.natAbs<2^200):PyData.weight (.int i)<=201:=by
 simp only[PyData.weight]
 split
 ·(first|lia|omega)
 ·rename_i h0
  have jZ:i.natAbs≠0:=by
   intro z
   exact h0 (by simp; (first|lia|omega))
  have:=(Nat.log2_lt jZ).mpr h
  (first|lia|omega)
noncomputable def oA (K:Ja):Sp:=fun vs H Q _=>cj fun(a:Addr) (ns:List Int)=>vs=[.ref a]/\aG K H a (ns.map V.int)/\ns.length<=63 /\
 ∀(b c:Addr) (H':Hp),Bx H' b c 0->H b=none->H c=none->au H (cu H' b c)->Q (.ref b) H'
theorem Den.ints {K:Ja}{H:Hp}:∀(ns:List Int),az K H (ns.map PyData.int) (ns.map V.int)
 | []=>by unfold az;rfl
 | n::ns=>by
  rw[Ub,Ub]
  unfold az
  exact⟨_,_,rfl,by unfold Den;rfl,Den.ints ns⟩
theorem tD (ds:List PyData):PyData.eqv (.list ds) (.list [])=ds.isEmpty:=by
 cases ds<;>simp[PyData.eqv,PyData.eqvAll]
theorem BH {n:Nat}(ns:List Int):Sh (n+1) (.list (ns.map PyData.int)):=Sh.list fun d hd=>by
 refine ae.el (Um.mp hd) _ ?_
 rintro i _ rfl
 exact Sh.int
section
variable {P:Program}{w:World}{K:Ja}{mg:Str->Option Value}{base:Heap}{f:Addr}{fd:FuncData}
theorem fJ:aM ["_law_script", "_law_cells"] ["_law_script"] (ay (top gC)):=⟨rfl,rfl,rfl,by decide +kernel,rfl,by decide +kernel,by decide +kernel⟩
theorem zN (F:cX K "_law_begin" "_law_begin" (top gC) f fd)(T:Nm mg):bA P w K mg base fQ 1 f fd ["_law_script"] (oA K):=by
 refine F.ok fJ (fun vs H Q E h =>?_) (fun di A outer s H vs Q E hr h =>?_)
 ·obtain⟨a,ns,rfl,_⟩:=h
  rfl
 obtain⟨a,ns,rfl,hS,hlen,q⟩:=h
 have hU:=hr.units
 refine⟨_,(ah (aE (i:=1) fJ.nd rfl (Or.inl rfl) (bX (zK K) rfl T.n_list (by rfl) (aa (bC (uR K) (pv 0) bQ (bN aj)) ag)))
  (ah (cB (aP (E8 K hU) (pv 1) (dg ag) (aY _)) (ak (aE (i:=1) fJ.nd rfl (Or.inl rfl) (dg (aa aj ag)))) bh)
  (ak (aI (IQ (pE bI (pv 1) (pE bI aj AX)) rfl rfl (by decide) (by decide)))))),?_⟩
 refine⟨_,rfl,_,rfl,.inl ⟨a,_,rfl,hS,fun r1 H1 n1 =>?_⟩⟩
 refine⟨r1,_,rfl,.inl (aG.of n1.at),fun r2 H2 n2=>gn ?_⟩
 have hc:lF (ns.map V.int) none (some 63)=ns.map V.int:=by
  have e:=CW (ns.map V.int) 63
  rw[Uw (by rw[Jb];exact hlen)] at e
  exact e
 have rG:H2 r2=some (.lst (ns.map V.int)):=by rw[<-hc];exact n2.at
 have Mr:=n1.same.trans n2.same
 dsimp only
 refine dU (t:=l9 _ _ _) (fun σ H'=>cj fun(r:Addr) (BQ:List Int) =>σ=[some (.ref a),some (.ref r)]/\H' r=some (.lst (BQ.map V.int))/\0<BQ.length/\BQ.length<=64/\H r=none/\au H H') (fun Nx nx =>?_) ?_
 ·refine⟨_,rfl,by show 0<=sizeLine;decide,fun r3 H3 n3 =>?_⟩
  have d2:Den K H3 (.list (ns.map PyData.int)) (.ref r2):=Den.list (aG.of (n3.same _ _ rG)) (Den.ints ns)
  have d3:Den K H3 (.list []) (.ref r3):=Den.list (aG.of n3.at) (Den.ints [])
  refine .inr ⟨_,_,d2,d3,(BH (n:=1) ns).shaped (by decide),by decide +kernel,_,rfl,?_⟩
  rw[tD]
  refine gM (fun e =>?_) (fun e =>?_)
  ·refine⟨by show 1<=sizeLine;decide,fun r4 H4 n4=>gn (nx _ _ ⟨r4,[_],rfl,n4.at,by decide,by decide,(Mr.trans n3.same).free n4.nn,Mr.trans (n3.same.trans n4.same)⟩)⟩
  ·refine nx _ _ ⟨r2,ns,rfl,n3.same _ _ rG,?_,by first|lia|omega,n1.same.free n2.nn,Mr.trans n3.same⟩
   cases ns with
   | nil=>exact absurd rfl e
   | cons _ _=>exact Nat.succ_pos _
 intro σ H3 hz_
 refine ae.el hz_ _ ?_
 clear hz_
 rintro r BQ rfl zg l0 l1 hn sm
 intro p H0 n0
 refine⟨_,rfl,?_⟩
 refine⟨n0.at,[(.inr "cells",.ref r),(.inr "turn",.int 0)],rfl,by show 2<=15;decide,fun H6 n6 =>?_⟩
 have Oj:r≠p:=aq zg n0.nn
 have hp:H p=none:=sm.free n0.nn
 refine q p r H6 ⟨BQ,?_,?_,l0,l1⟩ hp hn (fun b o e =>?_)
 ·rw[n6.at];rfl
 ·rw[n6.ne Oj,n0.ne Oj];exact zg
 ·have sY:b≠p:=aq e hp
  have JD:b≠r:=aq e hn
  rw[bT sY JD,n6.ne sY,n0.ne sY]
  exact sm _ _ e
end
theorem aL {α:Type}{l:List α}{i:Nat}(h:i<l.length):l.take (i+1)=l.take i++[l[i]]:=by
 rw[List.take_succ,Je h];rfl
theorem A1 (i j:Int)(n:Nat)(h:n<=j):PySem.Builtin.Str.strSliceIndices (some i) (some j) 1 n=PySem.Builtin.Str.strSliceIndices (some i) (some (n:Int)) 1 n:=by
 unfold PySem.Builtin.Str.strSliceIndices
 dsimp only
 congr 1
 have a:¬j<0:=by (first|lia|omega)
 have b:¬((n:Nat):Int)<0:=by (first|lia|omega)
 rw[if_neg a,if_neg b]
 (first|lia|omega)
theorem Fb {x:Str}{p q:Nat}(h1:p<=q)(h2:p<=x.length):sg (Txt.slice x (some (p:Int)) (some (q:Int)))=((sg x).drop p).take (q-p):=by
 by_cases hq:q<=x.length
 ·have e:=PyProof.Rows.slice_closes (x:=x) (i:=p) (j:=q) ⟨by first|lia|omega,by first|lia|omega,by rw[<-str_len]; (first|lia|omega)⟩
  rw[eq_of_beq e]
  show(((sg x).drop (p:Int).toNat).take ((q:Int)-p).toNat).toArray.toList=_
  rw[List.toList_toArray]
  congr 1
  (first|lia|omega)
 ·have e:=PyProof.Rows.slice_closes (x:=x) (i:=p) (j:=(x.length:Int)) ⟨by first|lia|omega,by first|lia|omega,by rw[<-str_len]; (first|lia|omega)⟩
  have e2:Txt.slice x (some (p:Int)) (some (q:Int))=Txt.slice x (some (p:Int)) (some ((x.length:Nat):Int)):=by
   unfold Txt.slice
   rw[A1 _ _ _ (show((x.length:Nat):Int)<=q by first|lia|omega)]
  rw[e2,eq_of_beq e]
  show(((sg x).drop (p:Int).toNat).take ((x.length:Int)-p).toNat).toArray.toList=_
  rw[List.toList_toArray,Uw,Uw]
  ·rfl
  ·rw[Ud,<-str_len]; (first|lia|omega)
  ·rw[Ud,<-str_len]; (first|lia|omega)
noncomputable def byName (bk:List (Str×Str)):List (Key×V):=bk.map fun q=>(.inr q.1,.str q.2)
theorem nV {α:Type}{f: α->Key×V}{k:Key}:∀{l:List α} {x: α},x∈l->(f x).1=k->(∀y∈l,(f y).1=k->(f y).2=(f x).2)->aZ (l.map f) k=some (f x).2
 | y::l,x,hx,hk,hu=>by
  rw[Ub]
  by_cases e:(f y).1=k
  ·rw[bW e,hu y Jk e]
  ·rw[bK e]
   refine nV ((Uc.mp hx).resolve_left fun z=>e (by rw[<-z];exact hk)) hk fun z hz=>hu z (Jh _ hz)
theorem eR {α:Type}{f: α->Key×V}{k:Key}:∀{l:List α},(∀y∈l,(f y).1≠k)->aZ (l.map f) k=none
 | [],_=>rfl
 | y::l,h=>by
  rw[Ub,bK (h y Jk)]
  exact eR fun z hz=>h z (Jh _ hz)
theorem sF {α β:Type}{g: α -> β}{l:List α}(nd:(l.map g).Nodup){x y: α}(hx:x∈l)(hy:y∈l)(e:g x=g y):x=y:=by
 obtain⟨i,hi,rfl⟩:=U2.mp hx
 obtain⟨j,hj,rfl⟩:=U2.mp hy
 have:=(Uz.mp nd)
 have key:i=j:=by
  rcases Nat.lt_trichotomy i j with h|h|h
  ·exact absurd (by rw[Yb,Yb];exact e) (Ur.mp this i j (by rw[Jb];exact hi) (by rw[Jb];exact hj) h)
  ·exact h
  ·exact absurd (by rw[Yb,Yb];exact e.symm) (Ur.mp this j i (by rw[Jb];exact hj) (by rw[Jb];exact hi) h)
 subst key;rfl
noncomputable def Of (bk:List (Str×Str))(ps:List (Str×Str)):Prop:=∀q∈ps,q∈bk
noncomputable def tx (ps:List (Str×Str)):List Nat:=ps.flatMap fun q=>sg q.2
noncomputable def jU (ps:List (Str×Str)):Str:=⟨(tx ps).toArray⟩
theorem lY (ps:List (Str×Str)):sg (jU ps)=tx ps:=by simp[jU]
end Z
set_option maxRecDepth 200000
namespace Z
open PySem L2
noncomputable def kc (K:Ja)(H:Hp)(bk:List (Str×Str))(l:Addr):Prop:=∃vs,aG K H l vs/\az K H (bk.map fun q =>.tuple [.str q.1,.str q.2]) vs
theorem kc.same {K:Ja}{H H':Hp}{bk:List (Str×Str)}{l:Addr}(h:kc K H bk l)(s:au H H'):kc K H' bk l:=by
 obtain⟨vs,h1,h2⟩:=h
 exact⟨vs,s.seq h1,h2.same s⟩
theorem jO {K:Ja}{H:Hp}{bk:List (Str×Str)}{vs:List V}(h:az K H (bk.map fun q =>.tuple [.str q.1,.str q.2]) vs){i:Nat}(hi:i<bk.length):∃tp,vs[i]? = some (.ref tp)/\d9 K H tp [.str bk[i].1,.str bk[i].2]:=by
 obtain⟨v,h1,h2⟩:=h.get (i:=i) (d := .tuple [.str bk[i].1,.str bk[i].2]) (by rw[Jm,Je hi];rfl)
 refine ae.el (h2.pair) _ ?_
 rintro tp rfl h3
 exact⟨tp,h1,h3⟩
theorem ik {K:Ja}{H:Hp}{bk:List (Str×Str)}{vs:List V}(h:az K H (bk.map fun q =>.tuple [.str q.1,.str q.2]) vs):vs.length=bk.length:=by rw[h.len,Jb]
theorem FV {K:Ja}{bk:List (Str×Str)}{l:Addr}{tk tv:TE}{f:Str×Str->Key×V}(nd:(bk.map fun q=>(f q).1).Nodup)(hle:bk.length<=100)(hk:∀(q:Str×Str) (H:Hp) (Q:VK),Q (kV (f q).1) H->tk [some (.str q.1),some (.str q.2)] H Q)
  (hv:∀(q:Str×Str) (H:Hp) (Q:VK),Q (f q).2 H->tv [some (.str q.1),some (.str q.2)] H Q) {σ:St} {D:Addr} {H:Hp} (hB:kc K H bk l) (hD:H D=none) {fin:Hp->Prop} (q:fin (upd H D (.dK (bk.map f)))) :
  uQ (JJ K l) 2 [] (nJ K 2 (eV (cM 0) (eV (cM 1) pR))) ma tk tv σ D (upd H D (.dK [])) fin:=by
 obtain⟨vs,hl,hd⟩:=hB
 have hlen:=ik hd
 refine⟨fun i m H'=>m=bk.length-i/\i<=bk.length/\H'=upd H D (.dK ((bk.take i).map f)),⟨_,rfl,Us _,rfl⟩,?_⟩
 intro i m H' hz_
 refine ae.el hz_ _ ?_
 clear hz_
 rintro rfl hi rfl
 have sm:au H (upd H D (.dK ((bk.take i).map f))):=cP hD _
 by_cases cF:i<bk.length
 ·refine ae.el (jO hd cF) _ ?_
  rintro tp h1 h2
  refine .inr ⟨⟨_,_,sm.seq hl,h1⟩,?_⟩
  rintro x H2 ⟨rfl,hy⟩
  have e:=hy _ (sm.seq hl)
  rw[h1] at e;cases e
  refine⟨tp,_,rfl,sm.sG h2,rfl,_,_,rfl,_,_,rfl,rfl,?_⟩
  dsimp only[ma]
  rw[if_pos rfl]
  refine hk bk[i] _ _ (hv bk[i] _ _ ⟨(bk.take i).map f,(f bk[i]).1,aH,rfl,?_,bk.length-(i+1),by first|lia|omega,rfl,cF,?_⟩)
  ·rw[Jb,Jw]
   exact Jx (show min i bk.length<=20000 by first|lia|omega) (by decide)
  ·rw[gK _ (eR fun y hy e =>?_),tO,aL cF,Jl]
   ·rfl
   ·have h3:=Uz.mp nd
    refine ae.el (U2.mp hy) _ ?_
    rintro j hj rfl
    rw[Jw] at hj
    rw[List.getElem_take] at e
    exact absurd (by rw[Yb,Yb];exact e) (Ur.mp h3 j i (by rw[Jb]; (first|lia|omega)) (by rw[Jb]; (first|lia|omega)) (by first|lia|omega))
 ·have e:i=bk.length:=by (first|lia|omega)
  subst e
  refine .inl ⟨⟨_,sm.seq hl,by first|lia|omega⟩,?_⟩
  rw[Ui];exact q
theorem jB {bk:List (Str×Str)}{g:Str×Str->Str}(h:(bk.map g).Nodup):(bk.map fun q=>(Sum.inr (g q):Key)).Nodup:=by
 have e:(bk.map fun q=>(Sum.inr (g q):Key))=(bk.map g).map Sum.inr:=by rw[Yx];rfl
 rw[e]
 refine Uz.mpr (List.pairwise_map.mpr ((Uz.mp h).imp fun IE z=>IE (by injection z)))
theorem zx (a b:List (Str×Str)):tx (a++b)=tx a++tx b:=List.flatMap_append
theorem g9 {ps:List (Str×Str)}{i:Nat}(hi:i<ps.length):((ps.map (·.1)).map V.str)[i]? = some (.str ps[i].1):=by rw[Jm,Jm,Je hi];rfl
theorem fC {ps:List (Str×Str)}:((ps.map (·.1)).map V.str).length=ps.length:=by rw[Jb,Jb]
theorem sU:∀(ps:List (Str×Str)),((ps.map (·.2)).map (·.length)).sum=(tx ps).length
 | []=>rfl
 | q::ps=>by
  rw[Ub,Ub,List.sum_cons,sU ps,str_len]
  show(sg q.2).length+_=(sg q.2++tx ps).length
  rw[Jf]
theorem uq (ps:List (Str×Str)):Txt.join "" (ps.map (·.2))=jU ps:=by
 refine fY ?_
 rw[lY]
 show(Txt.join "" (ps.map (·.2))).cps.toList=_
 rw[ie,List.flatMap_map]
 rfl
noncomputable def cA (a b k:Nat):Str:=⟨(Jj k a++[b]).toArray⟩
theorem du (a b k:Nat):sg (cA a b k)=Jj k a++[b]:=by unfold cA;show _=_;simp
theorem Ao {a b i j:Nat}(h:a≠b)(fg:i<j):RF (cA a b i) (cA a b j):=by
 have key:¬(Jj i a++[b]) <+: (Jj j a++[b]):=fun p=>by
  obtain⟨r,e⟩:=p
  have h1:((Jj i a++[b])++r)[i]? = some b:=by
   rw[J9,J0 (by simp),Ut,Nat.sub_self];rfl
  rw[e,Ua (by simp; (first|lia|omega)),U4,if_pos fg] at h1
  exact h (Option.some.inj h1)
 refine⟨by rw[du,du];exact key,fun p =>?_⟩
 rw[du,du] at p
 have:=p.length_le
 simp at this
 (first|lia|omega)
theorem nE {a b:Nat}(h:a≠b)(m:Nat):eG ((U3 m).map (cA a b)):=List.pairwise_map.mpr (List.pairwise_lt_range.imp fun fg=>Ao h fg)
theorem vj {a b k:Nat}(ha:a=48∨a=49)(hb:b=48∨b=49)(hk:k<=23):bu 24 (cA a b k):=by
 refine⟨fun ch hc =>?_,?_,?_⟩
 ·have hc:ch∈sg (cA a b k):=hc
  rw[du] at hc
  rcases Jq.mp hc with hc|hc
  ·rw[(List.mem_replicate.mp hc).2];exact ha
  ·rw[Jg.mp hc];exact hb
 all_goals
  rw[str_len]
  have e:(cA a b k).cps.toList=Jj k a++[b]:=du a b k
  rw[e,Jf,Ut]
  simp
 (first|lia|omega)
structure D4 (n:Nat)(cs:List Str):Prop where
 len:∀x∈cs,x.length=n
 bin:∀x∈cs,tP x
 nd:cs.Nodup
theorem D4.free {n:Nat}{cs:List Str}(h:D4 n cs):eG cs:=by
 refine Ur.mpr fun i j hi hj fg =>?_
 have ne:=Ur.mp (Uz.mp h.nd) i j hi hj fg
 have l1:=h.len _ (Jt hi)
 have l2:=h.len _ (Jt hj)
 rw[str_len] at l1 l2
 refine⟨fun p=>ne (fY (p.eq_of_length ?_)),fun p=>ne (fY (p.eq_of_length ?_)).symm⟩
 ·show(sg cs[i]).length=(sg cs[j]).length
  exact l1.trans l2.symm
 ·show(sg cs[j]).length=(sg cs[i]).length
  exact l2.trans l1.symm
theorem pB (a:Nat):∀(k:Nat) (acc:Array Nat),((Jj k #[a]).foldl (· ++ ·) acc).toList=acc.toList++Jj k a
 | 0,acc=>by simp
 | k+1,acc=>by
  rw[Yf,List.foldl_cons,pB a k,Yf]
  simp
theorem Ba (a k:Nat):sg (Txt.mul (⟨#[a]⟩:Str) (k:Int))=Jj k a:=by
 unfold Txt.mul
 split
 ·have:k=0:=by (first|lia|omega)
  subst this;rfl
 ·split
  ·rename_i h1 h2
   have:k=1:=by
    have h2:((k:Int)==1)=true:=by
     rcases Bool.or_eq_true_iff.mp h2 with h|h
     ·exact h
     ·exact absurd h (by simp[Str.length])
    have:=eq_of_beq h2
    (first|lia|omega)
   subst this;rfl
  ·show((Jj (k:Int).toNat #[a]).foldl (· ++ ·) #[]).toList=_
   rw[pB];simp
structure t7 (i:Nat)(x:Str):Prop where
 le:x.length<=8
 last:x.cps.toList.getLast? = some (97+i)
theorem t7.nodup {xs:List Str}(h:∀(i:Nat) x,xs[i]? = some x->t7 i x):xs.Nodup:=by
 refine Uz.mpr (Ur.mpr fun i j hi hj fg e =>?_)
 have h1:=(h i _ (Je hi)).last
 have h2:=(h j _ (Je hj)).last
 rw[e,h2] at h1
 have h1:=Option.some.inj h1
 (first|lia|omega)
theorem lZ:∀{xs:List Str},(∀x∈xs,∃ch:Nat,x=⟨#[ch]⟩)->(xs.flatMap (fun p=>p.cps.toList)).length=xs.length/\(xs.map (·.length)).sum=xs.length
 | [],_=>⟨rfl,rfl⟩
 | x::r,h=>by
  obtain⟨ch,rfl⟩:=h x Jk
  obtain⟨h1,h3⟩:=lZ fun y hy=>h y (Jh _ hy)
  refine⟨by simp at h1 ⊢; (first|lia|omega),?_⟩
  rw[Ub,List.sum_cons,h3]
  show 1+_=_
  simp; (first|lia|omega)
section
variable {P:Program}{w:World}{K:Ja}{mg:Str->Option Value}{base:Heap}{f:Addr}{fd:FuncData}
theorem dJ:aM ["_law_state", "_law_many", "_law_letters", "_law_found", "_law_k"] ["_law_state", "_law_many"] (ay (top gz)):=⟨rfl,rfl,rfl,by decide +kernel,rfl,by decide +kernel,by decide +kernel⟩
end
noncomputable def Bn:Sp:=fun vs H Q _=>zT fun(b c:Addr) (t many most:Int)=>vs=[.ref b,.int many,.int most]/\Bx H b c t/\0<=t/\t<900000/\1<=many/\many<=8/\1<=most/\most<=8 /\
 ∀(cs:List Str) (l:Addr) (H':Hp) (t':Int),cs≠[]->(cs.length:Int)<=many->eG cs->(∀x∈cs,bu most.toNat x)->Step b c H H' t t' 40->H l=none->H' l=some (.lst (cs.map V.str))->Q (.ref l) H'
theorem CG {n:Nat}(h:1<=n):bu n s0:=⟨fun ch hc =>.inl (by have:ch∈[48]:=hc;simpa using this),by decide +kernel,h⟩
theorem Ce {n:Nat}(h:1<=n):bu n s1:=⟨fun ch hc =>.inr (by have:ch∈[49]:=hc;simpa using this),by decide +kernel,h⟩
theorem bu.Mf {n:Nat}{x:Str}(h:bu n x)(hl:x.length<n):bu n (x++s0):=by
 have e:s0.length=1:=by decide +kernel
 exact⟨h.bin.app (CG (n:=1) (by decide)).bin,by rw[dP]; (first|lia|omega),by rw[dP]; (first|lia|omega)⟩
theorem bu.Mp {n:Nat}{x:Str}(h:bu n x)(hl:x.length<n):bu n (x++s1):=by
 have e:s1.length=1:=by decide +kernel
 exact⟨h.bin.app (Ce (n:=1) (by decide)).bin,by rw[dP]; (first|lia|omega),by rw[dP]; (first|lia|omega)⟩
theorem wG (xs:List Str)(k:Nat):(xs.map V.str).eraseIdx k=(xs.eraseIdx k).map V.str:=by
 rw[Yl,Yl,Jl,List.map_take,List.map_drop]
theorem oZ {cs:List Str}(h:∀x∈cs,tP x):SeqAt.shaped (.list (cs.map PyData.str))=true:=(Sh.list (n:=0) fun d hd=>by
   refine ae.el (Um.mp hd) _ ?_
   rintro x hx rfl
   exact Sh.str (fI fun ch hc=>by rcases h x hx ch hc with e|e<;>(first|lia|omega))).shaped (by decide)
theorem om:SeqAt.shaped (.list [])=true:=(Sh.list (n:=0) fun d hd=>by simp at hd).shaped (by decide)
section
variable {P:Program}{w:World}{K:Ja}{mg:Str->Option Value}{base:Heap}{f:Addr}{fd:FuncData}
noncomputable abbrev Ob (b c:Addr)(H:Hp)(t many most mo:Int)(k:Nat)(σ:L2.St)(H':Hp):Prop:=Br fun(cs:List Str) (l:Addr) (t':Int) (x5 x6 x7:Option V) =>σ=[some (.ref b),some (.int many),some (.int most),some (.ref l),some (.int mo),x5,x6,x7,none]/\1<=cs.length/\(cs.length:Int)<=many+mo+1/\eG cs/\(∀x∈cs,bu most.toNat x)/\Step b c H H' t t' k/\H l=none/\l≠b/\l≠c/\H' l=some (.lst (cs.map V.str))
theorem cb:aM ["_law_state", "_law_many", "_law_most", "_law_leaves", "_law_more", "_law_turn", "_law_some", "_law_leaf", "_law_found"] ["_law_state", "_law_many", "_law_most"] (ay (top ip)):=⟨rfl,rfl,rfl,by decide +kernel,rfl,by decide +kernel,by decide +kernel⟩
theorem A6 (F:cX K "_law_free" "_law_free" (top ip) f fd)(T:Nm mg)(ax:Fn P w K mg base 1 "_law_take" ["_law_state", "_law_many"] kL):bA P w K mg base fQ 2 f fd ["_law_state", "_law_many", "_law_most"] Bn:=by
 refine F.ok cb (fun vs H Q E h =>?_) (fun di A outer s H vs Q E hr h =>?_)
 ·obtain⟨b,c,t,many,most,rfl,_⟩:=h
  rfl
 unfold Bn at h
 refine ae.el h _ ?_
 clear h
 rintro b c t many most rfl bx t0 t1 m0 m1 o0 o1 q
 have hU:=hr.units
 have z1:sizeLine>=10000000:=by decide
 refine⟨_,(ah (aE (i:=3) cb.nd rfl (Or.inl rfl) (dg (aa bI (aa bI ag))))
  (ah (aE (i:=4) cb.nd rfl (Or.inl rfl) (aJ (ax.mono (by first|decide|exact Jc _|(first|lia|omega))) hr rfl (aa (pv 0) (aa aj ag))))
  (ah (gh PassesOwn.never rfl (cG rfl T.n_range (aa (pv 1) ag)) (ai (i:=5) cb.nd rfl (Or.inl rfl)) (ah (bJ (i:=6) cb.nd rfl (Or.inl rfl) rfl (aO (Nc:=["_law_leaf"]) (Fc:=["_law_most"]) (js:=[2])) (iE K (pv 3)) (aA (i:=0) (n:=1) (by decide)) (fun _ _ _ _ _=>(ai (i:=0) (show(["_law_leaf", "_law_most"]:List Str).Nodup by decide +kernel) rfl (Or.inl rfl))) (fun _ _ _ _ _=>(eg (aP iK (av (dA K) rfl T.n_len (by rfl) (aa (pv 0) ag)) (pv 1) (aY _)))) (fun _ _ _ _ _=>(pv 0)))
  (ak (cB (PW.pt (sM (aP (yk K hU) (pv 6) (dg ag) (aY _)) (nL (aP iK (av (dA K) rfl T.n_len (by rfl) (aa (pv 3) ag)) (aF ck (pv 1) (pv 4)) (aY _))))) (ah (aE (i:=7) cb.nd rfl (Or.inl rfl) (bt (gP K) (pv 6) (aJ (ax.mono (by first|decide|exact Jc _|(first|lia|omega))) hr rfl (aa (pv 0) (aa (av (dA K) rfl T.n_len (by rfl) (aa (pv 6) ag)) ag))) (fun _ _=>rfl)))
  (ah (d7 (si K PySem.F.plainAttrs_list PySem.F.slot_list_remove PySem.F.type_list_remove Bg (pv 3) (aa (pv 7) ag)))
  (ak (aE (i:=3) cb.nd rfl (Or.inl rfl) (aF ck (pv 3) (dg (aa (aF ck (pv 7) bI) (aa (aF ck (pv 7) bI) ag)))))))) bh))))
  (ah (aE (i:=8) cb.nd rfl (Or.inl rfl) (dg ag))
  (ah (lR PassesOwn.never (PW.pt (sM (aP (yk K hU) (pv 3) (dg ag) (aY _)) (nL (aP iK (av (dA K) rfl T.n_len (by rfl) (aa (pv 8) ag)) (pv 1) (aY _))))) (ak (d7 (si K PySem.F.plainAttrs_list PySem.F.slot_list_append PySem.F.type_list_append gQ (pv 8) (aa (si K PySem.F.plainAttrs_list PySem.F.slot_list_pop PySem.F.type_list_pop Ed (pv 3) (aa (aJ (ax.mono (by first|decide|exact Jc _|(first|lia|omega))) hr rfl (aa (pv 0) (aa (av (dA K) rfl T.n_len (by rfl) (aa (pv 3) ag)) ag))) ag)) ag)))))
  (ak (aI (pv 8)))))))),?_⟩
 refine⟨by show 2<=sizeLine;decide,fun l1 H1 n1=>gn ?_⟩
 have N3:=(bx.aN n1.nn).1
 have NI:=(bx.aN n1.nn).2
 have dy:=(Step.refl bx).cH n1
 refine⟨_,rfl,b,c,t,3,rfl,dy.bx,by first|lia|omega,by first|lia|omega,by decide,by decide,fun mo H2 mo0 mo1 aW=>gn ?_⟩
 have Fp:=aW.old n1.at N3 NI
 have aW:=dy.trans aW
 dsimp only
 refine dU (t:=vE _ _ _) (Ob b c H t many most mo 9) (fun Nx nx =>?_) ?_
 ·refine⟨_,rfl,_,rfl,by first|lia|omega,by first|lia|omega,?_⟩
  refine jK (lo:=0) (n:=many.toNat) (fun i=>Ob b c H t many most mo (1+i)) ⟨[s0,s1],l1,_,_,_,_,rfl,by decide,by show(2:Int)<=many+mo+1; (first|lia|omega),Hy,?_,aW.more (by first|lia|omega),n1.nn,N3,NI,Fp⟩ ?_ ?_
  ·intro x hx
   simp at hx
   rcases hx with rfl|rfl
   ·exact CG (by first|lia|omega)
   ·exact Ce (by first|lia|omega)
  ·intro i σ H3 hi hz_
   refine ae.el hz_ _ ?_
   clear hz_
   rintro cs l t3 x5 x6 x7 rfl hc1 hcm fr ok cp hl lb lc hl3
   have Oe:=cp.ub
   have yl:=cp.le
   have hlen:(cs.map V.str).length=cs.length:=Jb _
   have G0:∀{k:Nat} (hk:k<cs.length),(cs.map V.str)[k]? = some (.str cs[k]):=fun hk=>by rw[Jm,Je hk];rfl
   dsimp only
   refine bG (te:=dz _ _ _ _ _ _) (fun v H'=>cj fun(ss:List Str) (p:Addr)=>v = .ref p/\cV H3 p (.lst (ss.map V.str)) H'/\ss.length<=cs.length/\∀x∈ss,x∈cs/\(x.length:Int)<most) (fun Qn qn =>?_) ?_
   ·refine⟨_,rfl,l,rfl,⟨_,aG.of hl3⟩,?_⟩
    refine cY (N:=cs.length) (fun k ys H'=>H'=H3/\∃ss:List Str,ys=ss.map V.str/\ss.length<=k/\∀x∈ss,x∈cs/\(x.length:Int)<most) ⟨rfl,[],rfl,Jc _,(fun _ h=>nomatch h)⟩ ?_ ?_
    ·intro k ys H4 Ny hk hz_ ny
     refine ae.el hz_ _ ?_
     clear hz_
     rintro rfl ss rfl hss hs
     refine⟨⟨_,_,aG.of hl3,G0 hk⟩,by rw[Jb]; (first|lia|omega),?_⟩
     rintro x H5 ⟨rfl,hy⟩
     have e:=hy _ (aG.of hl3)
     rw[G0 hk] at e;cases e
     have hle:=(ok _ (Jt hk)).le
     refine gn ⟨_,rfl,_,_,rfl,⟨sizeOk (by first|lia|omega),rfl⟩,_,rfl,_,_,rfl,rfl,_,rfl,gM (fun e =>?_) (fun e=>ny _ _ ⟨rfl,ss,rfl,by first|lia|omega,hs⟩)⟩
     have e:=of_decide_eq_true e
     refine⟨_,rfl,ny _ _ ⟨rfl,ss++[cs[k]],by rw[Jl];rfl,by rw[Jf];show _+1<=_; (first|lia|omega),fun x hx =>?_⟩⟩
     rcases Jq.mp hx with hx|hx
     ·exact hs x hx
     ·rw[Jg.mp hx];exact⟨Jt hk,e⟩
    ·intro ys H4 hz_
     refine ae.el hz_ _ ?_
     clear hz_
     rintro rfl ss rfl hss hs
     exact⟨⟨_,aG.of hl3,by first|lia|omega⟩,fun p H5 n5=>qn _ _ ⟨ss,p,rfl,n5,hss,hs⟩⟩
   intro v H4 hz_
   refine ae.el hz_ _ ?_
   clear hz_
   rintro ss p rfl n4 hss hs
   refine gn ?_
   have BV:=n4.same _ _ hl3
   have dG:=cp.cH n4
   have pb:=(cp.bx.aN n4.nn).1
   have pc:=(cp.bx.aN n4.nn).2
   have De:∀x∈ss,tP x:=fun x hx=>(ok x (hs x hx).1).bin
   refine⟨_,rfl,by show 0<=sizeLine;decide,fun p5 H5 n5 =>.inr ⟨_,_,Den.list (aG.of (n5.same _ _ n4.at)) (Den.strs _),Den.list (aG.of n5.at) (by unfold az;rfl),oZ De,om,_,rfl,?_⟩⟩
   rw[mN]
   have wN:=n5.same _ _ BV
   have Bm:=n5.same _ _ n4.at
   have cC:=dG.cH n5
   by_cases hss0:ss=[]
   ·have e:(!ss.isEmpty)=false:=by rw[hss0];rfl
    rw[e]
    exact cg (cg ⟨cs,l,_,_,_,_,rfl,hc1,hcm,fr,ok,cC.more (by first|lia|omega),hl,lb,lc,wN⟩)
   have e:(!ss.isEmpty)=true:=by cases ss with|nil=>exact absurd rfl hss0|cons _ _=>rfl
   rw[e]
   have BS:0<ss.length:=List.length_pos_iff.mpr hss0
   refine bD ⟨_,rfl,_,_,rfl,.inl ⟨_,aG.of wN,rfl⟩,_,rfl,_,rfl,.inl ⟨_,_,rfl,rfl,_,_,rfl,rfl,_,rfl,gM (fun e2 =>?_) (fun e2=>⟨cs,l,_,_,_,_,rfl,hc1,hcm,fr,ok,cC.more (by first|lia|omega),hl,lb,lc,wN⟩)⟩⟩
   have e2:(cs.length:Int)<many+mo:=by have:=of_decide_eq_true e2;rw[hlen] at this;exact this
   have OS:(ss.map V.str).length=ss.length:=Jb _
   refine⟨_,rfl,_,rfl,_,rfl,_,_,rfl,.inl ⟨_,aG.of Bm,rfl⟩,b,c,_,_,rfl,cC.bx,by first|lia|omega,by first|lia|omega,by first|lia|omega,by first|lia|omega,fun r H6 r0 r1 fh =>?_⟩
   have zg:r.toNat<ss.length:=by (first|lia|omega)
   have zU:=fh.old Bm pb pc
   have zP:=fh.old wN lb lc
   have fh:=cC.trans fh
   have Og:o8 (ss.map V.str) r=some (.str ss[r.toNat]):=fE r0 (by rw[Jm,Je zg];rfl)
   have d4:=(hs _ (Jt zg)).1
   have cF:=(hs _ (Jt zg)).2
   generalize ss[r.toNat]=x at Og d4 cF
   refine .inl ⟨p,_,_,_,rfl,rfl,aG.of zU,Og,gn ?_⟩
   dsimp only
   refine⟨_,rfl,.inl ⟨rfl,_,aG.of zP⟩,_,rfl,l,cs,x,rfl,rfl,zP,d4,fun H7 c7 =>?_⟩
   have mx:=fh.B7 c7 hl lb lc
   have e0:s0.length=1:=by decide +kernel
   have e1:s1.length=1:=by decide +kernel
   refine⟨_,rfl,_,rfl,.inr (.inl ⟨_,_,rfl,rfl,sizeOk (by rw[e0]; (first|lia|omega)),_,rfl,.inr (.inl ⟨_,_,rfl,rfl,sizeOk (by rw[e1]; (first|lia|omega)),by show 2<=sizeLine;decide,fun p8 H8 n8 =>?_⟩)⟩)⟩
   have IL:(cs.erase x).length=cs.length-1:=List.length_erase_of_mem d4
   refine .inr (.inr ⟨l,p8,_,_,rfl,rfl,n8.same _ _ c7.at,n8.at,by rw[Jb,IL];exact sizeOk (by show _+2<=_; (first|lia|omega)),fun p9 H9 n9=>gn ?_⟩)
   have o7:=mx.cH n8
   have PN:=(o7.bx.aN n9.nn).1
   have Pp:=(o7.bx.aN n9.nn).2
   have NM:=ok x d4
   refine⟨cs.erase x++[x++s0,x++s1],p9,_,_,_,_,rfl,by rw[Jf];show _<=_+2; (first|lia|omega),?_,?_,fun y hy =>?_,(o7.cH n9).more (by first|lia|omega),o7.fresh bx n9.nn,PN,Pp,?_⟩
   ·rw[Jf,IL]
    show(((cs.length-1+2:Nat)):Int)<=_
    (first|lia|omega)
   ·have h2:eG (cs.erase x++x::[]):=fr.perm ((List.perm_cons_erase d4).trans (List.perm_append_singleton x _).symm)
    have h3:=eG.split h2
    rwa[U5] at h3
   ·rcases Jq.mp hy with hy|hy
    ·exact ok y (List.mem_of_mem_erase hy)
    ·simp at hy
     rcases hy with rfl|rfl
     ·exact NM.Mf (by first|lia|omega)
     ·exact NM.Mp (by first|lia|omega)
   ·rw[n9.at,Jl];rfl
  ·intro σ H3 hz_
   refine ae.el hz_ _ ?_
   clear hz_
   rintro cs l t3 x5 x6 x7 rfl hc1 hcm fr ok cp hl lb lc hl3
   exact nx _ _ ⟨cs,l,t3,x5,x6,x7,rfl,hc1,hcm,fr,ok,cp.more (by first|lia|omega),hl,lb,lc,hl3⟩
 intro σ H3 hz_
 refine ae.el hz_ _ ?_
 clear hz_
 rintro cs l t3 x5 x6 x7 rfl hc1 hcm fr ok cp hl lb lc hl3
 have Oe:=cp.ub
 have yl:=cp.le
 refine⟨by show 0<=sizeLine;decide,fun fp H4 n4=>gn ?_⟩
 dsimp only
 have hf:H fp=none:=cp.fresh bx n4.nn
 have fb:=(cp.bx.aN n4.nn).1
 have fc:=(cp.bx.aN n4.nn).2
 have lf:l≠fp:=fun z=>by have:=n4.nn;rw[<-z,hl3] at this;cases this
 refine dU (t:=kX _ _) (fun σ H'=>iU fun(fs:List Str) (t':Int) (x3:Option V) =>σ=[some (.ref b),some (.int many),some (.int most),x3,some (.int mo),x5,x6,x7,some (.ref fp)]/\fs≠[]/\(fs.length:Int)<=many/\eG fs/\(∀x∈fs,bu most.toNat x)/\Step b c H H' t t' 40/\H' fp=some (.lst (fs.map V.str))) (fun Nx nx =>?_) ?_
 ·refine nR (fun m σ H'=>iU fun(fs ds:List Str) (t':Int)=>m=ds.length /\ σ=[some (.ref b),some (.int many),some (.int most),some (.ref l),some (.int mo),x5,x6,x7,some (.ref fp)]/\(fs++ds).Perm cs/\(fs.length:Int)<=many/\Step b c H H' t t' (9+fs.length)/\H' fp=some (.lst (fs.map V.str))/\H' l=some (.lst (ds.map V.str))) ⟨_,[],cs,t3,rfl,rfl,U7.refl _,by show(0:Int)<=_; (first|lia|omega),(cp.cH n4).more (by show(9:Int)<=9+0;decide),n4.at,n4.same _ _ hl3⟩ ?_
  intro m σ H5 hz_
  refine ae.el hz_ _ ?_
  clear hz_
  rintro fs ds t5 rfl rfl pm hfl cC hf5 wN
  have Mx:=cC.ub
  have MK:=cC.le
  have Ra:fs.length+ds.length=cs.length:=by rw[<-Jf];exact pm.length_eq
  have Qi:∀x∈ds,bu most.toNat x:=fun x hx=>ok x (pm.subset (Jr _ hx))
  have Ni:∀x∈fs,bu most.toNat x:=fun x hx=>ok x (pm.subset (Ym _ hx))
  have rH:eG fs:=(fr.perm pm.symm).sub (List.sublist_append_left _ _)
  have Q2:(ds.map V.str).length=ds.length:=Jb _
  have DZ:(fs.map V.str).length=fs.length:=Jb _
  have fin:∀{H':Hp},(ds=[]∨¬(fs.length:Int)<many)->Step b c H H' t t5 (9+fs.length)->H' fp=some (.lst (fs.map V.str))->Nx [some (.ref b),some (.int many),some (.int most),some (.ref l),some (.int mo),x5,x6,x7,some (.ref fp)] H':=fun{H'} hend aD hf'=>by
   refine nx _ _ ⟨fs,t5,_,rfl,fun z =>?_,hfl,rH,Ni,aD.more (by first|lia|omega),hf'⟩
   have hz:fs.length=0:=by rw[z];rfl
   rcases hend with h|h
   ·have:ds.length=0:=by rw[h];rfl
    (first|lia|omega)
   ·(first|lia|omega)
  refine⟨_,rfl,by show 0<=sizeLine;decide,fun p6 H6 n6 =>.inr ⟨_,_,Den.list (aG.of (n6.same _ _ wN)) (Den.strs _),Den.list (aG.of n6.at) (by unfold az;rfl),oZ (fun x hx=>(Qi x hx).bin),om,_,rfl,?_⟩⟩
  rw[mN]
  have zP:=n6.same _ _ wN
  have GR:=n6.same _ _ hf5
  have fh:=cC.cH n6
  by_cases hds:ds=[]
  ·have e:(!ds.isEmpty)=false:=by rw[hds];rfl
   rw[e]
   exact cg (cg (fin (.inl hds) fh GR))
  have e:(!ds.isEmpty)=true:=by cases ds with|nil=>exact absurd rfl hds|cons _ _=>rfl
  rw[e]
  have QJ:0<ds.length:=List.length_pos_iff.mpr hds
  refine bD ⟨_,rfl,_,_,rfl,.inl ⟨_,aG.of GR,rfl⟩,_,rfl,_,_,rfl,rfl,_,rfl,gM (fun e2 =>?_) (fun e2=>fin (.inr fun z=>e2 (decide_eq_true (by rw[DZ];exact z))) fh GR)⟩
  have e2:(fs.length:Int)<many:=by have:=of_decide_eq_true e2;rw[DZ] at this;exact this
  refine⟨fun σ' H'=>∃m',m'<ds.length/\_,fun _ _ h=>h,?_⟩
  refine⟨_,rfl,.inl ⟨rfl,_,aG.of GR⟩,_,rfl,.inl ⟨rfl,_,aG.of zP⟩,_,rfl,_,rfl,_,_,rfl,.inl ⟨_,aG.of zP,rfl⟩,b,c,t5,_,rfl,fh.bx,by first|lia|omega,by first|lia|omega,by first|lia|omega,by first|lia|omega,fun a H7 a0 a1 mx =>?_⟩
  have P8:=mx.old zP lb lc
  have Pe:=mx.old GR fb fc
  have mx:=fh.trans mx
  obtain⟨x,hx⟩:∃x,ds[a.toNat]? = some x:=⟨_,Je (by first|lia|omega)⟩
  refine⟨l,_,a,_,rfl,rfl,P8,a0,by first|lia|omega,by rw[Jm,hx];rfl,fun H8 c8 =>?_⟩
  have PQ:H8 fp=some (.lst (fs.map V.str)):=by rw[c8.ne (Ne.symm lf)];exact Pe
  have o7:=mx.B7 c8 hl lb lc
  refine⟨fp,_,_,rfl,rfl,PQ,by rw[DZ]; (first|lia|omega),fun H9 c9 =>?_⟩
  refine⟨(ds.eraseIdx a.toNat).length,by rw[List.length_eraseIdx_of_lt (by first|lia|omega)]; (first|lia|omega),fs++[x],ds.eraseIdx a.toNat,_,rfl,rfl,?_,by rw[Jf];show((fs.length+1:Nat):Int)<=_; (first|lia|omega),(o7.B7 c9 hf fb fc).more (by rw[Jf];show _<=(9:Int)+((fs.length+1:Nat):Int); (first|lia|omega)),by rw[c9.at,Jl];rfl,by rw[c9.ne lf,c8.at,wG]⟩
  refine U7.trans ?_ pm
  rw[J9]
  exact U7.append_left fs (wW hx).symm
 intro σ H5 hz_
 refine ae.el hz_ _ ?_
 clear hz_
 rintro fs t5 x3 rfl jZ hfl rH Ni cC hf5
 exact⟨_,rfl,q fs fp H5 t5 jZ hfl rH Ni cC hf hf5⟩
end
noncomputable def BN:Sp:=fun vs H Q _=>pd fun(b c:Addr) (t many:Int)=>vs=[.ref b,.int many]/\Bx H b c t/\0<=t/\t<1000000/\0<=many/\many<=26 /\
 ∀(xs:List Str) (l:Addr) (H':Hp) (t':Int),(xs.length:Int)=many->xs.Nodup->(∀x∈xs,x.length<=8/\∀ch∈x.cps.toList,ch<=122)->Step b c H H' t t' 300->H l=none->H' l=some (.lst (xs.map V.str))->Q (.ref l) H'
structure Lb (i:Nat)(x:Str):Prop extends t7 i x where
 sm:∀ch∈x.cps.toList,ch<=122
section
variable {P:Program}{w:World}{K:Ja}{mg:Str->Option Value}{base:Heap}{f:Addr}{fd:FuncData}
theorem BO (F:cX K "_law_names" "_law_names" (top gz) f fd)(T:Nm mg)(ax:Fn P w K mg base 1 "_law_take" ["_law_state", "_law_many"] kL):bA P w K mg base fQ 2 f fd ["_law_state", "_law_many"] BN:=by
 refine F.ok dJ (fun vs H Q E h =>?_) (fun di A outer s H vs Q E hr h =>?_)
 ·obtain⟨b,c,t,many,rfl,_⟩:=h
  rfl
 unfold BN at h
 refine ae.el h _ ?_
 clear h
 rintro b c t many rfl bx t0 t1 m0 m1 q
 refine⟨_,(ah (aE (i:=2) dJ.nd rfl (Or.inr rfl) bI)
  (ah (aE (i:=3) dJ.nd rfl (Or.inl rfl) (dg ag))
  (ah (gh PassesOwn.never rfl (cG rfl T.n_range (aa (pv 1) ag)) (ai (i:=4) dJ.nd rfl (Or.inl rfl)) (ak (d7 (si K PySem.F.plainAttrs_list PySem.F.slot_list_append PySem.F.type_list_append gQ (pv 3) (aa (aF ck (si K PySem.F.plainAttrs_str PySem.F.slot_str_join PySem.F.type_str_join (yt K) bI (aa (bO rfl (aO (Nc:=["_law_j"]) (Fc:=["_law_letters", "_law_state"]) (js:=[2,0])) (cG rfl T.n_range (aa (aJ (ax.mono (by first|decide|exact Jc _|(first|lia|omega))) hr rfl (aa (pv 0) (aa aj ag))) ag)) (aA (i:=0) (n:=1) (by decide)) (fun _ _ _ _ _=>(ai (i:=0) (show(["_law_j", "_law_letters", "_law_state"]:List Str).Nodup by decide +kernel) rfl (Or.inl rfl))) (fun _ _ _ _ _=>bj) (fun _ _ _ _ _=>(bt (gP K) (pv 1) (aJ (ax.mono (by first|decide|exact Jc _|(first|lia|omega))) hr rfl (aa (pv 2) (aa aj ag))) (fun _ _=>rfl)))) ag)) (bt (gP K) (pv 2) (pv 4) (fun _ _=>rfl))) ag)))))
  (ak (aI (pv 3)))))),?_⟩
 refine gn ⟨by show 0<=sizeLine;decide,fun l H2 n2=>gn ?_⟩
 have hl:H l=none:=n2.nn
 obtain⟨lb,lc⟩:=bx.aN n2.nn
 have aW:Step b c H H2 t t 0:=(Step.refl bx).cH n2
 refine⟨_,rfl,many,rfl,by first|lia|omega,by first|lia|omega,?_⟩
 refine jK (lo:=0) (n:=many.toNat) (fun i σ H'=>iU fun(xs:List Str) (t':Int) (x4:Option V) =>σ=[some (.ref b),some (.int many),some (.str Lc),some (.ref l),x4]/\xs.length=i /\
  (∀(j:Nat) x,xs[j]? = some x->Lb j x)/\Step b c H H' t t' (10*i)/\H' l=some (.lst (xs.map V.str))) ⟨[],t,_,rfl,rfl,by simp,by simpa using aW,n2.at⟩ ?_ ?_
 ·intro i σ H3 hi hz_
  refine ae.el hz_ _ ?_
  clear hz_
  rintro xs t3 x4 rfl Dl hx cp hl3
  have Oe:=cp.ub
  have yl:=cp.le
  refine⟨_,rfl,.inl ⟨rfl,_,aG.of hl3⟩,?_⟩
  refine⟨rfl,_,rfl,b,c,t3,8,rfl,cp.bx,by first|lia|omega,by first|lia|omega,by decide,by decide,fun m H4 m0 m1 dG =>?_⟩
  have BV:H4 l=some (.lst (xs.map V.str)):=dG.old hl3 lb lc
  have dG:=(cp.trans dG)
  refine⟨m,rfl,by first|lia|omega,by first|lia|omega,?_⟩
  refine cw (N:=m.toNat) (fun k ys H'=>cj fun(zs:List Str) (t':Int)=>ys=zs.map V.str/\zs.length=k/\(∀x∈zs,∃ch:Nat,x=⟨#[ch]⟩/\ch<=122)/\Step b c H H' t t' (10*i+1+k)/\H' l=some (.lst (xs.map V.str))) ⟨[],_,rfl,rfl,(fun _ h=>nomatch h),dG.more (by first|lia|omega),BV⟩ ?_ ?_
  ·intro k ys H5 Nx hk hz_ nx
   refine ae.el hz_ _ ?_
   clear hz_
   rintro zs t5 rfl JN hz cC wN
   have Mx:=cC.ub
   have MK:=cC.le
   refine⟨hk,by rw[Jb,JN];exact Ju (show k<1000 by first|lia|omega) (by decide),?_⟩
   rintro x H6 ⟨rfl,rfl⟩
   refine⟨_,rfl,_,rfl,b,c,t5,26,rfl,cC.bx,by first|lia|omega,by first|lia|omega,by decide,by decide,fun d H7 d0 d1 mx =>?_⟩
   refine .inr (.inr ⟨_,d,_,rfl,rfl,by decide +kernel,yW d0 d1,nx _ _ ⟨zs++[⟨#[97+d.toNat]⟩],_,by rw[Jl];rfl,by rw[Jf,JN];rfl,fun x hx =>?_,(cC.trans mx).more (by first|lia|omega),mx.old wN lb lc⟩⟩)
   rcases Jq.mp hx with h|h
   ·exact hz x h
   ·exact⟨_,Jg.mp h,by first|lia|omega⟩
  ·intro ys H5 hz_
   refine ae.el hz_ _ ?_
   clear hz_
   rintro zs t5 rfl JN hz cC wN
   refine⟨Jc _,fun p hp=>⟨_,p,zs,rfl,rfl,aG.of aH,?_,?_⟩⟩
   ·rw[(lZ fun x hx=>by obtain⟨k,e,_⟩:=hz x hx;exact⟨k,e⟩).2]
    show zs.length+zs.length*0<=16777216
    (first|lia|omega)
   ·have hn:cV H5 p (.lst (zs.map V.str)) (upd H5 p (.lst (zs.map V.str))):=⟨hp,rfl⟩
    generalize upd H5 p (.lst (zs.map V.str))=H6 at hn ⊢
    have zP:=hn.same _ _ wN
    have fh:=cC.cH hn
    have NT:(Txt.join "" zs).length=zs.length:=by
     rw[str_len]
     rw[ie]
     exact(lZ fun x hx=>by obtain⟨k,e,_⟩:=hz x hx;exact⟨k,e⟩).1
    have h0:0<=(0:Int)+i:=by (first|lia|omega)
    have h1:(0:Int)+i<26:=by (first|lia|omega)
    refine⟨_,rfl,_,rfl,.inr (.inr ⟨_,_,_,rfl,rfl,by decide +kernel,yW h0 h1,.inr (.inl ⟨_,_,rfl,rfl,by rw[len_one,NT];exact sizeOk (by first|lia|omega),l,_,_,rfl,rfl,zP,?_,fun H7 c7 =>?_⟩)⟩)⟩
    ·rw[Jb,Dl];exact Ju (show i<1000 by first|lia|omega) (by decide)
    ·refine⟨xs++[Txt.join "" zs++⟨#[97+((0:Int)+i).toNat]⟩],t5,_,rfl,by rw[Jf,Dl];rfl,fun j y hy =>?_,?_,?_⟩
     ·by_cases hj:j<xs.length
      ·rw[Ua hj] at hy
       exact hx j y hy
      ·rw[J0 (by first|lia|omega)] at hy
       have e:j-xs.length=0:=by
        have:=(Js.mp hy).1
        simp at this
        (first|lia|omega)
       rw[e] at hy
       cases hy
       have ej:j=i:=by (first|lia|omega)
       subst ej
       refine⟨⟨by rw[dP,len_one]; (first|lia|omega),?_⟩,fun ch hc =>?_⟩
       rotate_left
       ·rw[bw] at hc
        rcases Jq.mp hc with hc|hc
        ·rw[ie] at hc
         refine ae.el (List.mem_flatMap.mp hc) _ ?_
         rintro u hu hc
         refine ae.el (hz u hu) _ ?_
         rintro k rfl hk
         have:ch∈[k]:=hc
         rw[Jg.mp this];exact hk
        ·have:ch∈[97+((0:Int)+j).toNat]:=hc
         rw[Jg.mp this]; (first|lia|omega)
       rw[bw,List.getLast?_append]
       have:((0:Int)+j).toNat=j:=by (first|lia|omega)
       rw[this]
       rfl
     ·exact(fh.B7 c7 hl lb lc).more (by first|lia|omega)
     ·rw[c7.at,Jl]
      rfl
 ·intro σ H3 hz_
  refine ae.el hz_ _ ?_
  clear hz_
  rintro xs t3 x4 rfl Dl hx cp hl3
  exact⟨_,rfl,q xs l H3 t3 (by first|lia|omega) (t7.nodup fun i x h=>(hx i x h).tot7) (fun x hx'=>by obtain⟨j,hj⟩:=U8.mp hx';exact⟨(hx j x hj).le,(hx j x hj).sm⟩) (cp.more (by first|lia|omega)) hl hl3⟩
end
open PyProof.Rows
structure bB (bk:List (Str×Str)):Prop where
 le:bk.length<=16
 nm:(bk.map (·.1)).Nodup
 cd:∀q∈bk,bu 12 q.2
 nl:∀q∈bk,q.1.length<=8
 sm:∀q∈bk,∀ch∈q.1.cps.toList,ch<=122
theorem gj {x:Str}(p:Nat):sg (Txt.slice x (some (p:Int)) none)=(sg x).drop p:=by
 have key:∀p:Nat,p<=x.length->sg (Txt.slice x (some (p:Int)) none)=(sg x).drop p:=fun p h=>by
  rw[PyProof.Rows.slice_from_eq (b:=(x.length:Int)) (by first|lia|omega) (by first|lia|omega) rfl]
  show(((sg x).drop (p:Int).toNat).take ((x.length:Int)-p).toNat).toArray.toList=_
  rw[List.toList_toArray,Uw]
  ·rfl
  ·rw[Ud,<-str_len]; (first|lia|omega)
 by_cases h:p<=x.length
 ·exact key p h
 ·have e:Txt.slice x (some (p:Int)) none=Txt.slice x (some ((x.length:Nat):Int)) none:=by
   unfold Txt.slice
   have:PySem.Builtin.Str.strSliceIndices (some (p:Int)) none 1 x.length=PySem.Builtin.Str.strSliceIndices (some ((x.length:Nat):Int)) none 1 x.length:=by
    unfold PySem.Builtin.Str.strSliceIndices
    dsimp only
    congr 1
    all_goals (first|lia|omega)
   rw[this]
  rw[e,key _ (Jc _),List.drop_of_length_le (Yj (str_len x).symm),List.drop_of_length_le (by have:=str_len x;show(sg x).length<=p;change x.length=(sg x).length at this; (first|lia|omega))]
theorem fF {α:Type}[DecidableEq α]:∀{l m:List α},l.Nodup->(∀x∈l,x∈m)->l.length<=m.length
 | [],_,_,_=>Us _
 | a::l,m,nd,h=>by
  obtain⟨na,nd'⟩:=Ye.mp nd
  have hm:=h a Jk
  have ih:=fF (l:=l) (m:=m.erase a) nd' fun x hx=>by
   have jZ:x≠a:=fun z=>na (z▸hx)
   exact(List.mem_erase_of_ne jZ).mpr (h x (Jh _ hx))
  rw[List.length_erase_of_mem hm] at ih
  have:0<m.length:=List.length_pos_of_mem hm
  rw[J8]
  (first|lia|omega)
noncomputable def K0 (B:List (Str×Str))(r:Str):Prop:=∃q∈B,sg r <:+ sg q.2
noncomputable def A7 (B:List (Str×Str)):List Str:=B.flatMap fun q=>(U3 (q.2.length+1)).map fun i=>⟨((sg q.2).drop i).toArray⟩
theorem K0.mem {B:List (Str×Str)}{r:Str}(h:K0 B r):r∈A7 B:=by
 obtain⟨q,hq,hs⟩:=h
 refine List.mem_flatMap.mpr ⟨q,hq,Um.mpr ⟨(sg q.2).length-(sg r).length,Wd.mpr ?_,?_⟩⟩
 ·have e:q.2.length=(sg q.2).length:=str_len q.2
  (first|lia|omega)
 ·refine fY ?_
  show((sg q.2).drop _).toArray.toList=_
  rw[List.toList_toArray]
  exact(List.suffix_iff_eq_drop.mp hs).symm
theorem yC {B:List (Str×Str)}(cd:∀q∈B,bu 12 q.2):(A7 B).length<=13*B.length:=by
 induction B with
 | nil=>exact Jc _
 | cons q B ih=>
  have h1:=ih fun x hx=>cd x (Jh _ hx)
  have h2:=(cd q Jk).le
  show(((U3 (q.2.length+1)).map _)++A7 B).length<=_
  rw[Jf,Jb,Yq,J8]
  (first|lia|omega)
theorem xi (x:Str×Str):tx [x]=sg x.2:=by unfold tx;simp
theorem xN {kvs:List (Key×V)}{k:Key}{v:V}(nd:(kvs.map (·.1)).Nodup)(h:(k,v)∈kvs):aZ kvs k=some v:=by
 induction kvs with
 | nil=>cases h
 | cons p r ih=>
  rw[Ub,Ye] at nd
  rcases Uc.mp h with rfl|h
  ·exact bW rfl
  ·rw[bK fun z=>nd.1 (by rw[z];exact Yh (f:=(·.1)) h)]
   exact ih nd.2 h
noncomputable def yX (x r:Str)(n:Nat):Prop:=∃a:Nat,1<=a/\a<n/\sg r=(sg x).drop a
noncomputable def hX (B:List (Str×Str))(r:Str):Prop:=∃q∈B,yX q.2 r (sg q.2).length
noncomputable def dB (r:Str):Key×V:=(.inr r,.bl true)
theorem nZ {ts:List Str}(r:Str):putK (ts.map dB) (.inr r) (.bl true)=(if r∈ts then ts else ts++[r]).map dB:=by
 by_cases h:r∈ts
 ·rw[if_pos h]
  unfold putK
  rw[if_pos (List.any_eq_true.mpr ⟨dB r,Yh h,decide_eq_true rfl⟩),Yx]
  refine List.map_congr_left fun z _ =>?_
  show(if (dB z).1 = .inr r then ((dB z).1,V.bl true) else dB z)=dB z
  split<;>rfl
 ·rw[if_neg h,gK _ (eR fun y hy e=>h ?_),Jl]
  ·rfl
  ·have e:(Sum.inr y:Key) = .inr r:=e
   rw[<-Sum.inr.inj e];exact hy
theorem uH {ts:List Str}{r:Str}(h:ts.Nodup):(if r∈ts then ts else ts++[r]).Nodup:=by
 by_cases hr:r∈ts
 ·rw[if_pos hr];exact h
 ·rw[if_neg hr];exact nN h hr
theorem kK {ts:List Str}{r x:Str}:x∈(if r∈ts then ts else ts++[r])↔x∈ts∨x=r:=by
 by_cases hr:r∈ts
 ·rw[if_pos hr]
  exact⟨.inl,fun h=>h.elim id fun e=>e▸hr⟩
 ·rw[if_neg hr,Jq,Jg]
theorem pN {ts:List Str}{r:Str}:(if r∈ts then ts else ts++[r]).length<=ts.length+1:=by
 split
 ·(first|lia|omega)
 ·rw[Jf];exact Jc _
noncomputable def DU (K:Ja):Sp:=fun vs H Q _=>cj fun(l:Addr) (B:List (Str×Str))=>vs=[.ref l]/\kc K H B l/\bB B /\
 ∀(ts:List Str) (p:Addr) (H':Hp),au H H'->H p=none->H' p=some (.lst (ts.map V.str))->ts.Nodup->ts.length<=200->(∀r,r∈ts↔hX B r)->Q (.ref p) H'
section
variable {P:Program}{w:World}{K:Ja}{mg:Str->Option Value}{base:Heap}{f:Addr}{fd:FuncData}
theorem og:aM ["book"] ["book"] (ay (top fV)):=⟨rfl,rfl,rfl,by decide +kernel,rfl,by decide +kernel,by decide +kernel⟩
theorem IJ (F:cX K "code_ends" "code_ends" (top fV) f fd)(T:Nm mg):bA P w K mg base fQ 1 f fd ["book"] (DU K):=by
 refine F.ok og (fun vs H Q E h =>?_) (fun di A outer s H vs Q E hr h =>?_)
 ·obtain⟨l,B,rfl,_⟩:=h
  rfl
 obtain⟨l,B,rfl,hB,gB,q⟩:=h
 have hle:=gB.le
 refine⟨_,(ak (aI (bX (Iq rfl) rfl T.n_list (by rfl) (aa (vT rfl (aO (Nc:=["name", "code", "at"]) (Fc:=[]) (js:=[])) (iE K (pv 0)) (dF (aK (aA (i:=0) (n:=3) (by decide)) (aK (aA (i:=1) (n:=3) (by decide)) cR aB aR) aB (aX aB aR))) (fun _ _ _ _ _=>(tupK K 2 rfl (ar (ai (i:=0) (show(["name", "code", "at"]:List Str).Nodup by decide +kernel) rfl (Or.inl rfl)) (ar (ai (i:=1) (show(["name", "code", "at"]:List Str).Nodup by decide +kernel) rfl (Or.inl rfl)) bp)))) (fun _ _ _ _ _=>(uW rfl T.n_range (aa aj (aa (av (dA K) rfl T.n_len (by rfl) (aa (pv 1) ag)) ag)))) (fun _ _ _ _ _=>(ai (i:=2) (show(["name", "code", "at"]:List Str).Nodup by decide +kernel) rfl (Or.inl rfl))) (fun _ _ _ _ _=>(bC (uR K) (pv 1) (bN (pv 2)) bQ)) (fun _ _ _ _ _=>eW)) ag)))),?_⟩
 obtain⟨vs,hl,hd⟩:=id hB
 have hlen:=ik hd
 refine⟨_,rfl,l,rfl,⟨_,hl⟩,fun D hD =>?_⟩
 refine⟨fun k m H'=>∃ts:List Str,m=B.length-k/\k<=B.length/\au H H'/\H' D=some (.dK (ts.map dB))/\ts.Nodup/\ts.length<=12*k/\∀r,r∈ts↔hX (B.take k) r,⟨_,[],rfl,Us _,cP hD _,aH,List.nodup_nil,Jc _,fun r=>⟨(fun h=>nomatch h),fun⟨q,hq,_⟩=>nomatch hq⟩⟩,?_⟩
 intro k m H1 hz_
 refine ae.el hz_ _ ?_
 clear hz_
 rintro ts rfl hk sm hD1 nd tl mem
 by_cases cF:k<B.length
 ·refine .inr ⟨?_,?_⟩
  ·refine ae.el (jO hd cF) _ ?_
   rintro tp e1 e2
   exact⟨_,_,sm.seq hl,e1⟩
  rintro x H2 ⟨rfl,hy⟩
  refine ae.el (jO hd cF) _ ?_
  rintro tp e1 e2
  have e:=hy _ (sm.seq hl)
  rw[e1] at e;cases e
  have hc:=(gB.cd _ (Jt cF)).le
  have BS:=(gB.cd _ (Jt cF)).pos
  have dH:=aL cF
  generalize B[k]=z at e2 hc BS dH
  have IU:z.2.length=(sg z.2).length:=str_len _
  refine⟨tp,_,rfl,sm.sG e2,rfl,_,_,rfl,_,_,rfl,rfl,?_⟩
  refine⟨rfl,?_⟩
  have old:∀{r:Str},hX (B.take (k+1)) r↔hX (B.take k) r∨yX z.2 r (sg z.2).length:=fun{r}=>by
   rw[dH]
   refine⟨fun⟨q,hq,h⟩=>?_,fun h =>?_⟩
   ·rcases Jq.mp hq with hq|hq
    ·exact .inl ⟨q,hq,h⟩
    ·rw[Jg.mp hq] at h;exact .inr h
   ·rcases h with ⟨q,hq,h⟩|h
    ·exact⟨q,Ym _ hq,h⟩
    ·exact⟨z,Jr _ (Jg.mpr rfl),h⟩
  refine⟨_,rfl,_,_,rfl,⟨sizeOk (by first|lia|omega),rfl⟩,1,(z.2.length:Nat),rfl,⟨by first|lia|omega,by first|lia|omega,by first|lia|omega,by first|lia|omega⟩,?_⟩
  refine⟨fun k2 m2 H'=>∃us:List Str,m2=(z.2.length-1)-k2/\k2<=z.2.length-1/\au H H'/\H' D=some (.dK (us.map dB))/\us.Nodup/\us.length<=12*k+k2/\∀r,r∈us↔hX (B.take k) r∨yX z.2 r (1+k2),⟨_,ts,rfl,Us _,sm,hD1,nd,tl,fun r=>(mem r).trans ⟨.inl,fun h=>h.elim id fun⟨a,a1,a2,_⟩=>absurd a2 (by first|lia|omega)⟩⟩,?_⟩
  intro k2 m2 H3 hz_
  refine ae.el hz_ _ ?_
  clear hz_
  rintro us rfl hk2 sm3 hD3 nd3 ul mem3
  by_cases h2:k2<z.2.length-1
  ·refine .inr ⟨by show k2<_; (first|lia|omega),?_⟩
   rintro y H4 ⟨rfl,rfl⟩
   refine⟨_,rfl,_,rfl,_,rfl,?_⟩
   dsimp only[dr]
   refine .inr ⟨z.2,rfl,sizeOk (by first|lia|omega),?_⟩
   have es:=gj (x:=z.2) (1+k2)
   have ei:((1:Int)+(k2:Int))=((1+k2:Nat):Int):=by (first|lia|omega)
   rw[ei]
   generalize Txt.slice z.2 (some ((1+k2:Nat):Int)) none=r at es
   refine⟨_,.inr r,hD3,rfl,?_,_,?_,_,rfl,h2,fun b o e =>?_,by rw[nZ];exact aH,uH nd3,?_,fun x =>?_⟩
   ·rw[Jb];exact Jx (show us.length<=1000 by first|lia|omega) (by decide)
   ·(first|lia|omega)
   ·rw[ao (aq e hD)];exact sm3 b o e
   ·have:=pN (ts:=us) (r:=r); (first|lia|omega)
   ·rw[kK,mem3]
    refine⟨fun h =>?_,fun h =>?_⟩
    ·rcases h with (h|⟨a,a1,a2,a3⟩)|h
     ·exact .inl h
     ·exact .inr ⟨a,a1,by first|lia|omega,a3⟩
     ·rw[h];exact .inr ⟨1+k2,by first|lia|omega,by first|lia|omega,es⟩
    ·rcases h with h|⟨a,a1,a2,a3⟩
     ·exact .inl (.inl h)
     ·by_cases ea:a=1+k2
      ·exact .inr (fY (by rw[a3,es,ea]))
      ·exact .inl (.inr ⟨a,a1,by first|lia|omega,a3⟩)
  ·have e2:k2=z.2.length-1:=by (first|lia|omega)
   subst e2
   refine .inl ⟨by show _<=_; (first|lia|omega),_,?_,us,rfl,cF,sm3,hD3,nd3,by first|lia|omega,fun r=>(mem3 r).trans ?_⟩
   ·(first|lia|omega)
   ·rw[old,show 1+(z.2.length-1)=(sg z.2).length by first|lia|omega]
 ·have e:k=B.length:=by (first|lia|omega)
  subst e
  rw[Ui] at mem
  refine .inl ⟨⟨_,sm.seq hl,by first|lia|omega⟩,?_⟩
  refine⟨D,_,rfl,hD1,fun p H2 n2=>q ts p H2 (sm.trans n2.same) ?_ ?_ nd (by first|lia|omega) mem⟩
  ·cases e:H p with
   | none=>rfl
   | some o=>have:=n2.nn;rw[sm _ _ e] at this;cases this
  ·have e:((ts.map dB).map fun q=>kV q.1)=ts.map V.str:=by rw[Yx];rfl
   rw[<-e];exact n2.at
end
noncomputable def i8 (a b:Str):V:=if Txt.startswith a b=true then .str (Txt.slice a (some (b.length:Nat)) none) else if Txt.startswith b a=true then .str (Txt.slice b (some (a.length:Nat)) none) else .non
noncomputable def sX:Sp:=fun vs H Q _=>∃a b:Str,vs=[.str a,.str b]/\a.length<=1000000/\b.length<=1000000/\Q (i8 a b) H
section
variable {P:Program}{w:World}{K:Ja}{mg:Str->Option Value}{base:Heap}{f:Addr}{fd:FuncData}
theorem Ak:aM ["one", "other"] ["one", "other"] (ay (top jF)):=⟨rfl,rfl,rfl,by decide +kernel,rfl,by decide +kernel,by decide +kernel⟩
theorem AI (F:cX K "rest_of" "rest_of" (top jF) f fd)(T:Nm mg):bA P w K mg base fQ 1 f fd ["one", "other"] sX:=by
 refine F.ok Ak (fun vs H Q E h =>?_) (fun di A outer s H vs Q E hr h =>?_)
 ·obtain⟨a,b,rfl,_⟩:=h
  rfl
 obtain⟨a,b,rfl,ha,hb,q⟩:=h
 refine⟨_,(ah (cB (dm (si K PySem.F.plainAttrs_str PySem.F.slot_str_startswith PySem.F.type_str_startswith hR (pv 0) (aa (pv 1) ag))) (ak (aI (bC (Oa K) (pv 0) (bN (av (dA K) rfl T.n_len (by rfl) (aa (pv 1) ag))) bQ))) bh)
  (ah (cB (dm (si K PySem.F.plainAttrs_str PySem.F.slot_str_startswith PySem.F.type_str_startswith hR (pv 1) (aa (pv 0) ag))) (ak (aI (bC (Oa K) (pv 1) (bN (av (dA K) rfl T.n_len (by rfl) (aa (pv 0) ag))) bQ))) bh)
  (ak (aI de)))),?_⟩
 unfold i8 at q
 refine⟨_,rfl,rfl,_,rfl,a,b,rfl,rfl,_,rfl,?_⟩
 refine gM (fun c =>?_) (fun c =>?_)
 ·rw[if_pos c] at q
  exact⟨_,rfl,_,rfl,_,_,rfl,⟨sizeOk (Jp hb (by decide)),rfl⟩,_,rfl,.inr ⟨a,rfl,sizeOk (Jp ha (by decide)),q⟩⟩
 ·rw[if_neg c] at q
  refine⟨_,rfl,rfl,_,rfl,b,a,rfl,rfl,_,rfl,?_⟩
  refine gM (fun c =>?_) (fun c =>?_)
  ·rw[if_pos c] at q
   exact⟨_,rfl,_,rfl,_,_,rfl,⟨sizeOk (Jp ha (by decide)),rfl⟩,_,rfl,.inr ⟨b,rfl,sizeOk (Jp hb (by decide)),q⟩⟩
  ·rw[if_neg c] at q
   exact q
end
noncomputable def Dc:Sp:=fun vs H Q _=>∃t:Str,vs=[.str t]/\t.length<=100000/\∀z H',cV H z (.tup [.int t.length,.str t]) H'->Q (.ref z) H'
section
variable {P:Program}{w:World}{K:Ja}{mg:Str->Option Value}{base:Heap}{f:Addr}{fd:FuncData}
theorem jV:aM ["text"] ["text"] (ay (top dS)):=⟨rfl,rfl,rfl,by decide +kernel,rfl,by decide +kernel,by decide +kernel⟩
theorem Iy (F:cX K "length_first" "length_first" (top dS) f fd)(T:Nm mg):bA P w K mg base fQ 1 f fd ["text"] Dc:=by
 refine F.ok jV (fun vs H Q E h =>?_) (fun di A outer s H vs Q E hr h =>?_)
 ·obtain⟨t,rfl,_⟩:=h
  rfl
 obtain⟨t,rfl,ht,q⟩:=h
 refine⟨_,(ak (aI (dj (aa (av (dA K) rfl T.n_len (by rfl) (aa (pv 0) ag)) (aa (pv 0) ag))))),?_⟩
 exact⟨_,rfl,_,_,rfl,⟨sizeOk (by first|lia|omega),rfl⟩,_,rfl,by show 2<=sizeLine;decide,fun p H' n=>q p H' n⟩
end
noncomputable def Bh (q:Str×Str)(x r:Str):Prop:=i8 x q.2 = .str r/\r ≠ ""
theorem zL (x y:Str):i8 x y = .non∨∃r,i8 x y = .str r:=by
 unfold i8
 split
 ·exact .inr ⟨_,rfl⟩
 ·split
  ·exact .inr ⟨_,rfl⟩
  ·exact .inl rfl
noncomputable abbrev FA:=Addr×(Str×Str)×Str
noncomputable def w5 (H:Hp)(z:FA):Prop:=H z.1=some (.tup [.str z.2.1.1,.str z.2.1.2,.str z.2.2])
noncomputable def zC (K:Ja):Sp:=fun vs H Q _=>iU fun(l:Addr) (x:Str) (B:List (Str×Str))=>vs=[.ref l,.str x]/\kc K H B l/\bB B/\x.length<=12 /\
 ∀(as:List FA) (p:Addr) (H':Hp),au H H'->H p=none->H' p=some (.lst (as.map fun z=>V.ref z.1))->as.length<=16->(∀z∈as,w5 H' z/\z.2.1∈B/\Bh z.2.1 x z.2.2)->(∀q∈B,∀r,Bh q x r->∃z∈as,z.2.2=r)->Q (.ref p) H'
noncomputable def Ap (K:Ja):Sp:=fun vs H Q _=>cj fun(l:Addr) (B:List (Str×Str))=>vs=[.ref l]/\kc K H B l/\bB B /\
 ∀(ts:List Str) (p:Addr) (H':Hp),au H H'->H p=none->H' p=some (.lst (ts.map V.str))->ts.Nodup->ts.length<=200->(∀r,r∈ts↔hX B r)->Q (.ref p) H'
theorem hX.len {B:List (Str×Str)}(g:bB B){r:Str}(h:hX B r):r.length<=12/\1<=r.length:=by
 obtain⟨q,hq,a,a1,a2,e⟩:=h
 have h1:=(g.cd q hq).le
 have e1:q.2.length=(sg q.2).length:=str_len _
 have e2:r.length=(sg r).length:=str_len _
 rw[e,Ud] at e2
 (first|lia|omega)
section
variable {P:Program}{w:World}{K:Ja}{mg:Str->Option Value}{base:Heap}{f:Addr}{fd:FuncData}
theorem sV:aM ["book"] ["book"] (ay (top jE)):=⟨rfl,rfl,rfl,by decide +kernel,rfl,by decide +kernel,by decide +kernel⟩
theorem FH (F:cX K "lags_of" "lags_of" (top jE) f fd)(T:Nm mg)(eZ:mg "sorted" = none)(qP:Fn P w K mg base 1 "code_ends" ["book"] (DU K))(lL:Fn P w K mg base 1 "length_first" ["text"] Dc):bA P w K mg base fQ 4 f fd ["book"] (Ap K):=by
 refine ae.el (lL.ex) _ ?_
 rintro ky_length_first fdk FK_length_first BK_length_first _ GK_length_first
 refine F.ok sV (fun vs H Q E h =>?_) (fun di A outer s H vs Q E hr h =>?_)
 ·obtain⟨l,B,rfl,_⟩:=h
  rfl
 obtain⟨l,B,rfl,hB,gB,q⟩:=h
 refine⟨_,(ak (aI (wu (ya K (EU FK_length_first (hr.mono (by decide)) BK_length_first)) rfl eZ (by rfl) (aa (aJ (qP.mono (by first|decide|exact Jc _|(first|lia|omega))) hr rfl (aa (pv 0) ag)) ag) (Bi (AW (v := .ref ky_length_first) rfl GK_length_first rfl) ER)))),?_⟩
 refine⟨_,rfl,l,B,rfl,hB,gB,fun ts p H1 s1 Hl gW nd tl mem =>?_⟩
 refine⟨p,ts,rfl,rfl,aG.of gW,fun t ht Hj =>?_,fun us p2 H2 perm _ s2 nu h2 =>?_⟩
 ·have:=((mem t).mp ht).len gB
  exact⟨t,rfl,by first|lia|omega,fun z H' n=>⟨z,rfl,n⟩⟩
 ·refine q us p2 H2 (s1.trans s2) ?_ h2 (perm.nodup_iff.mpr nd) (by rw[perm.length_eq];exact tl) fun r=>(perm.mem_iff).trans (mem r)
  cases e:H p2 with
  | none=>rfl
  | some o=>rw[s1 _ _ e] at nu;cases nu
theorem gN:aM ["book", "lag", "rests"] ["book", "lag"] (ay (top eI)):=⟨rfl,rfl,rfl,by decide +kernel,rfl,by decide +kernel,by decide +kernel⟩
theorem Ho (F:cX K "lags_behind" "lags_behind" (top eI) f fd)(T:Nm mg)(vL:Fn P w K mg base 1 "rest_of" ["one", "other"] sX):bA P w K mg base fQ 2 f fd ["book", "lag"] (zC K):=by
 refine F.ok gN (fun vs H Q E h =>?_) (fun di A outer s H vs Q E hr h =>?_)
 ·obtain⟨l,x,B,rfl,_⟩:=h
  rfl
 unfold zC at h
 refine ae.el h _ ?_
 clear h
 rintro l x B rfl hB gB hx q
 have hU:=hr.units
 have hle:=gB.le
 refine⟨_,(ah (bJ (i:=2) gN.nd rfl (Or.inl rfl) rfl (aO (Nc:=["name", "code"]) (Fc:=["lag"]) (js:=[1])) (iE K (pv 0)) (dF (aK (aA (i:=0) (n:=2) (by decide)) (aK (aA (i:=1) (n:=2) (by decide)) cR aB aR) aB (aX aB aR))) (fun _ _ _ _ _=>(tupK K 2 rfl (ar (ai (i:=0) (show(["name", "code", "lag"]:List Str).Nodup by decide +kernel) rfl (Or.inl rfl)) (ar (ai (i:=1) (show(["name", "code", "lag"]:List Str).Nodup by decide +kernel) rfl (Or.inl rfl)) bp)))) (fun _ _ _ _ _=>bj) (fun _ _ _ _ _=>(dj (aa (pv 0) (aa (pv 1) (aa (aJ (vL.mono (by first|decide|exact Jc _|(first|lia|omega))) hr rfl (aa (pv 2) (aa (pv 1) ag))) ag))))))
  (ak (aI (bO rfl (aO (Nc:=["name", "code", "rest"]) (Fc:=[]) (js:=[])) (iE K (pv 2)) (dF (aK (aA (i:=0) (n:=3) (by decide)) (aK (aA (i:=1) (n:=3) (by decide)) (aK (aA (i:=2) (n:=3) (by decide)) cR aB aR) aB (aX aB aR)) aB (aX aB (aX aB aR)))) (fun _ _ _ _ _=>(tupK K 3 rfl (ar (ai (i:=0) (show(["name", "code", "rest"]:List Str).Nodup by decide +kernel) rfl (Or.inl rfl)) (ar (ai (i:=1) (show(["name", "code", "rest"]:List Str).Nodup by decide +kernel) rfl (Or.inl rfl)) (ar (ai (i:=2) (show(["name", "code", "rest"]:List Str).Nodup by decide +kernel) rfl (Or.inl rfl)) bp))))) (fun _ _ _ _ _=>(eg (PW.pt (sM (aP BR (pv 2) de (aY _)) (nL (aP (yk K hU) (pv 2) bI (aY _))))))) (fun _ _ _ _ _=>(dj (aa (pv 0) (aa (pv 1) (aa (pv 2) ag))))))))),?_⟩
 obtain⟨vs,hv,hd⟩:=id hB
 have hlen:=ik hd
 have small:∀{n:Nat},n<=1000->n<sizeLine:=fun h=>Jx h (by decide)
 refine bG (te:=dz _ _ _ _ _ _) (fun v H'=>cj fun(p:Addr) (bs:List Addr)=>v = .ref p/\au H H'/\H p=none/\H' p=some (.lst (bs.map V.ref))/\bs.length=B.length/\∀(i:Nat) (a:Addr) (hi:i<B.length),bs[i]? = some a->H' a=some (.tup [.str B[i].1,.str B[i].2,i8 x B[i].2])) (fun Qn qn =>?_) ?_
 ·refine⟨_,rfl,l,rfl,⟨_,hv⟩,?_⟩
  refine cY (N:=B.length) (fun i ys H'=>∃bs:List Addr,au H H'/\ys=bs.map V.ref/\bs.length=i/\∀(j:Nat) (a:Addr) (hj:j<B.length),bs[j]? = some a->H' a=some (.tup [.str B[j].1,.str B[j].2,i8 x B[j].2])) ⟨[],au.refl _,rfl,rfl,fun j a hj h=>nomatch h⟩ ?_ ?_
  ·intro i ys H1 Ny hi hz_ ny
   refine ae.el hz_ _ ?_
   clear hz_
   rintro bs s1 rfl bl hb
   refine ae.el (jO hd hi) _ ?_
   rintro tp e1 e2
   refine⟨⟨_,_,s1.seq hv,e1⟩,small (by rw[Jb]; (first|lia|omega)),?_⟩
   rintro y H2 ⟨rfl,hy⟩
   have e:=hy _ (s1.seq hv)
   rw[e1] at e;cases e
   have hc:=(gB.cd _ (Jt hi)).le
   refine⟨tp,_,rfl,s1.sG e2,rfl,_,_,rfl,_,_,rfl,rfl,?_⟩
   refine⟨_,rfl,_,rfl,_,rfl,_,rfl,x,B[i].2,rfl,by first|lia|omega,by first|lia|omega,by show 3<=sizeLine;decide,fun a H3 n3=>ny _ _ ⟨bs++[a],s1.trans n3.same,by rw[Jl];rfl,by rw[Jf,bl];rfl,fun j a' hj h =>?_⟩⟩
   by_cases hji:j<i
   ·rw[Ua (by first|lia|omega)] at h
    exact n3.same _ _ (hb j a' hj h)
   ·rw[J0 (by first|lia|omega),bl] at h
    have e0:j-i=0:=by
     cases hz:j-i with
     | zero=>rfl
     | succ k=>rw[hz] at h;cases h
    have ej:j=i:=by (first|lia|omega)
    subst ej
    rw[e0] at h
    cases h
    exact n3.at
  ·intro ys H1 hz_
   refine ae.el hz_ _ ?_
   clear hz_
   rintro bs s1 rfl bl hb
   refine⟨⟨_,s1.seq hv,by first|lia|omega⟩,fun p H2 n2=>qn _ _ ⟨p,bs,rfl,s1.trans n2.same,?_,n2.at,bl,fun j a hj h=>n2.same _ _ (hb j a hj h)⟩⟩
   cases e:H p with
   | none=>rfl
   | some o=>have:=n2.nn;rw[s1 _ _ e] at this;cases this
 intro v H1 hz_
 refine ae.el hz_ _ ?_
 clear hz_
 rintro p1 bs rfl s1 hp10 gW bl hb
 refine gn ?_
 have qR:∀{i:Nat} (hi:i<B.length),∃a,bs[i]? = some a/\(bs.map V.ref)[i]? = some (.ref a):=fun{i} hi=>⟨bs[i]'(by first|lia|omega),Je (by first|lia|omega),by rw[Jm,Je (by first|lia|omega)];rfl⟩
 refine⟨_,rfl,p1,rfl,⟨_,aG.of gW⟩,?_⟩
 refine cw (N:=B.length) (fun i ys H'=>∃as:List FA,au H1 H'/\ys=as.map (fun z=>V.ref z.1)/\as.length<=i/\(∀z∈as,w5 H' z/\z.2.1∈B/\Bh z.2.1 x z.2.2)/\∀q∈B.take i,∀r,Bh q x r->∃z∈as,z.2.2=r) ⟨[],au.refl _,rfl,Jc _,(fun z h=>nomatch h),fun q h=>nomatch h⟩ ?_ ?_
 ·intro i ys H2 Ny hi hz_ ny
  refine ae.el hz_ _ ?_
  clear hz_
  rintro as s2 rfl al ha hcv
  refine ae.el (qR hi) _ ?_
  rintro a ea ea'
  refine⟨⟨_,_,aG.of (s2 _ _ gW),ea'⟩,small (by rw[Jb]; (first|lia|omega)),?_⟩
  rintro y H3 ⟨rfl,hy⟩
  have e:=hy _ (aG.of (s2 _ _ gW))
  rw[ea'] at e;cases e
  have NW:=s2 _ _ (hb i a hi ea)
  have hm:=Jt hi
  have dH:=aL hi
  generalize B[i]=z at NW hm dH
  refine⟨a,_,rfl,d9.of NW,rfl,_,_,rfl,_,_,rfl,_,_,rfl,rfl,?_⟩
  rcases zL x z.2 with e|⟨r,e⟩
  ·rw[e]
   refine⟨_,rfl,.inl ⟨rfl,_,rfl,cg (ny _ _ ⟨as,s2,rfl,by first|lia|omega,ha,fun q hq r' fv =>?_⟩)⟩⟩
   rw[dH] at hq
   rcases Jq.mp hq with hq|hq
   ·exact hcv q hq r' fv
   ·rw[Jg.mp hq] at fv
    have:=fv.1
    rw[e] at this;cases this
  ·rw[e]
   refine⟨_,rfl,.inl ⟨rfl,_,rfl,bD ?_⟩⟩
   have ed:(!decide (V.str r=V.str (Str.ofString ""))) = !decide (r = ""):=congrArg (! ·) (decide_eq_decide.mpr ⟨fun h=>(by injection h),fun h=>by rw[h]⟩)
   refine⟨_,rfl,.inl ⟨rfl,_,rfl,?_⟩⟩
   rw[ed]
   by_cases er:r = ""
   ·rw[decide_eq_true er]
    refine cg (ny _ _ ⟨as,s2,rfl,by first|lia|omega,ha,fun q hq r' fv =>?_⟩)
    rw[dH] at hq
    rcases Jq.mp hq with hq|hq
    ·exact hcv q hq r' fv
    ·rw[Jg.mp hq] at fv
     have h1:=fv.1
     rw[e] at h1
     injection h1 with h1
     exact absurd (h1▸er) fv.2
   ·rw[decide_eq_false er]
    refine bD ⟨_,rfl,_,rfl,_,rfl,by show 3<=sizeLine;decide,fun a2 H4 n4=>ny _ _ ⟨as++[(a2,z,r)],s2.trans n4.same,by rw[Jl];rfl,by rw[Jf];exact Wc al,fun y hy =>?_,fun q hq r' fv =>?_⟩⟩
    ·rcases Jq.mp hy with hy|hy
     ·obtain⟨h1,h2⟩:=ha y hy
      exact⟨n4.same _ _ h1,h2⟩
     ·rw[Jg.mp hy]
      exact⟨n4.at,hm,e,er⟩
    ·rw[dH] at hq
     rcases Jq.mp hq with hq|hq
     ·refine ae.el (hcv q hq r' fv) _ ?_
      rintro y hy ey
      exact⟨y,Ym _ hy,ey⟩
     ·rw[Jg.mp hq] at fv
      have h1:=fv.1
      rw[e] at h1
      injection h1 with h1
      exact⟨(a2,z,r),Jr _ (Jg.mpr rfl),h1⟩
 ·intro ys H2 hz_
  refine ae.el hz_ _ ?_
  clear hz_
  rintro as s2 rfl al ha hcv
  rw[Ui] at hcv
  refine⟨⟨_,aG.of (s2 _ _ gW),by rw[Jb]; (first|lia|omega)⟩,fun p3 vo =>?_⟩
  have n3:cV H2 p3 (.lst (as.map fun z=>V.ref z.1)) (upd H2 p3 (.lst (as.map fun z=>V.ref z.1))):=⟨vo,rfl⟩
  refine q as p3 _ ((s1.trans s2).trans n3.same) ?_ n3.at (by first|lia|omega) (fun z hz=>⟨n3.same _ _ (ha z hz).1,(ha z hz).2⟩) hcv
  cases e:H p3 with
  | none=>rfl
  | some o=>rw[s2 _ _ (s1 _ _ e)] at vo;cases vo
end
theorem nh:∀(fs E:List Str),E.Nodup->∃E':List Str,cS (E.map dB) (fs.map dB)=E'.map dB/\E'.Nodup/\∀x,x∈E'↔x∈E∨x∈fs
 | [],E,nd=>⟨E,rfl,nd,fun x=>⟨.inl,fun h=>h.elim id fun h=>nomatch h⟩⟩
 | f::fs,E,nd=>by
  obtain⟨E',h1,h2,h3⟩:=nh fs (if f∈E then E else E++[f]) (uH nd)
  refine⟨E',?_,h2,fun x=>(h3 x).trans ?_⟩
  ·rw[<-h1]
   show cS (putK (E.map dB) (.inr f) (.bl true)) (fs.map dB)=_
   rw[nZ]
  ·rw[kK,Uc]
   exact⟨fun h=>h.elim (fun h=>h.elim .inl fun h =>.inr (.inl h)) fun h =>.inr (.inr h),fun h=>h.elim (fun h =>.inl (.inl h)) fun h=>h.elim (fun h =>.inl (.inr h)) .inr⟩
theorem qq (E:List Str):(E.map dB).map (·.1)=E.map Sum.inr:=by rw[Yx];rfl
theorem gE {E:List Str}{r:Str}:(aZ (E.map dB) (.inr r)).isSome=true↔r∈E:=by
 cases hv:aZ (E.map dB) (.inr r) with
 | none=>
  refine⟨(fun h=>nomatch h),fun h=>absurd ?_ (ye hv)⟩
  rw[qq];exact Yh h
 | some v=>
  refine⟨fun _ =>?_,fun _=>rfl⟩
  have:=BP hv
  rw[qq] at this
  refine ae.el (Um.mp this) _ ?_
  rintro x hx e
  rw[<-Sum.inr.inj e];exact hx
noncomputable def E4 (K:Ja):Sp:=fun vs H Q _=>cj fun(l:Addr) (B:List (Str×Str))=>vs=[.ref l]/\kc K H B l/\bB B /\
 ∀(d:Addr) (E:List Str) (H':Hp),au H H'->H d=none->H' d=some (.dK (E.map dB))->(∀r∈E,hX B r)->(∀r,hX B r->r∉E->∃q∈B,∃r',Bh q r r'/\r'∉E)->Q (.ref d) H'
noncomputable def iG (B:List (Str×Str))(H:Hp)(zs:List (Str×Addr)):Prop:=∀z∈zs,∃ls:List Str,H z.2=some (.lst (ls.map V.str))/\ls.length<=16/\∀r,r∈ls ↔ ∃q∈B,Bh q z.1 r
theorem iG.same {B:List (Str×Str)}{H H':Hp}{zs:List (Str×Addr)}(h:iG B H zs)(s:au H H'):iG B H' zs:=fun z hz=>by
 obtain⟨ls,h1,h2⟩:=h z hz
 exact⟨ls,s _ _ h1,h2⟩
theorem iG.off {B:List (Str×Str)}{H H':Hp}{zs:List (Str×Addr)}{d:Addr}{kvs:List (Key×V)}(h:iG B H zs)(hd:H d=some (.dK kvs))(s:vc H d (.dK kvs) H'∨∃k2,vc H d (.dK k2) H'):iG B H' zs:=fun z hz=>by
 obtain⟨ls,h1,h2⟩:=h z hz
 refine⟨ls,?_,h2⟩
 have ne:z.2≠d:=fun e=>by rw[e,hd] at h1;cases h1
 rcases s with s|⟨k2,s⟩
 ·rw[s.ne ne];exact h1
 ·rw[s.ne ne];exact h1
noncomputable def EZ (z:Str×Addr):Key×V:=(.inr z.1,.ref z.2)
section
variable {P:Program}{w:World}{K:Ja}{mg:Str->Option Value}{base:Heap}{f:Addr}{fd:FuncData}
theorem bH:aM ["book", "left", "laters", "ending", "found"] ["book"] (ay (top eP)):=⟨rfl,rfl,rfl,by decide +kernel,rfl,by decide +kernel,by decide +kernel⟩
theorem Gb (F:cX K "ending_lags" "ending_lags" (top eP) f fd)(T:Nm mg)(jf:Fn P w K mg base 4 "lags_of" ["book"] (Ap K))(eK:Fn P w K mg base 2 "lags_behind" ["book", "lag"] (zC K)):bA P w K mg base fQ 5 f fd ["book"] (E4 K):=by
 refine F.ok bH (fun vs H Q E h =>?_) (fun di A outer s H vs Q E hr h =>?_)
 ·obtain⟨l,B,rfl,_⟩:=h
  rfl
 obtain⟨l,B,rfl,hB,gB,q⟩:=h
 have hu:=gF hr
 have hle:=gB.le
 have small:∀{n:Nat},n<=1000->n<sizeLine:=fun h=>Jx h (by decide)
 refine⟨_,(ah (aE (i:=1) bH.nd rfl (Or.inl rfl) (aJ (jf.mono (by first|decide|exact Jc _|(first|lia|omega))) hr rfl (aa (pv 0) ag)))
  (ah (aE (i:=2) bH.nd rfl (Or.inr rfl) (i9 rfl (aO (Nc:=["lag"]) (Fc:=["book"]) (js:=[0])) (iE K (pv 1)) (aA (i:=0) (n:=1) (by decide)) (fun _ _ _ _ _=>(ai (i:=0) (show(["lag", "book"]:List Str).Nodup by decide +kernel) rfl (Or.inl rfl))) (fun _ _ _ _ _=>bj) (fun _ _ _ _ _=>(pv 0)) (fun _ _ _ _ _=>(bO rfl (aO (Nc:=["name", "code", "later"]) (Fc:=[]) (js:=[])) (iE K (aJ (eK.mono (by first|decide|exact Jc _|(first|lia|omega))) hr rfl (aa (pv 1) (aa (pv 0) ag)))) (dF (aK (aA (i:=0) (n:=3) (by decide)) (aK (aA (i:=1) (n:=3) (by decide)) (aK (aA (i:=2) (n:=3) (by decide)) cR aB aR) aB (aX aB aR)) aB (aX aB (aX aB aR)))) (fun _ _ _ _ _=>(tupK K 3 rfl (ar (ai (i:=0) (show(["name", "code", "later"]:List Str).Nodup by decide +kernel) rfl (Or.inl rfl)) (ar (ai (i:=1) (show(["name", "code", "later"]:List Str).Nodup by decide +kernel) rfl (Or.inl rfl)) (ar (ai (i:=2) (show(["name", "code", "later"]:List Str).Nodup by decide +kernel) rfl (Or.inl rfl)) bp))))) (fun _ _ _ _ _=>bj) (fun _ _ _ _ _=>(pv 2))))))
  (ah (aE (i:=3) bH.nd rfl (Or.inr rfl) G9)
  (ah (aE (i:=4) bH.nd rfl (Or.inl rfl) (bX (zK K) rfl T.n_list (by rfl) (aa (pv 1) ag)))
  (ah (lR PassesOwn.never (xm (pv 4) fun _=>rfl) (ah (bJ (i:=4) bH.nd rfl (Or.inl rfl) rfl (aO (Nc:=["lag"]) (Fc:=["ending", "laters"]) (js:=[3,2])) (iE K (pv 1)) (aA (i:=0) (n:=1) (by decide)) (fun _ _ _ _ _=>(ai (i:=0) (show(["lag", "ending", "laters"]:List Str).Nodup by decide +kernel) rfl (Or.inl rfl))) (fun _ _ _ _ _=>(eg (dm (av (AK K rfl) rfl T.n_all (by rfl) (aa (bO rfl (aO (Nc:=["later"]) (Fc:=["ending"]) (js:=[1])) (iE K (dv hu (pv 2) (pv 0) (fun _ _=>rfl))) (aA (i:=0) (n:=1) (by decide)) (fun _ _ _ _ _=>(ai (i:=0) (show(["later", "ending"]:List Str).Nodup by decide +kernel) rfl (Or.inl rfl))) (fun _ _ _ _ _=>bj) (fun _ _ _ _ _=>(yS (DV hu (pv 0) (pv 1))))) ag))))) (fun _ _ _ _ _=>(pv 0)))
  (ah (d7 (si K PySem.F.plainAttrs_dict PySem.F.slot_dict_update PySem.F.type_dict_update B2 (pv 3) (aa (i9 rfl (aO (Nc:=["lag"]) (Fc:=[]) (js:=[])) (iE K (pv 4)) (aA (i:=0) (n:=1) (by decide)) (fun _ _ _ _ _=>(ai (i:=0) (show(["lag"]:List Str).Nodup by decide +kernel) rfl (Or.inl rfl))) (fun _ _ _ _ _=>bj) (fun _ _ _ _ _=>(pv 0)) (fun _ _ _ _ _=>eW)) ag)))
  (ak (bJ (i:=1) bH.nd rfl (Or.inl rfl) rfl (aO (Nc:=["lag"]) (Fc:=["ending"]) (js:=[3])) (iE K (pv 1)) (aA (i:=0) (n:=1) (by decide)) (fun _ _ _ _ _=>(ai (i:=0) (show(["lag", "ending"]:List Str).Nodup by decide +kernel) rfl (Or.inl rfl))) (fun _ _ _ _ _=>(eg (kT (dN hu (pv 0) (pv 1))))) (fun _ _ _ _ _=>(pv 0)))))))
  (ak (aI (pv 3)))))))),?_⟩
 refine⟨_,rfl,l,B,rfl,hB,gB,fun ts p1 H1 s1 hp10 gW nd tl mem=>gn ?_⟩
 have qR:∀{xs:List Str} {i:Nat} (hi:i<xs.length),(xs.map V.str)[i]? = some (.str xs[i]):=fun hi=>by rw[Jm,Je hi];rfl
 dsimp only
 refine bG (te:=jt _ _ _ _ _ _ _) (fun v H'=>cj fun(D:Addr) (zs:List (Str×Addr))=>v = .ref D/\au H1 H'/\H1 D=none/\H' D=some (.dK (zs.map EZ))/\zs.map (·.1)=ts/\iG B H' zs) (fun Qn qn =>?_) ?_
 ·refine⟨_,rfl,p1,rfl,⟨_,aG.of gW⟩,fun D hD =>?_⟩
  refine⟨fun i m H'=>∃zs:List (Str×Addr),m=ts.length-i/\i<=ts.length/\au H1 H'/\H' D=some (.dK (zs.map EZ))/\zs.map (·.1)=ts.take i/\iG B H' zs,⟨_,[],rfl,Us _,cP hD _,aH,rfl,fun z hz=>nomatch hz⟩,?_⟩
  intro i m H2 hz_
  refine ae.el hz_ _ ?_
  clear hz_
  rintro zs rfl hi s2 hD2 ez lt2
  by_cases cF:i<ts.length
  ·refine .inr ⟨⟨_,_,aG.of (s2 _ _ gW),qR cF⟩,?_⟩
   rintro y H3 ⟨rfl,hy⟩
   have e:=hy _ (aG.of (s2 _ _ gW))
   rw[qR cF] at e;cases e
   refine gn ?_
   dsimp only[ma]
   rw[if_pos rfl]
   have sN:=((mem _).mp (Jt cF)).len gB
   have dH:=aL cF
   have Bt:ts[i]∉ts.take i:=fun h=>by
    refine ae.el (U2.mp h) _ ?_
    rintro j hj ej
    rw[Jw] at hj
    rw[List.getElem_take] at ej
    have:=(List.getElem_inj nd).mp ej
    (first|lia|omega)
   generalize ts[i]=x at sN dH Bt
   refine⟨_,rfl,_,rfl,_,rfl,l,x,B,rfl,hB.same (s1.trans s2),gB,by first|lia|omega,fun as p4 H4 s4 hp40 hp4 al ha hcv =>?_⟩
   have GX:∀{j:Nat} (hj:j<as.length),(as.map fun z=>V.ref z.1)[j]? = some (.ref as[j].1):=fun hj=>by rw[Jm,Je hj];rfl
   refine⟨p4,rfl,⟨_,aG.of hp4⟩,?_⟩
   refine cw (N:=as.length) (fun j ys H'=>H'=H4/\ys=((as.take j).map (·.2.2)).map V.str) ⟨rfl,rfl⟩ ?_ ?_
   ·rintro j ys H5 Ny hj ⟨rfl,rfl⟩ ny
    refine⟨⟨_,_,aG.of hp4,GX hj⟩,small (by rw[Jb,Jb,Jw]; (first|lia|omega)),?_⟩
    rintro y H6 ⟨rfl,hy⟩
    have e:=hy _ (aG.of hp4)
    rw[GX hj] at e;cases e
    have hz:=(ha _ (Jt hj)).1
    refine⟨_,_,rfl,d9.of hz,rfl,_,_,rfl,_,_,rfl,_,_,rfl,rfl,_,rfl,ny _ _ ⟨rfl,?_⟩⟩
    rw[aL hj,Jl,Jl];rfl
   ·rintro ys H5 ⟨rfl,rfl⟩
    refine⟨⟨_,aG.of hp4,by rw[Jb];exact Jc _⟩,fun p6 zU =>?_⟩
    rw[Ui]
    have n6:cV H5 p6 (.lst ((as.map (·.2.2)).map V.str)) (upd H5 p6 (.lst ((as.map (·.2.2)).map V.str))):=⟨zU,rfl⟩
    generalize upd H5 p6 (.lst ((as.map (·.2.2)).map V.str))=H6 at n6 ⊢
    have CD:=s4.trans n6.same
    have zl:zs.length=i:=by
     have:=congrArg Wk ez
     rw[Jb,Jw] at this
     (first|lia|omega)
    refine⟨zs.map EZ,.inr x,CD _ _ hD2,rfl,small (by rw[Jb]; (first|lia|omega)),ts.length-(i+1),by first|lia|omega,zs++[(x,p6)],rfl,cF,fun b o e =>?_,?_,by rw[Jl,dH,ez];rfl,fun z hz =>?_⟩
    ·rw[ao (aq e hD)];exact CD _ _ (s2 b o e)
    ·rw[gK _ (eR fun y hy e=>Bt ?_),Jl]
     ·exact aH
     ·rw[<-ez]
      have e:(Sum.inr y.1:Key) = .inr x:=e
      rw[<-Sum.inr.inj e]
      exact Yh hy
    ·have keep:∀{a:Addr} {o:List V},H6 a=some (.lst o)->upd H6 D (.dK (putK (zs.map EZ) (.inr x) (.ref p6))) a=some (.lst o):=fun{a o} e=>by
      rw[ao (fun z=>by rw[z,CD _ _ hD2] at e;cases e)];exact e
     rcases Jq.mp hz with hz|hz
     ·obtain⟨ls,h1,h2⟩:=lt2 z hz
      exact⟨ls,keep (CD _ _ h1),h2⟩
     ·rw[Jg.mp hz]
      refine⟨as.map (·.2.2),keep n6.at,by rw[Jb];exact al,fun r=>⟨fun h =>?_,fun⟨q,hq,h⟩=>?_⟩⟩
      ·refine ae.el (Um.mp h) _ ?_
       rintro y hy rfl
       refine ae.el (ha y hy) _ ?_
       rintro _ h1 h2
       exact⟨_,h1,h2⟩
      ·refine ae.el (hcv q hq r h) _ ?_
       rintro y hy e
       exact Um.mpr ⟨y,hy,e⟩
  ·have e:i=ts.length:=by (first|lia|omega)
   subst e
   rw[Ui] at ez
   exact .inl ⟨⟨_,aG.of (s2 _ _ gW),by rw[Jb];exact Jc _⟩,qn _ _ ⟨D,zs,rfl,s2,hD,hD2,ez,lt2⟩⟩
 intro v H2 hz_
 refine ae.el hz_ _ ?_
 clear hz_
 rintro D zs rfl s2 hD0 hD2 ez lt2
 refine gn ?_
 refine fun d H3 n3=>gn ?_
 have NF:=s2.trans n3.same
 have Kk:H d=none:=by
  cases e:H d with
  | none=>rfl
  | some o=>have:=n3.nn;rw[s2 _ _ (s1 _ _ e)] at this;cases this
 have dD:D≠d:=aq hD2 n3.nn
 refine⟨_,rfl,p1,_,rfl,.inl (aG.of (NF _ _ gW)),fun fp0 H4 n4=>gn ?_⟩
 have Ij:=NF.trans n4.same
 rw[show(List.set _ _ _:L2.St)=[some (.ref l),some (.ref p1),some (.ref D),some (.ref d),some (.ref fp0)] from rfl]
 have Nu:∀{r:Str},r∈ts->∃a,aZ (zs.map EZ) (.inr r)=some (.ref a)/\(r,a)∈zs:=fun{r} hr=>by
  rw[<-ez] at hr
  refine ae.el (Um.mp hr) _ ?_
  rintro z hz rfl
  refine⟨z.2,xN ?_ (Um.mpr ⟨z,hz,rfl⟩),hz⟩
  have:(zs.map EZ).map (·.1)=(zs.map (·.1)).map Sum.inr:=by rw[Yx,Yx];rfl
  rw[this,ez]
  exact Uz.mpr (List.pairwise_map.mpr ((Uz.mp nd).imp fun h e=>h (Sum.inr.inj e)))
 dsimp only
 let J:Nat->L2.St->Hp->Prop:=fun m σ H'=>zT fun(lp fp:Addr) (left fs E:List Str) =>σ=[some (.ref l),some (.ref lp),some (.ref D),some (.ref d),some (.ref fp)]/\m=2*left.length+(if fs=[] then 0 else 1)/\au H H'/\H' lp=some (.lst (left.map V.str))/\H' fp=some (.lst (fs.map V.str))/\fs.length<=200/\left.length<=200/\H' d=some (.dK (E.map dB))/\H' D=some (.dK (zs.map EZ))/\iG B H' zs/\E.Nodup/\(∀r∈E,hX B r)/\(∀r∈left,hX B r/\r∉E)/\(∀r,hX B r->r∈left∨r∈E)/\(fs=[]->∀r∈left,∃q∈B,∃r',Bh q r r'/\r'∉E)
 refine dU (t:=kX _ _) (fun σ H'=>iU fun(lp fp:Addr) (E:List Str) =>σ=[some (.ref l),some (.ref lp),some (.ref D),some (.ref d),some (.ref fp)]/\au H H'/\H' d=some (.dK (E.map dB))/\(∀r∈E,hX B r)/\∀r,hX B r->r∉E->∃q∈B,∃r',Bh q r r'/\r'∉E) (fun Nx nx =>?_) ?_
 ·refine nR J ⟨_,p1,fp0,ts,ts,[],rfl,rfl,s1.trans Ij,Ij _ _ gW,n4.at,tl,tl,n4.same _ _ n3.at,n4.same _ _ (n3.same _ _ hD2),(lt2.same n3.same).same n4.same,List.nodup_nil,(fun r h=>nomatch h),fun r h=>⟨(mem r).mp h,(fun h=>nomatch h)⟩,fun r h =>.inl ((mem r).mpr h),fun h r hr=>by rw[h] at hr;cases hr⟩ ?_
  intro m σ H5 hz_
  refine ae.el hz_ _ ?_
  clear hz_
  rintro lp fp left fs E rfl rfl s5 hlp hfp fl ll hd5 D0 lt5 nd5 e1 e2 e3 e4
  have QN:D≠d:=dD
  refine⟨_,rfl, !(fs.map V.str).isEmpty,.inl ⟨_,aG.of hfp,rfl⟩,?_⟩
  by_cases hfs:fs=[]
  ·rw[hfs]
   exact cg (nx _ _ ⟨lp,fp,E,rfl,s5,hd5,e1,fun r hr hn=>e4 hfs r ((e3 r hr).resolve_right hn)⟩)
  ·have eT:(!(fs.map V.str).isEmpty)=true:=by cases fs with|nil=>exact absurd rfl hfs|cons _ _=>rfl
   rw[eT,if_neg hfs]
   refine bD ⟨fun σ' H'=>∃m',m'<2*left.length+1/\J m' σ' H',fun _ _ h=>h,?_⟩
   have Qg:∀{H':Hp} {r:Str},H' d=some (.dK (E.map dB))->iJ H' d (.str r) (aZ (E.map dB) (.inr r)):=fun h =>.inl ⟨_,.inr _,.inl h,rfl,rfl⟩
   refine bG (te:=dz _ _ _ _ _ _) (fun v H'=>cj fun(Cw:Addr) (o9:List Str)=>v = .ref Cw/\au H5 H'/\H5 Cw=none/\H' Cw=some (.lst (o9.map V.str))/\o9.length<=left.length/\∀r,r∈o9↔r∈left/\∀q∈B,∀r',Bh q r r'->r'∈E) (fun Qn qn =>?_) ?_
   ·refine⟨_,rfl,lp,rfl,⟨_,aG.of hlp⟩,?_⟩
    refine cY (N:=left.length) (fun i ys H'=>∃us:List Str,au H5 H'/\ys=us.map V.str/\us.length<=i/\∀r,r∈us↔r∈left.take i/\∀q∈B,∀r',Bh q r r'->r'∈E) ⟨[],au.refl _,rfl,Jc _,fun r=>⟨(fun h=>nomatch h),fun h=>nomatch h.1⟩⟩ ?_ ?_
    ·intro i ys H6 Ny hi hz_ ny
     refine ae.el hz_ _ ?_
     clear hz_
     rintro us s6 rfl ul um
     refine⟨⟨_,_,aG.of (s6 _ _ hlp),qR hi⟩,small (by rw[Jb]; (first|lia|omega)),?_⟩
     rintro y H7 ⟨rfl,hy⟩
     have e:=hy _ (aG.of (s6 _ _ hlp))
     rw[qR hi] at e;cases e
     have sN:=(e2 _ (Jt hi)).1
     have dH:=aL hi
     generalize left[i]=x at sN dH
     refine ae.el (Nu ((mem x).mpr sN)) _ ?_
     rintro a va hza
     refine ae.el ((lt5.same s6) _ hza) _ ?_
     rintro ls h1 h2 h3
     refine gn ⟨_,rfl,_,rfl,D,.ref a,rfl,.inl ⟨_,.inr x,.inl (s6 _ _ D0),rfl,va.symm⟩,a,rfl,⟨_,aG.of h1⟩,?_⟩
     refine cw (N:=ls.length) (fun j ys H'=>H'=H7/\ys=((ls.take j).map fun r=>(aZ (E.map dB) (.inr r)).isSome).map V.bl) ⟨rfl,rfl⟩ ?_ ?_
     ·rintro j ys H8 Nz hj ⟨rfl,rfl⟩ nz
      refine⟨⟨_,_,aG.of h1,qR hj⟩,small (by rw[Jb,Jb,Jw]; (first|lia|omega)),?_⟩
      rintro y H9 ⟨rfl,hy⟩
      have e:=hy _ (aG.of h1)
      rw[qR hj] at e;cases e
      refine gn ⟨_,rfl,_,rfl,d,aZ (E.map dB) (.inr ls[j]),rfl,Qg (s6 _ _ hd5),nz _ _ ⟨rfl,?_⟩⟩
      rw[aL hj,Jl,Jl];rfl
     ·rintro ys H8 ⟨rfl,rfl⟩
      refine⟨⟨_,aG.of h1,by rw[Jb];exact Jc _⟩,fun p9 hp9 =>?_⟩
      rw[Ui]
      have n9:cV H8 p9 (.lst ((ls.map fun r=>(aZ (E.map dB) (.inr r)).isSome).map V.bl)) (upd H8 p9 (.lst ((ls.map fun r=>(aZ (E.map dB) (.inr r)).isSome).map V.bl))):=⟨hp9,rfl⟩
      generalize upd H8 p9 (.lst ((ls.map fun r=>(aZ (E.map dB) (.inr r)).isSome).map V.bl))=H9 at n9 ⊢
      refine⟨p9,_,rfl,aG.of n9.at,_,rfl,?_⟩
      have yV:(ls.map fun r=>(aZ (E.map dB) (.inr r)).isSome).all id=true ↔ ∀q∈B,∀r',Bh q x r'->r'∈E:=by
       rw[List.all_map,Wt]
       exact⟨fun h q hq r' hb=>gE.mp (h r' ((h3 r').mpr ⟨q,hq,hb⟩)),fun h r' zg=>by
        refine ae.el ((h3 r').mp zg) _ ?_
        rintro q hq hb
        exact gE.mpr (h q hq r' hb)⟩
      have Om:∀{r:Str},(r∈left.take (i+1)/\∀q∈B,∀r',Bh q r r'->r'∈E)↔(r∈us∨(r=x/\∀q∈B,∀r',Bh q r r'->r'∈E)):=fun{r}=>by
       rw[dH,Jq,Jg,um]
       exact⟨fun⟨h,g⟩=>h.elim (fun h =>.inl ⟨h,g⟩) fun h =>.inr ⟨h,g⟩,fun h=>h.elim (fun h=>⟨.inl h.1,h.2⟩) fun h=>⟨.inr h.1,h.2⟩⟩
      refine gM (fun c=>⟨_,rfl,ny _ _ ⟨us++[x],s6.trans n9.same,by rw[Jl];rfl,by rw[Jf];exact Wc ul,fun r =>?_⟩⟩) (fun c=>ny _ _ ⟨us,s6.trans n9.same,rfl,by first|lia|omega,fun r =>?_⟩)
      ·rw[Om,Jq,Jg]
       exact or_congr Iff.rfl ⟨fun h=>⟨h,h▸yV.mp c⟩,fun h=>h.1⟩
      ·rw[Om]
       exact⟨.inl,fun h=>h.elim id fun h=>absurd (yV.mpr (h.1▸h.2)) c⟩
    ·intro ys H6 hz_
     refine ae.el hz_ _ ?_
     clear hz_
     rintro us s6 rfl ul um
     rw[Ui] at um
     refine⟨⟨_,aG.of (s6 _ _ hlp),by rw[Jb];exact Jc _⟩,fun p7 H7 n7=>qn _ _ ⟨p7,us,rfl,s6.trans n7.same,?_,n7.at,ul,um⟩⟩
     cases e:H5 p7 with
     | none=>rfl
     | some o=>have:=n7.nn;rw[s6 _ _ e] at this;cases this
   intro v H6 hz_
   refine ae.el hz_ _ ?_
   clear hz_
   rintro Cw o9 rfl s6 hfp0 hfp' fl' fm'
   refine gn ?_
   have Iw:=s6 _ _ hd5
   have QF:Cw≠d:=fun z=>by rw[z,Iw] at hfp';cases hfp'
   refine⟨_,rfl,.inr (.inr (.inl ⟨rfl,.inl ⟨_,Iw⟩⟩)),?_⟩
   refine⟨_,rfl,Cw,rfl,⟨_,aG.of hfp'⟩,fun D2 hD2' =>?_⟩
   have QY:d≠D2:=fun z=>by rw[z,hD2'] at Iw;cases Iw
   have QZ:H5 D2=none:=by
    cases e:H5 D2 with
    | none=>rfl
    | some o=>rw[s6 _ _ e] at hD2';cases hD2'
   refine⟨fun i m H'=>∃us:List Str,m=o9.length-i/\i<=o9.length/\au H6 H'/\H' D2=some (.dK (us.map dB))/\us.length<=i/\∀r,r∈us↔r∈o9.take i,⟨_,[],rfl,Us _,cP hD2' _,aH,Jc _,fun r=>⟨(fun h=>nomatch h),fun h=>nomatch h⟩⟩,?_⟩
   intro i m H7 hz_
   refine ae.el hz_ _ ?_
   clear hz_
   rintro us rfl hi s7 JP ul um
   by_cases cF:i<o9.length
   ·refine .inr ⟨⟨_,_,aG.of (s7 _ _ hfp'),qR cF⟩,?_⟩
    rintro y H8 ⟨rfl,hy⟩
    have e:=hy _ (aG.of (s7 _ _ hfp'))
    rw[qR cF] at e;cases e
    refine gn ?_
    dsimp only[ma]
    rw[if_pos rfl]
    have dH:=aL cF
    generalize o9[i]=x at dH
    refine⟨_,rfl,us.map dB,.inr x,JP,rfl,small (by rw[Jb]; (first|lia|omega)),o9.length-(i+1),by first|lia|omega,_,rfl,cF,fun b o e =>?_,by rw[nZ];exact aH,?_,fun r =>?_⟩
    ·rw[ao (aq e hD2')];exact s7 b o e
    ·have:=pN (ts:=us) (r:=x); (first|lia|omega)
    ·rw[kK,dH,Jq,Jg,um]
   have ei:i=o9.length:=by (first|lia|omega)
   subst ei
   rw[Ui] at um
   refine .inl ⟨⟨_,aG.of (s7 _ _ hfp'),by rw[Jb];exact Jc _⟩,?_⟩
   have Oo:=s7 _ _ Iw
   have El:E.length<=200:=Jp (fF nd5 fun x hx=>(mem x).mpr (e1 x hx)) tl
   refine⟨d,D2,_,_,rfl,rfl,QY,Oo,JP,by rw[Jb,Jb];exact sizeOk (by first|lia|omega),?_⟩
   refine ae.el (nh us E nd5) _ ?_
   rintro E' h1 h2 h3
   rw[h1]
   have c8:vc H7 d (.dK (E'.map dB)) (upd H7 d (.dK (E'.map dB))):=⟨rfl⟩
   generalize upd H7 d (.dK (E'.map dB))=H8 at c8
   have I0:∀x,x∈E'↔x∈E∨x∈o9:=fun x=>by rw[h3,um]
   have M0:=s6.trans s7
   have keep:∀{a:Addr} {o:HO},a≠d->H5 a=some o->H8 a=some o:=fun ne e=>by rw[c8.ne ne];exact M0 _ _ e
   have Qx:lp≠d:=fun z=>by rw[z,hd5] at hlp;cases hlp
   have Bs:=keep Qx hlp
   have OK:=keep QN D0
   have OH:au H H8:=fun b o e=>by rw[c8.ne (aq e Kk)];exact M0 _ _ (s5 b o e)
   have Qm:iG B H8 zs:=(lt5.same M0).off Oo (.inr ⟨_,c8⟩)
   have Mk:H8 Cw=some (.lst (o9.map V.str)):=by rw[c8.ne QF];exact s7 _ _ hfp'
   dsimp only
   refine Dd (te:=dz _ _ _ _ _ _) (fun v H'=>∃lp',v = .ref lp'/\cV H8 lp' (.lst ((left.filter fun r => !(aZ (E'.map dB) (.inr r)).isSome).map V.str)) H') (fun Qn qn =>?_) ?_
   ·refine⟨_,rfl,lp,rfl,⟨_,aG.of Bs⟩,?_⟩
    refine cY (N:=left.length) (fun i ys H'=>H'=H8/\ys=((left.take i).filter fun r => !(aZ (E'.map dB) (.inr r)).isSome).map V.str) ⟨rfl,rfl⟩ ?_ ?_
    ·rintro i ys H9 Ny iD ⟨rfl,rfl⟩ ny
     refine⟨⟨_,_,aG.of Bs,qR iD⟩,?_,?_⟩
     ·rw[Jb]
      have h1:=List.length_filter_le (fun r => !(aZ (E'.map dB) (.inr r)).isSome) (left.take i)
      rw[Jw] at h1
      exact small (by first|lia|omega)
     rintro y H10 ⟨rfl,hy⟩
     have e:=hy _ (aG.of Bs)
     rw[qR iD] at e;cases e
     have dH:=aL iD
     generalize left[i]=x at dH
     cases hv:aZ (E'.map dB) (.inr x) with
     | none=>
      refine gn ⟨_,rfl,_,rfl,d,none,rfl,.inl ⟨_,.inr x,.inl c8.at,rfl,hv.symm⟩,_,rfl,bD ⟨_,rfl,ny _ _ ⟨rfl,?_⟩⟩⟩
      rw[dH,List.filter_append,List.filter_cons,hv,if_pos (by rfl),Jl];rfl
     | some v=>
      refine gn ⟨_,rfl,_,rfl,d,some v,rfl,.inl ⟨_,.inr x,.inl c8.at,rfl,hv.symm⟩,_,rfl,cg (ny _ _ ⟨rfl,?_⟩)⟩
      rw[dH,List.filter_append,List.filter_cons,hv,if_neg (fun z=>nomatch z),List.filter_nil,U5]
    ·rintro ys H9 ⟨rfl,rfl⟩
     refine⟨⟨_,aG.of Bs,by rw[Jb];exact Jc _⟩,fun p H' n=>qn _ _ ⟨p,rfl,?_⟩⟩
     rw[Ui] at n
     exact n
   intro v H9 hz_
   refine ae.el hz_ _ ?_
   clear hz_
   rintro lp' rfl n9
   refine gn ?_
   have Dj:∀r,r∈left.filter (fun r => !(aZ (E'.map dB) (.inr r)).isSome)↔r∈left/\r∉E':=fun r=>by
    rw[List.mem_filter]
    refine and_congr Iff.rfl ⟨fun h z =>?_,fun h =>?_⟩
    ·rw[gE.mpr z] at h;cases h
    ·cases hs:(aZ (E'.map dB) (.inr r)).isSome with
     | false=>rfl
     | true=>exact absurd (gE.mp hs) h
   have Ro:=List.length_filter_le (fun r => !(aZ (E'.map dB) (.inr r)).isSome) left
   refine⟨2*(left.filter fun r => !(aZ (E'.map dB) (.inr r)).isSome).length+(if o9=[] then 0 else 1),?_,lp',Cw,_,o9,E',rfl,rfl,OH.trans n9.same,n9.at,n9.same _ _ Mk,by first|lia|omega,by first|lia|omega,n9.same _ _ c8.at,n9.same _ _ OK,Qm.same n9.same,h2,fun r hr =>?_,fun r hr =>?_,fun r hr =>?_,fun hE r hr =>?_⟩
   ·by_cases hf:o9=[]
    ·rw[if_pos hf]; (first|lia|omega)
    ·rw[if_neg hf]
     obtain⟨x,hx⟩:=List.exists_mem_of_ne_nil _ hf
     have:(left.filter fun r => !(aZ (E'.map dB) (.inr r)).isSome).length<left.length:=by
      refine List.length_filter_lt_length_iff_exists.mpr ⟨x,((fm' x).mp hx).1,?_⟩
      rw[gE.mpr ((I0 x).mpr (.inr hx))];decide
     (first|lia|omega)
   ·rcases(I0 r).mp hr with h|h
    ·exact e1 r h
    ·exact(e2 r ((fm' r).mp h).1).1
   ·obtain⟨a1,a2⟩:=(Dj r).mp hr
    exact⟨(e2 r a1).1,a2⟩
   ·rcases e3 r hr with h|h
    ·by_cases z:r∈E'
     ·exact .inr z
     ·exact .inl ((Dj r).mpr ⟨h,z⟩)
    ·exact .inr ((I0 r).mpr (.inl h))
   ·obtain⟨a1,a2⟩:=(Dj r).mp hr
    have Hd:¬ ∀q∈B,∀r',Bh q r r'->r'∈E:=fun h=>by
     have:=(fm' r).mpr ⟨a1,h⟩
     rw[hE] at this;cases this
    refine Classical.byContradiction fun z=>Hd fun q hq r' hb =>?_
    refine Classical.byContradiction fun hn=>z ⟨q,hq,r',hb,fun h =>?_⟩
    rcases(I0 r').mp h with h|h
    ·exact hn h
    ·rw[hE] at h;cases h
 intro σ H5 hz_
 refine ae.el hz_ _ ?_
 clear hz_
 rintro lp fp E rfl s5 hd5 e1 e2
 exact⟨_,rfl,q d E H5 s5 Kk hd5 e1 e2⟩
end
theorem Bh.O0 {B:List (Str×Str)}(g:bB B){q:Str×Str}{x r:Str}(hq:q∈B)(hx:hX B x)(h:Bh q x r):hX B r:=by
 obtain⟨h,hr⟩:=h
 have rl:0<(sg r).length:=by
  cases e:sg r with
  | nil=>exact absurd (fY (e.trans (by decide +kernel:sg ("" : Str)=[]).symm)) hr
  | cons a l=>exact Nat.succ_pos _
 have Dl:=hx.len g
 have xs:x.length=(sg x).length:=str_len _
 have qs:q.2.length=(sg q.2).length:=str_len _
 have qp:=(g.cd q hq).pos
 unfold i8 at h
 split at h
 ·injection h with h
  have e:=gj (x:=x) q.2.length
  rw[h] at e
  obtain⟨p,hp,a,a1,a2,ea⟩:=hx
  refine⟨p,hp,a+q.2.length,by first|lia|omega,?_,?_⟩
  ·have:=congrArg Wk e
   rw[Ud,ea,Ud] at this
   (first|lia|omega)
  ·rw[e,ea,List.drop_drop]
 ·split at h
  ·injection h with h
   have e:=gj (x:=q.2) x.length
   rw[h] at e
   refine⟨q,hq,x.length,by first|lia|omega,?_,e⟩
   have:=congrArg Wk e
   rw[Ud] at this
   (first|lia|omega)
  ·cases h
structure F0 (B:List (Str×Str))(E:List Str):Prop where
 go:∀r,hX B r->r∉E->∃q∈B,∃r',Bh q r r'/\r'∉E
noncomputable def ET (K:Ja):Sp:=fun vs H Q _=>HW fun(l d a:Addr) (B:List (Str×Str)) (E:List Str) (x:Str) (b:Bool)=>vs=[.ref l,.ref d,.ref a]/\kc K H B l/\bB B/\H d=some (.dK (E.map dB))/\F0 B E/\H a=some (.tup [.str x,.bl b])/\hX B x/\x∉E /\
 ∀(q:Str×Str) (z a':Addr) (r:Str) (b':Bool) (H':Hp),au H H'->H' z=some (.tup [.str q.1,.ref a'])->H' a'=some (.tup [.str r,.bl b'])->q∈B->hX B r->r∉E->Q (.ref z) H'
section
variable {P:Program}{w:World}{K:Ja}{mg:Str->Option Value}{base:Heap}{f:Addr}{fd:FuncData}
theorem bz:aM ["book", "ending", "stand", "lag", "ahead", "steps", "name", "code", "later"] ["book", "ending", "stand"] (ay (top dW)):=⟨rfl,rfl,rfl,by decide +kernel,rfl,by decide +kernel,by decide +kernel⟩
theorem Hk (F:cX K "endless_step" "endless_step" (top dW) f fd)(T:Nm mg)(eK:Fn P w K mg base 2 "lags_behind" ["book", "lag"] (zC K)):bA P w K mg base fQ 3 f fd ["book", "ending", "stand"] (ET K):=by
 refine F.ok bz (fun vs H Q E h =>?_) (fun di A outer s H vs Q E hr h =>?_)
 ·obtain⟨l,d,a,B,E,x,b,rfl,_⟩:=h
  rfl
 obtain⟨l,d,a,B,E,x,b,rfl,hB,gB,hd,ek,ha,hx,hxE,q⟩:=h
 have hu:=gF hr
 have Dl:=hx.len gB
 have small:∀{n:Nat},n<=1000->n<sizeLine:=fun h=>Jx h (by decide)
 refine⟨_,(ah (fB (pv 2) (tupK K 2 rfl (ar (ai (i:=3) bz.nd rfl (Or.inl rfl)) (ar (ai (i:=4) bz.nd rfl (Or.inl rfl)) bp))))
  (ah (bJ (i:=5) bz.nd rfl (Or.inl rfl) rfl (aO (Nc:=["step"]) (Fc:=["ending"]) (js:=[1])) (iE K (aJ (eK.mono (by first|decide|exact Jc _|(first|lia|omega))) hr rfl (aa (pv 0) (aa (pv 3) ag)))) (aA (i:=0) (n:=1) (by decide)) (fun _ _ _ _ _=>(ai (i:=0) (show(["step", "ending"]:List Str).Nodup by decide +kernel) rfl (Or.inl rfl))) (fun _ _ _ _ _=>(eg (kT (dN hu (bt (gP K) (pv 0) aj (fun _ _=>rfl)) (pv 1))))) (fun _ _ _ _ _=>(pv 0)))
  (ah (fB (bt (gP K) (pv 5) aj (fun _ _=>rfl)) (tupK K 3 rfl (ar (ai (i:=6) bz.nd rfl (Or.inl rfl)) (ar (ai (i:=7) bz.nd rfl (Or.inl rfl)) (ar (ai (i:=8) bz.nd rfl (Or.inl rfl)) bp)))))
  (ak (aI (dj (aa (pv 6) (aa (dj (aa (pv 8) (aa (yu (aP iK (av (dA K) rfl T.n_len (by rfl) (aa (pv 7) ag)) (av (dA K) rfl T.n_len (by rfl) (aa (pv 3) ag)) (aY _)) (pv 4) (w4 (pv 4))) ag))) ag)))))))),?_⟩
 refine⟨_,rfl,a,_,rfl,d9.of ha,rfl,_,_,rfl,_,_,rfl,rfl,?_⟩
 dsimp only
 refine bG (te:=dz _ _ _ _ _ _) (fun v H'=>cj fun(p:Addr) (as:List FA)=>v = .ref p/\au H H'/\H' p=some (.lst (as.map fun z=>V.ref z.1))/\as≠[]/\∀z∈as,w5 H' z/\z.2.1∈B/\Bh z.2.1 x z.2.2/\z.2.2∉E) (fun Qn qn =>?_) ?_
 ·refine⟨_,rfl,_,rfl,l,x,B,rfl,hB,gB,by first|lia|omega,fun as p1 H1 s1 hp10 gW al FZ hcv =>?_⟩
  have GX:∀{j:Nat} (hj:j<as.length),(as.map fun z=>V.ref z.1)[j]? = some (.ref as[j].1):=fun hj=>by rw[Jm,Je hj];rfl
  refine⟨p1,rfl,⟨_,aG.of gW⟩,?_⟩
  refine cY (N:=as.length) (fun i ys H'=>H'=H1/\ys=((as.take i).filter fun z => !(aZ (E.map dB) (.inr z.2.2)).isSome).map fun z=>V.ref z.1) ⟨rfl,rfl⟩ ?_ ?_
  ·rintro i ys H2 Ny hi ⟨rfl,rfl⟩ ny
   refine⟨⟨_,_,aG.of gW,GX hi⟩,?_,?_⟩
   ·rw[Jb]
    have h1:=List.length_filter_le (fun z:FA => !(aZ (E.map dB) (.inr z.2.2)).isSome) (as.take i)
    rw[Jw] at h1
    exact small (by first|lia|omega)
   rintro y H3 ⟨rfl,hy⟩
   have e:=hy _ (aG.of gW)
   rw[GX hi] at e;cases e
   have hz:=(FZ _ (Jt hi)).1
   have dH:=aL hi
   generalize as[i]=z at hz dH
   refine gn ⟨_,rfl,.inr (.inl ⟨z.1,_,2,.str z.2.2,rfl,rfl,d9.of hz,rfl,?_⟩)⟩
   cases hv:aZ (E.map dB) (.inr z.2.2) with
   | none=>
    refine⟨_,rfl,d,none,rfl,.inl ⟨_,.inr z.2.2,.inl (s1 _ _ hd),rfl,hv.symm⟩,_,rfl,bD ⟨_,rfl,ny _ _ ⟨rfl,?_⟩⟩⟩
    rw[dH,List.filter_append,List.filter_cons,hv,if_pos (by rfl),Jl];rfl
   | some v=>
    refine⟨_,rfl,d,some v,rfl,.inl ⟨_,.inr z.2.2,.inl (s1 _ _ hd),rfl,hv.symm⟩,_,rfl,cg (ny _ _ ⟨rfl,?_⟩)⟩
    rw[dH,List.filter_append,List.filter_cons,hv,if_neg (fun z=>nomatch z),List.filter_nil,U5]
  ·rintro ys H2 ⟨rfl,rfl⟩
   refine⟨⟨_,aG.of gW,by rw[Jb];exact Jc _⟩,fun p H3 n3 =>?_⟩
   rw[Ui] at n3
   have fm:∀z,z∈as.filter (fun z:FA => !(aZ (E.map dB) (.inr z.2.2)).isSome)↔z∈as/\z.2.2∉E:=fun z=>by
    rw[List.mem_filter]
    refine and_congr Iff.rfl ⟨fun h y =>?_,fun h =>?_⟩
    ·rw[gE.mpr y] at h;cases h
    ·cases hs:(aZ (E.map dB) (.inr z.2.2)).isSome with
     | false=>rfl
     | true=>exact absurd (gE.mp hs) h
   refine qn _ _ ⟨p,_,rfl,s1.trans n3.same,n3.at,fun z =>?_,fun z hz =>?_⟩
   ·refine ae.el (ek.go x hx hxE) _ ?_
    rintro q' hq' r' hb hn
    refine ae.el (hcv q' hq' r' hb) _ ?_
    rintro y hy e
    have:=(fm y).mpr ⟨hy,by rw[e];exact hn⟩
    rw[z] at this;cases this
   ·obtain⟨h1,h2⟩:=(fm z).mp hz
    refine ae.el (FZ z h1) _ ?_
    rintro h3 h4 h5
    exact⟨n3.same _ _ h3,h4,h5,h2⟩
 intro v H1 hz_
 refine ae.el hz_ _ ?_
 clear hz_
 rintro p1 as rfl s1 gW jZ has
 refine gn ?_
 obtain⟨z,as',rfl⟩:∃z as',as=z::as':=by cases as with|nil=>exact absurd rfl jZ|cons z r=>exact⟨z,r,rfl⟩
 refine ae.el (has z Jk) _ ?_
 rintro hz hzB hzb hzE
 have JN:=(gB.cd _ hzB).le
 refine⟨_,rfl,.inl ⟨p1,_,0,.ref z.1,rfl,rfl,aG.of gW,fE (by decide) rfl,z.1,_,rfl,d9.of hz,rfl,_,_,rfl,_,_,rfl,_,_,rfl,rfl,?_⟩⟩
 have fin:∀b':Bool,∀a' H2,cV H1 a' (.tup [.str z.2.2,.bl b']) H2->([V.str z.2.1.1,.ref a']:List V).length<=sizeLine/\∀p H3,cV H2 p (.tup [.str z.2.1.1,.ref a']) H3->Q (.ref p) H3:=fun b' a' H2 n2=>⟨by show 2<=sizeLine;decide,fun p H3 n3=>q z.2.1 p a' z.2.2 b' H3 (s1.trans (n2.same.trans n3.same)) n3.at (n3.same _ _ n2.at) hzB (hzb.O0 gB hzB hx) hzE⟩
 refine⟨_,rfl,_,rfl,_,rfl,_,_,rfl,⟨sizeOk (by first|lia|omega),rfl⟩,_,rfl,_,_,rfl,⟨sizeOk (by first|lia|omega),rfl⟩,_,_,rfl,rfl,_,rfl,gM (fun c =>?_) (fun c =>?_)⟩
 ·exact⟨_,rfl,by show 2<=sizeLine;decide,fun a' H2 n2=>fin _ a' H2 n2⟩
 ·exact⟨_,rfl,_,rfl,by show 2<=sizeLine;decide,fun a' H2 n2=>fin _ a' H2 n2⟩
end
noncomputable abbrev Sn:=Addr×Str×Bool
noncomputable def lO (z:Str×Bool):PyData := .tuple [.str z.1,.bool z.2]
theorem kg (y z:Str×Bool):PyData.eqv (lO y) (lO z)=decide (y=z):=by
 obtain⟨a,b⟩:=y
 obtain⟨c,d⟩:=z
 unfold lO
 simp only[PyData.eqv,PyData.eqvAll]
 by_cases h1:a=c
 ·by_cases h2:b=d
  ·subst h1 h2;simp
  ·rw[decide_eq_false (fun z=>h2 (by injection z))]
   subst h1
   cases b<;>cases d<;>first|exact absurd rfl h2|simp
 ·rw[decide_eq_false (fun z=>h1 (by injection z))]
  simp[h1]
theorem oz {x:Str}{b:Bool}(h:tP x):Sh 1 (lO (x,b)):=Sh.tuple (n:=0) fun d hd=>by
 rcases Uc.mp hd with rfl|hd
 ·exact Sh.str (fI fun ch hc=>by rcases h ch hc with e|e<;>(first|lia|omega))
 ·rw[Jg.mp hd];exact⟨by simp[PyData.canLay0],by simp[PyData.depth]⟩
theorem tZ {z:Str×Bool}{L:List (Str×Bool)}:inD (lO z) (L.map lO)=true↔z∈L:=by
 unfold inD
 rw[List.any_map,List.any_eq_true]
 refine⟨fun⟨y,hy,e⟩=>?_,fun h=>⟨z,h,?_⟩⟩
 ·have e:PyData.eqv (lO y) (lO z)=true:=e
  rw[kg] at e
  rw[<-of_decide_eq_true e];exact hy
 ·show PyData.eqv (lO z) (lO z)=true
  rw[kg];exact decide_eq_true rfl
theorem xV {α:Type}[DecidableEq α]{y: α}:∀{xs:List α},y∈xs->∃j:Nat,xs[j]? = some y/\∀m,m<j->xs[m]? ≠ some y
 | x::xs,h=>by
  by_cases e:x=y
  ·exact⟨0,by rw[e];rfl,fun m hm=>absurd hm (Nat.not_lt_zero _)⟩
  ·refine ae.el (xV ((Uc.mp h).resolve_left (Ne.symm e))) _ ?_
   rintro j h1 h2
   refine⟨j+1,h1,fun m hm =>?_⟩
   cases m with
   | zero=>exact fun z=>e (Option.some.inj z)
   | succ m=>exact h2 m (by first|lia|omega)
theorem hX.NX {B:List (Str×Str)}{r:Str}(h:hX B r):K0 B r:=by
 obtain⟨q,hq,a,_,_,e⟩:=h
 exact⟨q,hq,e▸List.drop_suffix _ _⟩
theorem hX.bin {B:List (Str×Str)}(g:bB B){r:Str}(h:hX B r):tP r:=fun ch hc=>by
 obtain⟨q,hq,hs⟩:=h.NX
 exact(g.cd q hq).bin ch (hs.subset hc)
theorem NN {bk:List (Str×Str)}(g:bB bk):∀{ps:List (Str×Str)},Of bk ps->(tx ps).length<=12*ps.length
 | [],_=>Jc _
 | q::ps,o=>by
  have h1:=NN g (ps:=ps) fun r hr=>o r (Jh _ hr)
  have h2:=(g.cd q (o q Jk)).le
  have h3:q.2.length=(sg q.2).length:=str_len _
  show((q::ps).flatMap fun q=>sg q.2).length<=_
  rw[List.flatMap_cons,Jf,J8]
  change (sg q.2).length+(tx ps).length<=_
  (first|lia|omega)
noncomputable def gH (K:Ja)(H:Hp)(L:List Sn):Prop:=∀z∈L,H z.1=some (.tup [.str z.2.1,.bl z.2.2])
theorem gH.den {K:Ja}{H:Hp}:∀{L:List Sn},gH K H L->az K H ((L.map (·.2)).map lO) (L.map fun z=>V.ref z.1)
 | [],_=>by unfold az;rfl
 | z::L,h=>by
  rw[Ub,Ub,Ub]
  unfold az
  refine⟨_,_,rfl,?_,gH.den fun y hy=>h y (Jh _ hy)⟩
  unfold lO Den
  refine⟨z.1,_,rfl,d9.of (h z Jk),?_⟩
  unfold az
  refine⟨_,_,rfl,(by unfold Den;rfl),?_⟩
  unfold az
  refine⟨_,_,rfl,(by unfold Den;rfl),?_⟩
  unfold az
  rfl
theorem gH.keep {K:Ja}{H H':Hp}{L:List Sn}(h:gH K H L)(k:∀a vs,H a=some (.tup vs)->H' a=some (.tup vs)):gH K H' L:=fun z hz=>k _ _ (h z hz)
noncomputable def AY (K:Ja):Sp:=fun vs H Q _=>zT fun(l d:Addr) (B:List (Str×Str)) (E:List Str) (x:Str)=>vs=[.ref l,.ref d,.str x]/\kc K H B l/\bB B/\H d=some (.dK (E.map dB))/\F0 B E/\hX B x/\x∉E /\
 ∀(z p q:Addr) (n:Int) (ps qs:List (Str×Str)) (H':Hp),au H H'->H' z=some (.tup [.ref p,.ref q,.int n])->H' p=some (.lst ((ps.map (·.1)).map V.str))->H' q=some (.lst ((qs.map (·.1)).map V.str))->Of B ps->Of B qs->ps.length<=420->qs.length<=420 -> -20<=n->n<=6000->Q (.ref z) H'
noncomputable def xx (K:Ja):Sp:=fun vs H Q _=>pd fun(l p:Addr) (B ps:List (Str×Str))=>vs=[.ref l,.ref p]/\kc K H B l/\bB B/\ps.length<=1000/\H p=some (.lst ((ps.map (·.1)).map V.str))/\Of B ps/\∀H',au H H'->Q (.str (jU ps)) H'
section
variable {P:Program}{w:World}{K:Ja}{mg:Str->Option Value}{base:Heap}{f:Addr}{fd:FuncData}
noncomputable def Fy (B:List (Str×Str))(H:Hp)(ss:List Addr):Prop:=∀(i:Nat),i<ss.length->zT fun(sa t:Addr) (y:Str) (c:Bool) (nm:Str×Str)=>(ss.map V.ref)[i]? = some (.ref sa)/\H sa=some (.tup [.ref t,.str nm.1])/\H t=some (.tup [.str y,.bl c])/\nm∈B
theorem Fy.same {B:List (Str×Str)}{H H':Hp}{ss:List Addr}(h:Fy B H ss)(s:au H H'):Fy B H' ss:=fun i hi=>by
 refine ae.el (h i hi) _ ?_
 rintro sa t y c nm e1 e2 e3 e4
 exact⟨sa,t,y,c,nm,e1,s _ _ e2,s _ _ e3,e4⟩
theorem uA {op:V->V->Hp->VK->Prop}(ho:∀(c b:Bool) (H:Hp) (Q:VK),(∀z,Q (.bl z) H)->op (.bl c) (.bl b) H Q){ss:List Addr}{H:Hp}{B:List (Str×Str)}{p6:Addr}{x0 x1 x2 x3 x4 x5 x6 x9 zA:Option V}{b:Bool}{Qn:VK}(dl:ss.length<=416)(h6:H p6=some (.lst (ss.map V.ref)))(st:Fy B H ss)
  (qn:∀(p:Addr) (us:List (Str×Str)) (H':Hp),cV H p (.lst ((us.map (·.1)).map V.str)) H'->us.length<=416->Of B us->Qn (.ref p) H') :
  dz (uc K (g7 8)) [Str.ofString "later",Str.ofString "side",Str.ofString "name"].length [7] (nJ K 2 (eV (nJ K 2 (eV (cM 0) (eV (cM 1) pR))) (eV (cM 2) pR))) (ze (zZ op (g7 1) (g7 3))) (g7 2)
   [x0,x1,x2,x3,x4,x5,x6,some (.bl b),some (.ref p6),x9,zA] H Qn:=by
 refine⟨_,rfl,p6,rfl,⟨_,aG.of h6⟩,?_⟩
 refine cY (N:=ss.length) (fun i ys H'=>H'=H/\∃us:List (Str×Str),ys=(us.map (·.1)).map V.str/\us.length<=i/\Of B us) ⟨rfl,[],rfl,Jc _,fun _ h=>nomatch h⟩ ?_ ?_
 ·intro i ys H7 Ny hi hz_ ny
  refine ae.el hz_ _ ?_
  clear hz_
  rintro rfl us rfl ul uo
  refine ae.el (st i hi) _ ?_
  rintro sa t y c nm e1 e2 e3 hnm
  refine⟨⟨_,_,aG.of h6,e1⟩,Jx (show _<=1000 by rw[Jb,Jb]; (first|lia|omega)) (by decide),?_⟩
  rintro z H8 ⟨rfl,hy⟩
  have e:=hy _ (aG.of h6)
  rw[e1] at e;cases e
  refine⟨sa,_,rfl,d9.of e2,rfl,_,_,rfl,t,_,rfl,d9.of e3,rfl,_,_,rfl,_,_,rfl,rfl,_,_,rfl,rfl,?_⟩
  refine⟨_,rfl,_,rfl,ho _ _ _ _ fun q=>⟨_,rfl,gM (fun _=>⟨_,rfl,ny _ _ ⟨rfl,us++[nm],by rw[Jl,Jl];rfl,by rw[Jf];exact Wc ul,fun z hz =>?_⟩⟩) (fun _=>ny _ _ ⟨rfl,us,rfl,Nat.le_succ_of_le ul,uo⟩)⟩⟩
  rcases Jq.mp hz with hz|hz
  ·exact uo z hz
  ·rw[Jg.mp hz];exact hnm
 ·intro ys H7 hz_
  refine ae.el hz_ _ ?_
  clear hz_
  rintro rfl us rfl ul uo
  exact⟨⟨_,aG.of h6,by rw[Jb];exact Jc _⟩,fun p H' n=>qn p us _ n (by first|lia|omega) uo⟩
theorem bg:aM ["book", "ending", "lag", "stands", "names", "stand", "name", "ahead", "steps", "one", "other"] ["book", "ending", "lag"] (ay (top gi)):=⟨rfl,rfl,rfl,by decide +kernel,rfl,by decide +kernel,by decide +kernel⟩
theorem Gz (F:cX K "ring_from" "ring_from" (top gi) f fd)(T:Nm mg)(lM:Fn P w K mg base 3 "endless_step" ["book", "ending", "stand"] (ET K))(jg:Fn P w K mg base 3 "written" ["book", "names"] (xx K)):bA P w K mg base fQ 4 f fd ["book", "ending", "lag"] (AY K):=by
 refine F.ok bg (fun vs H Q E h =>?_) (fun di A outer s H vs Q E hr h =>?_)
 ·obtain⟨l,d,B,E,x,rfl,_⟩:=h
  rfl
 unfold AY at h
 refine ae.el h _ ?_
 clear h
 rintro l d B E x0 rfl hB gB hd ek hx0 hx0E q
 have hU:=hr.units
 have HC:=Bz hr
 have Rb:=yC gB.cd
 have hle:=gB.le
 have small:∀{n:Nat},n<=1000->n<sizeLine:=fun h=>Jx h (by decide)
 refine⟨_,(ah (aE (i:=3) bg.nd rfl (Or.inl rfl) (dg ag))
  (ah (aE (i:=4) bg.nd rfl (Or.inl rfl) (dg ag))
  (ah (aE (i:=5) bg.nd rfl (Or.inl rfl) (dj (aa (pv 2) (aa eW ag))))
  (ah (lR PassesOwn.never (aP (AL K HC) (pv 5) (pv 3) (by with_unfolding_all rfl)) (ah (d7 (si K PySem.F.plainAttrs_list PySem.F.slot_list_append PySem.F.type_list_append gQ (pv 3) (aa (pv 5) ag)))
  (ah (fB (aJ (lM.mono (by first|decide|exact Jc _|(first|lia|omega))) hr rfl (aa (pv 0) (aa (pv 1) (aa (pv 5) ag)))) (tupK K 2 rfl (ar (ai (i:=6) bg.nd rfl (Or.inl rfl)) (ar (ai (i:=5) bg.nd rfl (Or.inl rfl)) bp))))
  (ak (d7 (si K PySem.F.plainAttrs_list PySem.F.slot_list_append PySem.F.type_list_append gQ (pv 4) (aa (pv 6) ag)))))))
  (ah (fB (pv 5) (tupK K 2 rfl (ar (ai (i:=2) bg.nd rfl (Or.inl rfl)) (ar (ai (i:=7) bg.nd rfl (Or.inr rfl)) bp))))
  (ah (aE (i:=8) bg.nd rfl (Or.inl rfl) (bC (uR K) (lU rfl rfl T.n_list rfl T.n_zip (aa (pv 3) (aa (pv 4) ag))) (bN (si K PySem.F.plainAttrs_list PySem.F.slot_list_index PySem.F.type_list_index (CP K HC) (pv 3) (aa (pv 5) ag))) bQ))
  (ah (bJ (i:=9) bg.nd rfl (Or.inl rfl) rfl (aO (Nc:=["later", "side", "name"]) (Fc:=["ahead"]) (js:=[7])) (iE K (pv 8)) (dF (aK (dF (aK (aA (i:=0) (n:=3) (by decide)) (aK (aA (i:=1) (n:=3) (by decide)) cR aB aR) aB (aX aB aR))) (aK (aA (i:=2) (n:=3) (by decide)) cR aB aR) (yn (aX aB (aX aB aR))) (aX aB aR))) (fun _ _ _ _ _=>(tupK K 2 rfl (ar (tupK K 2 rfl (ar (ai (i:=0) (show(["later", "side", "name", "ahead"]:List Str).Nodup by decide +kernel) rfl (Or.inl rfl)) (ar (ai (i:=1) (show(["later", "side", "name", "ahead"]:List Str).Nodup by decide +kernel) rfl (Or.inl rfl)) bp))) (ar (ai (i:=2) (show(["later", "side", "name", "ahead"]:List Str).Nodup by decide +kernel) rfl (Or.inl rfl)) bp)))) (fun _ _ _ _ _=>(eg (aP (yk K hU) (pv 1) (pv 3) (aY _)))) (fun _ _ _ _ _=>(pv 2)))
  (ah (bJ (i:=10) bg.nd rfl (Or.inl rfl) rfl (aO (Nc:=["later", "side", "name"]) (Fc:=["ahead"]) (js:=[7])) (iE K (pv 8)) (dF (aK (dF (aK (aA (i:=0) (n:=3) (by decide)) (aK (aA (i:=1) (n:=3) (by decide)) cR aB aR) aB (aX aB aR))) (aK (aA (i:=2) (n:=3) (by decide)) cR aB aR) (yn (aX aB (aX aB aR))) (aX aB aR))) (fun _ _ _ _ _=>(tupK K 2 rfl (ar (tupK K 2 rfl (ar (ai (i:=0) (show(["later", "side", "name", "ahead"]:List Str).Nodup by decide +kernel) rfl (Or.inl rfl)) (ar (ai (i:=1) (show(["later", "side", "name", "ahead"]:List Str).Nodup by decide +kernel) rfl (Or.inl rfl)) bp))) (ar (ai (i:=2) (show(["later", "side", "name", "ahead"]:List Str).Nodup by decide +kernel) rfl (Or.inl rfl)) bp)))) (fun _ _ _ _ _=>(eg (aP (E8 K hU) (pv 1) (pv 3) (aY _)))) (fun _ _ _ _ _=>(pv 2)))
  (ak (aI (dj (aa (pv 9) (aa (pv 10) (aa (aF rX (av (dA K) rfl T.n_len (by rfl) (aa (aJ (jg.mono (by first|decide|exact Jc _|(first|lia|omega))) hr rfl (aa (pv 0) (aa (pv 9) ag))) ag)) (av (dA K) rfl T.n_len (by rfl) (aa (pv 2) ag))) ag)))))))))))))),?_⟩
 refine⟨by show 0<=sizeLine;decide,fun sp H1 n1=>gn ⟨by show 0<=sizeLine;decide,fun np H2 n2=>gn ⟨_,rfl,by show 2<=sizeLine;decide,fun a0 H3 n3=>gn ?_⟩⟩⟩
 have LL:H sp=none:=n1.nn
 have MN:H np=none:=n1.back n2.nn
 have Gf:sp≠np:=aq n1.at n2.nn
 have s3:=n1.same.trans (n2.same.trans n3.same)
 rw[show(List.set _ _ _:L2.St)=[some (.ref l),some (.ref d),some (.str x0),some (.ref sp),some (.ref np),some (.ref a0),none,none,none,none,none] from rfl]
 dsimp only
 have cnt:∀{L:List Sn},(L.map (·.2)).Nodup->(∀z∈L,hX B z.2.1)->L.length<=416:=fun{L} nd h=>by
  have h1:=fF (m:=(A7 B).flatMap fun r=>[(r,true),(r,false)]) nd fun z hz=>by
   refine ae.el (Um.mp hz) _ ?_
   rintro y hy rfl
   refine List.mem_flatMap.mpr ⟨y.2.1,(h y hy).NX.mem,?_⟩
   cases e:y.2.2 with
   | true=>exact Uc.mpr (.inl (by rw[<-e]))
   | false=>exact Jh _ (Jg.mpr (by rw[<-e]))
  have h2:∀l:List Str,(l.flatMap fun r=>[(r,true),(r,false)]).length=2*l.length:=fun l=>by
   induction l with
   | nil=>rfl
   | cons a l ih=>rw[List.flatMap_cons,Jf,ih,J8];show 2+2*l.length=2*(l.length+1); (first|lia|omega)
  rw[Jb,h2] at h1
  (first|lia|omega)
 let J:Nat->L2.St->Hp->Prop:=fun m σ H'=>Br fun(a:Addr) (x:Str) (b:Bool) (L:List Sn) (qs:List (Str×Str)) (x6:Option V) =>σ=[some (.ref l),some (.ref d),some (.str x0),some (.ref sp),some (.ref np),some (.ref a),x6,none,none,none,none]/\m=500-L.length/\au H H'/\H' sp=some (.lst (L.map fun z=>V.ref z.1))/\H' np=some (.lst ((qs.map (·.1)).map V.str))/\H' a=some (.tup [.str x,.bl b])/\hX B x/\x∉E/\gH K H' L/\(∀z∈L,hX B z.2.1)/\(L.map (·.2)).Nodup/\qs.length=L.length/\Of B qs
 refine dU (t:=kX _ _) (fun σ H'=>Br fun(a:Addr) (x:Str) (b:Bool) (L:List Sn) (qs:List (Str×Str)) (x6:Option V) =>σ=[some (.ref l),some (.ref d),some (.str x0),some (.ref sp),some (.ref np),some (.ref a),x6,none,none,none,none]/\au H H'/\H' sp=some (.lst (L.map fun z=>V.ref z.1))/\H' np=some (.lst ((qs.map (·.1)).map V.str))/\H' a=some (.tup [.str x,.bl b])/\hX B x/\gH K H' L/\(∀z∈L,hX B z.2.1)/\L.length<=416/\qs.length=L.length/\Of B qs/\(x,b)∈L.map (·.2)) (fun Nx nx =>?_) ?_
 ·refine nR J ⟨_,a0,x0,true,[],[],none,rfl,rfl,s3,n3.same _ _ (n2.same _ _ n1.at),n3.same _ _ n2.at,n3.at,hx0,hx0E,(fun z h=>nomatch h),(fun z h=>nomatch h),List.nodup_nil,rfl,fun z h=>nomatch h⟩ ?_
  intro m σ H4 hz_
  refine ae.el hz_ _ ?_
  clear hz_
  rintro a x b L qs x6 rfl rfl s4 oW hnp ha hx hxE hL hLl nd ql oq
  have hl:=cnt nd hLl
  have Kt:∀e∈(L.map (·.2)).map lO,SeqAt.shaped e=true:=fun e he=>by
   refine ae.el (Um.mp he) _ ?_
   rintro y hy rfl
   refine ae.el (Um.mp hy) _ ?_
   rintro z hz rfl
   exact(oz (b:=z.2.2) ((hLl z hz).bin gB)).shaped (by decide)
  have Dq:Den K H4 (lO (x,b)) (.ref a):=by
   have:=(gH.den (K:=K) (H:=H4) (L:=[(a,x,b)]) fun z hz=>by rw[Jg.mp hz];exact ha)
   unfold az at this
   obtain⟨v,r,e,h1,_⟩:=this
   cases e
   exact h1
  refine⟨_,rfl,_,rfl,sp,_,lO (x,b),_,rfl,.inl (aG.of oW),Dq,hL.den,(oz (hx.bin gB)).1,Kt,_,rfl,?_⟩
  rw[if_pos rfl]
  by_cases d4:(x,b)∈L.map (·.2)
  ·rw[tZ.mpr d4]
   exact cg (nx _ _ ⟨a,x,b,L,qs,x6,rfl,s4,oW,hnp,ha,hx,hL,hLl,hl,ql,oq,d4⟩)
  ·have e:inD (lO (x,b)) ((L.map (·.2)).map lO)=false:=by
    cases h:inD (lO (x,b)) ((L.map (·.2)).map lO) with
    | false=>rfl
    | true=>exact absurd (tZ.mp h) d4
   rw[e]
   refine bD ⟨fun σ' H'=>∃m',m'<500-L.length/\J m' σ' H',fun _ _ h=>h,?_⟩
   refine⟨_,rfl,.inl ⟨rfl,_,aG.of oW⟩,_,rfl,sp,_,_,rfl,rfl,oW,small (by rw[Jb]; (first|lia|omega)),fun H5 c5 =>?_⟩
   have k5:∀a vs,H4 a=some (.tup vs)->H5 a=some (.tup vs):=fun a vs e=>by rw[c5.ne (fun z=>by rw[z,oW] at e;cases e)];exact e
   have s5:au H H5:=fun b o e=>by rw[c5.ne (aq e LL)];exact s4 b o e
   have Km:H5 np=some (.lst ((qs.map (·.1)).map V.str)):=by rw[c5.ne (Ne.symm Gf)];exact hnp
   refine⟨_,rfl,_,rfl,_,rfl,l,d,a,B,E,x,b,rfl,hB.same s5,gB,s5 _ _ hd,ek,k5 _ _ ha,hx,hxE,fun q' z a' r b' H6 s6 hz ha' hqB hrL hrE=>⟨z,_,rfl,d9.of hz,rfl,_,_,rfl,_,_,rfl,rfl,?_⟩⟩
   have DW:=s6 _ _ Km
   refine⟨_,rfl,.inl ⟨rfl,_,aG.of DW⟩,_,rfl,np,_,_,rfl,rfl,DW,small (by rw[Jb,Jb]; (first|lia|omega)),fun H7 c7 =>?_⟩
   have k7:∀a vs,H6 a=some (.tup vs)->H7 a=some (.tup vs):=fun a vs e=>by rw[c7.ne (fun z=>by rw[z,DW] at e;cases e)];exact e
   have kk:∀a vs,H4 a=some (.tup vs)->H7 a=some (.tup vs):=fun a vs e=>k7 _ _ (s6 _ _ (k5 _ _ e))
   refine⟨500-(L.length+1),by first|lia|omega,a',r,b',L++[(a,x,b)],qs++[q'],_,rfl,by rw[Jf];rfl,fun b o e=>by rw[c7.ne (aq e MN)];exact s6 _ _ (s5 b o e),?_,?_,k7 _ _ ha',hrL,hrE,fun y hy =>?_,fun y hy =>?_,?_,by rw[Jf,Jf,ql];rfl,fun y hy =>?_⟩
   ·rw[c7.ne Gf,s6 _ _ c5.at,Jl];rfl
   ·rw[c7.at,Jl,Jl];rfl
   ·rcases Jq.mp hy with hy|hy
    ·exact kk _ _ (hL y hy)
    ·rw[Jg.mp hy];exact kk _ _ ha
   ·rcases Jq.mp hy with hy|hy
    ·exact hLl y hy
    ·rw[Jg.mp hy];exact hx
   ·rw[Jl];exact nN nd d4
   ·rcases Jq.mp hy with hy|hy
    ·exact oq y hy
    ·rw[Jg.mp hy];exact hqB
 intro σ H4 hz_
 refine ae.el hz_ _ ?_
 clear hz_
 rintro a x b L qs x6 rfl s4 oW hnp ha hx hL hLl hl ql oq d4
 refine ae.el (xV d4) _ ?_
 rintro j hj hjm
 have NT:j<L.length:=by
  have:=(Js.mp hj).1
  rw[Jb] at this
  exact this
 refine⟨_,rfl,a,_,rfl,d9.of ha,rfl,_,_,rfl,_,_,rfl,rfl,?_⟩
 rw[show(List.set _ _ _:L2.St)=[some (.ref l),some (.ref d),some (.str x),some (.ref sp),some (.ref np),some (.ref a),x6,some (.bl b),none,none,none] from rfl]
 dsimp only
 refine bG (te:=JR _ _ _ _) (fun v H'=>cj fun(p6:Addr) (ss:List Addr)=>v = .ref p6/\au H4 H'/\H' p6=some (.lst (ss.map V.ref))/\ss.length<=416/\Fy B H' ss) (fun Qn qn =>?_) ?_
 ·refine⟨_,rfl,_,rfl,sp,np,_,_,rfl,aG.of oW,aG.of hnp,fun H5 p5 as5 sm5 Bm hp5' hal5 hpairs5 =>?_⟩
  have Kt:∀e∈(L.map (·.2)).map lO,SeqAt.shaped e=true:=fun e he=>by
   refine ae.el (Um.mp he) _ ?_
   rintro y hy rfl
   refine ae.el (Um.mp hy) _ ?_
   rintro z hz rfl
   exact(oz (b:=z.2.2) ((hLl z hz).bin gB)).shaped (by decide)
  have NQ:gH K H5 L:=hL.keep fun a vs e=>sm5 _ _ e
  have Dq:Den K H5 (lO (x,b)) (.ref a):=by
   have:=(gH.den (K:=K) (H:=H5) (L:=[(a,x,b)]) fun z hz=>by rw[Jg.mp hz];exact sm5 _ _ ha)
   unfold az at this
   obtain⟨v,r,e,h1,_⟩:=this
   cases e
   exact h1
  have HJ:=sm5 _ _ oW
  refine⟨_,rfl,.inl ⟨rfl,_,aG.of HJ⟩,_,rfl,sp,_,.ref a,lO (x,b),_,j,rfl,rfl,HJ,Dq,NQ.den,(oz (hx.bin gB)).1,Kt,⟨lO (x,b),by rw[Jm,hj];rfl,by rw[kg];exact decide_eq_true rfl⟩,fun m e hm he =>?_,_,rfl,?_⟩
  ·rw[Jm] at he
   cases hy:(L.map (·.2))[m]? with
   | none=>rw[hy] at he;cases he
   | some y=>
    rw[hy] at he
    cases he
    rw[kg]
    exact decide_eq_false fun z=>hjm m hm (by rw[hy,z])
  dsimp only[dr]
  refine .inl ⟨p5,_,rfl,aG.of hp5',fun p6 H6 n6 =>?_⟩
  rw[zu,<-List.map_drop] at n6
  have Rp:as5.length=L.length:=by rw[hal5];simp only[Jb]; (first|lia|omega)
  have CD:=sm5.trans n6.same
  have fh:Fy B H6 (as5.drop j):=fun i hi=>by
   rw[Ud] at hi
   have e1:as5[j+i]? = some (as5[j+i]'(by first|lia|omega)):=Je (by first|lia|omega)
   have e2:(L.map fun z=>V.ref z.1)[j+i]? = some (.ref (L[j+i]'(by first|lia|omega)).1):=by rw[Jm,Je (by first|lia|omega)];rfl
   have e3:((qs.map (·.1)).map V.str)[j+i]? = some (.str (qs[j+i]'(by first|lia|omega)).1):=by rw[Jm,Jm,Je (by first|lia|omega)];rfl
   refine⟨_,_,_,_,qs[j+i]'(by first|lia|omega),?_,n6.same _ _ (hpairs5 _ _ _ _ e1 e2 e3).2,n6.same _ _ (NQ _ (Jt (show j+i<L.length by first|lia|omega))),oq _ (Jt _)⟩
   rw[Jm,Wg,e1];rfl
  have dl:(as5.drop j).length<=416:=by rw[Ud]; (first|lia|omega)
  exact qn _ _ ⟨p6,_,rfl,CD,n6.at,dl,fh⟩
 intro v H6 hz_
 refine ae.el hz_ _ ?_
 clear hz_
 rintro p6 ss rfl CD h6 dl fh
 refine gn ?_
 refine bG (te:=dz _ _ _ _ _ _) (fun v H'=>cj fun(p:Addr) (us:List (Str×Str))=>v = .ref p/\cV H6 p (.lst ((us.map (·.1)).map V.str)) H'/\us.length<=416/\Of B us) (fun Qn qn=>uA (fun c b H Q h =>.inl ⟨rfl,h _⟩) dl h6 fh fun p us H' n ul uo=>qn _ _ ⟨p,us,rfl,n,ul,uo⟩) ?_
 intro v H7 hz_
 refine ae.el hz_ _ ?_
 clear hz_
 rintro p7 us rfl n7 usl uso
 refine gn ?_
 have OT:=n7.same _ _ h6
 refine bG (te:=dz _ _ _ _ _ _) (fun v H'=>cj fun(p:Addr) (us:List (Str×Str))=>v = .ref p/\cV H7 p (.lst ((us.map (·.1)).map V.str)) H'/\us.length<=416/\Of B us) (fun Qn qn=>uA (fun c b H Q h =>.inl ⟨rfl,h _⟩) dl OT (fh.same n7.same) fun p us H' n ul uo=>qn _ _ ⟨p,us,rfl,n,ul,uo⟩) ?_
 intro v H8 hz_
 refine ae.el hz_ _ ?_
 clear hz_
 rintro p8 ws rfl n8 wsl wso
 refine gn ?_
 have G1:=n8.same _ _ n7.at
 have sH:au H H8:=s4.trans (CD.trans (n7.same.trans n8.same))
 have Dl:=hx.len gB
 have tl:(jU us).length<=12*us.length:=by
  rw[str_len]
  show(sg (jU us)).length<=_
  rw[lY]
  exact NN gB uso
 refine⟨_,rfl,_,rfl,_,rfl,_,rfl,l,p7,B,us,rfl,hB.same sH,gB,by first|lia|omega,G1,uso,fun H9 s9 =>?_⟩
 refine⟨_,_,rfl,⟨sizeOk (by first|lia|omega),rfl⟩,_,rfl,_,_,rfl,⟨sizeOk (by first|lia|omega),rfl⟩,_,_,rfl,rfl,by show 3<=sizeLine;decide,fun z H10 n10 =>?_⟩
 exact q z p7 p8 _ us ws H10 (sH.trans (s9.trans n10.same)) n10.at (n10.same _ _ (s9 _ _ G1)) (n10.same _ _ (s9 _ _ n8.at)) uso wso (by first|lia|omega) (by first|lia|omega) (by first|lia|omega) (by first|lia|omega)
end
noncomputable def Fi (K:Ja):Sp:=fun vs H Q _=>cj fun(l:Addr) (B:List (Str×Str))=>vs=[.ref l]/\kc K H B l/\bB B/\(∀H',au H H'->Q .non H') /\
 ∀(z p q:Addr) (n:Int) (ps qs:List (Str×Str)) (H':Hp),au H H'->H' z=some (.tup [.ref p,.ref q,.int n])->H' p=some (.lst ((ps.map (·.1)).map V.str))->H' q=some (.lst ((qs.map (·.1)).map V.str))->Of B ps->Of B qs->ps.length<=420->qs.length<=420 -> -20<=n->n<=6000->Q (.ref z) H'
section
variable {P:Program}{w:World}{K:Ja}{mg:Str->Option Value}{base:Heap}{f:Addr}{fd:FuncData}
theorem eQ:aM ["book", "ending", "endless"] ["book"] (ay (top fH)):=⟨rfl,rfl,rfl,by decide +kernel,rfl,by decide +kernel,by decide +kernel⟩
theorem FJ (F:cX K "never_ring" "never_ring" (top fH) f fd)(T:Nm mg)(my:Fn P w K mg base 5 "ending_lags" ["book"] (E4 K))(jf:Fn P w K mg base 4 "lags_of" ["book"] (Ap K))(pT:Fn P w K mg base 4 "ring_from" ["book", "ending", "lag"] (AY K)):bA P w K mg base fQ 6 f fd ["book"] (Fi K):=by
 refine F.ok eQ (fun vs H Q E h =>?_) (fun di A outer s H vs Q E hr h =>?_)
 ·obtain⟨l,B,rfl,_⟩:=h
  rfl
 obtain⟨l,B,rfl,hB,gB,q0,q1⟩:=h
 have hu:=gF hr
 have hU:=hr.units
 have small:∀{n:Nat},n<=1000->n<sizeLine:=fun h=>Jx h (by decide)
 refine⟨_,(ah (aE (i:=1) eQ.nd rfl (Or.inr rfl) (aJ (my.mono (by first|decide|exact Jc _|(first|lia|omega))) hr rfl (aa (pv 0) ag)))
  (ah (bJ (i:=2) eQ.nd rfl (Or.inl rfl) rfl (aO (Nc:=["lag"]) (Fc:=["ending"]) (js:=[1])) (iE K (aJ (jf.mono (by first|decide|exact Jc _|(first|lia|omega))) hr rfl (aa (pv 0) ag))) (aA (i:=0) (n:=1) (by decide)) (fun _ _ _ _ _=>(ai (i:=0) (show(["lag", "ending"]:List Str).Nodup by decide +kernel) rfl (Or.inl rfl))) (fun _ _ _ _ _=>(eg (kT (dN hu (pv 0) (pv 1))))) (fun _ _ _ _ _=>(pv 0)))
  (ah (cB (aP (E8 K hU) (pv 2) (dg ag) (aY _)) (ak (aI de)) bh)
  (ak (aI (aJ (pT.mono (by first|decide|exact Jc _|(first|lia|omega))) hr rfl (aa (pv 0) (aa (pv 1) (aa (bt (gP K) (pv 2) aj (fun _ _=>rfl)) ag))))))))),?_⟩
 refine⟨_,rfl,l,B,rfl,hB,gB,fun d E H1 s1 Kk KA eL ek=>gn ?_⟩
 dsimp only
 refine bG (te:=dz _ _ _ _ _ _) (fun v H'=>cj fun(p:Addr) (es:List Str)=>v = .ref p/\au H H'/\H' d=some (.dK (E.map dB))/\H' p=some (.lst (es.map V.str))/\es.length<=200/\∀r∈es,hX B r/\r∉E) (fun Qn qn =>?_) ?_
 ·refine⟨_,rfl,l,B,rfl,hB.same s1,gB,fun ts p2 H2 s2 hp20 nu nd tl mem =>?_⟩
  have qR:∀{i:Nat} (hi:i<ts.length),(ts.map V.str)[i]? = some (.str ts[i]):=fun hi=>by rw[Jm,Je hi];rfl
  have hd2:=s2 _ _ KA
  refine⟨p2,rfl,⟨_,aG.of nu⟩,?_⟩
  refine cY (N:=ts.length) (fun i ys H'=>H'=H2/\∃es:List Str,ys=es.map V.str/\es.length<=i/\∀r∈es,hX B r/\r∉E) ⟨rfl,[],rfl,Jc _,fun r h=>nomatch h⟩ ?_ ?_
  ·intro i ys H3 Ny hi hz_ ny
   refine ae.el hz_ _ ?_
   clear hz_
   rintro rfl es rfl el jc
   refine⟨⟨_,_,aG.of nu,qR hi⟩,small (by rw[Jb]; (first|lia|omega)),?_⟩
   rintro y H4 ⟨rfl,hy⟩
   have e:=hy _ (aG.of nu)
   rw[qR hi] at e;cases e
   have sN:=(mem _).mp (Jt hi)
   generalize ts[i]=x at sN
   cases hv:aZ (E.map dB) (.inr x) with
   | none=>
    refine gn ⟨_,rfl,_,rfl,d,none,rfl,.inl ⟨_,.inr x,.inl hd2,rfl,hv.symm⟩,_,rfl,bD ⟨_,rfl,ny _ _ ⟨rfl,es++[x],by rw[Jl];rfl,by rw[Jf];exact Wc el,fun r hr =>?_⟩⟩⟩
    rcases Jq.mp hr with hr|hr
    ·exact jc r hr
    ·rw[Jg.mp hr]
     exact⟨sN,fun z=>by rw[<-gE,hv] at z;cases z⟩
   | some v=>
    exact gn ⟨_,rfl,_,rfl,d,some v,rfl,.inl ⟨_,.inr x,.inl hd2,rfl,hv.symm⟩,_,rfl,cg (ny _ _ ⟨rfl,es,rfl,by first|lia|omega,jc⟩)⟩
  ·intro ys H3 hz_
   refine ae.el hz_ _ ?_
   clear hz_
   rintro rfl es rfl el jc
   exact⟨⟨_,aG.of nu,by rw[Jb];exact Jc _⟩,fun p H4 n4=>qn _ _ ⟨p,es,rfl,s1.trans (s2.trans n4.same),n4.same _ _ hd2,n4.at,by first|lia|omega,jc⟩⟩
 intro v H2 hz_
 refine ae.el hz_ _ ?_
 clear hz_
 rintro p es rfl s2 hd2 nu el jc
 refine gn ?_
 have De:∀x∈es,tP x:=fun x hx=>(jc x hx).1.bin gB
 refine⟨_,rfl,by show 0<=sizeLine;decide,fun p5 H5 n5 =>.inr ⟨_,_,Den.list (aG.of (n5.same _ _ nu)) (Den.strs _),Den.list (aG.of n5.at) (by unfold az;rfl),oZ De,om,_,rfl,?_⟩⟩
 rw[tD]
 have s5:=s2.trans n5.same
 cases es with
 | nil=>exact bD (q0 _ s5)
 | cons x es=>
  obtain⟨hx,hxE⟩:=jc x Jk
  refine cg ⟨_,rfl,_,rfl,_,rfl,.inl ⟨p,_,0,.str x,rfl,rfl,aG.of (n5.same _ _ nu),fE (by decide) rfl,?_⟩⟩
  exact⟨l,d,B,E,x,rfl,hB.same s5,gB,n5.same _ _ hd2,⟨ek⟩,hx,hxE,fun z p q n ps qs H' s' h1 h2 h3 o1 o2 l1 l2 n1 n2=>q1 z p q n ps qs H' (s5.trans s') h1 h2 h3 o1 o2 l1 l2 n1 n2⟩
end
theorem bB.name {bk:List (Str×Str)}(g:bB bk){q:Str×Str}(h:q∈bk):aZ (byName bk) (.inr q.1)=some (.str q.2):=
 nV (f:=fun q:Str×Str=>((.inr q.1:Key),V.str q.2)) h rfl fun y hy e=>by
  rw[sF g.nm hy h (by injection e)]
theorem ng {bk:List (Str×Str)}{n:Str}(h:n∉bk.map (·.1)):aZ (byName bk) (.inr n)=none:=
 eR fun y hy e=>h (by injection e with e;rw[<-e];exact Yh hy)
theorem eu {bk ps:List (Str×Str)}(g:bB bk)(o:Of bk ps):(tx ps).length<=12*ps.length:=by
 induction ps with
 | nil=>exact Jc _
 | cons q ps ih=>
  have h1:=ih fun r hr=>o r (Jh _ hr)
  have h2:=(g.cd q (o q Jk)).le
  rw[str_len] at h2
  show(sg q.2++tx ps).length<=_
  rw[Jf,J8]
  have h2:(sg q.2).length<=12:=h2
  (first|lia|omega)
noncomputable def bad (bk:List (Str×Str))(ns:List Str):List Str:=ns.filter fun n => !decide (n∈bk.map (·.1))
theorem oK {bk:List (Str×Str)}{ns:List Str}:bad bk ns=[] ↔ ∀n∈ns,n∈bk.map (·.1):=by
 unfold bad
 rw[List.filter_eq_nil_iff]
 refine⟨fun h n hn =>?_,fun h n hn =>?_⟩
 ·have:=h n hn
  simpa using this
 ·simp only[h n hn,decide_true,Bool.not_true];decide
theorem qB {bk:List (Str×Str)}:∀{ns:List Str},(∀n∈ns,n∈bk.map (·.1))->∃ps,Of bk ps/\ns=ps.map (·.1)
 | [],_=>⟨[],(fun _ h=>nomatch h),rfl⟩
 | n::ns,h=>by
  refine ae.el (Um.mp (h n Jk)) _ ?_
  rintro q hq e
  obtain⟨ps,o,rfl⟩:=qB fun m hm=>h m (Jh _ hm)
  refine⟨q::ps,fun z hz =>?_,by rw[Ub,e]⟩
  rcases Uc.mp hz with rfl|hz
  ·exact hq
  ·exact o z hz
theorem Dt {bk:List (Str×Str)}{ns:List Str}{i:Nat}(hi:i<ns.length)(h:∀n∈ns.take i,n∈bk.map (·.1))(hn:ns[i]∉bk.map (·.1)):∃xs,bad bk ns=ns[i]::xs:=by
 refine⟨bad bk (ns.drop (i+1)),?_⟩
 have e:ns=ns.take i++ns[i]::ns.drop (i+1):=by rw[List.getElem_cons_drop,Ys]
 have e2:bad bk ns=bad bk (ns.take i)++bad bk (ns[i]::ns.drop (i+1)):=by
  unfold bad
  rw[<-List.filter_append,<-e]
 rw[e2,oK.mpr h,List.nil_append]
 unfold bad
 rw[List.filter_cons_of_pos (by simp only[hn,decide_false,Bool.not_false])]
noncomputable def CB (C:Addr)(f:Str):Sp:=fun vs H Q _=>cj fun(e:Addr) (v:V)=>vs=[.ref e,v]/\H e=some (qr e C)/\∀dx,H dx=none->dx≠e->Q .non (upd (upd H e (wD e C dx)) dx (.xd [(f,v)]))
noncomputable def qm (K:Ja)(C:Addr):Sp:=fun vs H Q E=>pd fun(l np:Addr) (bk:List (Str×Str)) (ns:List Str)=>vs=[.ref l,.ref np]/\kc K H bk l/\bB bk/\ns.length<=3000/\aG K H np (ns.map V.str) /\
 (∀ps,Of bk ps->ns=ps.map (·.1)->∀H',au H H'->Q (.str (jU ps)) H') /\
 (∀x xs,bad bk ns=x::xs->∀dx H',au H H'->H' dx=some (.xd [("name",.str x)])->E (.ref C) (some dx) H')
section
variable {P:Program}{w:World}{K:Ja}{mg:Str->Option Value}{base:Heap}{f fi:Addr}{fd Ov:FuncData}{C cO c1 c2 c3 c4 c5 c6 c7:Addr}
theorem l8:aM ["self", "name"] ["self", "name"] (ay (inClass (top eX) 0)):=⟨rfl,rfl,rfl,by decide +kernel,rfl,by decide +kernel,by decide +kernel⟩
theorem mq (F:cX K "__init__" "NoName.__init__" (inClass (top eX) 0) f fd)(S:rf K C "name"):bA P w K mg base fQ 1 f fd ["self", "name"] (CB C "name"):=by
 refine F.ok l8 (fun vs H Q E h =>?_) (fun di A outer s H vs Q E hr h =>?_)
 ·obtain⟨e,v,rfl,_⟩:=h
  rfl
 obtain⟨e,v,rfl,he,q⟩:=h
 refine⟨_,(ak (Bc (pv 0) (pv 1) rfl)),?_⟩
 exact⟨_,rfl,_,rfl,e,C,rfl,he,S,fun dx h1 h2=>q dx h1 h2⟩
theorem iu:aM ["book", "names", "codes", "name"] ["book", "names"] (ay (top jq)):=⟨rfl,rfl,rfl,by decide +kernel,rfl,by decide +kernel,by decide +kernel⟩
theorem CV (F:cX K "written" "written" (top jq) f fd)(T:Nm mg)(fe:mg "NoName" = some (.ref C))(kQ:GO K C fi)(lV:bA P w K mg base fQ 1 fi Ov ["self", "name"] (CB C "name"))(kG:Binds K Ov ["self", "name"] []):
  bA P w K mg base (wR P w base) 3 f fd ["book", "names"] (qm K C):=by
 refine F.Qs iu (fun vs H Q E h =>?_) (fun di A outer s H vs Q E hr h =>?_)
 ·obtain⟨l,np,bk,ns,rfl,_⟩:=h
  rfl
 unfold qm at h
 refine ae.el h _ ?_
 clear h
 rintro l np bk ns rfl hB g Bk hN qY qN
 have hu:=gF hr
 have N0:=g.le
 refine⟨_,(ah (aE (i:=2) iu.nd rfl (Or.inr rfl) (i9 rfl (aO (Nc:=["name", "code"]) (Fc:=[]) (js:=[])) (iE K (pv 0)) (dF (aK (aA (i:=0) (n:=2) (by decide)) (aK (aA (i:=1) (n:=2) (by decide)) cR aB aR) aB (aX aB aR))) (fun _ _ _ _ _=>(tupK K 2 rfl (ar (ai (i:=0) (show(["name", "code"]:List Str).Nodup by decide +kernel) rfl (Or.inl rfl)) (ar (ai (i:=1) (show(["name", "code"]:List Str).Nodup by decide +kernel) rfl (Or.inl rfl)) bp)))) (fun _ _ _ _ _=>bj) (fun _ _ _ _ _=>(pv 0)) (fun _ _ _ _ _=>(pv 1))))
  (ah (gh PassesOwn.leaving rfl (iE K (pv 1)) (ai (i:=3) iu.nd rfl (Or.inl rfl)) (ak (cB (kT (dN hu (pv 3) (pv 2))) (ak (vX (k:=1) kQ lV (hr.mono (by decide)) rfl fe kG (aa (pv 3) ag))) bh)))
  (ak (aI (si K PySem.F.plainAttrs_str PySem.F.slot_str_join PySem.F.type_str_join (yt K) bI (aa (bO rfl (aO (Nc:=["name"]) (Fc:=["codes"]) (js:=[2])) (iE K (pv 1)) (aA (i:=0) (n:=1) (by decide)) (fun _ _ _ _ _=>(ai (i:=0) (show(["name", "codes"]:List Str).Nodup by decide +kernel) rfl (Or.inl rfl))) (fun _ _ _ _ _=>bj) (fun _ _ _ _ _=>(dv hu (pv 1) (pv 0) (fun _ _=>rfl)))) ag)))))),?_⟩
 refine bG (te:=jt _ _ _ _ _ _ _) (fun v H'=>∃D,v = .ref D/\cV H D (.dK (byName bk)) H') (fun Qn qn =>?_) ?_
 ·obtain⟨vs,hl,hd⟩:=id hB
  exact⟨_,rfl,l,rfl,⟨_,hl⟩,fun D hD=>FV (f:=fun q=>(.inr q.1,.str q.2)) (jB g.nm) (by first|lia|omega) (fun q H Q h=>⟨_,rfl,h⟩) (fun q H Q h=>⟨_,rfl,h⟩) hB hD (qn _ _ ⟨D,rfl,hD,rfl⟩)⟩
 intro v H1 hz_
 refine ae.el hz_ _ ?_
 clear hz_
 rintro D rfl n1
 refine gn ?_
 have CF:=n1.same.seq hN
 have HF:∀{i:Nat} (hi:i<ns.length),(ns.map V.str)[i]? = some (.str ns[i]):=fun hi=>by rw[Jm,Je hi];rfl
 refine dU (t:=vE _ _ _) (fun σ H'=>∃x3,σ=[some (.ref l),some (.ref np),some (.ref D),x3]/\H'=H1/\∀n∈ns,n∈bk.map (·.1)) (fun Nx nx =>?_) ?_
 ·refine⟨_,rfl,np,rfl,⟨_,CF⟩,?_⟩
  refine lP (N:=ns.length) (fun i σ H'=>∃x3,σ=[some (.ref l),some (.ref np),some (.ref D),x3]/\H'=H1/\∀n∈ns.take i,n∈bk.map (·.1)) ⟨_,rfl,rfl,fun n hn=>by simp at hn⟩ ?_ ?_
  ·intro i σ H2 hi hz_
   refine ae.el hz_ _ ?_
   clear hz_
   rintro x3 rfl rfl hk
   refine⟨⟨_,_,CF,HF hi⟩,?_⟩
   rintro x H3 ⟨rfl,hy⟩
   have e:=hy _ CF
   rw[HF hi] at e;cases e
   by_cases d4:ns[i]∈bk.map (·.1)
   ·refine ae.el (Um.mp d4) _ ?_
    rintro z hz ez
    refine gn ⟨_,rfl,_,rfl,D,some (.str z.2),rfl,.inl ⟨_,.inr ns[i],.inl n1.at,rfl,(by rw[<-ez];exact(g.name hz).symm)⟩,_,rfl,cg ⟨_,rfl,rfl,fun n hn =>?_⟩⟩
    rw[aL hi] at hn
    rcases Jq.mp hn with hn|hn
    ·exact hk n hn
    ·rw[Jg.mp hn];exact d4
   ·refine gn ⟨_,rfl,_,rfl,D,none,rfl,.inl ⟨_,.inr ns[i],.inl n1.at,rfl,(ng d4).symm⟩,_,rfl,bD ?_⟩
    obtain⟨xs,hbad⟩:=Dt hi hk d4
    refine⟨_,rfl,by show 1<=1000;decide,fun e he=>⟨e,.str ns[i],rfl,aH,fun dx d1 d2=>⟨rfl,e,dx,rfl,?_,n1.back he,qN _ _ hbad dx _ (fun a o z =>?_) ?_⟩⟩⟩
    ·rw[ao (Ne.symm d2),aH]
    ·have z1:=n1.same _ _ z
     have na:a≠e:=aq z1 he
     have nd:a≠dx:=fun y=>by
      rw[ao d2,<-y,z1] at d1
      cases d1
     rw[iz na,ao nd,ao na,ao na]
     exact z1
    ·rw[iz d2,aH]
  ·intro σ H2 hz_
   refine ae.el hz_ _ ?_
   clear hz_
   rintro x3 rfl rfl hk
   rw[Ui] at hk
   exact⟨⟨_,CF,by rw[Jb];exact Jc _⟩,nx _ _ ⟨_,rfl,rfl,hk⟩⟩
 intro σ H2 hz_
 refine ae.el hz_ _ ?_
 clear hz_
 rintro x3 rfl rfl hk
 refine ae.el (qB hk) _ ?_
 rintro ps o rfl
 rw[Jb] at Bk
 refine⟨rfl,_,rfl,np,rfl,⟨_,CF⟩,?_⟩
 refine cw (N:=ps.length) (fun i ys H'=>H'=H2/\ys=((ps.take i).map (·.2)).map V.str) ⟨rfl,rfl⟩ ?_ ?_
 ·rintro i ys H3 Ny hi ⟨rfl,rfl⟩ ny
  refine⟨⟨_,_,CF,g9 hi⟩,by rw[Jb,Jb,Jw];exact Jx (show min i ps.length<=3000 by first|lia|omega) (by decide),?_⟩
  rintro x H4 ⟨rfl,hy⟩
  have e:=hy _ CF
  rw[g9 hi] at e;cases e
  refine gn ⟨_,rfl,_,rfl,D,.str ps[i].2,rfl,.inl ⟨_,.inr ps[i].1,.inl n1.at,rfl,(g.name (o _ (Jt hi))).symm⟩,ny _ _ ⟨rfl,?_⟩⟩
  rw[aL hi,Jl,Jl];rfl
 ·rintro ys H3 ⟨rfl,rfl⟩
  refine⟨⟨_,CF,by rw[fC];exact Jc _⟩,fun p3 vo =>?_⟩
  rw[Ui]
  refine⟨"",p3,ps.map (·.2),rfl,rfl,aG.of aH,?_,?_⟩
  ·have h1:=sU ps
   have h2:=eu g o
   have e0:Str.length "" = 0:=rfl
   rw[h1,e0]
   (first|lia|omega)
  ·rw[uq]
   exact qY _ o rfl _ (n1.same.trans (cP vo _))
end
noncomputable def fU (ps:List (Str×Str)):PyData := .list ((ps.map (·.1)).map PyData.str)
noncomputable def vH (d:PyData):Prop:=∀ds,d = .list ds->ds.length<=3000
noncomputable def uJ (K:Ja):Sp:=fun vs H Q _=>pd fun(l:Addr) (v:V) (B:List (Str×Str)) (d:PyData)=>vs=[.ref l,v]/\kc K H B l/\bB B/\Den K H d v/\vH d /\
 (∀ps,Of B ps->d=fU ps->∀H',au H H'->Q (.str (jU ps)) H')/\((∀ps,Of B ps->d≠fU ps)->∀H',au H H'->Q .non H')
theorem gT {K:Ja}{H:Hp}:∀{ks:List Str} {vs:List V},az K H (ks.map PyData.str) vs->vs=ks.map V.str
 | [],_,h=>by rw[List.map_nil] at h;unfold az at h;exact h
 | n::ns,_,h=>by
  rw[Ub] at h
  unfold az at h
  obtain⟨v,r,rfl,h1,h2⟩:=h
  unfold Den at h1
  rw[h1,gT h2];rfl
theorem all_strs:∀{ds:List PyData},(ds.map fun d=>fj d "str").all id=true->∃ns:List Str,ds=ns.map PyData.str
 | [],_=>⟨[],rfl⟩
 | d::ds,h=>by
  rw[Ub,List.all_cons,Yo] at h
  obtain⟨ns,rfl⟩:=all_strs h.2
  cases d with
  | str s=>exact⟨s::ns,rfl⟩
  | none=>exact absurd h.1 (by decide)
  | bool b=>exact absurd h.1 (by cases b<;>decide)
  | int i=>exact absurd (show false=true from h.1) (by decide)
  | list i=>exact absurd (show false=true from h.1) (by decide)
  | tuple i=>exact absurd (show false=true from h.1) (by decide)
  | dict i=>exact absurd (show false=true from h.1) (by decide)
theorem gJ:∀(ns:List Str),((ns.map PyData.str).map fun d=>fj d "str").all id=true
 | []=>rfl
 | n::ns=>by
  rw[Ub,Ub,List.all_cons,gJ ns];rfl
section
variable {P:Program}{w:World}{K:Ja}{mg:Str->Option Value}{base:Heap}{f:Addr}{fd:FuncData}{C:Addr}
theorem tK:aM ["book", "thing"] ["book", "thing"] (ay (top jw)):=⟨rfl,rfl,rfl,by decide +kernel,rfl,by decide +kernel,by decide +kernel⟩
theorem Dz (F:cX K "text_of" "text_of" (top jw) f fd)(T:Nm mg)(fe:mg "NoName" = some (.ref C))(Nt:PySem.W.exmOne K (.ref C) (.ref C)=some true)(jg:Be P w K mg base 3 "written" ["book", "names"] (qm K C)):bA P w K mg base fQ 4 f fd ["book", "thing"] (uJ K):=by
 refine F.ok tK (fun vs H Q E h =>?_) (fun di A outer s H vs Q E hr h =>?_)
 ·obtain⟨l,v,B,d,rfl,_⟩:=h
  rfl
 unfold uJ at h
 refine ae.el h _ ?_
 clear h
 rintro l v B d rfl hB gB hv few qY qN
 refine⟨_,(ah (cB (PW.pt (eC (dX (dm (av (kq K) rfl T.n_isinstance (by rfl) (aa (pv 1) (aa (cT rfl T.n_list (by rfl) (v := .ty "list") rfl) ag))))) (gb (dX (dm (av (AK K rfl) rfl T.n_all (by rfl) (aa (bO rfl (aO (Nc:=["name"]) (Fc:=[]) (js:=[])) (iE K (pv 1)) (aA (i:=0) (n:=1) (by decide)) (fun _ _ _ _ _=>(ai (i:=0) (show(["name"]:List Str).Nodup by decide +kernel) rfl (Or.inl rfl))) (fun _ _ _ _ _=>bj) (fun _ _ _ _ _=>(av (kq K) rfl T.n_isinstance (by rfl) (aa (pv 0) (aa (cT rfl T.n_str (by rfl) (v := .ty "str") rfl) ag))))) ag))))))) (ak (aI de)) bh)
  (ak (AZ rfl rfl rfl fe (fun _ _ _=>(ak (aI (Fe (jg.mono (by first|decide|exact Jc _|(first|lia|omega))) hr rfl (aa (pv 0) (aa (pv 1) ag)))))) (fun _=>(ak (aI de)))))),?_⟩
 have no:fj d "list" = false->∀ps,Of B ps->d≠fU ps:=fun h ps _ e=>by rw[e] at h;exact absurd (show true=false from h) (by decide)
 refine⟨_,rfl,.inl ⟨v, "list",d,fj d "list",rfl,hv,(kZ K d).2.2.2.1,_,rfl,?_⟩⟩
 by_cases hl:fj d "list" = true
 ·obtain⟨ds,rfl⟩:∃ds,d = .list ds:=by
   cases d with
   | list ds=>exact⟨ds,rfl⟩
   | none=>exact absurd hl (by decide)
   | bool b=>exact absurd (show false=true from hl) (by decide)
   | int i=>exact absurd (show false=true from hl) (by decide)
   | str i=>exact absurd (show false=true from hl) (by decide)
   | tuple i=>exact absurd (show false=true from hl) (by decide)
   | dict i=>exact absurd (show false=true from hl) (by decide)
  have hlen:=few ds rfl
  unfold Den at hv
  obtain⟨p,vs,rfl,hp,hds⟩:=hv
  have DK:vs.length=ds.length:=hds.len
  have qR:∀{i:Nat} (hi:i<ds.length),∃x,vs[i]? = some x/\Den K H ds[i] x:=fun hi=>hds.get (Je hi)
  rw[hl]
  refine cg ⟨_,rfl,p,rfl,⟨_,hp⟩,?_⟩
  refine cw (N:=ds.length) (fun i ys H'=>H'=H/\ys=((ds.take i).map fun d=>fj d "str").map V.bl) ⟨rfl,rfl⟩ ?_ ?_
  ·rintro i ys H1 Ny hi ⟨rfl,rfl⟩ ny
   obtain⟨x,e1,e2⟩:=qR hi
   refine⟨⟨_,_,hp,e1⟩,by rw[Jb,Jb,Jw];exact Jx (show min i ds.length<=3000 by first|lia|omega) (by decide),?_⟩
   rintro x' H2 ⟨rfl,hy⟩
   have e:=hy _ hp
   rw[e1] at e;cases e
   refine gn ⟨_,rfl,.inl ⟨_, "str",ds[i],_,rfl,e2,(kZ K _).2.2.1,ny _ _ ⟨rfl,?_⟩⟩⟩
   rw[aL hi,Jl,Jl];rfl
  ·rintro ys H1 ⟨rfl,rfl⟩
   refine⟨⟨_,hp,by first|lia|omega⟩,fun p3 vo =>?_⟩
   rw[Ui]
   have n3:cV H1 p3 (.lst ((ds.map fun d=>fj d "str").map V.bl)) (upd H1 p3 (.lst ((ds.map fun d=>fj d "str").map V.bl))):=⟨vo,rfl⟩
   generalize upd H1 p3 (.lst ((ds.map fun d=>fj d "str").map V.bl))=H3 at n3 ⊢
   refine⟨p3,_,rfl,aG.of n3.at,_,rfl,?_⟩
   by_cases ha:(ds.map fun d=>fj d "str").all id=true
   ·rw[ha]
    refine cg ?_
    obtain⟨ns,rfl⟩:=all_strs ha
    rw[gT hds] at hp
    rw[Jb] at hlen
    refine⟨fun cls dx H'=>cls = .ref C/\au H1 H'/\∃x xs,bad B ns=x::xs,⟨rfl,_,rfl,_,rfl,l,p,B,ns,rfl,hB.same n3.same,gB,hlen,n3.same.seq hp,fun ps o e H' s'=>qY ps o (by rw[e];rfl) H' (n3.same.trans s'),fun x xs hb dx H' s' _=>⟨rfl,n3.same.trans s',x,xs,hb⟩⟩,?_⟩
    rintro cls dx H' ⟨rfl,s',x,xs,hb⟩
    refine⟨Nt,qN (fun ps o z =>?_) H' s'⟩
    injection z with z
    have e2:ns=ps.map (·.1):=by
     have:=congrArg (List.map fun d=>match d with|PyData.str s=>s|_ => "") z
     rw[Yx,Yx] at this
     rw[show((fun d=>match d with|PyData.str s=>s|_ => "")∘PyData.str:Str->Str)=id from rfl,List.map_id,List.map_id] at this
     exact this
    have:bad B ns=[]:=oK.mpr fun n hn=>by
     rw[e2] at hn
     obtain⟨y,hy,rfl⟩:=Um.mp hn
     exact Yh (o y hy)
    rw[this] at hb;cases hb
   ·have e:(ds.map fun d=>fj d "str").all id=false:=by simpa using ha
    rw[e]
    refine bD (qN (fun ps _ z =>?_) H3 n3.same)
    injection z with z
    rw[z,gJ] at e
    cases e
 ·have e:fj d "list" = false:=by simpa using hl
  rw[e]
  exact bD (bD (qN (no e) H (fun _ _ h=>h)))
end
noncomputable def lh (ps:List (Str×Str)):List Nat:=(U3 ps.length).map fun j=>(tx (ps.take j)).length
noncomputable def j4 (ps:List (Str×Str)):List V:=(lh ps).map fun n:Nat=>V.int (n:Int)
theorem bR (ps:List (Str×Str)):(lh ps).length=ps.length:=by unfold lh;rw[Jb,Yq]
theorem iX (ps:List (Str×Str)):(j4 ps).length=ps.length:=by unfold j4;rw[Jb,bR]
theorem qE {ps:List (Str×Str)}{i:Nat}(hi:i<ps.length):j4 (ps.take i)++[.int ((tx (ps.take i)).length:Nat)]=j4 (ps.take (i+1)):=by
 have h1:(ps.take i).length=i:=by rw[Jw]; (first|lia|omega)
 have h2:(ps.take (i+1)).length=i+1:=by rw[Jw]; (first|lia|omega)
 unfold j4 lh
 rw[h1,h2,List.range_succ,Jl,Jl,Yx,Yx]
 congr 1
 ·refine List.map_congr_left fun j hj =>?_
  have:=Wd.mp hj
  show V.int ((tx ((ps.take i).take j)).length:Nat)=V.int ((tx ((ps.take (i+1)).take j)).length:Nat)
  rw[List.take_take,List.take_take,Ya (by first|lia|omega),Ya (by first|lia|omega)]
 ·show[V.int _]=[V.int ((tx ((ps.take (i+1)).take i)).length:Nat)]
  rw[List.take_take,Ya (by first|lia|omega)]
theorem Au {ps:List (Str×Str)}{i:Nat}(hi:i<ps.length):(tx (ps.take (i+1))).length=(tx (ps.take i)).length+ps[i].2.length:=by
 rw[aL hi,zx,Jf,xi,str_len]
theorem EL {B ps:List (Str×Str)}(g:bB B)(o:Of B ps)(hl:ps.length<=3000)(i:Nat):(tx (ps.take i)).length<=36000:=by
 have h:=eu (ps:=ps.take i) g fun q hq=>o q (Wq hq)
 rw[Jw] at h
 (first|lia|omega)
noncomputable def Ol (bk:List (Str×Str)):List (Key×V):=bk.map fun q=>(.inr q.1,.int (q.2.length:Nat))
theorem bB.Mo {bk:List (Str×Str)}(g:bB bk){q:Str×Str}(h:q∈bk):aZ (Ol bk) (.inr q.1)=some (.int (q.2.length:Nat)):=
 nV (f:=fun q:Str×Str=>((.inr q.1:Key),V.int (q.2.length:Nat))) h rfl fun y hy e=>by
  rw[sF g.nm hy h (by injection e)]
theorem Fh {K:Ja}{bk:List (Str×Str)}{l:Addr}{tk tv:TE}{f:Str×Str->Key×V}(nd:(bk.map fun q=>(f q).1).Nodup)(hle:bk.length<=100)(hk:∀(q:Str×Str) (H:Hp) (Q:VK),q∈bk->Q (kV (f q).1) H->tk [some (.str q.1),some (.str q.2)] H Q)
  (hv:∀(q:Str×Str) (H:Hp) (Q:VK),q∈bk->Q (f q).2 H->tv [some (.str q.1),some (.str q.2)] H Q) {σ:L2.St} {D:Addr} {H:Hp} (hB:kc K H bk l) (hD:H D=none) {fin:Hp->Prop} (q:fin (upd H D (.dK (bk.map f)))) :
  uQ (JJ K l) 2 [] (nJ K 2 (eV (cM 0) (eV (cM 1) pR))) ma tk tv σ D (upd H D (.dK [])) fin:=by
 obtain⟨vs,hl,hd⟩:=hB
 have hlen:=ik hd
 refine⟨fun i m H'=>m=bk.length-i/\i<=bk.length/\H'=upd H D (.dK ((bk.take i).map f)),⟨_,rfl,Us _,rfl⟩,?_⟩
 intro i m H' hz_
 refine ae.el hz_ _ ?_
 clear hz_
 rintro rfl hi rfl
 have sm:au H (upd H D (.dK ((bk.take i).map f))):=cP hD _
 by_cases cF:i<bk.length
 ·refine ae.el (jO hd cF) _ ?_
  rintro tp h1 h2
  refine .inr ⟨⟨_,_,sm.seq hl,h1⟩,?_⟩
  rintro x H2 ⟨rfl,hy⟩
  have e:=hy _ (sm.seq hl)
  rw[h1] at e;cases e
  refine⟨tp,_,rfl,sm.sG h2,rfl,_,_,rfl,_,_,rfl,rfl,?_⟩
  dsimp only[ma]
  rw[if_pos rfl]
  refine hk bk[i] _ _ (Jt cF) (hv bk[i] _ _ (Jt cF) ⟨(bk.take i).map f,(f bk[i]).1,aH,rfl,?_,bk.length-(i+1),by first|lia|omega,rfl,cF,?_⟩)
  ·rw[Jb,Jw]
   exact Jx (show min i bk.length<=20000 by first|lia|omega) (by decide)
  ·rw[gK _ (eR fun y hy e =>?_),tO,aL cF,Jl]
   ·rfl
   ·have h3:=Uz.mp nd
    refine ae.el (U2.mp hy) _ ?_
    rintro j hj rfl
    rw[Jw] at hj
    rw[List.getElem_take] at e
    exact absurd (by rw[Yb,Yb];exact e) (Ur.mp h3 j i (by rw[Jb]; (first|lia|omega)) (by rw[Jb]; (first|lia|omega)) (by first|lia|omega))
 ·have e:i=bk.length:=by (first|lia|omega)
  subst e
  refine .inl ⟨⟨_,sm.seq hl,by first|lia|omega⟩,?_⟩
  rw[Ui];exact q
noncomputable def isNum (d:PyData):Bool:=fj d "int" && !fj d "bool"
theorem xK {d:PyData}(h:isNum d=true):∃n,d = .int n:=by
 cases d with
 | int n=>exact⟨n,rfl⟩
 | none=>exact absurd (show false=true from h) (by decide)
 | bool b=>exact absurd (show false=true from h) (by decide)
 | str i=>exact absurd (show false=true from h) (by decide)
 | list i=>exact absurd (show false=true from h) (by decide)
 | tuple i=>exact absurd (show false=true from h) (by decide)
 | dict i=>exact absurd (show false=true from h) (by decide)
noncomputable def xj (K:Ja):Sp:=fun vs H Q _=>cj fun(v:V) (d:PyData)=>vs=[v]/\Den K H d v/\Q (.bl (isNum d)) H
noncomputable def DS (K:Ja):Sp:=fun vs H Q _=>pd fun(l p:Addr) (B ps:List (Str×Str))=>vs=[.ref l,.ref p]/\kc K H B l/\bB B/\ps.length<=3000/\aG K H p ((ps.map (·.1)).map V.str)/\Of B ps/\∀b H',au H H'->H' b=some (.lst (j4 ps))->Q (.ref b) H'
section
variable {P:Program}{w:World}{K:Ja}{mg:Str->Option Value}{base:Heap}{f:Addr}{fd:FuncData}
theorem oM:aM ["thing"] ["thing"] (ay (top fX)):=⟨rfl,rfl,rfl,by decide +kernel,rfl,by decide +kernel,by decide +kernel⟩
theorem EO (F:cX K "is_number" "is_number" (top fX) f fd)(T:Nm mg):bA P w K mg base fQ 1 f fd ["thing"] (xj K):=by
 refine F.ok oM (fun vs H Q E h =>?_) (fun di A outer s H vs Q E hr h =>?_)
 ·obtain⟨v,d,rfl,_⟩:=h
  rfl
 obtain⟨v,d,rfl,hv,q⟩:=h
 refine⟨_,(ak (aI (Eu (av (kq K) rfl T.n_isinstance (by rfl) (aa (pv 0) (aa (cT rfl T.n_int (by rfl) (v := .ty "int") rfl) ag))) (Ds (w4 (av (kq K) rfl T.n_isinstance (by rfl) (aa (pv 0) (aa (cT rfl T.n_bool (by rfl) (v := .ty "bool") rfl) ag)))))))),?_⟩
 unfold isNum at q
 refine⟨_,rfl,.inl ⟨v, "int",d,fj d "int",rfl,hv,(kZ K d).2.1,?_⟩⟩
 cases e:fj d "int" with
 | false=>rw[e] at q;exact⟨_,rfl,cg q⟩
 | true=>rw[e] at q;exact⟨_,rfl,bD ⟨_,rfl,.inl ⟨v, "bool",d,fj d "bool",rfl,hv,(kZ K d).1,_,rfl,q⟩⟩⟩
theorem cI:aM ["book", "names", "lengths", "begins", "end", "name"] ["book", "names"] (ay (top gq)):=⟨rfl,rfl,rfl,by decide +kernel,rfl,by decide +kernel,by decide +kernel⟩
theorem GV (F:cX K "begins_of" "begins_of" (top gq) f fd)(T:Nm mg):bA P w K mg base fQ 1 f fd ["book", "names"] (DS K):=by
 refine F.ok cI (fun vs H Q E h =>?_) (fun di A outer s H vs Q E hr h =>?_)
 ·obtain⟨l,p,B,ps,rfl,_⟩:=h
  rfl
 obtain⟨l,p,B,ps,rfl,hB,gB,hl,hp,o,q⟩:=h
 have hu:=gF hr
 have hle:=gB.le
 refine⟨_,(ah (pk (i:=2) cI.nd rfl (Or.inl rfl) rfl (aO (Nc:=["name", "code"]) (Fc:=[]) (js:=[])) (iE K (pv 0)) (dF (aK (aA (i:=0) (n:=2) (by decide)) (aK (aA (i:=1) (n:=2) (by decide)) cR aB aR) aB (aX aB aR))) (fun _ _ _ _ _=>(tupK K 2 rfl (ar (ai (i:=0) (show(["name", "code"]:List Str).Nodup by decide +kernel) rfl (Or.inl rfl)) (ar (ai (i:=1) (show(["name", "code"]:List Str).Nodup by decide +kernel) rfl (Or.inl rfl)) bp)))) (fun _ _ _ _ _=>bj) (fun _ _ _ _ _=>(pv 0)) (fun _ _ _ _ _=>(av (dA K) rfl T.n_len (by rfl) (aa (pv 1) ag))))
  (ah (aE (i:=3) cI.nd rfl (Or.inl rfl) (dg ag))
  (ah (aE (i:=4) cI.nd rfl (Or.inl rfl) aj)
  (ah (gh PassesOwn.never rfl (iE K (pv 1)) (ai (i:=5) cI.nd rfl (Or.inl rfl)) (ah (d7 (si K PySem.F.plainAttrs_list PySem.F.slot_list_append PySem.F.type_list_append gQ (pv 3) (aa (pv 4) ag)))
  (ak (DH (i:=4) cI.nd rfl (Or.inl rfl) (dv hu (pv 2) (pv 5) (fun _ _=>rfl)) ES))))
  (ak (aI (pv 3))))))),?_⟩
 refine bG (te:=jt _ _ _ _ _ _ _) (fun v H'=>∃D,v = .ref D/\cV H D (.dK (Ol B)) H') (fun Qn qn =>?_) ?_
 ·obtain⟨vs,hl,hd⟩:=id hB
  refine⟨_,rfl,l,rfl,⟨_,hl⟩,fun D hD=>Fh (f:=fun q=>(.inr q.1,.int (q.2.length:Nat))) (jB gB.nm) (by first|lia|omega) (fun q H Q _ h=>⟨_,rfl,h⟩) (fun q H Q hq h=>⟨_,rfl,_,_,rfl,⟨sizeOk ?_,rfl⟩,h⟩) hB hD (qn _ _ ⟨D,rfl,hD,rfl⟩)⟩
  have:=(gB.cd q hq).le
  (first|lia|omega)
 intro v H1 hz_
 refine ae.el hz_ _ ?_
 clear hz_
 rintro D rfl n1
 refine gn ?_
 refine⟨by show 0<=sizeLine;decide,fun b H2 n2=>gn ?_⟩
 dsimp only
 refine bG (te:=tC _) (fun v H'=>v = .int 0/\H2=H') (fun Qn qn=>qn _ _ ⟨rfl,rfl⟩) ?_
 rintro _ _ ⟨rfl,rfl⟩
 refine gn ?_
 have gW:=n1.same.seq hp
 have tc:=EL gB o hl
 refine dU (t:=vE _ _ _) (fun σ H'=>cj fun(x4 x5:Option V) =>σ=[some (.ref l),some (.ref p),some (.ref D),some (.ref b),x4,x5]/\au H1 H'/\H' b=some (.lst (j4 ps))) (fun Nx nx =>?_) ?_
 ·refine⟨_,rfl,p,rfl,⟨_,n2.same.seq gW⟩,?_⟩
  refine lP (N:=ps.length) (fun i σ H'=>∃x5,σ=[some (.ref l),some (.ref p),some (.ref D),some (.ref b),some (.int ((tx (ps.take i)).length:Nat)),x5]/\au H1 H'/\H' b=some (.lst (j4 (ps.take i)))) ⟨none,rfl,n2.same,n2.at⟩ ?_ ?_
  ·intro i σ H3 hi hz_
   refine ae.el hz_ _ ?_
   clear hz_
   rintro x5 rfl s3 hb
   refine⟨⟨_,_,s3.seq gW,g9 hi⟩,?_⟩
   rintro x H4 ⟨rfl,hy⟩
   have e:=hy _ (s3.seq gW)
   rw[g9 hi] at e;cases e
   refine gn ⟨_,rfl,.inl ⟨rfl,_,aG.of hb⟩,_,rfl,b,_,_,rfl,rfl,hb,?_,fun H5 c5 =>?_⟩
   ·rw[iX,Jw];exact Jx (show min i ps.length<=3000 by first|lia|omega) (by decide)
   have s5:au H1 H5:=fun a o e=>by rw[c5.ne (aq e n2.nn)];exact s3 a o e
   refine⟨_,rfl,_,rfl,_,rfl,D,_,rfl,.inl ⟨_,.inr ps[i].1,.inl (s5 _ _ n1.at),rfl,(gB.Mo (o _ (Jt hi))).symm⟩,_,_,rfl,rfl,gn ⟨some (.str ps[i].1),?_,s5,by rw[c5.at,qE hi]⟩⟩
   rw[Au hi];rfl
  ·intro σ H3 hz_
   refine ae.el hz_ _ ?_
   clear hz_
   rintro x5 rfl s3 hb
   rw[Ui] at hb
   exact⟨⟨_,s3.seq gW,by rw[fC];exact Jc _⟩,nx _ _ ⟨_,_,rfl,s3,hb⟩⟩
 intro σ H3 hz_
 refine ae.el hz_ _ ?_
 clear hz_
 rintro x4 x5 rfl s3 hb
 exact⟨_,rfl,q _ _ (n1.same.trans s3) hb⟩
end
structure wV (B ps qs:List (Str×Str))(n:Int):Prop where
 o1:Of B ps
 o2:Of B qs
 lo:1<=n
 hi:n<((tx ps).length:Nat)
 eq:tx qs=(tx ps).drop n.toNat++(tx ps).take n.toNat
 ap:∀a∈lh qs,∀c∈lh ps,(n+(a:Nat))%((tx ps).length:Nat)≠((c:Nat):Int)
noncomputable def Mv (B:List (Str×Str))(d:PyData):Prop:=iU fun ps qs n=>d = .tuple [fU ps,fU qs,.int n]/\wV B ps qs n
noncomputable def uF (d:PyData):Prop:=∀d0 d1 d2,d = .tuple [d0,d1,d2]->vH d0/\vH d1/\SeqAt.shaped d0=true/\SeqAt.shaped d1=true
noncomputable def qv (K:Ja):Sp:=fun vs H Q _=>pd fun(l:Addr) (v:V) (B:List (Str×Str)) (d:PyData)=>vs=[.ref l,v]/\kc K H B l/\bB B/\Den K H d v/\uF d/\∀b H',(b=true↔Mv B d)->au H H'->Q (.bl b) H'
theorem jx {ps qs:List (Str×Str)}{B:List (Str×Str)}(g:bB B)(h1:Of B ps)(h2:Of B qs)(e:fU ps=fU qs):ps=qs:=by
 unfold fU at e
 injection e with e
 induction ps generalizing qs with
 | nil=>cases qs with|nil=>rfl|cons _ _=>cases e
 | cons p ps ih=>
  cases qs with
  | nil=>cases e
  | cons q qs=>
   rw[Ub,Ub,Ub,Ub] at e
   injection e with e1 e2
   injection e1 with e1
   rw[sF g.nm (h1 p Jk) (h2 q Jk) e1,ih (fun y hy=>h1 y (Jh _ hy)) (fun y hy=>h2 y (Jh _ hy)) e2]
theorem yH {d:PyData}(h:fj d "tuple" = true):∃ds,d = .tuple ds:=by
 cases d with
 | tuple ds=>exact⟨ds,rfl⟩
 | none=>exact absurd h (by decide)
 | bool b=>exact absurd (show false=true from h) (by decide)
 | int i=>exact absurd (show false=true from h) (by decide)
 | str i=>exact absurd (show false=true from h) (by decide)
 | list i=>exact absurd (show false=true from h) (by decide)
 | dict i=>exact absurd (show false=true from h) (by decide)
theorem sO (ps:List (Str×Str)):(jU ps).length=(tx ps).length:=by
 rw[str_len]
 show(sg (jU ps)).length=_
 rw[lY]
theorem j7 {ps:List (Str×Str)}{d:PyData}(e:d=fU ps)(f:vH d):ps.length<=3000:=by
 have:=f _ e
 rw[Jb,Jb] at this
 exact this
theorem xI {K:Ja}{H:Hp}{ps:List (Str×Str)}{d:PyData}{v:V}(e:d=fU ps)(h:Den K H d v):∃p,v = .ref p/\aG K H p ((ps.map (·.1)).map V.str):=by
 subst e
 unfold fU Den at h
 obtain⟨p,vs,rfl,hp,hds⟩:=h
 rw[gT hds] at hp
 exact⟨p,rfl,hp⟩
theorem EF {kvs:List (Key×V)}{k:Key}{v:V}:(putK kvs k v).length<=kvs.length+1:=by
 unfold putK
 split
 ·rw[Jb]; (first|lia|omega)
 ·rw[Jf];exact Jc _
theorem xP {x:Str}(j:Nat):sg (Txt.slice x none (some (j:Int)))=(sg x).take j:=by
 have e:Txt.slice x none (some (j:Int))=Txt.slice x (some ((0:Nat):Int)) (some (j:Int)):=by
  unfold Txt.slice
  have:PySem.Builtin.Str.strSliceIndices none (some (j:Int)) 1 x.length=PySem.Builtin.Str.strSliceIndices (some ((0:Nat):Int)) (some (j:Int)) 1 x.length:=by
   unfold PySem.Builtin.Str.strSliceIndices
   dsimp only
   congr 1
   all_goals simp
  rw[this]
 rw[e,Fb (Us _) (Us _)]
 rfl
noncomputable def xD (ps:List (Str×Str))(m:Nat):Str:=Txt.slice (jU ps) (some (m:Int)) none++Txt.slice (jU ps) none (some (m:Int))
theorem xw (ps:List (Str×Str))(m:Nat):sg (xD ps m)=(tx ps).drop m++(tx ps).take m:=by
 unfold xD
 rw[jr,gj,xP,lY]
theorem BJ (x:Str)(m:Nat):(Txt.slice x (some (m:Int)) none).length<=x.length:=by
 rw[str_len,str_len]
 show(sg _).length<=(sg x).length
 rw[gj,Ud]; (first|lia|omega)
theorem B8 (x:Str)(m:Nat):(Txt.slice x none (some (m:Int))).length<=x.length:=by
 rw[str_len,str_len]
 show(sg _).length<=(sg x).length
 rw[xP,Jw]; (first|lia|omega)
theorem Ct {K:Ja}{H:Hp}{ds:List PyData}{vs:List V}(h:az K H ds vs)(h3:ds.length=3):Br fun(d0 d1 d2:PyData) (v0 v1 v2:V)=>ds=[d0,d1,d2]/\vs=[v0,v1,v2]/\Den K H d0 v0/\Den K H d1 v1/\Den K H d2 v2:=by
 obtain⟨d0,d1,d2,rfl⟩:∃d0 d1 d2,ds=[d0,d1,d2]:=by
  match ds,h3 with
  | [a,b,c],_=>exact⟨a,b,c,rfl⟩
 unfold az at h
 obtain⟨v0,r0,rfl,k0,h⟩:=h
 unfold az at h
 obtain⟨v1,r1,rfl,k1,h⟩:=h
 unfold az at h
 obtain⟨v2,r2,rfl,k2,h⟩:=h
 unfold az at h
 subst h
 exact⟨d0,d1,d2,v0,v1,v2,rfl,rfl,k0,k1,k2⟩
section
variable {P:Program}{w:World}{K:Ja}{mg:Str->Option Value}{base:Heap}{f:Addr}{fd:FuncData}{C:Addr}
theorem cq:aM ["book", "thing", "one", "other", "place", "text", "begins"] ["book", "thing"] (ay (top fK)):=⟨rfl,rfl,rfl,by decide +kernel,rfl,by decide +kernel,by decide +kernel⟩
theorem IG (F:cX K "shows_ring" "shows_ring" (top fK) f fd)(T:Nm mg)(mF:Fn P w K mg base 4 "text_of" ["book", "thing"] (uJ K))(pO:Fn P w K mg base 1 "is_number" ["thing"] (xj K))(jL:Fn P w K mg base 1 "begins_of" ["book", "names"] (DS K)):bA P w K mg base fQ 5 f fd ["book", "thing"] (qv K):=by
 refine F.ok cq (fun vs H Q E h =>?_) (fun di A outer s H vs Q E hr h =>?_)
 ·obtain⟨l,v,B,d,rfl,_⟩:=h
  rfl
 unfold qv at h
 refine ae.el h _ ?_
 clear h
 rintro l v B d rfl hB gB hv ask q
 have hu:=gF hr
 have hU:=hr.units
 refine⟨_,(ah (cB (PW.pt (eC (dX (dm (av (kq K) rfl T.n_isinstance (by rfl) (aa (pv 1) (aa (cT rfl T.n_tuple (by rfl) (v := .ty "tuple") rfl) ag))))) (gb (aP (yk K hU) (av (dA K) rfl T.n_len (by rfl) (aa (pv 1) ag)) aj (aY _))))) (ak (aI eW)) bh)
  (ah (fB (pv 1) (tupK K 3 rfl (ar (ai (i:=2) cq.nd rfl (Or.inl rfl)) (ar (ai (i:=3) cq.nd rfl (Or.inl rfl)) (ar (ai (i:=4) cq.nd rfl (Or.inr rfl)) bp)))))
  (ah (aE (i:=5) cq.nd rfl (Or.inr rfl) (aJ (mF.mono (by first|decide|exact Jc _|(first|lia|omega))) hr rfl (aa (pv 0) (aa (pv 2) ag))))
  (ah (cB (PW.pt (eC (aP AH (pv 5) de (aY _)) (eC (dX (dm (aJ (pO.mono (by first|decide|exact Jc _|(first|lia|omega))) hr rfl (aa (pv 4) ag)))) (gb (dX (qf HG iK aj (pv 4) (av (dA K) rfl T.n_len (by rfl) (aa (pv 5) ag)))))))) (ak (aI eW)) bh)
  (ah (cB (aP (yk K hU) (aJ (mF.mono (by first|decide|exact Jc _|(first|lia|omega))) hr rfl (aa (pv 0) (aa (pv 3) ag))) (aF ck (bC (uR K) (pv 5) (bN (pv 4)) bQ) (bC (uR K) (pv 5) bQ (bN (pv 4)))) (aY _)) (ak (aI eW)) bh)
  (ah (aE (i:=6) cq.nd rfl (Or.inr rfl) (i9 rfl (aO (Nc:=["at"]) (Fc:=[]) (js:=[])) (iE K (aJ (jL.mono (by first|decide|exact Jc _|(first|lia|omega))) hr rfl (aa (pv 0) (aa (pv 2) ag)))) (aA (i:=0) (n:=1) (by decide)) (fun _ _ _ _ _=>(ai (i:=0) (show(["at"]:List Str).Nodup by decide +kernel) rfl (Or.inl rfl))) (fun _ _ _ _ _=>bj) (fun _ _ _ _ _=>(pv 0)) (fun _ _ _ _ _=>eW)))
  (ak (aI (av (AK K rfl) rfl T.n_all (by rfl) (aa (bO rfl (aO (Nc:=["at"]) (Fc:=["begins", "place", "text"]) (js:=[6,4,5])) (iE K (aJ (jL.mono (by first|decide|exact Jc _|(first|lia|omega))) hr rfl (aa (pv 0) (aa (pv 3) ag)))) (aA (i:=0) (n:=1) (by decide)) (fun _ _ _ _ _=>(ai (i:=0) (show(["at", "begins", "place", "text"]:List Str).Nodup by decide +kernel) rfl (Or.inl rfl))) (fun _ _ _ _ _=>bj) (fun _ _ _ _ _=>(yS (dN hu (aF fz (aF ck (pv 2) (pv 0)) (av (dA K) rfl T.n_len (by rfl) (aa (pv 3) ag))) (pv 1))))) ag)))))))))),?_⟩
 refine cc fun D1 n1 y1 =>?_
 refine⟨_,rfl,.inl ⟨v, "tuple",d,fj d "tuple",rfl,hv,(kZ K d).2.2.2.2,_,rfl,?_⟩⟩
 by_cases e:fj d "tuple" = false
 ·rw[e]
  refine bD (bD (y1 _ _ (q false H ⟨(fun z=>nomatch z),fun⟨ps,qs,n,z,_⟩=>?_⟩ fun _ _ h=>h)))
  rw[z] at e;exact absurd (show true=false from e) (by decide)
 have hl:fj d "tuple" = true:=by simpa using e
 clear e
 obtain⟨ds,rfl⟩:=yH hl
 rw[hl]
 unfold Den at hv
 obtain⟨p,vs,rfl,hp,hds⟩:=hv
 have DK:vs.length=ds.length:=hds.len
 refine cg ⟨_,rfl,_,_,rfl,.inr ⟨_,hp,rfl⟩,.inl ⟨rfl,_,rfl,?_⟩⟩
 by_cases h3:ds.length≠3
 ·have e:(!decide (V.int (vs.length:Nat)=V.int 3))=true:=by
   rw[DK];simp; (first|lia|omega)
  rw[e]
  refine bD (y1 _ _ (q false H ⟨(fun z=>nomatch z),fun⟨ps,qs,n,z,_⟩=>absurd (by injection z with z;rw[z];rfl) h3⟩ fun _ _ h=>h))
 have h3:ds.length=3:=Decidable.not_not.mp h3
 have e:(!decide (V.int (vs.length:Nat)=V.int 3))=false:=by
  rw[DK,h3];decide
 rw[e]
 refine cg ?_
 clear e
 refine ae.el (Ct hds h3) _ ?_
 clear hds
 rintro d0 d1 d2 v0 v1 v2 rfl rfl k0 k1 k2
 obtain⟨f0,f1,sh0,sh1⟩:=ask d0 d1 d2 rfl
 have un:∀{C:Prop},Mv B (.tuple [d0,d1,d2])->(∀ps qs n,d0=fU ps->d1=fU qs->d2 = .int n->wV B ps qs n->C)->C:=fun{C} z k=>by
  obtain⟨ps,qs,n,z,h⟩:=z
  injection z with z
  injection z with z1 z
  injection z with z2 z
  injection z with z3 _
  exact k ps qs n z1 z2 z3 h
 have no:∀{H'},(∀ps qs n,d0=fU ps->d1=fU qs->d2 = .int n->wV B ps qs n->False)->au H H'->Q (.bl false) H':=fun h s'=>q false _ ⟨(fun z=>nomatch z),fun z=>(un z h).elim⟩ s'
 refine n1 _ _ ?_
 clear n1 y1
 refine⟨_,rfl,p,_,rfl,hp,rfl,_,_,rfl,_,_,rfl,_,_,rfl,rfl,?_⟩
 refine⟨_,rfl,_,rfl,l,v0,B,d0,rfl,hB,gB,k0,f0,fun ps o e0 H1 s1=>gn ?_,fun h H1 s1=>gn ?_⟩
 rotate_left
 ·exact⟨_,rfl,.inl ⟨rfl,_,rfl,bD (bD (no (fun ps qs n e0 _ _ g=>h ps g.o1 e0) s1))⟩⟩
 have lp:=j7 e0 f0
 have tl:=eu gB o
 have tS:=sO ps
 dsimp only[yd]
 refine cc (t:=l9 _ _ _) fun D2 n2 y2 =>?_
 refine⟨_,rfl,.inl ⟨rfl,_,rfl,cg ?_⟩⟩
 refine⟨_,rfl,v2,d2,rfl,k2.same s1,_,rfl,?_⟩
 cases hn:isNum d2 with
 | false=>exact bD (bD (y2 _ _ (no (fun ps qs n _ _ e2 g=>by rw[e2] at hn;exact absurd (show true=false from hn) (by decide)) s1)))
 | true=>
 obtain⟨n,rfl⟩:=xK hn
 unfold Den at k2
 subst k2
 refine cg ?_
 have bad:¬(1<=n/\n<((jU ps).length:Nat))->∀oE qs m,d0=fU oE->d1=fU qs->PyData.int n = .int m->wV B oE qs m->False:=fun h oE qs m e0' _ e2 g=>by
  injection e2 with e2
  have:=jx gB o g.o1 (e0.symm.trans e0')
  subst this e2
  exact h ⟨g.lo,by have:=g.hi; (first|lia|omega)⟩
 refine⟨_,rfl,_,_,rfl,rfl,_,rfl,gM (fun c1 =>?_) (fun c1 =>?_)⟩
 rotate_left
 ·exact⟨_,rfl,bD (y2 _ _ (no (bad fun h=>c1 (decide_eq_true h.1)) s1))⟩
 have c1:=of_decide_eq_true c1
 refine⟨_,rfl,_,_,rfl,⟨sizeOk (by first|lia|omega),rfl⟩,_,_,rfl,rfl,_,rfl,?_⟩
 by_cases c2:n<((jU ps).length:Nat)
 rotate_left
 ·rw[decide_eq_false c2]
  exact bD (y2 _ _ (no (bad fun h=>c2 h.2) s1))
 rw[decide_eq_true c2]
 refine cg (n2 _ _ ?_)
 clear bad n2 y2
 obtain⟨m,rfl⟩:∃m:Nat,n=(m:Int):=⟨n.toNat,by first|lia|omega⟩
 have add:∀{H':Hp} {R:VK},R (.str (xD ps m)) H'->zZ uO (JR (Az K) (g7 5) (yZ (g7 4)) dr) (JR (Az K) (g7 5) dr (yZ (g7 4))) [some (.ref l),some (.ref p),some v0,some v1,some (.int (m:Int)),some (.str (jU ps)),none] H' R:=fun{H' R} h=>by
  refine⟨_,rfl,_,rfl,_,rfl,?_⟩
  dsimp only[dr]
  refine .inr ⟨_,rfl,sizeOk (by first|lia|omega),?_⟩
  refine⟨_,rfl,_,rfl,_,rfl,.inr ⟨_,rfl,sizeOk (by first|lia|omega),.inr (.inl ⟨_,_,rfl,rfl,sizeOk ?_,h⟩)⟩⟩
  have h1:=BJ (jU ps) m
  have h2:=B8 (jU ps) m
  (first|lia|omega)
 refine cc (t:=l9 _ _ _) fun D3 n3 y3 =>?_
 refine⟨_,rfl,_,rfl,l,v1,B,d1,rfl,hB.same s1,gB,k1.same s1,f1,fun qs o2 e1 H2 s2=>add ?_,fun h H2 s2=>add ?_⟩
 rotate_left
 ·exact .inl ⟨rfl,_,rfl,bD (y3 _ _ (no (fun ps qs n _ e1 _ g=>h qs g.o2 e1) (s1.trans s2)))⟩
 clear add
 have lq:=j7 e1 f1
 have tq:=eu gB o2
 have CL:jU qs=xD ps m↔tx qs=(tx ps).drop m++(tx ps).take m:=⟨fun h=>by rw[<-xw,<-h,lY],fun h=>fY (by rw[lY,xw,h])⟩
 have Ht:∀{oE zh:List (Str×Str)} {n':Int},d0=fU oE->d1=fU zh->PyData.int (m:Int) = .int n'->wV B oE zh n'->wV B ps qs m:=fun{oE zh n'} a0 a1 a2 g=>by
  injection a2 with a2
  have z1:=jx gB o g.o1 (e0.symm.trans a0)
  have z2:=jx gB o2 g.o2 (e1.symm.trans a1)
  subst a2 z1 z2
  exact g
 by_cases c3:jU qs=xD ps m
 rotate_left
 ·refine .inl ⟨rfl,_,rfl,?_⟩
  rw[decide_eq_false (fun z=>c3 (by injection z))]
  exact bD (y3 _ _ (no (fun oE zh n' a0 a1 a2 g=>c3 (CL.mpr (Ht a0 a1 a2 g).eq)) (s1.trans s2)))
 refine .inl ⟨rfl,_,rfl,?_⟩
 rw[decide_eq_true (congrArg V.str c3)]
 refine cg ?_
 have c3:=CL.mp c3
 obtain⟨p0,rfl,Hl⟩:=xI e0 k0
 obtain⟨p1,rfl,gW⟩:=xI e1 k1
 refine n3 _ _ ?_
 clear n3 y3
 have zW:=s1.trans s2
 have D8:∀{xs:List (Str×Str)} {i:Nat} (hi:i<xs.length),(j4 xs)[i]? = some (.int (((lh xs)[i]'(by rw[bR];exact hi):Nat):Int)):=fun{xs i} hi=>by
  unfold j4
  rw[Jm,Je (by rw[bR];exact hi)];rfl
 refine bG (te:=jt _ _ _ _ _ _ _) (fun v H'=>cj fun(D:Addr) (kvs:List (Key×V))=>v = .ref D/\au H2 H'/\H' D=some (.dK kvs)/\∀k:Int,(aZ kvs (.inl k)).isSome=true ↔ ∃c∈lh ps,((c:Nat):Int)=k) (fun Qn qn =>?_) ?_
 ·refine⟨_,rfl,_,rfl,l,p0,B,ps,rfl,hB.same zW,gB,lp,zW.seq Hl,o,fun b H3 s3 hb =>?_⟩
  refine⟨b,rfl,⟨_,aG.of hb⟩,fun D hD =>?_⟩
  refine⟨fun i m H'=>∃kvs:List (Key×V),m=ps.length-i/\i<=ps.length/\au H3 H'/\H' D=some (.dK kvs)/\kvs.length<=i/\∀k:Int,(aZ kvs (.inl k)).isSome=true ↔ ∃c∈(lh ps).take i,((c:Nat):Int)=k,⟨_,[],rfl,Us _,cP hD _,aH,Jc _,fun k=>⟨(fun h=>nomatch h),fun⟨c,h,_⟩=>nomatch h⟩⟩,?_⟩
  rintro i m' H4 ⟨kvs,rfl,hi,s4,JW,kl,km⟩
  by_cases cF:i<ps.length
  ·refine .inr ⟨⟨_,_,aG.of (s4 _ _ hb),D8 cF⟩,?_⟩
   rintro y H5 ⟨rfl,hy⟩
   have e:=hy _ (aG.of (s4 _ _ hb))
   rw[D8 cF] at e;cases e
   refine gn ?_
   dsimp only[ma]
   rw[if_pos rfl]
   have dH:=aL (l:=lh ps) (i:=i) (by rw[bR];exact cF)
   generalize (lh ps)[i]'(by rw[bR];exact cF)=x at dH
   refine⟨_,rfl,kvs,.inl (x:Int),JW,rfl,Jx (show kvs.length<=3000 by first|lia|omega) (by decide),ps.length-(i+1),by first|lia|omega,_,rfl,cF,fun b o e =>?_,aH,Jp EF (by first|lia|omega),fun k =>?_⟩
   ·rw[ao (aq e hD)];exact s4 b o e
   ·rw[yR,dH]
    by_cases hk:(Sum.inl k:Key) = .inl (x:Int)
    ·rw[if_pos hk]
     exact⟨fun _=>⟨x,Jr _ Jk,by injection hk with hk;exact hk.symm⟩,fun _=>rfl⟩
    ·rw[if_neg hk,km]
     refine⟨fun⟨c,h1,h2⟩=>⟨c,Ym _ h1,h2⟩,fun⟨c,h1,h2⟩=>?_⟩
     rcases Jq.mp h1 with h1|h1
     ·exact⟨c,h1,h2⟩
     ·rw[Jg.mp h1] at h2;exact absurd (by rw[h2]) hk
  ·have ei:i=ps.length:=by (first|lia|omega)
   subst ei
   rw[Uw (by rw[bR];exact Jc _)] at km
   exact .inl ⟨⟨_,aG.of (s4 _ _ hb),by rw[iX];exact Jc _⟩,qn _ _ ⟨D,kvs,rfl,s3.trans s4,JW,km⟩⟩
 rintro v H3 ⟨D,kvs,rfl,s3,hD3,km⟩
 refine gn ?_
 have EN:=zW.trans s3
 refine⟨_,rfl,_,rfl,l,p1,B,qs,rfl,hB.same EN,gB,lq,EN.seq gW,o2,fun b H4 s4 hb =>?_⟩
 have JW:=s4 _ _ hD3
 have Lp:0<(tx ps).length:=by (first|lia|omega)
 refine⟨b,rfl,⟨_,aG.of hb⟩,?_⟩
 let hit:Nat->Bool:=fun a => !(aZ kvs (.inl (((m:Int)+(a:Int))%(((jU ps).length:Nat):Int)))).isSome
 refine cw (N:=qs.length) (fun j ys H'=>H'=H4/\ys=(((lh qs).take j).map hit).map V.bl) ⟨rfl,rfl⟩ ?_ ?_
 ·rintro j ys H5 Nz hj ⟨rfl,rfl⟩ nz
  refine⟨⟨_,_,aG.of hb,D8 hj⟩,?_,?_⟩
  ·rw[Jb,Jb,Jw]
   exact Jx (show min j (lh qs).length<=3000 by rw[bR]; (first|lia|omega)) (by decide)
  rintro y H6 ⟨rfl,hy⟩
  have e:=hy _ (aG.of hb)
  rw[D8 hj] at e;cases e
  have dH:=aL (l:=lh qs) (i:=j) (by rw[bR];exact hj)
  generalize (lh qs)[j]'(by rw[bR];exact hj)=x at dH
  refine gn ⟨_,rfl,_,rfl,.inl ⟨_,_,rfl,rfl,_,rfl,_,_,rfl,⟨sizeOk (by first|lia|omega),rfl⟩,_,_,rfl,rfl,by first|lia|omega,_,rfl,D,_,rfl,.inl ⟨_,.inl _,.inl JW,rfl,rfl⟩,nz _ _ ⟨rfl,?_⟩⟩⟩
  rw[dH,Jl,Jl];rfl
 ·rintro ys H5 ⟨rfl,rfl⟩
  refine⟨⟨_,aG.of hb,by rw[iX];exact Jc _⟩,fun p9 hp9 =>?_⟩
  rw[Uw (by rw[bR];exact Jc _)]
  refine⟨p9,_,rfl,aG.of aH,q _ _ ?_ (EN.trans (s4.trans (cP hp9 _)))⟩
  have lr:∀a:Nat,hit a=true ↔ ∀c∈lh ps,((m:Int)+(a:Int))%(((tx ps).length:Nat):Int)≠((c:Nat):Int):=fun a=>by
   show(!(aZ kvs (.inl (((m:Int)+(a:Int))%(((jU ps).length:Nat):Int)))).isSome)=true↔_
   rw[tS]
   refine⟨fun h c hc z =>?_,fun h =>?_⟩
   ·rw[(km _).mpr ⟨c,hc,z.symm⟩] at h;cases h
   ·cases hs:(aZ kvs (.inl (((m:Int)+(a:Int))%(((tx ps).length:Nat):Int)))).isSome with
    | false=>rfl
    | true=>
     obtain⟨c,hc,z⟩:=(km _).mp hs
     exact absurd z.symm (h c hc)
  rw[List.all_map,Wt]
  refine⟨fun h=>⟨ps,qs,m,by rw[e0,e1],o,o2,c1,by first|lia|omega,c3,fun a ha=>(lr a).mp (h a ha)⟩,fun h a ha =>?_⟩
  exact un h fun oE zh n' a0 a1 a2 g=>(lr a).mpr ((Ht a0 a1 a2 g).ap a ha)
end
theorem mV:∀(kvs acc:List (Key×V)),(kvs.map (·.1)).Nodup->(∀kv∈kvs,aZ acc kv.1=none)->cS acc kvs=acc++kvs
 | [],acc,_,_=>(U5 _).symm
 | kv::kvs,acc,nd,h=>by
  rw[Ub] at nd
  obtain⟨n1,n2⟩:=Ye.mp nd
  show cS (putK acc kv.1 kv.2) kvs=_
  rw[gK _ (h kv Jk),mV kvs _ n2 fun kw hw =>?_]
  ·rw[J9];rfl
  ·rw[jA _ _ _ _ (h kv Jk),if_neg (fun z=>n1 (by rw[<-z];exact Yh hw))]
   exact h kw (Jh _ hw)
theorem mY {K:Ja}{H:Hp}{bk:List (Str×Str)}{l:Addr}(hB:kc K H bk l)(g:bB bk):cj fun(as:List Addr) (vs:List V)=>vs=as.map V.ref/\aG K H l vs/\as.length=bk.length/\(∀(j:Nat) b (kv:Key×V),as[j]? = some b->(byName bk)[j]? = some kv->d9 K H b [kV kv.1,kv.2])/\cS [] (byName bk)=byName bk:=by
 obtain⟨vs,hl,hd⟩:=hB
 obtain⟨as,has⟩:∃as:List Addr,vs=as.map V.ref:=by
  refine⟨vs.map fun v=>match v with | .ref a=>a|_=>l,?_⟩
  rw[Yx]
  refine List.ext_getElem (by rw[Jb]) fun j h1 h2 =>?_
  rw[Yb]
  obtain⟨tp,e1,_⟩:=jO hd (i:=j) (by rw[<-ik hd];exact h1)
  rw[Je h1] at e1
  injection e1 with e1
  rw[e1];rfl
 subst has
 have CK:as.length=bk.length:=by have:=ik hd;rwa[Jb] at this
 refine⟨as,_,rfl,hl,CK,fun j b kv e1 e2 =>?_,?_⟩
 ·have hj:j<bk.length:=by have:=(Js.mp e1).1; (first|lia|omega)
  refine ae.el (jO hd hj) _ ?_
  rintro tp e3 e4
  rw[Jm,e1] at e3
  injection e3 with e3
  cases e3
  unfold byName at e2
  rw[Jm,Je hj] at e2
  injection e2 with e2
  rw[<-e2]
  exact e4
 ·refine(mV (byName bk) [] ?_ fun _ _=>rfl).trans (List.nil_append _)
  unfold byName
  rw[Yx]
  exact jB g.nm
theorem EI {d:PyData}(h:fj d "list" = true):∃ds,d = .list ds:=by
 cases d with
 | list ds=>exact⟨ds,rfl⟩
 | none=>exact absurd h (by decide)
 | bool b=>exact absurd (show false=true from h) (by decide)
 | int i=>exact absurd (show false=true from h) (by decide)
 | str i=>exact absurd (show false=true from h) (by decide)
 | tuple i=>exact absurd (show false=true from h) (by decide)
 | dict i=>exact absurd (show false=true from h) (by decide)
theorem Cc {B ps:List (Str×Str)}{ds:List PyData}{i:Nat}(o:Of B ps)(e:PyData.list ds=fU ps)(hi:i<ds.length):∃n,ds[i] = .str n/\n∈B.map (·.1):=by
 unfold fU at e
 injection e with e
 subst e
 rw[Jb,Jb] at hi
 refine⟨ps[i].1,by rw[Yb,Yb],Yh (o _ (Jt hi))⟩
theorem AM (ps:List (Str×Str))(y:Str×Str):j4 (ps++[y])=j4 ps++[.int (((tx ps).length:Nat):Int)]:=by
 have h:=qE (ps:=ps++[y]) (i:=ps.length) (by rw[Jf];exact Nat.lt_succ_self _)
 rw[List.take_left,Uw (by rw[Jf];exact Jc _)] at h
 exact h.symm
theorem Bf (ps:List (Str×Str))(y:Str×Str):(tx (ps++[y])).length=(tx ps).length+y.2.length:=by
 rw[zx,Jf,xi,str_len]
noncomputable def Ca (B:List (Str×Str))(d:PyData)(v:V)(H:Hp):Prop:=(v = .non/\∀ps,Of B ps->d=fU ps->ps=[]) ∨
 iU fun(ps:List (Str×Str)) (z b:Addr)=>v = .ref z/\Of B ps/\d=fU ps/\ps≠[]/\H z=some (.tup [.ref b,.int (((tx ps).length:Nat):Int),.str (jU ps)])/\H b=some (.lst (j4 ps))
theorem Ca.same {B:List (Str×Str)}{d:PyData}{v:V}{H H':Hp}(h:Ca B d v H)(s:au H H'):Ca B d v H':=by
 rcases h with h|⟨ps,z,b,h1,h2,h3,h4,h5,h6⟩
 ·exact .inl h
 ·exact .inr ⟨ps,z,b,h1,h2,h3,h4,s _ _ h5,s _ _ h6⟩
noncomputable def uI (K:Ja):Sp:=fun vs H Q _=>pd fun(l:Addr) (v:V) (B:List (Str×Str)) (d:PyData)=>vs=[.ref l,v]/\kc K H B l/\bB B/\Den K H d v/\vH d/\SeqAt.shaped d=true/\∀v' H',au H H'->Ca B d v' H'->Q v' H'
section
variable {P:Program}{w:World}{K:Ja}{mg:Str->Option Value}{base:Heap}{f:Addr}{fd:FuncData}{C:Addr}
theorem cQ:aM ["_law_book_here", "_law_some", "_law_codes", "_law_found", "_law_place", "_law_name"] ["_law_book_here", "_law_some"] (ay (top fu)):=⟨rfl,rfl,rfl,by decide +kernel,rfl,by decide +kernel,by decide +kernel⟩
theorem E1 (F:cX K "_law_begins" "_law_begins" (top fu) f fd)(T:Nm mg)(jj:mg "dict" = none):bA P w K mg base fQ 1 f fd ["_law_book_here", "_law_some"] (uI K):=by
 refine F.ok cQ (fun vs H Q E h =>?_) (fun di A outer s H vs Q E hr h =>?_)
 ·obtain⟨l,v,B,d,rfl,_⟩:=h
  rfl
 unfold uI at h
 refine ae.el h _ ?_
 clear h
 rintro l v B d rfl hB gB hv few sh q
 have hu:=gF hr
 have hU:=hr.units
 have hle:=gB.le
 refine⟨_,(ah (aE (i:=2) cQ.nd rfl (Or.inr rfl) (bX (Cd K rfl) rfl jj (by rfl) (aa (pv 0) ag)))
  (ah (cB (PW.pt (eC (dX (dm (av (kq K) rfl T.n_isinstance (by rfl) (aa (pv 1) (aa (cT rfl T.n_list (by rfl) (v := .ty "list") rfl) ag))))) (gb (aP (E8 K hU) (pv 1) (dg ag) (aY _))))) (ak (aI de)) bh)
  (ah (xh (i:=3) (j:=4) rfl cQ.nd rfl rfl (by decide) rfl rfl (aa (dg ag) (aa aj ag)) rfl)
  (ah (gh PassesOwn.never rfl (iE K (pv 1)) (ai (i:=5) cQ.nd rfl (Or.inl rfl)) (ah (cB (PW.pt (eC (dX (dm (av (kq K) rfl T.n_isinstance (by rfl) (aa (pv 5) (aa (cT rfl T.n_str (by rfl) (v := .ty "str") rfl) ag))))) (gb (kT (dN hu (pv 5) (pv 2)))))) (ak (aI de)) bh)
  (ah (d7 (si K PySem.F.plainAttrs_list PySem.F.slot_list_append PySem.F.type_list_append gQ (pv 3) (aa (pv 4) ag)))
  (ak (aE (i:=4) cQ.nd rfl (Or.inl rfl) (aF ck (pv 4) (av (dA K) rfl T.n_len (by rfl) (aa (dv hu (pv 2) (pv 5) (fun _ _=>rfl)) ag))))))))
  (ak (aI (dj (aa (pv 3) (aa (pv 4) (aa (si K PySem.F.plainAttrs_str PySem.F.slot_str_join PySem.F.type_str_join (yt K) bI (aa (bO rfl (aO (Nc:=["_law_name"]) (Fc:=["_law_codes"]) (js:=[2])) (iE K (pv 1)) (aA (i:=0) (n:=1) (by decide)) (fun _ _ _ _ _=>(ai (i:=0) (show(["_law_name", "_law_codes"]:List Str).Nodup by decide +kernel) rfl (Or.inl rfl))) (fun _ _ _ _ _=>bj) (fun _ _ _ _ _=>(dv hu (pv 1) (pv 0) (fun _ _=>rfl)))) ag)) ag)))))))))),?_⟩
 refine ae.el (mY hB gB) _ ?_
 rintro as' vs' e1 e2' e3 e4 e5
 refine⟨_,rfl,l,as',byName B,rfl,e1▸e2',by unfold byName;rw[Jb];exact e3,by unfold byName;rw[Jb]; (first|lia|omega),e4,fun D H1 n1=>gn ?_⟩
 rw[e5] at n1
 have no:∀{H'},(∀ps,Of B ps->d=fU ps->ps=[])->au H H'->Q .non H':=fun h s'=>q _ _ s' (.inl ⟨rfl,h⟩)
 dsimp only[yd]
 refine cc (t:=l9 _ _ _) fun D1 g1 y1 =>?_
 refine⟨_,rfl,.inl ⟨v, "list",d,fj d "list",rfl,hv.same n1.same,(kZ K d).2.2.2.1,_,rfl,?_⟩⟩
 by_cases e:fj d "list" = false
 ·rw[e]
  refine bD (bD (y1 _ _ (no (fun ps _ z =>?_) n1.same)))
  rw[z] at e;exact absurd (show true=false from e) (by decide)
 have hl:fj d "list" = true:=by simpa using e
 clear e
 obtain⟨ds,rfl⟩:=EI hl
 rw[hl]
 have hlen:=few ds rfl
 refine cg ⟨_,rfl,by show 0<=sizeLine;decide,fun p5 H5 n5 =>.inr ⟨_,_,(hv.same n1.same).same n5.same,Den.list (aG.of n5.at) (by unfold az;rfl),sh,om,_,rfl,?_⟩⟩
 rw[tD]
 have s5:=n1.same.trans n5.same
 cases hds0:ds.isEmpty with
 | true=>
  refine bD (y1 _ _ (no (fun ps _ z =>?_) s5))
  rw[List.isEmpty_iff.mp hds0] at z
  unfold fU at z
  injection z with z
  have:=congrArg Wk z
  rw[Jb,Jb] at this
  exact List.length_eq_zero_iff.mp this.symm
 | false=>
 unfold Den at hv
 refine ae.el (hv) _ ?_
 rintro p vs rfl hp hds
 have DK:vs.length=ds.length:=hds.len
 refine cg (g1 _ _ ?_)
 clear g1 y1
 refine⟨by show 0<=sizeLine;decide,fun b H6 n6=>⟨_,_,rfl,?_⟩⟩
 have Bm:=s5.seq hp
 have D0:=n5.same _ _ n1.at
 dsimp only
 refine dU (t:=vE _ _ _) (fun σ H'=>cj fun(x5:Option V) (ps:List (Str×Str)) =>σ=[some (.ref l),some (.ref p),some (.ref D),some (.ref b),some (.int (((tx ps).length:Nat):Int)),x5]/\au H5 H'/\H' b=some (.lst (j4 ps))/\Of B ps/\PyData.list ds=fU ps/\ps.length=ds.length) (fun Nx nx =>?_) ?_
 ·refine⟨_,rfl,p,rfl,⟨_,n6.same.seq Bm⟩,?_⟩
  refine lP (N:=ds.length) (fun i σ H'=>cj fun(x5:Option V) (ps:List (Str×Str)) =>σ=[some (.ref l),some (.ref p),some (.ref D),some (.ref b),some (.int (((tx ps).length:Nat):Int)),x5]/\au H5 H'/\H' b=some (.lst (j4 ps))/\Of B ps/\PyData.list (ds.take i)=fU ps/\ps.length=i) ⟨none,[],rfl,n6.same,n6.at,(fun _ h=>nomatch h),rfl,rfl⟩ ?_ ?_
  ·intro i σ H7 hi hz_
   refine ae.el hz_ _ ?_
   clear hz_
   rintro x5 ps rfl s7 hb o ed g8
   obtain⟨x,k1,k2⟩:=hds.get (Je hi)
   refine⟨⟨_,_,s7.seq Bm,k1⟩,?_⟩
   rintro x' H8 ⟨rfl,hy⟩
   have e:=hy _ (s7.seq Bm)
   rw[k1] at e;cases e
   refine gn ⟨_,rfl,.inl ⟨_, "str",ds[i],fj ds[i] "str",rfl,k2.same (s5.trans s7),(kZ K _).2.2.1,_,rfl,?_⟩⟩
   by_cases es:fj ds[i] "str" = false
   ·rw[es]
    refine bD (bD (no (fun oE o' z =>?_) (s5.trans s7)))
    refine ae.el (Cc o' z hi) _ ?_
    rintro n en _
    rw[en] at es;exact absurd (show true=false from es) (by decide)
   obtain⟨n,en⟩:∃n,ds[i] = .str n:=by
    obtain⟨ns,Bk⟩:=all_strs (ds:=[ds[i]]) (by simpa using es)
    cases ns with
    | nil=>cases Bk
    | cons n _=>injection Bk with a _;exact⟨n,a⟩
   have es:fj ds[i] "str" = true:=by simpa using es
   rw[es]
   rw[en] at k2
   unfold Den at k2
   subst k2
   refine cg ?_
   by_cases d4:n∈B.map (·.1)
   ·refine ae.el (Um.mp d4) _ ?_
    rintro y hyB rfl
    have HU:=gB.name hyB
    have CO:=(gB.cd y hyB).le
    refine⟨_,rfl,_,rfl,D,some (.str y.2),rfl,.inl ⟨_,.inr y.1,.inl (s7 _ _ D0),rfl,HU.symm⟩,_,rfl,cg ?_⟩
    refine⟨_,rfl,.inl ⟨rfl,_,aG.of hb⟩,_,rfl,b,_,_,rfl,rfl,hb,?_,fun H9 c9 =>?_⟩
    ·rw[iX];exact Jx (show ps.length<=3000 by first|lia|omega) (by decide)
    have s9:au H5 H9:=fun a o e=>by rw[c9.ne (aq e n6.nn)];exact s7 a o e
    refine⟨_,rfl,_,rfl,_,rfl,D,.str y.2,rfl,.inl ⟨_,.inr y.1,.inl (s9 _ _ D0),rfl,HU.symm⟩,_,_,rfl,⟨sizeOk (by first|lia|omega),rfl⟩,.inl ⟨_,_,rfl,rfl,gn ⟨some (.str y.1),ps++[y],?_,s9,by rw[c9.at,AM],fun z hz =>?_,?_,by rw[Jf,g8];rfl⟩⟩⟩
    ·rw[Bf];rfl
    ·rcases Jq.mp hz with hz|hz
     ·exact o z hz
     ·rw[Jg.mp hz];exact hyB
    ·unfold fU at ed ⊢
     injection ed with ed
     rw[aL hi,ed,en,Jl,Jl];rfl
   ·refine⟨_,rfl,_,rfl,D,none,rfl,.inl ⟨_,.inr n,.inl (s7 _ _ D0),rfl,(ng d4).symm⟩,_,rfl,bD (no (fun oE o' z =>?_) (s5.trans s7))⟩
    refine ae.el (Cc o' z hi) _ ?_
    rintro n' en' hn'
    rw[en] at en'
    injection en' with en'
    exact absurd (en'▸hn') d4
  ·intro σ H7 hz_
   refine ae.el hz_ _ ?_
   clear hz_
   rintro x5 ps rfl s7 hb o ed g8
   rw[Ui] at ed
   exact⟨⟨_,s7.seq Bm,by first|lia|omega⟩,nx _ _ ⟨_,ps,rfl,s7,hb,o,ed,g8⟩⟩
 intro σ H7 hz_
 refine ae.el hz_ _ ?_
 clear hz_
 rintro x5 ps rfl s7 hb o ed g8
 have jZ:ps≠[]:=fun z=>by
  rw[z] at g8
  have:ds=[]:=List.length_eq_zero_iff.mp g8.symm
  rw[this] at hds0;cases hds0
 have Kf:aG K H7 p ((ps.map (·.1)).map V.str):=by
  unfold fU at ed
  injection ed with ed
  rw[ed] at hds
  rw[<-gT hds]
  exact s7.seq Bm
 have JP:=s7 _ _ D0
 have Rj:ps.length<=3000:=by (first|lia|omega)
 refine⟨_,rfl,_,rfl,rfl,_,rfl,p,rfl,⟨_,Kf⟩,?_⟩
 refine cw (N:=ps.length) (fun i ys H'=>H'=H7/\ys=((ps.take i).map (·.2)).map V.str) ⟨rfl,rfl⟩ ?_ ?_
 ·rintro i ys H8 Ny hi ⟨rfl,rfl⟩ ny
  refine⟨⟨_,_,Kf,g9 hi⟩,by rw[Jb,Jb,Jw];exact Jx (show min i ps.length<=3000 by first|lia|omega) (by decide),?_⟩
  rintro x H9 ⟨rfl,hy⟩
  have e:=hy _ Kf
  rw[g9 hi] at e;cases e
  refine gn ⟨_,rfl,_,rfl,D,.str ps[i].2,rfl,.inl ⟨_,.inr ps[i].1,.inl JP,rfl,(gB.name (o _ (Jt hi))).symm⟩,ny _ _ ⟨rfl,?_⟩⟩
  rw[aL hi,Jl,Jl];rfl
 ·rintro ys H8 ⟨rfl,rfl⟩
  refine⟨⟨_,Kf,by rw[fC];exact Jc _⟩,fun p3 vo =>?_⟩
  rw[Ui]
  refine⟨"",p3,ps.map (·.2),rfl,rfl,aG.of aH,?_,?_⟩
  ·have h1:=sU ps
   have h2:=eu gB o
   have e0:Str.length "" = 0:=rfl
   rw[h1,e0]
   (first|lia|omega)
  ·rw[uq]
   have n3:cV H8 p3 (.lst ((ps.map (·.2)).map V.str)) (upd H8 p3 (.lst ((ps.map (·.2)).map V.str))):=⟨vo,rfl⟩
   generalize upd H8 p3 (.lst ((ps.map (·.2)).map V.str))=H9 at n3 ⊢
   exact⟨by show 3<=sizeLine;decide,fun z H10 n10=>q _ _ (s5.trans (s7.trans (n3.same.trans n10.same))) (.inr ⟨ps,z,b,rfl,o,ed,jZ,n10.at,n10.same _ _ (n3.same _ _ hb)⟩)⟩
end
theorem xQ {x:List Nat}{m k:Nat}(hm:m<x.length)(hk:k<x.length):(x.drop m++x.take m)[k]? = x[(m+k)%x.length]?:=by
 by_cases h:m+k<x.length
 ·rw[Ua (by rw[Ud]; (first|lia|omega)),Wg,Nat.mod_eq_of_lt h]
 ·rw[J0 (by rw[Ud]; (first|lia|omega)),Ud,List.getElem?_take,if_pos (by first|lia|omega)]
  have e:(m+k)%x.length=m+k-x.length:=by
   rw[Nat.mod_eq_sub_mod (by first|lia|omega),Nat.mod_eq_of_lt (by first|lia|omega)]
  rw[e]
  congr 1
  (first|lia|omega)
theorem Al {x y:List Nat}{m:Nat}(hm:m<x.length)(hl:y.length=x.length):(∀k,k<x.length->y[k]? = x[(m+k)%x.length]?)↔y=x.drop m++x.take m:=by
 have l2:(x.drop m++x.take m).length=x.length:=by rw[Jf,Ud,Jw]; (first|lia|omega)
 refine⟨fun h=>List.ext_getElem? fun k =>?_,fun h k hk=>by rw[h,xQ hm hk]⟩
 by_cases hk:k<x.length
 ·rw[h k hk,xQ hm hk]
 ·rw[Wh (by first|lia|omega),Wh (by first|lia|omega)]
theorem zk {ps:List (Str×Str)}{k:Int}:Ez (.int k) (j4 ps)=true ↔ ∃c∈lh ps,((c:Nat):Int)=k:=by
 unfold Ez j4
 rw[List.any_map,List.any_eq_true]
 refine⟨fun⟨c,hc,e⟩=>⟨c,hc,?_⟩,fun⟨c,hc,e⟩=>⟨c,hc,?_⟩⟩
 ·have e:(((c:Nat):Int)==k)=true:=e
  exact eq_of_beq e
 ·show(((c:Nat):Int)==k)=true
  rw[e];exact beq_self_eq_true _
theorem BK (ps:List (Str×Str)):(j4 ps).all iM=true:=by
 unfold j4
 rw[List.all_map,Wt]
 intro _ _;rfl
section
variable {P:Program}{w:World}{K:Ja}{mg:Str->Option Value}{base:Heap}{f:Addr}{fd:FuncData}{C:Addr}
theorem cy:aM ["_law_book_here", "_law_thing", "_law_one", "_law_other", "_law_place", "_law_k"] ["_law_book_here", "_law_thing"] (ay (top eJ)):=⟨rfl,rfl,rfl,by decide +kernel,rfl,by decide +kernel,by decide +kernel⟩
theorem Df (F:cX K "_law_is_ring" "_law_is_ring" (top eJ) f fd)(T:Nm mg)(iT:Fn P w K mg base 1 "_law_begins" ["_law_book_here", "_law_some"] (uI K)):bA P w K mg base fQ 2 f fd ["_law_book_here", "_law_thing"] (qv K):=by
 refine F.ok cy (fun vs H Q E h =>?_) (fun di A outer s H vs Q E hr h =>?_)
 ·obtain⟨l,v,B,d,rfl,_⟩:=h
  rfl
 unfold qv at h
 refine ae.el h _ ?_
 clear h
 rintro l v B d rfl hB gB hv ask q
 have hu:=gF hr
 have hU:=hr.units
 refine⟨_,(ah (cB (PW.pt (eC (dX (dm (av (kq K) rfl T.n_isinstance (by rfl) (aa (pv 1) (aa (cT rfl T.n_tuple (by rfl) (v := .ty "tuple") rfl) ag))))) (eC (aP (yk K hU) (av (dA K) rfl T.n_len (by rfl) (aa (pv 1) ag)) aj (aY _)) (eC (dX (dm (av (kq K) rfl T.n_isinstance (by rfl) (aa (bt (gP K) (pv 1) aj (fun _ _=>rfl)) (aa (cT rfl T.n_int (by rfl) (v := .ty "int") rfl) ag))))) (gb (dm (av (kq K) rfl T.n_isinstance (by rfl) (aa (bt (gP K) (pv 1) aj (fun _ _=>rfl)) (aa (cT rfl T.n_bool (by rfl) (v := .ty "bool") rfl) ag))))))))) (ak (aI eW)) bh)
  (ah (fB (dj (aa (aJ (iT.mono (by first|decide|exact Jc _|(first|lia|omega))) hr rfl (aa (pv 0) (aa (bt (gP K) (pv 1) aj (fun _ _=>rfl)) ag))) (aa (aJ (iT.mono (by first|decide|exact Jc _|(first|lia|omega))) hr rfl (aa (pv 0) (aa (bt (gP K) (pv 1) aj (fun _ _=>rfl)) ag))) (aa (bt (gP K) (pv 1) aj (fun _ _=>rfl)) ag)))) (tupK K 3 rfl (ar (ai (i:=2) cy.nd rfl (Or.inr rfl)) (ar (ai (i:=3) cy.nd rfl (Or.inl rfl)) (ar (ai (i:=4) cy.nd rfl (Or.inr rfl)) bp)))))
  (ah (cB (PW.pt (eC (aP AH (pv 2) de (aY _)) (eC (aP AH (pv 3) de (aY _)) (eC (aP (yk K hU) (bt (gP K) (pv 2) aj (fun _ _=>rfl)) (bt (gP K) (pv 3) aj (fun _ _=>rfl)) (aY _)) (gb (dX (qf iK iK aj (pv 4) (bt (gP K) (pv 2) aj (fun _ _=>rfl))))))))) (ak (aI eW)) bh)
  (ah (gh PassesOwn.never rfl (cG rfl T.n_range (aa (bt (gP K) (pv 2) aj (fun _ _=>rfl)) ag)) (ai (i:=5) cy.nd rfl (Or.inl rfl)) (ak (cB (aP (yk K hU) (bt (gP K) (bt (gP K) (pv 3) aj (fun _ _=>rfl)) (pv 5) (fun _ _=>rfl)) (bt (gP K) (bt (gP K) (pv 2) aj (fun _ _=>rfl)) (aF fz (aF ck (pv 4) (pv 5)) (bt (gP K) (pv 2) aj (fun _ _=>rfl))) (fun _ _=>rfl)) (aY _)) (ak (aI eW)) bh)))
  (ak (aI (av (AK K rfl) rfl T.n_all (by rfl) (aa (bO rfl (aO (Nc:=["_law_begin_here"]) (Fc:=["_law_one", "_law_place"]) (js:=[2,4])) (iE K (bt (gP K) (pv 3) aj (fun _ _=>rfl))) (aA (i:=0) (n:=1) (by decide)) (fun _ _ _ _ _=>(ai (i:=0) (show(["_law_begin_here", "_law_one", "_law_place"]:List Str).Nodup by decide +kernel) rfl (Or.inl rfl))) (fun _ _ _ _ _=>bj) (fun _ _ _ _ _=>(A2 (E5 K) (aF fz (aF ck (pv 2) (pv 0)) (bt (gP K) (pv 1) aj (fun _ _=>rfl))) (bt (gP K) (pv 1) aj (fun _ _=>rfl)) (by with_unfolding_all rfl)))) ag)))))))),?_⟩
 refine cc fun D1 n1 r1 =>?_
 refine⟨_,rfl,.inl ⟨v, "tuple",d,fj d "tuple",rfl,hv,(kZ K d).2.2.2.2,_,rfl,?_⟩⟩
 by_cases e:fj d "tuple" = false
 ·rw[e]
  refine bD (bD (r1 _ _ (q false H ⟨(fun z=>nomatch z),fun⟨ps,qs,n,z,_⟩=>?_⟩ fun _ _ h=>h)))
  rw[z] at e;exact absurd (show true=false from e) (by decide)
 have hl:fj d "tuple" = true:=by simpa using e
 clear e
 obtain⟨ds,rfl⟩:=yH hl
 rw[hl]
 unfold Den at hv
 obtain⟨p,vs,rfl,hp,hds⟩:=hv
 have DK:vs.length=ds.length:=hds.len
 refine cg ⟨_,rfl,_,_,rfl,.inr ⟨_,hp,rfl⟩,.inl ⟨rfl,_,rfl,?_⟩⟩
 by_cases h3:ds.length≠3
 ·have e:(!decide (V.int (vs.length:Nat)=V.int 3))=true:=by
   rw[DK];simp; (first|lia|omega)
  rw[e]
  refine bD (bD (r1 _ _ (q false H ⟨(fun z=>nomatch z),fun⟨ps,qs,n,z,_⟩=>absurd (by injection z with z;rw[z];rfl) h3⟩ fun _ _ h=>h)))
 have h3:ds.length=3:=Decidable.not_not.mp h3
 have e:(!decide (V.int (vs.length:Nat)=V.int 3))=false:=by
  rw[DK,h3];decide
 rw[e]
 refine cg ?_
 refine ae.el (Ct hds h3) _ ?_
 clear hds
 rintro d0 d1 d2 v0 v1 v2 rfl rfl k0 k1 k2
 obtain⟨f0,f1,sh0,sh1⟩:=ask d0 d1 d2 rfl
 have un:∀{C:Prop},Mv B (.tuple [d0,d1,d2])->(∀ps qs n,d0=fU ps->d1=fU qs->d2 = .int n->wV B ps qs n->C)->C:=fun{C} z k=>by
  obtain⟨ps,qs,n,z,h⟩:=z
  injection z with z
  injection z with z1 z
  injection z with z2 z
  injection z with z3 _
  exact k ps qs n z1 z2 z3 h
 have no:∀{H'},(∀ps qs n,d0=fU ps->d1=fU qs->d2 = .int n->wV B ps qs n->False)->au H H'->Q (.bl false) H':=fun h s'=>q false _ ⟨(fun z=>nomatch z),fun z=>(un z h).elim⟩ s'
 have Nh:∀{H':Hp} {R:VK},au H H'->R v2 H'->Fw K (.ref p) (.int 2) H' R:=fun s' r =>.inr (.inl ⟨p,_,2,v2,rfl,rfl,s'.sG hp,rfl,r⟩)
 refine⟨_,rfl,Nh (au.refl _) (.inl ⟨v2, "int",d2,fj d2 "int",rfl,k2,(kZ K d2).2.1,_,rfl,?_⟩)⟩
 cases h1:fj d2 "int" with
 | false=>exact bD (bD (r1 _ _ (no (fun ps qs n _ _ e2 g=>by rw[e2] at h1;exact absurd (show true=false from h1) (by decide)) (au.refl _))))
 | true=>
 refine cg ⟨_,rfl,Nh (au.refl _) (.inl ⟨v2, "bool",d2,fj d2 "bool",rfl,k2,(kZ K d2).1,_,rfl,?_⟩)⟩
 cases h2:fj d2 "bool" with
 | true=>exact bD (r1 _ _ (no (fun ps qs n _ _ e2 g=>by rw[e2] at h2;exact absurd (show false=true from h2) (by decide)) (au.refl _)))
 | false=>
 obtain⟨n,rfl⟩:=xK (d:=d2) (by unfold isNum;rw[h1,h2];rfl)
 unfold Den at k2
 subst k2
 refine cg (n1 _ _ ?_)
 clear n1 r1
 refine cc (t:=gU _ _) fun D1 g1 y1 =>?_
 refine⟨_,rfl,_,rfl,.inr (.inl ⟨p,_,0,v0,rfl,rfl,hp,rfl,l,v0,B,d0,rfl,hB,gB,k0,f0,sh0,fun w0 H1 s1 r0 =>?_⟩)⟩
 refine⟨_,rfl,_,rfl,.inr (.inl ⟨p,_,1,v1,rfl,rfl,s1.sG hp,rfl,l,v1,B,d1,rfl,hB.same s1,gB,k1.same s1,f1,sh1,fun w1 H2 s2 r1 =>?_⟩)⟩
 have zW:=s1.trans s2
 have r0:=r0.same s2
 refine⟨_,rfl,Nh zW ⟨by show 3<=sizeLine;decide,fun z3 H3 n3=>⟨z3,_,rfl,d9.of n3.at,rfl,_,_,rfl,_,_,rfl,_,_,rfl,rfl,g1 _ _ ?_⟩⟩⟩
 clear g1 y1
 have r0:=r0.same n3.same
 have r1:=r1.same n3.same
 have s3:=zW.trans n3.same
 clear n3 zW s1 s2
 refine cc (t:=l9 _ _ _) fun D2 n2 r2 =>?_
 rcases r0 with ⟨rfl,h⟩|⟨ps,z0,b0,rfl,o,e0,ne0,hz0,hb0⟩
 ·refine⟨_,rfl,.inl ⟨rfl,_,rfl,bD (bD (r2 _ _ (no (fun ps qs n e0 _ _ g =>?_) s3)))⟩⟩
  have:=h ps g.o1 e0
  subst this
  have h1:=g.lo
  have h2:n<((0:Nat):Int):=g.hi
  (first|lia|omega)
 refine⟨_,rfl,.inl ⟨rfl,_,rfl,cg ?_⟩⟩
 rcases r1 with ⟨rfl,h⟩|⟨qs,z1,b1,rfl,o2,e1,ne1,hz1,sY⟩
 ·refine⟨_,rfl,.inl ⟨rfl,_,rfl,bD (bD (r2 _ _ (no (fun ps qs n _ e1 _ g =>?_) s3)))⟩⟩
  have:=h qs g.o2 e1
  subst this
  have h1:=g.lo
  have h2:=g.hi
  have h3:=congrArg Wk g.eq
  rw[Jf,Ud,Jw] at h3
  have h3:0=(tx ps).length-n.toNat+min n.toNat (tx ps).length:=h3
  (first|lia|omega)
 refine⟨_,rfl,.inl ⟨rfl,_,rfl,cg ?_⟩⟩
 have lp:=j7 e0 f0
 have lq:=j7 e1 f1
 have tl:=eu gB o
 have tq:=eu gB o2
 have Ht:∀{oE zh:List (Str×Str)} {n':Int},d0=fU oE->d1=fU zh->PyData.int n = .int n'->wV B oE zh n'->wV B ps qs n:=fun{oE zh n'} a0 a1 a2 g=>by
  injection a2 with a2
  have z1:=jx gB o g.o1 (e0.symm.trans a0)
  have z2:=jx gB o2 g.o2 (e1.symm.trans a1)
  subst a2 z1 z2
  exact g
 have no:∀{H'},¬wV B ps qs n->au H H'->Q (.bl false) H':=fun h s'=>no (fun oE zh n' a0 a1 a2 g=>h (Ht a0 a1 a2 g)) s'
 have i0:∀{H':Hp} {R:VK} (i:Int) (v:V),o8 [.ref b0,.int (((tx ps).length:Nat):Int),.str (jU ps)] i=some v->au H3 H'->R v H'->Fw K (.ref z0) (.int i) H' R:=fun i v e s' r =>.inr (.inl ⟨z0,_,i,v,rfl,rfl,d9.of (s' _ _ hz0),e,r⟩)
 have i1:∀{H':Hp} {R:VK} (i:Int) (v:V),o8 [.ref b1,.int (((tx qs).length:Nat):Int),.str (jU qs)] i=some v->au H3 H'->R v H'->Fw K (.ref z1) (.int i) H' R:=fun i v e s' r =>.inr (.inl ⟨z1,_,i,v,rfl,rfl,d9.of (s' _ _ hz1),e,r⟩)
 have nl:=au.refl H3
 have rl:wV B ps qs n->(tx qs).length=(tx ps).length:=fun g=>by
  have h1:=g.lo
  have h2:=g.hi
  have h3:=congrArg Wk g.eq
  rw[Jf,Ud,Jw] at h3
  (first|lia|omega)
 refine⟨_,rfl,i0 1 _ rfl nl ⟨_,rfl,i1 1 _ rfl nl (.inl ⟨rfl,_,rfl,?_⟩)⟩⟩
 by_cases hL:(tx qs).length=(tx ps).length
 rotate_left
 ·rw[decide_eq_false (fun z=>hL (by injection z with z; (first|lia|omega)))]
  exact bD (bD (r2 _ _ (no (fun g=>hL (rl g)) s3)))
 rw[decide_eq_true (by rw[hL])]
 refine cg ?_
 refine⟨_,rfl,_,_,rfl,rfl,_,rfl,gM (fun c1 =>?_) (fun c1 =>?_)⟩
 rotate_left
 ·exact⟨_,rfl,bD (r2 _ _ (no (fun g=>c1 (decide_eq_true (by have:=g.lo; (first|lia|omega)))) s3))⟩
 have c1:=of_decide_eq_true c1
 refine⟨_,rfl,i0 1 _ rfl nl ⟨_,_,rfl,rfl,_,rfl,?_⟩⟩
 by_cases c2:n<((tx ps).length:Nat)
 rotate_left
 ·rw[decide_eq_false c2]
  exact bD (r2 _ _ (no (fun g=>c2 g.hi) s3))
 rw[decide_eq_true c2]
 refine cg (n2 _ _ ?_)
 clear n2 r2
 obtain⟨m,rfl⟩:∃m:Nat,n=(m:Int):=⟨n.toNat,by first|lia|omega⟩
 have hm:m<(tx ps).length:=by (first|lia|omega)
 have Eh:=Al (x:=tx ps) (y:=tx qs) hm hL
 have em:∀i:Nat,((m:Int)+(i:Int))%(((tx ps).length:Nat):Int)=(((m+i)%(tx ps).length:Nat):Int):=fun i=>by exact_mod_cast rfl
 have HF:∀{xs:List (Str×Str)} {j c:Nat},(tx xs)[j]? = some c->o8 (jU xs).cps.toList (j:Int)=some c:=fun{xs j c} h=>fE (by first|lia|omega) (by
  show(sg (jU xs))[j]? = _
  rw[lY];exact h)
 have t0:=sO ps
 have t1:=sO qs
 refine dU (t:=vE _ _ _) (fun σ H'=>∃x5,σ=[some (.ref l),some (.ref p),some (.ref z0),some (.ref z1),some (.int (m:Int)),x5]/\H'=H3/\∀k,k<(tx ps).length->(tx qs)[k]? = (tx ps)[(m+k)%(tx ps).length]?) (fun Nx nx =>?_) ?_
 ·refine⟨_,rfl,i0 1 _ rfl nl ⟨_,rfl,by first|lia|omega,by first|lia|omega,?_⟩⟩
  refine lP (N:=(tx ps).length) (fun i σ H'=>∃x5,σ=[some (.ref l),some (.ref p),some (.ref z0),some (.ref z1),some (.int (m:Int)),x5]/\H'=H3/\∀k,k<i->(tx qs)[k]? = (tx ps)[(m+k)%(tx ps).length]?) ⟨none,rfl,rfl,fun k h=>absurd h (Nat.not_lt_zero _)⟩ ?_ ?_
  ·rintro i σ H4 hi ⟨x5,rfl,rfl,hk⟩
   refine⟨by show i<(((tx ps).length:Nat):Int).toNat; (first|lia|omega),?_⟩
   rintro x H5 ⟨rfl,rfl⟩
   refine gn ?_
   rw[show(0:Int)+(i:Int)=((i:Nat):Int) by first|lia|omega]
   have hq:(tx qs)[i]? = some ((tx qs)[i]'(by first|lia|omega)):=Je (by first|lia|omega)
   have hr:(tx ps)[(m+i)%(tx ps).length]? = some ((tx ps)[(m+i)%(tx ps).length]'(Nat.mod_lt _ (by first|lia|omega))):=Je (Nat.mod_lt _ (by first|lia|omega))
   generalize (tx qs)[i]'(by first|lia|omega)=c at hq
   generalize (tx ps)[(m+i)%(tx ps).length]'(Nat.mod_lt _ (by first|lia|omega))=c' at hr
   refine⟨_,rfl,i1 2 _ rfl nl ⟨_,rfl,.inr (.inr ⟨_,_,c,rfl,rfl,sizeOk (by first|lia|omega),HF hq,?_⟩)⟩⟩
   refine⟨_,rfl,i0 2 _ rfl nl ⟨_,rfl,_,rfl,.inl ⟨_,_,rfl,rfl,_,rfl,i0 1 _ rfl nl ⟨_,_,rfl,rfl,by first|lia|omega,.inr (.inr ⟨_,_,c',rfl,rfl,sizeOk (by first|lia|omega),by rw[em];exact HF hr,.inl ⟨rfl,_,rfl,?_⟩⟩)⟩⟩⟩⟩
   by_cases hc:c=c'
   ·rw[decide_eq_true (by rw[hc])]
    refine cg ⟨_,rfl,rfl,fun k NS =>?_⟩
    by_cases e:k=i
    ·rw[e,hq,hr,hc]
    ·exact hk k (by first|lia|omega)
   ·rw[decide_eq_false (fun z=>hc (by injection z with z;injection z with z;injection z with z;injection z with z))]
    refine bD (no (fun g =>?_) s3)
    have:=Eh.mpr g.eq i hi
    rw[hq,hr] at this
    injection this with this
    exact hc this
  ·rintro σ H4 ⟨x5,rfl,rfl,hk⟩
   exact⟨by show(((tx ps).length:Nat):Int).toNat<=(tx ps).length; (first|lia|omega),nx _ _ ⟨_,rfl,rfl,hk⟩⟩
 rintro σ H4 ⟨x5,rfl,rfl,hk⟩
 have c3:=Eh.mp hk
 clear hk Eh
 have D8:∀{xs:List (Str×Str)} {i:Nat} (hi:i<xs.length),(j4 xs)[i]? = some (.int (((lh xs)[i]'(by rw[bR];exact hi):Nat):Int)):=fun{xs i} hi=>by
  unfold j4
  rw[Jm,Je (by rw[bR];exact hi)];rfl
 refine⟨_,rfl,i1 0 _ rfl nl ⟨b1,rfl,⟨_,aG.of sY⟩,?_⟩⟩
 let hit:Nat->Bool:=fun a => !Ez (.int (((m:Int)+(a:Int))%(((tx ps).length:Nat):Int))) (j4 ps)
 refine cw (N:=qs.length) (fun j ys H'=>H'=H4/\ys=(((lh qs).take j).map hit).map V.bl) ⟨rfl,rfl⟩ ?_ ?_
 ·rintro j ys H5 Nz hj ⟨rfl,rfl⟩ nz
  refine⟨⟨_,_,aG.of sY,D8 hj⟩,?_,?_⟩
  ·rw[Jb,Jb,Jw]
   exact Jx (show min j (lh qs).length<=3000 by rw[bR]; (first|lia|omega)) (by decide)
  rintro y H6 ⟨rfl,hy⟩
  have e:=hy _ (aG.of sY)
  rw[D8 hj] at e;cases e
  have dH:=aL (l:=lh qs) (i:=j) (by rw[bR];exact hj)
  generalize (lh qs)[j]'(by rw[bR];exact hj)=x at dH
  refine gn ⟨_,rfl,_,rfl,.inl ⟨_,_,rfl,rfl,_,rfl,i0 1 _ rfl nl ⟨_,_,rfl,rfl,by first|lia|omega,_,rfl,i0 0 _ rfl nl ⟨b0,_,rfl,.inl (aG.of hb0),rfl,BK ps,nz _ _ ⟨rfl,?_⟩⟩⟩⟩⟩
  rw[dH,Jl,Jl];rfl
 ·rintro ys H5 ⟨rfl,rfl⟩
  refine⟨⟨_,aG.of sY,by rw[iX];exact Jc _⟩,fun p9 hp9 =>?_⟩
  rw[Uw (by rw[bR];exact Jc _)]
  refine⟨p9,_,rfl,aG.of aH,q _ _ ?_ (s3.trans (cP hp9 _))⟩
  have lr:∀a:Nat,hit a=true ↔ ∀c∈lh ps,((m:Int)+(a:Int))%(((tx ps).length:Nat):Int)≠((c:Nat):Int):=fun a=>by
   show(!Ez (.int (((m:Int)+(a:Int))%(((tx ps).length:Nat):Int))) (j4 ps))=true↔_
   refine⟨fun h c hc z =>?_,fun h =>?_⟩
   ·rw[zk.mpr ⟨c,hc,z.symm⟩] at h;cases h
   ·cases hs:Ez (.int (((m:Int)+(a:Int))%(((tx ps).length:Nat):Int))) (j4 ps) with
    | false=>rfl
    | true=>
     obtain⟨c,hc,z⟩:=zk.mp hs
     exact absurd z.symm (h c hc)
  rw[List.all_map,Wt]
  refine⟨fun h=>⟨ps,qs,m,by rw[e0,e1],o,o2,by first|lia|omega,by first|lia|omega,c3,fun a ha=>(lr a).mp (h a ha)⟩,fun h a ha =>?_⟩
  exact un h fun oE zh n' a0 a1 a2 g=>(lr a).mpr ((Ht a0 a1 a2 g).ap a ha)
end
noncomputable def Ee:Sp:=fun vs H Q _=>iU fun(b c:Addr) (t:Int)=>vs=[.ref b]/\Bx H b c t/\0<=t/\t<900000 /\
 ∀(m o:Int) (tp:Addr) (H':Hp) (t':Int),1<=m->m<=8->1<=o->o<=8->Step b c H H' t t' 3->H' tp=some (.tup [.int m,.int o])->Q (.ref tp) H'
theorem lK (a:Array Nat):∀(k:Nat) (acc:Array Nat),((Jj k a).foldl (· ++ ·) acc).toList=acc.toList++(Jj k a.toList).flatten
 | 0,acc=>by simp
 | k+1,acc=>by
  rw[Yf,List.foldl_cons,lK a k,Yf]
  simp
theorem L5 {x:Str}(hx:1<=x.length)(hb:tP x){o:Int}(o0:1<=o)(o1:o<=8):(Txt.mul x 8).length<=sizeLine∨True->tP (Txt.slice (Txt.mul x 8) none (some o))/\(Txt.slice (Txt.mul x 8) none (some o)).length=o.toNat:=fun _=>by
 have e:sg (Txt.mul x 8)=(Jj 8 (sg x)).flatten:=by
  unfold Txt.mul
  rw[if_neg (by decide),if_neg (by intro h;rcases Bool.or_eq_true_iff.mp h with h|h;exact absurd h (by decide);have:=eq_of_beq h; (first|lia|omega))]
  show((Jj 8 x.cps).foldl (· ++ ·) #[]).toList=_
  rw[lK];simp
 have hl:(Txt.mul x 8).length=8*x.length:=by
  rw[str_len,str_len]
  show(sg (Txt.mul x 8)).length=8*(sg x).length
  rw[e,List.length_flatten,List.map_replicate,List.sum_replicate_nat]
 have hs:=G6 (x:=Txt.mul x 8) (j:=o) (by first|lia|omega) (by first|lia|omega)
 refine⟨fun ch hc =>?_,?_⟩
 ·have hc:ch∈sg (Txt.slice (Txt.mul x 8) none (some o)):=hc
  rw[hs,e] at hc
  have hc:=Wq hc
  obtain⟨l,CT,hm⟩:=List.mem_flatten.mp hc
  rw[(List.mem_replicate.mp CT).2] at hm
  exact hb ch hm
 ·rw[str_len]
  show(sg _).length=_
  rw[hs,Jw]
  have:(sg (Txt.mul x 8)).length=(Txt.mul x 8).length:=(str_len _).symm
  (first|lia|omega)
theorem oJ {α:Type}[DecidableEq α]{f:Nat -> α}{k: α}:∀{i:Nat},k∈bL f i->∃j,j<i/\f j=k
 | 0,h=>by simp[bL] at h
 | i+1,h=>by
  unfold bL oneMore at h
  by_cases q:f i∈bL f i
  ·rw[if_pos q] at h
   obtain⟨j,hj,e⟩:=oJ h
   exact⟨j,by first|lia|omega,e⟩
  ·rw[if_neg q] at h
   rcases Jq.mp h with h|h
   ·obtain⟨j,hj,e⟩:=oJ h
    exact⟨j,by first|lia|omega,e⟩
   ·exact⟨i,by first|lia|omega,(Jg.mp h).symm⟩
theorem oS {α:Type}[DecidableEq α]{f:Nat -> α}:∀{i:Nat},(bL f i).Nodup
 | 0=>List.nodup_nil
 | i+1=>by
  unfold bL oneMore
  split
  ·exact oS
  ·rename_i q
   refine List.nodup_append.mpr ⟨oS,Ye.mpr ⟨by simp,List.nodup_nil⟩,fun a ha b hb e=>q ?_⟩
   rw[<-Jg.mp hb,<-e];exact ha
theorem pL {zs:List Str}{x:Str}(h:x∈lu zs):x∈zs:=by
 obtain⟨j,hj,e⟩:=oJ h
 rw[<-e,We,Je hj]
 exact Jt hj
theorem Aj {zs:List Str}(h:zs≠[]):lu zs≠[]:=fun z=>by
 cases zs with
 | nil=>exact h rfl
 | cons a r=>
  unfold lu at z
  rw[J8] at z
  unfold bL oneMore at z
  split at z
  ·rename_i q;rw[z] at q;exact(nomatch q)
  ·simp at z
theorem ones_mul (k:Nat):sg (Txt.mul (Str.ofString "1") (k:Int))=Jj k 49:=Ba 49 k
theorem yP (k:Nat):(Txt.mul (Str.ofString "1") (k:Int)).length=k:=by
 rw[str_len]
 show(sg _).length=k
 rw[ones_mul,Ut]
theorem unary (m:Nat)(hm:1<=m)(Rr:m<=8)(cs:List Str)(h:cs=(U3 m).map (cA 49 48)∨cs=(U3 m).map (cA 49 48)++[Txt.mul (Str.ofString "1") (m:Int)]):cs≠[]/\eG cs/\(∀x∈cs,bu 8 x)/\cs.length<=9/\(∀x∈cs,x.length<=m):=by
 have ct:∀k,k<m->bu 8 (cA 49 48 k)/\(cA 49 48 k).length<=m:=fun k hk=>by
  have h1:=vj (a:=49) (b:=48) (k:=k) (.inr rfl) (.inl rfl) (by first|lia|omega)
  have h2:(cA 49 48 k).length=k+1:=by
   rw[str_len]
   show(sg (cA 49 48 k)).length=_
   rw[du,Jf,Ut];rfl
  exact⟨⟨h1.bin,h1.pos,by first|lia|omega⟩,by first|lia|omega⟩
 have c1:∀x∈(U3 m).map (cA 49 48),bu 8 x/\x.length<=m:=fun x hx=>by
  obtain⟨k,hk,rfl⟩:=Um.mp hx
  exact ct k (Wd.mp hk)
 have l1:((U3 m).map (cA 49 48)).length=m:=by rw[Jb,Yq]
 have n1:(U3 m).map (cA 49 48)≠[]:=fun z=>by rw[z] at l1;simp at l1; (first|lia|omega)
 rcases h with rfl|rfl
 ·exact⟨n1,nE (by decide) m,fun x hx=>(c1 x hx).1,by first|lia|omega,fun x hx=>(c1 x hx).2⟩
 ·have ml:=yP m
  refine⟨by simp,Ue.mpr ⟨nE (by decide) m,Y8 _ _,fun x hx y hy =>?_⟩,fun x hx =>?_,by rw[Jf,l1];show m+1<=9; (first|lia|omega),fun x hx =>?_⟩
  ·obtain⟨k,hk,rfl⟩:=Um.mp hx
   have hk:=Wd.mp hk
   rw[Jg.mp hy]
   refine⟨fun p =>?_,fun p =>?_⟩
   ·rw[du,ones_mul] at p
    obtain⟨r,e⟩:=p
    have h1:((Jj k 49++[48])++r)[k]? = some 48:=by
     rw[J9,J0 (by simp),Ut,Nat.sub_self];rfl
    rw[e,U4,if_pos hk] at h1
    exact absurd h1 (by decide)
   ·rw[du,ones_mul] at p
    obtain⟨r,e⟩:=p
    have Rl:k+1<=m:=hk
    have hle:m<=k+1:=by
     have:=congrArg Wk e
     simp at this
     (first|lia|omega)
    have em:m=k+1:=by (first|lia|omega)
    subst em
    have h1:(Jj (k+1) 49++r)[k]? = some 49:=by rw[Ua (by simp),U4,if_pos (by first|lia|omega)]
    rw[e,J0 (by simp),Ut,Nat.sub_self] at h1
    exact absurd h1 (by decide)
  ·rcases Jq.mp hx with hx|hx
   ·exact(c1 x hx).1
   ·rw[Jg.mp hx]
    refine⟨fun ch hc =>?_,by first|lia|omega,by first|lia|omega⟩
    have hc:ch∈sg (Txt.mul (Str.ofString "1") (m:Int)):=hc
    rw[ones_mul] at hc
    exact .inr (List.mem_replicate.mp hc).2
  ·rcases Jq.mp hx with hx|hx
   ·exact(c1 x hx).2
   ·rw[Jg.mp hx]; (first|lia|omega)
section
variable {P:Program}{w:World}{K:Ja}{mg:Str->Option Value}{base:Heap}{f:Addr}{fd:FuncData}
theorem o5:aM ["_law_state"] ["_law_state"] (ay (top gw)):=⟨rfl,rfl,rfl,by decide +kernel,rfl,by decide +kernel,by decide +kernel⟩
theorem GI (F:cX K "_law_sizes" "_law_sizes" (top gw) f fd)(T:Nm mg)(ax:Fn P w K mg base 1 "_law_take" ["_law_state", "_law_many"] kL):bA P w K mg base fQ 2 f fd ["_law_state"] Ee:=by
 refine F.ok o5 (fun vs H Q E h =>?_) (fun di A outer s H vs Q E hr h =>?_)
 ·obtain⟨b,c,t,rfl,_⟩:=h
  rfl
 obtain⟨b,c,t,rfl,bx,t0,t1,q⟩:=h
 have hU:=hr.units
 refine⟨_,(ah (cB (aP (E8 K hU) (aJ (ax.mono (by first|decide|exact Jc _|(first|lia|omega))) hr rfl (aa (pv 0) (aa aj ag))) aj (aY _)) (ak (aI (dj (aa (aF ck aj (aJ (ax.mono (by first|decide|exact Jc _|(first|lia|omega))) hr rfl (aa (pv 0) (aa aj ag)))) (aa (aF ck aj (aJ (ax.mono (by first|decide|exact Jc _|(first|lia|omega))) hr rfl (aa (pv 0) (aa aj ag)))) ag))))) bh)
  (ak (aI (dj (aa (aF ck aj (aJ (ax.mono (by first|decide|exact Jc _|(first|lia|omega))) hr rfl (aa (pv 0) (aa aj ag)))) (aa (aF ck aj (aJ (ax.mono (by first|decide|exact Jc _|(first|lia|omega))) hr rfl (aa (pv 0) (aa aj ag)))) ag)))))),?_⟩
 refine⟨_,rfl,b,c,t,8,rfl,bx,by first|lia|omega,by first|lia|omega,by decide,by decide,fun r H1 r0 r1 dy =>.inl ⟨rfl,_,rfl,gM (fun _ =>?_) (fun _ =>?_)⟩⟩
 ·refine⟨_,rfl,b,c,_,7,rfl,dy.bx,by first|lia|omega,by first|lia|omega,by decide,by decide,fun m H2 m0 m1 aW =>.inl ⟨_,_,rfl,rfl,?_⟩⟩
  refine⟨_,rfl,b,c,_,7,rfl,aW.bx,by first|lia|omega,by first|lia|omega,by decide,by decide,fun o H3 o0 o1 cp =>.inl ⟨_,_,rfl,rfl,by show 2<=sizeLine;decide,fun tp H4 n4 =>?_⟩⟩
  exact q (2+m) (2+o) tp H4 _ (by first|lia|omega) (by first|lia|omega) (by first|lia|omega) (by first|lia|omega) (((dy.trans aW).trans cp).cH n4) n4.at
 ·refine⟨_,rfl,b,c,_,6,rfl,dy.bx,by first|lia|omega,by first|lia|omega,by decide,by decide,fun m H2 m0 m1 aW =>.inl ⟨_,_,rfl,rfl,?_⟩⟩
  refine⟨_,rfl,b,c,_,5,rfl,aW.bx,by first|lia|omega,by first|lia|omega,by decide,by decide,fun o H3 o0 o1 cp =>.inl ⟨_,_,rfl,rfl,by show 2<=sizeLine;decide,fun tp H4 n4 =>?_⟩⟩
  exact q (1+m) (1+o) tp H4 _ (by first|lia|omega) (by first|lia|omega) (by first|lia|omega) (by first|lia|omega) (((dy.trans aW).trans cp).cH n4) n4.at
end
noncomputable def uu (K:Ja):Sp:=fun vs H Q _=>iU fun(b c:Addr) (t:Int)=>vs=[.ref b]/\Bx H b c t/\0<=t/\t<800000 /\
 ∀(bk:List (Str×Str)) (v:V) (H':Hp) (t':Int),bB bk->bk≠[]->fD K (cu H' b c) bk v->Step b c H H' t t' 400->Q v H'
section
variable {P:Program}{w:World}{K:Ja}{mg:Str->Option Value}{base:Heap}{f:Addr}{fd:FuncData}
theorem cx:aM ["_law_state", "_law_way", "_law_many", "_law_most", "_law_codes"] ["_law_state"] (ay (top iy)):=⟨rfl,rfl,rfl,by decide +kernel,rfl,by decide +kernel,by decide +kernel⟩
theorem BF (F:cX K "_law_book" "_law_book" (top iy) f fd)(T:Nm mg)(eZ:mg "sorted" = none)(yz:mg "set" = none)(ax:Fn P w K mg base 1 "_law_take" ["_law_state", "_law_many"] kL)(qS:Fn P w K mg base 2 "_law_sizes" ["_law_state"] Ee)(rO:Fn P w K mg base 2 "_law_free" ["_law_state", "_law_many", "_law_most"] Bn)(qT:Fn P w K mg base 2 "_law_names" ["_law_state", "_law_many"] BN):bA P w K mg base fQ 3 f fd ["_law_state"] (uu K):=by
 refine F.ok cx (fun vs H Q E h =>?_) (fun di A outer s H vs Q E hr h =>?_)
 ·obtain⟨b,c,t,rfl,_⟩:=h
  rfl
 unfold uu at h
 refine ae.el h _ ?_
 clear h
 rintro b c t rfl bx t0 t1 q
 have hU:=hr.units
 have small:∀{n:Nat},n<=1000->n<sizeLine:=fun h=>Jx h (by decide)
 refine⟨_,(ah (aE (i:=1) cx.nd rfl (Or.inl rfl) (aJ (ax.mono (by first|decide|exact Jc _|(first|lia|omega))) hr rfl (aa (pv 0) (aa aj ag))))
  (ah (fB (aJ (qS.mono (by first|decide|exact Jc _|(first|lia|omega))) hr rfl (aa (pv 0) ag)) (tupK K 2 rfl (ar (ai (i:=2) cx.nd rfl (Or.inl rfl)) (ar (ai (i:=3) cx.nd rfl (Or.inr rfl)) bp))))
  (ah (aE (i:=4) cx.nd rfl (Or.inl rfl) (aJ (rO.mono (by first|decide|exact Jc _|(first|lia|omega))) hr rfl (aa (pv 0) (aa (pv 2) (aa (pv 3) ag)))))
  (ah (cB (aP (E8 K hU) (pv 1) aj (aY _)) (ak (aE (i:=4) cx.nd rfl (Or.inl rfl) (av (tw rfl) rfl eZ (by rfl) (aa (bX (vJ rfl) rfl yz (by rfl) (aa (bO rfl (aO (Nc:=["_law_code"]) (Fc:=["_law_most"]) (js:=[3])) (iE K (pv 4)) (aA (i:=0) (n:=1) (by decide)) (fun _ _ _ _ _=>(ai (i:=0) (show(["_law_code", "_law_most"]:List Str).Nodup by decide +kernel) rfl (Or.inl rfl))) (fun _ _ _ _ _=>bj) (fun _ _ _ _ _=>(bC (uR K) (aF C1 (pv 0) aj) bQ (bN (pv 1))))) ag)) ag)))) bh)
  (ah (cB (aP (E8 K hU) (pv 1) aj (aY _)) (ak (aE (i:=4) cx.nd rfl (Or.inl rfl) (aF ck (bO rfl (aO (Nc:=["_law_k"]) (Fc:=[]) (js:=[])) (cG rfl T.n_range (aa (pv 2) ag)) (aA (i:=0) (n:=1) (by decide)) (fun _ _ _ _ _=>(ai (i:=0) (show(["_law_k"]:List Str).Nodup by decide +kernel) rfl (Or.inl rfl))) (fun _ _ _ _ _=>bj) (fun _ _ _ _ _=>(aF ck (aF C1 bI (pv 0)) bI))) (aF kM (dg (aa (aF C1 bI (pv 2)) ag)) (aJ (ax.mono (by first|decide|exact Jc _|(first|lia|omega))) hr rfl (aa (pv 0) (aa aj ag))))))) bh)
  (ak (aI (lU rfl rfl T.n_list rfl T.n_zip (aa (aJ (qT.mono (by first|decide|exact Jc _|(first|lia|omega))) hr rfl (aa (pv 0) (aa (av (dA K) rfl T.n_len (by rfl) (aa (pv 4) ag)) ag))) (aa (pv 4) ag)))))))))),?_⟩
 refine⟨_,rfl,b,c,t,8,rfl,bx,by first|lia|omega,by first|lia|omega,by decide,by decide,fun way H1 w0 w1 dy=>gn ?_⟩
 refine⟨_,rfl,b,c,_,rfl,dy.bx,by first|lia|omega,by first|lia|omega,fun m o tp H2 t2 m0 m1 o0 o1 aW htp=>⟨tp,_,rfl,d9.of htp,rfl,_,_,rfl,_,_,rfl,rfl,?_⟩⟩
 have aW:=dy.trans aW
 have OO:=aW.ub
 have Qd:=aW.le
 refine⟨_,rfl,_,rfl,_,rfl,b,c,t2,m,o,rfl,aW.bx,by first|lia|omega,by first|lia|omega,m0,m1,o0,o1,fun cs l H3 t3 ne le fr cd cp hl hl3=>gn ?_⟩
 obtain⟨lb,lc⟩:=aW.bx.aN hl
 have cp:=aW.trans cp
 have Fx:∀x∈cs,bu 8 x:=fun x hx=>(cd x hx).mono (by first|lia|omega)
 dsimp only
 refine dU (t:=l9 _ _ _) (fun σ H'=>cj fun(cs:List Str) (l:Addr) =>σ=[some (.ref b),some (.int way),some (.int m),some (.int o),some (.ref l)]/\l≠b/\l≠c/\cs≠[]/\cs.length<=9/\eG cs/\(∀x∈cs,bu 8 x)/\Step b c H H' t t3 44/\H' l=some (.lst (cs.map V.str))) (fun Nx nx =>?_) ?_
 ·refine⟨_,rfl,.inl ⟨rfl,_,rfl,gM (fun _ =>?_) (fun _=>nx _ _ ⟨cs,l,rfl,lb,lc,ne,by first|lia|omega,fr,Fx,cp,hl3⟩)⟩⟩
  have G0:∀{k:Nat} (hk:k<cs.length),(cs.map V.str)[k]? = some (.str cs[k]):=fun hk=>by rw[Jm,Je hk];rfl
  refine⟨_,rfl,l,rfl,⟨_,aG.of hl3⟩,?_⟩
  refine cw (N:=cs.length) (fun k ys H'=>H'=H3/\ys=((cs.take k).map fun x=>Txt.slice (Txt.mul x 8) none (some o)).map V.str) ⟨rfl,rfl⟩ ?_ ?_
  ·rintro k ys H4 Ny hk ⟨rfl,rfl⟩ ny
   refine⟨⟨_,_,aG.of hl3,G0 hk⟩,small (by rw[Jb,Jb,Jw]; (first|lia|omega)),?_⟩
   rintro x H5 ⟨rfl,hy⟩
   have e:=hy _ (aG.of hl3)
   rw[G0 hk] at e;cases e
   have hle:=(Fx _ (Jt hk)).le
   have K2:(Txt.mul cs[k] 8).length<=1000:=by
    have e:sg (Txt.mul cs[k] 8)=(Jj 8 (sg cs[k])).flatten:=by
     have BS:=(Fx _ (Jt hk)).pos
     generalize cs[k]=x at BS
     unfold Txt.mul
     rw[if_neg (by decide),if_neg (by intro h;rcases Bool.or_eq_true_iff.mp h with h|h;exact absurd h (by decide);have:=eq_of_beq h; (first|lia|omega))]
     show((Jj 8 x.cps).foldl (· ++ ·) #[]).toList=_
     rw[lK];simp
    rw[str_len]
    show(sg (Txt.mul cs[k] 8)).length<=1000
    rw[e,List.length_flatten,List.map_replicate,List.sum_replicate_nat]
    have:cs[k].length=(sg cs[k]).length:=str_len _
    (first|lia|omega)
   refine gn ⟨_,rfl,.inr ⟨_,_,rfl,rfl,gG (by first|lia|omega) (by decide) (by decide),_,rfl,o,rfl,.inr ⟨_,rfl,U6 (small K2),ny _ _ ⟨rfl,?_⟩⟩⟩⟩
   rw[List.take_succ_eq_append_getElem hk,Jl,Jl];rfl
  rintro ys H4 ⟨rfl,rfl⟩
  refine⟨⟨_,aG.of hl3,by rw[Jb];exact Jc _⟩,fun p hp =>?_⟩
  rw[Ui]
  obtain⟨zs,IU⟩:∃zs,zs=cs.map fun x=>Txt.slice (Txt.mul x 8) none (some o):=⟨_,rfl⟩
  rw[<-IU]
  obtain⟨H5,n5⟩:∃H5,cV H4 p (.lst (zs.map V.str)) H5:=⟨_,hp,rfl⟩
  rw[<-n5.eq]
  have zl:zs.length=cs.length:=by rw[IU,Jb]
  have ev:∀x∈zs,tP x/\x.length=o.toNat:=fun x hx=>by
   rw[IU] at hx
   refine ae.el (Um.mp hx) _ ?_
   rintro y hy rfl
   exact L5 (Fx y hy).pos (Fx y hy).bin o0 o1 (.inr trivial)
  have ol:(lu zs).length<=zs.length:=iw _ _
  refine⟨p,zs,rfl,aG.of n5.at,by first|lia|omega,fun a H6 n6=>⟨a,lu zs,rfl,n6.at,oS,by first|lia|omega,fun ms l7 H7 pm n7=>gn ?_⟩⟩
  have fh:=(cp.cH n5).cH n6
  obtain⟨lb7,lc7⟩:=fh.bx.aN n7.nn
  have E:D4 o.toNat ms:=⟨fun x hx=>(ev x (pL (pm.mem_iff.mp hx))).2,fun x hx=>(ev x (pL (pm.mem_iff.mp hx))).1,pm.nodup_iff.mpr oS⟩
  have ml:=pm.length_eq
  refine nx _ _ ⟨ms,l7,rfl,lb7,lc7,fun z =>?_,by first|lia|omega,E.free,fun x hx=>⟨E.bin x hx,by rw[E.len x hx]; (first|lia|omega),by rw[E.len x hx]; (first|lia|omega)⟩,fh.cH n7,n7.at⟩
  refine Aj (zs:=zs) (fun y=>ne ?_) (Uy (by rw[<-ml,z];rfl))
  exact Uy (by rw[<-zl,y];rfl)
 clear ne le fr cd Fx hl3 lb lc hl
 intro σ H4 hz_
 refine ae.el hz_ _ ?_
 clear hz_
 rintro cs l rfl lb lc ne le fr cd dG BV
 refine dU (t:=l9 _ _ _) (fun σ H'=>iU fun(cs:List Str) (l:Addr) (t':Int) =>σ=[some (.ref b),some (.int way),some (.int m),some (.int o),some (.ref l)]/\l≠b/\l≠c/\cs≠[]/\cs.length<=9/\eG cs/\(∀x∈cs,bu 8 x)/\Step b c H H' t t' 45/\H' l=some (.lst (cs.map V.str))) (fun Nx nx =>?_) ?_
 ·refine⟨_,rfl,.inl ⟨rfl,_,rfl,gM (fun _ =>?_) (fun _=>nx _ _ ⟨cs,l,t3,rfl,lb,lc,ne,by first|lia|omega,fr,cd,dG.more (by first|lia|omega),BV⟩)⟩⟩
  obtain⟨k,rfl⟩:∃k:Nat,m=k:=⟨m.toNat,by first|lia|omega⟩
  refine⟨_,rfl,_,rfl,by first|lia|omega,by first|lia|omega,?_⟩
  refine cw (N:=k) (fun i ys H'=>H'=H4/\ys=((U3 i).map (cA 49 48)).map V.str) ⟨rfl,rfl⟩ ?_ ?_
  ·rintro i ys H5 Ny hi ⟨rfl,rfl⟩ ny
   refine⟨by show i<((k:Nat):Int).toNat; (first|lia|omega),small (by rw[Jb,Jb,Yq]; (first|lia|omega)),?_⟩
   rintro x H6 ⟨rfl,rfl⟩
   refine gn ?_
   rw[show(0+(i:Int))=((i:Nat):Int) by first|lia|omega]
   refine⟨_,rfl,.inr ⟨_,_,rfl,rfl,gG (by show 1<=1000;decide) (by first|lia|omega) (by first|lia|omega),.inr (.inl ⟨_,_,rfl,rfl,U6 (small (by rw[yP];show i+1<=1000; (first|lia|omega))),ny _ _ ⟨rfl,?_⟩⟩)⟩⟩
   have et:Txt.mul (Str.ofString "1") (i:Int)++Str.ofString "0" = cA 49 48 i:=by
    refine fY ?_
    rw[jr,ones_mul,du];rfl
   rw[et,List.range_succ,Jl,Jl]
   rfl
  rintro ys H5 ⟨rfl,rfl⟩
  refine⟨by show((k:Nat):Int).toNat<=k; (first|lia|omega),fun p hp =>?_⟩
  obtain⟨H6,n6⟩:∃H6,cV H5 p (.lst (((U3 k).map (cA 49 48)).map V.str)) H6:=⟨_,hp,rfl⟩
  rw[<-n6.eq]
  refine⟨_,rfl,.inr ⟨_,_,rfl,rfl,gG (by show 1<=1000;decide) (by first|lia|omega) (by first|lia|omega),by show 1<=sizeLine;decide,fun p7 H7 n7 =>?_⟩⟩
  have mx:=(dG.cH n6).cH n7
  have Q8:=mx.ub
  have Rq:=mx.le
  refine⟨_,rfl,b,c,_,2,rfl,mx.bx,by first|lia|omega,by first|lia|omega,by decide,by decide,fun r H8 r0 r1 o7 =>?_⟩
  obtain⟨pb7,pc7⟩:=(dG.cH n6).bx.aN n7.nn
  obtain⟨pb,pc⟩:=dG.bx.aN n6.nn
  have QI:=o7.old n7.at pb7 pc7
  have Li:=o7.old (n7.same _ _ n6.at) pb pc
  have o7:=mx.trans o7
  have zg:r=0∨r=1:=by (first|lia|omega)
  refine .inr ⟨p7,r,_,rfl,rfl,QI,by first|lia|omega,by first|lia|omega,?_,fun p9 H9 n9 =>?_⟩
  ·exact U6 (small (by show 1*r.toNat<=1000; (first|lia|omega)))
  have ji:=o7.cH n9
  refine .inr (.inr ⟨p,p9,_,_,rfl,rfl,n9.same _ _ Li,n9.at,U6 (small ?_),fun pA HA nA=>gn ?_⟩)
  ·rw[Jb,Jb,Yq]
   rcases zg with e|e<;>rw[e]<;>simp<;>(first|lia|omega)
  obtain⟨pbA,pcA⟩:=ji.bx.aN nA.nn
  obtain⟨ds,hds,hds2⟩:∃ds:List Str,(ds=(U3 k).map (cA 49 48)∨ds=(U3 k).map (cA 49 48)++[Txt.mul (Str.ofString "1") (k:Int)])/\((U3 k).map (cA 49 48)).map V.str++(Jj r.toNat [V.str (Txt.mul (Str.ofString "1") (k:Int))]).flatten=ds.map V.str:=by
   rcases zg with e|e
   ·refine⟨_,.inl rfl,?_⟩
    rw[e];exact U5 _
   ·refine⟨_,.inr rfl,?_⟩
    rw[e,Jl];rfl
  have NC:=nA.at
  rw[hds2] at NC
  refine ae.el (unary k (by first|lia|omega) (by first|lia|omega) ds hds) _ ?_
  rintro u1 u2 u3 u4 u5
  exact nx _ _ ⟨ds,pA,_,rfl,pbA,pcA,u1,u4,u2,u3,ji.cH nA,NC⟩
 clear ne le fr cd BV lb lc dG
 intro σ H4 hz_
 refine ae.el hz_ _ ?_
 clear hz_
 rintro cs l t4 rfl lb lc ne le fr cd dG BV
 have MR:=dG.ub
 have Nw:=dG.le
 have hlen:(cs.map V.str).length=cs.length:=Jb _
 refine⟨_,rfl,_,rfl,_,_,rfl,.inl ⟨_,aG.of BV,rfl⟩,b,c,_,_,rfl,dG.bx,by first|lia|omega,by first|lia|omega,by first|lia|omega,by first|lia|omega,fun xs l5 H5 t5 Dl nd ln cC wN hl55 =>?_⟩
 have O3:=cC.old BV lb lc
 have cC:=dG.trans cC
 refine⟨_,rfl,l5,l,_,_,rfl,aG.of hl55,aG.of O3,fun H7 p as sm hp hp7 CK hpairs =>?_⟩
 have KP:xs.length=cs.length:=by (first|lia|omega)
 refine q (xs.zip cs) (.ref p) H7 t5 ?_ (fun z=>ne ?_) (yU cC.bx hp hp7 KP CK hpairs) ((cC.trans (Step.same cC.bx sm)).more (by first|lia|omega))
 ·have h1:(xs.zip cs).map (·.1)=xs:=List.map_fst_zip (by first|lia|omega)
  exact⟨by rw[List.length_zip]; (first|lia|omega),by rw[h1];exact nd,fun z hz=>(cd _ (List.of_mem_zip (a:=z.1) (b:=z.2) hz).2).mono (by decide),fun z hz=>(ln _ (List.of_mem_zip (a:=z.1) (b:=z.2) hz).1).1,fun z hz=>(ln _ (List.of_mem_zip (a:=z.1) (b:=z.2) hz).1).2⟩
 ·have h2:(xs.zip cs).map (·.2)=cs:=List.map_snd_zip (by first|lia|omega)
  rw[<-h2,z];rfl
end
noncomputable abbrev jN (ps:List (Str×Str)):List V:=(ps.map (·.1)).map V.str
noncomputable def kf (K:Ja):Sp:=fun vs H Q _=>zT fun(b c:Addr) (t:Int) (v:V) (B:List (Str×Str))=>vs=[.ref b,v]/\Bx H b c t/\0<=t/\t<800000/\fD K (cu H b c) B v/\bB B/\B≠[] /\
 ∀(n:Int) (ps qs:List (Str×Str)) (z p q:Addr) (H':Hp) (t':Int),Of B ps->Of B qs->ps.length<=1260->qs.length<=1260 -> -20<=n->n<=6000->cu H' b c z=some (.tup [.ref p,.ref q,.int n])->cu H' b c p=some (.lst (jN ps))->cu H' b c q=some (.lst (jN qs))->Step b c H H' t t' 20->Q (.ref z) H'
theorem fD.MG {K:Ja}{H:Hp}{b c:Addr}{B:List (Str×Str)}{v:V}(h:fD K (cu H b c) B v):∃l,v = .ref l/\l≠b/\l≠c/\kc K H B l/\kc K (cu H b c) B l:=by
 obtain⟨l,vs,rfl,h1,h2⟩:=h
 refine ae.el (df h1) _ ?_
 rintro e lb lc
 exact⟨l,rfl,lb,lc,⟨vs,aG.of e,h2.same rY⟩,⟨vs,aG.of h1,h2⟩⟩
theorem zD (k:Nat)(ps:List (Str×Str)):(Jj k (jN ps)).flatten=jN (Jj k ps).flatten:=by
 show _=(((Jj k ps).flatten).map (·.1)).map V.str
 rw[List.map_flatten,List.map_flatten,List.map_replicate,List.map_replicate]
theorem uM {α:Type}(k:Nat)(ps:List α):(Jj k ps).flatten.length=k*ps.length:=by
 rw[List.length_flatten,List.map_replicate,List.sum_replicate_nat]
theorem rN {B ps:List (Str×Str)}(k:Nat)(o:Of B ps):Of B (Jj k ps).flatten:=fun q hq=>by
 refine ae.el (List.mem_flatten.mp hq) _ ?_
 rintro l hl h
 rw[(List.mem_replicate.mp hl).2] at h
 exact o q h
section
variable {P:Program}{w:World}{K:Ja}{mg:Str->Option Value}{base:Heap}{f:Addr}{fd:FuncData}{C:Addr}
theorem uw {l:Addr}{H:Hp}{B:List (Str×Str)}{σ:L2.St}{Qn:VK}(hB:kc K H B l)(hle:B.length<=16)(h1: σ[1]? = some (some (.ref l)))(qn:∀p H',cV H p (.lst (jN B)) H'->Qn (.ref p) H'):
  dz (uc K (g7 1)) [Str.ofString "_law_name",Str.ofString "_law_code"].length [] (nJ K 2 (eV (cM 0) (eV (cM 1) pR))) ma (g7 0) σ H Qn:=by
 obtain⟨vs,hl,hd⟩:=id hB
 have hlen:=ik hd
 refine⟨_,h1,l,rfl,⟨_,hl⟩,?_⟩
 refine cY (N:=B.length) (fun i ys H'=>H'=H/\ys=jN (B.take i)) ⟨rfl,rfl⟩ ?_ ?_
 ·rintro i ys H1 Ny hi ⟨rfl,rfl⟩ ny
  refine ae.el (jO hd hi) _ ?_
  rintro tp e1 e2
  refine⟨⟨_,_,hl,e1⟩,by rw[Jb,Jb,Jw];exact Jx (show min i B.length<=1000 by first|lia|omega) (by decide),?_⟩
  rintro x H2 ⟨rfl,hy⟩
  have e:=hy _ hl
  rw[e1] at e;cases e
  refine⟨tp,_,rfl,e2,rfl,_,_,rfl,_,_,rfl,rfl,?_⟩
  refine⟨_,rfl,ny _ _ ⟨rfl,?_⟩⟩
  show _=((B.take (i+1)).map (·.1)).map V.str
  rw[aL hi,Jl,Jl];rfl
 ·rintro ys H1 ⟨rfl,rfl⟩
  refine⟨⟨_,hl,by first|lia|omega⟩,fun p H' n=>qn _ _ ?_⟩
  rwa[Ui] at n
theorem qJ {b c pn:Addr}{t:Int}{H:Hp}{B:List (Str×Str)}{x1 x3 x4 x5 x6 x7:Option V}{Qn:VK}(bx:Bx H b c t)(t0:0<=t)(t1:t<910000)(hn:H pn=some (.lst (jN B)))(nb:pn≠b)(nc:pn≠c)(BE:0<B.length)(hle:B.length<=16)
  (qn:∀(p:Addr) (t':Int) (xs:List (Str×Str)) (H':Hp),p≠b->p≠c->Of B xs->xs.length<=4->Step b c H H' t t' 5->H' p=some (.lst (jN xs))->Qn (.ref p) H') :
  dz (Cu (jS (zZ uO (tC (V.int 1)) (qu kL [] E0 (jS (g7 0) (jS (tC (V.int 4)) vD)))) vD)) [Str.ofString "_law_k"].length [2,0] (cM 0) ma
   (zZ (Fw K) (g7 1) (qu kL [] E0 (jS (g7 2) (jS (JS (fun xs H Q=>∃x n,xs=[x]/\EV K x H n/\Q (V.int ((n:Nat):Int)) H) (jS (g7 1) vD)) vD))))
   [some (.ref b),x1,some (.ref pn),x3,x4,x5,x6,x7] H Qn:=by
 have Im:(jN B).length=B.length:=fC
 refine⟨_,rfl,b,c,_,4,rfl,bx,by first|lia|omega,by first|lia|omega,by decide,by decide,fun r H3 r0 r1 cp =>.inl ⟨_,_,rfl,rfl,1+r,rfl,by first|lia|omega,by first|lia|omega,?_⟩⟩
 refine cY (N:=(1+r).toNat) (fun k ys H'=>cj fun(xs:List (Str×Str)) (t':Int)=>ys=jN xs/\xs.length=k/\Of B xs/\Step b c H H' t t' (1+k)/\H' pn=some (.lst (jN B))) ⟨[],_,rfl,rfl,(fun _ h=>nomatch h),cp.more (by first|lia|omega),cp.old hn nb nc⟩ ?_ ?_
 ·intro k ys H4 Ny hk hz_ ny
  refine ae.el hz_ _ ?_
  clear hz_
  rintro xs t4 rfl xl xo dG hn4
  have MR:=dG.ub
  have Nw:=dG.le
  refine⟨hk,Jx (show _<=1000 by rw[Jb,Jb]; (first|lia|omega)) (by decide),?_⟩
  rintro x H5 ⟨rfl,rfl⟩
  refine gn ⟨_,rfl,_,rfl,_,rfl,_,_,rfl,.inl ⟨_,aG.of hn4,rfl⟩,b,c,_,_,rfl,dG.bx,by first|lia|omega,by first|lia|omega,by first|lia|omega,by first|lia|omega,fun d H6 d0 d1 fh =>?_⟩
  have NO:d.toNat<B.length:=by (first|lia|omega)
  refine .inl ⟨pn,_,d,.str B[d.toNat].1,rfl,rfl,aG.of (fh.old hn4 nb nc),fE d0 (g9 NO),ny _ _ ⟨xs++[B[d.toNat]],_,by show _=((xs++[B[d.toNat]]).map (·.1)).map V.str;rw[Jl,Jl];rfl,by rw[Jf,xl];rfl,fun z hz =>?_,(dG.trans fh).more (by first|lia|omega),fh.old hn4 nb nc⟩⟩
  rcases Jq.mp hz with hz|hz
  ·exact xo z hz
  ·rw[Jg.mp hz];exact Jt NO
 ·intro ys H4 hz_
  refine ae.el hz_ _ ?_
  clear hz_
  rintro xs t4 rfl xl xo dG hn4
  refine⟨Jc _,fun p H5 n5 =>?_⟩
  have ne:=dG.bx.aN n5.nn
  exact qn p t4 xs _ ne.1 ne.2 xo (by first|lia|omega) ((dG.cH n5).more (by first|lia|omega)) n5.at
theorem cz:aM ["_law_state", "_law_book_here", "_law_names_here", "_law_times", "_law_one", "_law_other", "_law_at", "_law_told"] ["_law_state", "_law_book_here"] (ay (top iB)):=⟨rfl,rfl,rfl,by decide +kernel,rfl,by decide +kernel,by decide +kernel⟩
theorem E2 (F:cX K "_law_good" "_law_good" (top iB) f fd)(T:Nm mg)(ax:Fn P w K mg base 1 "_law_take" ["_law_state", "_law_many"] kL)(ou:Fn P w K mg base 6 "never_ring" ["book"] (Fi K)):bA P w K mg base fQ 7 f fd ["_law_state", "_law_book_here"] (kf K):=by
 refine F.ok cz (fun vs H Q E h =>?_) (fun di A outer s H vs Q E hr h =>?_)
 ·obtain⟨b,c,t,v,B,rfl,_⟩:=h
  rfl
 unfold kf at h
 refine ae.el h _ ?_
 clear h
 rintro b c t v B rfl bx t0 t1 hv gB jZ q
 refine ae.el (hv.MG) _ ?_
 rintro l rfl lb lc hB hBh
 have hu:=gF hr
 have hle:=gB.le
 refine⟨_,(ah (aE (i:=2) cz.nd rfl (Or.inr rfl) (bO rfl (aO (Nc:=["_law_name", "_law_code"]) (Fc:=[]) (js:=[])) (iE K (pv 1)) (dF (aK (aA (i:=0) (n:=2) (by decide)) (aK (aA (i:=1) (n:=2) (by decide)) cR aB aR) aB (aX aB aR))) (fun _ _ _ _ _=>(tupK K 2 rfl (ar (ai (i:=0) (show(["_law_name", "_law_code"]:List Str).Nodup by decide +kernel) rfl (Or.inl rfl)) (ar (ai (i:=1) (show(["_law_name", "_law_code"]:List Str).Nodup by decide +kernel) rfl (Or.inl rfl)) bp)))) (fun _ _ _ _ _=>bj) (fun _ _ _ _ _=>(pv 0))))
  (ah (aE (i:=3) cz.nd rfl (Or.inl rfl) (aF ck aj (aJ (ax.mono (by first|decide|exact Jc _|(first|lia|omega))) hr rfl (aa (pv 0) (aa aj ag)))))
  (ah (bJ (i:=4) cz.nd rfl (Or.inl rfl) rfl (aO (Nc:=["_law_k"]) (Fc:=["_law_names_here", "_law_state"]) (js:=[2,0])) (cG rfl T.n_range (aa (aF ck aj (aJ (ax.mono (by first|decide|exact Jc _|(first|lia|omega))) hr rfl (aa (pv 0) (aa aj ag)))) ag)) (aA (i:=0) (n:=1) (by decide)) (fun _ _ _ _ _=>(ai (i:=0) (show(["_law_k", "_law_names_here", "_law_state"]:List Str).Nodup by decide +kernel) rfl (Or.inl rfl))) (fun _ _ _ _ _=>bj) (fun _ _ _ _ _=>(bt (gP K) (pv 1) (aJ (ax.mono (by first|decide|exact Jc _|(first|lia|omega))) hr rfl (aa (pv 2) (aa (av (dA K) rfl T.n_len (by rfl) (aa (pv 1) ag)) ag))) (fun _ _=>rfl))))
  (ah (bJ (i:=5) cz.nd rfl (Or.inl rfl) rfl (aO (Nc:=["_law_k"]) (Fc:=["_law_names_here", "_law_state"]) (js:=[2,0])) (cG rfl T.n_range (aa (aF ck aj (aJ (ax.mono (by first|decide|exact Jc _|(first|lia|omega))) hr rfl (aa (pv 0) (aa aj ag)))) ag)) (aA (i:=0) (n:=1) (by decide)) (fun _ _ _ _ _=>(ai (i:=0) (show(["_law_k", "_law_names_here", "_law_state"]:List Str).Nodup by decide +kernel) rfl (Or.inl rfl))) (fun _ _ _ _ _=>bj) (fun _ _ _ _ _=>(bt (gP K) (pv 1) (aJ (ax.mono (by first|decide|exact Jc _|(first|lia|omega))) hr rfl (aa (pv 2) (aa (av (dA K) rfl T.n_len (by rfl) (aa (pv 1) ag)) ag))) (fun _ _=>rfl))))
  (ah (aE (i:=6) cz.nd rfl (Or.inl rfl) (aF ck aj (aJ (ax.mono (by first|decide|exact Jc _|(first|lia|omega))) hr rfl (aa (pv 0) (aa aj ag)))))
  (ah (aE (i:=7) cz.nd rfl (Or.inl rfl) (aJ (ou.mono (by first|decide|exact Jc _|(first|lia|omega))) hr rfl (aa (pv 1) ag)))
  (ah (cB (aP AH (pv 7) de (aY _)) (ak (aI (dj (aa (pv 4) (aa (bt (gP K) (dg (aa (pv 5) (aa (bX (zK K) rfl T.n_list (by rfl) (aa (pv 4) ag)) ag))) (aJ (ax.mono (by first|decide|exact Jc _|(first|lia|omega))) hr rfl (aa (pv 0) (aa aj ag))) (fun _ _=>rfl)) (aa (pv 6) ag)))))) bh)
  (ak (aI (dj (aa (aF kM (bt (gP K) (pv 7) aj (fun _ _=>rfl)) (pv 3)) (aa (aF kM (bt (gP K) (pv 7) aj (fun _ _=>rfl)) (pv 3)) (aa (bt (gP K) (pv 7) aj (fun _ _=>rfl)) ag))))))))))))),?_⟩
 refine bG (te:=dz _ _ _ _ _ _) (fun v H'=>∃p,v = .ref p/\cV H p (.lst (jN B)) H') (fun Qn qn=>uw hB hle rfl fun p H' n=>qn _ _ ⟨p,rfl,n⟩) ?_
 intro v H1 hz_
 refine ae.el hz_ _ ?_
 clear hz_
 rintro pn rfl n1
 refine gn ?_
 have nb:=(bx.aN n1.nn).1
 have nc:=(bx.aN n1.nn).2
 have dy:=(Step.refl bx).cH n1
 refine cc (t:=gU _ _) fun D1 g1 y1 =>?_
 refine⟨_,rfl,b,c,_,3,rfl,dy.bx,by first|lia|omega,by first|lia|omega,by decide,by decide,fun r0 H2 r00 r01 aW =>.inl ⟨_,_,rfl,rfl,gn (g1 _ _ ?_)⟩⟩
 clear g1 y1
 have rG:=aW.old n1.at nb nc
 have aW:=dy.trans aW
 obtain⟨tm,htm,tm1,tm2⟩:∃tm:Nat,1+r0=(tm:Int)/\1<=tm/\tm<=3:=⟨(1+r0).toNat,by first|lia|omega,by first|lia|omega,by first|lia|omega⟩
 rw[htm]
 have Im:(jN B).length=B.length:=fC
 have BE:0<B.length:=List.length_pos_iff.mpr jZ
 refine bG (te:=dz _ _ _ _ _ _) (fun v H'=>iU fun(p:Addr) (t':Int) (xs:List (Str×Str))=>v = .ref p/\p≠b/\p≠c/\Of B xs/\xs.length<=4/\Step b c H H' t t' 7/\H' p=some (.lst (jN xs))/\H' pn=some (.lst (jN B))) (fun Qn qn =>?_) ?_
 ·have ub:=aW.ub
  have lo:=aW.le
  exact qJ aW.bx (by first|lia|omega) (by first|lia|omega) rG nb nc BE hle fun p t' xs H' pb pc xo xl st h=>qn _ _ ⟨p,t',xs,rfl,pb,pc,xo,xl,(aW.trans st).more (by first|lia|omega),h,st.old rG nb nc⟩
 intro v H3 hz_
 refine ae.el hz_ _ ?_
 clear hz_
 rintro pa t3 xa rfl ab ac oa JG cp ha3 Kn
 refine gn ?_
 refine bG (te:=dz _ _ _ _ _ _) (fun v H'=>iU fun(p:Addr) (t':Int) (xs:List (Str×Str))=>v = .ref p/\p≠b/\p≠c/\Of B xs/\xs.length<=4/\Step b c H H' t t' 13/\H' p=some (.lst (jN xs))/\H' pa=some (.lst (jN xa))) (fun Qn qn =>?_) ?_
 ·have ub:=cp.ub
  have lo:=cp.le
  exact qJ cp.bx (by first|lia|omega) (by first|lia|omega) Kn nb nc BE hle fun p t' xs H' pb pc xo xl st h=>qn _ _ ⟨p,t',xs,rfl,pb,pc,xo,xl,(cp.trans st).more (by first|lia|omega),h,st.old ha3 ab ac⟩
 intro v H4 hz_
 refine ae.el hz_ _ ?_
 clear hz_
 rintro pb t4 xb rfl bb bc ob lb4 dG hb4 ha4
 refine gn ?_
 have MR:=dG.ub
 have Nw:=dG.le
 refine cc (t:=gU _ _) fun D1 g1 y1 =>?_
 refine⟨_,rfl,b,c,_,9,rfl,dG.bx,by first|lia|omega,by first|lia|omega,by decide,by decide,fun r5 H5 r50 r51 cC =>.inl ⟨_,_,rfl,rfl,gn (g1 _ _ ?_)⟩⟩
 clear g1 y1
 have JI:=cC.old hb4 bb bc
 have P5:=cC.old ha4 ab ac
 have cC:=dG.trans cC
 have Qy:kc K H5 B l:=(hBh.same cC.sm).same rY
 refine bG (te:=qu _ _ _ _) (fun v H'=>au H5 H'/\(v = .non∨Br fun(z p q:Addr) (n:Int) (ps qs:List (Str×Str))=>v = .ref z/\H' z=some (.tup [.ref p,.ref q,.int n])/\H' p=some (.lst (jN ps))/\H' q=some (.lst (jN qs))/\Of B ps/\Of B qs/\ps.length<=420/\qs.length<=420 /\ -20<=n/\n<=6000)) (fun Qn qn =>?_) ?_
 ·exact⟨_,rfl,l,B,rfl,Qy,gB,fun H' s'=>qn _ _ ⟨s',.inl rfl⟩,fun z p q n ps qs H' s' hz hp hq o1 o2 l1 l2 n1 n2=>qn _ _ ⟨s',.inr ⟨z,p,q,n,ps,qs,rfl,hz,hp,hq,o1,o2,l1,l2,n1,n2⟩⟩⟩
 rintro v H6 ⟨s6,hv6⟩
 refine gn ?_
 have fh:=cC.trans (Step.same cC.bx s6)
 have Rf:=fh.ub
 have Rc:=fh.le
 rcases hv6 with rfl|⟨z,p,q',n,ps,qs,rfl,hz,hp,hq,o1,o2,l1,l2,n1',n2'⟩
 ·have JF:=s6 _ _ P5
  have P4:=s6 _ _ JI
  refine⟨_,rfl,.inl ⟨rfl,_,rfl,bD ⟨_,rfl,_,rfl,_,rfl,pa,_,rfl,.inl (aG.of JF),fun p7 H7 n7=>⟨by show 2<=sizeLine;decide,fun p8 H8 n8 =>?_⟩⟩⟩⟩
  obtain⟨b7,c7⟩:=fh.bx.aN n7.nn
  have mx:=fh.cH n7
  obtain⟨b8,c8⟩:=mx.bx.aN n8.nn
  have o7:=mx.cH n8
  refine⟨_,rfl,b,c,_,2,rfl,o7.bx,by first|lia|omega,by first|lia|omega,by decide,by decide,fun k H9 k0 k1 ji =>?_⟩
  have s8:=n7.same.trans n8.same
  have OQ:=ji.old (s8 _ _ JF) ab ac
  have Qc:=ji.old (s8 _ _ P4) bb bc
  have O6:=ji.old (n8.same _ _ n7.at) b7 c7
  have PM:=ji.old n8.at b8 c8
  have ji:=o7.trans ji
  obtain⟨py,xy,ey,hy,yb,yc,oy,ly⟩:cj fun(py:Addr) (xy:List (Str×Str))=>o8 [V.ref pb,.ref p7] k=some (.ref py)/\H9 py=some (.lst (jN xy))/\py≠b/\py≠c/\Of B xy/\xy.length<=4:=by
   have:k=0∨k=1:=by (first|lia|omega)
   rcases this with rfl|rfl
   ·exact⟨pb,xb,rfl,Qc,bb,bc,ob,lb4⟩
   ·exact⟨p7,xa,rfl,O6,b7,c7,oa,JG⟩
  refine .inl ⟨p8,_,k,.ref py,rfl,rfl,aG.of PM,ey,_,rfl,by show 3<=sizeLine;decide,fun zz H10 n10 =>?_⟩
  obtain⟨zb,zc⟩:=ji.bx.aN n10.nn
  exact q (1+r5) xa xy zz pa py H10 _ oa oy (by first|lia|omega) (by first|lia|omega) (by first|lia|omega) (by first|lia|omega) (by rw[bT zb zc];exact n10.at) (by rw[bT ab ac];exact n10.same _ _ OQ) (by rw[bT yb yc];exact n10.same _ _ hy) ((ji.cH n10).more (by first|lia|omega))
 ·have mul:∀{ps:List (Str×Str)},ps.length<=420->(jN ps).length*((tm:Int)).toNat<=sizeLine/\(Jj tm ps).flatten.length<=1260:=fun{ps} h=>by
   have e:(jN ps).length=ps.length:=fC
   have h1:ps.length*tm<=420*3:=Nat.mul_le_mul h tm2
   rw[uM,e,Nat.mul_comm tm]
   exact⟨sizeOk (by rw[show((tm:Int)).toNat=tm by first|lia|omega]; (first|lia|omega)),by first|lia|omega⟩
  refine⟨_,rfl,.inl ⟨rfl,_,rfl,cg ?_⟩⟩
  refine⟨_,rfl,.inr (.inl ⟨z,_,0,.ref p,rfl,rfl,d9.of hz,rfl,_,rfl,.inr ⟨p,_,_,rfl,rfl,hp,by first|lia|omega,by first|lia|omega,(mul l1).1,fun p7 H7 n7 =>?_⟩⟩)⟩
  refine⟨_,rfl,.inr (.inl ⟨z,_,1,.ref q',rfl,rfl,d9.of (n7.same _ _ hz),rfl,_,rfl,.inr ⟨q',_,_,rfl,rfl,n7.same _ _ hq,by first|lia|omega,by first|lia|omega,(mul l2).1,fun p8 H8 n8 =>?_⟩⟩)⟩
  rw[show((tm:Int)).toNat=tm by first|lia|omega,zD] at n7 n8
  obtain⟨b7,c7⟩:=fh.bx.aN n7.nn
  have mx:=fh.cH n7
  obtain⟨b8,c8⟩:=mx.bx.aN n8.nn
  have o7:=mx.cH n8
  refine⟨_,rfl,.inr (.inl ⟨z,_,2,.int n,rfl,rfl,d9.of (n8.same _ _ (n7.same _ _ hz)),rfl,by show 3<=sizeLine;decide,fun zz H10 n10 =>?_⟩)⟩
  obtain⟨zb,zc⟩:=o7.bx.aN n10.nn
  exact q n _ _ zz p7 p8 H10 _ (rN tm o1) (rN tm o2) (mul l1).2 (mul l2).2 n1' n2' (by rw[bT zb zc];exact n10.at) (by rw[bT b7 c7];exact n10.same _ _ (n8.same _ _ n7.at)) (by rw[bT b8 c8];exact n10.same _ _ n8.at) ((o7.cH n10).more (by first|lia|omega))
end
noncomputable def Cm (x:Str):Bool:=x.cps.all (· < 128)
mutual
noncomputable def Pz:PyData->Bool
 | .none | .bool _=>true
 | .int i=>decide (i.natAbs<10^40)
 | .str x=>Cm x
 | .list ds | .tuple ds=>EY ds
 | .dict _=>false
noncomputable def EY:List PyData->Bool
 | []=>true
 | d::ds=>Pz d&&EY ds
end
theorem wj (ts:List Str):(listText ts).length<=piled ts+2:=by
 unfold listText
 rw[strLen_append]
 have e:(((("]" : String):Str))).length=1:=rfl
 rw[e]
 cases ts with
 | nil=>exact Jc _
 | cons t ts=>
  have q:=textFrom_length_pos ts 1 ((("[" : String):Str)++((if 0>0 then ", " else "" : String):Str)++t) (by decide)
  show(textFrom 1 _ ts).length+1<=_
  rw[q,strLen_append,strLen_append,piled_cons]
  have e1:(((("[" : String):Str))).length=1:=rfl
  have e2:((((if 0>0 then ", " else "" : String):Str))).length=0:=rfl
  rw[e1,e2]
  (first|lia|omega)
theorem wC (ts:List Str):(tupleText ts).length<=piled ts+3:=by
 unfold tupleText
 rw[strLen_append,strLen_append]
 have e1:((("(" : String):Str)).length=1:=rfl
 have e3:(((if ts.length==1 then ",)" else ")" : String):Str)).length<=2:=by split<;>decide
 have e2:(Str.join ", " ts).length<=piled ts:=by
  cases ts with
  | nil=>exact Jc _
  | cons t ts=>have:=join_length_add (t::ts) (by simp); (first|lia|omega)
 rw[e1]
 (first|lia|omega)
theorem ur {i:Int}(h:i.natAbs<10^40):(Str.ofString (toString i)).length<=41:=by
 cases i with
 | ofNat n=>
  have:=PyProof.Rows.toString_length_le (v:=Int.ofNat n) (by simp) (k:=40) (by decide) (by
   have h:n<10^40:=h
   show((n:Nat):Int)<10^40
   exact_mod_cast h)
  (first|lia|omega)
 | negSucc n=>
  have h:n+1<10^40:=h
  have:=PyProof.Rows.toString_length_le (v:=Int.ofNat (n+1)) (by show(0:Int)<=((n+1:Nat):Int); (first|lia|omega)) (k:=40) (by decide) (by
   show((n+1:Nat):Int)<10^40
   exact_mod_cast h)
  have e:toString (Int.negSucc n) = "-" ++ toString (Int.ofNat (n+1)):=rfl
  rw[e]
  have e2:∀a b:String,(Str.ofString (a++b)).length=(Str.ofString a).length+(Str.ofString b).length:=fun a b=>by
   simp[PyProof.Rows.ofString_length]
  rw[e2]
  have e3:(Str.ofString "-").length=1:=rfl
  (first|lia|omega)
mutual
theorem lE:∀(d:PyData),Pz d=true->d.shown.length<=44*d.weight+42/\d.showable=true/\d.canLay0=true
 | .none,_=>⟨by decide +kernel,rfl,rfl⟩
 | .bool b,_=>⟨by cases b<;>decide +kernel,rfl,rfl⟩
 | .int i,h=>by
  have h:i.natAbs<10^40:=by simpa [Pz] using h
  refine⟨?_,?_,rfl⟩
  ·have:=ur h
   simp only[PyData.shown]
   show(Str.ofString (toString i)).length<=_
   (first|lia|omega)
  ·simp only[PyData.showable,decide_eq_true_eq]
   by_cases z:i.natAbs=0
   ·rw[z];decide
   ·exact(Nat.log2_lt z).mpr (Ju h (by decide))
 | .str x,h=>by
  have hx:∀c∈x.cps.toList,c<128:=fun c hc=>by
   have h:Cm x=true:=by simpa only [Pz] using h
   unfold Cm at h
   rw[Array.all_eq_true_iff_forall_mem] at h
   have:=h c (by simpa using hc)
   simpa using this
  refine⟨?_,rfl,?_⟩
  ·have:=StrLaws.reprText_len x fun c hc=>Ju (hx c hc) (by decide)
   simp only[PyData.shown,PyData.weight]
   have e:x.cps.size=x.length:=rfl
   (first|lia|omega)
  ·exact(Sh.str (n:=0) (fI fun ch hc=>by have:=hx ch hc; (first|lia|omega))).1
 | .list ds,h=>by
  obtain⟨h1,h2,h3⟩:=jd ds (by simpa only [Pz] using h)
  refine⟨?_,by simpa only [PyData.showable] using h2,by simpa only [PyData.canLay0] using h3⟩
  have:=wj (PyData.shownAll ds)
  simp only[PyData.shown,PyData.weight]
  (first|lia|omega)
 | .tuple ds,h=>by
  obtain⟨h1,h2,h3⟩:=jd ds (by simpa only [Pz] using h)
  refine⟨?_,by simpa only [PyData.showable] using h2,by simpa only [PyData.canLay0] using h3⟩
  have:=wC (PyData.shownAll ds)
  simp only[PyData.shown,PyData.weight]
  (first|lia|omega)
 | .dict _,h=>by simp[Pz] at h
theorem jd:∀(ds:List PyData),EY ds=true->piled (PyData.shownAll ds)<=44*PyData.weightAll ds/\PyData.showableAll ds=true/\PyData.canLayAll0 ds=true
 | [],_=>⟨Jc _,rfl,rfl⟩
 | d::ds,h=>by
  simp only[EY,Yo] at h
  refine ae.el (lE d h.1) _ ?_
  rintro a1 a2 a3
  refine ae.el (jd ds h.2) _ ?_
  rintro b1 b2 b3
  refine⟨?_,by simp only[PyData.showableAll,a2,b2];rfl,by simp only[PyData.canLayAll0,a3,b3];rfl⟩
  simp only[PyData.shownAll,PyData.weightAll,piled_cons]
  (first|lia|omega)
end
theorem uG {ds:List PyData}:EY ds=true ↔ ∀d∈ds,Pz d=true:=by
 induction ds with
 | nil=>simp[EY]
 | cons d ds ih=>simp[EY,ih]
theorem oN {m:Nat}:∀{ds:List PyData},(∀e∈ds,e.depth<=m)->PyData.depthAll ds<=m
 | [],_=>by simp[PyData.depthAll]
 | d::ds,h=>by
  have:=oN (m:=m) (ds:=ds) fun e he=>h e (Jh _ he)
  have:=h d Jk
  simp only[PyData.depthAll]
  (first|lia|omega)
structure Gd (w dp:Nat)(d:PyData):Prop where
 pz:Pz d=true
 wt:d.weight<=w
 dp:d.depth<=dp
theorem Gd.mono {w dp w' HV:Nat}{d:PyData}(h:Gd w dp d)(hw:w<=w')(hd:dp<=HV):Gd w' HV d:=⟨h.pz,Jp h.wt hw,Jp h.dp hd⟩
theorem Gd.shaped {w dp:Nat}{d:PyData}(h:Gd w dp d)(hd:dp<=64):SeqAt.shaped d=true:=by
 unfold SeqAt.shaped
 rw[(lE d h.pz).2.2,decide_eq_true (Jp h.dp hd)];rfl
theorem yM (xs ys:List PyData):PyData.weightAll (xs++ys)=PyData.weightAll xs+PyData.weightAll ys:=by
 induction xs with
 | nil=>simp[PyData.weightAll]
 | cons x xs ih=>rw[List.cons_append];simp only[PyData.weightAll,ih]; (first|lia|omega)
structure Gs (w dp:Nat)(ds:List PyData):Prop where
 pz:∀d∈ds,Pz d=true
 wt:PyData.weightAll ds<=w
 dp:∀d∈ds,d.depth<=dp
theorem Gs.list {w dp:Nat}{ds:List PyData}(h:Gs w dp ds):Gd w (dp+1) (.list ds):=⟨by simp only[Pz];exact uG.mpr h.pz,by simp only[PyData.weight];exact h.wt,by simp only[PyData.depth];have:=oN h.dp; (first|lia|omega)⟩
theorem Gs.tuple {w dp:Nat}{ds:List PyData}(h:Gs w dp ds):Gd w (dp+1) (.tuple ds):=⟨by simp only[Pz];exact uG.mpr h.pz,by simp only[PyData.weight];exact h.wt,by simp only[PyData.depth];have:=oN h.dp; (first|lia|omega)⟩
theorem Gs.mono {w dp w' HV:Nat}{ds:List PyData}(h:Gs w dp ds)(hw:w<=w')(hd:dp<=HV):Gs w' HV ds:=⟨h.pz,Jp h.wt hw,fun d m=>Jp (h.dp d m) hd⟩
theorem Gs.app {w dp w':Nat}{xs ys:List PyData}(h:Gs w dp xs)(g:Gs w' dp ys):Gs (w+w') dp (xs++ys):=
 ⟨fun d m=>(Jq.mp m).elim (h.pz d) (g.pz d),by rw[yM];have:=h.wt;have:=g.wt; (first|lia|omega),fun d m=>(Jq.mp m).elim (h.dp d) (g.dp d)⟩
theorem Gs.one {w dp:Nat}{d:PyData}(h:Gd w dp d):Gs (w+1) dp [d]:=
 ⟨fun e m=>by rw[Jg.mp m];exact h.pz,by have:=h.wt;simp only[PyData.weightAll]; (first|lia|omega),fun e m=>by rw[Jg.mp m];exact h.dp⟩
theorem Gs.cons {w dp w':Nat}{d:PyData}{ds:List PyData}(h:Gd w dp d)(g:Gs w' dp ds):Gs (w+1+w') dp (d::ds):=(Gs.one h).app g
theorem Gs.nil {dp:Nat}:Gs 0 dp []:=⟨(fun d m=>nomatch m),Jc _,(fun d m=>nomatch m)⟩
theorem Gd.int {w dp:Nat}{i:Int}(h:i.natAbs<10^40)(hw:201<=w):Gd w dp (.int i):=⟨by simpa [Pz] using h,Jp (sW (Ju h (by decide))) hw,by simp[PyData.depth]⟩
theorem Gd.str {w dp:Nat}{x:Str}(h:Cm x=true)(hw:x.length<=w):Gd w dp (.str x):=⟨by simpa only [Pz] using h,by simp only[PyData.weight];exact hw,by simp[PyData.depth]⟩
theorem Gd.small {w dp:Nat}{d:PyData}(h:d = .none∨∃b,d = .bool b)(hw:10<=w):Gd w dp d:=by
 rcases h with rfl|⟨b,rfl⟩
 ·exact⟨rfl,Jp (by decide) hw,by simp[PyData.depth]⟩
 ·exact⟨rfl,Jp (by cases b<;>decide) hw,by simp[PyData.depth]⟩
theorem nF {K:Ja}{H:Hp}:∀{ds:List PyData} {vs:List V} (i:Nat),az K H ds vs->az K H (ds.take i) (vs.take i)
 | _,_,0,_=>by rw[List.take_zero,List.take_zero];unfold az;rfl
 | [],vs,i+1,h=>by unfold az at h;rw[h];unfold az;rfl
 | d::ds,vs,i+1,h=>by
  unfold az at h
  obtain⟨v,r,rfl,h1,h2⟩:=h
  rw[List.take_succ_cons,List.take_succ_cons]
  unfold az
  exact⟨v,r.take i,rfl,h1,nF i h2⟩
theorem zr {K:Ja}{H:Hp}:az K H [] []:=by unfold az;rfl
theorem yI {K:Ja}{H:Hp}{d:PyData}{v:V}{ds:List PyData}{vs:List V}(h:Den K H d v)(g:az K H ds vs):az K H (d::ds) (v::vs):=by unfold az;exact⟨_,_,rfl,h,g⟩
theorem zI {K:Ja}{G:Hp}{p:Addr}{ds:List PyData}{vs:List V}(h:G p=some (.tup vs))(g:az K G ds vs):Den K G (.tuple ds) (.ref p):=by unfold Den;exact⟨p,vs,rfl,d9.of h,g⟩
theorem yA {K:Ja}{G:Hp}{p:Addr}{ds:List PyData}{vs:List V}(h:G p=some (.lst vs))(g:az K G ds vs):Den K G (.list ds) (.ref p):=by unfold Den;exact⟨p,vs,rfl,aG.of h,g⟩
section
variable {K:Ja}{b c:Addr}{t:Int}{n m:Nat}{H H':Hp}{v u:V}{Q:VK}
noncomputable def Pl (K:Ja)(b c:Addr)(n:Nat)(H:Hp)(v:V):Prop:=iU fun(p:Addr) (vs:List V) (ds:List PyData)=>v = .ref p/\H p=some (.lst vs)/\p≠b/\p≠c/\az K (cu H b c) ds vs/\(∀d∈ds,Gd 20 1 d)/\ds.length<=n
theorem Pl.same (h:Pl K b c n H v)(s:au H H'):Pl K b c n H' v:=by
 obtain⟨p,vs,ds,rfl,h1,h2,h3,h4,h5⟩:=h
 exact⟨p,vs,ds,rfl,s _ _ h1,h2,h3,h4.same (au.cu s),h5⟩
theorem Pl.out (h:Pl K b c n H v)(hn:n<=2600):∃ds,Den K (cu H b c) (.list ds) v/\Gd 56000 2 (.list ds)/\ds.length<=n:=by
 obtain⟨p,vs,ds,rfl,h1,h2,h3,h4,h5,h6⟩:=h
 have hw:∀(es:List PyData),(∀d∈es,Gd 20 1 d)->Gs (21*es.length) 1 es:=fun es=>by
  induction es with
  | nil=>exact fun _=>Gs.nil
  | cons e es ih=>intro h;have r:=Gs.cons (h e Jk) (ih fun d hd=>h d (Jh _ hd));exact r.mono (by rw[J8]; (first|lia|omega)) (Jc _)
 exact⟨ds,Den.list (aG.of (by rw[bT h2 h3];exact h1)) h4,((hw ds h5).list).mono (by first|lia|omega) (by decide),h6⟩
theorem tR {p:Addr}{o:HO}(bx:Bx H b c t)(n1:cV H p o H'):p≠b/\p≠c/\au H H'/\Bx H' b c t:=⟨(bx.aN n1.nn).1,(bx.aN n1.nn).2,n1.same,bx.same n1.same⟩
theorem rS {p:Addr}{vs:List V}{ds:List PyData}(bx:Bx H b c t)(n1:cV H p (.lst vs) H')(hd:az K (cu H b c) ds vs)(hg:∀d∈ds,Gd 20 1 d)(hl:ds.length<=n):Pl K b c n H' (.ref p):=by
 obtain⟨pb,pc,s,_⟩:=tR bx n1
 exact⟨p,vs,ds,rfl,n1.at,pb,pc,hd.same (au.cu s),hg,hl⟩
theorem zq {ds:List PyData}{vs:List V}(h:az K H ds vs)(i j:Nat):az K H ((ds.drop i).take j) ((vs.drop i).take j):=by
 refine nF j ?_
 have hl:=h.len
 refine az.of_get (by rw[Ud,Ud,hl]) fun k d v h1 h2 =>?_
 rw[Wg] at h1 h2
 obtain⟨v',e1,e2⟩:=h.get h1
 rw[h2] at e1;cases e1;exact e2
theorem jM (bx:Bx H b c t)(h:Pl K b c n H v)(lo hi:Option Int)(q:∀v' H',au H H'->Bx H' b c t->Pl K b c n H' v'->Q v' H'):Az K v lo hi H Q:=by
 obtain⟨p,vs,ds,rfl,h1,h2,h3,h4,h5,h6⟩:=h
 refine .inl ⟨p,vs,rfl,aG.of h1,fun p' H' n'=>q _ _ n'.same (bx.same n'.same) ?_⟩
 unfold lF at n'
 refine rS bx n' (zq h4 _ _) (fun d hd=>h5 d (List.mem_of_mem_drop (Wq hd))) ?_
 rw[Jw,Ud]; (first|lia|omega)
theorem jI (bx:Bx H b c t)(h:Pl K b c n H v)(g:Pl K b c m H u)(hn:n+m<=2600)(q:∀v' H',au H H'->Bx H' b c t->Pl K b c (n+m) H' v'->Q v' H'):uO v u H Q:=by
 obtain⟨p,vs,ds,rfl,h1,h2,h3,h4,h5,h6⟩:=h
 obtain⟨p',vs',ds',rfl,g1,g2,g3,g4,g5,g6⟩:=g
 have l1:=h4.len
 have l2:=g4.len
 refine .inr (.inr ⟨p,p',vs,vs',rfl,rfl,h1,g1,sizeOk (by first|lia|omega),fun p2 H' n'=>q _ _ n'.same (bx.same n'.same) ?_⟩)
 refine rS (ds:=ds++ds') bx n' ?_ (fun d hd=>(Jq.mp hd).elim (h5 d) (g5 d)) (by rw[Jf]; (first|lia|omega))
 refine az.of_get (by rw[Jf,Jf]; (first|lia|omega)) fun k d v k1 k2 =>?_
 by_cases e:k<ds.length
 ·rw[Ua e] at k1
  rw[Ua (by first|lia|omega)] at k2
  obtain⟨v',e1,e2⟩:=h4.get k1
  rw[k2] at e1;cases e1;exact e2
 ·rw[J0 (by first|lia|omega)] at k1
  rw[J0 (by first|lia|omega),l1] at k2
  obtain⟨v',e1,e2⟩:=g4.get k1
  rw[k2] at e1;cases e1;exact e2
theorem ux {d:PyData}{p:Addr}(bx:Bx H b c t)(h:Den K (cu H b c) d v)(g:Gd 20 1 d)(n':cV H p (.lst [v]) H'):au H H'/\Bx H' b c t/\Pl K b c 1 H' (.ref p):=by
 refine⟨n'.same,bx.same n'.same,rS (ds:=[d]) bx n' ?_ (fun e he=>by rw[Jg.mp he];exact g) (Jc _)⟩
 unfold az
 exact⟨v,[],rfl,h,by unfold az;rfl⟩
end
noncomputable def nQ (K:Ja):Sp:=fun vs H Q _=>HW fun(b c pn p:Addr) (t:Int) (B rs:List (Str×Str))=>vs=[.ref b,.ref pn,.ref p]/\Bx H b c t/\0<=t/\t<900000/\H pn=some (.lst ((B.map (·.1)).map V.str))/\pn≠b/\pn≠c/\bB B/\B≠[]/\H p=some (.lst ((rs.map (·.1)).map V.str))/\p≠b/\p≠c/\Of B rs/\rs.length<=1260 /\
 ∀(d:PyData) (v:V) (H':Hp) (t':Int),Den K (cu H' b c) d v->Gd 56000 2 d->vH d->Step b c H H' t t' 10->Q v H'
theorem xZ {x:Str}(h:∀ch∈x.cps.toList,ch<=122):Cm x=true:=by
 unfold Cm
 rw[Array.all_eq_true_iff_forall_mem]
 intro ch hc
 have:=h ch (by simpa using hc)
 simp; (first|lia|omega)
theorem tU {B:List (Str×Str)}(g:bB B){q:Str×Str}(hq:q∈B):Gd 20 1 (.str q.1):=Gd.str (xZ (g.sm q hq)) (by have:=g.nl q hq; (first|lia|omega))
theorem qU {K:Ja}{H:Hp}{b c p:Addr}{B rs:List (Str×Str)}(g:bB B)(o:Of B rs)(h:H p=some (.lst ((rs.map (·.1)).map V.str)))(pb:p≠b)(pc:p≠c):Pl K b c rs.length H (.ref p):=by
 refine⟨p,_,(rs.map (·.1)).map PyData.str,rfl,h,pb,pc,Den.strs _,fun d hd =>?_,by rw[Jb,Jb];exact Jc _⟩
 refine ae.el (Um.mp hd) _ ?_
 rintro x hx rfl
 refine ae.el (Um.mp hx) _ ?_
 rintro q hq rfl
 exact tU g (o q hq)
theorem BC {x:Str}:vH (.str x):=fun _ z=>nomatch z
theorem AA {ds:List PyData}:vH (.tuple ds):=fun _ z=>nomatch z
theorem j0 {ds:List PyData}(h:ds.length<=3000):vH (.list ds):=fun _ z=>by injection z with z;rw[<-z];exact h
theorem i5 {B:List (Str×Str)}(g:bB B):∀{xs:List Str},(∀x∈xs,∃q∈B,q.1=x)->Gs (9*xs.length) 1 (xs.map PyData.str)
 | [],_=>Gs.nil
 | x::xs,o=>by
  refine ae.el (o _ Jk) _ ?_
  rintro q hq rfl
  have h:=i5 g (xs:=xs) fun y hy=>o y (Jh _ hy)
  have g1:Gd 8 1 (.str q.1):=Gd.str (xZ (g.sm q hq)) (g.nl q hq)
  exact(Gs.cons g1 h).mono (by rw[J8]; (first|lia|omega)) (Jc _)
noncomputable def Pn (K:Ja)(b c:Addr)(H:Hp)(v:V):Prop:=∃d,Den K (cu H b c) d v/\Gd 56000 2 d/\vH d
structure jk (K:Ja)(H0:Hp)(b c:Addr)(vs:List V)(H:Hp):Prop where
 sm:au H0 H
 th:∀v∈vs,Pn K b c H v
section
variable {K:Ja}{H0 H H':Hp}{b c p:Addr}{t:Int}{vs:List V}{v:V}{n:Nat}
theorem jk.nil:jk K H b c [] H:=⟨au.refl _,fun _ h=>nomatch h⟩
theorem jk.back (A:jk K H0 b c vs H)(h:H p=none):H0 p=none:=by
 cases e:H0 p with
 | none=>rfl
 | some o=>rw[A.sm _ _ e] at h;cases h
theorem jk.same (A:jk K H0 b c vs H)(s:au H H'):jk K H0 b c vs H':=⟨A.sm.trans s,fun v hv=>(A.th v hv).imp fun _ h=>⟨h.1.same (au.cu s),h.2⟩⟩
theorem jk.and (A:jk K H0 b c vs H)(s:au H H')(h:Pn K b c H' v):jk K H0 b c (vs++[v]) H':=
 ⟨A.sm.trans s,fun u hu=>(Jq.mp hu).elim ((A.same s).th u) fun z=>Jg.mp z▸h⟩
theorem Pl.pn (h:Pl K b c n H v)(hn:n<=2600):Pn K b c H v:=by
 obtain⟨ds,h1,h2,h3⟩:=h.out hn
 exact⟨_,h1,h2,j0 (by first|lia|omega)⟩
end
section
variable {P:Program}{w:World}{K:Ja}{mg:Str->Option Value}{base:Heap}{f:Addr}{fd:FuncData}{C:Addr}
theorem eE:aM ["_law_state", "_law_names_here", "_law_some", "_law_way", "_law_at", "_law_name", "_law_found"] ["_law_state", "_law_names_here", "_law_some"] (ay (top ic)):=⟨rfl,rfl,rfl,by decide +kernel,rfl,by decide +kernel,by decide +kernel⟩
theorem BX (F:cX K "_law_bent" "_law_bent" (top ic) f fd)(T:Nm mg)(ax:Fn P w K mg base 1 "_law_take" ["_law_state", "_law_many"] kL):bA P w K mg base fQ 2 f fd ["_law_state", "_law_names_here", "_law_some"] (nQ K):=by
 refine F.ok eE (fun vs H Q E h =>?_) (fun di A outer s H vs Q E hr h =>?_)
 ·obtain⟨b,c,pn,p,t,B,rs,rfl,_⟩:=h
  rfl
 unfold nQ at h
 refine ae.el h _ ?_
 clear h
 rintro b c pn p t B rs rfl bx t0 t1 hn nb nc gB jZ hp pb pc o hrs q
 have hle:=gB.le
 have BE:0<B.length:=List.length_pos_iff.mpr jZ
 have Im:((B.map (·.1)).map V.str).length=B.length:=fC
 have QP:((rs.map (·.1)).map V.str).length=rs.length:=fC
 refine⟨_,(ah (xh (i:=3) (j:=4) rfl eE.nd rfl rfl (by decide) rfl rfl (aa (aJ (ax.mono (by first|decide|exact Jc _|(first|lia|omega))) hr rfl (aa (pv 0) (aa aj ag))) (aa (aJ (ax.mono (by first|decide|exact Jc _|(first|lia|omega))) hr rfl (aa (pv 0) (aa (aF ck (av (dA K) rfl T.n_len (by rfl) (aa (pv 2) ag)) aj) ag))) ag)) rfl)
  (ah (aE (i:=5) eE.nd rfl (Or.inl rfl) (bt (gP K) (dg (aa (bt (gP K) (pv 1) (aJ (ax.mono (by first|decide|exact Jc _|(first|lia|omega))) hr rfl (aa (pv 0) (aa (av (dA K) rfl T.n_len (by rfl) (aa (pv 1) ag)) ag))) (fun _ _=>rfl)) (aa bI (aa bI (aa bI (aa aj (aa de (aa (dg (aa bI ag)) ag)))))))) (aJ (ax.mono (by first|decide|exact Jc _|(first|lia|omega))) hr rfl (aa (pv 0) (aa aj ag))) (fun _ _=>rfl)))
  (ah (aE (i:=6) eE.nd rfl (Or.inl rfl) (dg (aa (aF ck (bC (uR K) (pv 2) bQ (bN (pv 4))) (bC (uR K) (pv 2) (bN (aF ck (pv 4) aj)) bQ)) (aa (aF ck (aF ck (bC (uR K) (pv 2) bQ (bN (pv 4))) (dg (aa (pv 5) ag))) (bC (uR K) (pv 2) (bN (pv 4)) bQ)) (aa (aF ck (aF ck (bC (uR K) (pv 2) bQ (bN (pv 4))) (dg (aa (pv 5) ag))) (bC (uR K) (pv 2) (bN (aF ck (pv 4) aj)) bQ)) ag)))))
  (ak (aI (bt (gP K) (aF ck (pv 6) (dg (aa (aF ck (bC (uR K) (pv 2) (bN (pv 4)) bQ) (bC (uR K) (pv 2) bQ (bN (pv 4)))) (aa (bX (Dv K) rfl T.n_tuple (by rfl) (aa (pv 2) ag)) (aa (C3 K (pv 2)) (aa (dg ag) (aa (aF kM (pv 2) aj) ag))))))) (pv 3) (fun _ _=>rfl))))))),?_⟩
 refine cc fun D1 g1 y1 =>?_
 refine⟨_,rfl,b,c,t,8,rfl,bx,by first|lia|omega,by first|lia|omega,by decide,by decide,fun way H1 w0 w1 dy =>?_⟩
 have gW:=dy.old hp pb pc
 refine⟨_,rfl,_,rfl,_,_,rfl,.inl ⟨_,aG.of gW,rfl⟩,.inl ⟨_,_,rfl,rfl,b,c,_,_,rfl,dy.bx,by first|lia|omega,by first|lia|omega,by first|lia|omega,by first|lia|omega,fun at' H2 a0 a1 aW=>⟨_,_,rfl,g1 _ _ ?_⟩⟩⟩
 clear g1 y1
 have rG:=aW.old (dy.old hn nb nc) nb nc
 have nu:=aW.old gW pb pc
 have aW:=dy.trans aW
 refine cc (t:=gU _ _) fun D1 g1 y1 =>?_
 refine⟨_,rfl,_,rfl,_,rfl,_,_,rfl,.inl ⟨_,aG.of rG,rfl⟩,b,c,_,_,rfl,aW.bx,by first|lia|omega,by first|lia|omega,by first|lia|omega,by first|lia|omega,fun k H3 k0 k1 cp =>?_⟩
 have Kn:=cp.old rG nb nc
 have vo:=cp.old nu pb pc
 have cp:=aW.trans cp
 have hk:k.toNat<B.length:=by (first|lia|omega)
 refine .inl ⟨pn,_,k,.str B[k.toNat].1,rfl,rfl,aG.of Kn,fE k0 (g9 hk),by show 1<=sizeLine;decide,fun pa H4 n4=>⟨by show 7<=sizeLine;decide,fun pl H5 n5 =>?_⟩⟩
 have Oq:=tU gB (Jt hk)
 generalize B[k.toNat].1=nm at Oq n5
 refine ae.el (tR cp.bx n4) _ ?_
 rintro ab ac s4 pI
 refine ae.el (tR pI n5) _ ?_
 rintro lb lc s5 bx5
 refine⟨_,rfl,b,c,_,7,rfl,bx5,by first|lia|omega,by first|lia|omega,by decide,by decide,fun r H6 r0 r1 fh =>?_⟩
 have JF:=fh.old (s5 _ _ n4.at) ab ac
 have zP:=fh.old n5.at lb lc
 have zU:=fh.old (s5 _ _ (s4 _ _ vo)) pb pc
 have K6:=fh.bx
 have fh:=(cp.cH n4).cH n5 |>.trans fh
 obtain⟨v5,d5,e5,k5,g5⟩:cj fun(v5:V) (d5:PyData)=>o8 [.str nm,.str "none",.str "",.str "Name",.int 3,.non,.ref pa] r=some v5/\Den K (cu H6 b c) d5 v5/\Gd 20 1 d5:=by
  have:r=0∨r=1∨r=2∨r=3∨r=4∨r=5∨r=6:=by (first|lia|omega)
  rcases this with rfl|rfl|rfl|rfl|rfl|rfl|rfl
  ·exact⟨_,.str nm,rfl,by unfold Den;rfl,Oq⟩
  ·exact⟨_,.str "none",rfl,by unfold Den;rfl,Gd.str (by decide +kernel) (by decide +kernel)⟩
  ·exact⟨_,.str "",rfl,by unfold Den;rfl,Gd.str (by decide +kernel) (by decide +kernel)⟩
  ·exact⟨_,.str "Name",rfl,by unfold Den;rfl,Gd.str (by decide +kernel) (by decide +kernel)⟩
  ·exact⟨_,.int 3,rfl,by unfold Den;rfl,by decide,by decide,by decide⟩
  ·exact⟨_,.none,rfl,by unfold Den;rfl,Gd.small (.inl rfl) (by decide)⟩
  ·refine⟨_,.list [.str "a"],rfl,Den.list (aG.of (by rw[bT ab ac];exact JF)) (Den.strs ["a"]),?_⟩
   exact((Gs.one (w:=1) (dp:=0) (Gd.str (by decide +kernel) (by decide +kernel))).list).mono (by decide) (by decide)
 refine .inl ⟨pl,_,r,v5,rfl,rfl,aG.of zP,e5,gn (g1 _ _ ?_)⟩
 clear g1 y1
 have P6:=qU (K:=K) gB o zU pb pc
 have D6:∀{H':Hp},au H6 H'->Den K (cu H' b c) d5 v5:=fun s=>k5.same (au.cu s)
 have A0:jk K H6 b c [] H6:=jk.nil
 refine bG (te:=tX _) (fun v H'=>cj fun(f:Addr) (vs:List V)=>v = .ref f/\H' f=some (.lst vs)/\H6 f=none/\vs.length=3/\jk K H6 b c vs H') (fun Qn qn =>?_) ?_
 ·-- the name left out
  refine⟨_,rfl,_,rfl,_,rfl,jM K6 P6 _ _ fun v1 H7 s7 JL p1 =>?_⟩
  refine⟨_,rfl,_,rfl,.inl ⟨_,_,rfl,rfl,_,rfl,?_⟩⟩
  dsimp only[dr]
  refine jM JL (P6.same s7) _ _ fun v2 H8 s8 bx8 p2 =>?_
  refine jI bx8 (p1.same s8) p2 (by first|lia|omega) fun v3 H9 s9 bx9 p3 =>?_
  have A:=A0.and ((s7.trans s8).trans s9) (p3.pn (by first|lia|omega))
  clear A0 s7 s8 s9 p1 p2 p3 JL bx8
  refine⟨_,rfl,_,rfl,_,rfl,jM bx9 (P6.same A.sm) _ _ fun v4 H10 s10 bx10 p4 =>?_⟩
  refine⟨_,rfl,by show 1<=sizeLine;decide,fun av6 H11 nv6 =>?_⟩
  have o6:=ux bx10 (D6 (A.sm.trans s10)) g5 nv6
  refine jI o6.2.1 (p4.same o6.1) o6.2.2 (by first|lia|omega) fun v7 H12 zW bx12 p7 =>?_
  refine⟨_,rfl,_,rfl,_,rfl,?_⟩
  dsimp only[dr]
  have My:=(s10.trans o6.1).trans zW
  refine jM bx12 (P6.same (A.sm.trans My)) _ _ fun v8 H13 EN bx13 p8 =>?_
  refine jI bx13 (p7.same EN) p8 (by first|lia|omega) fun v9 H14 Ij bx14 p9 =>?_
  have A:=A.and ((My.trans EN).trans Ij) (p9.pn (by first|lia|omega))
  clear My s10 zW EN Ij p4 p7 p8 p9 bx10 bx12 bx13 o6 nv6 bx9
  refine⟨_,rfl,_,rfl,_,rfl,jM bx14 (P6.same A.sm) _ _ fun v10 H15 s15 bx15 p10 =>?_⟩
  refine⟨_,rfl,by show 1<=sizeLine;decide,fun av11 H16 nv11 =>?_⟩
  have JZ:=ux bx15 (D6 (A.sm.trans s15)) g5 nv11
  refine jI JZ.2.1 (p10.same JZ.1) JZ.2.2 (by first|lia|omega) fun v12 H17 s17 bx17 p12 =>?_
  refine⟨_,rfl,_,rfl,.inl ⟨_,_,rfl,rfl,_,rfl,?_⟩⟩
  dsimp only[dr]
  have Ou:=(s15.trans JZ.1).trans s17
  refine jM bx17 (P6.same (A.sm.trans Ou)) _ _ fun v13 H18 s18 bx18 p13 =>?_
  refine jI bx18 (p12.same s18) p13 (by first|lia|omega) fun v14 H19 s19 bx19 p14 =>?_
  have A:=A.and ((Ou.trans s18).trans s19) (p14.pn (by first|lia|omega))
  exact⟨by show 3<=sizeLine;decide,fun pf H20 n20=>qn _ _ ⟨pf,_,rfl,n20.at,A.back n20.nn,rfl,A.same n20.same⟩⟩
 intro v H7 hz_
 refine ae.el hz_ _ ?_
 clear hz_ A0
 rintro pf vs0 rfl hf nf l0 A
 refine gn ?_
 have JL:=K6.same A.sm
 refine⟨_,rfl,?_⟩
 refine⟨_,rfl,_,rfl,_,rfl,?_⟩
 dsimp only[dr]
 refine jM JL (P6.same A.sm) _ _ fun v15 H21 s21 bx21 p15 =>?_
 refine⟨_,rfl,_,rfl,_,rfl,jM bx21 (P6.same (A.sm.trans s21)) _ _ fun v16 H22 s22 bx22 p16 =>?_⟩
 refine jI bx22 (p15.same s22) p16 (by first|lia|omega) fun v20 H26 s26 bx26 p20 =>?_
 have S:=(s21.trans s22).trans s26
 have A:=A.and S (p20.pn (by first|lia|omega))
 have hf:=S _ _ hf
 clear S s21 s22 s26 p15 p16 p20 bx21 bx22
 have ro:∀x∈rs.map (·.1),∃y∈B,y.1=x:=fun x hx=>by obtain⟨y,hy,rfl⟩:=Um.mp hx;exact⟨y,o y hy,rfl⟩
 have rl:(rs.map (·.1)).length=rs.length:=Jb _
 refine⟨_,rfl,p,_,rfl,.inl ⟨aG.of (A.sm _ _ zU),fun pt H27 n27 =>?_⟩⟩
 have ne:=bx26.aN n27.nn
 have A:=A.and n27.same ⟨.tuple ((rs.map (·.1)).map PyData.str),zI (by rw[bT ne.1 ne.2];exact n27.at) (Den.strs _),(i5 gB ro).tuple.mono (by first|lia|omega) (Jc _),AA⟩
 have hf:=n27.same _ _ hf
 have E6:=bx26.same n27.same
 clear ne n27 bx26
 refine⟨_,rfl,p,_,rfl,aG.of (A.sm _ _ zU),fun pr H28 n28 =>?_⟩
 have ne:=E6.aN n28.nn
 have A:=A.and n28.same ⟨.list ((rs.map (·.1)).reverse.map PyData.str),Den.list (aG.of (by rw[bT ne.1 ne.2];exact n28.at)) (by rw[show((rs.map (·.1)).map V.str).reverse=(rs.map (·.1)).reverse.map V.str from List.map_reverse.symm];exact Den.strs _),(i5 gB fun x hx=>ro x (Y2.mp hx)).list.mono (by rw[List.length_reverse]; (first|lia|omega)) (Jc _),j0 (by rw[Jb,List.length_reverse]; (first|lia|omega))⟩
 have hf:=n28.same _ _ hf
 have EW:=E6.same n28.same
 clear ne n28 E6
 refine⟨by show 0<=sizeLine;decide,fun pe H29 n29 =>?_⟩
 have ne:=EW.aN n29.nn
 have A:=A.and n29.same ⟨.list [],yA (by rw[bT ne.1 ne.2];exact n29.at) zr,(Gs.nil (dp:=0)).list.mono (by decide) (by decide),j0 (Us _)⟩
 have hf:=n29.same _ _ hf
 have NB:=EW.same n29.same
 clear ne n29 EW
 refine⟨_,rfl,.inr ⟨p,2,_,rfl,rfl,A.sm _ _ zU,by decide,by decide,sizeOk (by show _*2<=_; (first|lia|omega)),fun p2 H30 n30 =>?_⟩⟩
 have ne:=NB.aN n30.nn
 have l2:(Jj 2 rs).flatten.length=2*rs.length:=uM 2 rs
 have A:=A.and n30.same ((qU (K:=K) gB (rN 2 o) (by rw[n30.at];exact congrArg (fun l=>some (HO.lst l)) (zD 2 rs)) ne.1 ne.2).pn (by first|lia|omega))
 have hf:=n30.same _ _ hf
 clear ne n30
 refine⟨by show 5<=sizeLine;decide,fun pg H31 n31 =>?_⟩
 refine .inr (.inr ⟨pf,pg,_,_,rfl,rfl,n31.same _ _ hf,n31.at,Jp (Yj (show _=8 by rw[l0];rfl)) (by decide),fun ph H32 n32 =>?_⟩)
 have A:=(A.same n31.same).same n32.same
 rw[J9,J9,J9,J9] at A
 have hl:way.toNat<(vs0++[v20,.ref pt,.ref pr,.ref pe,.ref p2]).length:=by rw[Jf,l0];show way.toNat<8; (first|lia|omega)
 obtain⟨d,den,gd,few⟩:=A.th _ (Jt hl)
 exact⟨_,rfl,.inl ⟨ph,_,way,_,rfl,rfl,aG.of n32.at,fE w0 (Je hl),q d _ H32 _ den gd few ((fh.trans (Step.same K6 A.sm)).more (by first|lia|omega))⟩⟩
end
structure Th (K:Ja)(G:Hp)(d:PyData)(v:V):Prop where
 den:Den K G d v
 gd:Gd 226000 3 d
 ask:uF d
structure Pt (K:Ja)(G:Hp)(d:PyData)(v:V):Prop where
 den:Den K G d v
 gd:Gd 56000 2 d
 few:vH d
noncomputable def rE (K:Ja)(G:Hp)(ds:List PyData)(vs:List V):Prop:=az K G ds vs/\∀d∈ds,Gd 56000 2 d/\vH d
theorem Pt.same {K:Ja}{G G':Hp}{d:PyData}{v:V}(h:Pt K G d v)(s:au G G'):Pt K G' d v:=⟨h.den.same s,h.gd,h.few⟩
theorem Th.same {K:Ja}{G G':Hp}{d:PyData}{v:V}(h:Th K G d v)(s:au G G'):Th K G' d v:=⟨h.den.same s,h.gd,h.ask⟩
theorem rE.nil {K:Ja}{G:Hp}:rE K G [] []:=⟨zr,fun d h=>nomatch h⟩
theorem rE.cons {K:Ja}{G:Hp}{d:PyData}{v:V}{ds:List PyData}{vs:List V}(h:Pt K G d v)(g:rE K G ds vs):rE K G (d::ds) (v::vs):=
 ⟨yI h.den g.1,fun e he=>(Uc.mp he).elim (fun z=>z▸⟨h.gd,h.few⟩) (g.2 e)⟩
theorem rE.gs {K:Ja}{G:Hp}:∀{ds:List PyData},(∀d∈ds,Gd 56000 2 d/\vH d)->Gs (56001*ds.length) 2 ds
 | [],_=>Gs.nil
 | d::ds,h=>(Gs.cons (h d Jk).1 (rE.gs (K:=K) (G:=G) fun e he=>h e (Jh _ he))).mono (by rw[J8]; (first|lia|omega)) (Jc _)
theorem mT {K:Ja}{G:Hp}{ds:List PyData}{vs:List V}(h:rE K G ds vs):uF (.tuple ds):=fun d0 d1 d2 e=>by
 injection e with e
 subst e
 have h1:=h.2 d0 (by simp)
 have h2:=h.2 d1 (by simp)
 exact⟨h1.2,h2.2,h1.1.shaped (by decide),h2.1.shaped (by decide)⟩
theorem Pt.th {K:Ja}{G:Hp}{d:PyData}{v:V}(h:Pt K G d v)(n:∀ds,d ≠ .tuple ds):Th K G d v:=⟨h.den,h.gd.mono (by decide) (by decide),fun d0 d1 d2 e=>absurd e (n _)⟩
section
variable {K:Ja}{b c p:Addr}{t:Int}{H H':Hp}{ds:List PyData}{vs:List V}
theorem sq (bx:Bx H b c t)(n:cV H p (.tup vs) H')(h:rE K (cu H b c) ds vs)(hl:ds.length<=4):Th K (cu H' b c) (.tuple ds) (.ref p):=by
 obtain⟨pb,pc⟩:=bx.aN n.nn
 exact⟨zI (by rw[bT pb pc];exact n.at) (h.1.same (au.cu n.same)),(rE.gs (K:=K) (G:=cu H b c) h.2).tuple.mono (by first|lia|omega) (Jc _),mT h⟩
theorem C9 (bx:Bx H b c t)(n:cV H p (.lst vs) H')(h:rE K (cu H b c) ds vs)(hl:ds.length<=4):Th K (cu H' b c) (.list ds) (.ref p):=by
 obtain⟨pb,pc⟩:=bx.aN n.nn
 exact⟨yA (by rw[bT pb pc];exact n.at) (h.1.same (au.cu n.same)),(rE.gs (K:=K) (G:=cu H b c) h.2).list.mono (by first|lia|omega) (Jc _),fun _ _ _ z=>nomatch z⟩
end
theorem Gd.fit {d:PyData}(h:Gd 226000 3 d):d.showable=true/\d.depth<=40/\d.shown.length<=sizeLine:=by
 refine ae.el (lE d h.pz) _ ?_
 rintro h1 h2 h3
 have:=h.wt
 have:=h.dp
 exact⟨h2,by first|lia|omega,sizeOk (by first|lia|omega)⟩
theorem iq {K:Ja}{G:Hp}{n:Int}(h0: -100000<=n)(h1:n<=100000):Pt K G (.int n) (.int n):=⟨by unfold Den;rfl,Gd.int (Jx (show n.natAbs<=100000 by first|lia|omega) (by decide)) (by decide),fun _ z=>nomatch z⟩
theorem FR {K:Ja}{G:Hp}{v:Bool}:Pt K G (.bool v) (.bl v):=⟨by unfold Den;rfl,Gd.small (.inr ⟨v,rfl⟩) (by decide),fun _ z=>nomatch z⟩
theorem xX {K:Ja}{G:Hp}:Pt K G .none .non:=⟨by unfold Den;rfl,Gd.small (.inl rfl) (by decide),fun _ z=>nomatch z⟩
theorem Ab (n:Int):Cm (Str.ofString (toString n))=true:=by
 unfold Cm
 rw[Array.all_eq_true_iff_forall_mem]
 intro ch hc
 by_cases h:ch<128
 ·exact decide_eq_true h
 ·exact absurd (Wj.mpr hc) (int_text_free' ch ⟨by first|lia|omega,.inr (by first|lia|omega)⟩ n)
theorem ja {K:Ja}{G:Hp}{p:Addr}{B ps:List (Str×Str)}(g:bB B)(o:Of B ps)(hl:ps.length<=1260)(h:G p=some (.lst (jN ps))):Pt K G (.list ((ps.map (·.1)).map PyData.str)) (.ref p):=by
 have e:(ps.map (·.1)).length=ps.length:=Jb _
 exact⟨yA h (Den.strs _),(i5 g fun x hx=>by obtain⟨y,hy,rfl⟩:=Um.mp hx;exact⟨y,o y hy,rfl⟩).list.mono (by first|lia|omega) (Jc _),j0 (by rw[Jb]; (first|lia|omega))⟩
theorem CZ (ps:List (Str×Str)):(ps.map fun q=>((q.2.length:Nat):Int)).sum=((tx ps).length:Nat):=by
 induction ps with
 | nil=>rfl
 | cons q ps ih=>
  rw[Ub,List.sum_cons,ih]
  show _=(((sg q.2++tx ps).length:Nat):Int)
  rw[Jf,str_len]
  exact(Int.natCast_add _ _).symm
noncomputable def oU (K:Ja):Sp:=fun vs H Q _=>DD fun(b c z p q:Addr) (t:Int) (v:V) (B:List (Str×Str)) (n:Int) (ps qs:List (Str×Str))=>vs=[.ref b,v,.ref z]/\Bx H b c t/\0<=t/\t<850000/\fD K (cu H b c) B v/\bB B/\B≠[] /\ -20<=n/\n<=6000/\Of B ps/\Of B qs/\ps.length<=1260/\qs.length<=1260 /\
 cu H b c z=some (.tup [.ref p,.ref q,.int n])/\cu H b c p=some (.lst (jN ps))/\cu H b c q=some (.lst (jN qs)) /\
 ∀(d:PyData) (v:V) (H':Hp) (t':Int),Th K (cu H' b c) d v->Step b c H H' t t' 20->Q v H'
structure Acc (K:Ja)(H0:Hp)(b c:Addr)(vs:List V)(H:Hp):Prop where
 sm:au H0 H
 th:∀v∈vs,∃d,Th K (cu H b c) d v
section
variable {K:Ja}{H0 H H':Hp}{b c p:Addr}{t:Int}{vs ws:List V}{ds:List PyData}
theorem Acc.nil:Acc K H b c [] H:=⟨au.refl _,fun _ h=>nomatch h⟩
theorem Acc.back (A:Acc K H0 b c vs H)(h:H p=none):H0 p=none:=by
 cases e:H0 p with
 | none=>rfl
 | some o=>rw[A.sm _ _ e] at h;cases h
theorem Acc.same (A:Acc K H0 b c vs H)(s:au H H'):Acc K H0 b c vs H':=⟨A.sm.trans s,fun v hv=>(A.th v hv).imp fun _ h=>h.same (au.cu s)⟩
theorem Acc.and (A:Acc K H0 b c vs H){v:V}{d:PyData}(h:Th K (cu H b c) d v):Acc K H0 b c (vs++[v]) H:=
 ⟨A.sm,fun u hu=>(Jq.mp hu).elim (A.th u) fun z=>Jg.mp z▸⟨d,h⟩⟩
theorem Acc.tup (bx:Bx H0 b c t)(A:Acc K H0 b c vs H)(n:cV H p (.tup ws) H')(h:rE K (cu H b c) ds ws)(hl:ds.length<=4):Acc K H0 b c (vs++[.ref p]) H':=
 (A.same n.same).and (sq (Step.same bx A.sm).bx n h hl)
theorem Acc.lst (bx:Bx H0 b c t)(A:Acc K H0 b c vs H)(n:cV H p (.lst ws) H')(h:rE K (cu H b c) ds ws)(hl:ds.length<=4):Acc K H0 b c (vs++[.ref p]) H':=
 (A.same n.same).and (C9 (Step.same bx A.sm).bx n h hl)
end
noncomputable abbrev Ml (K:Ja)(H0:Hp)(b c:Addr)(m:Nat)(v:V)(H:Hp):Prop:=cj fun(f:Addr) (vs:List V)=>v = .ref f/\H f=some (.lst vs)/\H0 f=none/\vs.length=m/\Acc K H0 b c vs H
section
variable {P:Program}{w:World}{K:Ja}{mg:Str->Option Value}{base:Heap}{f:Addr}{fd:FuncData}{C:Addr}
theorem ba:aM ["_law_state", "_law_book_here", "_law_thing", "_law_way", "_law_one", "_law_other", "_law_place", "_law_names_here", "_law_size", "_law_some"] ["_law_state", "_law_book_here", "_law_thing"] (ay (top fL)):=⟨rfl,rfl,rfl,by decide +kernel,rfl,by decide +kernel,by decide +kernel⟩
theorem DA (F:cX K "_law_spoilt" "_law_spoilt" (top fL) f fd)(T:Nm mg)(jj:mg "dict" = none)(ax:Fn P w K mg base 1 "_law_take" ["_law_state", "_law_many"] kL)(lz:Fn P w K mg base 2 "_law_bent" ["_law_state", "_law_names_here", "_law_some"] (nQ K)):bA P w K mg base fQ 3 f fd ["_law_state", "_law_book_here", "_law_thing"] (oU K):=by
 refine F.ok ba (fun vs H Q E h =>?_) (fun di A outer s H vs Q E hr h =>?_)
 ·obtain⟨b,c,z,p,q,t,v,B,n,ps,qs,rfl,_⟩:=h
  rfl
 unfold oU at h
 refine ae.el h _ ?_
 clear h
 rintro b c z p q t v B n ps qs rfl bx t0 t1 hv gB jZ n0 n1 o1 o2 l1 l2 hz hp hq Qk
 refine ae.el (hv.MG) _ ?_
 rintro l rfl lb lc hB hBh
 have hu:=gF hr
 have hU:=hr.units
 have hle:=gB.le
 have tl:=eu gB o1
 refine⟨_,(ah (aE (i:=3) ba.nd rfl (Or.inl rfl) (aJ (ax.mono (by first|decide|exact Jc _|(first|lia|omega))) hr rfl (aa (pv 0) (aa aj ag))))
  (ah (fB (pv 2) (tupK K 3 rfl (ar (ai (i:=4) ba.nd rfl (Or.inl rfl)) (ar (ai (i:=5) ba.nd rfl (Or.inl rfl)) (ar (ai (i:=6) ba.nd rfl (Or.inl rfl)) bp)))))
  (ah (bJ (i:=7) ba.nd rfl (Or.inl rfl) rfl (aO (Nc:=["_law_name", "_law_code"]) (Fc:=[]) (js:=[])) (iE K (pv 1)) (dF (aK (aA (i:=0) (n:=2) (by decide)) (aK (aA (i:=1) (n:=2) (by decide)) cR aB aR) aB (aX aB aR))) (fun _ _ _ _ _=>(tupK K 2 rfl (ar (ai (i:=0) (show(["_law_name", "_law_code"]:List Str).Nodup by decide +kernel) rfl (Or.inl rfl)) (ar (ai (i:=1) (show(["_law_name", "_law_code"]:List Str).Nodup by decide +kernel) rfl (Or.inl rfl)) bp)))) (fun _ _ _ _ _=>bj) (fun _ _ _ _ _=>(pv 0)))
  (ah (cB (aP iK (pv 3) aj (aY _)) (ak (aI (dj (aa (aJ (lz.mono (by first|decide|exact Jc _|(first|lia|omega))) hr rfl (aa (pv 0) (aa (pv 7) (aa (pv 4) ag)))) (aa (pv 5) (aa (pv 6) ag)))))) bh)
  (ah (cB (aP iK (pv 3) aj (aY _)) (ak (aI (dj (aa (pv 4) (aa (aJ (lz.mono (by first|decide|exact Jc _|(first|lia|omega))) hr rfl (aa (pv 0) (aa (pv 7) (aa (pv 5) ag)))) (aa (pv 6) ag)))))) bh)
  (ah (aE (i:=8) ba.nd rfl (Or.inl rfl) (av (sumK K rfl) rfl T.n_sum (by rfl) (aa (bO rfl (aO (Nc:=["_law_name"]) (Fc:=["_law_book_here"]) (js:=[1])) (iE K (pv 4)) (aA (i:=0) (n:=1) (by decide)) (fun _ _ _ _ _=>(ai (i:=0) (show(["_law_name", "_law_book_here"]:List Str).Nodup by decide +kernel) rfl (Or.inl rfl))) (fun _ _ _ _ _=>bj) (fun _ _ _ _ _=>(av (dA K) rfl T.n_len (by rfl) (aa (dv hu (bX (Cd K rfl) rfl jj (by rfl) (aa (pv 1) ag)) (pv 0) (fun _ _=>rfl)) ag)))) ag)))
  (ah (aE (i:=9) ba.nd rfl (Or.inl rfl) (dg (aa (dj (aa (pv 5) (aa (pv 4) (aa (pv 6) ag)))) (aa (dj (aa (pv 5) (aa (pv 4) (aa (aF rX (pv 8) (pv 6)) ag)))) (aa (dj (aa (pv 4) (aa (pv 5) (aa (aF ck (pv 6) aj) ag)))) (aa (dj (aa (pv 4) (aa (pv 5) (aa (aF rX (pv 6) aj) ag)))) ag))))))
  (ah (aE (i:=9) ba.nd rfl (Or.inl rfl) (aF ck (pv 9) (dg (aa (dj (aa (pv 4) (aa (pv 5) (aa aj ag)))) (aa (dj (aa (pv 4) (aa (pv 5) (aa (pv 8) ag)))) (aa (dj (aa (pv 4) (aa (pv 5) (aa eW ag)))) (aa (dj (aa (pv 4) (aa (pv 5) (aa (bX (Ef K hr.gd hU) rfl T.n_str (by rfl) (aa (pv 6) ag)) ag)))) (aa (dj (aa (pv 4) (aa (pv 4) (aa (pv 6) ag)))) ag))))))))
  (ah (aE (i:=9) ba.nd rfl (Or.inl rfl) (aF ck (pv 9) (dg (aa (dg (aa (pv 4) (aa (pv 5) (aa (pv 6) ag)))) (aa (dj (aa (pv 4) (aa (pv 5) ag))) (aa (dj (aa (pv 4) (aa (pv 5) (aa (pv 6) (aa (pv 6) ag))))) (aa de (aa (dj (aa de (aa (pv 5) (aa (pv 6) ag)))) ag))))))))
  (ak (aI (bt (gP K) (pv 9) (aJ (ax.mono (by first|decide|exact Jc _|(first|lia|omega))) hr rfl (aa (pv 0) (aa aj ag))) (fun _ _=>rfl))))))))))))),?_⟩
 refine cc (t:=gU _ _) fun D1 g1 y1 =>?_
 refine⟨_,rfl,b,c,t,10,rfl,bx,by first|lia|omega,by first|lia|omega,by decide,by decide,fun way H1 w0 w1 dy=>gn (g1 _ _ ?_)⟩
 clear g1 y1
 refine cc (t:=gU _ _) fun D1 g1 y1 =>?_
 refine⟨_,rfl,z,_,rfl,d9.of (lN _ _ (dy.sm _ _ hz)),rfl,_,_,rfl,_,_,rfl,_,_,rfl,rfl,?_⟩
 refine g1 _ _ ?_
 clear g1 y1
 have NG:=(hBh.same dy.sm).same rY
 refine bG (te:=dz _ _ _ _ _ _) (fun v H'=>∃p,v = .ref p/\cV H1 p (.lst (jN B)) H') (fun Qn qn=>uw NG hle rfl fun p H' n=>qn _ _ ⟨p,rfl,n⟩) ?_
 intro v H2 hz_
 refine ae.el hz_ _ ?_
 clear hz_
 rintro pn rfl n2
 refine gn ?_
 have nb:=(dy.bx.aN n2.nn).1
 have nc:=(dy.bx.aN n2.nn).2
 have rG:=n2.at
 have aW:=dy.cH n2
 have QC:=NG.same n2.same
 have nu:=(df (aW.sm _ _ hp)).1
 have pb:=(df (aW.sm _ _ hp)).2.1
 have pc:=(df (aW.sm _ _ hp)).2.2
 have QG:=(df (aW.sm _ _ hq)).1
 have qb:=(df (aW.sm _ _ hq)).2.1
 have qc:=(df (aW.sm _ _ hq)).2.2
 have P1:Pt K (cu H2 b c) _ (.ref p):=ja gB o1 l1 (aW.sm _ _ hp)
 have P2:Pt K (cu H2 b c) _ (.ref q):=ja gB o2 l2 (aW.sm _ _ hq)
 have P0:∀{G:Hp},Pt K G (.int n) (.int n):=iq (by first|lia|omega) (by first|lia|omega)
 rw[show(List.set _ _ _:L2.St)=[some (.ref b),some (.ref l),some (.ref z),some (.int way),some (.ref p),some (.ref q),some (.int n),some (.ref pn),none,none] from rfl]
 refine cc (t:=l9 _ _ _) fun D1 g1 y1 =>?_
 refine⟨_,rfl,_,_,rfl,rfl,_,rfl,gM (fun w3 =>?_) (fun w3 =>?_)⟩
 ·refine⟨_,rfl,_,rfl,_,rfl,b,c,pn,p,_,B,ps,rfl,aW.bx,by first|lia|omega,by first|lia|omega,rG,nb,nc,gB,jZ,nu,pb,pc,o1,l1,fun d v H5 t5 den gd few cC=>⟨_,rfl,_,rfl,by show 3<=sizeLine;decide,fun pz H6 n6 =>?_⟩⟩
  have zi:=aW.trans cC
  exact y1 _ _ (Qk _ _ H6 _ (sq zi.bx n6 (.cons ⟨den,gd,few⟩ (.cons (P2.same cC.sm) (.cons P0 .nil))) (Uk rfl)) ((zi.cH n6).more (by first|lia|omega)))
 refine g1 _ _ ?_
 clear g1 y1
 refine cc (t:=l9 _ _ _) fun D1 g1 y1 =>?_
 refine⟨_,rfl,_,_,rfl,rfl,_,rfl,gM (fun w6 =>?_) (fun w6 =>?_)⟩
 ·refine⟨_,rfl,_,rfl,_,rfl,_,rfl,b,c,pn,q,_,B,qs,rfl,aW.bx,by first|lia|omega,by first|lia|omega,rG,nb,nc,gB,jZ,QG,qb,qc,o2,l2,fun d v H5 t5 den gd few cC=>⟨_,rfl,by show 3<=sizeLine;decide,fun pz H6 n6 =>?_⟩⟩
  have zi:=aW.trans cC
  exact y1 _ _ (Qk _ _ H6 _ (sq zi.bx n6 (.cons (P1.same cC.sm) (.cons ⟨den,gd,few⟩ (.cons P0 .nil))) (Uk rfl)) ((zi.cH n6).more (by first|lia|omega)))
 refine g1 _ _ ?_
 clear w3 w6 g1 y1
 refine bG (te:=JS _ _) (fun v H'=>v = .int (((tx ps).length:Nat):Int)/\au H2 H') (fun Qn qn =>?_) ?_
 ·refine⟨_,rfl,p,rfl,⟨_,aG.of nu⟩,?_⟩
  refine cw (N:=ps.length) (fun i ys H'=>au H2 H'/\ys=((ps.take i).map fun q=>((q.2.length:Nat):Int)).map V.int) ⟨au.refl _,rfl⟩ ?_ ?_
  ·rintro i ys H3 Ny hi ⟨s3,rfl⟩ ny
   refine⟨⟨_,_,aG.of (s3 _ _ nu),g9 hi⟩,by rw[Jb,Jb,Jw];exact Jx (show min i ps.length<=1300 by first|lia|omega) (by decide),?_⟩
   rintro x H4 ⟨rfl,hy⟩
   have e:=hy _ (aG.of (s3 _ _ nu))
   rw[g9 hi] at e;cases e
   refine ae.el (mY (QC.same s3) gB) _ ?_
   rintro as' vs' e1 e2' e3 e4 e5
   have Oy:=o1 _ (Jt hi)
   have wA:=(gB.cd _ Oy).le
   refine gn ⟨_,rfl,l,as',byName B,rfl,e1▸e2',by unfold byName;rw[Jb];exact e3,by unfold byName;rw[Jb]; (first|lia|omega),e4,fun D H5 n5 =>?_⟩
   rw[e5] at n5
   refine⟨_,rfl,D,.str ps[i].2,rfl,.inl ⟨_,.inr ps[i].1,.inl n5.at,rfl,(gB.name Oy).symm⟩,_,_,rfl,⟨sizeOk (by first|lia|omega),rfl⟩,ny _ _ ⟨s3.trans n5.same,?_⟩⟩
   rw[aL hi,Jl,Jl];rfl
  ·rintro ys H3 ⟨s3,rfl⟩
   refine⟨⟨_,aG.of (s3 _ _ nu),by rw[fC];exact Jc _⟩,fun p3 vo =>?_⟩
   rw[Ui]
   refine⟨p3,_,rfl,aG.of aH,?_⟩
   rw[CZ]
   exact qn _ _ ⟨rfl,s3.trans (cP vo _)⟩
 rintro v H4 ⟨rfl,s24⟩
 refine gn ?_
 have dG:=aW.trans (Step.same aW.bx s24)
 have L0:((tx ps).length:Int)<=15120:=by (first|lia|omega)
 generalize (tx ps).length=L at L0
 have PL:∀{G:Hp},Pt K G (.int (L:Int)) (.int (L:Int)):=iq (by first|lia|omega) (by first|lia|omega)
 have P1:=P1.same (au.cu s24)
 have P2:=P2.same (au.cu s24)
 have R1:∀{H':Hp},au H4 H'->Pt K (cu H' b c) _ (.ref p):=fun s=>P1.same (au.cu s)
 have R2:∀{H':Hp},au H4 H'->Pt K (cu H' b c) _ (.ref q):=fun s=>P2.same (au.cu s)
 have pI:=dG.bx
 have A0:Acc K H4 b c [] H4:=Acc.nil
 refine bG (te:=tX _) (Ml K H4 b c 4) (fun Qn qn =>?_) ?_
 ·refine⟨_,rfl,_,rfl,_,rfl,by show 3<=sizeLine;decide,fun e0 H5 n5 =>?_⟩
  have A:=A0.tup pI n5 (.cons (R2 A0.sm) (.cons (R1 A0.sm) (.cons P0 .nil))) (Uk rfl)
  clear A0 n5
  refine⟨_,rfl,_,rfl,_,rfl,_,rfl,_,_,rfl,rfl,by show 3<=sizeLine;decide,fun e1 H6 n6 =>?_⟩
  have A:=A.tup pI n6 (.cons (R2 A.sm) (.cons (R1 A.sm) (.cons (iq (n:=(L:Int)-n) (by first|lia|omega) (by first|lia|omega)) .nil))) (Uk rfl)
  clear n6
  refine⟨_,rfl,_,rfl,_,rfl,.inl ⟨_,_,rfl,rfl,by show 3<=sizeLine;decide,fun e2 H7 n7 =>?_⟩⟩
  have A:=A.tup pI n7 (.cons (R1 A.sm) (.cons (R2 A.sm) (.cons (iq (n:=n+1) (by first|lia|omega) (by first|lia|omega)) .nil))) (Uk rfl)
  clear n7
  refine⟨_,rfl,_,rfl,_,rfl,_,_,rfl,rfl,by show 3<=sizeLine;decide,fun e3 H8 n8 =>?_⟩
  have A:=A.tup pI n8 (.cons (R1 A.sm) (.cons (R2 A.sm) (.cons (iq (n:=n-1) (by first|lia|omega) (by first|lia|omega)) .nil))) (Uk rfl)
  exact⟨by show 4<=sizeLine;decide,fun f0 H9 n9=>qn _ _ ⟨f0,_,rfl,n9.at,A.back n9.nn,rfl,A.same n9.same⟩⟩
 intro v H5 hz_
 refine ae.el hz_ _ ?_
 clear hz_
 rintro f0 vs0 rfl hf0 nf0 l0 A
 refine gn ?_
 have d0:∀{G:Hp},Den K G (.int n) (.int n):=fun{G}=>by unfold Den;rfl
 have il:=ur (i:=n) (Jx (show n.natAbs<=100000 by first|lia|omega) (by decide))
 have PS:∀{G:Hp},Pt K G (.str (Du (.int n))) (.str (Du (.int n))):=⟨by unfold Den;rfl,Gd.str (Ab n) (Jp il (by decide)),BC⟩
 refine bG (te:=zZ _ _ _) (Ml K H4 b c 9) (fun Qn qn =>?_) ?_
 ·refine⟨_,rfl,?_⟩
  refine⟨_,rfl,_,rfl,by show 3<=sizeLine;decide,fun e4 H6 n6 =>?_⟩
  have hf:=n6.same _ _ hf0
  have A:=A.tup pI n6 (.cons (R1 A.sm) (.cons (R2 A.sm) (.cons (iq (n:=0) (by first|lia|omega) (by first|lia|omega)) .nil))) (Uk rfl)
  clear n6 hf0
  refine⟨_,rfl,_,rfl,_,rfl,by show 3<=sizeLine;decide,fun e5 H7 n7 =>?_⟩
  have hf:=n7.same _ _ hf
  have A:=A.tup pI n7 (.cons (R1 A.sm) (.cons (R2 A.sm) (.cons PL .nil))) (Uk rfl)
  clear n7
  refine⟨_,rfl,_,rfl,by show 3<=sizeLine;decide,fun e6 H8 n8 =>?_⟩
  have hf:=n8.same _ _ hf
  have A:=A.tup pI n8 (.cons (R1 A.sm) (.cons (R2 A.sm) (.cons FR .nil))) (Uk rfl)
  clear n8
  obtain⟨f1,f2,f3⟩:=Gd.fit (d := .int n) (Gd.int (Jx (show n.natAbs<=100000 by first|lia|omega) (by decide)) (by decide))
  refine⟨_,rfl,_,rfl,_,rfl,_,.int n,rfl,d0,f1,f2,f3,by show 3<=sizeLine;decide,fun e7 H9 n9 =>?_⟩
  have hf:=n9.same _ _ hf
  have A:=A.tup pI n9 (.cons (R1 A.sm) (.cons (R2 A.sm) (.cons PS .nil))) (Uk rfl)
  clear n9 f1 f2 f3
  refine⟨_,rfl,_,rfl,_,rfl,by show 3<=sizeLine;decide,fun e8 H10 n10 =>?_⟩
  have hf:=n10.same _ _ hf
  have A:=A.tup pI n10 (.cons (R1 A.sm) (.cons (R1 A.sm) (.cons P0 .nil))) (Uk rfl)
  clear n10
  refine⟨by show 5<=sizeLine;decide,fun f1 H11 n11 =>?_⟩
  refine .inr (.inr ⟨f0,f1,_,_,rfl,rfl,n11.same _ _ hf,n11.at,Jp (Yj (show _=9 by rw[l0];rfl)) (by decide),fun f2 H12 n12=>qn _ _ ⟨f2,_,rfl,n12.at,(A.same n11.same).back n12.nn,by rw[Jf,l0];rfl,?_⟩⟩)
  have A:=(A.same n11.same).same n12.same
  rw[J9,J9,J9,J9] at A
  exact A
 clear hf0 nf0 l0 A
 intro v H6 hz_
 refine ae.el hz_ _ ?_
 clear hz_
 rintro f2 vs1 rfl hf2 nf2 l1' A
 refine gn ?_
 refine bG (te:=zZ _ _ _) (Ml K H4 b c 14) (fun Qn qn =>?_) ?_
 ·refine⟨_,rfl,?_⟩
  refine⟨_,rfl,_,rfl,_,rfl,by show 3<=sizeLine;decide,fun e9 H7 n7 =>?_⟩
  have hf:=n7.same _ _ hf2
  have A:=A.lst pI n7 (.cons (R1 A.sm) (.cons (R2 A.sm) (.cons P0 .nil))) (Uk rfl)
  clear n7 hf2
  refine⟨_,rfl,_,rfl,by show 2<=sizeLine;decide,fun e10 H8 n8 =>?_⟩
  have hf:=n8.same _ _ hf
  have A:=A.tup pI n8 (.cons (R1 A.sm) (.cons (R2 A.sm) .nil)) (Uk rfl)
  clear n8
  refine⟨_,rfl,_,rfl,_,rfl,_,rfl,by show 4<=sizeLine;decide,fun e11 H9 n9 =>?_⟩
  have hf:=n9.same _ _ hf
  have A:=(A.tup pI n9 (.cons (R1 A.sm) (.cons (R2 A.sm) (.cons P0 (.cons P0 .nil)))) (Uk rfl)).and (xX.th fun ds z=>nomatch z)
  clear n9
  refine⟨_,rfl,_,rfl,by show 3<=sizeLine;decide,fun e13 H10 n10 =>?_⟩
  have hf:=n10.same _ _ hf
  have A:=A.tup pI n10 (.cons xX (.cons (R2 A.sm) (.cons P0 .nil))) (Uk rfl)
  clear n10
  refine⟨by show 5<=sizeLine;decide,fun f3 H11 n11 =>?_⟩
  refine .inr (.inr ⟨f2,f3,_,_,rfl,rfl,n11.same _ _ hf,n11.at,Jp (Yj (show _=14 by rw[l1'];rfl)) (by decide),fun ff H12 n12=>qn _ _ ⟨ff,_,rfl,n12.at,(A.same n11.same).back n12.nn,by rw[Jf,l1'];rfl,?_⟩⟩)
  have A:=(A.same n11.same).same n12.same
  rw[J9,J9,J9,J9] at A
  exact A
 clear hf2 nf2 l1' A
 intro v H7 hz_
 refine ae.el hz_ _ ?_
 clear hz_
 rintro ff vs2 rfl hff nff l2' A
 refine gn ?_
 obtain⟨ffb,ffc⟩:=pI.aN nff
 have ji:=dG.trans (Step.same pI A.sm)
 refine⟨_,rfl,_,rfl,b,c,_,14,rfl,ji.bx,by first|lia|omega,by first|lia|omega,by decide,by decide,fun k HX k0 k1 stX =>?_⟩
 obtain⟨kn,rfl⟩:∃kn:Nat,k=(kn:Int):=⟨k.toNat,by first|lia|omega⟩
 have hk:kn<vs2.length:=by (first|lia|omega)
 obtain⟨d,hd⟩:=A.th _ (Jt hk)
 exact .inl ⟨ff,_,kn,_,rfl,rfl,aG.of (stX.old hff ffb ffc),fE (Int.natCast_nonneg _) (Je hk),Qk d _ HX _ (hd.same stX.sm) ((ji.trans stX).more (by first|lia|omega))⟩
end
noncomputable def ud (K:Ja):Sp:=fun vs H Q _=>cj fun(a:Addr) (ns:List Int)=>vs=[.ref a]/\aG K H a (ns.map V.int)/\ns.length<=63/\∀H',Q (.bl true) H'
theorem dbl {K:Ja}{H:Hp}{b:Bool}:Den K H (.bool b) (.bl b):=by unfold Den;rfl
theorem Gg {K:Ja}{G:Hp}{z:Addr}{ds:List PyData}{vs:List V}(h:G z=some (.tup vs))(g:rE K G ds vs)(hl:ds.length<=4):Th K G (.tuple ds) (.ref z):=
 ⟨zI h g.1,(rE.gs (K:=K) (G:=G) g.2).tuple.mono (by first|lia|omega) (Jc _),mT g⟩
noncomputable def m9 (K:Ja)(G:Hp)(ds:List PyData)(vs:List V):Prop:=az K G ds vs/\∀d∈ds,Gd 226000 3 d/\uF d
theorem m9.same {K:Ja}{G G':Hp}{ds:List PyData}{vs:List V}(h:m9 K G ds vs)(s:au G G'):m9 K G' ds vs:=⟨h.1.same s,h.2⟩
theorem m9.nil {K:Ja}{G:Hp}:m9 K G [] []:=⟨zr,fun d h=>nomatch h⟩
theorem m9.cons {K:Ja}{G:Hp}{d:PyData}{v:V}{ds:List PyData}{vs:List V}(h:Th K G d v)(g:m9 K G ds vs):m9 K G (d::ds) (v::vs):=
 ⟨yI h.den g.1,fun e he=>(Uc.mp he).elim (fun z=>z▸⟨h.gd,h.ask⟩) (g.2 e)⟩
theorem m9.app {K:Ja}{G:Hp}{d:PyData}{v:V}{ds:List PyData}{vs:List V}(h:m9 K G ds vs)(g:Th K G d v):m9 K G (ds++[d]) (vs++[v]):=
 ⟨Ag h.1 g.den,fun e he=>(Jq.mp he).elim (h.2 e) fun he=>by rw[Jg.mp he];exact⟨g.gd,g.ask⟩⟩
theorem m9.cat {K:Ja}{G:Hp}{ds es:List PyData}{vs us:List V}(h:m9 K G ds vs)(g:m9 K G es us):m9 K G (ds++es) (vs++us):=by
 induction ds generalizing vs with
 | nil=>
  have:=h.1
  unfold az at this
  subst this
  exact g
 | cons d ds ih=>
  obtain⟨h1,h2⟩:=h
  unfold az at h1
  refine ae.el (h1) _ ?_
  rintro v r rfl k1 k2
  exact m9.cons ⟨k1,(h2 d Jk).1,(h2 d Jk).2⟩ (ih ⟨k2,fun e he=>h2 e (Jh _ he)⟩)
section
variable {P:Program}{w:World}{K:Ja}{mg:Str->Option Value}{base:Heap}{f:Addr}{fd:FuncData}
theorem gf:aM ["_law_script", "_law_state", "_law_turn", "_law_book_here", "_law_good_here", "_law_thing", "_law_kept", "_law_found"] ["_law_script"] (ay (top iI)):=⟨rfl,rfl,rfl,by decide +kernel,rfl,by decide +kernel,by decide +kernel⟩
theorem C4 (F:cX K "law" "law" (top iI) f fd)(T:Nm mg)(qt:Fn P w K mg base 1 "_law_begin" ["_law_script"] (oA K))(tF:Fn P w K mg base 3 "_law_book" ["_law_state"] (uu K))(sD:Fn P w K mg base 7 "_law_good" ["_law_state", "_law_book_here"] (kf K))(nH:Fn P w K mg base 3 "_law_spoilt" ["_law_state", "_law_book_here", "_law_thing"] (oU K))(oG:Fn P w K mg base 5 "shows_ring" ["book", "thing"] (qv K))(mf:Fn P w K mg base 2 "_law_is_ring" ["_law_book_here", "_law_thing"] (qv K)):
  bA P w K mg base fQ 8 f fd ["_law_script"] (ud K):=by
 refine F.ok gf (fun vs H Q E h =>?_) (fun di A outer s H vs Q E hr h =>?_)
 ·obtain⟨a,ns,rfl,_⟩:=h
  rfl
 obtain⟨a,ns,rfl,hS,hlen,q⟩:=h
 have hU:=hr.units
 refine⟨_,(ah (aE (i:=1) gf.nd rfl (Or.inr rfl) (aJ (qt.mono (by first|decide|exact Jc _|(first|lia|omega))) hr rfl (aa (pv 0) ag)))
  (ah (gh PassesOwn.never rfl (cG rfl T.n_range (aa aj ag)) (ai (i:=2) gf.nd rfl (Or.inl rfl)) (ah (aE (i:=3) gf.nd rfl (Or.inr rfl) (aJ (tF.mono (by first|decide|exact Jc _|(first|lia|omega))) hr rfl (aa (pv 1) ag)))
  (ah (aE (i:=4) gf.nd rfl (Or.inr rfl) (aJ (sD.mono (by first|decide|exact Jc _|(first|lia|omega))) hr rfl (aa (pv 1) (aa (pv 3) ag))))
  (ak (gh PassesOwn.never rfl (iE K (aF ck (dg (aa (pv 4) ag)) (bO rfl (aO (Nc:=["_law_k"]) (Fc:=["_law_state", "_law_book_here", "_law_good_here"]) (js:=[1,3,4])) (cG rfl T.n_range (aa aj ag)) (aA (i:=0) (n:=1) (by decide)) (fun _ _ _ _ _=>(ai (i:=0) (show(["_law_k", "_law_state", "_law_book_here", "_law_good_here"]:List Str).Nodup by decide +kernel) rfl (Or.inl rfl))) (fun _ _ _ _ _=>bj) (fun _ _ _ _ _=>(aJ (nH.mono (by first|decide|exact Jc _|(first|lia|omega))) hr rfl (aa (pv 1) (aa (pv 2) (aa (pv 3) ag)))))))) (ai (i:=5) gf.nd rfl (Or.inl rfl)) (ah (aE (i:=6) gf.nd rfl (Or.inl rfl) (bX (Ef K hr.gd hU) rfl T.n_str (by rfl) (aa (pv 5) ag)))
  (ah (aE (i:=7) gf.nd rfl (Or.inl rfl) (aJ (oG.mono (by first|decide|exact Jc _|(first|lia|omega))) hr rfl (aa (pv 3) (aa (pv 5) ag))))
  (ak (cB (PW.pt (eC (dX (dm (av (kq K) rfl T.n_isinstance (by rfl) (aa (pv 7) (aa (cT rfl T.n_bool (by rfl) (v := .ty "bool") rfl) ag))))) (eC (aP (yk K hU) (pv 7) (aJ (mf.mono (by first|decide|exact Jc _|(first|lia|omega))) hr rfl (aa (pv 3) (aa (pv 5) ag))) (aY _)) (gb (aP (yk K hU) (bX (Ef K hr.gd hU) rfl T.n_str (by rfl) (aa (pv 5) ag)) (pv 6) (aY _)))))) (ak (aI eW)) bh)))))))))
  (ak (aI eW)))),?_⟩
 refine⟨_,rfl,a,ns,rfl,hS,hlen,fun b c H1 tu hb hc sm1 =>?_⟩
 refine gn ?_
 dsimp only
 refine⟨3,rfl,by decide,by decide,?_⟩
 refine jK (lo:=0) (n:=3) (fun i σ H'=>HW fun(t':Int) (x2 x3 x4 x5 x6 x7:Option V) =>σ=[some (.ref a),some (.ref b),x2,x3,x4,x5,x6,x7]/\Step b c H1 H' 0 t' (1000*i)) ⟨0,_,_,_,_,_,_,rfl,(Step.refl tu).more (by first|lia|omega)⟩ ?_ ?_
 ·intro i σ H2 hi hz_
  refine ae.el hz_ _ ?_
  clear hz_
  rintro t2 x2 x3 x4 x5 x6 x7 rfl aW
  have OO:=aW.ub
  have Qd:=aW.le
  refine cc (t:=gU _ _) fun D1 g1 y1 =>?_
  refine⟨_,rfl,b,c,t2,rfl,aW.bx,by first|lia|omega,by first|lia|omega,fun B v H3 t3 gB jZ hv cp=>gn ?_⟩
  refine ae.el (hv.MG) _ ?_
  rintro l rfl lb lc _ hBh
  refine g1 _ _ ?_
  clear g1 y1
  refine cc (t:=gU _ _) fun D1 g1 y1 =>?_
  have Rm:=cp.ub
  have Rh:=cp.le
  refine⟨_,rfl,_,rfl,b,c,t3,_,B,rfl,cp.bx,by first|lia|omega,by first|lia|omega,hv,gB,jZ,fun n ps qs z p q' H4 t4 o1 o2 l1 l2 n0 n1 hz hp hq dG=>gn (g1 _ _ ?_)⟩
  clear g1 y1
  have MR:=dG.ub
  have Nw:=dG.le
  have TG:Th K (cu H4 b c) _ (.ref z):=Gg hz (.cons (ja gB o1 l1 hp) (.cons (ja gB o2 l2 hq) (.cons (iq (by first|lia|omega) (by first|lia|omega)) .nil))) (Uk rfl)
  dsimp only
  refine⟨_,rfl,by show 1<=sizeLine;decide,fun m4 H8 n8 =>?_⟩
  refine ae.el (tR dG.bx n8) _ ?_
  rintro a8 b8 s8 bx8
  have h8:=Step.same dG.bx s8
  have T2:m9 K (cu H8 b c) _ [.ref z] := .cons (TG.same h8.sm) .nil
  clear TG
  refine⟨12,rfl,by decide,by decide,?_⟩
  refine cw (N:=12) (fun k ys H'=>cj fun(es:List PyData) (t':Int)=>es.length=k/\m9 K (cu H' b c) es ys/\Step b c H4 H' t4 t' (20*k)/\au (cu H8 b c) (cu H' b c)) ⟨[],_,rfl,.nil,h8.more (by first|lia|omega),au.refl _⟩ ?_ ?_
  ·intro k ys H9 Nx hk hz_ nx
   refine ae.el hz_ _ ?_
   clear hz_
   rintro es t9 IL jc ji sm9
   have CO:=jc.1.len
   have Rn:=ji.ub
   have Q9:=ji.le
   refine⟨hk,Jx (show ys.length<=1000 by first|lia|omega) (by decide),?_⟩
   rintro x' H10 ⟨rfl,rfl⟩
   refine gn ⟨_,rfl,_,rfl,_,rfl,b,c,z,p,q',t9,_,B,n,ps,qs,rfl,ji.bx,by first|lia|omega,by first|lia|omega,hv.same (dG.sm.trans ji.sm),gB,jZ,n0,n1,o1,o2,l1,l2,ji.sm _ _ hz,ji.sm _ _ hp,ji.sm _ _ hq,fun d v H11 t11 th tJ =>?_⟩
   exact nx _ _ ⟨es++[d],t11,by rw[Jf,IL];rfl,(jc.same tJ.sm).app th,(ji.trans tJ).more (by first|lia|omega),sm9.trans tJ.sm⟩
  intro ys H9 hz_
  refine ae.el hz_ _ ?_
  clear hz_
  rintro es t9 IL jc ji sm9
  refine⟨Jc _,fun p6 zU =>?_⟩
  obtain⟨H10,n10⟩:∃H10,cV H9 p6 (.lst ys) H10:=⟨_,zU,rfl⟩
  rw[<-n10.eq]
  have CO:=jc.1.len
  have LX:H10 m4=some (.lst [.ref z]):=n10.same _ _ (df (sm9 _ _ (by rw[bT a8 b8];exact n8.at))).1
  refine .inr (.inr ⟨m4,p6,_,_,rfl,rfl,LX,n10.at,sizeOk (by show 1+ys.length<=_; (first|lia|omega)),fun p7 H11 n11 =>?_⟩)
  have tJ:=((ji.cH n10).cH n11)
  have MD:=n10.same.trans n11.same
  have TA:m9 K (cu H11 b c) _ ([.ref z]++ys):=((T2.same sm9).cat jc).same (au.cu MD)
  have M5:kc K H11 B l:=(hBh.same (dG.sm.trans tJ.sm)).same lN
  have TA:=TA.same lN
  generalize ([V.ref z]++ys)=us at TA n11
  obtain⟨ds,TA⟩:∃ds,m9 K H11 ds us:=⟨_,TA⟩
  clear T2 jc sm9
  have hl:=TA.1.len
  refine⟨p7,rfl,⟨_,aG.of n11.at⟩,?_⟩
  refine lP (N:=ds.length) (fun k σ H'=>iU fun(x5 x6 x7:Option V) =>σ=[some (.ref a),some (.ref b),some (.int (0+i)),some (.ref l),some (.ref z),x5,x6,x7]/\au H11 H') ⟨_,_,_,rfl,au.refl _⟩ ?_ ?_
  ·intro k σ H12 hk hz_
   refine ae.el hz_ _ ?_
   clear hz_
   rintro y5 y6 y7 rfl sm12
   obtain⟨x',hx',dx⟩:=TA.1.get (i:=k) (Je hk)
   have IB:aG K H12 p7 us:=aG.of (sm12 _ _ n11.at)
   refine⟨⟨_,_,IB,hx'⟩,?_⟩
   rintro x'' H13 ⟨rfl,hy⟩
   have e:=hy _ IB
   rw[hx'] at e;cases e
   have dx:=dx.same sm12
   obtain⟨g1,g2⟩:=TA.2 _ (Jt hk)
   refine ae.el (g1.fit) _ ?_
   rintro f1 f2 f3
   have Ha:=M5.same sm12
   generalize ds[k]=d at dx g1 g2 f1 f2 f3
   refine gn ?_
   refine cc (t:=gU _ _) fun D1 g1 y1 =>?_
   refine⟨_,rfl,_,_,rfl,dx,f1,f2,f3,gn (g1 _ _ ?_)⟩
   clear g1 y1
   refine cc (t:=gU _ _) fun D1 g1 y1 =>?_
   refine⟨_,rfl,_,rfl,l,_,B,d,rfl,Ha,gB,dx,g2,fun r1 H14 i1 sm14=>gn (g1 _ _ ?_)⟩
   clear g1 y1
   refine⟨_,rfl,.inl ⟨_, "bool",.bool r1,_,rfl,dbl,(kZ K (.bool _)).1,_,rfl,cg ?_⟩⟩
   refine⟨_,rfl,_,rfl,_,rfl,l,_,B,d,rfl,Ha.same sm14,gB,dx.same sm14,g2,fun r2 H15 i2 sm15 =>.inl ⟨rfl,_,rfl,?_⟩⟩
   obtain rfl:r1=r2:=Bool.eq_iff_iff.mpr (i1.trans i2.symm)
   rw[decide_eq_true rfl]
   refine cg ?_
   refine⟨_,rfl,_,_,rfl,(dx.same sm14).same sm15,f1,f2,f3,_,rfl,.inl ⟨rfl,_,rfl,?_⟩⟩
   rw[decide_eq_true rfl]
   exact cg ⟨_,_,_,rfl,sm12.trans (sm14.trans sm15)⟩
  ·intro σ H12 hz_
   refine ae.el hz_ _ ?_
   clear hz_
   rintro y5 y6 y7 rfl sm12
   exact⟨⟨_,aG.of (sm12 _ _ n11.at),by first|lia|omega⟩,_,_,_,_,_,_,_,rfl,((aW.trans cp).trans (dG.trans (tJ.trans (Step.same tJ.bx sm12)))).more (by first|lia|omega)⟩
 ·intro σ H2 hz_
  refine ae.el hz_ _ ?_
  clear hz_
  rintro t2 x2 x3 x4 x5 x6 x7 rfl aW
  exact q H2
end
theorem Dh {K:Ja}{C:Addr}{vs:List V}{H:Hp}{Q:VK}{E:XK}(h:xx K vs H Q E):qm K C vs H Q (fun _ _ _=>False):=by
 obtain⟨l,p,B,ps,rfl,hB,gB,hl,hp,o,q⟩:=h
 refine⟨l,p,B,ps.map (·.1),rfl,hB,gB,by rw[Jb]; (first|lia|omega),aG.of hp,fun oE o' e H' s' =>?_,fun x xs hb =>?_⟩
 ·have:ps=oE:=jx gB o o' (by unfold fU;rw[e])
  rw[<-this];exact q H' s'
 ·have:bad B (ps.map (·.1))=[]:=oK.mpr fun n hn=>by
   obtain⟨y,hy,rfl⟩:=Um.mp hn
   exact Yh (o y hy)
  rw[this] at hb;cases hb
theorem lenZ {α:Type}{P:List α->Prop}(h:P []):∀us:List α,us.length=0->P us:=fun us e=>Uy e▸h
theorem bF {α:Type}{P:List α->Prop}{n:Nat}(h:∀a (us:List α),us.length=n->P (a::us))(us:List α)(e:us.length=n+1):P us:=by
 cases us with|nil=>cases e|cons a us=>exact h a us (Nat.succ.inj e)
theorem all_mk {l:PySem.W.OpenLaw}{w:World}{K:Ja}{h:Heap}{mg:Str->Option Value}{fa f1 f2 f3 f4 f5 f6 f7 f8 f9 L8 M8 KW KG L9 Nf Lh Lg MH MA KD L7 MW MI Kr LG Lf:Addr}(X:K.In h)(G:h.Ns mainGlobals mg)(Qa:mg "law" = some (.ref fa))
  {OY:FuncData}
  {O5:FuncData}
  {QT:FuncData}
  {Pg:FuncData}
  {QQ:FuncData}
  {QM:FuncData}
  {PX:FuncData}
  {O1:FuncData}
  {OL:FuncData}
  {Ly:FuncData}
  {LH:FuncData}
  {KJ:FuncData}
  {Mu:FuncData}
  {MS:FuncData}
  {Kh:FuncData}
  {ML:FuncData}
  {K1:FuncData}
  {Lm:FuncData}
  {Nv:FuncData}
  {MP:FuncData}
  {LQ:FuncData}
  {LR:FuncData}
  {Mn:FuncData}
  {LU:FuncData}
  {Ki:FuncData}
  {LZ Gv:Option Addr} {LO:Array (Option Value)} {K8 GS FG GG DT Hx:Value}
  {dR:Addr}
  {bU:Addr}
  {rZ:Addr} {qD rR:Str} {qy:List Value} {pH:Bool} {qI:List Str} {qZ:List Value} {qC:Bool} {qF:Option Bool} {pJ:Option Addr} {qh qg pK qK qa:Option Value}
  {wZ:Addr} {vA xr:Str} {vw:List Value} {vS:List Str} {vt:List Value} {wa:Bool} {vY:Option Bool} {wz:Option Addr} {vf vN vI vp u7:Option Value}
  {iP:Addr} {uZ vQ:Option Addr} {wg:Array (Option Value)} {u6 wm vG mI vg:Value}
  (a1:Jz K mainGlobals "rest_of" = some (some (.ref f1))) (F1:cX K "rest_of" "rest_of" (top jF) f1 OY)
  (a2:Jz K mainGlobals "is_number" = some (some (.ref f2))) (F2:cX K "is_number" "is_number" (top fX) f2 O5)
  (a3:Jz K mainGlobals "length_first" = some (some (.ref f3))) (F3:cX K "length_first" "length_first" (top dS) f3 QT)
  (a4:Jz K mainGlobals "code_ends" = some (some (.ref f4))) (F4:cX K "code_ends" "code_ends" (top fV) f4 Pg)
  (a5:Jz K mainGlobals "lags_behind" = some (some (.ref f5))) (F5:cX K "lags_behind" "lags_behind" (top eI) f5 QQ)
  (a6:Jz K mainGlobals "written" = some (some (.ref f6))) (F6:cX K "written" "written" (top jq) f6 QM)
  (a7:Jz K mainGlobals "text_of" = some (some (.ref f7))) (F7:cX K "text_of" "text_of" (top jw) f7 PX)
  (a8:Jz K mainGlobals "begins_of" = some (some (.ref f8))) (F8:cX K "begins_of" "begins_of" (top gq) f8 O1)
  (a9:Jz K mainGlobals "shows_ring" = some (some (.ref f9))) (F9:cX K "shows_ring" "shows_ring" (top fK) f9 OL)
  (MC:Jz K mainGlobals "lags_of" = some (some (.ref L8))) (IP:cX K "lags_of" "lags_of" (top jE) L8 Ly)
  (Lz:Jz K mainGlobals "ending_lags" = some (some (.ref M8))) (Gu:cX K "ending_lags" "ending_lags" (top eP) M8 LH)
  (Mz:Jz K mainGlobals "endless_step" = some (some (.ref KW))) (GW:cX K "endless_step" "endless_step" (top dW) KW KJ)
  (KQ:Jz K mainGlobals "ring_from" = some (some (.ref KG))) (Iv:cX K "ring_from" "ring_from" (top gi) KG Mu)
  (Kz:Jz K mainGlobals "never_ring" = some (some (.ref L9))) (Hs:cX K "never_ring" "never_ring" (top fH) L9 MS)
  (Ll:Jz K mainGlobals "_law_begin" = some (some (.ref Nf))) (Gq:cX K "_law_begin" "_law_begin" (top gC) Nf Kh)
  (KL:Jz K mainGlobals "_law_take" = some (some (.ref Lh))) (FY:cX K "_law_take" "_law_take" (top ij) Lh ML)
  (LS:Jz K mainGlobals "_law_names" = some (some (.ref Lg))) (FX:cX K "_law_names" "_law_names" (top gz) Lg K1)
  (Nq:Jz K mainGlobals "_law_free" = some (some (.ref MH))) (IT:cX K "_law_free" "_law_free" (top ip) MH Lm)
  (M4:Jz K mainGlobals "_law_sizes" = some (some (.ref MA))) (Il:cX K "_law_sizes" "_law_sizes" (top gw) MA Nv)
  (Mt:Jz K mainGlobals "_law_book" = some (some (.ref KD))) (Hv:cX K "_law_book" "_law_book" (top iy) KD MP)
  (KR:Jz K mainGlobals "_law_begins" = some (some (.ref L7))) (HM:cX K "_law_begins" "_law_begins" (top fu) L7 LQ)
  (Nr:Jz K mainGlobals "_law_is_ring" = some (some (.ref MW))) (GC:cX K "_law_is_ring" "_law_is_ring" (top eJ) MW LR)
  (LM:Jz K mainGlobals "_law_good" = some (some (.ref MI))) (IA:cX K "_law_good" "_law_good" (top iB) MI Mn)
  (MM:Jz K mainGlobals "_law_bent" = some (some (.ref Kr))) (ID:cX K "_law_bent" "_law_bent" (top ic) Kr LU)
  (K9:Jz K mainGlobals "_law_spoilt" = some (some (.ref LG))) (FL:cX K "_law_spoilt" "_law_spoilt" (top fL) LG Ki)
  (M3:Jz K mainGlobals "law" = some (some (.ref Lf))) (MT:K.lookup Lf=some ⟨K8,LZ,.func (Wl "law" "law" (fA (top iI)) (dI (top iI)) (ay (top iI)) .none GS FG GG Gv DT Hx),LO⟩) (Ld:PySem.W.codeIn K DT "law" = true) (L1:Y4 K (.ref Lf)=true)
  (gA:Jz K mainGlobals "OddError" = some (some (.ref dR)))
  (jm:Jz K mainGlobals "NoName" = some (some (.ref bU)))
  (MU:PySem.W.exmOne K (.ref bU) (.ref bU)=some true)
  (jG:K.lookup dR=some (excClassObj qD rR dR rZ qy ([.type "ValueError",.type "Exception",.type "BaseException",.type "object"]) pH qI qZ qC qF pJ qh qg pK qK qa "ValueError.__new__"))
  (jC:PySem.W.excIn K dR [.type "ValueError",.type "Exception",.type "BaseException",.type "object"] "ValueError.__new__" = true)
  (kb:K.lookup bU=some (excClassObj vA xr bU wZ vw (.ref dR::[.type "ValueError",.type "Exception",.type "BaseException",.type "object"]) true vS vt wa vY wz vf vN vI vp u7 "ValueError.__new__"))
  (kH:Y4 K (.ref bU)=true)
  (ju:PySem.W.findIn K (.ref bU) "__init__" = some (some (.ref iP)))
  (iV:K.lookup iP=some ⟨.type "function",uZ,.func (Wl "__init__" "NoName.__init__" (fA (inClass (top eX) 0)) (dI (inClass (top eX) 0)) (ay (inClass (top eX) 0)) .none u6 wm vG vQ mI vg),wg⟩)
  (lG:PySem.W.codeIn K mI "NoName.__init__" = true)
  (kR:Y4 K (.ref iP)=true)
  (kN:PySem.W.findIn K (.ref bU) "__setattr__" = some (some (.builtin "object.__setattr__")))
  (lI:PySem.W.findIn K (.ref bU) "name" = some none)
  (kE:PySem.W.mroIn K bU (.type "object")=some true)
  (y0:Jz K mainGlobals "sorted" = some none)
  (y1:Jz K mainGlobals "set" = some none)
  (y2:Jz K mainGlobals "dict" = some none)
  (z0:Jz K mainGlobals "len" = some none) (z1:Jz K mainGlobals "range" = some none) (z2:Jz K mainGlobals "max" = some none) (z3:Jz K mainGlobals "min" = some none) (z4:Jz K mainGlobals "sum" = some none) (z5:Jz K mainGlobals "all" = some none) (z6:Jz K mainGlobals "any" = some none) (z7:Jz K mainGlobals "list" = some none) (z8:Jz K mainGlobals "tuple" = some none) (z9:Jz K mainGlobals "int" = some none) (Me:Jz K mainGlobals "str" = some none) (Lk:Jz K mainGlobals "bool" = some none) (LK:Jz K mainGlobals "zip" = some none) (MQ:Jz K mainGlobals "enumerate" = some none) (K5:Jz K mainGlobals "isinstance" = some none) (Na:Jz K mainGlobals "divmod" = some none) :
  ∃fd:FuncData,(∀(s:Shared) (v:Value),BindsTo s fd ⟨[v],[]⟩ [("_law_script",v)])/\∀base:Heap,K.In base->base.Ns mainGlobals mg->bA l.prog w K mg base fQ 8 fa fd ["_law_script"] (ud K):=by
 have e:=Qa.symm.trans (Uj X G M3)
 cases e
 have T:Nm mg:=⟨Ul X G z0,Ul X G z1,Ul X G z2,Ul X G z3,Ul X G z4,Ul X G z5,Ul X G z6,Ul X G z7,Ul X G z8,Ul X G z9,Ul X G Me,Ul X G Lk,Ul X G LK,Ul X G MQ,Ul X G K5,Ul X G Na⟩
 have eZ:=Ul X G y0
 have yz:=Ul X G y1
 have jj:=Ul X G y2
 have zw:rf K bU "name":=zy kb kN lI kE
 have kQ:GO K bU iP:=⟨⟨_,_,_,_,_,_,_,_,_,_,_,_,_,_,_,_,kb,y8 jG jC⟩,ju,⟨_,iV,rfl⟩,kH⟩
 have mO:=bo (st:=inClass (top eX) 0) iV lG kR
 have kG:=mO.binds (ps:=["self", "name"]) fun _ _ _ _ _ _=>bF fun _=>bF fun _=>lenZ rfl
 have Ep:=Uj X G gA
 have fe:=Uj X G jm
 have k1:=F1.kp
 have b1:=F1.binds (ps:=["one", "other"]) fun _ _ _ _ _ _=>bF fun _=>bF fun _=>lenZ rfl
 have k2:=F2.kp
 have b2:=F2.binds (ps:=["thing"]) fun _ _ _ _ _ _=>bF fun _=>lenZ rfl
 have k3:=F3.kp
 have b3:=F3.binds (ps:=["text"]) fun _ _ _ _ _ _=>bF fun _=>lenZ rfl
 have k4:=F4.kp
 have b4:=F4.binds (ps:=["book"]) fun _ _ _ _ _ _=>bF fun _=>lenZ rfl
 have k5:=F5.kp
 have b5:=F5.binds (ps:=["book", "lag"]) fun _ _ _ _ _ _=>bF fun _=>bF fun _=>lenZ rfl
 have k6:=F6.kp
 have b6:=F6.binds (ps:=["book", "names"]) fun _ _ _ _ _ _=>bF fun _=>bF fun _=>lenZ rfl
 have k7:=F7.kp
 have b7:=F7.binds (ps:=["book", "thing"]) fun _ _ _ _ _ _=>bF fun _=>bF fun _=>lenZ rfl
 have k8:=F8.kp
 have b8:=F8.binds (ps:=["book", "names"]) fun _ _ _ _ _ _=>bF fun _=>bF fun _=>lenZ rfl
 have k9:=F9.kp
 have b9:=F9.binds (ps:=["book", "thing"]) fun _ _ _ _ _ _=>bF fun _=>bF fun _=>lenZ rfl
 have Q3:=IP.kp
 have OM:=IP.binds (ps:=["book"]) fun _ _ _ _ _ _=>bF fun _=>lenZ rfl
 have QB:=Gu.kp
 have Qe:=Gu.binds (ps:=["book"]) fun _ _ _ _ _ _=>bF fun _=>lenZ rfl
 have QO:=GW.kp
 have Q0:=GW.binds (ps:=["book", "ending", "stand"]) fun _ _ _ _ _ _=>bF fun _=>bF fun _=>bF fun _=>lenZ rfl
 have Pa:=Iv.kp
 have Qr:=Iv.binds (ps:=["book", "ending", "lag"]) fun _ _ _ _ _ _=>bF fun _=>bF fun _=>bF fun _=>lenZ rfl
 have Po:=Hs.kp
 have Pq:=Hs.binds (ps:=["book"]) fun _ _ _ _ _ _=>bF fun _=>lenZ rfl
 have QH:=Gq.kp
 have Py:=Gq.binds (ps:=["_law_script"]) fun _ _ _ _ _ _=>bF fun _=>lenZ rfl
 have PR:=FY.kp
 have Ph:=FY.binds (ps:=["_law_state", "_law_many"]) fun _ _ _ _ _ _=>bF fun _=>bF fun _=>lenZ rfl
 have PD:=FX.kp
 have Qw:=FX.binds (ps:=["_law_state", "_law_many"]) fun _ _ _ _ _ _=>bF fun _=>bF fun _=>lenZ rfl
 have Qz:=IT.kp
 have OW:=IT.binds (ps:=["_law_state", "_law_many", "_law_most"]) fun _ _ _ _ _ _=>bF fun _=>bF fun _=>bF fun _=>lenZ rfl
 have PH:=Il.kp
 have OG:=Il.binds (ps:=["_law_state"]) fun _ _ _ _ _ _=>bF fun _=>lenZ rfl
 have QK:=Hv.kp
 have Qj:=Hv.binds (ps:=["_law_state"]) fun _ _ _ _ _ _=>bF fun _=>lenZ rfl
 have QS:=HM.kp
 have P9:=HM.binds (ps:=["_law_book_here", "_law_some"]) fun _ _ _ _ _ _=>bF fun _=>bF fun _=>lenZ rfl
 have Pk:=GC.kp
 have O9:=GC.binds (ps:=["_law_book_here", "_law_thing"]) fun _ _ _ _ _ _=>bF fun _=>bF fun _=>lenZ rfl
 have Qu:=IA.kp
 have Pb:=IA.binds (ps:=["_law_state", "_law_book_here"]) fun _ _ _ _ _ _=>bF fun _=>bF fun _=>lenZ rfl
 have Qo:=ID.kp
 have Qf:=ID.binds (ps:=["_law_state", "_law_names_here", "_law_some"]) fun _ _ _ _ _ _=>bF fun _=>bF fun _=>bF fun _=>lenZ rfl
 have OZ:=FL.kp
 have Qb:=FL.binds (ps:=["_law_state", "_law_book_here", "_law_thing"]) fun _ _ _ _ _ _=>bF fun _=>bF fun _=>bF fun _=>lenZ rfl
 have OI:=bo (st:=top iI) MT Ld L1
 refine⟨Wl "law" "law" (fA (top iI)) (dI (top iI)) (ay (top iI)) .none GS FG GG Gv DT Hx,fun s v =>.of_eq rfl,fun base hB hG =>?_⟩
 have lV:=mq (P:=l.prog) (w:=w) (mg:=mg) (base:=base) mO zw
 have Iu:Fn l.prog w K mg base 1 "rest_of" ["one", "other"] (sX):=⟨f1,_,AI F1 T,b1,k1,Uj X G a1⟩
 have M6:Fn l.prog w K mg base 1 "is_number" ["thing"] (xj K):=⟨f2,_,EO F2 T,b2,k2,Uj X G a2⟩
 have Pf:Fn l.prog w K mg base 1 "length_first" ["text"] (Dc):=⟨f3,_,Iy F3 T,b3,k3,Uj X G a3⟩
 have ON:Fn l.prog w K mg base 1 "code_ends" ["book"] (DU K):=⟨f4,_,IJ F4 T,b4,k4,Uj X G a4⟩
 have NJ:Fn l.prog w K mg base 2 "lags_behind" ["book", "lag"] (zC K):=⟨f5,_,Ho F5 T Iu,b5,k5,Uj X G a5⟩
 have NU:Be l.prog w K mg base 3 "written" ["book", "names"] (qm K bU):=⟨f6,_,CV F6 T fe kQ lV kG,b6,k6,Uj X G a6⟩
 have KS:Fn l.prog w K mg base 3 "written" ["book", "names"] (xx K):=Be.calm NU (fun _ _ _ _ h=>Dh h)
 have KH:Fn l.prog w K mg base 4 "text_of" ["book", "thing"] (uJ K):=⟨f7,_,Dz F7 T fe MU NU,b7,k7,Uj X G a7⟩
 have Pw:Fn l.prog w K mg base 1 "begins_of" ["book", "names"] (DS K):=⟨f8,_,GV F8 T,b8,k8,Uj X G a8⟩
 have Pr:Fn l.prog w K mg base 5 "shows_ring" ["book", "thing"] (qv K):=⟨f9,_,IG F9 T KH M6 Pw,b9,k9,Uj X G a9⟩
 have ND:Fn l.prog w K mg base 4 "lags_of" ["book"] (Ap K):=⟨L8,_,FH IP T eZ ON Pf,OM,Q3,Uj X G MC⟩
 have Q1:Fn l.prog w K mg base 5 "ending_lags" ["book"] (E4 K):=⟨M8,_,Gb Gu T ND NJ,Qe,QB,Uj X G Lz⟩
 have OV:Fn l.prog w K mg base 3 "endless_step" ["book", "ending", "stand"] (ET K):=⟨KW,_,Hk GW T NJ,Q0,QO,Uj X G Mz⟩
 have OD:Fn l.prog w K mg base 4 "ring_from" ["book", "ending", "lag"] (AY K):=⟨KG,_,Gz Iv T OV KS,Qr,Pa,Uj X G KQ⟩
 have Px:Fn l.prog w K mg base 6 "never_ring" ["book"] (Fi K):=⟨L9,_,FJ Hs T Q1 ND OD,Pq,Po,Uj X G Kz⟩
 have Dy:Fn l.prog w K mg base 1 "_law_begin" ["_law_script"] (oA K):=⟨Nf,_,zN Gq T,Py,QH,Uj X G Ll⟩
 have G2:Fn l.prog w K mg base 1 "_law_take" ["_law_state", "_law_many"] (sv):=⟨Lh,_,B9 FY T,Ph,PR,Uj X G KL⟩
 have Dn:Fn l.prog w K mg base 1 "_law_take" ["_law_state", "_law_many"] (kL):=Fn.imp G2 (fun _ _ _ _ h=>Aw h)
 have Qq:Fn l.prog w K mg base 2 "_law_names" ["_law_state", "_law_many"] (BN):=⟨Lg,_,BO FX T Dn,Qw,PD,Uj X G LS⟩
 have Gy:Fn l.prog w K mg base 2 "_law_free" ["_law_state", "_law_many", "_law_most"] (Bn):=⟨MH,_,A6 IT T Dn,OW,Qz,Uj X G Nq⟩
 have QL:Fn l.prog w K mg base 2 "_law_sizes" ["_law_state"] (Ee):=⟨MA,_,GI Il T Dn,OG,PH,Uj X G M4⟩
 have OU:Fn l.prog w K mg base 3 "_law_book" ["_law_state"] (uu K):=⟨KD,_,BF Hv T eZ yz Dn QL Gy Qq,Qj,QK,Uj X G Mt⟩
 have K4:Fn l.prog w K mg base 1 "_law_begins" ["_law_book_here", "_law_some"] (uI K):=⟨L7,_,E1 HM T jj,P9,QS,Uj X G KR⟩
 have O4:Fn l.prog w K mg base 2 "_law_is_ring" ["_law_book_here", "_law_thing"] (qv K):=⟨MW,_,Df GC T K4,O9,Pk,Uj X G Nr⟩
 have Ii:Fn l.prog w K mg base 7 "_law_good" ["_law_state", "_law_book_here"] (kf K):=⟨MI,_,E2 IA T Dn Px,Pb,Qu,Uj X G LM⟩
 have Ic:Fn l.prog w K mg base 2 "_law_bent" ["_law_state", "_law_names_here", "_law_some"] (nQ K):=⟨Kr,_,BX ID T Dn,Qf,Qo,Uj X G MM⟩
 have Nb:Fn l.prog w K mg base 3 "_law_spoilt" ["_law_state", "_law_book_here", "_law_thing"] (oU K):=⟨LG,_,DA FL T jj Dn Ic,Qb,OZ,Uj X G K9⟩
 exact C4 OI T Dy OU Ii Nb Pr O4
theorem walk {l:PySem.W.OpenLaw}{q:Program}{loose:List Str}{XP:(Str->Option Value)->Heap->Prop}{YP:World->Heap->Prop}{d:DefRec}{K:Params->Ja}(hn:l.most=some 63)(Ie:d.params.defaults=[])
  (hY:∀(w:World) (h:Heap),YP w h->(K w.params).In h)
  (F:∀(w:World) (mg:Str->Option Value) (fa:Addr) (h:Heap),(K w.params).In h->h.Ns mainGlobals mg->mg d.name=some (.ref fa) ->
   ∃fd:FuncData,(∀(s:Shared) (u:Value),BindsTo s fd ⟨[u],[]⟩ [("_law_script",u)])/\∀base:Heap,(K w.params).In base->base.Ns mainGlobals mg->bA l.prog w (K w.params) mg base fQ 8 fa fd ["_law_script"] (ud (K w.params))) :
  PySem.W.WalkO q loose XP YP l.row.toRowW d [] (fun f vs=>PySem.call f vs):=
 L2.B1 (n:=63) (k:=8) (x := "_law_script") (CX:=fun _=>fQ) (sp:=fun w=>ud (K w.params)) hn (by decide) Ie ⟨rfl,by decide,by decide,rfl⟩ hY F (fun _ _ a ns hl _ hS=>⟨a,ns,rfl,hS,hl,fun _=>rfl⟩) fun _ _ _ _ _ z=>z
end Z
open PySem PySem.W PyProof.Rows L2
set_option maxRecDepth 100000 in
set_option maxHeartbeats 0 in
theorem PySem.Challenge.cw_oddlong_k63_shows_ring_holds : PySem.Challenge.rw_oddlong_k63_shows_ring.Holds := by
  w_on; o_law; k_head; (case hw => w_witness2)
  k_fill
  refine Z.walk (l := PySem.Challenge.rw_oddlong_k63_shows_ring) rfl rfl (fun w h Y => PySem.W.kIn_of Y) ?F
  case F =>
    intro w mg fa h KX G hmg
    refine' Z.all_mk KX G hmg ?a1 ?F1 ?a2 ?F2 ?a3 ?F3 ?a4 ?F4 ?a5 ?F5 ?a6 ?F6 ?a7 ?F7 ?a8 ?F8 ?a9 ?F9 ?MC ?IP ?Lz ?Gu ?Mz ?GW ?KQ ?Iv ?Kz ?Hs ?Ll ?Gq ?KL ?FY ?LS ?FX ?Nq ?IT ?M4 ?Il ?Mt ?Hv ?KR ?HM ?Nr ?GC ?LM ?IA ?MM ?ID ?K9 ?FL ?M3 ?MT ?Ld ?L1 ?gA ?jm ?MU ?jG ?jC ?kb ?kH ?ju ?iV ?lG ?kR ?kN ?lI ?kE ?y0 ?y1 ?y2 ?z0 ?z1 ?z2 ?z3 ?z4 ?z5 ?z6 ?z7 ?z8 ?z9 ?Me ?Lk ?LK ?MQ ?K5 ?Na
    (case a1 => k_is); (case F1 => (refine' bo ?l ?c ?k; (case l => k_is); (case c => k_is); (case k => k_is))); (case a2 => k_is); (case F2 => (refine' bo ?l ?c ?k; (case l => k_is); (case c => k_is); (case k => k_is))); (case a3 => k_is); (case F3 => (refine' bo ?l ?c ?k; (case l => k_is); (case c => k_is); (case k => k_is))); (case a4 => k_is); (case F4 => (refine' bo ?l ?c ?k; (case l => k_is); (case c => k_is); (case k => k_is)))
    (case a5 => k_is); (case F5 => (refine' bo ?l ?c ?k; (case l => k_is); (case c => k_is); (case k => k_is))); (case a6 => k_is); (case F6 => (refine' bo ?l ?c ?k; (case l => k_is); (case c => k_is); (case k => k_is))); (case a7 => k_is); (case F7 => (refine' bo ?l ?c ?k; (case l => k_is); (case c => k_is); (case k => k_is))); (case a8 => k_is); (case F8 => (refine' bo ?l ?c ?k; (case l => k_is); (case c => k_is); (case k => k_is)))
    (case a9 => k_is); (case F9 => (refine' bo ?l ?c ?k; (case l => k_is); (case c => k_is); (case k => k_is))); (case MC => k_is); (case IP => (refine' bo ?l ?c ?k; (case l => k_is); (case c => k_is); (case k => k_is))); (case Lz => k_is); (case Gu => (refine' bo ?l ?c ?k; (case l => k_is); (case c => k_is); (case k => k_is))); (case Mz => k_is); (case GW => (refine' bo ?l ?c ?k; (case l => k_is); (case c => k_is); (case k => k_is)))
    (case KQ => k_is); (case Iv => (refine' bo ?l ?c ?k; (case l => k_is); (case c => k_is); (case k => k_is))); (case Kz => k_is); (case Hs => (refine' bo ?l ?c ?k; (case l => k_is); (case c => k_is); (case k => k_is))); (case Ll => k_is); (case Gq => (refine' bo ?l ?c ?k; (case l => k_is); (case c => k_is); (case k => k_is))); (case KL => k_is); (case FY => (refine' bo ?l ?c ?k; (case l => k_is); (case c => k_is); (case k => k_is)))
    (case LS => k_is); (case FX => (refine' bo ?l ?c ?k; (case l => k_is); (case c => k_is); (case k => k_is))); (case Nq => k_is); (case IT => (refine' bo ?l ?c ?k; (case l => k_is); (case c => k_is); (case k => k_is))); (case M4 => k_is); (case Il => (refine' bo ?l ?c ?k; (case l => k_is); (case c => k_is); (case k => k_is))); (case Mt => k_is); (case Hv => (refine' bo ?l ?c ?k; (case l => k_is); (case c => k_is); (case k => k_is)))
    (case KR => k_is); (case HM => (refine' bo ?l ?c ?k; (case l => k_is); (case c => k_is); (case k => k_is))); (case Nr => k_is); (case GC => (refine' bo ?l ?c ?k; (case l => k_is); (case c => k_is); (case k => k_is))); (case LM => k_is); (case IA => (refine' bo ?l ?c ?k; (case l => k_is); (case c => k_is); (case k => k_is))); (case MM => k_is); (case ID => (refine' bo ?l ?c ?k; (case l => k_is); (case c => k_is); (case k => k_is)))
    (case K9 => k_is); (case FL => (refine' bo ?l ?c ?k; (case l => k_is); (case c => k_is); (case k => k_is))); (case M3 => k_is); (case MT => k_is); (case Ld => k_is); (case L1 => k_is); (case gA => k_is); (case jm => k_is)
    (case MU => exact BI (by k_is) (by k_is) (by k_is) (by k_is)); (case jG => k_is); (case jC => k_exc); (case kb => k_is); (case kH => k_is); (case ju => k_is); (case iV => k_is); (case lG => k_is)
    (case kR => k_is); (case kN => k_is); (case lI => k_is); (case kE => k_is); (case y0 => k_is); (case y1 => k_is); (case y2 => k_is); (case z0 => k_is)
    (case z1 => k_is); (case z2 => k_is); (case z3 => k_is); (case z4 => k_is); (case z5 => k_is); (case z6 => k_is); (case z7 => k_is); (case z8 => k_is)
    (case z9 => k_is); (case Me => k_is); (case Lk => k_is); (case LK => k_is); (case MQ => k_is); (case K5 => k_is); (case Na => k_is)
