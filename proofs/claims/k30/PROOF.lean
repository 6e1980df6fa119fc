import PyProof.Rows.All
import KE.KSortTup
import KE.KDictOf
import KE.KIntText
import KE.KFromBytes
import KE.KTryMore
import KE.KItemsList
import KE.KRevIter
import KE.KMinKey
import ObjForm.ListNI
import Wide.Line
import OpenK.KOwn
import OpenK.KWalk
import OpenK.KLine
import Lean
import PySem.Challenge.RW_oddlong_k30_bare_rows_written
local macro_rules | `(tactic| omega) => `(tactic| lia)
set_option Elab.async false
set_option linter.all false
set_option maxRecDepth 100000
open PySem.W renaming Frag → Ja, nsIn → Jg, mg_of → Jh, mg_none_of → Ua, kitOne → Ub, findIn → Ue, keepIn → Ur, kia_one → U3, emptyDict → Yg, fnOf → Yr, instObj → Yz, codeIn → Y9
open PySem.Heap renaming get?_push_of_some → Jb, lt_size → Jf, get?_push_size → Jj, get?_update_self → J2, get?_update_other → J3, size_push → Ug, SameBut → U1
open List renaming getElem?_eq_getElem → Jc, length_map → Jd, getElem?_map → Jk, mem_cons_of_mem → Jo, size_toArray → Jp, getElem?_eq_some_iff → Jq, mem_cons → Jr, mem_cons_self → Js, length_cons → Jt, replicate → Jv, length_append → Jw, mem_append_right → Jx, map_cons → Jy, mem_of_getElem? → Jz, mem_singleton → J0, map_append → J7, lookup_cons → Ui, not_mem_nil → Uk, getElem_mem → Ul, length_take → Uo, mem_map → Us, length_replicate → Uu, mem_iff_getElem? → Uv, append_nil → Uw, getElem?_append_right → Ux, pairwise_iff_getElem → U0, mem_append → U2, take_succ_eq_append_getElem → U6, getElem?_set_ne → U7, length_zip → U8, getElem?_set_self → U9, getElem?_append_left → Yb, getElem?_zip_eq_some → Yc, range → Yd, filterMap_cons → Ye, nodup_cons → Yi, mem_append_left → Yj, getD_eq_getElem?_getD → Ym, map_map → Yn, replicate_succ → Yo, forIn_cons → Yp, eraseIdx_eq_take_drop_succ → Yq, sum_cons → Ys, pairwise_append → Yu, mem_iff_getElem → Yv, eq_nil_of_length_eq_zero → Yw, getElem?_replicate → Yx, mem_map_of_mem → Y0, map_congr_left → Y1, take_of_length_le → Y3, lookup → Y4, any_cons → Y5, length_set → Y7, append_assoc → Y8, length_drop → Wa, all_eq_true → Wc, forIn_nil → Wd, take_length → We
open Nat renaming le_refl → Je, le_trans → Ji, ne_of_lt → Jl, lt_of_lt_of_le → Jn, lt_irrefl → Uc, ne_of_gt → Uh, lt_of_le_of_lt → Uj, le_add_right → Uq, zero_le → Uz, le_of_lt → Yh, le_succ → Yt, succ_le_succ → Wb
open Bool renaming false_ne_true → Jm, and_eq_true → Ju, false_eq_true → Ut, true_and → U4, eq_false_iff → U5, false_and → Yk, eq_iff_iff → Y6
open Array renaming getElem?_eq_getElem → Ud, length_toList → Um, getElem?_eq_some_iff → Uy, getElem?_eq_none → Yl
open Int renaming toNat_natCast → Yy, toNat_of_nonneg → Y2
namespace L2
set_option genSizeOf false
set_option genInjectivity false
inductive eu {α0 α1:Type}(P: α0 -> α1->Prop):Prop|mk (x0: α0) (x1: α1) (h:P x0 x1):eu P
inductive o7 {α0 α1 α2:Type}(P: α0 -> α1 -> α2->Prop):Prop|mk (x0: α0) (x1: α1) (x2: α2) (h:P x0 x1 x2):o7 P
inductive vo {α0 α1 α2 α3:Type}(P: α0 -> α1 -> α2 -> α3->Prop):Prop|mk (x0: α0) (x1: α1) (x2: α2) (x3: α3) (h:P x0 x1 x2 x3):vo P
inductive yf {α0 α1 α2 α3 α4:Type}(P: α0 -> α1 -> α2 -> α3 -> α4->Prop):Prop|mk (x0: α0) (x1: α1) (x2: α2) (x3: α3) (x4: α4) (h:P x0 x1 x2 x3 x4):yf P
inductive D0 {α0 α1 α2 α3 α4 α5:Type}(P: α0 -> α1 -> α2 -> α3 -> α4 -> α5->Prop):Prop|mk (x0: α0) (x1: α1) (x2: α2) (x3: α3) (x4: α4) (x5: α5) (h:P x0 x1 x2 x3 x4 x5):D0 P
set_option genSizeOf true
set_option genInjectivity true
class ai (P:Prop) (F:outParam (Prop->Prop)):Prop where
 el:P->∀G:Prop,F G->G
theorem ai.go {P:Prop}{F:Prop->Prop}[i:ai P F]{G:Prop}(k:F G):P->G:=fun h=>i.el h G k
instance (priority:=low) elimBase {P:Prop}:ai P (fun G=>P->G):=⟨fun h _ k=>k h⟩
instance Qy {α:Sort u} {P: α->Prop} {F: α->Prop->Prop} [h:∀x,ai (P x) (F x)]:ai (∃x,P x) (fun G=>∀x,F x G):=⟨fun⟨x,hx⟩ G k=>(h x).el hx G (k x)⟩
instance OA {A B:Prop} {F:Prop->Prop} [h:ai B F]:ai (A/\B) (fun G=>A->F G):=⟨fun⟨a,b⟩ G k=>h.el b G (k a)⟩
instance Oy {α0 α1:Type} {P: α0 -> α1->Prop} {F: α0 -> α1->Prop->Prop} [i:∀x0 x1,ai (P x0 x1) (F x0 x1)]:ai (eu P) (fun G=>∀x0 x1,F x0 x1 G):=⟨fun⟨x0,x1,h⟩ G k=>(i x0 x1).el h G (k x0 x1)⟩
instance Oe {α0 α1 α2:Type} {P: α0 -> α1 -> α2->Prop} {F: α0 -> α1 -> α2->Prop->Prop} [i:∀x0 x1 x2,ai (P x0 x1 x2) (F x0 x1 x2)]:ai (o7 P) (fun G=>∀x0 x1 x2,F x0 x1 x2 G):=⟨fun⟨x0,x1,x2,h⟩ G k=>(i x0 x1 x2).el h G (k x0 x1 x2)⟩
instance Ol {α0 α1 α2 α3:Type} {P: α0 -> α1 -> α2 -> α3->Prop} {F: α0 -> α1 -> α2 -> α3->Prop->Prop} [i:∀x0 x1 x2 x3,ai (P x0 x1 x2 x3) (F x0 x1 x2 x3)]:ai (vo P) (fun G=>∀x0 x1 x2 x3,F x0 x1 x2 x3 G):=⟨fun⟨x0,x1,x2,x3,h⟩ G k=>(i x0 x1 x2 x3).el h G (k x0 x1 x2 x3)⟩
instance Oi {α0 α1 α2 α3 α4:Type} {P: α0 -> α1 -> α2 -> α3 -> α4->Prop} {F: α0 -> α1 -> α2 -> α3 -> α4->Prop->Prop} [i:∀x0 x1 x2 x3 x4,ai (P x0 x1 x2 x3 x4) (F x0 x1 x2 x3 x4)]:ai (yf P) (fun G=>∀x0 x1 x2 x3 x4,F x0 x1 x2 x3 x4 G):=⟨fun⟨x0,x1,x2,x3,x4,h⟩ G k=>(i x0 x1 x2 x3 x4).el h G (k x0 x1 x2 x3 x4)⟩
instance OS {α0 α1 α2 α3 α4 α5:Type} {P: α0 -> α1 -> α2 -> α3 -> α4 -> α5->Prop} {F: α0 -> α1 -> α2 -> α3 -> α4 -> α5->Prop->Prop} [i:∀x0 x1 x2 x3 x4 x5,ai (P x0 x1 x2 x3 x4 x5) (F x0 x1 x2 x3 x4 x5)]:ai (D0 P) (fun G=>∀x0 x1 x2 x3 x4 x5,F x0 x1 x2 x3 x4 x5 G):=⟨fun⟨x0,x1,x2,x3,x4,x5,h⟩ G k=>(i x0 x1 x2 x3 x4 x5).el h G (k x0 x1 x2 x3 x4 x5)⟩
open PySem PySem.Spec PyProof.Rows
noncomputable abbrev Key:=Sum Int Str
noncomputable def oo:Key->Value->Bool
 | .inl k,v=>Value.isInt k v
 | .inr x,v=>Value.isStrOf x v
noncomputable def Po (w:World):Key->Int
 | .inl k=>hashInt k
 | .inr x=>hashStr w x
theorem bK:∀{k:Key} {v:Value},oo k v=true->(∃i t,k=Sum.inl i/\v=Value.int i t)∨(∃x t,k=Sum.inr x/\v=Value.str x t)
 | .inl i,v,h=>by
  obtain⟨t,e⟩:=Value.isInt_shape (k:=i) (v:=v) h
  exact .inl ⟨i,t,rfl,e⟩
 | .inr x,v,h=>by
  obtain⟨t,e⟩:=Value.isStrOf_shape (x:=x) (v:=v) h
  exact .inr ⟨x,t,rfl,e⟩
theorem zi (i:Int)(t:Tok):oo (.inl i) (.int i t)=true:=by simp[oo,Value.isInt]
theorem zx (x:Str)(t:Tok):oo (.inr x) (.str x t)=true:=by simp[oo,Value.isStrOf]
theorem Ht (a b:Int):decide ((Sum.inl a:Key)=Sum.inl b)=(a==b):=by
 by_cases e:a=b
 ·subst e;simp
 ·have h:¬(Sum.inl a:Key)=Sum.inl b:=fun q=>e (Sum.inl.inj q)
  rw[decide_eq_false h]
  exact(beq_eq_false_iff_ne.mpr e).symm
theorem Hy (a b:Str):decide ((Sum.inr a:Key)=Sum.inr b)=decide (a=b):=by
 by_cases e:a=b
 ·subst e;simp
 ·have h:¬(Sum.inr a:Key)=Sum.inr b:=fun q=>e (Sum.inr.inj q)
  rw[decide_eq_false h,decide_eq_false e]
theorem KA (a:Int)(b:Str):decide ((Sum.inl a:Key)=Sum.inr b)=false:=decide_eq_false (fun q=>nomatch q)
theorem Ip (a:Str)(b:Int):decide ((Sum.inr a:Key)=Sum.inl b)=false:=decide_eq_false (fun q=>nomatch q)
noncomputable def br (prog:Program)(w:World):PySem.KeyKind prog w Key where
 is:=oo
 hash:=Po w
 inj:=fun v a b ha hb=>by
  rcases bK ha with ⟨i,t,rfl,rfl⟩|⟨x,t,rfl,rfl⟩
  ·rcases bK hb with ⟨j,u,rfl,e⟩|⟨y,u,rfl,e⟩
   ·injection e with e1 _;rw[e1]
   ·exact nomatch e
  ·rcases bK hb with ⟨j,u,rfl,e⟩|⟨y,u,rfl,e⟩
   ·exact nomatch e
   ·injection e with e1 _;rw[e1]
 byValue:=fun k v h=>by
  rcases bK h with ⟨i,t,rfl,rfl⟩|⟨x,t,rfl,rfl⟩<;>rfl
 pyHash:=fun hv h=>by
  rcases bK hv with ⟨i,t,rfl,rfl⟩|⟨x,t,rfl,rfl⟩
  ·exact wpAny_pyHash_int h
  ·exact wpAny_pyHash_str h
 eqBool:=fun hu hv h=>by
  rcases bK hu with ⟨i,t,rfl,rfl⟩|⟨x,t,rfl,rfl⟩
  ·rcases bK hv with ⟨j,u,rfl,rfl⟩|⟨y,u,rfl,rfl⟩
   ·rw[Ht] at h;exact wpAny_eqBool_int h
   ·rw[KA] at h;exact SeqAt.EqAt.int_str i t y u _ _ _ _ h
  ·rcases bK hv with ⟨j,u,rfl,rfl⟩|⟨y,u,rfl,rfl⟩
   ·rw[Ip] at h;exact SeqAt.EqAt.str_int x t j u _ _ _ _ h
   ·rw[Hy] at h;exact wpAny_eqBool_str h
 «strs»:=fun k x t v h=>by
  rcases bK h with ⟨i,u,rfl,e⟩|⟨y,u,rfl,e⟩
  ·exact nomatch e
  ·injection e with e1 _
   subst e1
   cases v<;>rfl
theorem xf (prog:Program)(w:World)(k:Key)(v:Value):(br prog w).is k v=oo k v:=rfl
theorem uL (prog:Program)(w:World)(i:Int)(t:Tok):(br prog w).is (.inl i) (.int i t)=true:=zi i t
theorem uX (prog:Program)(w:World)(x:Str)(t:Tok):(br prog w).is (.inr x) (.str x t)=true:=zx x t
inductive V where
 | non|bl (b:Bool)|int (i:Int)|str (x:Str)|byt (b:Array UInt8)|flt (b:UInt64)|ref (a:Addr)|ty (n:String)
 deriving DecidableEq
def RelV:V->Value->Prop
 | .non,u=>u=Value.none
 | .bl b,u=>u=Value.bool b
 | .int i,u=>∃t,u=Value.int i t
 | .str x,u=>∃t,u=Value.str x t
 | .byt b,u=>∃t,u=Value.bytes b t
 | .flt b,u=>∃t,u=Value.float b t
 | .ref a,u=>u=Value.ref a
 | .ty n,u=>u=Value.type n
abbrev Vals:List V->List Value->Prop:=Paired RelV
theorem Vals.length {xs:List V}{us:List Value}(r:Vals xs us):xs.length=us.length:=Paired.length r
theorem Vals.get:∀{xs:List V} {us:List Value} {i:Nat} {x:V},Vals xs us->xs[i]? = some x->∃u,us[i]? = some u/\RelV x u
 | _,_,_,_,.nil,e=>by simp at e
 | _,_,0,_,.cons r _,e=>by simp at e;subst e;exact⟨_,rfl,r⟩
 | _,_,i+1,x,.cons _ t,e=>by
  obtain⟨u,h1,h2⟩:=Vals.get (i:=i) (x:=x) t (by simpa using e)
  exact⟨u,by simpa using h1,h2⟩
theorem Vals.set {x:V}{u:Value}(r:RelV x u):∀{xs:List V} {us:List Value} (i:Nat),Vals xs us->Vals (xs.set i x) (us.set i u)
 | _,_,_,.nil =>.nil
 | _,_,0,.cons _ t =>.cons r t
 | _,_,i+1,.cons q t =>.cons q (Vals.set r i t)
theorem Vals.append {xs ys:List V}{us ws:List Value}(h:Vals xs us)(s:Vals ys ws):Vals (xs++ys) (us++ws):=by
 induction h with
 | nil=>exact s
 | cons r t ih=>exact .cons r ih
theorem Vals.take:∀{xs:List V} {us:List Value} (n:Nat),Vals xs us->Vals (xs.take n) (us.take n)
 | _,_,0,_ =>.nil
 | _,_,_+1,.nil =>.nil
 | _,_,n+1,.cons r t =>.cons r (Vals.take n t)
theorem Vals.drop:∀{xs:List V} {us:List Value} (n:Nat),Vals xs us->Vals (xs.drop n) (us.drop n)
 | _,_,0,r=>r
 | _,_,_+1,.nil =>.nil
 | _,_,n+1,.cons _ t=>Vals.drop n t
def j6:Option V->Option Value->Prop
 | some v,some u=>RelV v u
 | none,none=>True
 | _,_=>False
def KV {κ:Type}:List (κ×V)->List (κ×Value)->Prop:=Paired fun(p: κ×V) (q: κ×Value)=>p.1=q.1/\RelV p.2 q.2
noncomputable def kV:Key->V
 | .inl i =>.int i
 | .inr x =>.str x
inductive HO where
 | lst (xs:List V)
 | tup (xs:List V)
 | dK (kvs:List (Key×V))|dT (kvs:List (List Key×V))
 | set (S:Int->Bool) (n:Nat)
 | ins (C dx:Addr) (fs:List (Str×V))
 | own (x:Addr)
 | xd (fs:List (Str×V))
 | met (f x:Addr)
 | rng (lo hi:Int)
 | frz (o:Obj) (u:HO)
 | tbl (ps:Array Value)
 | ext (φ:Heap->Prop)
noncomputable abbrev Hp:=Addr->Option HO
noncomputable def upd (H:Hp)(a:Addr)(o:HO):Hp:=fun b=>if b=a then some o else H b
theorem ay {H:Hp}{a:Addr}{o:HO}:upd H a o a=some o:=by unfold upd;rw[if_pos rfl]
theorem aj {H:Hp}{a b:Addr}{o:HO}(h:b≠a):upd H a o b=H b:=by unfold upd;rw[if_neg h]
theorem Hg {H:Hp}{a b:Addr}{o u:HO}(h:H a=some o)(h':H b=some u)(d:o≠u):a≠b:=by
 intro e;subst e;rw[h] at h';exact d (Option.some.inj h')
theorem aw {H:Hp}{a b:Addr}{o:HO}(h:H a=some o)(h':H b=none):a≠b:=by
 intro e;subst e;rw[h] at h';cases h'
def rT (h:Heap)(a:Addr)(items:Array Value):Prop:=∃o,h.get? a=some o/\o.dict=none/\o.cls = .type "tuple" /\ ∃n,o.data = .seq items n
theorem rT.is {h:Heap}{a:Addr}{items:Array Value}:rT h a items->IsTup h a items:=fun⟨o,e,_,r⟩=>⟨o,e,r⟩
theorem rT.new (h:Heap)(items:Array Value):rT (h.push { cls := .type "tuple",data := .seq items }) h.objs.size items:=⟨_,Jj _ rfl,rfl,rfl,_,rfl⟩
section
variable (P:Program)(w:World)
def bg (H:Hp)(h:Heap)(a:Addr):HO->Prop
 | .lst xs=>xs.length<=sizeLine/\eu fun(aq:List Value) (n:Nat)=>Vals xs aq/\h.get? a=some { cls := .type "list",data := .seq aq.toArray n }
 | .tup xs=>xs.length<=sizeLine/\∃aq:List Value,Vals xs aq/\rT h a aq.toArray
 | .dK kvs=>kvs.length<=sizeLine/\(a==sysModules)=false/\∃vs,KV kvs vs/\h.DictOf (br P w) a vs
 | .dT kvs=>kvs.length<=sizeLine/\(a==sysModules)=false/\∃xs:List (List Key×Addr×Value),
   Paired (fun(p:List Key×V) (q:List Key×Addr×Value)=>p.1=q.1/\H q.2.1=some (.tup (p.1.map kV))/\RelV p.2 q.2.2) kvs xs /\
   o7 fun o es ep=>h.get? a=some o/\o.ExactDict/\o.data = .dict es ep/\es.toList=xs.map (entryOfKey (tupleKind (br P w)))/\(xs.map (·.1)).Nodup
 | .set S n=>h.SetOf (intKind P w) a S n
 | .ins C dx fs=>H dx=some (.own a)/\fs.length<=1000/\dx≠a/\h.get? a=some (Yz C dx) /\
   ∃mA,h.Ns1 dx mA/\(∀f,j6 (fs.lookup f) (mA f))/\PySem.Within mA (fs.map (·.1))
 | .own _=>∃o,h.get? a=some o
 | .xd fs=>∃mA,h.Ns1 a mA/\∀f,j6 (fs.lookup f) (mA f)
 | .rng lo hi=>o7 fun t u v=>h.get? a=some { cls := .type "range",data := .fields #[.int lo t,.int hi u,.int 1 v] }
 | .frz o u=>h.get? a=some o/\bg H h a u
 | .tbl ps=>h.get? a=some { cls := .none,data := .fields ps }
 | .met f x=>h.get? a=some (PySem.W.methodObj (.ref f) (.ref x))
 | .ext φ => φ h/\(∃o,h.get? a=some o)/\∀h1 h2:Heap, φ h1->(∀o,h1.get? a=some o->h2.get? a=some o) -> φ h2
def gO (H:Hp)(h:Heap):Prop:=∀a o,H a=some o->bg P w H h a o
end
section
variable {P:Program}{w:World}{H H':Hp}{h h':Heap}{a:Addr}{o:HO}
theorem bg.lt (x:bg P w H h a o):a<h.objs.size:=by
 cases o with
 | lst xs=>obtain⟨_,_,_,_,e⟩:=x;exact Jf e
 | tup xs=>obtain⟨_,_,_,p⟩:=x;exact p.is.lt
 | dK kvs=>obtain⟨_,_,_,_,o,_,_,e,_⟩:=x;exact Jf e
 | dT kvs=>obtain⟨_,_,_,_,o,_,_,e,_⟩:=x;exact Jf e
 | set S n=>obtain⟨o,_,_,_,e,_⟩:=x;exact Jf e
 | ins C dx fs=>obtain⟨_,_,_,e,_⟩:=x;exact Jf e
 | own y=>obtain⟨_,e⟩:=x;exact Jf e
 | xd fs=>obtain⟨_,⟨_,_,_,e,_⟩,_⟩:=x;exact Jf e
 | rng lo hi=>obtain⟨_,_,_,e⟩:=x;exact Jf e
 | frz ob u=>obtain⟨e,_⟩:=x;exact Jf e
 | tbl ps=>exact Jf (show h.get? a=some _ from x)
 | met f y=>exact Jf (show h.get? a=some _ from x)
 | ext φ=>obtain⟨_,⟨_,e⟩,_⟩:=x;exact Jf e
theorem Paired.Mt {α β:Type}{F G: α -> β->Prop}{l₁:List α}{l₂:List β}(h:Paired F l₁ l₂)(f:∀a b,F a b->G a b):Paired G l₁ l₂:=by
 induction h with
 | nil=>exact .nil
 | cons r t ih=>exact .cons (f _ _ r) ih
theorem bg.fu (x:bg P w H h a o)(k:∀b u,(b=a∨H b=some (.own a))->h.get? b=some u->h'.get? b=some u)
  (ho:∀b,H b=some (.own a)->H' b=some (.own a)) (ht:∀b xs,H b=some (.tup xs)->H' b=some (.tup xs)):bg P w H' h' a o:=by
 induction o with
 | lst xs=>obtain⟨z,aq,n,r,e⟩:=x;exact⟨z,aq,n,r,k _ _ (.inl rfl) e⟩
 | tup xs=>obtain⟨z,aq,r,ob,e,c⟩:=x;exact⟨z,aq,r,ob,k _ _ (.inl rfl) e,c⟩
 | dK kvs=>obtain⟨z,y,vs,r,ob,es,ep,e,c⟩:=x;exact⟨z,y,vs,r,ob,es,ep,k _ _ (.inl rfl) e,c⟩
 | dT kvs=>
  obtain⟨z,y,xs,r,ob,es,ep,e,c⟩:=x
  exact⟨z,y,xs,Paired.Mt r fun p q z=>⟨z.1,ht _ _ z.2.1,z.2.2⟩,ob,es,ep,k _ _ (.inl rfl) e,c⟩
 | set S n=>obtain⟨ob,es,ep,t,e,c⟩:=x;exact⟨ob,es,ep,t,k _ _ (.inl rfl) e,c⟩
 | ins C dx fs=>
  obtain⟨d,z,ne,e,mA,⟨od,es,ep,e2,c⟩,r⟩:=x
  exact⟨ho _ d,z,ne,k _ _ (.inl rfl) e,mA,⟨od,es,ep,k _ _ (.inr d) e2,c⟩,r⟩
 | own y=>obtain⟨ob,e⟩:=x;exact⟨ob,k _ _ (.inl rfl) e⟩
 | xd fs=>obtain⟨mA,⟨od,es,ep,e,c⟩,r⟩:=x;exact⟨mA,⟨od,es,ep,k _ _ (.inl rfl) e,c⟩,r⟩
 | rng lo hi=>obtain⟨t,u,v,e⟩:=x;exact⟨t,u,v,k _ _ (.inl rfl) e⟩
 | frz ob u ih=>obtain⟨e,q⟩:=x;exact⟨k _ _ (.inl rfl) e,ih q⟩
 | tbl ps=>
  have e:h.get? a=some { cls := .none,data := .fields ps }:=x
  show h'.get? a=some { cls := .none,data := .fields ps }
  exact k a _ (.inl rfl) e
 | met f y=>
  have e:h.get? a=some (PySem.W.methodObj (.ref f) (.ref y)):=x
  show h'.get? a=some (PySem.W.methodObj (.ref f) (.ref y))
  exact k a _ (.inl rfl) e
 | ext φ=>obtain⟨p,⟨o,e⟩,st⟩:=x;exact⟨st _ _ p fun o q=>k _ _ (.inl rfl) q,⟨o,k _ _ (.inl rfl) e⟩,st⟩
theorem gO.lt (x:gO P w H h)(e:H a=some o):a<h.objs.size:=(x a o e).lt
theorem gO.fresh (x:gO P w H h)(e:h.objs.size<=a):H a=none:=by
 cases q:H a with
 | none=>rfl
 | some u=>exact absurd (Jn (x.lt q) e) (Uc _)
theorem gO.kept (x:gO P w H h)(k:∀b u,h.get? b=some u->h'.get? b=some u):gO P w H h':=fun a o e=>
 (x a o e).fu (fun b u _ q=>k b u q) (fun _ q=>q) fun _ _ q=>q
theorem gO.laid (x:gO P w H h)(k:∀b u,h.get? b=some u->h'.get? b=some u)(hp:h.objs.size<=a)(new:bg P w (upd H a o) h' a o):gO P w (upd H a o) h':=fun b u e=>by
 have hn:=x.fresh hp
 by_cases hb:b=a
 ·subst hb;rw[ay] at e;cases e;exact new
 ·rw[aj hb] at e
  exact(x b u e).fu (fun c v _ q=>k c v q) (fun c q=>by rw[aj (aw q hn)];exact q) fun c xs q=>by rw[aj (aw q hn)];exact q
end
def Rd (H:Hp)(a:Addr)(u:HO):Prop:=H a=some u∨∃o,H a=some (.frz o u)
theorem Rd.ok {P:Program}{w:World}{H:Hp}{h:Heap}{a:Addr}{u:HO}(r:Rd H a u)(x:gO P w H h):bg P w H h a u:=by
 rcases r with r|⟨o,r⟩
 ·exact x a u r
 ·obtain⟨_,q⟩:=x a _ r
  exact q
def LO:Option HO->Prop
 | some (.lst _)=>True
 | some (.dK _)=>True
 | some (.dT _)=>True
 | some (.set _ _)=>True
 | some (.ins _ _ _)=>True
 | some (.ext _)=>True
 | _=>False
section
variable {P:Program}{w:World}{H:Hp}{h h':Heap}{x e:Addr}{o':HO}
theorem gO.write (ok:gO P w H h)(mu:LO (H x))(he:e=x∨H e=some (.own x))(k:∀b u,b≠e->h.get? b=some u->h'.get? b=some u)(KQ:∃u,h'.get? e=some u)
  (new:bg P w (upd H x o') h' x o'):gO P w (upd H x o') h':=fun b u q=>by
 have N4:∀c y,H c=some (.own y)->c≠x:=fun c y r z=>by subst z;rw[r] at mu;exact mu
 have RU:∀c xs,H c=some (.tup xs)->c≠x:=fun c xs r z=>by subst z;rw[r] at mu;exact mu
 by_cases hb:b=x
 ·subst hb;rw[ay] at q;cases q;exact new
 ·rw[aj hb] at q
  by_cases hbe:b=e
  ·have q':H b=some (.own x):=by
    rcases he with z|z
    ·exact absurd (hbe.trans z) hb
    ·rw[hbe];exact z
   rw[q] at q';cases q'
   obtain⟨v,hv⟩:=KQ
   exact⟨v,by rw[hbe];exact hv⟩
  ·refine(ok b u q).fu (fun c v hc r=>k c v ?_ r) (fun c r=>by rw[aj (N4 c b r)];exact r) fun c xs r=>by rw[aj (RU c xs r)];exact r
   rcases hc with rfl|hc
   ·exact hbe
   ·rintro rfl
    rcases he with z|z
    ·exact N4 c b hc z
    ·rw[hc] at z;cases z;exact hb rfl
end
structure Un (fs ex:List Addr)(H H':Hp)(h h':Heap):Prop where
 keep:∀b o,h.get? b=some o->H b=none->b∉fs->b∉ex->h'.get? b=some o
 slot:∀b o,h.get? b=some o->H b=none->b∈fs->b∉ex->∃sl,h'.get? b=some { o with slots:=sl }
 free:∀b o,h.get? b=some o->H b=none->b∉ex->H' b=none
 there:∀b o,h.get? b=some o->b∉ex->∃o',h'.get? b=some o'
 iq:∀b xs,H b=some (.tup xs)->H' b=some (.tup xs)
 gV:∀b o u,H b=some (.frz o u)->H' b=some (.frz o u)
 iY:∀b ps,H b=some (.tbl ps)->∃more,H' b=some (.tbl (ps++more))
section
variable {fs V5 ex Xj:List Addr}{H H1 H2:Hp}{h h1 h2 h':Heap}{a x e:Addr}{o:HO}
theorem Un.any (u:Un fs ex H H1 h h1){b:Addr}{ob:Obj}(q:h.get? b=some ob)(n:H b=none)(hx:b∉ex):∃sl,h1.get? b=some { ob with slots:=sl }:=by
 by_cases hb:b∈fs
 ·exact u.slot b ob q n hb hx
 ·exact⟨ob.slots,u.keep b ob q n hb hx⟩
theorem Un.kept (k:∀b u,h.get? b=some u->h'.get? b=some u):Un fs ex H H h h':=
 ⟨fun b ob q _ _ _=>k b ob q,fun b ob q _ _ _=>⟨ob.slots,k b ob q⟩,fun _ _ _ n _=>n,fun b ob q _=>⟨ob,k b ob q⟩,fun _ _ q=>q,fun _ _ _ q=>q,fun _ ps q=>⟨#[],by rw[q];simp⟩⟩
theorem Un.refl:Un fs ex H H h h:=Un.kept fun _ _ q=>q
theorem Un.laid (k:∀b u,h.get? b=some u->h'.get? b=some u)(hp:h.objs.size<=a)(hn:H a=none):Un fs ex H (upd H a o) h h' where
 keep:=fun b u q _ _ _=>k b u q
 slot:=fun b u q _ _ _=>⟨u.slots,k b u q⟩
 free:=fun b u q n _=>by rw[aj (Jl (Jn (Jf q) hp))];exact n
 there:=fun b u q _=>⟨u,k b u q⟩
 iq:=fun b xs q=>by rw[aj (aw q hn)];exact q
 gV:=fun b u xs q=>by rw[aj (aw q hn)];exact q
 iY:=fun b ps q=>⟨#[],by rw[aj (aw q hn),q];simp⟩
theorem Un.write (mu:LO (H x))(he:e=x∨H e=some (.own x))(k:∀b u,b≠e->h.get? b=some u->h'.get? b=some u)(KQ:∃u,h'.get? e=some u):Un fs ex H (upd H x o) h h':=by
 have hx:∀b,H b=none->b≠x:=fun b n z=>by subst z;rw[n] at mu;exact mu
 have hb:∀b,H b=none->b≠e:=fun b n z=>by
  subst z
  rcases he with r|r
  ·exact hx b n r
  ·rw[n] at r;cases r
 have hm:∀b u,H b=some u->¬LO (some u)->b≠x:=fun b u q nm z=>by subst z;rw[q] at mu;exact nm mu
 refine⟨fun b u q n _ _=>k b u (hb b n) q,fun b u q n _ _=>⟨u.slots,k b u (hb b n) q⟩,fun b u q n _=>by rw[aj (hx b n)];exact n,fun b u q _ =>?_,
  fun b xs q=>by rw[aj (hm b _ q fun z=>z)];exact q,fun b u xs q=>by rw[aj (hm b _ q fun z=>z)];exact q,fun b ps q=>⟨#[],by rw[aj (hm b _ q fun z=>z),q];simp⟩⟩
 by_cases hbe:b=e
 ·subst hbe;exact KQ
 ·exact⟨u,k b u hbe q⟩
end
noncomputable def Kj (h:Heap)(H:Hp):List Addr:=(Yd h.objs.size).filter fun a=>(H a).isSome
noncomputable def rM (h:Heap)(H:Hp):Heap:=PySem.W.hideAll h (Kj h H)
theorem Ae (h:Heap)(H:Hp):(rM h H).objs.size=h.objs.size:=PySem.W.hideAll_size _ _
theorem BU {h:Heap}{H:Hp}{b:Addr}{o:Obj}(e:h.get? b=some o)(n:H b=none):(rM h H).get? b=some o:=
 PySem.W.hideAll_get _ e fun hm=>by
  have q:(H b).isSome=true:=(List.mem_filter.mp hm).2
  rw[n] at q;simp at q
theorem Fm {h:Heap}{H:Hp}{b:Addr}{o:Obj}(e:(rM h H).get? b=some o):h.get? b=some o/\H b=none:=by
 have e':h.get? b=some o:=PySem.W.of_hideAll (Kj h H) e
 refine⟨e',?_⟩
 cases q:H b with
 | none=>rfl
 | some x=>
  have hm:b∈Kj h H:=List.mem_filter.mpr ⟨List.mem_range.mpr (Jf e'),by simp[q]⟩
  have z:(rM h H).get? b=none:=PySem.W.hideAll_none (Kj h H) hm
  rw[z] at e;cases e
structure Mod (K:Ja)(mg:Str->Option Value)(base:Heap):Prop where
 xF:K.In base
 glob:base.Ns mainGlobals mg
 blt:∃mb,base.Ns builtinsNs mb/\∀x:Str,x ≠ "__name__" -> mb x=bootBuiltins x
 nolimit:base.NoLimit
structure Cx where
 prog:Program
 w:World
 K:Ja
 mg:Str->Option Value
 base:Heap
 A:Around
 N:List Str
 s₀:Shared
 H₀:Hp
 env:Env
 outer:List Env
 stack:List Env
 ex:List Addr
 fn:Str->Bool
 calm:Bool
 pn:List (Addr×Obj)
 xe:Value->Shared->Prop
noncomputable def eW (l:List Env):List Addr:=l.filterMap (·.frame)
noncomputable abbrev Cx.fs (X:Cx):List Addr:=eW X.outer
def KZ (sc:Scope)(x:Str):Prop:=sc.names.lookup x=some .local∨sc.names.lookup x=some .cell∨sc.names.lookup x=some .free
def Loc (sc:Scope)(x:Str):Prop:=sc.names.lookup x=some .local∨sc.names.lookup x=some .cell
def Look (env:Env)(h:Heap)(m:Str->Option Value)(x:Str)(u:Value):Prop:=
 (env.kindOf x=some .local/\m x=some u)∨((env.kindOf x=some .cell∨env.kindOf x=some .free)/\∃c,env.cells.lookup x=some c/\h.IsCell c (some u))
structure Cx.Ok (X:Cx):Prop where
 mod:Mod X.K X.mg X.base
 kind:X.env.scope.kind = .function
 glob:X.env.globals=mainGlobals
 blt:X.env.builtins=builtinsNs
 above:X.s₀.heap.objs.size<=X.env.locals
 inj:∀x y c,X.env.cells.lookup x=some c->X.env.cells.lookup y=some c->x=y
 has:∀x,(X.env.kindOf x=some .cell∨X.env.kindOf x=some .free)->∃c,X.env.cells.lookup x=some c
 cab:∀x c,X.fn x=true->X.env.cells.lookup x=some c->X.s₀.heap.objs.size<=c
 hd:X.calm=true->X.A.handled=none
 frames:X.A.frames=some X.stack
 stk:X.stack=X.outer∨(X.stack=X.env::X.outer/\X.env.frame=some X.env.locals)
 exf:∀b∈X.ex,b≠X.env.locals/\∀x c,X.env.cells.lookup x=some c->c≠b
 bs:∀b o,X.base.get? b=some o->X.s₀.heap.get? b=some o/\X.H₀ b=none
 bsz:X.base.objs.size<=X.s₀.heap.objs.size
 noex:∀b o,X.base.get? b=some o->b∉X.ex
 exfs:∀b∈X.ex,b∉X.fs
 i7:X.s₀.heap.FunFrames X.base X.outer
 frf:∀b∈X.fs,X.H₀ b=none
structure Inv (X:Cx)(pins:List (Addr×Obj))(σ:List (Option V))(H:Hp)(s:Shared):Prop where
 ok:X.Ok
 os:s.os=X.s₀.os
 bare:AllBare s.gens
 base:Un X.fs X.ex X.H₀ H X.s₀.heap s.heap
 loc:∃m,s.heap.Ns X.env.locals m/\∀(i:Nat) (x:Str) (v:V),X.N[i]? = some x -> σ[i]? = some (some v)->KZ X.env.scope x->∃u,RelV v u/\Look X.env s.heap m x u
 cell:∀x c,X.env.cells.lookup x=some c->∃v,s.heap.IsCell c v
 free:H X.env.locals=none
 freeC:∀x c,X.env.cells.lookup x=some c->H c=none
 pin:∀p∈X.pn++pins,s.heap.get? p.1=some p.2/\H p.1=none/\p.1≠X.env.locals/\p.1∉X.fs/\∀v,p.2.data ≠ .cell v
 bw:gO X.prog X.w H s.heap
 len: σ.length=X.N.length
section
variable {X:Cx}{pins:List (Addr×Obj)}{σ:List (Option V)}{H H':Hp}{s:Shared}{h':Heap}
theorem Cx.Ok.So (ok:X.Ok){b:Addr}{o:Obj}(e:X.base.get? b=some o):b∉X.fs:=fun hb=>by
 have:=(ok.i7.mem hb).1
 rw[e] at this;cases this
theorem Inv.bs (I:Inv X pins σ H s):∀b o,X.base.get? b=some o->s.heap.get? b=some o/\H b=none:=fun b o e=>
 ⟨I.base.keep b o (I.ok.bs b o e).1 (I.ok.bs b o e).2 (I.ok.So e) (I.ok.noex b o e),I.base.free b o (I.ok.bs b o e).1 (I.ok.bs b o e).2 (I.ok.noex b o e)⟩
theorem Inv.bk (I:Inv X pins σ H s):∀b o,X.base.get? b=some o->s.heap.get? b=some o:=fun b o e=>(I.bs b o e).1
theorem Inv.mod (I:Inv X pins σ H s):Mod X.K X.mg X.base:=I.ok.mod
theorem Inv.gT (I:Inv X pins σ H s):X.K.In s.heap:=I.ok.mod.xF.keeps I.bk
theorem Inv.lt (I:Inv X pins σ H s):X.env.locals<s.heap.objs.size:=let ⟨_,hn,_⟩:=I.loc;hn.lt
theorem Inv.sz (I:Inv X pins σ H s):X.s₀.heap.objs.size<=s.heap.objs.size:=Ji I.ok.above (Yh I.lt)
theorem Inv.LV (I:Inv X pins σ H s){a:Addr}(h:s.heap.objs.size<=a):a∉X.fs:=fun hb=>by
 obtain⟨_,o,ho,_⟩:=I.ok.i7.mem hb
 exact absurd (Jn (Jf ho) (Ji I.sz h)) (Uc _)
theorem Inv.E6 (I:Inv X pins σ H s):∀x c,X.env.cells.lookup x=some c->c≠X.env.locals:=fun x c e z=>by
 obtain⟨v,o,ho,hd⟩:=I.cell x c e
 obtain⟨m,⟨o',es,ep,ya,Ff,_⟩,_⟩:=I.loc
 rw[z,ya] at ho;cases ho;rw[Ff] at hd;cases hd
theorem Inv.i7 (I:Inv X pins σ H s):s.heap.FunFrames X.base X.outer:=by
 have all:∀(l:List Env),(∀b∈eW l,b∈X.fs)->X.s₀.heap.FunFrames X.base l->s.heap.FunFrames X.base l:=by
  intro l
  induction l with
  | nil=>intro _ _;trivial
  | cons env r ih=>
   intro hs hl
   obtain⟨hk,⟨L,o,hf,hn,ho,hd⟩,hr⟩:=hl
   have hL:L∈X.fs:=hs L (by unfold eW;rw[Ye,hf];exact Js)
   obtain⟨sl,e⟩:=I.base.slot L o ho (I.ok.frf L hL) hL fun z=>I.ok.exfs L z hL
   exact⟨hk,⟨L,_,hf,hn,e,hd⟩,ih (fun b hb=>hs b (by unfold eW;rw[Ye,hf];exact Jo _ hb)) hr⟩
 exact all X.outer (fun _ hb=>hb) I.ok.i7
theorem Inv.stack (I:Inv X pins σ H s):s.heap.FunFrames X.base X.stack:=by
 rcases I.ok.stk with e|⟨e,hf⟩
 ·rw[e];exact I.i7
 ·rw[e]
  obtain⟨m,hn,_⟩:=I.loc
  refine .cons (by rw[I.ok.kind];decide) hf hn ?_ I.i7
  exact Heap.get?_none_of_le (Ji I.ok.bsz I.ok.above)
theorem Inv.sW (I:Inv X pins σ H s):∀b∈eW X.stack,b∈X.env.locals::X.fs:=fun b hb=>by
 rcases I.ok.stk with e|⟨e,hf⟩
 ·rw[e] at hb;exact Jo _ hb
 ·rw[e] at hb
  unfold eW at hb
  rw[Ye,hf] at hb
  exact hb
theorem Inv.qQ (I:Inv X pins σ H s):∀b∈eW X.stack,H b=none:=fun b hb=>by
 rcases Jr.mp (I.sW b hb) with e|hb
 ·rw[e];exact I.free
 ·obtain⟨_,o,ho,_⟩:=I.ok.i7.mem hb
  exact I.base.free b o ho (I.ok.frf b hb) fun z=>I.ok.exfs b z hb
theorem Inv.step {g':Array GenState}{t':Nat}{d':Drawn}{ch:List Addr}(I:Inv X pins σ H s)
  (yw:∀b∈ch,(b∈X.ex∨X.s₀.heap.objs.size<=b)/\b≠X.env.locals/\(∀x c,X.env.cells.lookup x=some c->c≠b)/\∀p∈X.pn++pins,p.1≠b)
  (keep:∀b o,b≠X.env.locals->b∉X.fs->b∉ch->s.heap.get? b=some o->H b=none->h'.get? b=some o)
  (slot:∀b o,b≠X.env.locals->b∈X.fs->b∉ch->s.heap.get? b=some o->H b=none->∃sl,h'.get? b=some { o with slots:=sl }) (free:∀b o,b∉ch->s.heap.get? b=some o->H b=none->H' b=none)
  (there:∀b o,b∉ch->s.heap.get? b=some o->∃o',h'.get? b=some o')
  (iq:∀b xs,H b=some (.tup xs)->H' b=some (.tup xs)) (gV:∀b o u,H b=some (.frz o u)->H' b=some (.frz o u)) (iY:∀b ps,H b=some (.tbl ps)->∃more,H' b=some (.tbl (ps++more)))
  (ns:∀m,s.heap.Ns X.env.locals m->h'.Ns X.env.locals m) (bw:gO X.prog X.w H' h') (hg:AllBare g') :
  Inv X pins σ H' { s with heap:=h',gens:=g',drawn:=d',toks:=t' }:=by
 have SN:∀b o,X.s₀.heap.get? b=some o->b≠X.env.locals:=fun b o e=>Jl (Jn (Jf e) I.ok.above)
 have Oz:∀b o,X.s₀.heap.get? b=some o->b∉X.ex->b∉ch:=fun b o e hx hb=>by
  rcases(yw b hb).1 with z|z
  ·exact hx z
  ·exact absurd (Jn (Jf e) z) (Uc _)
 have cellK:∀x c,X.env.cells.lookup x=some c->∀v,s.heap.IsCell c v->h'.IsCell c v:=fun x c e v ⟨o,ho,hd⟩=>by
  have He:c∉ch:=fun z=>(yw c z).2.2.1 x c e rfl
  by_cases hc:c∈X.fs
  ·obtain⟨sl,q⟩:=slot c o (I.E6 x c e) hc He ho (I.freeC x c e)
   exact⟨_,q,hd⟩
  ·exact⟨o,keep c o (I.E6 x c e) hc He ho (I.freeC x c e),hd⟩
 refine⟨I.ok,I.os,hg,⟨fun b o e n hb hx =>?_,fun b o e n hb hx =>?_,fun b o e n hx =>?_,fun b o e hx =>?_,fun b xs e=>iq b xs (I.base.iq b xs e),fun b o xs e=>gV b o xs (I.base.gV b o xs e),fun b ps e =>?_⟩,?_,fun x c e =>?_,?_,fun x c e =>?_,fun p hp =>?_,bw,I.len⟩
 ·exact keep b o (SN b o e) hb (Oz b o e hx) (I.base.keep b o e n hb hx) (I.base.free b o e n hx)
 ·obtain⟨sl,e1⟩:=I.base.slot b o e n hb hx
  obtain⟨sl',e2⟩:=slot b _ (SN b o e) hb (Oz b o e hx) e1 (I.base.free b o e n hx)
  exact⟨sl',e2⟩
 ·obtain⟨o',e1⟩:=I.base.there b o e hx
  exact free b o' (Oz b o e hx) e1 (I.base.free b o e n hx)
 ·obtain⟨o',e1⟩:=I.base.there b o e hx
  exact there b o' (Oz b o e hx) e1
 ·obtain⟨m1,e1⟩:=I.base.iY b ps e
  obtain⟨m2,e2⟩:=iY b _ e1
  exact⟨m1++m2,by rw[e2,Array.append_assoc]⟩
 ·obtain⟨m,hn,hl⟩:=I.loc
  refine⟨m,ns m hn,fun i x v e1 e2 e3 =>?_⟩
  obtain⟨u,r,l⟩:=hl i x v e1 e2 e3
  refine⟨u,r,?_⟩
  rcases l with l|⟨k,c,e,z⟩
  ·exact .inl l
  ·exact .inr ⟨k,c,e,cellK x c e _ z⟩
 ·obtain⟨v,z⟩:=I.cell x c e
  exact⟨v,cellK x c e v z⟩
 ·obtain⟨m,⟨o,_,_,ho,_⟩,_⟩:=I.loc
  exact free _ o (fun z=>(yw _ z).2.1 rfl) ho I.free
 ·obtain⟨v,o,ho,hd⟩:=I.cell x c e
  exact free c o (fun z=>(yw c z).2.2.1 x c e rfl) ho (I.freeC x c e)
 ·obtain⟨e,n,ne,nf,d⟩:=I.pin p hp
  have He:p.1∉ch:=fun z=>(yw p.1 z).2.2.2 p hp rfl
  exact⟨keep p.1 p.2 ne nf He e n,free p.1 p.2 He e n,ne,nf,d⟩
theorem Inv.un {t':Nat}(I:Inv X pins σ H s)(u:Un X.fs [] H H' s.heap h')(bw:gO X.prog X.w H' h'):Inv X pins σ H' { s with heap:=h',toks:=t' }:=by
 obtain⟨m,⟨o,es,ep,ho,r⟩,_⟩:=id I.loc
 obtain⟨sl,hL⟩:=u.any ho I.free (by simp)
 exact I.step (g':=s.gens) (d':=s.drawn) (ch:=[]) (fun _ z=>nomatch z) (fun b o _ hb _ e n=>u.keep b o e n hb (by simp)) (fun b o _ hb _ e n=>u.slot b o e n hb (by simp)) (fun b o _ e n=>u.free b o e n (by simp)) (fun b o _ e=>u.there b o e (by simp)) u.iq u.gV u.iY (fun m' hm=>by
  obtain⟨o',es',ep',ya,r'⟩:=hm
  rw[ho] at ya;cases ya
  exact⟨_,es',ep',hL,r'⟩) bw I.bare
theorem Inv.call {g':Array GenState}{t':Nat}{d':Drawn}{ch:List Addr}(I:Inv X pins σ H s)(u:Un (eW X.stack) ch H H' s.heap h')(bw:gO X.prog X.w H' h')(hg:AllBare g')
  (yw:∀b∈ch,(b∈X.ex∨X.s₀.heap.objs.size<=b)/\b≠X.env.locals/\(∀x c,X.env.cells.lookup x=some c->c≠b)/\∀p∈X.pn++pins,p.1≠b) :
  Inv X pins σ H' { s with heap:=h',gens:=g',drawn:=d',toks:=t' }:=by
 obtain⟨m,⟨o,es,ep,ho,r⟩,_⟩:=id I.loc
 obtain⟨sl,hL⟩:=u.any ho I.free fun z=>(yw _ z).2.1 rfl
 exact I.step (ch:=ch) yw (fun b o hL hb hc e n=>u.keep b o e n (fun z=>(Jr.mp (I.sW b z)).elim hL hb) hc) (fun b o _ _ hc e n=>u.any e n hc) (fun b o hc e n=>u.free b o e n hc) (fun b o hc e=>u.there b o e hc) u.iq u.gV u.iY (fun m' hm=>by
  obtain⟨o',es',ep',ya,r'⟩:=hm
  rw[ho] at ya;cases ya
  exact⟨_,es',ep',hL,r'⟩) bw hg
theorem Inv.turned {t':Nat}{it:Addr}(I:Inv X pins σ H s)(k:∀b o,b≠it->s.heap.get? b=some o->h'.get? b=some o)(hn:H it=none)(hL:it≠X.env.locals)
  (h1:it∈X.ex∨X.s₀.heap.objs.size<=it) (h2:∀x c,X.env.cells.lookup x=some c->c≠it) (h3:∀p∈X.pn++pins,p.1≠it):Inv X pins σ H { s with heap:=h',toks:=t' }:=by
 have S1:∀b u,H b=some u->b≠it:=fun b u e z=>by rw[z,hn] at e;cases e
 refine I.step (g':=s.gens) (d':=s.drawn) (ch:=[it]) (fun b hb =>?_) (fun b o _ _ hc e _=>k b o (fun z=>hc (by simp[z])) e) (fun b o _ _ hc e _=>⟨o.slots,k b o (fun z=>hc (by simp[z])) e⟩) (fun _ _ _ _ n=>n)
  (fun b o hc e=>⟨o,k b o (fun z=>hc (by simp[z])) e⟩) (fun _ _ e=>e) (fun _ _ _ e=>e) (fun b ps e=>⟨#[],by rw[e];simp⟩) (fun m hm =>?_) (fun b u e =>?_) I.bare
 ·have e:b=it:=by simpa using hb
  subst e
  exact⟨h1,hL,h2,h3⟩
 ·obtain⟨o,es,ep,ho,r⟩:=hm
  exact⟨o,es,ep,k _ o (Ne.symm hL) ho,r⟩
 ·refine(I.bw b u e).fu (fun c v hc q=>k c v ?_ q) (fun _ q=>q) fun _ _ q=>q
  rcases hc with z|z
  ·rw[z];exact S1 b u e
  ·exact S1 c _ z
theorem Inv.tok (I:Inv X pins σ H s)(t:Nat):Inv X pins σ H { s with toks:=t }:=I.un (h':=s.heap) (t':=t) Un.refl I.bw
theorem Inv.kept {t':Nat}(I:Inv X pins σ H s)(k:∀b u,s.heap.get? b=some u->h'.get? b=some u):Inv X pins σ H { s with heap:=h',toks:=t' }:=I.un (Un.kept k) (I.bw.kept k)
theorem Inv.laid {a:Addr}{o:HO}{t':Nat}(I:Inv X pins σ H s)(k:∀b u,s.heap.get? b=some u->h'.get? b=some u)(hp:s.heap.objs.size<=a)(new:bg X.prog X.w (upd H a o) h' a o):
  Inv X pins σ (upd H a o) { s with heap:=h',toks:=t' }:=I.un (Un.laid k hp (I.bw.fresh hp)) (I.bw.laid k hp new)
theorem Inv.write {x e:Addr}{o:HO}{t':Nat}(I:Inv X pins σ H s)(mu:LO (H x))(he:e=x∨H e=some (.own x))(k:∀b u,b≠e->s.heap.get? b=some u->h'.get? b=some u)(KQ:∃u,h'.get? e=some u)
  (new:bg X.prog X.w (upd H x o) h' x o):Inv X pins σ (upd H x o) { s with heap:=h',toks:=t' }:=I.un (Un.write mu he k KQ) (I.bw.write mu he k KQ new)
theorem Inv.weak {σ':List (Option V)}(I:Inv X pins σ H s)(hl: σ'.length = σ.length)(w:∀(i:Nat) v,σ'[i]? = some (some v) -> σ[i]? = some (some v)):Inv X pins σ' H s:=
 ⟨I.ok,I.os,I.bare,I.base,let ⟨m,hn,EW⟩:=I.loc; ⟨m,hn,fun i x v e1 e2 e3=>EW i x v e1 (w i v e2) e3⟩,I.cell,I.free,I.freeC,I.pin,I.bw,hl.trans I.len⟩
theorem Inv.mw {kE:List (Addr×Obj)}(I:Inv X pins σ H s)(h:∀p∈kE,s.heap.get? p.1=some p.2/\H p.1=none/\p.1≠X.env.locals/\p.1∉X.fs/\∀v,p.2.data ≠ .cell v):Inv X kE σ H s:=
 ⟨I.ok,I.os,I.bare,I.base,I.loc,I.cell,I.free,I.freeC,fun p hp=>(U2.mp hp).elim (fun z=>I.pin p (Yj _ z)) (h p),I.bw,I.len⟩
theorem oB {N:List Str}(hN:N.Nodup){i j:Nat}{x:Str}(a:N[i]? = some x)(b:N[j]? = some x):i=j:=by
 obtain⟨h1,e1⟩:=Jq.mp a
 obtain⟨h2,e2⟩:=Jq.mp b
 exact(List.getElem_inj hN).mp (e1.trans e2.symm)
theorem qf {M:Model}{A:Around}{E:Value->Shared->Prop}{i:Nat}{x:Str}{v:V}{u:Value}{Q:Unit->Shared->Prop}(I:Inv X pins σ H s)(hN:X.N.Nodup)(hi:X.N[i]? = some x)(hx:Loc X.env.scope x)(r:RelV v u)
  (h:∀s',Inv X pins (σ.set i (some v)) H s'->(∃a,U1 a s.heap s'.heap/\(a=X.env.locals∨X.env.cells.lookup x=some a))->Q () s') (hf:X.fn x=true∨X.env.scope.names.lookup x=some .local:=by first|exact .inl rfl|exact .inr rfl|assumption):wpAny M A (storeName X.env x u) Q E s:=by
 obtain⟨m,hn,hl⟩:=id I.loc
 have Qw:(X.env.scope.kind == .class||(X.env.scope.kind == .module&&X.env.locals != X.env.globals))=false:=by rw[I.ok.kind];rfl
 have SQ:i < σ.length:=by rw[I.len];exact(Jq.mp hi).1
 have E6:=I.E6
 have tracked:∀{a:Addr} {h':Heap},(∃o,s.heap.get? a=some o/\H a=none)->U1 a s.heap h'->gO X.prog X.w H h':=fun{a h'} ha hs b ob e=>by
  obtain⟨_,_,yP⟩:=ha
  refine(I.bw b ob e).fu (fun c w' hc q=>(hs.2 c ?_).trans q) (fun _ q=>q) fun _ _ q=>q
  rintro rfl
  rcases hc with rfl|hc
  ·rw[yP] at e;cases e
  ·rw[yP] at hc;cases hc
 rcases hx with hk|hk
 ·refine wpAny_storeName_local hk hn (fun h' hn' hs =>?_) Qw
  obtain⟨oL,_,_,hoL,_⟩:=id hn
  refine h _ ⟨I.ok,I.os,I.bare,⟨fun b o e n hb hx =>?_,fun b o e n hb hx =>?_,I.base.free,fun b o e hx =>?_,I.base.iq,I.base.gV,I.base.iY⟩,⟨_,hn',fun j y v' e1 e2 e3 =>?_⟩,fun y c e =>?_,I.free,I.freeC,fun p hp =>?_,tracked ⟨oL,hoL,I.free⟩ hs,by simpa using I.len⟩ ⟨_,hs,.inl rfl⟩
  ·exact(hs.2 b (Jl (Jn (Jf e) I.ok.above))).trans (I.base.keep b o e n hb hx)
  ·obtain⟨sl,e1⟩:=I.base.slot b o e n hb hx
   exact⟨sl,(hs.2 b (Jl (Jn (Jf e) I.ok.above))).trans e1⟩
  ·obtain⟨o',e1⟩:=I.base.there b o e hx
   exact⟨o',(hs.2 b (Jl (Jn (Jf e) I.ok.above))).trans e1⟩
  ·by_cases hj:j=i
   ·subst hj
    rw[hi] at e1;cases e1
    rw[U9 SQ] at e2
    cases e2
    exact⟨u,r,.inl ⟨hk,by simp⟩⟩
   ·rw[U7 (Ne.symm hj)] at e2
    obtain⟨u',r',q⟩:=hl j y v' e1 e2 e3
    refine⟨u',r',?_⟩
    rcases q with ⟨k,e⟩|⟨k,c,e,z⟩
    ·refine .inl ⟨k,?_⟩
     have:y≠x:=fun e=>hj (oB hN e1 (e▸hi))
     simp[this,e]
    ·exact .inr ⟨k,c,e,z.sameBut hs (E6 y c e)⟩
  ·obtain⟨w',z⟩:=I.cell y c e
   exact⟨w',z.sameBut hs (E6 y c e)⟩
  ·obtain⟨e,n,ne,nf,d⟩:=I.pin p hp
   exact⟨(hs.2 p.1 ne).trans e,n,ne,nf,d⟩
 ·have Sg:X.fn x=true:=by
   rcases hf with z|z
   ·exact z
   ·rw[z] at hk;cases hk
  obtain⟨c,hc⟩:=I.ok.has x (.inl hk)
  obtain⟨w',z⟩:=I.cell x c hc
  refine wpAny_storeName_cell I.ok.kind hk hc z (fun h' hc' hs =>?_)
  obtain⟨oc,hoc,hocd⟩:=id z
  refine h { s with heap:=h' } ⟨I.ok,I.os,I.bare,⟨fun b o e n hb hx =>?_,fun b o e n hb hx =>?_,I.base.free,fun b o e hx =>?_,I.base.iq,I.base.gV,I.base.iY⟩,⟨m,hn.sameBut hs (Ne.symm (E6 x c hc)),fun j y v' e1 e2 e3 =>?_⟩,fun y c' e =>?_,I.free,I.freeC,fun p hp =>?_,tracked ⟨oc,hoc,I.freeC x c hc⟩ hs,by simpa using I.len⟩ ⟨c,hs,.inr hc⟩
  ·exact(hs.2 b (Jl (Jn (Jf e) (I.ok.cab x c Sg hc)))).trans (I.base.keep b o e n hb hx)
  ·obtain⟨sl,e1⟩:=I.base.slot b o e n hb hx
   exact⟨sl,(hs.2 b (Jl (Jn (Jf e) (I.ok.cab x c Sg hc)))).trans e1⟩
  ·obtain⟨o',e1⟩:=I.base.there b o e hx
   exact⟨o',(hs.2 b (Jl (Jn (Jf e) (I.ok.cab x c Sg hc)))).trans e1⟩
  ·by_cases hj:j=i
   ·subst hj
    rw[hi] at e1;cases e1
    rw[U9 SQ] at e2
    cases e2
    exact⟨u,r,.inr ⟨.inl hk,c,hc,hc'⟩⟩
   ·rw[U7 (Ne.symm hj)] at e2
    obtain⟨u',r',q⟩:=hl j y v' e1 e2 e3
    refine⟨u',r',?_⟩
    rcases q with q|⟨k,c',e,z'⟩
    ·exact .inl q
    ·refine .inr ⟨k,c',e,z'.sameBut hs ?_⟩
     rintro rfl
     exact hj (oB hN e1 (I.ok.inj _ _ _ e hc▸hi))
  ·by_cases hcc:c'=c
   ·subst hcc;exact⟨_,hc'⟩
   ·obtain⟨w2,z2⟩:=I.cell y c' e
    exact⟨w2,z2.sameBut hs hcc⟩
  ·obtain⟨e,n,ne,nf,d⟩:=I.pin p hp
   refine⟨(hs.2 p.1 ?_).trans e,n,ne,nf,d⟩
   intro q
   rw[q,hoc] at e
   have q':oc=p.2:=Option.some.inj e
   exact d w' (by rw[<-q'];exact hocd)
theorem fV {M:Model}{A:Around}{E:Value->Shared->Prop}{i:Nat}{x:Str}{v:V}{u:Value}{Q:Unit->Shared->Prop}(I:Inv X pins σ H s)(hN:X.N.Nodup)(hi:X.N[i]? = some x)(hx:Loc X.env.scope x)(r:RelV v u)
  (h:∀s',Inv X pins (σ.set i (some v)) H s'->Q () s') (hf:X.fn x=true∨X.env.scope.names.lookup x=some .local:=by first|exact .inl rfl|exact .inr rfl|assumption):wpAny M A (storeName X.env x u) Q E s:=
 qf I hN hi hx r (fun s' I' _=>h s' I') hf
theorem Inv.DN {s':Shared}{ch:List Addr}(I:Inv X pins σ H s)(ho:s'.os=s.os)(u:Un (eW X.stack) ch H H' s.heap s'.heap)(bw:gO X.prog X.w H' s'.heap)(hg:AllBare s'.gens)
  (yw:∀b∈ch,(b∈X.ex∨X.s₀.heap.objs.size<=b)/\b≠X.env.locals/\(∀x c,X.env.cells.lookup x=some c->c≠b)/\∀p∈X.pn++pins,p.1≠b):Inv X pins σ H' s':=by
 obtain⟨h',g',d',t',o'⟩:=s'
 have e:o'=s.os:=ho
 subst e
 exact I.call (g':=g') (t':=t') (d':=d') u bw hg yw
end
abbrev XK:=Value->Option Addr->Hp->Prop
noncomputable abbrev St:=List (Option V)
abbrev VK:=V->Hp->Prop
abbrev TE:=St->Hp->VK->Prop
abbrev TT:=St->Hp->(Bool->Hp->Prop)->Prop
abbrev TA:=St->Hp->(List V->Hp->Prop)->Prop
structure Ends where
 nx:St->Hp->Prop
 rt:VK
 bk:St->Hp->Prop:=fun _ _=>False
 ct:St->Hp->Prop:=fun _ _=>False
abbrev TS:=Ends->St->Hp->Prop
def EP (X:Cx)(pins:List (Addr×Obj))(σ:St)(Q:VK)(u:Value)(s':Shared):Prop:=eu fun v H'=>Inv X pins σ H' s'/\RelV v u/\Q v H'
def TP (X:Cx)(pins:List (Addr×Obj))(σ:St)(Q:Bool->Hp->Prop)(b:Bool)(s':Shared):Prop:=∃H',Inv X pins σ H' s'/\Q b H'
def AP (X:Cx)(pins:List (Addr×Obj))(σ:St)(Q:List V->Hp->Prop)(us:List Value)(s':Shared):Prop:=eu fun vs H'=>Inv X pins σ H' s'/\Vals vs us/\Q vs H'
instance Rf {X:Cx} {pins:List (Addr×Obj)} {σ:St} {Q:VK} {u:Value} {s':Shared}:ai (EP X pins σ Q u s') (fun G=>∀v H',Inv X pins σ H' s'->RelV v u->Q v H'->G):=⟨fun⟨v,H',a,b,c⟩ _ k=>k v H' a b c⟩
instance Pb {X:Cx} {pins:List (Addr×Obj)} {σ:St} {Q:Bool->Hp->Prop} {b:Bool} {s':Shared}:ai (TP X pins σ Q b s') (fun G=>∀H',Inv X pins σ H' s'->Q b H'->G):=⟨fun⟨H',a,c⟩ _ k=>k H' a c⟩
instance P1 {X:Cx} {pins:List (Addr×Obj)} {σ:St} {Q:List V->Hp->Prop} {us:List Value} {s':Shared}:ai (AP X pins σ Q us s') (fun G=>∀vs H',Inv X pins σ H' s'->Vals vs us->Q vs H'->G):=⟨fun⟨v,H',a,b,c⟩ _ k=>k v H' a b c⟩
def SP (X:Cx)(pins:List (Addr×Obj))(D:Ends)(f:Flow)(s':Shared):Prop:=
 match f with
 | .next=>eu fun σ' H'=>Inv X pins σ' H' s'/\D.nx σ' H'
 | .brk=>eu fun σ' H'=>Inv X pins σ' H' s'/\D.bk σ' H'
 | .cont=>eu fun σ' H'=>Inv X pins σ' H' s'/\D.ct σ' H'
 | .ret u=>o7 fun v σ' H'=>Inv X pins σ' H' s'/\RelV v u/\D.rt v H'
def PE (X:Cx)(e:Expr)(t:TE):Prop:=
 ∀ ⦃pins:List (Addr×Obj)⦄ (s:Shared) (σ:St) (H:Hp) (Q:VK),Inv X pins σ H s->t σ H Q->wpAny (model X.prog X.w) X.A (eval e X.env) (EP X pins σ Q) X.xe s
def PT (X:Cx)(e:Expr)(t:TT):Prop:=
 ∀ ⦃pins:List (Addr×Obj)⦄ (s:Shared) (σ:St) (H:Hp) (Q:Bool->Hp->Prop),Inv X pins σ H s->t σ H Q->wpAny (model X.prog X.w) X.A (isTrue e X.env (eval e X.env)) (TP X pins σ Q) X.xe s
def PW (X:Cx)(e:Expr)(t:TT):Prop:=
 ∀ ⦃whole:Sem Value⦄ ⦃pins:List (Addr×Obj)⦄ (s:Shared) (σ:St) (H:Hp) (Q:Bool->Hp->Prop),Inv X pins σ H s->t σ H Q->wpAny (model X.prog X.w) X.A (isTrue e X.env whole) (TP X pins σ Q) X.xe s
theorem PW.pt {X:Cx}{e:Expr}{t:TT}(h:PW X e t):PT X e t:=fun pins s σ H Q I q=>h s σ H Q I q
def PA (X:Cx)(es:List Expr)(t:TA):Prop:=
 ∀ ⦃pos:Pos⦄ ⦃pins:List (Addr×Obj)⦄ (s:Shared) (σ:St) (H:Hp) (Q:List V->Hp->Prop),Inv X pins σ H s->t σ H Q->wpAny (model X.prog X.w) X.A (spliced (backTo pos (starEach es X.env))) (AP X pins σ Q) X.xe s
def PS (X:Cx)(st:Stmt)(t:TS):Prop:=
 ∀ ⦃pins:List (Addr×Obj)⦄ (s:Shared) (σ:St) (H:Hp) (D:Ends),Inv X pins σ H s->t D σ H->wpAny (model X.prog X.w) X.A (exec st X.env) (SP X pins D) X.xe s
def vk (X:Cx)(st:List Stmt)(t:TS):Prop:=
 ∀ ⦃pins:List (Addr×Obj)⦄ (s:Shared) (σ:St) (H:Hp) (D:Ends),Inv X pins σ H s->t D σ H->wpAny (model X.prog X.w) X.A (execs st X.env) (SP X pins D) X.xe s
theorem bz {α:Type}{t:Sem α}{Q Q': α->Shared->Prop}{M:Model}{A:Around}{E:Value->Shared->Prop}{s:Shared}(h:wpAny M A t Q E s)(hQ:∀a s,Q a s->Q' a s):wpAny M A t Q' E s:=wpAny_mono h hQ fun _ _ x=>x
section
variable {X:Cx}
def Ie (i:Nat):TE:=fun σ H Q=>∃v,σ[i]? = some (some v)/\Q v H
def tC (v:V):TE:=fun _ H Q=>Q v H
theorem JE {i:Nat}{x:Str}{pos:Pos}(hN:X.N[i]? = some x)(hv:KZ X.env.scope x)(hd:(x==("__debug__" : Str))=false:=by decide)(vO:(x==("__classdict__" : Str))=false:=by decide):PE X (.Name x pos) (Ie i):=by
 intro pins s σ H Q I h
 obtain⟨v,e,h⟩:=h
 obtain⟨m,hn,hl⟩:=I.loc
 obtain⟨u,r,l⟩:=hl i x v hN e hv
 have fin:EP X pins σ Q u s:=⟨v,H,I,r,h⟩
 rcases l with ⟨hk,hm⟩|⟨hk,c,hc,hcell⟩
 ·exact wpAny_Name (wpAny_loadName_local I.ok.kind hk hn hm fin) hd
 ·rcases hk with hk|hk
  ·exact wpAny_Name (wpAny_loadName_cell I.ok.kind hk hc hcell fin) hd
  ·exact wpAny_Name (wpAny_loadName_free I.ok.kind hk hc hcell fin vO) hd
theorem ah {i j pos}:PE X (.Constant (.int i) j pos) (tC (.int i)):=fun _ _ _ H _ I h=>wpAny_Constant_int ⟨.int i,H,I.tok _,⟨_,rfl⟩,h⟩
theorem j5 {b j pos}:PE X (.Constant (.bool b) j pos) (tC (.bl b)):=fun _ _ _ H _ I h=>Constant_bool ⟨.bl b,H,I,rfl,h⟩
theorem cS {j pos}:PE X (.Constant .none j pos) (tC .non):=fun _ _ _ H _ I h=>Constant_none ⟨.non,H,I,rfl,h⟩
theorem au {x j pos}:PE X (.Constant (.str x) j pos) (tC (.str x)):=fun _ _ _ H _ I h=>Calls.Constant_str ⟨.str x,H,I.tok _,⟨_,rfl⟩,h⟩
def Gl (X:Cx)(x:Str):Prop:=X.env.kindOf x=some .globalImplicit
theorem gN {E:Value->Shared->Prop}{pins:List (Addr×Obj)}{s:Shared}{σ:St}{H:Hp}{x:Str}{u:Value}{pos:Pos}{Q:Value->Shared->Prop}(I:Inv X pins σ H s)(hg:Gl X x)(hm:X.mg x=some u)(h:Q u s)
  (hd:(x==("__debug__" : Str))=false:=by decide):wpAny (model X.prog X.w) X.A (eval (.Name x pos) X.env) Q E s:=
 Calls.Name_function_global I.ok.kind hg (Calls.loadGlobal_global (by rw[I.ok.glob];exact I.mod.glob.keeps I.bk) hm h) hd
theorem dF {E:Value->Shared->Prop}{pins:List (Addr×Obj)}{s:Shared}{σ:St}{H:Hp}{x:Str}{u:Value}{pos:Pos}{Q:Value->Shared->Prop}(I:Inv X pins σ H s)(hg:Gl X x)(hm:X.mg x=none)(hv:bootBuiltins x=some u)(h:Q u s)
  (hn:x ≠ "__name__":=by decide) (hd:(x==("__debug__" : Str))=false:=by decide):wpAny (model X.prog X.w) X.A (eval (.Name x pos) X.env) Q E s:=by
 obtain⟨mb,h1,h2⟩:=I.mod.blt
 exact Calls.Name_function_global I.ok.kind hg (Calls.loadGlobal_builtin (by rw[I.ok.glob];exact I.mod.glob.keeps I.bk) hm (by rw[I.ok.blt];exact h1.keeps I.bk) ((h2 x hn).trans hv) h) hd
theorem rj {x:Str}{v:V}{u:Value}{pos:Pos}(hg:Gl X x)(hm:X.mg x=some u)(r:RelV v u)(hd:(x==("__debug__" : Str))=false:=by decide):PE X (.Name x pos) (tC v):=
 fun _ _ _ H _ I h=>gN I hg hm ⟨v,H,I,r,h⟩ hd
theorem bC {x:Str}{v:V}{u:Value}{pos:Pos}(hg:Gl X x)(hm:X.mg x=none)(hv:bootBuiltins x=some u)(r:RelV v u)(hn:x ≠ "__name__":=by decide)(hd:(x==("__debug__" : Str))=false:=by decide):PE X (.Name x pos) (tC v):=
 fun _ _ _ H _ I h=>dF I hg hm hv ⟨v,H,I,r,h⟩ hn hd
variable {a b:Expr}{ta tb:TE}{pos:Pos}
def tB (t:TE):TT:=fun σ H Q=>t σ H fun x H1=>∃c,x = .bl c/\Q c H1
theorem bR {e:Expr}{t:TE}(h:PE X e t)(he:∀whole,isTrue e X.env whole=(do let v <-whole;standAt e.pos;holding [v] (truthy v)):=by intro _;rfl):PT X e (tB t):=by
 intro pins s σ H Q I hw
 refine isTrue_plain (bz (h s σ H _ I hw) fun v s1 hz_=>ai.el hz_ _ fun x H1 I1 r1 q1 =>?_) (he _)
 obtain⟨d,rfl,q⟩:=q1
 cases r1
 exact wpAny_truthy_bool ⟨H1,I1,q⟩
variable {tA TZ:TT}{rest:List Expr}
def UA (t u:TT):TT:=fun σ H Q=>t σ H fun c H1=>if c=true then Q true H1 else u σ H1 Q
def P2 (t:TT):TT:=fun σ H Q=>t σ H fun c H1=>Q (!c) H1
theorem iP (ha:PT X a tA):PW X (.BoolOp .Or [a] pos) tA:=by
 intro wh pins s σ H Q I h
 refine isTrue_or (bz (ha s σ H Q I h) fun c s1 e =>?_)
 cases c with
 | false=>exact isTrue_or_nil e
 | true=>exact e
theorem je (ha:PT X a tA)(hb:PW X (.BoolOp .Or (b::rest) pos) TZ):PW X (.BoolOp .Or (a::b::rest) pos) (UA tA TZ):=by
 intro wh pins s σ H Q I h
 refine isTrue_or (bz (ha s σ H _ I h) fun c s1 hz_ =>?_)
 refine ai.el hz_ _ ?_
 clear hz_
 rintro H1 I1 q1
 cases c with
 | true=>exact⟨H1,I1,q1⟩
 | false=>exact hb s1 σ H1 Q I1 q1
theorem cR (ha:PT X a tA):PT X (.UnaryOp .Not a pos) (P2 tA):=by
 intro pins s σ H Q I h
 exact isTrue_not (ha s σ H (fun c H1=>Q (!c) H1) I h)
def N0 (ta tb:TE):TE:=fun σ H Q=>ta σ H fun x H1=>∃c,x = .bl c/\if c=true then tb σ H1 Q else Q (.bl false) H1
def MP (ta:TE):TE:=fun σ H Q=>ta σ H fun x H1=>∃c,x = .bl c/\Q (.bl (!c)) H1
theorem ji {op}{t:TE}(h:PE X a t):PE X (.BoolOp op [a] pos) t:=fun pins s σ H Q I hw=>BoolOp_one (h s σ H Q I hw)
theorem d6 (ha:PE X a ta)(hb:PE X (.BoolOp .And (b::rest) pos) tb):PE X (.BoolOp .And (a::b::rest) pos) (N0 ta tb):=by
 intro pins s σ H Q I h
 refine BoolOp_and (bz (ha s σ H _ I h) fun v s1 hz_ =>?_)
 refine ai.el hz_ _ ?_
 clear hz_
 rintro x H1 I1 r1 q1
 obtain⟨c,rfl,q1⟩:=q1
 cases r1
 refine wpAny_truthy_bool ?_
 cases c with
 | true=>exact hb s1 σ H1 Q I1 q1
 | false=>exact⟨.bl false,H1,I1,rfl,q1⟩
theorem CA (ha:PE X a ta):PE X (.UnaryOp .Not a pos) (MP ta):=by
 intro pins s σ H Q I h
 refine UnaryOp_ (bz (ha s σ H _ I h) fun v s1 hz_ =>?_)
 refine ai.el hz_ _ ?_
 clear hz_
 rintro x H1 I1 r1 q1
 obtain⟨c,rfl,q1⟩:=q1
 cases r1
 exact not_of (wpAny_truthy_bool ⟨.bl (!c),H1,I1,rfl,q1⟩)
def QT (t:TT)(ta tb:TE):TE:=fun σ H Q=>t σ H fun c H1=>if c=true then ta σ H1 Q else tb σ H1 Q
theorem fX {c:Expr}(hc:PT X c tA)(ha:PE X a ta)(hb:PE X b tb):PE X (.IfExp c a b pos) (QT tA ta tb):=by
 intro pins s σ H Q I h
 refine wpAny_IfExp (bz (hc s σ H _ I h) fun d s1 hz_ =>?_)
 refine ai.el hz_ _ ?_
 clear hz_
 rintro H1 I1 q1
 cases d with
 | true=>exact ha s1 σ H1 Q I1 q1
 | false=>exact hb s1 σ H1 Q I1 q1
end
def bq (K:Ja)(H:Hp)(a:Addr)(xs:List V):Prop:=
 Rd H a (.lst xs) ∨
  o7 fun(o:Obj) (aq:Array Value) (n:Nat)=>K.lookup a=some o/\o.cls = .type "list" /\ o.dict=none/\o.data = .seq aq n/\aq.size<=sizeLine/\Vals xs aq.toList
def bF (K:Ja)(H:Hp)(a:Addr)(xs:List V):Prop:=
 Rd H a (.tup xs) ∨
  o7 fun(o:Obj) (aq:Array Value) (n:Nat)=>K.lookup a=some o/\o.cls = .type "tuple" /\ o.dict=none/\o.data = .seq aq n/\aq.size<=sizeLine/\Vals xs aq.toList
noncomputable def PY:Value->Option V
 | .none=>some .non
 | .bool b=>some (.bl b)
 | .int i _=>some (.int i)
 | .str x _=>some (.str x)
 | .bytes b _=>some (.byt b)
 | .float b _=>some (.flt b)
 | .ref a=>some (.ref a)
 | .type n=>some (.ty n)
 | _=>none
theorem RelV.abs {x:V}{u:Value}(r:RelV x u):PY u=some x:=by
 cases x with
 | non=>cases r;rfl
 | bl _=>cases r;rfl
 | int _=>obtain⟨t,rfl⟩:=r;rfl
 | str _=>obtain⟨t,rfl⟩:=r;rfl
 | byt _=>obtain⟨t,rfl⟩:=r;rfl
 | flt _=>obtain⟨t,rfl⟩:=r;rfl
 | ref _=>cases r;rfl
 | ty _=>cases r;rfl
theorem RelV.inj {x y:V}{u:Value}(r:RelV x u)(q:RelV y u):x=y:=Option.some.inj (r.abs.symm.trans q.abs)
theorem Vals.inj {xs ys:List V}{us:List Value}(h:Vals xs us)(h':Vals ys us):xs=ys:=by
 induction h generalizing ys with
 | nil=>cases h';rfl
 | cons r t ih=>cases h' with|cons r' t'=>rw[RelV.inj r r',ih t']
section
variable {X:Cx}{pins:List (Addr×Obj)}{σ:St}{H:Hp}{s:Shared}{a:Addr}{xs ys:List V}
theorem bq.of {K:Ja}(h:H a=some (.lst xs)):bq K H a xs := .inl (.inl h)
theorem bF.of {K:Ja}(h:H a=some (.tup xs)):bF K H a xs := .inl (.inl h)
theorem Inv.list (I:Inv X pins σ H s)(h:bq X.K H a xs):∃aq:List Value,Vals xs aq/\PlainL s.heap a aq.toArray/\xs.length<=sizeLine:=by
 rcases h with h|⟨o,aq,n,hk,hc,hd,hs,hz,r⟩
 ·obtain⟨z,aq,n,r,e⟩:=h.ok I.bw
  exact⟨aq,r,⟨_,n,e,rfl,rfl,rfl⟩,z⟩
 ·refine⟨aq.toList,r,⟨o,n,I.gT a o hk,hc,hd,by simpa using hs⟩,?_⟩
  have e:=r.length
  simp only[Um] at e
  omega
theorem Inv.tuple (I:Inv X pins σ H s)(h:bF X.K H a xs):∃aq:List Value,Vals xs aq/\IsTup s.heap a aq.toArray/\xs.length<=sizeLine:=by
 rcases h with h|⟨o,aq,n,hk,hc,hd,hs,hz,r⟩
 ·obtain⟨z,aq,r,p⟩:=h.ok I.bw
  exact⟨aq,r,p.is,z⟩
 ·refine⟨aq.toList,r,⟨o,I.gT a o hk,hc,n,by simpa using hs⟩,?_⟩
  have e:=r.length
  simp only[Um] at e
  omega
theorem Inv.nY (I:Inv X pins σ H s)(h:bF X.K H a xs):∃aq:List Value,Vals xs aq/\rT s.heap a aq.toArray/\xs.length<=sizeLine:=by
 rcases h with h|⟨o,aq,n,hk,hc,hd,hs,hz,r⟩
 ·obtain⟨z,aq,r,p⟩:=h.ok I.bw
  exact⟨aq,r,p,z⟩
 ·refine⟨aq.toList,r,⟨o,I.gT a o hk,hd,hc,n,by simpa using hs⟩,?_⟩
  have e:=r.length
  simp only[Um] at e
  omega
theorem Inv.mz (I:Inv X pins σ H s)(h:bq X.K H a xs)(h':bq X.K H a ys):xs=ys:=by
 obtain⟨aq,r,⟨o,n,e,_,_,d⟩,_⟩:=I.list h
 obtain⟨its',r',⟨o',n',e',_,_,d'⟩,_⟩:=I.list h'
 rw[e] at e';cases e'
 rw[d] at d'
 injection d' with d1 _
 have:aq=its':=by simpa using congrArg Array.toList d1
 subst this
 exact r.inj r'
theorem Inv.qm (I:Inv X pins σ H s)(h:bF X.K H a xs)(h':bF X.K H a ys):xs=ys:=by
 obtain⟨aq,r,⟨o,e,_,n,d⟩,_⟩:=I.tuple h
 obtain⟨its',r',⟨o',e',_,n',d'⟩,_⟩:=I.tuple h'
 rw[e] at e';cases e'
 rw[d] at d'
 injection d' with d1 _
 have:aq=its':=by simpa using congrArg Array.toList d1
 subst this
 exact r.inj r'
end
noncomputable abbrev Cx.pL (X:Cx)(E:Value->Shared->Prop):Cx:={ X with xe:=E }
noncomputable abbrev Cx.ON (X:Cx):Cx:=X.pL fun _ _=>False
theorem Cx.Ok.pL {X:Cx}(ok:X.Ok)(E:Value->Shared->Prop):(X.pL E).Ok:=
 ⟨ok.mod,ok.kind,ok.glob,ok.blt,ok.above,ok.inj,ok.has,ok.cab,ok.hd,ok.frames,ok.stk,ok.exf,ok.bs,ok.bsz,ok.noex,ok.exfs,ok.i7,ok.frf⟩
theorem Cx.Ok.iQ {X:Cx}{E:Value->Shared->Prop}(ok:(X.pL E).Ok):X.Ok:=
 ⟨ok.mod,ok.kind,ok.glob,ok.blt,ok.above,ok.inj,ok.has,ok.cab,ok.hd,ok.frames,ok.stk,ok.exf,ok.bs,ok.bsz,ok.noex,ok.exfs,ok.i7,ok.frf⟩
section
variable {X:Cx}{pins:List (Addr×Obj)}{σ:St}{H:Hp}{s:Shared}{E:Value->Shared->Prop}
theorem Inv.pL (I:Inv X pins σ H s)(E:Value->Shared->Prop):Inv (X.pL E) pins σ H s:=⟨I.ok.pL E,I.os,I.bare,I.base,I.loc,I.cell,I.free,I.freeC,I.pin,I.bw,I.len⟩
theorem Inv.iQ (I:Inv (X.pL E) pins σ H s):Inv X pins σ H s:=⟨I.ok.iQ,I.os,I.bare,I.base,I.loc,I.cell,I.free,I.freeC,I.pin,I.bw,I.len⟩
theorem SP.iQ {D:Ends}{f:Flow}{s':Shared}(h:SP (X.pL E) pins D f s'):SP X pins D f s':=by
 cases f with
 | next=>obtain⟨σ',H',I,q⟩:=h;exact⟨σ',H',I.iQ,q⟩
 | brk=>obtain⟨σ',H',I,q⟩:=h;exact⟨σ',H',I.iQ,q⟩
 | cont=>obtain⟨σ',H',I,q⟩:=h;exact⟨σ',H',I.iQ,q⟩
 | ret u=>obtain⟨v,σ',H',I,r,q⟩:=h;exact⟨v,σ',H',I.iQ,r,q⟩
theorem vk.ON {st:List Stmt}{t:TS}(h:vk X.ON st t):vk X st t:=fun pins s σ H D I hw=>
 wpAny_mono (h s σ H D (I.pL _) hw) (fun _ _ q=>q.iQ) fun _ _ z=>False.elim z
end
section
variable {X:Cx}{st:Stmt}{rest:List Stmt}{t u:TS}{e:Expr}{te:TE}{pos:Pos}
def bZ:TS:=fun D σ H=>D.nx σ H
def EJ (t u:TS):TS:=fun D σ H=>t { D with nx:=u D } σ H
theorem aF:vk X [] bZ:=fun _ _ σ H _ I h=>wpAny_execs_nil ⟨σ,H,I,h⟩
theorem af (h1:PS X st t)(h2:vk X rest u):vk X (st::rest) (EJ t u):=by
 intro pins s σ H D I h
 refine wpAny_execs_cons (bz (h1 s σ H { D with nx:=u D } I h) fun f s1 q =>?_)
 cases f with
 | next=>
  obtain⟨σ',H',I',q⟩:=q
  exact h2 s1 σ' H' D I' q
 | ret v=>exact q
 | brk=>exact q
 | cont=>exact q
theorem ag (h1:PS X st t):vk X [st] t:=by
 intro pins s σ H D I h
 refine wpAny_execs_cons (bz (h1 s σ H D I h) fun f s1 q =>?_)
 cases f with
 | next=>exact wpAny_execs_nil q
 | ret v=>exact q
 | brk=>exact q
 | cont=>exact q
theorem Inv.quiet {pins:List (Addr×Obj)}{σ:St}{H:Hp}{s:Shared}(I:Inv X pins σ H s):interactive X.env=false:=by simp[interactive,I.ok.kind]
def MW (te:TE):TS:=fun D σ H=>te σ H fun _ H1=>D.nx σ H1
theorem mi (he:PE X e te)(hs:swapsWith e none pos.line X.env=pure false:=by rfl):PS X (.Expr e pos) (MW te):=by
 intro pins s σ H D I h
 exact wpAny_Expr_any (bz (he s σ H _ I h) fun v s1 hz_=>ai.el hz_ _ fun x H1 I1 r1 q1=>⟨σ,H1,I1,q1⟩) I.quiet hs
def Qu (te:TE):TS:=fun D σ H=>te σ H D.rt
theorem av (he:PE X e te):PS X (.Return (some e) pos) (Qu te):=by
 intro pins s σ H D I h
 exact wpAny_Return_some (bz (he s σ H _ I h) fun v s1 hz_=>ai.el hz_ _ fun x H1 I1 r1 q1=>⟨x,σ,H1,I1,r1,q1⟩)
def Eh (c:TT)(t u:TS):TS:=fun D σ H=>c σ H fun b H1=>if b=true then t D σ H1 else u D σ H1
theorem bt {c:Expr}{a b:List Stmt}{tc:TT}(hc:PT X c tc)(ha:vk X a t)(hb:vk X b u):PS X (.If c a b pos) (Eh tc t u):=by
 intro pins s σ H D I h
 refine wpAny_If (bz (hc s σ H _ I h) fun d s1 hz_ =>?_)
 refine ai.el hz_ _ ?_
 clear hz_
 rintro H1 I1 q1
 cases d with
 | true=>exact ha s1 σ H1 D I1 q1
 | false=>exact hb s1 σ H1 D I1 q1
end
abbrev TG:=V->St->Hp->(St->Hp->Prop)->Prop
abbrev zU:=List V->St->Hp->(St->Hp->Prop)->Prop
def PG (X:Cx)(target:Expr)(t:TG):Prop:=
 ∀ ⦃pins:List (Addr×Obj)⦄ (s:Shared) (σ:St) (H:Hp) (v:V) (u:Value) (Q:St->Hp->Prop),Inv X pins σ H s->RelV v u->t v σ H Q ->
  wpAny (model X.prog X.w) X.A (assign target X.env u) (fun _ s'=>eu fun σ' H'=>Inv X pins σ' H' s'/\Q σ' H') X.xe s
def Lw (X:Cx)(ts:List Expr)(t:zU):Prop:=
 ∀ ⦃pins:List (Addr×Obj)⦄ (s:Shared) (σ:St) (H:Hp) (vs:List V) (us:List Value) (Q:St->Hp->Prop),Inv X pins σ H s->Vals vs us->t vs σ H Q ->
  wpAny (model X.prog X.w) X.A (assignInOrder ((assignEach ts X.env).map (·.2)) us) (fun _ s'=>eu fun σ' H'=>Inv X pins σ' H' s'/\Q σ' H') X.xe s
abbrev JA:=V->V->V->Hp->(Hp->Prop)->Prop
def MQ (X:Cx)(t:JA):Prop:=
 ∀ ⦃pins:List (Addr×Obj)⦄ (s:Shared) (σ:St) (H:Hp) (o i v:V) (ov iv u:Value) (Q:Hp->Prop),Inv X pins σ H s->RelV o ov->RelV i iv->RelV v u->t o i v H Q ->
  wpAny (model X.prog X.w) X.A (setItem ov iv u) (fun _ s'=>∃H',Inv X pins σ H' s'/\Q H') X.xe s
abbrev OO:=V->V->Hp->VK->Prop
def S8 (X:Cx)(op:Operator)(t:OO):Prop:=
 ∀ ⦃pins:List (Addr×Obj)⦄ (s:Shared) (σ:St) (H:Hp) (x y:V) (v u:Value) (Q:VK),Inv X pins σ H s->RelV x v->RelV y u->t x y H Q ->
  wpAny (model X.prog X.w) X.A (inplaceOp op v u) (EP X pins σ Q) X.xe s
section
variable {X:Cx}{pos:Pos}
def pY (i:Nat):TG:=fun v σ H Q=>Q (σ.set i (some v)) H
theorem aQ {i:Nat}{x:Str}(hN:X.N.Nodup)(hi:X.N[i]? = some x)(hx:Loc X.env.scope x)(hf:X.fn x=true∨X.env.scope.names.lookup x=some .local:=by first|exact .inl rfl|exact .inr rfl|assumption):PG X (.Name x pos) (pY i):=by
 intro pins s σ H v u Q I r h
 exact wpAny_assign_Name (fV I hN hi hx r (fun s' I'=>⟨_,H,I',h⟩) hf)
noncomputable def HY:zU:=fun vs σ H Q=>vs=[]/\Q σ H
noncomputable def DH (t:TG)(u:zU):zU:=fun vs σ H Q=>eu fun v r=>vs=v::r/\t v σ H fun σ' H'=>u r σ' H' Q
theorem cY:Lw X [] HY:=by
 intro pins s σ H vs us Q I r h
 obtain⟨e,h⟩:=h
 subst e
 cases r
 exact assignInOrder_nil ⟨σ,H,I,h⟩
theorem aY {e:Expr}{es:List Expr}{t:TG}{u:zU}(h1:PG X e t)(h2:Lw X es u)
  (hs:(assignEach (e::es) X.env).map (·.2)=assign e X.env::(assignEach es X.env).map (·.2):=by rfl):Lw X (e::es) (DH t u):=by
 intro pins s σ H vs us Q I r h
 obtain⟨v,vr,e1,h⟩:=h
 subst e1
 cases r with
 | cons r rr=>
  rw[hs]
  refine assignInOrder_cons (bz (h1 s σ H _ _ _ I r h) fun _ s1 hz_ =>?_)
  refine ai.el hz_ _ ?_
  clear hz_
  rintro σ1 H1 I1 q1
  exact h2 s1 σ1 H1 _ _ Q I1 rr q1
def HE (K:Ja)(n:Nat)(t:zU):TG:=fun v σ H Q=>eu fun a xs=>v = .ref a/\bF K H a xs/\xs.length=n/\t xs σ H Q
theorem Hn {es:List Expr}{k:Nat}{t:zU}{n:Nat}(hc:X.calm=true)(h:Lw X es t)
  (hn:(assignEach es X.env).length=n:=by rfl) (jZ:(assignEach es X.env).findIdx? (·.1)=none:=by rfl):PG X (.Tuple es k pos) (HE X.K n t):=by
 intro pins s σ H v u Q I r hw
 obtain⟨a,xs,e1,hq,hl,hw⟩:=hw
 subst e1
 cases r
 obtain⟨aq,rv,ht,hz⟩:=I.tuple hq
 refine assign_Tuple_tuple (I.ok.hd hc) ht (by simp[hn,<-hl,rv.length]) jZ fun h' hx =>?_
 have I1:Inv X pins σ H { s with heap:=h' }:=I.kept (t':=s.toks) fun b o e=>hx b o (Jl (Jf e)) e
 exact h _ σ H xs _ Q I1 (by simpa using rv) hw
def RN (to ti:TE)(t:JA):TG:=fun v σ H Q=>to σ H fun o H1=>ti σ H1 fun i H2=>t o i v H2 fun H3=>Q σ H3
theorem JJ {o i:Expr}{to ti:TE}{t:JA}(ho:PE X o to)(hi:PE X i ti)(hs:MQ X t)
  (ha:∀v,assign (.Subscript o i pos) X.env v=(do
   let ov <-holding [v] (eval o X.env)
   let iv <-holding [v,ov] (eval i X.env)
   standAt pos
   holding [v,ov,iv] (setItem ov iv v)
   release [v,ov,iv] []):=by intro _;rfl):PG X (.Subscript o i pos) (RN to ti t):=by
 intro pins s σ H v u Q I r h
 rw[ha]
 refine wpAny_bind (wpAny_holding (bz (ho s σ H _ I h) fun ov s1 hz_ =>?_))
 refine ai.el hz_ _ ?_
 clear hz_
 rintro x H1 I1 r1 q1
 refine wpAny_bind (wpAny_holding (bz (hi s1 σ H1 _ I1 q1) fun iv s2 hz_ =>?_))
 refine ai.el hz_ _ ?_
 clear hz_
 rintro y H2 I2 r2 q2
 refine wpAny_bind (wpAny_standAt (wpAny_bind (wpAny_holding (bz (hs s2 σ H2 x y v ov iv u _ I2 r1 r2 r q2) fun _ s3 hz_ =>?_))))
 refine ai.el hz_ _ ?_
 clear hz_
 rintro H3 I3 q3
 exact wpAny_release ⟨σ,H3,I3,q3⟩
def E5 (te:TE)(g:TG):TS:=fun D σ H=>te σ H fun x H1=>g x σ H1 D.nx
theorem xo {tg e:Expr}{te:TE}{g:TG}(he:PE X e te)(hg:PG X tg g)(hs:swapsWithSole [tg] e pos.line X.env=pure false:=by rfl)(hw:swappedStores [tg] e X.env=pure none:=by rfl)
  (h1:(assignEach [tg] X.env).map (·.2)=[assign tg X.env]:=by rfl):PS X (.Assign [tg] e pos) (E5 te g):=by
 intro pins s σ H D I h
 refine wpAny_Assign_stores (bz (he s σ H _ I h) fun v s1 hz_=>ai.el hz_ _ fun x H1 I1 r1 q1 =>?_) hs hw
 rw[h1]
 exact bz (hg s1 σ H1 x v _ I1 r1 q1) fun _ s2 q=>q
theorem aA {i:Nat}{x:Str}{e:Expr}{te:TE}{pos':Pos}(hN:X.N.Nodup)(hi:X.N[i]? = some x)(hx:Loc X.env.scope x)(he:PE X e te)(hs:swapsWith e (some (.Name x pos')) pos.line X.env=pure false:=by rfl)(hf:X.fn x=true∨X.env.scope.names.lookup x=some .local:=by first|exact .inl rfl|exact .inr rfl|assumption):
  PS X (.Assign [.Name x pos'] e pos) (E5 te (pY i)):=by
 intro pins s σ H D I h
 refine wpAny_Assign_Name (bz (he s σ H _ I h) fun v s1 hz_=>ai.el hz_ _ fun y H1 I1 r1 q1 =>?_) hs
 exact fV I1 hN hi hx r1 (fun s2 I2=>⟨_,H1,I2,q1⟩) hf
def Ry (i j:Nat)(ta:TA):TS:=fun D σ H=>ta σ H fun vs H1=>eu fun v w=>vs=[v,w]/\D.nx ((σ.set i (some v)).set j (some w)) H1
theorem JX {i j:Nat}{x y:Str}{a b:Expr}{ta:TA}{px py pt:Pos}{kt k2 pt2}(hc:X.calm=true)(hN:X.N.Nodup)(hi:X.N[i]? = some x)(hj:X.N[j]? = some y)(u4:i≠j)
  (hx:X.env.scope.names.lookup x=some .local) (hy:X.env.scope.names.lookup y=some .local) (ha:PA X [a,b] ta)
  (hw:swappedStores [.Tuple [.Name x px,.Name y py] kt pt] (.Tuple [a,b] k2 pt2) X.env=pure (some [x,y]))
  (hs:swapsWithSole [.Tuple [.Name x px,.Name y py] kt pt] (.Tuple [a,b] k2 pt2) pos.line X.env=pure false:=by rfl) :
  PS X (.Assign [.Tuple [.Name x px,.Name y py] kt pt] (.Tuple [a,b] k2 pt2) pos) (Ry i j ta):=by
 intro pins s σ H D I h
 rw[exec_Assign_arm]
 refine wpAny_bind (wpAny_standAt ?_)
 rw[hs]
 refine wpAny_bind (wpAny_pure ?_)
 rw[if_neg (by decide)]
 refine wpAny_bind (Tuple_ (bz (ha s σ H _ I h) fun us s1 hz_ =>?_))
 refine ai.el hz_ _ ?_
 clear hz_
 rintro vs H1 I1 r1 q1
 obtain⟨v,w,e1,q1⟩:=q1
 subst e1
 obtain⟨u1,u2,rfl,rv,rw'⟩:∃u1 u2,us=[u1,u2]/\RelV v u1/\RelV w u2:=by
  cases r1 with
  | cons p q=>
   cases q with
   | cons p' q'=>
    cases q'
    exact⟨_,_,rfl,p,p'⟩
 refine wpAny_newObj_type ?_ (by show 2<=sizeLine;decide)
 have I2:Inv X pins σ H1 { s1 with heap:=s1.heap.push { cls := .type "tuple",data := .seq [u1,u2].toArray } }:=I1.kept (t':=s1.toks) fun b o e=>Jb _ e
 rw[hw]
 refine wpAny_bind (wpAny_pure ?_)
 show wpAny (model X.prog X.w) X.A (do rule "assign.swapped-stores";let items <-unpackItems (.ref s1.heap.objs.size) 2 none;assignInOrder [fun v=>bindName X.env y v,fun v=>bindName X.env x v] items.reverse;pure Flow.next) _ _ _
 refine wpAny_bind (wpAny_rule (wpAny_bind (unpackItems_tuple (items := #[u1,u2]) (I.ok.hd hc) (IsTup.new s1.heap _) fun h' l7 =>?_)))
 have I3:=I2.kept (h':=h') (t':=s1.toks) fun b o e=>l7 b o (Jl (Jf e)) e
 show wpAny _ _ (assignInOrder [fun v=>bindName X.env y v,fun v=>bindName X.env x v] [u2,u1] >>= fun _=>pure Flow.next) _ _ _
 refine wpAny_bind (assignInOrder_cons (wpAny_bindName (fV I3 hN hj (.inl hy) rw' (fun s2 I4 =>?_) (.inr hy))))
 refine assignInOrder_cons (wpAny_bindName (fV I4 hN hi (.inl hx) rv (fun s3 I5=>assignInOrder_nil (wpAny_pure ?_)) (.inr hx)))
 rw[List.set_comm _ _ (Ne.symm u4)] at I5
 exact⟨_,H1,I5,q1⟩
def O7 (i:Nat)(te:TE)(ti:OO):TS:=fun D σ H=>∃x,σ[i]? = some (some x)/\te σ H fun y H1=>ti x y H1 fun z H2=>D.nx (σ.set i (some z)) H2
theorem vD {i:Nat}{x:Str}{e:Expr}{te:TE}{op:Operator}{ti:OO}{pos':Pos}(hN:X.N.Nodup)(hi:X.N[i]? = some x)(hx:Loc X.env.scope x)(he:PE X e te)(ho:S8 X op ti)(hf:X.fn x=true∨X.env.scope.names.lookup x=some .local:=by first|exact .inl rfl|exact .inr rfl|assumption):
  PS X (.AugAssign (.Name x pos') op e pos) (O7 i te ti):=by
 intro pins s σ H D I h
 obtain⟨v,e1,h⟩:=h
 obtain⟨m,hn,hl⟩:=I.loc
 have Ng:KZ X.env.scope x:=by rcases hx with k|k;exact .inl k;exact .inr (.inl k)
 obtain⟨u,r,l⟩:=hl i x v hi e1 Ng
 refine wpAny_AugAssign_Name ?_
 have go:wpAny (model X.prog X.w) X.A (eval e X.env) (fun w s₂=>wpAny (model X.prog X.w) X.A (inplaceOp op u w) (fun r s₃=>wpAny (model X.prog X.w) X.A (storeName X.env x r) (fun _=>SP X pins D .next) X.xe s₃) X.xe s₂) X.xe s:=by
  refine bz (he s σ H _ I h) fun w s1 hz_ =>?_
  refine ai.el hz_ _ ?_
  clear hz_
  rintro y H1 I1 r1 q1
  refine bz (ho s1 σ H1 v y u w _ I1 r r1 q1) fun z s2 hz_ =>?_
  refine ai.el hz_ _ ?_
  clear hz_
  rintro zv H2 I2 r2 q2
  exact fV I2 hN hi hx r2 (fun s3 I3=>⟨_,H2,I3,q2⟩) hf
 rcases l with ⟨hk,hm⟩|⟨hk,c,hc,hcell⟩
 ·exact wpAny_loadName_local I.ok.kind hk hn hm go
 ·rcases hk with hk|hk
  ·exact wpAny_loadName_cell I.ok.kind hk hc hcell go
  ·rcases hx with k|k
   ·have:X.env.scope.names.lookup x=some .free:=hk
    rw[k] at this;cases this
   ·have:X.env.scope.names.lookup x=some .free:=hk
    rw[k] at this;cases this
noncomputable def T8 (f:Int->Int->Int):OO:=fun x y H Q=>eu fun i j=>x = .int i/\y = .int j/\Q (.int (f i j)) H
theorem Cq:S8 X .Add (T8 fun i j=>i+j):=by
 intro pins s σ H x y v u Q I r1 r2 h
 obtain⟨i,j,e1,e2,q⟩:=h
 subst e1;subst e2
 obtain⟨t,rfl⟩:=r1
 obtain⟨t',rfl⟩:=r2
 exact iadd_int ⟨.int _,H,I.tok _,⟨_,rfl⟩,q⟩
end
section
variable {X:Cx}{pos:Pos}
def oM (c:TT)(tb:TS):TS:=fun D σ H=>∃W:Nat->St->Hp->Prop,(∃m,W m σ H)/\∀m σ H,W m σ H ->
 c σ H fun b H1=>if b=true then ∃N:St->Hp->Prop,(∀ σ' H',N σ' H'->∃m',m'<m/\W m' σ' H')/\tb { D with nx:=N,ct:=N,bk:=D.nx } σ H1 else D.nx σ H1
theorem oG {c:Expr}{body:List Stmt}{tc:TT}{tb:TS}(hp:PassesOwn (model X.prog X.w) X.A X.env X.xe)(hc:PT X c tc)(hb:vk X body tb):PS X (.While c body [] pos) (oM tc tb):=by
 intro pins s σ H D I h
 obtain⟨W,⟨m0,w0⟩,turn⟩:=h
 refine wpAny_While (codeAny_whileLoop (fun n s'=>∃ σ' H',Inv X pins σ' H' s'/\W n σ' H') ?_ m0 ⟨σ,H,I,w0⟩)
 rintro n s1 ⟨σ1,H1,I1,w1⟩
 refine wpAny_passesOwn hp (bz (hc s1 σ1 H1 _ I1 (turn n σ1 H1 w1)) fun b s2 hz_ =>?_)
 refine ai.el hz_ _ ?_
 clear hz_
 rintro H2 I2 q2
 cases b with
 | true=>
  obtain⟨N,hN,q2⟩:=q2
  rw[if_pos rfl]
  refine wpAny_passesOwn hp (bz (hb s2 σ1 H2 _ I2 q2) fun f s3 q3 =>?_)
  cases f with
  | next=>
   obtain⟨σ3,H3,I3,n3⟩:=q3
   obtain⟨m',hm,w3⟩:=hN σ3 H3 n3
   exact⟨m',hm,σ3,H3,I3,w3⟩
  | cont=>
   obtain⟨σ3,H3,I3,n3⟩:=q3
   obtain⟨m',hm,w3⟩:=hN σ3 H3 n3
   exact⟨m',hm,σ3,H3,I3,w3⟩
  | brk=>exact q3
  | ret v=>exact q3
 | false=>
  rw[if_neg Jm]
  exact wpAny_execs_nil ⟨σ1,H2,I2,q2⟩
end
structure It where
 go:Nat->Hp->Prop
 yld:Nat->Hp->V->Hp->Prop
 stop:Nat->Hp->Prop
def dU (X:Cx)(pins:List (Addr×Obj))(H:Hp)(b:Addr):Prop:=
 H b=none/\b≠X.env.locals/\b∉X.fs/\(b∈X.ex∨X.s₀.heap.objs.size<=b)/\(∀x c,X.env.cells.lookup x=some c->c≠b)/\∀p∈X.pn++pins,p.1≠b
theorem Inv.eA {X:Cx}{pins:List (Addr×Obj)}{σ:St}{H H':Hp}{s:Shared}{b:Addr}(I:Inv X pins σ H s)(hb:s.heap.objs.size<=b)(hn:H' b=none):dU X pins H' b:=by
 refine⟨hn,Uh (Jn I.lt hb),I.LV hb,.inr (Ji I.sz hb),fun x c e z =>?_,fun p hp z =>?_⟩
 ·obtain⟨v,q⟩:=I.cell x c e
  exact absurd (Jn q.lt (by rw[z];exact hb)) (Uc _)
 ·exact absurd (Jn (Jf (I.pin p hp).1) (by rw[z];exact hb)) (Uc _)
structure Turn (P:Program)(w:World)(K:Ja)(tg:Expr)(J:It)(fp:List Addr)(it:Addr)(tn:Nat->Heap->Prop):Prop where
 mem:it∈fp
 obj:∀i h,tn i h->∀b∈fp,∃o,h.get? b=some o/\∀v,o.data ≠ .cell v
 keep:∀i h h',tn i h->(∀b∈fp,∀o,h.get? b=some o->h'.get? b=some o)->tn i h'
 item:∀(X:Cx),X.prog=P->X.w=w->X.K=K->X.calm=true->∀(i:Nat) (pins:List (Addr×Obj)) (s:Shared) (σ:St) (H:Hp) (E:Value->Shared->Prop),Inv X pins σ H s->(∀b∈fp,dU X pins H b)->tn i s.heap->J.go i H ->
  wpAny (model P w) X.A (pyNext (.ref it)) (fun r s1=>∃u,r=some u /\
   wpAny (model P w) X.A (letOwnedTupleGo tg (.ref it) u) (fun _ s2=>∃x H',Inv X pins σ H' s2/\RelV x u/\J.yld i H x H'/\tn (i+1) s2.heap/\∀b∈fp,H' b=none) E s1) E s
 done:∀(X:Cx),X.prog=P->X.w=w->X.K=K->X.calm=true->∀(i:Nat) (pins:List (Addr×Obj)) (s:Shared) (σ:St) (H:Hp) (E:Value->Shared->Prop),Inv X pins σ H s->(∀b∈fp,dU X pins H b)->tn i s.heap->J.stop i H ->
  wpAny (model P w) X.A (pyNext (.ref it)) (fun r s1=>r=none/\Inv X pins σ H s1) E s
 self:∀(A:Around) (i:Nat) (s:Shared) (Q:Value->Shared->Prop) (E:Value->Shared->Prop),tn i s.heap->Q (.ref it) s->wpAny (model P w) A (pyIter (.ref it)) Q E s
abbrev TI:=St->Hp->(It->Hp->Prop)->Prop
def TH (X:Cx)(pins:List (Addr×Obj))(σ:St)(tg:Expr)(R:It->Hp->Prop)(Oq:Value)(s2:Shared):Prop:=
 yf fun(it:Addr) (fp:List Addr) (tn:Nat->Heap->Prop) (J:It) (H':Hp)=>Oq = .ref it/\Inv X pins σ H' s2/\Turn X.prog X.w X.K tg J fp it tn/\tn 0 s2.heap/\(∀b∈fp,dU X pins H' b)/\R J H'
def PI (X:Cx)(tg iter:Expr)(wi:TI):Prop:=
 ∀ ⦃pins:List (Addr×Obj)⦄ (s:Shared) (σ:St) (H:Hp) (R:It->Hp->Prop),Inv X pins σ H s->wi σ H R ->
  wpAny (model X.prog X.w) X.A (eval iter X.env) (fun v s1=>wpAny (model X.prog X.w) X.A (pyIter v) (TH X pins σ tg R) X.xe s1) X.xe s
theorem Di {M:Model}{A:Around}{E:Value->Shared->Prop}{s:Shared}{tg:Expr}{it:Addr}{u:Value}{o:Obj}{n:String}{vs:Array Value}{Q:Unit->Shared->Prop}(ho:s.heap.get? it=some o)(hc:o.cls = .type n)(hd:o.data = .fields vs)
  (hn:["enumerate", "zip", "dict_itemiterator", "dict_reverseitemiterator", "odict_iterator", "itertools.zip_longest", "itertools.pairwise"].contains n=false) (hQ:Q () s):wpAny M A (letOwnedTupleGo tg (.ref it) u) Q E s:=by
 unfold letOwnedTupleGo
 cases tg<;>first
  | exact wpAny_pure hQ
  | (cases u<;>first
    | exact wpAny_pure hQ
    | (refine wpAny_bind (wpAny_load ho ?_)
       rw[hc,hd]
       show wpAny M A (if (["enumerate", "zip", "dict_itemiterator", "dict_reverseitemiterator", "odict_iterator", "itertools.zip_longest", "itertools.pairwise"].contains n&&vs[0]? == some (rawInt _))=true then _ else _) Q E s
       rw[if_neg (by intro h;rw[hn,Yk] at h;cases h)]
       exact wpAny_pure hQ))
noncomputable def LG (K:Ja)(a:Addr):It:=
 ⟨fun i H=>eu fun xs x=>bq K H a xs/\xs[i]? = some x,fun i H x H'=>H'=H/\∀xs,bq K H a xs->xs[i]? = some x,fun i H=>∃xs,bq K H a xs/\xs.length<=i⟩
noncomputable def TJ (K:Ja)(a:Addr):It:=
 ⟨fun i H=>eu fun xs x=>bF K H a xs/\xs[i]? = some x,fun i H x H'=>H'=H/\∀xs,bF K H a xs->xs[i]? = some x,fun i H=>∃xs,bF K H a xs/\xs.length<=i⟩
noncomputable def K3 (lo:Int)(n:Nat):It:=⟨fun i _=>i<n,fun i H x H'=>H'=H/\x = .int (lo+i),fun i _=>n<=i⟩
theorem AA {P:Program}{w:World}{K:Ja}{tg:Expr}(a it:Addr):Turn P w K tg (LG K a) [it] it (fun i h=>h.IsListIter it a i) where
 mem:=by simp
 obj:=fun i h st b hb=>by
  have e:b=it:=by simpa using hb
  subst e
  obtain⟨o,e,c,d⟩:=st
  exact⟨o,e,fun v z=>by rw[d] at z;cases z⟩
 keep:=fun i h h' st k=>st.at fun o e=>k it (by simp) o e
 item:=by
  intro X hP hw hK hc i pins s σ H E I hf st hg
  subst hP hw hK
  obtain⟨xs,x,hq,hx⟩:=hg
  obtain⟨aq,rv,p,hz⟩:=I.list hq
  obtain⟨u,hu,ru⟩:=rv.get hx
  obtain⟨f0,f1,f2,f3,f4,f5⟩:=hf it (by simp)
  refine wpAny_pyNext_list_item st p.isList (x:=u) (by simpa using hu) fun h' st' sb =>?_
  have I1:Inv X pins σ H { s with heap:=h' }:=I.turned (t':=s.toks) (fun b o hb e=>(sb.2 b hb).trans e) f0 f1 f3 f4 f5
  obtain⟨o,e,c,d⟩:=id st'
  exact⟨u,rfl,Di (s:={ s with heap:=h' }) e c d (by decide) ⟨x,H,I1,ru,⟨rfl,fun ys hy=>by rw[I.mz hy hq];exact hx⟩,st',fun b hb=>(hf b hb).1⟩⟩
 done:=by
  intro X hP hw hK hc i pins s σ H E I hf st hg
  subst hP hw hK
  obtain⟨xs,hq,hx⟩:=hg
  obtain⟨aq,rv,p,hz⟩:=I.list hq
  obtain⟨f0,f1,f2,f3,f4,f5⟩:=hf it (by simp)
  have hl:=rv.length
  exact wpAny_pyNext_list_end (I.ok.hd hc) st p.isList (by simp;omega) fun h' eb=>⟨rfl,I.turned (t':=s.toks) (fun b o hb e=>eb b o hb e) f0 f1 f3 f4 f5⟩
 self:=fun _ _ _ _ _ st h=>wpAny_pyIter_listiter st h
theorem xx {P:Program}{w:World}{K:Ja}{tg:Expr}(a it:Addr):Turn P w K tg (TJ K a) [it] it (fun i h=>h.IsTupleIter it a i) where
 mem:=by simp
 obj:=fun i h st b hb=>by
  have e:b=it:=by simpa using hb
  subst e
  obtain⟨o,e,c,d⟩:=st
  exact⟨o,e,fun v z=>by rw[d] at z;cases z⟩
 keep:=fun i h h' st k=>st.at fun o e=>k it (by simp) o e
 item:=by
  intro X hP hw hK hc i pins s σ H E I hf st hg
  subst hP hw hK
  obtain⟨xs,x,hq,hx⟩:=hg
  obtain⟨aq,rv,p,hz⟩:=I.tuple hq
  obtain⟨u,hu,ru⟩:=rv.get hx
  obtain⟨f0,f1,f2,f3,f4,f5⟩:=hf it (by simp)
  refine wpAny_pyNext_tuple_item st (show s.heap.IsTuple a aq.toArray from p) (x:=u) (by simpa using hu) fun h' st' sb =>?_
  have I1:Inv X pins σ H { s with heap:=h' }:=I.turned (t':=s.toks) (fun b o hb e=>(sb.2 b hb).trans e) f0 f1 f3 f4 f5
  obtain⟨o,e,c,d⟩:=id st'
  exact⟨u,rfl,Di (s:={ s with heap:=h' }) e c d (by decide) ⟨x,H,I1,ru,⟨rfl,fun ys hy=>by rw[I.qm hy hq];exact hx⟩,st',fun b hb=>(hf b hb).1⟩⟩
 done:=by
  intro X hP hw hK hc i pins s σ H E I hf st hg
  subst hP hw hK
  obtain⟨xs,hq,hx⟩:=hg
  obtain⟨aq,rv,p,hz⟩:=I.tuple hq
  obtain⟨f0,f1,f2,f3,f4,f5⟩:=hf it (by simp)
  have hl:=rv.length
  exact wpAny_pyNext_tuple_end (I.ok.hd hc) st (show s.heap.IsTuple a aq.toArray from p) (by simp;omega) fun h' eb=>⟨rfl,I.turned (t':=s.toks) (fun b o hb e=>eb b o hb e) f0 f1 f3 f4 f5⟩
 self:=fun _ _ _ _ _ st h=>wpAny_pyIter_tupleiter st h
theorem vH {P:Program}{w:World}{K:Ja}{tg:Expr}(it:Addr)(lo:Int)(n:Nat):Turn P w K tg (K3 lo n) [it] it (fun i h=>IsRangeIter h it (lo+(i:Nat)*1) ((n:Int)-(i:Nat)) 1) where
 mem:=by simp
 obj:=fun i h st b hb=>by
  have e:b=it:=by simpa using hb
  subst e
  exact⟨_,st,fun v z=>by
   have z':Data.fields _=Data.cell v:=z
   cases z'⟩
 keep:=fun i h h' st k=>k it (by simp) _ st
 item:=by
  intro X hP hw hK hc i pins s σ H E I hf st hg
  subst hP hw hK
  obtain⟨f0,f1,f2,f3,f4,f5⟩:=hf it (by simp)
  have W:=Walks.range (prog:=X.prog) (w:=X.w) (I.ok.hd hc) it lo 1 n
  refine W.item i s _ _ hg st fun v h' tk hv st' kk =>?_
  obtain⟨t,rfl⟩:=hv
  have I1:Inv X pins σ H { s with heap:=h',toks:=tk }:=I.turned (fun b o hb e=>kk b o (by simpa using hb) e) f0 f1 f3 f4 f5
  refine⟨_,rfl,Di (s:={ s with heap:=h',toks:=tk }) (n := "range_iterator") st' rfl rfl (by decide) ⟨.int (lo+i),H,I1,⟨t,?_⟩,⟨rfl,rfl⟩,st',fun b hb=>(hf b hb).1⟩⟩
  rw[Int.mul_one]
 done:=by
  intro X hP hw hK hc i pins s σ H E I hf st hg
  subst hP hw hK
  obtain⟨f0,f1,f2,f3,f4,f5⟩:=hf it (by simp)
  exact wpAny_pyNext_range_end (I.ok.hd hc) st (by have:n<=i:=hg;omega) fun h' eb=>⟨rfl,I.turned (t':=s.toks) (fun b o hb e=>eb b o hb e) f0 f1 f3 f4 f5⟩
 self:=fun _ _ _ _ _ st h=>wpAny_pyIter_rangeiter st h
section
variable {X:Cx}{tg:Expr}
def GH (K:Ja)(tl:TE):TI:=fun σ H R=>tl σ H fun x H1=>∃a,x = .ref a/\(∃xs,bq K H1 a xs)/\R (LG K a) H1
def M8 (K:Ja)(tl:TE):TI:=fun σ H R=>tl σ H fun x H1=>∃a,x = .ref a/\(∃xs,bF K H1 a xs)/\R (TJ K a) H1
theorem E7 {l:Expr}{tl:TE}(hl:PE X l tl):PI X tg l (GH X.K tl):=by
 intro pins s σ H R I h
 refine bz (hl s σ H _ I h) fun v s1 hz_ =>?_
 refine ai.el hz_ _ ?_
 clear hz_
 rintro x H1 I1 r1 q1
 obtain⟨a,e,⟨xs,hq⟩,q⟩:=q1
 subst e
 cases r1
 obtain⟨aq,rv,p,hz⟩:=I1.list hq
 refine wpAny_pyIter_list p.isList ?_
 refine⟨s1.heap.objs.size,[s1.heap.objs.size],_,_,H1,rfl,I1.kept (t':=s1.toks) fun b o e=>Jb _ e,AA a _,⟨_,Jj _ rfl,rfl,rfl⟩,fun b hb =>?_,q⟩
 have e:b=s1.heap.objs.size:=by simpa using hb
 subst e
 exact I1.eA (Je _) (I1.bw.fresh (Je _))
theorem JU {l:Expr}{tl:TE}(hl:PE X l tl):PI X tg l (M8 X.K tl):=by
 intro pins s σ H R I h
 refine bz (hl s σ H _ I h) fun v s1 hz_ =>?_
 refine ai.el hz_ _ ?_
 clear hz_
 rintro x H1 I1 r1 q1
 obtain⟨a,e,⟨xs,hq⟩,q⟩:=q1
 subst e
 cases r1
 obtain⟨aq,rv,p,hz⟩:=I1.tuple hq
 refine wpAny_pyIter_tuple (show s1.heap.IsTuple a aq.toArray from p) ?_
 refine⟨s1.heap.objs.size,[s1.heap.objs.size],_,_,H1,rfl,I1.kept (t':=s1.toks) fun b o e=>Jb _ e,xx a _,⟨_,Jj _ rfl,rfl,rfl⟩,fun b hb =>?_,q⟩
 have e:b=s1.heap.objs.size:=by simpa using hb
 subst e
 exact I1.eA (Je _) (I1.bw.fresh (Je _))
theorem Dg {pins:List (Addr×Obj)}{σ:St}{H:Hp}{s:Shared}{R:It->Hp->Prop}{E:Value->Shared->Prop}{lo hi:Int}{t u v:Tok}{tk:Nat}(I:Inv X pins σ H s)(h1: -(2^62)<=lo)(h2:lo<2^62)(h3: -(2^62)<=hi)(h4:hi<2^62)
  (q:R (K3 lo (hi-lo).toNat) H):wpAny (model X.prog X.w) X.A (pyIter (.ref s.heap.objs.size)) (TH X pins σ tg R) E { s with heap:=s.heap.push { cls := .type "range",data := .fields #[.int lo t,.int hi u,.int 1 v] },toks:=tk }:=by
 refine wpAny_pyIter_range (IsRange.new ..) (small_one h1 h2 h3 h4) ?_
 have I1:Inv X pins σ H { s with heap:=s.heap.push { cls := .type "range",data := .fields #[.int lo t,.int hi u,.int 1 v] },toks:=tk }:=I.kept fun b o e=>Jb _ e
 refine⟨(s.heap.push { cls := .type "range",data := .fields #[.int lo t,.int hi u,.int 1 v] }).objs.size,[(s.heap.push { cls := .type "range",data := .fields #[.int lo t,.int hi u,.int 1 v] }).objs.size],_,_,H,rfl,
  I1.kept (t':=tk) fun b o e=>Jb _ e,vH _ lo (hi-lo).toNat,?_,fun b hb =>?_,q⟩
 ·have e1:lo+((0:Nat):Int)*1=lo:=by simp
  have e2:(((hi-lo).toNat:Nat):Int)-((0:Nat):Int)=Builtin.Range.rangeSize lo hi 1:=by rw[rangeSize_one];split<;>omega
  show IsRangeIter _ _ (lo+((0:Nat):Int)*1) ((((hi-lo).toNat:Nat):Int)-((0:Nat):Int)) 1
  rw[e1,e2]
  exact Jj _ rfl
 ·have e:b=(s.heap.push { cls := .type "range",data := .fields #[.int lo t,.int hi u,.int 1 v] }).objs.size:=by simpa using hb
  subst e
  exact I1.eA (Je _) (I1.bw.fresh (Je _))
def M6 (ta:TA):TI:=fun σ H R=>ta σ H fun vs H1=>∃j:Int,vs=[.int j] /\ -(2^62)<=j/\j<2^62/\R (K3 0 j.toNat) H1
theorem eR {a:Expr}{ta:TA}{p pos:Pos}(hg:Gl X "range")(hm:X.mg "range" = none)(ha:PA X [a] ta)(hs:starEach [a] X.env=[(false,eval a X.env)]:=by rfl):PI X tg (.Call (.Name "range" p) [a] [] pos) (M6 ta):=by
 intro pins s σ H R I h
 refine Call_ (dF I hg hm boot_range (PyProof.Rows.callWith_type1 (bz (ha s σ H _ I h) fun us s1 hz_=>ai.el hz_ _ fun vs H1 I1 r1 q1 =>?_) hs rfl))
 obtain⟨j,e,q1,q2,q⟩:=q1
 subst e
 cases r1 with
 | cons r rr=>
  cases rr
  obtain⟨t,rfl⟩:=r
  exact call_range_1 (Dg I1 (by omega) (by omega) q1 q2 (by simpa using q))
def Kt (wi:TI)(g:TG)(tb:TS):TS:=fun D σ H=>wi σ H fun J H1=>∃W:Nat->Nat->St->Hp->Prop,(∃m,W 0 m σ H1)/\∀i m σ H,W i m σ H ->
 (J.stop i H/\D.nx σ H)∨(J.go i H/\∃N:St->Hp->Prop,(∀ σ' H',N σ' H'->∃m',m'<m/\W (i+1) m' σ' H')/\∀x H',J.yld i H x H'->g x σ H' fun σ2 H2=>tb { D with nx:=N,ct:=N,bk:=D.nx } σ2 H2)
noncomputable def fP (fp:List Addr)(h:Heap):List (Addr×Obj):=fp.filterMap fun b=>(h.get? b).map fun o=>(b,o)
theorem dG {fp:List Addr}{h:Heap}{b:Addr}{o:Obj}(hb:b∈fp)(e:h.get? b=some o):(b,o)∈fP fp h:=List.mem_filterMap.mpr ⟨b,hb,by rw[e];rfl⟩
theorem qB {fp:List Addr}{h:Heap}{p:Addr×Obj}(hp:p∈fP fp h):p.1∈fp/\h.get? p.1=some p.2:=by
 obtain⟨b,hb,e⟩:=List.mem_filterMap.mp hp
 cases q:h.get? b with
 | none=>rw[q] at e;cases e
 | some o=>
  rw[q] at e
  have e':(b,o)=p:=Option.some.inj e
  subst e'
  exact⟨hb,q⟩
theorem Inv.pinned {pins:List (Addr×Obj)}{σ:St}{H:Hp}{s:Shared}{fp:List Addr}(I:Inv X pins σ H s)(hf:∀b∈fp,dU X pins H b)(ho:∀b∈fp,∃o,s.heap.get? b=some o/\∀v,o.data ≠ .cell v):Inv X (pins++fP fp s.heap) σ H s:=
 I.mw fun p hp=>(U2.mp hp).elim (fun z=>I.pin p (Jx _ z)) fun z=>by
  obtain⟨hb,e⟩:=qB z
  obtain⟨f0,f1,f2,_⟩:=hf p.1 hb
  obtain⟨o,e',d⟩:=ho p.1 hb
  rw[e] at e';cases e'
  exact⟨e,f0,f1,f2,d⟩
theorem Inv.eZ {pins pl:List (Addr×Obj)}{σ:St}{H:Hp}{s:Shared}(I:Inv X (pins++pl) σ H s):Inv X pins σ H s:=I.mw fun p hp=>I.pin p (Jx _ (Yj _ hp))
theorem fH {iter:Expr}{body:List Stmt}{wi:TI}{g:TG}{tb:TS}{pos:Pos}(hp:PassesOwn (model X.prog X.w) X.A X.env X.xe)(hc:X.calm=true)(hi:PI X tg iter wi)(hg:PG X tg g)(hb:vk X body tb)
  (hs:∀x,foldedSetIterable iter X.env x=pure x:=by intro _;rfl):PS X (.For tg iter body [] pos) (Kt wi g tb):=by
 intro pins s σ H D I h
 refine wpAny_For (bz (hi s σ H _ I h) fun v s1 h1=>bz h1 fun Oq s2 h2 =>?_) hs
 obtain⟨it,fp,tn,J,H2,e,I2,T,iO,f2,W,⟨m0,w0⟩,turn⟩:=h2
 subst e
 have nM:∀{H':Hp},(∀b∈fp,H' b=none)->∀b∈fp,dU X pins H' b:=fun hn b hb=>⟨hn b hb,(f2 b hb).2⟩
 refine codeAny_forLoop_any (fun n s'=>∃i σ' H',Inv X pins σ' H' s'/\tn i s'.heap/\(∀b∈fp,H' b=none)/\W i n σ' H') ?_ m0 ⟨0,σ,H2,I2,iO,fun b hb=>(f2 b hb).1,w0⟩
 rintro n s3 ⟨i,σ3,H3,I3,dw,fr3,w3⟩
 rcases turn i n σ3 H3 w3 with ⟨stop,qn⟩|⟨go,N,hN,step⟩
 ·refine wpAny_passesOwn hp (bz (T.done X rfl rfl rfl hc i pins s3 σ3 H3 X.xe I3 (nM fr3) dw stop) fun r s4 hz_ =>?_)
  refine ai.el hz_ _ ?_
  clear hz_
  rintro hr I4
  subst hr
  exact wpAny_execs_nil ⟨σ3,H3,I4,qn⟩
 ·refine wpAny_passesOwn hp (bz (T.item X rfl rfl rfl hc i pins s3 σ3 H3 X.xe I3 (nM fr3) dw go) fun r s4 hz_ =>?_)
  refine ai.el hz_ _ ?_
  clear hz_
  rintro u hr h4
  subst hr
  refine wpAny_passesOwn hp (bz h4 fun _ s5 hz_=>ai.el hz_ _ fun x H5 I5 r5 y5 cj fr5 =>?_)
  have LA:=I5.pinned (nM fr5) (T.obj _ _ cj)
  refine wpAny_passesOwn hp (bz (hg s5 σ3 H5 x u _ LA r5 (step x H5 y5)) fun _ s6 hz_ =>?_)
  refine ai.el hz_ _ ?_
  clear hz_
  rintro σ6 H6 I6 q6
  refine wpAny_passesOwn hp (bz (hb s6 σ6 H6 _ I6 q6) fun f s7 q7 =>?_)
  have again:∀{σ7:St} {H7:Hp},Inv X (pins++fP fp s5.heap) σ7 H7 s7->N σ7 H7->∃m,m<n/\∃i σ' H',Inv X pins σ' H' s7/\tn i s7.heap/\(∀b∈fp,H' b=none)/\W i m σ' H':=fun{σ7 H7} I7 n7=>by
   obtain⟨m',hm,w7⟩:=hN σ7 H7 n7
   refine⟨m',hm,i+1,σ7,H7,I7.eZ,T.keep _ _ _ cj fun b hb o e=>(I7.pin (b,o) (Jx _ (Jx _ (dG hb e)))).1,fun b hb =>?_,w7⟩
   obtain⟨o,e,d⟩:=T.obj _ _ cj b hb
   exact(I7.pin (b,o) (Jx _ (Jx _ (dG hb e)))).2.1
  cases f with
  | next=>obtain⟨σ7,H7,I7,n7⟩:=q7;exact again I7 n7
  | cont=>obtain⟨σ7,H7,I7,n7⟩:=q7;exact again I7 n7
  | brk=>obtain⟨σ7,H7,I7,q7⟩:=q7;exact⟨σ7,H7,I7.eZ,q7⟩
  | ret v=>obtain⟨x7,σ7,H7,I7,r7,q7⟩:=q7;exact⟨x7,σ7,H7,I7.eZ,r7,q7⟩
end
theorem C5 {K:Ja}{a:Addr}{xs:List V}{g:TG}{tb:TS}{D:Ends}{σ:St}{H:Hp}(Pv:Nat->St->Hp->Prop)(h0:Pv 0 σ H)(hl:∀i σ H,i<=xs.length->Pv i σ H->bq K H a xs)
  (hs:∀i x σ H,xs[i]? = some x->Pv i σ H->g x σ H fun σ2 H2=>tb { D with nx:=Pv (i+1),ct:=Pv (i+1),bk:=D.nx } σ2 H2) (hd:∀ σ H,Pv xs.length σ H->D.nx σ H) :
  ∃W:Nat->Nat->St->Hp->Prop,(∃m,W 0 m σ H)/\∀i m σ H,W i m σ H ->
   ((LG K a).stop i H/\D.nx σ H)∨((LG K a).go i H/\∃N:St->Hp->Prop,(∀ σ' H',N σ' H'->∃m',m'<m/\W (i+1) m' σ' H')/\∀x H',(LG K a).yld i H x H'->g x σ H' fun σ2 H2=>tb { D with nx:=N,ct:=N,bk:=D.nx } σ2 H2):=by
 refine⟨fun i m σ H=>m=xs.length-i/\i<=xs.length/\Pv i σ H,⟨xs.length,by simp,Uz _,h0⟩,?_⟩
 rintro i m σ H ⟨rfl,hi,p⟩
 have q:=hl i σ H hi p
 by_cases iA:i<xs.length
 ·refine .inr ⟨⟨xs,xs[i],q,by simp[iA]⟩,Pv (i+1),fun σ' H' p'=>⟨xs.length-(i+1),by omega,rfl,iA,p'⟩,fun x H' y =>?_⟩
  obtain⟨e,y⟩:=y
  subst e
  exact hs i x σ _ (y xs q) p
 ·have e:i=xs.length:=by omega
  subst e
  exact .inl ⟨⟨xs,q,Je _⟩,hd σ H p⟩
theorem eQ {lo:Int}{n:Nat}{g:TG}{tb:TS}{D:Ends}{σ:St}{H:Hp}(Pv:Nat->St->Hp->Prop)(h0:Pv 0 σ H)
  (hs:∀i σ H,i<n->Pv i σ H->g (.int (lo+i)) σ H fun σ2 H2=>tb { D with nx:=Pv (i+1),ct:=Pv (i+1),bk:=D.nx } σ2 H2) (hd:∀ σ H,Pv n σ H->D.nx σ H) :
  ∃W:Nat->Nat->St->Hp->Prop,(∃m,W 0 m σ H)/\∀i m σ H,W i m σ H ->
   ((K3 lo n).stop i H/\D.nx σ H)∨((K3 lo n).go i H/\∃N:St->Hp->Prop,(∀ σ' H',N σ' H'->∃m',m'<m/\W (i+1) m' σ' H')/\∀x H',(K3 lo n).yld i H x H'->g x σ H' fun σ2 H2=>tb { D with nx:=N,ct:=N,bk:=D.nx } σ2 H2):=by
 refine⟨fun i m σ H=>m=n-i/\i<=n/\Pv i σ H,⟨n,by simp,Uz _,h0⟩,?_⟩
 rintro i m σ H ⟨rfl,hi,p⟩
 by_cases iA:i<n
 ·refine .inr ⟨iA,Pv (i+1),fun σ' H' p'=>⟨n-(i+1),by omega,rfl,iA,p'⟩,fun x H' y =>?_⟩
  obtain⟨e,y⟩:=y
  subst e y
  exact hs i σ _ iA p
 ·have e:i=n:=by omega
  subst e
  exact .inl ⟨Je _,hd σ H p⟩
abbrev R2:=V->V->Hp->VK->Prop
def eE (X:Cx)(f:Value->Value->Sem Value)(r:R2):Prop:=
 ∀ ⦃pins:List (Addr×Obj)⦄ (s:Shared) (σ:St) (H:Hp) (x y:V) (v u:Value) (Q:VK),Inv X pins σ H s->RelV x v->RelV y u->r x y H Q ->
  wpAny (model X.prog X.w) X.A (f v u) (EP X pins σ Q) X.xe s
def QQ (X:Cx)(f:Value->Sem Value)(r:V->Hp->VK->Prop):Prop:=
 ∀ ⦃pins:List (Addr×Obj)⦄ (s:Shared) (σ:St) (H:Hp) (x:V) (v:Value) (Q:VK),Inv X pins σ H s->RelV x v->r x H Q ->
  wpAny (model X.prog X.w) X.A (f v) (EP X pins σ Q) X.xe s
def bB (X:Cx)(f:Value)(r:List V->Hp->VK->Prop):Prop:=
 ∀ ⦃pins:List (Addr×Obj)⦄ (s:Shared) (σ:St) (H:Hp) (xs:List V) (us:List Value) (Q:VK),Inv X pins σ H s->Vals xs us->r xs H Q ->
  wpAny (model X.prog X.w) X.A (call f us) (EP X pins σ Q) X.xe s
def N8 (r:R2)(ta tb:TE):TE:=fun σ H Q=>ta σ H fun x H1=>tb σ H1 fun y H2=>r x y H2 Q
def TF (r:V->Hp->VK->Prop)(ta:TE):TE:=fun σ H Q=>ta σ H fun x H1=>r x H1 Q
def rI (C:Int->Int->Prop)(g:Int->Int->V):R2:=fun x y H Q=>eu fun i j=>x = .int i/\y = .int j/\C i j/\Q (g i j) H
def G6 (g:Int->Int->V):R2:=fun x y H Q=>eu fun i j=>x = .int i/\y = .int j/\Q (g i j) H
def rU (g:Int->V):V->Hp->VK->Prop:=fun x H Q=>∃i,x = .int i/\Q (g i) H
section
variable {X:Cx}{a b c:Expr}{ta tb tc:TE}{pos:Pos}
theorem HD (ha:PE X a ta)(hb:PE X b tb){pins:List (Addr×Obj)}{s:Shared}{σ:St}{H:Hp}{R:V->V->Hp->Prop}(I:Inv X pins σ H s)
  (h:ta σ H fun x H1=>tb σ H1 fun y H2=>R x y H2) {Q:Value->Shared->Prop} {f:Value->Value->Sem Value}
  (hf:∀v u s2 x y H2,Inv X pins σ H2 s2->RelV x v->RelV y u->R x y H2->wpAny (model X.prog X.w) X.A (f v u) Q X.xe s2) :
  wpAny (model X.prog X.w) X.A (eval a X.env) (fun v s₁=>wpAny (model X.prog X.w) X.A (eval b X.env) (fun u s₂=>wpAny (model X.prog X.w) X.A (f v u) Q X.xe s₂) X.xe s₁) X.xe s:=by
 refine bz (ha s σ H _ I h) fun v s1 hz_ =>?_
 refine ai.el hz_ _ ?_
 clear hz_
 rintro x H1 I1 r1 q1
 refine bz (hb s1 σ H1 _ I1 q1) fun u s2 hz_ =>?_
 refine ai.el hz_ _ ?_
 clear hz_
 rintro y H2 I2 r2 q2
 exact hf v u s2 x y H2 I2 r1 r2 q2
theorem aD {op:Operator}{r:R2}(ho:eE X (binaryOp op) r)(ha:PE X a ta)(hb:PE X b tb):PE X (.BinOp a op b pos) (N8 r ta tb):=by
 intro pins s σ H Q I h
 exact wpAny_BinOp (HD ha hb I h fun v u s2 x y H2 I2 rx ry q=>ho s2 σ H2 x y v u Q I2 rx ry q)
theorem oN {op:UnaryOp}{r:V->Hp->VK->Prop}(ho:QQ X (unaryOp op) r)(ha:PE X a ta):PE X (.UnaryOp op a pos) (TF r ta):=by
 intro pins s σ H Q I h
 exact UnaryOp_ (bz (ha s σ H _ I h) fun v s1 hz_=>ai.el hz_ _ fun x H1 I1 r1 q1=>ho s1 σ H1 x v Q I1 r1 q1)
theorem LJ {f:Value->Value->Sem Value}{C:Int->Int->Prop}{g:Int->Int->Int}
  (rule:∀(i j:Int) (t u:Tok) (s:Shared) (Q:Value->Shared->Prop) (E:Value->Shared->Prop),C i j->Q (.int (g i j) s.toks) { s with toks:=s.toks+1 } -> wpAny (model X.prog X.w) X.A (f (.int i t) (.int j u)) Q E s) :
  eE X f (rI C fun i j =>.int (g i j)):=by
 intro pins s σ H x y v u Q I rx ry h
 obtain⟨i,j,rfl,rfl,hc,q⟩:=h
 obtain⟨t,rfl⟩:=rx
 obtain⟨t',rfl⟩:=ry
 exact rule i j t t' s _ _ hc ⟨.int (g i j),H,I.tok _,⟨_,rfl⟩,q⟩
theorem Il {f:Value->Value->Sem Value}{g:Int->Int->Int}
  (rule:∀(i j:Int) (t u:Tok) (s:Shared) (Q:Value->Shared->Prop) (E:Value->Shared->Prop),Q (.int (g i j) s.toks) { s with toks:=s.toks+1 } -> wpAny (model X.prog X.w) X.A (f (.int i t) (.int j u)) Q E s) :
  eE X f (G6 fun i j =>.int (g i j)):=by
 intro pins s σ H x y v u Q I rx ry h
 obtain⟨i,j,rfl,rfl,q⟩:=h
 obtain⟨t,rfl⟩:=rx
 obtain⟨t',rfl⟩:=ry
 exact rule i j t t' s _ _ ⟨.int (g i j),H,I.tok _,⟨_,rfl⟩,q⟩
theorem HL {f:Value->Value->Sem Value}{g:Int->Int->Bool}
  (rule:∀(i j:Int) (t u:Tok) (s:Shared) (Q:Value->Shared->Prop) (E:Value->Shared->Prop),Q (.bool (g i j)) s->wpAny (model X.prog X.w) X.A (f (.int i t) (.int j u)) Q E s) :
  eE X f (G6 fun i j =>.bl (g i j)):=by
 intro pins s σ H x y v u Q I rx ry h
 obtain⟨i,j,rfl,rfl,q⟩:=h
 obtain⟨t,rfl⟩:=rx
 obtain⟨t',rfl⟩:=ry
 exact rule i j t t' s _ _ ⟨.bl (g i j),H,I,rfl,q⟩
def Eo (i j:Int):Prop:=0<j/\j<1073741824
def Sa (i j:Int):Prop:=0<=j/\j<=1000000/\i.natAbs<2^64
def wQ (i j:Int):Prop:=(-(2^64)<i/\i<2^64)∨(-(2^64)<j/\j<2^64)
theorem wQ.ok {i j:Int}(h:wQ i j):IntMulOk i j:=by
 rcases h with ⟨h1,h2⟩|⟨h1,h2⟩
 ·exact .of_left (intBits_le_64 h1 h2)
 ·exact .of_right (intBits_le_64 h1 h2)
theorem Hm:eE X (binaryOp .Add) (G6 fun i j =>.int (i+j)):=Il fun _ _ _ _ _ _ _ q=>add_int q
theorem et:eE X (binaryOp .Sub) (G6 fun i j =>.int (i-j)):=Il fun _ _ _ _ _ _ _ q=>sub_int q
theorem Hr:eE X (binaryOp .Mult) (rI wQ fun i j =>.int (i*j)):=LJ fun _ _ _ _ _ _ _ hc q=>mul_int q hc.ok
theorem yj:eE X (binaryOp .FloorDiv) (rI Eo fun i j =>.int (i / j)):=LJ fun i j _ _ _ _ _ hc q=>by
 have h1:(0:Int)<j:=hc.1
 have h2:j<1073741824:=hc.2
 exact floordiv_int (by omega) (by rw[Int.fdiv_eq_ediv_of_nonneg i (by omega)];exact q) (.inl (PyProof.noPylong_small (by omega)))
theorem ig:eE X (binaryOp .Mod) (rI (fun _ j=>0<j) fun i j =>.int (i%j)):=LJ fun i j _ _ _ _ _ hc q=>by
 have h1:(0:Int)<j:=hc
 exact mod_int' (by omega) (by rw[Int.fmod_eq_emod_of_nonneg i (by omega)];exact q)
theorem Kq:eE X (binaryOp .Pow) (rI Sa fun i j =>.int (i^j.toNat)):=LJ fun _ _ _ _ _ _ _ hc q=>pow_int_small hc.1 hc.2.1 hc.2.2 q
theorem JM:eE X (binaryOp .BitAnd) (G6 fun i j =>.int (Builtin.bitAnd i j)):=Il fun _ _ _ _ _ _ _ q=>and_int q
theorem Dv:eE X (inplaceOp .FloorDiv) (rI Eo fun i j =>.int (i / j)):=LJ fun i j _ _ _ _ _ hc q=>by
 have h1:(0:Int)<j:=hc.1
 have h2:j<1073741824:=hc.2
 exact ifloordiv_int (by omega) (by rw[Int.fdiv_eq_ediv_of_nonneg i (by omega)];exact q) (.inl (PyProof.noPylong_small (by omega)))
theorem Vl {f:Value->Sem Value}{g:Int->Int}
  (rule:∀(i:Int) (t:Tok) (s:Shared) (Q:Value->Shared->Prop) (E:Value->Shared->Prop),Q (.int (g i) s.toks) { s with toks:=s.toks+1 } -> wpAny (model X.prog X.w) X.A (f (.int i t)) Q E s) :
  QQ X f (rU fun i =>.int (g i)):=by
 intro pins s σ H x v Q I rx h
 obtain⟨i,rfl,q⟩:=h
 obtain⟨t,rfl⟩:=rx
 exact rule i t s _ _ ⟨.int (g i),H,I.tok _,⟨_,rfl⟩,q⟩
theorem jo:QQ X (unaryOp .USub) (rU fun i =>.int (-i)):=Vl fun _ _ _ _ _ q=>neg_int q
end
noncomputable def MS:V->V->Bool
 | .non,.non=>true | .non,.int _=>true | .int _,.non=>true | .non,.bl _=>true | .bl _,.non=>true | .non,.str _=>true | .str _,.non=>true
 | .int _,.int _=>true | .bl _,.bl _=>true | .str _,.str _=>true | .byt _,.byt _=>true
 | .int _,.str _=>true | .str _,.int _=>true | .bl _,.str _=>true | .str _,.bl _=>true
 | _,_=>false
def Ss:R2:=fun x y H Q=>MS x y=true/\Q (.bl (decide (x=y))) H
def RK:R2:=fun x y H Q=>MS x y=true/\Q (.bl (!decide (x=y))) H
theorem xO {i j:Int}:decide (V.int i=V.int j)=(i==j):=by
 rw[Y6]
 simp
theorem DG {i j:Bool}:decide (V.bl i=V.bl j)=(i==j):=by
 rw[Y6]
 simp
theorem yQ {i j:Str}:decide (V.str i=V.str j)=(i==j):=by
 rw[Y6]
 simp
theorem yS {i j:Array UInt8}:decide (V.byt i=V.byt j)=(i.toList==j.toList):=by
 rw[Y6]
 cases i
 cases j
 simp
section
variable {X:Cx}{a b c:Expr}{ta tb tc:TE}{pos:Pos}
theorem aX {pins:List (Addr×Obj)}{σ:St}{H:Hp}{s:Shared}{Q:VK}{k k':Bool}(I:Inv X pins σ H s)(q:Q (.bl k) H)(e:k=k'):EP X pins σ Q (.bool k') s:=by
 subst e
 exact⟨.bl k,H,I,rfl,q⟩
theorem M4:eE X (compareOp .Eq) Ss:=by
 intro pins s σ H x y v u Q I rx ry h
 obtain⟨hs,q⟩:=h
 cases x with
 | non=>
  cases rx
  cases y with
  | non=>cases ry;exact PySem.EqNone.eq_none_none (aX I q (by simp))
  | bl j=>cases ry;exact PySem.EqNone.eq_none_bool (aX I q (by simp))
  | int j=>obtain⟨t',rfl⟩:=ry;exact PySem.EqNone.eq_none_int (aX I q (by simp))
  | str j=>obtain⟨t',rfl⟩:=ry;exact PySem.EqNone.eq_none_str (aX I q (by simp))
  | _=>exact absurd (show false=true from hs) Jm
 | bl i=>
  cases rx
  cases y with
  | non=>cases ry;exact PySem.EqNone.eq_bool_none (aX I q (by simp))
  | bl j=>cases ry;exact eq_bool (aX I q DG)
  | str j=>obtain⟨t',rfl⟩:=ry;exact PySem.EqMixed.eq_bool_str (aX I q (by simp))
  | _=>exact absurd (show false=true from hs) Jm
 | int i=>
  obtain⟨t,rfl⟩:=rx
  cases y with
  | non=>cases ry;exact PySem.EqNone.eq_int_none (aX I q (by simp))
  | int j=>obtain⟨t',rfl⟩:=ry;exact eq_int (aX I q xO)
  | str j=>obtain⟨t',rfl⟩:=ry;exact PySem.EqMixed.eq_int_str (aX I q (by simp))
  | _=>exact absurd (show false=true from hs) Jm
 | str i=>
  obtain⟨t,rfl⟩:=rx
  cases y with
  | non=>cases ry;exact PySem.EqNone.eq_str_none (aX I q (by simp))
  | bl j=>cases ry;exact PySem.EqMixed.eq_str_bool (aX I q (by simp))
  | int j=>obtain⟨t',rfl⟩:=ry;exact PySem.EqMixed.eq_str_int (aX I q (by simp))
  | str j=>obtain⟨t',rfl⟩:=ry;exact eq_str (aX I q yQ)
  | _=>exact absurd (show false=true from hs) Jm
 | byt i=>
  obtain⟨t,rfl⟩:=rx
  cases y with
  | byt j=>obtain⟨t',rfl⟩:=ry;exact PySem.W.eq_bytes (aX I q yS)
  | _=>exact absurd (show false=true from hs) Jm
 | _=>cases y<;>exact absurd (show false=true from hs) Jm
theorem Lj:eE X (compareOp .NotEq) RK:=by
 intro pins s σ H x y v u Q I rx ry h
 obtain⟨hs,q⟩:=h
 cases x with
 | non=>
  cases rx
  cases y with
  | non=>cases ry;exact PySem.EqNone.ne_none_none (aX I q (by simp))
  | bl j=>cases ry;exact PySem.EqNone.ne_none_bool (aX I q (by simp))
  | int j=>obtain⟨t',rfl⟩:=ry;exact PySem.EqNone.ne_none_int (aX I q (by simp))
  | str j=>obtain⟨t',rfl⟩:=ry;exact PySem.EqNone.ne_none_str (aX I q (by simp))
  | _=>exact absurd (show false=true from hs) Jm
 | bl i=>
  cases rx
  cases y with
  | non=>cases ry;exact PySem.EqNone.ne_bool_none (aX I q (by simp))
  | bl j=>cases ry;exact ne_bool (aX I q (congrArg not DG))
  | str j=>obtain⟨t',rfl⟩:=ry;exact PySem.EqMixed.ne_bool_str (aX I q (by simp))
  | _=>exact absurd (show false=true from hs) Jm
 | int i=>
  obtain⟨t,rfl⟩:=rx
  cases y with
  | non=>cases ry;exact PySem.EqNone.ne_int_none (aX I q (by simp))
  | int j=>obtain⟨t',rfl⟩:=ry;exact ne_int (aX I q (congrArg not xO))
  | str j=>obtain⟨t',rfl⟩:=ry;exact PySem.EqMixed.ne_int_str (aX I q (by simp))
  | _=>exact absurd (show false=true from hs) Jm
 | str i=>
  obtain⟨t,rfl⟩:=rx
  cases y with
  | non=>cases ry;exact PySem.EqNone.ne_str_none (aX I q (by simp))
  | bl j=>cases ry;exact PySem.EqMixed.ne_str_bool (aX I q (by simp))
  | int j=>obtain⟨t',rfl⟩:=ry;exact PySem.EqMixed.ne_str_int (aX I q (by simp))
  | str j=>obtain⟨t',rfl⟩:=ry;exact ne_str (aX I q (congrArg not yQ))
  | _=>exact absurd (show false=true from hs) Jm
 | byt i=>
  obtain⟨t,rfl⟩:=rx
  cases y with
  | byt j=>obtain⟨t',rfl⟩:=ry;exact PySem.W.ne_bytes (aX I q (congrArg not yS))
  | _=>exact absurd (show false=true from hs) Jm
 | _=>cases y<;>exact absurd (show false=true from hs) Jm
theorem lF:eE X (compareOp .Lt) (G6 fun i j =>.bl (decide (i<j))):=HL fun _ _ _ _ _ _ _ q=>lt_int q
theorem nL:eE X (compareOp .LtE) (G6 fun i j =>.bl (decide (i<=j))):=HL fun _ _ _ _ _ _ _ q=>le_int q
theorem GJ:eE X (compareOp .GtE) (G6 fun i j =>.bl (decide (j<=i))):=HL fun _ _ _ _ _ _ _ q=>ge_int q
theorem Ku:eE X (compareOp .Is) (fun x y H Q=>y = .non/\Q (.bl (decide (x = .non))) H):=by
 intro pins s σ H x y v u Q I rx ry h
 obtain⟨rfl,q⟩:=h
 cases ry
 refine is_none_gen (aX I q ?_)
 cases x<;>first
  | (cases rx;rfl)
  | (obtain⟨t,rfl⟩:=rx;rfl)
theorem GG:eE X (compareOp .IsNot) (fun x y H Q=>y = .non/\Q (.bl (!decide (x = .non))) H):=by
 intro pins s σ H x y v u Q I rx ry h
 obtain⟨rfl,q⟩:=h
 cases ry
 refine isnot_none_gen (aX I q ?_)
 cases x<;>first
  | (cases rx;rfl)
  | (obtain⟨t,rfl⟩:=rx;rfl)
theorem eE.or {f:Value->Value->Sem Value}{r r':R2}(h:eE X f r)(h':eE X f r'):eE X f (fun x y H Q=>r x y H Q∨r' x y H Q):=by
 intro pins s σ H x y v u Q I rx ry q
 rcases q with q|q
 ·exact h s σ H x y v u Q I rx ry q
 ·exact h' s σ H x y v u Q I rx ry q
theorem aM (b:Expr){op:CmpOp}(h:op ≠ .In:=by decide)(h2:op ≠ .NotIn:=by decide):behindInMarks op b=false:=by
 have e1:(op==CmpOp.In)=false:=by cases op<;>first|rfl|exact absurd rfl h
 have e2:(op==CmpOp.NotIn)=false:=by cases op<;>first|rfl|exact absurd rfl h2
 cases b<;>simp[behindInMarks,e1,e2]
theorem dn {op:CmpOp}{r:R2}(ho:eE X (compareOp op) r)(ha:PE X a ta)(hb:PE X b tb)(hm:behindInMarks op b=false):PE X (.Compare a [op] [b] pos) (N8 r ta tb):=by
 intro pins s σ H Q I h
 exact wpAny_Compare1 (HD ha hb I h fun v u s2 x y H2 I2 rx ry q=>ho s2 σ H2 x y v u Q I2 rx ry q) hm
def Hi (t:TE):TT:=fun σ H Q=>t σ H fun x H'=>∃k,x = .bl k/\Q k H'
theorem aI {op:CmpOp}{r:R2}(ho:eE X (compareOp op) r)(ha:PE X a ta)(hb:PE X b tb)(hm:behindInMarks op b=false):PT X (.Compare a [op] [b] pos) (Hi (N8 r ta tb)):=by
 intro pins s σ H Q I h
 refine wpAny_isTrue_Compare1 (bz (ha s σ H _ I h) fun v s1 hz_=>ai.el hz_ _ fun x H1 I1 r1 q1=>bz (hb s1 σ H1 _ I1 q1) fun u s2 ⟨y,H2,I2,r2,q2⟩=>
  bz (ho s2 σ H2 x y v u _ I2 r1 r2 q2) fun c s3 ⟨z,H3,I3,r3,k,e,q3⟩=>?_) hm
 subst e
 cases r3
 exact wpAny_truthy_bool ⟨H3,I3,q3⟩
def Cc (r r':R2)(ta tb tc:TE):TE:=fun σ H Q=>ta σ H fun x H1=>tb σ H1 fun y H2=>r x y H2 fun z H3=>∃k,z = .bl k /\
 (if k=true then tc σ H3 fun w' H4=>r' y w' H4 Q else Q (.bl false) H3)
theorem tm {op JO:CmpOp}{r r':R2}(ho:eE X (compareOp op) r)(ya:eE X (compareOp JO) r')(ha:PE X a ta)(hb:PE X b tb)(hc:PE X c tc)
  (hm:lastMarks [op,JO] [b,c]=false:=by with_unfolding_all rfl):PE X (.Compare a [op,JO] [b,c] pos) (Cc r r' ta tb tc):=by
 intro pins s σ H Q I h
 refine Compare_chain (bz (ha s σ H _ I h) fun v s1 hz_=>ai.el hz_ _ fun x H1 I1 r1 q1=>chain_link (bz (hb s1 σ H1 _ I1 q1) fun u s2 ⟨y,H2,I2,r2,q2⟩=>
  bz (ho s2 σ H2 x y v u _ I2 r1 r2 q2) fun d s3 ⟨z,H3,I3,r3,k,e,q3⟩=>?_)) hm
 subst e
 cases r3
 refine wpAny_truthy_bool ?_
 cases k with
 | false=>exact ite_ff ⟨.bl false,H3,I3,rfl,q3⟩
 | true=>exact ite_tt (chain_last (bz (hc s3 σ H3 _ I3 q3) fun w' s4 hz_=>ai.el hz_ _ fun z' H4 I4 r4 q4=>ya s4 σ H4 y z' u w' Q I4 r2 r4 q4))
theorem ua {op JO:CmpOp}{r r':R2}(ho:eE X (compareOp op) r)(ya:eE X (compareOp JO) r')(ha:PE X a ta)(hb:PE X b tb)(hc:PE X c tc)
  (hm:lastMarks [op,JO] [b,c]=false:=by with_unfolding_all rfl):PT X (.Compare a [op,JO] [b,c] pos) (Hi (Cc r r' ta tb tc)):=by
 intro pins s σ H Q I h
 refine isTrue_chain (bz (ha s σ H _ I h) fun v s1 hz_=>ai.el hz_ _ fun x H1 I1 r1 q1=>test_link (bz (hb s1 σ H1 _ I1 q1) fun u s2 ⟨y,H2,I2,r2,q2⟩=>
  bz (ho s2 σ H2 x y v u _ I2 r1 r2 q2) fun d s3 ⟨z,H3,I3,r3,k,e,q3⟩=>?_)) hm
 subst e
 cases r3
 refine wpAny_truthy_bool ?_
 cases k with
 | false=>
  obtain⟨k',e',q'⟩:=q3
  cases e'
  exact ite_ff ⟨H3,I3,q'⟩
 | true=>
  refine ite_tt (test_last (bz (hc s3 σ H3 _ I3 q3) fun w' s4 hz_=>ai.el hz_ _ fun z' H4 I4 r4 q4=>bz (ya s4 σ H4 y z' u w' _ I4 r2 r4 q4) fun d' s5 hz_ =>?_))
  refine ai.el hz_ _ ?_
  clear hz_
  rintro z2 H5 I5 r5 ⟨k2,e2,q5⟩
  subst e2
  cases r5
  exact wpAny_truthy_bool ⟨H5,I5,q5⟩
theorem lB:(sizeLine:Nat)<2^63:=by rw[sizeLine_eq];decide
theorem wF:eE X (binaryOp .Add) (fun x y H Q=>∃i j,x = .str i/\y = .str j/\i.length+j.length<=sizeLine/\Q (.str (i++j)) H):=by
 intro pins s σ H x y v u Q I rx ry h
 obtain⟨i,j,rfl,rfl,hz,q⟩:=h
 obtain⟨t,rfl⟩:=rx
 obtain⟨t',rfl⟩:=ry
 exact add_str (fun t' tk=>⟨.str (i++j),H,I.tok _,⟨_,rfl⟩,q⟩) hz
theorem vals1 {x:V}{us:List Value}(r:Vals [x] us):∃u,us=[u]/\RelV x u:=by
 cases r with
 | cons r1 r2=>cases r2;exact⟨_,rfl,r1⟩
theorem vals2 {x y:V}{us:List Value}(r:Vals [x,y] us):∃u w',us=[u,w']/\RelV x u/\RelV y w':=by
 cases r with
 | cons r1 r2=>
  cases r2 with
  | cons r3 r4=>cases r4;exact⟨_,_,rfl,r1,r3⟩
theorem zW (hc:X.calm=true):bB X (.builtin "max") (fun xs H Q=>∃i j,xs=[.int i,.int j]/\Q (.int (if j>i then j else i)) H):=by
 intro pins s σ H xs us Q I r h
 obtain⟨i,j,rfl,q⟩:=h
 obtain⟨u,w',rfl,⟨t,rfl⟩,⟨t',rfl⟩⟩:=vals2 r
 refine max_two_ints (I.ok.hd hc) fun h' tk k=>⟨_,H,I.kept k,?_,q⟩
 by_cases hj:j>i
 ·rw[if_pos hj,if_pos hj];exact⟨_,rfl⟩
 ·rw[if_neg hj,if_neg hj];exact⟨_,rfl⟩
theorem p8:bB X (.type "int") (fun xs H Q=>(∃i,xs=[.int i]/\Q (.int i) H)∨∃k,xs=[.bl k]/\Q (.int (if k then 1 else 0)) H):=by
 intro pins s σ H xs us Q I r h
 rcases h with ⟨i,rfl,q⟩|⟨k,rfl,q⟩
 ·obtain⟨u,rfl,t,rfl⟩:=vals1 r
  exact call_int_int ⟨.int i,H,I,⟨_,rfl⟩,q⟩
 ·obtain⟨u,rfl,r1⟩:=vals1 r
  cases r1
  exact call_int_bool ⟨.int (if k then 1 else 0),H,I.tok _,⟨_,rfl⟩,q⟩
theorem kh:bB X (.type "str") (fun xs H Q=>∃i,xs=[.int i]/\i.natAbs.log2<1920/\Q (.str (toString i)) H):=by
 intro pins s σ H xs us Q I r h
 obtain⟨i,rfl,hz,q⟩:=h
 obtain⟨u,rfl,t,rfl⟩:=vals1 r
 exact PySem.P.str_of_int hz ⟨.str _,H,I.tok _,⟨_,rfl⟩,q⟩
def Lr (K:Ja)(x:V)(H:Hp)(n:Nat):Prop:=
 match x with
 | .str y=>y.length<=sizeLine/\n=y.length
 | .byt y=>y.size<=sizeLine/\n=y.size
 | .ref p=>(∃xs,bq K H p xs/\n=xs.length)∨∃xs,bF K H p xs/\n=xs.length
 | _=>False
theorem BV:bB X (.builtin "len") (fun xs H Q=>∃x n,xs=[x]/\Lr X.K x H n/\Q (.int n) H):=by
 intro pins s σ H xs us Q I r h
 obtain⟨x,n,rfl,e,q⟩:=h
 obtain⟨u,rfl,rx⟩:=vals1 r
 have hl:=lB
 have hs:sizeLine=16777216:=sizeLine_eq
 cases x with
 | str y=>
  obtain⟨t,rfl⟩:=rx
  obtain⟨hy,e'⟩:y.length<=sizeLine/\n=y.length:=e
  subst e'
  exact len_str (by omega) ⟨.int _,H,I.tok _,⟨_,rfl⟩,q⟩
 | byt y=>
  obtain⟨t,rfl⟩:=rx
  obtain⟨hy,e'⟩:y.size<=sizeLine/\n=y.size:=e
  subst e'
  exact PySem.W.len_bytes (by omega) ⟨.int _,H,I.tok _,⟨_,rfl⟩,q⟩
 | ref p=>
  cases rx
  have e':(∃xs,bq X.K H p xs/\n=xs.length)∨∃xs,bF X.K H p xs/\n=xs.length:=e
  rcases e' with ⟨xs,hx,e'⟩|⟨xs,hx,e'⟩
  ·subst e'
   obtain⟨aq,r',pl,hz⟩:=I.list hx
   have hlen:=r'.length
   exact Calls.call_len_list pl.isList (by simp only[Jp];omega) ⟨.int xs.length,H,I.tok _,⟨_,by simp only[Jp];rw[hlen]⟩,q⟩
  ·subst e'
   obtain⟨aq,r',pl,hz⟩:=I.tuple hx
   have hlen:=r'.length
   exact len_tuple pl (by simp only[Jp];omega) ⟨.int xs.length,H,I.tok _,⟨_,by simp only[Jp];rw[hlen]⟩,q⟩
 | _=>exact(show False from e).elim
theorem uQ:bB X (.builtin "divmod") (fun xs H Q=>∃i j,xs=[.int i,.int j]/\Eo i j/\∀p,H p=none->Q (.ref p) (upd H p (.tup [.int (i / j),.int (i%j)]))):=by
 intro pins s σ H xs us Q I r h
 obtain⟨i,j,rfl,⟨h1,h2⟩,q⟩:=h
 obtain⟨u,w',rfl,⟨t,rfl⟩,⟨t',rfl⟩⟩:=vals2 r
 refine divmod_int (by omega) ?_ (.inl (PyProof.noPylong_small (by omega)))
 rw[Int.fdiv_eq_ediv_of_nonneg i (by omega),Int.fmod_eq_emod_of_nonneg i (by omega)]
 have hn:H s.heap.objs.size=none:=I.bw.fresh (Je _)
 refine⟨.ref s.heap.objs.size,_,?_,rfl,q _ hn⟩
 refine I.laid (fun b o e=>Jb _ e) (Je _) ⟨by simp only[Jt,List.length_nil];rw[sizeLine_eq];decide,[.int (i / j) s.toks,.int (i%j) (s.toks+1)],.cons ⟨_,rfl⟩ (.cons ⟨_,rfl⟩ .nil),?_⟩
 exact⟨_,Jj s.heap rfl,rfl,rfl,0,rfl⟩
end
structure A6 (h:Heap)(x dx C:Addr)(mA:Str->Option Value):Prop where
 obj:h.get? x=some (Yz C dx)
 ns:h.Ns1 dx mA
 ne:dx≠x
theorem pN {h:Heap}{dx:Addr}{mA:Str->Option Value}(n:h.Ns1 dx mA):∃od,h.get? dx=some od/\∀name,PySem.W.lookIn name od=some (mA name):=by
 obtain⟨o,es,ep,ho,hd,hk,_,hm⟩:=n
 refine⟨o,ho,fun name =>?_⟩
 have e:=hm name
 unfold nsFind findBy at e
 rw[<-Array.find?_toList] at e
 unfold PySem.W.lookIn
 rw[hd]
 dsimp only
 split
 ·rename_i y q
  rw[q] at e
  exact congrArg some e
 ·rename_i q
  rw[q] at e
  have a:es.toList.any (·.refKey)=false:=by
   rw[List.any_eq_false]
   intro y hy
   obtain⟨z,t,hkey⟩:=hk y (Array.mem_toList_iff.mp hy)
   simp[DictEntry.refKey,hkey]
  have a':¬es.toList.any (·.refKey)=true:=by rw[a];exact Jm
  rw[if_neg a']
  exact congrArg some e
theorem A6.look {h:Heap}{x dx C:Addr}{mA:Str->Option Value}(I:A6 h x dx C mA):∃od,PySem.W.InstAt h x (Yz C dx) C (some od)/\∀name,PySem.W.lookIn name od=some (mA name):=
 let ⟨od,ho,hl⟩:=pN I.ns
 ⟨od,⟨I.obj,rfl,rfl,ho⟩,hl⟩
section
variable {prog:Program}{w:World}{A:Around}{E:Value->Shared->Prop}{s:Shared}{K:Ja}{x dx C f:Addr}{mA:Str->Option Value}{name:Str}{v:Value}
theorem get_map {expr:Bool}{Q:Value->Shared->Prop}(X:K.In s.heap)(I:A6 s.heap x dx C mA)(hg:PySem.W.plainGet K C name=true)(hh:PySem.W.hasDictIn K C=true)
  (ha:Ue K (.ref C) name=some none) (hv:mA name=some v) (Tv:PySem.W.handedIn v=true) (h:Q v { s with toks:=s.toks+1 }) :
  wpAny (model prog w) A (getAttr (.ref x) name expr) Q E s:=by
 obtain⟨od,J,hl⟩:=I.look
 exact PySem.W.get_value X J (PySem.W.plainGet_of hg).1 (PySem.W.findObj_own hh ha rfl (by rw[hl,hv])) Tv h
theorem Fl {ns:List Str}{Q:Unit->Shared->Prop}(X:K.In s.heap)(I:A6 s.heap x dx C mA)
  (hs:Ue K (.ref C) "__setattr__" = some (some (.builtin "object.__setattr__"))) (hp:PySem.W.plainOver K C=true) (ht:PySem.W.takerIn K C name=some none) (hh:PySem.W.hasDictIn K C=true)
  (hw:PySem.Within mA ns) (hsz:ns.length<=sizeLine)
  (h:∀h',A6 h' x dx C (fun y=>if y=name then some v else mA y)->U1 dx s.heap h'->Q () { s with heap:=h',toks:=s.toks+2 }) :
  wpAny (model prog w) A (setAttr (.ref x) name v) Q E s:=by
 obtain⟨od,J,hl⟩:=I.look
 refine PySem.W.set_plain X J hs (PySem.W.osa_open (s:={ s with toks:=s.toks+1 }) (r:=none) X J hp ht fun b =>?_)
 obtain⟨cd,hc,Ff⟩:=PySem.W.any_some hh
 have hx:s.heap.get? x=some ⟨.ref C,some dx,.plain,#[]⟩:=I.obj
 refine wpAny_bind (wpAny_pure (wpAny_bind (wpAny_bind (wpAny_loadPart hx (wpAny_bind (PySem.W.Looks.here (s:={ s with toks:=s.toks+1 }) (PySem.W.looks_clsIn X hc) ?_))))))
 rw[Ff]
 refine wpAny_pure (a:=some dx) (wpAny_bind (wpAny_pure (wpAny_bind ?_)))
 refine wpAny_nsSet1 (s:={ s with toks:=s.toks+1 }) I.ns fun h' JK yO =>?_
 obtain⟨oD,esD,epD,hoD,hdD,hcD⟩:=JK.count (PySem.Within.cons name v hw)
 refine wpAny_bind (wpAny_lookBehind hoD (by rw[hdD];exact pastItsLine_dict (Ji hcD (by rw[Jt];omega))) ?_)
 exact wpAny_pure (h _ ⟨(yO.2 _ (Ne.symm I.ne)).trans I.obj,JK,I.ne⟩ yO)
theorem Dm {R:Result->Shared->Prop}{vs:List Value}{kw:List (Str×Value)}(X:K.In s.heap)(hm:PySem.W.makesIn K C=true)
  (hi:Ue K (.ref C) "__init__" = some (some (.ref f))) (hf:PySem.W.typeIn K (.ref f)=some (.type "function"))
  (h:codeAny (model prog w) (A.under (.builtin "type.__call__" ⟨.ref C::vs,kw⟩)) (.call (.ref f) ⟨.ref (s.heap.objs.size+1)::vs,kw⟩) (PySem.W.InitBack (s.heap.objs.size+1) R)
   { s with heap:=(s.heap.push Yg).push (Yz C s.heap.objs.size) }) :
  codeAny (model prog w) A (.call (.ref C) ⟨vs,kw⟩) R s:=by
 obtain⟨hh,g,d,t,os⟩:=s
 exact PySem.W.make_core (PySem.W.makes_of X hm) (PySem.W.looks_findIn X hi) (fun self=>PySem.W.bind_fn X self hf) (.inl rfl) h
end
noncomputable def i9 (f:Str)(v:V):List (Str×V)->List (Str×V)
 | []=>[(f,v)]
 | (g,x)::r=>if g=f then (g,v)::r else (g,x)::i9 f v r
theorem lG (f g:Str)(v:V):∀fs:List (Str×V),(i9 f v fs).lookup g=if g=f then some v else fs.lookup g
 | []=>by
  show Y4 g [(f,v)]=_
  by_cases h:g=f
  ·have hb:(g==f)=true:=beq_iff_eq.mpr h
   simp only[Y4,hb,if_pos h]
  ·have hb:(g==f)=false:=beq_eq_false_iff_ne.mpr h
   simp only[Y4,hb,if_neg h]
 | (k,x)::r=>by
  have ih:=lG f g v r
  rw[show i9 f v ((k,x)::r)=(if k=f then (k,v)::r else (k,x)::i9 f v r) from rfl]
  by_cases hk:k=f
  ·rw[if_pos hk]
   by_cases h:g=k
   ·have hb:(g==k)=true:=beq_iff_eq.mpr h
    simp only[Y4,hb,if_pos (h.trans hk)]
   ·have hb:(g==k)=false:=beq_eq_false_iff_ne.mpr h
    simp only[Y4,hb,if_neg (fun e:g=f=>h (e.trans hk.symm))]
  ·rw[if_neg hk]
   by_cases h:g=k
   ·have hb:(g==k)=true:=beq_iff_eq.mpr h
    simp only[Y4,hb,if_neg (fun e:g=f=>hk (h.symm.trans e))]
   ·have hb:(g==k)=false:=beq_eq_false_iff_ne.mpr h
    simp only[Y4,hb]
    exact ih
theorem kL (f:Str)(v:V):∀fs:List (Str×V),f∈(i9 f v fs).map (·.1)/\∀g,g∈fs.map (·.1)->g∈(i9 f v fs).map (·.1)
 | []=>⟨by simp[i9],fun g h=>by simp at h⟩
 | (k,x)::r=>by
  obtain⟨i1,i2⟩:=kL f v r
  rw[show i9 f v ((k,x)::r)=(if k=f then (k,v)::r else (k,x)::i9 f v r) from rfl]
  by_cases hk:k=f
  ·rw[if_pos hk]
   subst hk
   exact⟨by simp,fun g h=>by simpa using h⟩
  ·rw[if_neg hk]
   refine⟨?_,fun g h =>?_⟩
   ·rw[Jy]
    exact Jo _ i1
   ·rw[Jy] at h ⊢
    rcases Jr.mp h with e|e
    ·exact Jr.mpr (.inl e)
    ·exact Jo _ (i2 g e)
theorem lH (f:Str)(v:V):∀fs:List (Str×V),(i9 f v fs).length<=fs.length+1
 | []=>by simp[i9]
 | (k,x)::r=>by
  have ih:=lH f v r
  rw[show i9 f v ((k,x)::r)=(if k=f then (k,v)::r else (k,x)::i9 f v r) from rfl]
  by_cases hk:k=f
  ·rw[if_pos hk,Jt,Jt];omega
  ·rw[if_neg hk,Jt,Jt];omega
theorem j6.rR {v:V}{o:Option Value}(r:j6 (some v) o):∃u,o=some u/\RelV v u:=by
 cases o with
 | none=>exact(show False from r).elim
 | some u=>exact⟨u,rfl,r⟩
theorem zP {v:V}{u:Value}(r:RelV v u):PySem.W.handedIn u=true:=by
 cases v with
 | non=>cases (show u=Value.none from r);rfl
 | bl b=>cases (show u=Value.bool b from r);rfl
 | int i=>obtain⟨t,e⟩:=(show ∃t,u=Value.int i t from r);cases e;rfl
 | str x=>obtain⟨t,e⟩:=(show ∃t,u=Value.str x t from r);cases e;rfl
 | byt b=>obtain⟨t,e⟩:=(show ∃t,u=Value.bytes b t from r);cases e;rfl
 | flt b=>obtain⟨t,e⟩:=(show ∃t,u=Value.float b t from r);cases e;rfl
 | ref a=>cases (show u=Value.ref a from r);rfl
 | ty n=>cases (show u=Value.type n from r);rfl
section
variable {P:Program}{w:World}{H H':Hp}{h h':Heap}{a C dx:Addr}{fs V5:List (Str×V)}
theorem qR (bw:gO P w H h)(e:H a=some (.ins C dx fs)):∃mA,A6 h a dx C mA/\(∀f,j6 (fs.lookup f) (mA f))/\PySem.Within mA (fs.map (·.1))/\fs.length<=1000/\H dx=some (.own a):=by
 obtain⟨d,z,ne,ob,mA,n,r,q⟩:=(show bg P w H h a (.ins C dx fs) from bw a _ e)
 exact⟨mA,⟨ob,n,ne⟩,r,q,z,d⟩
end
structure GR (K:Ja)(C:Addr):Prop where
 pg:PySem.W.plainGet K C Str.empty=true
 hd:PySem.W.hasDictIn K C=true
 po:PySem.W.plainOver K C=true
 sa:Ue K (.ref C) "__setattr__" = some (some (.builtin "object.__setattr__"))
theorem GR.get {K:Ja}{C:Addr}(c:GR K C)(f:Str):PySem.W.plainGet K C f=true:=c.pg
def eT (K:Ja)(C:Addr)(f:Str):Prop:=Ue K (.ref C) f=some none
theorem eT.NH {K:Ja}{C:Addr}{f:Str}(n:eT K C f):PySem.W.takerIn K C f=some none:=by
 unfold PySem.W.takerIn
 rw[show Ue K (.ref C) f=some none from n]
 rfl
section
variable {X:Cx}{pins:List (Addr×Obj)}{σ:St}{H:Hp}{s:Shared}{a C dx:Addr}{fs:List (Str×V)}{f:Str}{v:V}{A:Around}{E:Value->Shared->Prop}
theorem vp {b:Bool}{Q:Value->Shared->Prop}(I:Inv X pins σ H s)(e:H a=some (.ins C dx fs))(c:GR X.K C)(n:eT X.K C f)(l:fs.lookup f=some v)
  (h:∀u s',Inv X pins σ H s'->RelV v u->Q u s'):wpAny (model X.prog X.w) A (getAttr (.ref a) f b) Q E s:=by
 obtain⟨mA,O,r,_,_,_⟩:=qR I.bw e
 obtain⟨u,hu,ru⟩:=j6.rR (v:=v) (o:=mA f) (by rw[<-l];exact r f)
 exact get_map I.gT O (c.get f) c.hd n hu (zP ru) (h u _ (I.tok _) ru)
theorem xv {y:V}{u:Value}{Q:Unit->Shared->Prop}(I:Inv X pins σ H s)(e:H a=some (.ins C dx fs))(c:GR X.K C)(n:eT X.K C f)(hl:fs.length<1000)(ry:RelV y u)
  (h:∀s',Inv X pins σ (upd H a (.ins C dx (i9 f y fs))) s'->Q () s'):wpAny (model X.prog X.w) A (setAttr (.ref a) f u) Q E s:=by
 obtain⟨mA,O,r,wi,_,ho⟩:=qR I.bw e
 have hz:(fs.map (·.1)).length<=sizeLine:=by rw[Jd,sizeLine_eq];omega
 refine Fl I.gT O c.sa c.po n.NH c.hd wi hz fun h' O' sb=>h _ ?_
 have hd:∃o,h'.get? dx=some o:=let ⟨o,_,_,e',_⟩:=O'.ns; ⟨o,e'⟩
 refine I.write (x:=a) (e:=dx) (by rw[e];exact True.intro) (.inr ho) (fun b q hb z=>(sb.2 b hb).trans z) hd ?_
 refine⟨by rw[aj O.ne];exact ho,?_,O.ne,O'.obj,_,O'.ns,fun g =>?_,fun g hg =>?_⟩
 ·have:=lH f y fs;omega
 ·show j6 ((i9 f y fs).lookup g) (if g=f then some u else mA g)
  rw[lG]
  by_cases q:g=f
  ·rw[if_pos q,if_pos q];exact ry
  ·rw[if_neg q,if_neg q];exact r g
 ·by_cases q:g=f
  ·rw[q];exact(kL f y fs).1
  ·refine(kL f y fs).2 g (wi g fun z=>hg ?_)
   show(if g=f then some u else mA g)=none
   rw[if_neg q];exact z
theorem Inv.made (I:Inv X pins σ H s):Inv X pins σ (upd (upd H s.heap.objs.size (.own (s.heap.objs.size+1))) (s.heap.objs.size+1) (.ins C s.heap.objs.size []))
  { s with heap:=(s.heap.push Yg).push (Yz C s.heap.objs.size) }:=by
 have e1:(s.heap.push Yg).get? s.heap.objs.size=some Yg:=Jj s.heap rfl
 have e2:((s.heap.push Yg).push (Yz C s.heap.objs.size)).get? (s.heap.objs.size+1)=some (Yz C s.heap.objs.size):=by
  have:=Jj (s.heap.push Yg) (o:=Yz C s.heap.objs.size) rfl
  rwa[Ug] at this
 have e3:(s.heap.push Yg).Ns s.heap.objs.size (fun _=>none):=⟨Yg,#[],_,e1,rfl,(fun e he=>absurd he (by simp)),fun _=>rfl⟩
 have I1:=I.laid (a:=s.heap.objs.size) (o := .own (s.heap.objs.size+1)) (h':=s.heap.push Yg) (t':=s.toks) (fun b u q=>Jb _ q) (Je _) ⟨_,e1⟩
 refine I1.laid (a:=s.heap.objs.size+1) (o := .ins C s.heap.objs.size []) (t':=s.toks) (fun b u q=>Jb _ q) (Nat.le_of_eq (Ug _ _)) ?_
 have ne:s.heap.objs.size≠s.heap.objs.size+1:=Jl (Nat.lt_succ_self _)
 refine⟨by rw[aj ne,ay],Uz _,ne,e2,fun _=>none,(Heap.Ns1.of_empty e3).at fun o q=>Jb _ q,fun _=>True.intro,fun y hy=>absurd rfl hy⟩
theorem yd {prog:Program}{w:World}{env:Env}{e:Expr}{f:Str}{pos:Pos}{s:Shared}{Q:Value->Shared->Prop}(hb:attributeBase e f env (eval e env)=eval e env)
  (h:wpAny (model prog w) A (eval e env) (fun o s₁=>wpAny (model prog w) A (getAttr o f true) Q E s₁) E s):wpAny (model prog w) A (eval (.Attribute e f pos) env) Q E s:=
 Attribute_any_ h (by rw[arm_eval_Attribute,hb])
end
def LK (K:Ja)(ta:TE)(f:Str):TE:=fun σ H Q=>ta σ H fun x H1=>yf fun a C dx fs v=>x = .ref a/\H1 a=some (.ins C dx fs)/\GR K C/\eT K C f/\fs.lookup f=some v/\Q v H1
def LQ (K:Ja)(ta tv:TE)(f:Str):TS:=fun D σ H=>tv σ H fun y H1=>ta σ H1 fun x H2=>vo fun a C dx fs=>x = .ref a/\H2 a=some (.ins C dx fs)/\GR K C/\eT K C f/\fs.length<1000 /\
 D.nx σ (upd H2 a (.ins C dx (i9 f y fs)))
section
variable {X:Cx}{o e value:Expr}{f:Str}{pos pos' R9:Pos}{ta tv:TE}
theorem KB (he:PE X e ta)(hb:attributeBase e f X.env (eval e X.env)=eval e X.env):PE X (.Attribute e f pos) (LK X.K ta f):=by
 intro pins s σ H Q I h
 refine yd hb (bz (he s σ H _ I h) fun u s1 hz_ =>?_)
 refine ai.el hz_ _ ?_
 clear hz_
 rintro x H1 I1 rx ⟨a,C,dx,fs,v,ex,ea,c,n,l,q⟩
 subst ex
 obtain rfl:u=Value.ref a:=rx
 exact vp I1 ea c n l fun u' s2 I2 ru=>⟨v,H1,I2,ru,q⟩
theorem ou (ha:PE X o ta)(hv:PE X value tv)(hs:swapsWith value (some (.Attribute o f pos')) pos.line X.env=pure false):PS X (.Assign [.Attribute o f pos'] value pos) (LQ X.K ta tv f):=by
 intro pins s σ H D I h
 refine plainObj_wpAny_Assign_Attribute (bz (hv s σ H _ I h) fun u s1 ⟨y,H1,I1,ry,q⟩=>bz (ha s1 σ H1 _ I1 q) fun ov s2 ⟨x,H2,I2,rx,a,C,dx,fs,ex,ea,c,n,l,q2⟩=>?_) hs
 subst ex
 obtain rfl:ov=Value.ref a:=rx
 exact xv I2 ea c n l ry fun s3 I3=>⟨σ,_,I3,q2⟩
end
section
variable {X:Cx}{pins:List (Addr×Obj)}{σ:St}{H:Hp}{s:Shared}{A:Around}{E:Value->Shared->Prop}{Q:Value->Shared->Prop}{c:Value}{b:Bool}
inductive ka (K:Ja)(H:Hp):V->Value->Prop where
 | non:ka K H .non (.type "NoneType")
 | bl (x:Bool):ka K H (.bl x) (.type "bool")
 | int (i:Int):ka K H (.int i) (.type "int")
 | str (x:Str):ka K H (.str x) (.type "str")
 | flt (x:UInt64):ka K H (.flt x) (.type "float")
 | lst {a:Addr} {xs:List V} (e:H a=some (.lst xs)):ka K H (.ref a) (.type "list")
 | frz {a:Addr} {o:Obj} {xs:List V} (e:H a=some (.frz o (.lst xs))):ka K H (.ref a) (.type "list")
 | tup {a:Addr} {xs:List V} (e:H a=some (.tup xs)):ka K H (.ref a) (.type "tuple")
 | dK {a:Addr} {kvs:List (Key×V)} (e:H a=some (.dK kvs)):ka K H (.ref a) (.type "dict")
 | dT {a:Addr} {kvs:List (List Key×V)} (e:H a=some (.dT kvs)):ka K H (.ref a) (.type "dict")
 | ins {a C dx:Addr} {fs:List (Str×V)} (e:H a=some (.ins C dx fs)) (cl:GR K C) (ha:Ue K (.ref C) "__class__" = some (some (.builtin "object.__class__")))
   (hn:PySem.W.specialIn K (.builtin "object.__class__") "__get__" = some (some (.builtin "getset_descriptor.__get__"))) (SR:PySem.W.takesIn K (.builtin "object.__class__")=some true)
   (hm:PySem.W.mroIn K C (.type "object")=some true):ka K H (.ref a) (.ref C)
theorem yU {x:V}{u t:Value}(I:Inv X pins σ H s)(rx:RelV x u)(ty:ka X.K H x t)(e:Ub X.K t c=some b)(h:∀tk,Q (.bool b) { s with toks:=tk }):
  wpAny (model X.prog X.w) A (call (.builtin "isinstance") [u,c]) Q E s:=by
 cases ty with
 | non=>cases (show u=Value.none from rx);exact U3 PySem.W.kitx_none I.gT True.intro e (fun z=>nomatch z) h
 | bl y=>cases (show u=Value.bool y from rx);exact U3 PySem.W.kitx_bool I.gT True.intro e (fun z=>nomatch z) h
 | int i=>obtain⟨t,q⟩:=(show ∃t,u=Value.int i t from rx);cases q;exact U3 PySem.W.kitx_int I.gT True.intro e (fun z=>nomatch z) h
 | str y=>obtain⟨t,q⟩:=(show ∃t,u=Value.str y t from rx);cases q;exact U3 PySem.W.kitx_str I.gT True.intro e (fun z=>nomatch z) h
 | flt y=>obtain⟨t,q⟩:=(show ∃t,u=Value.float y t from rx);cases q;exact U3 PySem.W.kitx_float I.gT True.intro e (fun z=>nomatch z) h
 | @lst a xs ea=>
  cases (show u=Value.ref a from rx)
  obtain⟨_,_,n,_,h1⟩:=(show bg X.prog X.w H s.heap a (.lst xs) from I.bw a _ ea)
  exact U3 PySem.W.kitx_list I.gT ⟨_,h1,rfl⟩ e (fun z=>nomatch z) h
 | @frz a ob xs ea=>
  cases (show u=Value.ref a from rx)
  obtain⟨_,_,_,n,_,h1⟩:=(show bg X.prog X.w H s.heap a (.frz ob (.lst xs)) from I.bw a _ ea)
  exact U3 PySem.W.kitx_list I.gT ⟨_,h1,rfl⟩ e (fun z=>nomatch z) h
 | @tup a xs ea=>
  cases (show u=Value.ref a from rx)
  obtain⟨_,_,_,p⟩:=(show bg X.prog X.w H s.heap a (.tup xs) from I.bw a _ ea)
  obtain⟨o,h1,_,h2,_⟩:=p
  exact U3 PySem.W.kitx_tuple I.gT ⟨o,h1,h2⟩ e (fun z=>nomatch z) h
 | @dK a kvs ea=>
  cases (show u=Value.ref a from rx)
  obtain⟨_,_,vs,_,p⟩:=(show bg X.prog X.w H s.heap a (.dK kvs) from I.bw a _ ea)
  obtain⟨o,es,ep,h1,h2,_⟩:=p
  exact U3 PySem.W.kitx_dict I.gT ⟨o,h1,h2.1⟩ e (fun z=>nomatch z) h
 | @dT a kvs ea=>
  cases (show u=Value.ref a from rx)
  obtain⟨_,_,xs,_,o,es,ep,h1,h2,_⟩:=(show bg X.prog X.w H s.heap a (.dT kvs) from I.bw a _ ea)
  exact U3 PySem.W.kitx_dict I.gT ⟨o,h1,h2.1⟩ e (fun z=>nomatch z) h
 | @ins a C dx fs ea cl ha hn SR hm=>
  cases (show u=Value.ref a from rx)
  obtain⟨mA,O,_⟩:=qR I.bw ea
  obtain⟨od,J,_⟩:=O.look
  exact U3 (PySem.W.kitx_own (cl.get _) cl.hd ha hn SR hm) I.gT J e (fun z=>nomatch z) h
end
structure cG (k:Nat)(A:Around):Prop where
 hd:A.handled=none
 dp:A.depth+3*k+5<recursionLimit
 un:A.units+16*k+200<cLine
 gd:A.guards=some []
theorem cG.mono {j k:Nat}{A:Around}(r:cG k A)(h:j<=k):cG j A:=⟨r.hd,by have:=r.dp;omega,by have:=r.un;omega,r.gd⟩
theorem cG.deeper {k:Nat}{A:Around}(r:cG (k+1) A)(env:Env):cG k (A.deeper env):=
 ⟨r.hd,by have:=r.dp;show A.depth+1+3*k+5<_;omega,by have:=r.un;show A.units+3+16*k+200<_;omega,r.gd⟩
theorem vV {A:Around}{C:Addr}{us:List Value}{kw:List (Str×Value)}:(A.under (.builtin "type.__call__" ⟨.ref C::us,kw⟩)).depth=A.depth+1:=by
 first|rfl|simp[Around.under,Code.weight,Code.isCreation,Code.isGuard,Code.isCaller,Code.frames,Code.isFrame,guardIds]
theorem vv {A:Around}{C:Addr}{us:List Value}{kw:List (Str×Value)}:(A.under (.builtin "type.__call__" ⟨.ref C::us,kw⟩)).units=A.units+1:=by
 first|rfl|simp[Around.under,Code.cUnits,Code.frames,Code.isFrame]
theorem uy {A:Around}{C:Addr}{us:List Value}{kw:List (Str×Value)}:(A.under (.builtin "type.__call__" ⟨.ref C::us,kw⟩)).guards=A.guards:=by
 first|rfl|simp[Around.under,Code.guards,Code.isGuard,guardIds,pushGuards]
theorem cG.make {k:Nat}{A:Around}(r:cG (k+1) A)(C:Addr)(us:List Value)(kw:List (Str×Value)):cG k (A.under (.builtin "type.__call__" ⟨.ref C::us,kw⟩)):=
 ⟨r.hd,by have:=r.dp;rw[vV];omega,by have:=r.un;rw[vv];omega,by rw[uy];exact r.gd⟩
theorem cG.depth {k:Nat}{A:Around}(r:cG k A):A.depth<recursionLimit:=by have:=r.dp;omega
theorem cG.units {k:Nat}{A:Around}(r:cG k A):A.units+64<cLine:=by have:=r.un;omega
noncomputable def Ge:TA:=fun _ H Q=>Q [] H
noncomputable def GV (ta:TE)(tr:TA):TA:=fun σ H Q=>ta σ H fun x H1=>tr σ H1 fun xs H2=>Q (x::xs) H2
section
variable {X:Cx}{e:Expr}{es:List Expr}{te:TE}{t:TA}{pos:Pos}
theorem ae:PA X [] Ge:=fun _ _ _ _ H Q I h=>Calls.spliced_nil ⟨[],H,I,.nil,h⟩
theorem aa (ha:PE X e te)(hr:PA X es t)(hs:starEach (e::es) X.env=(false,eval e X.env)::starEach es X.env:=by rfl):PA X (e::es) (GV te t):=by
 intro pos pins s σ H Q I h
 rw[hs]
 show wpAny _ _ (spliced ((false,eval e X.env)::backTo pos (starEach es X.env))) _ _ s
 refine Calls.spliced_cons (bz (ha s σ H _ I h) fun u s1 hz_ =>?_)
 refine ai.el hz_ _ ?_
 clear hz_
 rintro x H1 I1 r1 q1
 exact bz (hr s1 σ H1 _ I1 q1) fun us s2 hz_=>ai.el hz_ _ fun xs H2 I2 r2 q2=>⟨x::xs,H2,I2,.cons r1 r2,q2⟩
def Ls (t:TA):TE:=fun σ H Q=>t σ H fun xs H1=>xs.length<=sizeLine/\∀p,H1 p=none->Q (.ref p) (upd H1 p (.tup xs))
def L6 (t:TA):TE:=fun σ H Q=>t σ H fun xs H1=>xs.length<=sizeLine/\∀p,H1 p=none->Q (.ref p) (upd H1 p (.lst xs))
theorem C8 {x1}(h:PA X es t):PE X (.Tuple es x1 pos) (Ls t):=by
 intro pins s σ H Q I hq
 refine wpAny_Tuple_spliced (bz (h s σ H _ I hq) fun us s1 ⟨xs,H1,I1,r,z,q⟩=>⟨by rw[<-r.length];exact z,?_⟩)
 have hf:H1 s1.heap.objs.size=none:=I1.bw.fresh (Je _)
 refine⟨.ref s1.heap.objs.size,upd H1 s1.heap.objs.size (.tup xs),I1.laid (t':=s1.toks) (fun b u e=>Jb _ e) (Je _) ?_,rfl,q _ hf⟩
 exact⟨z,us,r,⟨_,Jj _ rfl,rfl,rfl,_,rfl⟩⟩
theorem KG (h:PA X es t):PE X (.List es pos) (L6 t):=by
 intro pins s σ H Q I hq
 refine wpAny_List_spliced (bz (h s σ H _ I hq) fun us s1 ⟨xs,H1,I1,r,z,q⟩=>⟨by rw[<-r.length];exact z,?_⟩)
 have hf:H1 s1.heap.objs.size=none:=I1.bw.fresh (Je _)
 refine⟨.ref s1.heap.objs.size,upd H1 s1.heap.objs.size (.lst xs),I1.laid (t':=s1.toks) (fun b u e=>Jb _ e) (Je _) ?_,rfl,q _ hf⟩
 exact⟨z,us,0,r,Jj _ rfl⟩
end
abbrev Sp:=List V->Hp->VK->XK->Prop
abbrev zV:=List Env->Hp->Shared->XK->Value->Shared->Prop
structure xn (P:Program)(w:World)(K:Ja)(mg:Str->Option Value)(base:Heap)(A:Around)(outer:List Env)(s:Shared)(H:Hp):Prop where
 frames:A.frames=some outer
 mod:Mod K mg base
 bs:∀b o,base.get? b=some o->s.heap.get? b=some o/\H b=none
 bsz:base.objs.size<=s.heap.objs.size
 i7:s.heap.FunFrames base outer
 frf:∀b∈eW outer,H b=none
 bw:gO P w H s.heap
 bare:AllBare s.gens
def CE (outer:List Env)(P:Program)(w:World)(H:Hp)(s:Shared)(Q:VK)(u:Value)(s':Shared):Prop:=
 eu fun v H'=>s'.os=s.os/\AllBare s'.gens/\Un (eW outer) [] H H' s.heap s'.heap/\gO P w H' s'.heap/\RelV v u/\Q v H'
def CR (CX:zV)(outer:List Env)(P:Program)(w:World)(H:Hp)(s:Shared)(Q:VK)(E:XK)(r:Result)(s':Shared):Prop:=
 match r with
 | .ok (.ret u)=>CE outer P w H s Q u s'
 | .ok _=>False
 | .error e=>CX outer H s E e s'
structure bh (P:Program)(w:World)(K:Ja)(mg:Str->Option Value)(base:Heap)(CX:zV)(k:Nat)(f:Addr)(fd:FuncData)(ps:List Str)(sp:Sp):Prop where
 len:∀vs H Q E,sp vs H Q E->vs.length=ps.length
 run:∀(A:Around) (outer:List Env) (s:Shared) (H:Hp) (args:Args) (us:List Value) (vs:List V) (Q:VK) (E:XK),cG k A->xn P w K mg base A outer s H->BindsTo s fd args (ps.zip us)->Vals vs us->sp vs H Q E ->
  codeAny (model P w) A (.call (.ref f) args) (CR CX outer P w H s Q E) s
theorem bh.mono {P:Program}{w:World}{K:Ja}{mg:Str->Option Value}{base:Heap}{CX:zV}{j k:Nat}{f:Addr}{fd:FuncData}{ps:List Str}{sp:Sp}(F:bh P w K mg base CX j f fd ps sp)(h:j<=k):
  bh P w K mg base CX k f fd ps sp:=⟨F.len,fun A outer s H args us vs Q E hr=>F.run A outer s H args us vs Q E (hr.mono h)⟩
theorem bh.imp {P:Program}{w:World}{K:Ja}{mg:Str->Option Value}{base:Heap}{CX:zV}{k:Nat}{f:Addr}{fd:FuncData}{ps:List Str}{sp Hf:Sp}(F:bh P w K mg base CX k f fd ps sp)
  (h:∀vs H Q E,Hf vs H Q E->sp vs H Q E):bh P w K mg base CX k f fd ps Hf:=
 ⟨fun vs H Q E q=>F.len vs H Q E (h _ _ _ _ q),fun A outer s H args us vs Q E hr he hb hv hs=>F.run A outer s H args us vs Q E hr he hb hv (h _ _ _ _ hs)⟩
theorem xn.make {P:Program}{w:World}{K:Ja}{mg:Str->Option Value}{base:Heap}{A:Around}{outer:List Env}{s:Shared}{H:Hp}(e:xn P w K mg base A outer s H)(C:Addr)(us:List Value)(kw:List (Str×Value)):
  xn P w K mg base (A.under (.builtin "type.__call__" ⟨.ref C::us,kw⟩)) outer s H:=⟨by first|exact e.frames|(simpa [Around.under,Code.envs,Code.isFrame,pushEnvs] using e.frames),e.mod,e.bs,e.bsz,e.i7,e.frf,e.bw,e.bare⟩
section
variable {X:Cx}{pins:List (Addr×Obj)}{σ:St}{H:Hp}{s s':Shared}
theorem Inv.FJ (I:Inv X pins σ H s):xn X.prog X.w X.K X.mg X.base X.A X.stack s H:=
 ⟨I.ok.frames,I.ok.mod,I.bs,Ji I.ok.bsz I.sz,I.stack,I.qQ,I.bw,I.bare⟩
theorem Inv.after {Q:VK}{u:Value}(I:Inv X pins σ H s)(h:CE X.stack X.prog X.w H s Q u s'):EP X pins σ Q u s':=by
 obtain⟨v,H',os,bare,un,bw,r,q⟩:=h
 obtain⟨hh,g,d,t,os'⟩:=s'
 obtain rfl:os'=s.os:=os
 exact⟨v,H',I.call (h':=hh) (g':=g) (d':=d) (t':=t) (ch:=[]) un bw bare (fun b z=>absurd z (by simp)),r,q⟩
end
def tN (sp:Sp)(vd:List V)(E:XK)(t:TA):TE:=fun σ H Q=>t σ H fun vs H1=>sp (vs++vd) H1 Q E
def MV (C:Addr)(sp:Sp)(vd:List V)(E:XK)(t:TA):TE:=fun σ H Q=>t σ H fun vs H1=>∀x dx,H1 x=none->H1 dx=none->dx≠x ->
 sp (.ref x::(vs++vd)) (upd (upd H1 dx (.own x)) x (.ins C dx [])) (fun v H2=>v = .non/\Q (.ref x) H2) E
def Binds (K:Ja)(fd:FuncData)(ps:List Str)(ds:List Value):Prop:=
 ∀(s:Shared) (us:List Value),K.In s.heap->(us++ds).length=ps.length->BindsTo s fd ⟨us,[]⟩ (ps.zip (us++ds))
theorem Binds.all {K:Ja}{fd:FuncData}{ps:List Str}(h:∀us:List Value,us.length=ps.length->bindArgs fd ⟨us,[]⟩=pure (ps.zip us)):Binds K fd ps []:=fun s us _ hl=>by
 rw[Uw] at hl ⊢
 exact .of_eq (h us hl)
def Passes (CX:zV)(X:Cx)(E:XK):Prop:=∀(pins:List (Addr×Obj)) (σ:St) (H:Hp) (s:Shared) (e:Value) (s':Shared),Inv X pins σ H s->CX X.stack H s E e s'->X.xe e s'
section
variable {X:Cx}{CX:zV}{k:Nat}{f C:Addr}{fd:FuncData}{ps:List Str}{sp:Sp}{vd:List V}{ds:List Value}{E:XK}{x m:Str}{p pos apos:Pos}{e o:Expr}{es:List Expr}{ta:TE}{t:TA}
theorem CI {pins:List (Addr×Obj)}{σ:St}{H:Hp}{s:Shared}{Q:VK}{us:List Value}{vs:List V}(F:bh X.prog X.w X.K X.mg X.base CX k f fd ps sp)(hr:cG k X.A)(hb:Binds X.K fd ps ds)(hd:Vals vd ds)(hx:Passes CX X E)
  (I:Inv X pins σ H s) (r:Vals vs us) (h:sp (vs++vd) H Q E):wpAny (model X.prog X.w) X.A (call (.ref f) us) (EP X pins σ Q) X.xe s:=by
 have r2:Vals (vs++vd) (us++ds):=r.append hd
 have hl:(us++ds).length=ps.length:=by rw[<-r2.length];exact F.len _ _ _ _ h
 refine wpAny_call (codeAny_mono (F.run X.A X.stack s H ⟨us,[]⟩ (us++ds) (vs++vd) Q E hr I.FJ (hb s us I.gT hl) r2 h) fun r s' hq =>?_)
 cases r with
 | error e=>exact hx pins σ H s e s' I hq
 | ok fl=>
  cases fl with
  | ret u=>exact I.after hq
  | next=>exact False.elim hq
  | brk=>exact False.elim hq
  | cont=>exact False.elim hq
theorem ym (F:bh X.prog X.w X.K X.mg X.base CX k f fd ps sp)(hr:cG k X.A)(hg:Gl X x)(hm:X.mg x=some (.ref f))(hk:Ur X.K (.ref f)=true)(hb:Binds X.K fd ps ds)(hd:Vals vd ds)(hx:Passes CX X E)
  (ha:PA X (e::es) t) (nP:(x==("__debug__" : Str))=false:=by decide) (he:starEach (e::es) X.env=(false,eval e X.env)::starEach es X.env:=by rfl) (pJ:(backTo pos (starEach es X.env)).any (·.1)=false:=by rfl) :
  PE X (.Call (.Name x p) (e::es) [] pos) (tN sp vd E t):=by
 intro pins s σ H Q I h
 refine wpAny_Call_Name_kw (gN I hg hm ?_ nP)
 refine PySem.W.callWith_K (h₀:=X.base) I.ok.mod.xF hk (bz (ha s σ H _ I h) fun us s1 hz_=>ai.el hz_ _ fun vs H1 I1 r q=>⟨I1.gT,?_⟩) he pJ
 exact CI F hr hb hd hx I1 r q
theorem Dp (F:bh X.prog X.w X.K X.mg X.base CX k f fd ps sp)(hr:cG k X.A)(hg:Gl X x)(hm:X.mg x=some (.ref f))(hk:Ur X.K (.ref f)=true)(hb:Binds X.K fd ps ds)(hd:Vals vd ds)(hx:Passes CX X E)
  (nP:(x==("__debug__" : Str))=false:=by decide):PE X (.Call (.Name x p) [] [] pos) (tN sp vd E Ge):=by
 intro pins s σ H Q I h
 refine wpAny_Call_Name_kw (gN I hg hm ?_ nP)
 exact PySem.W.callWith_K0 I.gT hk (CI (us:=[]) F hr hb hd hx I .nil h)
structure Mk (K:Ja)(C f:Addr):Prop where
 makes:PySem.W.makesIn K C=true
 init:Ue K (.ref C) "__init__" = some (some (.ref f))
 fn:PySem.W.isFn K (.ref f)=true
 kp:Ur K (.ref C)=true
theorem BI {pins:List (Addr×Obj)}{σ:St}{H:Hp}{s:Shared}{Q:VK}{us:List Value}{vs:List V}(M:Mk X.K C f)(F:bh X.prog X.w X.K X.mg X.base CX k f fd ps sp)(hr:cG (k+1) X.A)(hb:Binds X.K fd ps ds)(hd:Vals vd ds)
  (hx:Passes CX X E) (I:Inv X pins σ H s) (r:Vals vs us)
  (h:∀x dx,H x=none->H dx=none->dx≠x->sp (.ref x::(vs++vd)) (upd (upd H dx (.own x)) x (.ins C dx [])) (fun v H2=>v = .non/\Q (.ref x) H2) E) :
  wpAny (model X.prog X.w) X.A (call (.ref C) us) (EP X pins σ Q) X.xe s:=by
 have hq:=h (s.heap.objs.size+1) s.heap.objs.size (I.bw.fresh (Yt _)) (I.bw.fresh (Je _)) (Jl (Nat.lt_succ_self _))
 have I2:=Inv.made (C:=C) I
 have r2:Vals (V.ref (s.heap.objs.size+1)::(vs++vd)) (Value.ref (s.heap.objs.size+1)::(us++ds)) := .cons rfl (r.append hd)
 have hl:(Value.ref (s.heap.objs.size+1)::us++ds).length=ps.length:=by
  have e:=r2.length
  rw[F.len _ _ _ _ hq] at e
  exact e.symm
 refine wpAny_call (Dm (f:=f) I.gT M.makes M.init (beq_iff_eq.mp M.fn) (codeAny_mono (F.run _ X.stack _ _ ⟨Value.ref (s.heap.objs.size+1)::us,[]⟩ (Value.ref (s.heap.objs.size+1)::(us++ds)) _ _ E (hr.make C us [])
  (I2.FJ.make C us []) (hb _ (Value.ref (s.heap.objs.size+1)::us) I2.gT hl) r2 hq) fun r s' hq' =>?_))
 cases r with
 | error e=>exact hx pins σ _ _ e s' I2 hq'
 | ok fl=>
  cases fl with
  | ret u=>
   obtain⟨v,H',I3,rv,ev,q3⟩:=I2.after hq'
   subst ev
   exact⟨rv,⟨V.ref (s.heap.objs.size+1),H',I3,rfl,q3⟩⟩
  | next=>exact False.elim hq'
  | brk=>exact False.elim hq'
  | cont=>exact False.elim hq'
theorem ET (M:Mk X.K C f)(F:bh X.prog X.w X.K X.mg X.base CX k f fd ps sp)(hr:cG (k+1) X.A)(hg:Gl X x)(hm:X.mg x=some (.ref C))(hb:Binds X.K fd ps ds)(hd:Vals vd ds)(hx:Passes CX X E)
  (ha:PA X (e::es) t) (nP:(x==("__debug__" : Str))=false:=by decide) (he:starEach (e::es) X.env=(false,eval e X.env)::starEach es X.env:=by rfl) (pJ:(backTo pos (starEach es X.env)).any (·.1)=false:=by rfl) :
  PE X (.Call (.Name x p) (e::es) [] pos) (MV C sp vd E t):=by
 intro pins s σ H Q I h
 refine wpAny_Call_Name_kw (gN I hg hm ?_ nP)
 refine PySem.W.callWith_K (h₀:=X.base) I.ok.mod.xF M.kp (bz (ha s σ H _ I h) fun us s1 hz_=>ai.el hz_ _ fun vs H1 I1 r q=>⟨I1.gT,?_⟩) he pJ
 exact BI M F hr hb hd hx I1 r q
end
structure aB (N P:List Str)(sc:Scope):Prop where
 kind:sc.kind = .function
 co:sc.isCoroutine=false
 gen:sc.isGenerator=false
 nd:N.Nodup
 pre:N.take P.length=P
 par:∀x∈P,sc.names.lookup x=some .local∨sc.names.lookup x=some .cell
 nofree:∀y∈sc.names,y.2 ≠ .free
theorem qh {kindOf:Str->Option NameKind}{x:Str}:∀{binds:List (Str×Value)} {m:Str->Option Value},(∀v,(x,v)∉binds)->bindL kindOf binds m x=m x
 | [],_,_=>rfl
 | (n,v)::r,m,h=>by
  unfold bindL
  rw[qh fun w hw=>h w (Jo _ hw)]
  split
  ·have:x≠n:=by rintro rfl;exact h v Js
   simp[this]
  ·rfl
theorem pR {kindOf:Str->Option NameKind}{x:Str}:∀{binds:List (Str×Value)} {m:Str->Option Value},(∀v,(x,v)∉binds)->bindC kindOf binds m x=m x
 | [],_,_=>rfl
 | (n,v)::r,m,h=>by
  unfold bindC
  rw[pR fun w hw=>h w (Jo _ hw)]
  split
  ·rfl
  ·have:x≠n:=by rintro rfl;exact h v Js
   simp[this]
theorem qe {kindOf:Str->Option NameKind}{x:Str}{v:Value}:∀{P:List Str} {vs:List Value} {i:Nat} {m:Str->Option Value},P.Nodup->P[i]? = some x->vs[i]? = some v->kindOf x=some .local ->
  bindL kindOf (P.zip vs) m x=some v
 | [],_,_,_,_,h,_,_=>by simp at h
 | _::_,[],_,_,_,_,h,_=>by simp at h
 | p::P,w::vs,0,m,nd,h1,h2,hk=>by
  simp at h1 h2;subst h1;subst h2
  show bindL kindOf ((p,w)::P.zip vs) m p=_
  unfold bindL
  rw[qh fun v hv=>(Yi.mp nd).1 (List.of_mem_zip hv).1,if_pos hk]
  simp
 | p::P,w::vs,i+1,m,nd,h1,h2,hk=>by
  show bindL kindOf ((p,w)::P.zip vs) m x=_
  unfold bindL
  exact qe (i:=i) (Yi.mp nd).2 (by simpa using h1) (by simpa using h2) hk
theorem qI {kindOf:Str->Option NameKind}{x:Str}{v:Value}:∀{P:List Str} {vs:List Value} {i:Nat} {m:Str->Option Value},P.Nodup->P[i]? = some x->vs[i]? = some v->kindOf x≠some .local ->
  bindC kindOf (P.zip vs) m x=some v
 | [],_,_,_,_,h,_,_=>by simp at h
 | _::_,[],_,_,_,_,h,_=>by simp at h
 | p::P,w::vs,0,m,nd,h1,h2,hk=>by
  simp at h1 h2;subst h1;subst h2
  show bindC kindOf ((p,w)::P.zip vs) m p=_
  unfold bindC
  rw[pR fun v hv=>(Yi.mp nd).1 (List.of_mem_zip hv).1,if_neg hk]
  simp
 | p::P,w::vs,i+1,m,nd,h1,h2,hk=>by
  show bindC kindOf ((p,w)::P.zip vs) m x=_
  unfold bindC
  exact qI (i:=i) (Yi.mp nd).2 (by simpa using h1) (by simpa using h2) hk
noncomputable def start (N:List Str)(vs:List V):St:=vs.map some++Jv (N.length-vs.length) none
noncomputable def gU (CX:zV)(P:Program)(w:World)(K:Ja)(mg:Str->Option Value)(base:Heap)(N:List Str)(qual:Str)(scope:Scope)(f:Addr)(cd:Value)(A:Around)(outer:List Env)(s:Shared)(H:Hp)(E:XK):Cx where
 prog:=P
 w:=w
 K:=K
 mg:=mg
 base:=base
 A:=A.deeper (envOfC qual scope s.heap.objs.size f cd)
 N:=N
 s₀:=s
 H₀:=H
 env:=envOfC qual scope s.heap.objs.size f cd
 outer:=outer
 stack:=envOfC qual scope s.heap.objs.size f cd::outer
 ex:=[]
 calm:=true
 fn:=fun _=>true
 pn:=[]
 xe:=fun e s'=>wpAny (model P w) (A.deeper (envOfC qual scope s.heap.objs.size f cd)) (leaving (envOfC qual scope s.heap.objs.size f cd) e) (fun _ s''=>CX outer H s E e s'') (fun e' s''=>CX outer H s E e' s'') s'
theorem uZ {sc:Scope}{n:Nat}{x:Str}(h:sc.names.lookup x=some .cell):∃c,(cellsFrom n sc.names []).lookup x=some c:=by
 have q:=PySem.W.cellsFrom_some sc.names n [] (.inl h)
 exact Option.isSome_iff_exists.mp q
theorem zc {CX:zV}{P:Program}{w:World}{K:Ja}{mg:Str->Option Value}{base:Heap}{N ps:List Str}{qual:Str}{scope:Scope}{f:Addr}{cd:Value}{A:Around}{outer:List Env}{s s1:Shared}{H:Hp}{E:XK}{us:List Value}{vs:List V}
  (S:aB N ps scope) (hd:A.handled=none) (e0:xn P w K mg base A outer s H) (hl:vs.length=ps.length) (r:Vals vs us)
  (x:InCallC s s.heap.objs.size (bindL (envOfC qual scope s.heap.objs.size f cd).kindOf (ps.zip us) fun _=>none) (cellsFrom (s.heap.objs.size+1) scope.names []) (bindC (envOfC qual scope s.heap.objs.size f cd).kindOf (ps.zip us) fun _=>none) s1) :
  Inv (gU CX P w K mg base N qual scope f cd A outer s H E) [] (start N vs) H s1:=by
 have pJ:ps.length<=N.length:=by have:=congrArg List.length S.pre;rw[Uo] at this;omega
 obtain⟨h1,tk,rfl,hk⟩:=x.done
 have Lz:∀b:Addr,b∉(gU CX P w K mg base N qual scope f cd A outer s H E).ex:=fun b z=>absurd (show b∈([]:List Addr) from z) (by simp)
 refine⟨⟨e0.mod,S.kind,rfl,rfl,Je _,fun y z c h1 h2 =>?_,fun y hy =>?_,fun y c _ h =>?_,fun _=>hd,Around.frames_deeper e0.frames,.inr ⟨rfl,rfl⟩,fun b z=>absurd z (Lz b),e0.bs,e0.bsz,fun b _ _=>Lz b,fun b z=>absurd z (Lz b),e0.i7,e0.frf⟩,
  rfl,e0.bare,Un.kept hk,⟨_,x.toInCall.ns,fun i y v h1 h2 h3 =>?_⟩,fun y c h=>⟨_,x.cell y c h⟩,e0.bw.fresh (Je _),fun y c h =>?_,fun p hp=>absurd (show p∈([]:List (Addr×Obj)) from hp) (by simp),e0.bw.kept hk,?_⟩
 ·exact name_of_addr x.apart (PySem.mem_of_lookup h1) (PySem.mem_of_lookup h2)
 ·have hy:scope.names.lookup y=some .cell∨scope.names.lookup y=some .free:=hy
  rcases hy with hy|hy
  ·exact uZ hy
  ·exact absurd rfl (S.nofree _ (PySem.mem_of_lookup hy))
 ·exact Yh (x.above y c (PySem.mem_of_lookup h))
 ·have hi:i<vs.length:=by
   unfold start at h2
   by_cases hi:i<vs.length
   ·exact hi
   ·rw[Ux (by simpa using hi)] at h2
    rw[Yx] at h2
    split at h2<;>cases h2
  have ha:vs[i]? = some v:=by
   unfold start at h2
   rw[Yb (by simpa using hi),Jk] at h2
   cases e:vs[i]? with
   | none=>rw[e] at h2;cases h2
   | some a=>rw[e] at h2;cases h2;rfl
  obtain⟨u,hu,rv⟩:=r.get ha
  have hp:ps[i]? = some y:=by
   rw[<-S.pre,List.getElem?_take_of_lt (by omega)];exact h1
  have TK:ps.Nodup:=by rw[<-S.pre];exact S.nd.sublist (List.take_sublist _ _)
  refine⟨u,rv,?_⟩
  rcases S.par y (Jz hp) with k|k
  ·exact .inl ⟨k,qe TK hp hu k⟩
  ·obtain⟨c,e⟩:=uZ (n:=s.heap.objs.size+1) k
   refine .inr ⟨.inl k,c,e,?_⟩
   have q:=x.cell y c e
   rw[qI TK hp hu (by show scope.names.lookup y≠_;rw[k];decide)] at q
   exact q
 ·exact e0.bw.fresh (Yh (x.above y c (PySem.mem_of_lookup h)))
 ·unfold start
  show _=N.length
  rw[Jw,Jd,Uu]
  omega
theorem GK {CX:zV}{P:Program}{w:World}{K:Ja}{mg:Str->Option Value}{base:Heap}{k:Nat}{f:Addr}{name qual:Str}{params:Arguments}{body:List Stmt}{scope:Scope}{dV kV doc pm cH ct oc:Value}{an od:Option Addr}
  {Ap:Array (Option Value)} {N ps:List Str} {sp:Sp} (lk:K.lookup f=some ⟨oc,od,.func (Yr name qual params body scope dV kV doc pm an cH ct),Ap⟩) (vO:Y9 K cH qual=true) (S:aB N ps scope)
  (len:∀vs H Q E,sp vs H Q E->vs.length=ps.length)
  (uI:∀(A:Around) (outer:List Env) (s:Shared) (H:Hp) (vs:List V) (Q:VK) (E:XK),cG k (A.deeper (envOfC qual scope s.heap.objs.size f cH))->sp vs H Q E ->
   ∃t,vk (gU CX P w K mg base N qual scope f cH A outer s H E) body t/\t { nx:=fun _ H'=>Q .non H',rt:=Q } (start N vs) H) :
  bh P w K mg base CX (k+1) f (Yr name qual params body scope dV kV doc pm an cH ct) ps sp:=by
 refine⟨len,fun A outer s H args us vs Q E hr e0 hb r D7 =>?_⟩
 have hl:=len _ _ _ _ D7
 have KX:K.In s.heap:=e0.mod.xF.keeps fun b o e=>(e0.bs b o e).1
 have lim:s.heap.NoLimit:=e0.mod.nolimit.keeps fun b o e=>(e0.bs b o e).1
 have Le:∀y∈ps.zip us,scope.names.lookup y.1=some .local∨(scope.names.lookup y.1=some .cell/\((cellsFrom (s.heap.objs.size+1) scope.names []).lookup y.1).isSome=true):=fun⟨n,v⟩ hy=>by
  rcases S.par n (List.of_mem_zip hy).1 with q|q
  ·exact .inl q
  ·exact .inr ⟨q,PySem.W.cellsFrom_some _ _ _ (.inl q)⟩
 refine codeAny_call_function hr.depth (KX _ _ lk) rfl S.co S.gen rfl (PySem.W.codeRec_of KX vO) (hb _ _ _ _ ?_)
 refine wpAny_newFunctionEnv_cells S.kind Le fun env he s1 x =>?_
 subst he
 refine⟨lim.keeps x.toInCall.keep,codeAny_func ?_⟩
 obtain⟨t,ht,hq⟩:=uI A outer s H vs Q E (hr.deeper _) D7
 have I:Inv (gU CX P w K mg base N qual scope f cH A outer s H E) [] (start N vs) H s1:=zc S hr.hd e0 hl r x
 refine wpAny_mono (ht s1 (start N vs) H _ I hq) (fun fl s' hs =>?_) fun e s' hs=>hs
 have fin:∀{σ':St} {H':Hp} {v:V} {u:Value},Inv (gU CX P w K mg base N qual scope f cH A outer s H E) [] σ' H' s'->RelV v u->Q v H'->CE outer P w H s Q u s':=
  fun{σ' H' v u} J rv q=>⟨v,H',J.os,J.bare,J.base,J.bw,rv,q⟩
 cases fl with
 | ret u=>
  obtain⟨v,σ',H',J,rv,q⟩:=hs
  exact fin J rv q
 | next=>
  obtain⟨σ',H',J,q⟩:=hs
  exact fin (v:=V.non) (u:=Value.none) J rfl q
 | brk=>
  obtain⟨_,_,_,q⟩:=hs
  exact False.elim q
 | cont=>
  obtain⟨_,_,_,q⟩:=hs
  exact False.elim q
section
variable {X:Cx}{x:Str}{p pos:Pos}{e:Expr}{es:List Expr}{t:TA}{id T:String}{r:List V->Hp->VK->Prop}
def Qo (r:List V->Hp->VK->Prop)(t:TA):TE:=fun σ H Q=>t σ H fun vs H1=>r vs H1 Q
theorem ao (hc:bB X (.builtin id) r)(hg:Gl X x)(hm:X.mg x=none)(hv:bootBuiltins x=some (.builtin id))(ha:PA X (e::es) t)(hn:x ≠ "__name__":=by decide)(nP:(x==("__debug__" : Str))=false:=by decide)
  (he:starEach (e::es) X.env=(false,eval e X.env)::starEach es X.env:=by rfl) (pJ:(backTo pos (starEach es X.env)).any (·.1)=false:=by rfl):PE X (.Call (.Name x p) (e::es) [] pos) (Qo r t):=by
 intro pins s σ H Q I h
 refine wpAny_Call_Name_kw (dF I hg hm hv ?_ hn nP)
 exact PyProof.Rows.callWith_builtin1 (bz (ha s σ H _ I h) fun us s1 hz_=>ai.el hz_ _ fun vs H1 I1 r1 q1=>hc s1 σ H1 vs us Q I1 r1 q1) he pJ
theorem bf (hc:bB X (.type T) r)(hg:Gl X x)(hm:X.mg x=none)(hv:bootBuiltins x=some (.type T))(ha:PA X (e::es) t)(hn:x ≠ "__name__":=by decide)(nP:(x==("__debug__" : Str))=false:=by decide)
  (he:starEach (e::es) X.env=(false,eval e X.env)::starEach es X.env:=by rfl) (pJ:(backTo pos (starEach es X.env)).any (·.1)=false:=by rfl):PE X (.Call (.Name x p) (e::es) [] pos) (Qo r t):=by
 intro pins s σ H Q I h
 refine wpAny_Call_Name_kw (dF I hg hm hv ?_ hn nP)
 exact PyProof.Rows.callWith_type1 (bz (ha s σ H _ I h) fun us s1 hz_=>ai.el hz_ _ fun vs H1 I1 r1 q1=>hc s1 σ H1 vs us Q I1 r1 q1) he pJ
end
section
variable {κ:Type}[DecidableEq κ]
noncomputable def gq (kvs:List (κ×V))(k: κ):Option V:=(kvs.find? fun kv=>decide (kv.1=k)).map (·.2)
noncomputable def putK (kvs:List (κ×V))(k: κ)(v:V):List (κ×V):=
 if (kvs.any fun kv=>decide (kv.1=k))=true then kvs.map (fun kv=>if kv.1=k then (kv.1,v) else kv) else kvs++[(k,v)]
theorem dN {p: κ×V}{r:List (κ×V)}{k: κ}(e:p.1=k):gq (p::r) k=some p.2:=by simp[gq,List.find?_cons,e]
theorem dY {p: κ×V}{r:List (κ×V)}{k: κ}(e:¬p.1=k):gq (p::r) k=gq r k:=by simp[gq,List.find?_cons,e]
theorem jX (k: κ):∀kvs:List (κ×V),(kvs.any fun kv=>decide (kv.1=k))=(gq kvs k).isSome
 | []=>rfl
 | p::r=>by
  rw[Y5]
  by_cases e:p.1=k
  ·simp only[dN e,decide_eq_true e,Bool.true_or,Option.isSome_some]
  ·rw[dY e,decide_eq_false e,Bool.false_or];exact jX k r
theorem qk (k j: κ)(y:V):∀kvs:List (κ×V),gq kvs k=none->gq (kvs++[(k,y)]) j=if j=k then some y else gq kvs j
 | [],_=>by
  by_cases e:k=j
  ·rw[if_pos e.symm];exact dN (p:=(k,y)) e
  ·rw[if_neg (fun z=>e z.symm)];exact dY (p:=(k,y)) e
 | p::r,hn=>by
  rw[List.cons_append]
  have hk:¬p.1=k:=fun z=>by rw[dN z] at hn;cases hn
  rw[dY hk] at hn
  have ih:=qk k j y r hn
  by_cases e:p.1=j
  ·rw[dN e,dN e,if_neg (fun z=>hk (e.trans z))]
  ·rw[dY e,dY e,ih]
theorem hW (kvs:List (κ×V))(k: κ)(v:V):(putK kvs k v).length<=kvs.length+1:=by
 unfold putK
 split
 ·rw[Jd];omega
 ·rw[Jw,Jt,List.length_nil];omega
theorem BP {kvs:List (κ×V)}{k: κ}(v:V)(h:gq kvs k=none):putK kvs k v=kvs++[(k,v)]:=by
 unfold putK
 rw[jX,h]
 exact if_neg (by decide)
theorem j6.Bc {o:Option V}{u:Option Value}(r:j6 o u):o.isSome=u.isSome:=by
 cases o with
 | none=>cases u with
  | none=>rfl
  | some _=>exact(show False from r).elim
 | some _=>cases u with
  | none=>exact(show False from r).elim
  | some _=>rfl
theorem KV.val {kvs:List (κ×V)}{vs:List (κ×Value)}(r:KV kvs vs)(k: κ):j6 (gq kvs k) (valueAt vs k):=by
 unfold KV at r
 induction r with
 | nil=>exact True.intro
 | @cons p q ps qs h t ih=>
  obtain⟨h1,h2⟩:=h
  by_cases e:p.1=k
  ·have e':q.1=k:=h1.symm.trans e
   have b:valueAt (q::qs) k=some q.2:=by simp[valueAt,List.find?_cons,e']
   rw[dN e,b];exact h2
  ·have e':¬q.1=k:=fun z=>e (h1.trans z)
   have b:valueAt (q::qs) k=valueAt qs k:=by simp[valueAt,List.find?_cons,e']
   rw[dY e,b];exact ih
theorem KV.any {kvs:List (κ×V)}{vs:List (κ×Value)}(r:KV kvs vs)(k: κ):(kvs.any fun kv=>decide (kv.1=k))=vs.any fun kv=>decide (kv.1=k):=by
 unfold KV at r
 induction r with
 | nil=>rfl
 | cons h t ih=>rw[Y5,Y5,ih,h.1]
theorem KV.Im {kvs:List (κ×V)}{vs:List (κ×Value)}(r:KV kvs vs)(k: κ){y:V}{u:Value}(ry:RelV y u):
  KV (kvs.map fun kv=>if kv.1=k then (kv.1,y) else kv) (vs.map fun kv=>if kv.1=k then (kv.1,u) else kv):=by
 unfold KV at r ⊢
 induction r with
 | nil=>exact .nil
 | @cons p q ps qs h t ih=>
  rw[Jy,Jy]
  refine .cons ?_ ih
  obtain⟨h1,h2⟩:=h
  by_cases e:p.1=k
  ·rw[if_pos e,if_pos (h1.symm.trans e)];exact⟨h1,ry⟩
  ·rw[if_neg e,if_neg (fun z=>e (h1.trans z))];exact⟨h1,h2⟩
theorem KV.put {kvs:List (κ×V)}{vs:List (κ×Value)}(r:KV kvs vs)(k: κ){y:V}{u:Value}(ry:RelV y u):KV (putK kvs k y) (stored vs k u):=by
 unfold putK stored
 rw[r.any k]
 by_cases e:(vs.any fun kv=>decide (kv.1=k))=true
 ·rw[if_pos e,if_pos e];exact r.Im k ry
 ·rw[if_neg e,if_neg e];exact Paired.snoc r ⟨rfl,ry⟩
theorem KV.length {kvs:List (κ×V)}{vs:List (κ×Value)}(r:KV kvs vs):kvs.length=vs.length:=Paired.length r
end
theorem pO {P:Program}{w:World}{k:Key}{u:Value}(r:RelV (kV k) u):(br P w).is k u=true:=by
 cases k with
 | inl i=>obtain⟨t,e⟩:=(show ∃t,u=Value.int i t from r);subst e;exact uL P w i t
 | inr x=>obtain⟨t,e⟩:=(show ∃t,u=Value.str x t from r);subst e;exact uX P w x t
theorem pS {P:Program}{w:World}:∀{ks:List Key} {us:List Value},Vals (ks.map kV) us->ItemsAre (br P w) ks us
 | [],_,r=>by rw[List.map_nil] at r;cases r;exact .nil
 | k::ks,_,r=>by
  rw[Jy] at r
  cases r with
  | cons h t=>exact .cons (pO h) (pS t)
abbrev KT (H:Hp):List (List Key×V)->List (List Key×Addr×Value)->Prop:=Paired fun p q=>p.1=q.1/\H q.2.1=some (.tup (p.1.map kV))/\RelV p.2 q.2.2
theorem KT.val {H:Hp}{kvs:List (List Key×V)}{xs:List (List Key×Addr×Value)}(r:KT H kvs xs)(k:List Key):j6 (gq kvs k) ((atKey xs k).map (·.2)):=by
 induction r with
 | nil=>exact True.intro
 | @cons p q ps qs h t ih=>
  obtain⟨h1,_,h2⟩:=h
  by_cases e:p.1=k
  ·have e':q.1=k:=h1.symm.trans e
   have b:atKey (q::qs) k=some q.2:=by simp[atKey,List.find?_cons,e']
   rw[dN e,b];exact h2
  ·have e':¬q.1=k:=fun z=>e (h1.trans z)
   have b:atKey (q::qs) k=atKey qs k:=by simp[atKey,List.find?_cons,e']
   rw[dY e,b];exact ih
theorem KT.Im {H:Hp}{kvs:List (List Key×V)}{xs:List (List Key×Addr×Value)}(r:KT H kvs xs)(k:List Key){y:V}{u:Value}(ry:RelV y u):
  KT H (kvs.map fun kv=>if kv.1=k then (kv.1,y) else kv) (xs.map (putAt k u)):=by
 induction r with
 | nil=>exact .nil
 | @cons p q ps qs h t ih=>
  rw[Jy,Jy]
  refine .cons ?_ ih
  obtain⟨h1,h2,h3⟩:=h
  unfold putAt
  by_cases e:p.1=k
  ·rw[if_pos e,if_pos (h1.symm.trans e)];exact⟨h1,h2,ry⟩
  ·rw[if_neg e,if_neg (fun z=>e (h1.trans z))];exact⟨h1,h2,h3⟩
theorem KT.put {H:Hp}{kvs:List (List Key×V)}{xs:List (List Key×Addr×Value)}(r:KT H kvs xs)(k:List Key){b:Addr}{y:V}{u:Value}(hb:H b=some (.tup (k.map kV)))(ry:RelV y u):
  KT H (putK kvs k y) (storedH xs k b u):=by
 have e:(kvs.any fun kv=>decide (kv.1=k))=(atKey xs k).isSome:=by
  rw[jX,(r.val k).Bc,Option.isSome_map]
 unfold putK storedH
 rw[e]
 by_cases q:(atKey xs k).isSome=true
 ·rw[if_pos q,if_pos q];exact r.Im k ry
 ·rw[if_neg q,if_neg q];exact Paired.snoc r ⟨rfl,hb,ry⟩
theorem KT.keeps {H H':Hp}{kvs:List (List Key×V)}{xs:List (List Key×Addr×Value)}(r:KT H kvs xs)(ht:∀b ys,H b=some (.tup ys)->H' b=some (.tup ys)):KT H' kvs xs:=
 Paired.Mt r fun _ _ z=>⟨z.1,ht _ _ z.2.1,z.2.2⟩
section
variable {P:Program}{w:World}{H:Hp}{h:Heap}{a:Addr}
theorem Hc {u:HO}(ok:gO P w H h)(e:Rd H a u):bg P w H h a u:=e.ok ok
theorem CQ {kvs:List (Key×V)}(ok:gO P w H h)(e:Rd H a (.dK kvs)):kvs.length<=sizeLine/\(a==sysModules)=false/\∃vs,KV kvs vs/\h.DictOf (br P w) a vs:=
 show bg P w H h a (.dK kvs) from Hc ok e
theorem BK {kvs:List (Key×V)}(ok:gO P w H h)(e:H a=some (.dK kvs)):kvs.length<=sizeLine/\(a==sysModules)=false/\∃vs,KV kvs vs/\h.DictOf (br P w) a vs:=CQ ok (.inl e)
theorem xt {ks:List Key}(ok:gO P w H h)(e:H a=some (.tup (ks.map kV))):(tupleKind (br P w)).is h ks a:=by
 obtain⟨_,aq,r,o,h1,_,h2,n,h3⟩:=(show bg P w H h a (.tup (ks.map kV)) from ok a _ e)
 exact⟨o,aq.toArray,n,h1,h2,h3,by simpa using pS r⟩
theorem B8 {kvs:List (List Key×V)}(ok:gO P w H h)(e:Rd H a (.dT kvs)):kvs.length<=sizeLine/\(a==sysModules)=false /\
  ∃xs,KT H kvs xs/\h.DictOfH (tupleKind (br P w)) a xs:=by
 obtain⟨z,y,xs,r,o,es,ep,h1,h2,h3,h4,h5⟩:=(show bg P w H h a (.dT kvs) from Hc ok e)
 refine⟨z,y,xs,r,o,es,ep,h1,h2,h3,h4,fun x hx =>?_,h5⟩
 have all:∀{l:List (List Key×V)} {m:List (List Key×Addr×Value)},KT H l m->∀x∈m,(tupleKind (br P w)).is h x.1 x.2.1:=by
  intro l m q
  induction q with
  | nil=>intro x hx;exact nomatch hx
  | @cons p q ps qs hq t ih=>
   intro x hx
   rcases Jr.mp hx with e|hx
   ·subst e
    exact xt ok (by rw[<-hq.1];exact hq.2.1)
   ·exact ih x hx
 exact all r x hx
theorem MY {kvs:List (List Key×V)}(ok:gO P w H h)(e:H a=some (.dT kvs)):kvs.length<=sizeLine/\(a==sysModules)=false /\
  ∃xs,KT H kvs xs/\h.DictOfH (tupleKind (br P w)) a xs:=B8 ok (.inl e)
end
def dI (H:Hp)(a:Addr)(y:V)(r:Option V):Prop:=
 (eu fun kvs k=>Rd H a (.dK kvs)/\y=kV k/\r=gq kvs k)∨o7 fun kvs k b=>Rd H a (.dT kvs)/\y = .ref b/\H b=some (.tup (k.map kV))/\r=gq kvs k
def pj (H:Hp)(a:Addr)(y v:V)(H':Hp):Prop:=
 (eu fun kvs k=>H a=some (.dK kvs)/\y=kV k/\kvs.length<sizeLine/\H'=upd H a (.dK (putK kvs k v))) ∨
 o7 fun kvs k b=>H a=some (.dT kvs)/\y = .ref b/\H b=some (.tup (k.map kV))/\kvs.length<sizeLine/\H'=upd H a (.dT (putK kvs k v))
theorem dI.k {H:Hp}{a:Addr}{kvs:List (Key×V)}{k:Key}(e:H a=some (.dK kvs)):dI H a (kV k) (gq kvs k) := .inl ⟨kvs,k,.inl e,rfl,rfl⟩
theorem pj.k {H:Hp}{a:Addr}{kvs:List (Key×V)}{k:Key}{v:V}(e:H a=some (.dK kvs))(hl:kvs.length<sizeLine):pj H a (kV k) v (upd H a (.dK (putK kvs k v))) := .inl ⟨kvs,k,e,rfl,hl,rfl⟩
section
variable {X:Cx}{pins:List (Addr×Obj)}{σ:St}{H:Hp}{s:Shared}{a:Addr}{y v:V}{u r:Value}{o:Option V}{A:Around}{E:Value->Shared->Prop}
theorem Inv.big (I:Inv X pins σ H s):sysModules<s.heap.objs.size:=by
 have h:mainGlobals<s.heap.objs.size:=(I.mod.glob.keeps I.bk).lt
 exact Nat.lt_trans (by decide) h
theorem zg {Q:Value->Shared->Prop}(hu:A.units+1<cLine)(I:Inv X pins σ H s)(g:dI H a y (some v))(ry:RelV y u)(h:∀w' s',Inv X pins σ H s'->RelV v w'->Q w' s'):
  wpAny (model X.prog X.w) A (getItem (.ref a) u) Q E s:=by
 rcases g with ⟨kvs,k,e,ey,l⟩|⟨kvs,k,b,e,ey,eb,l⟩
 ·subst ey
  obtain⟨z,hd,vs,rel,dd⟩:=CQ I.bw e
  obtain⟨w',hw,rw'⟩:=j6.rR (v:=v) (o:=valueAt vs k) (by rw[l];exact rel.val k)
  exact wpAny_getItem_of (pO ry) dd.mapOf hw (h w' _ (I.tok _) rw')
 ·subst ey
  cases (show u=Value.ref b from ry)
  obtain⟨z,hd,xs,rel,dd⟩:=B8 I.bw e
  obtain⟨w',hw,rw'⟩:=j6.rR (v:=v) (o:=(atKey xs k).map (·.2)) (by rw[l];exact rel.val k)
  obtain⟨p,hp,EX⟩:=Option.map_eq_some_iff.mp hw
  refine wpAny_getItem_heap (tupleKind_room_in1 hu) (xt I.bw eb) dd hp ?_
  rw[EX]
  exact h w' _ (I.tok _) rw'
theorem mq {h':Heap}{t':Nat}{ob:HO}(I:Inv X pins σ H s)(mu:LO (H a))(hs:U1 a s.heap h')(he:∃q,h'.get? a=some q)(new:bg X.prog X.w (upd H a ob) h' a ob):
  Inv X pins σ (upd H a ob) { s with heap:=h',toks:=t' }:=
 I.write (x:=a) (e:=a) mu (.inl rfl) (fun b q hb z=>(hs.2 b hb).trans z) he new
theorem DA {P:Program}{w:World}{H':Hp}{h':Heap}{kvs:List (Key×V)}{vs:List (Key×Value)}(z:kvs.length<=sizeLine)(hd:(a==sysModules)=false)(rel:KV kvs vs)(dd:h'.DictOf (br P w) a vs):
  bg P w H' h' a (.dK kvs):=⟨z,hd,vs,rel,dd⟩
theorem AH {H':Hp}{Q:Unit->Shared->Prop}(hu:A.units+1<cLine)(I:Inv X pins σ H s)(g:pj H a y v H')(ry:RelV y u)(rv:RelV v r)(h:∀s',Inv X pins σ H' s'->Q () s'):
  wpAny (model X.prog X.w) A (setItem (.ref a) u r) Q E s:=by
 rcases g with ⟨kvs,k,e,ey,l,eH⟩|⟨kvs,k,b,e,ey,eb,l,eH⟩
 ·subst ey eH
  obtain⟨z,hd,vs,rel,dd⟩:=BK I.bw e
  have hz:vs.length<=sizeLine:=by rw[<-rel.length];exact z
  have hl:(putK kvs k v).length<=sizeLine:=by have:=hW kvs k v;omega
  refine wpAny_setItem_pairs (hsz:=hz) (pO ry) dd fun h' dd' hs=>h _ ?_
  have he:∃q,h'.get? a=some q:=let ⟨q,_,_,hq,_⟩:=dd'; ⟨q,hq⟩
  exact mq I (by rw[e];exact True.intro) hs he (DA hl hd (rel.put k rv) dd')
 ·subst ey eH
  cases (show u=Value.ref b from ry)
  obtain⟨z,hd,xs,rel,dd⟩:=MY I.bw e
  have hz:xs.length<=sizeLine:=by rw[<-Paired.length rel];exact z
  have hl:(putK kvs k v).length<=sizeLine:=by have:=hW kvs k v;omega
  refine wpAny_setItem_heap (hsz:=hz) (tupleKind_room_in1 hu) (xt I.bw eb) dd fun h' dd' hs=>h _ ?_
  obtain⟨q,es,ep,hq,h2,h3,h4,_,h5⟩:=dd'
  refine mq I (by rw[e];exact True.intro) hs ⟨q,hq⟩ ⟨hl,hd,_,(rel.put k eb rv).keeps fun c ys ec =>?_,q,es,ep,hq,h2,h3,h4,h5⟩
  rw[aj (Hg ec e (fun z=>nomatch z))]
  exact ec
end
def Hw (i:Expr):Prop:=∀ov iv,subscripted i false ov iv=operate [ov,iv] (getItem ov iv)
theorem xX {prog:Program}{w:World}{A:Around}{E:Value->Shared->Prop}{s:Shared}{env:Env}{value slice:Expr}{pos:Pos}{T id:String}{Q:Value->Shared->Prop}
  (hl:typeLookup (.type T) "__getitem__" = pure (some (.builtin id))) (hs:Hw slice)
  (h:wpAny (model prog w) A (eval value env) (fun o s₁=>wpAny (model prog w) A (eval slice env) (fun i s₂=>s₂.TypeIs o T/\wpAny (model prog w) A (getItem o i) Q E s₂) E s₁) E s) :
  wpAny (model prog w) A (eval (.Subscript value slice pos) env) Q E s:=by
 refine Subscript_ (wpAny_mono h (fun o s₁ h₁=>wpAny_mono h₁ (fun i s₂ h₂ =>?_) fun _ _ x=>x) fun _ _ x=>x)
 obtain⟨hT,h₂⟩:=h₂
 unfold subscriptTail
 refine wpAny_bind ?_
 rw[getitemInPython_of_ne hT.not_modules]
 refine wpAny_bind (wpAny_specialOf hT hl ?_)
 have fin:wpAny (model prog w) A (subscripted slice false o i) (fun r s₃=>wpAny (model prog w) A (letTemporaryGo value o r >>= fun _=>pure r) Q E s₃) E s₂:=by
  rw[hs o i]
  exact wpAny_operating (wpAny_mono h₂ (fun r s₃ h₃=>wpAny_bind (wpAny_letTemporaryGo (wpAny_pure h₃))) fun _ _ x=>x)
 first
  | exact wpAny_pure (wpAny_bind fin)
  | exact wpAny_bind (wpAny_pure (wpAny_bind fin))
  | exact wpAny_bind fin
theorem uF {X:Cx}{pins:List (Addr×Obj)}{σ:St}{H:Hp}{s:Shared}{a:Addr}{y:V}{o:Option V}(I:Inv X pins σ H s)(g:dI H a y o):s.TypeIs (.ref a) "dict":=by
 rcases g with ⟨kvs,k,e,_,_⟩|⟨kvs,k,b,e,_,_,_⟩
 ·obtain⟨_,_,vs,_,dd⟩:=CQ I.bw e
  exact dd.typeIs
 ·obtain⟨_,_,xs,_,dd⟩:=B8 I.bw e
  exact dd.typeIs
def Ld (td ty:TE):TE:=fun σ H Q=>td σ H fun x H1=>ty σ H1 fun y H2=>eu fun a v=>x = .ref a/\dI H2 a y (some v)/\Q v H2
def NX (td ty tv:TE):TS:=fun D σ H=>tv σ H fun v H1=>td σ H1 fun x H2=>ty σ H2 fun y H3=>eu fun a H4=>x = .ref a/\pj H3 a y v H4/\D.nx σ H4
section
variable {X:Cx}{o i e value:Expr}{pos pos' R9:Pos}{td ty tv:TE}
theorem bI (hu:X.A.units+1<cLine)(ho:PE X o td)(hi:PE X i ty)(hs:Hw i):PE X (.Subscript o i pos) (Ld td ty):=by
 intro pins s σ H Q I h
 refine xX PySem.F.slot_dict_getitem.lookup hs (bz (ho s σ H _ I h) fun u s1 hz_=>ai.el hz_ _ fun x H1 I1 rx q1=>bz (hi s1 σ H1 _ I1 q1) fun iv s2 hz_ =>?_)
 refine ai.el hz_ _ ?_
 clear hz_
 rintro y H2 I2 ry ⟨a,v,ex,g,q2⟩
 subst ex
 obtain rfl:u=Value.ref a:=rx
 exact⟨uF I2 g,zg hu I2 g ry fun w' s3 I3 rw'=>⟨v,H2,I3,rw',q2⟩⟩
theorem q9 (hu:X.A.units+1<cLine)(ho:PE X o td)(hi:PE X i ty)(hv:PE X value tv)(hs:swapsWith value (some (.Subscript o i pos')) pos.line X.env=pure false):
  PS X (.Assign [.Subscript o i pos'] value pos) (NX td ty tv):=by
 intro pins s σ H D I h
 refine wpAny_Assign_Subscript (bz (hv s σ H _ I h) fun r s1 ⟨v,H1,I1,rv,q1⟩=>bz (ho s1 σ H1 _ I1 q1) fun u s2 ⟨x,H2,I2,rx,q2⟩=>bz (hi s2 σ H2 _ I2 q2) fun iv s3 ⟨y,H3,I3,ry,a,H4,ex,g,q3⟩=>?_) hs
 subst ex
 obtain rfl:u=Value.ref a:=rx
 exact AH hu I3 g ry rv fun s4 I4=>⟨σ,H4,I4,q3⟩
end
theorem BB {P:Program}{w:World}{H:Hp}(h:Heap)(hb:sysModules<h.objs.size):bg P w H (h.push { cls := .type "dict",data := .dict #[] }) h.objs.size (.dK []):=
 ⟨Uz _,beq_eq_false_iff_ne.mpr (Ne.symm (Jl hb)),[],.nil,Heap.DictOf.new h⟩
def mY:List (TE×TE)->St->Hp->(List (V×V)->Hp->Prop)->Prop
 | [],_,H,Q=>Q [] H
 | (tk,tv)::r,σ,H,Q=>tk σ H fun x H1=>tv σ H1 fun y H2=>mY r σ H2 fun ps H3=>Q ((x,y)::ps) H3
abbrev VV:List (V×V)->List (Value×Value)->Prop:=Paired fun p q=>RelV p.1 q.1/\RelV p.2 q.2
def NP (X:Cx)(pos:Pos)(keys:List (Option Expr))(values:List Expr)(uB:List (TE×TE)):Prop:=
 ∀ ⦃pins:List (Addr×Obj)⦄ (s:Shared) (σ:St) (H:Hp) (Q:List (V×V)->Hp->Prop),Inv X pins σ H s->mY uB σ H Q ->
  wpAny (model X.prog X.w) X.A (evalPairs (pairTrees keys values X.env pos)) (fun vs s'=>eu fun ps H'=>Inv X pins σ H' s'/\VV ps vs/\Q ps H') X.xe s
theorem EM {X:Cx}{pos:Pos}:NP X pos [] [] []:=fun pins s σ H Q I h=>pairTrees_nil_walk ⟨[],H,I,.nil,h⟩
theorem uU {X:Cx}{pos:Pos}{k v:Expr}{ks:List (Option Expr)}{vs:List Expr}{tk tv:TE}{uB:List (TE×TE)}(hk:PE X k tk)(hv:PE X v tv)(hr:NP X pos ks vs uB):
  NP X pos (some k::ks) (v::vs) ((tk,tv)::uB):=fun pins s σ H Q I h=>
 pairTrees_cons_walk (bz (hk s σ H _ I h) fun u s1 hz_=>ai.el hz_ _ fun x H1 I1 rx q1=>bz (hv s1 σ H1 _ I1 q1) fun w2 s2 ⟨y,H2,I2,ry,q2⟩=>
  bz (hr s2 σ H2 _ I2 q2) fun ws s3 hz_=>ai.el hz_ _ fun ps H3 I3 rel q3=>⟨(x,y)::ps,H3,I3,.cons ⟨rx,ry⟩ rel,q3⟩)
noncomputable def ck (kvs more:List (Key×V)):List (Key×V):=more.foldl (fun acc kv=>putK acc kv.1 kv.2) kvs
theorem KV.merge:∀{more:List (Key×V)} {rs:List (Key×Value)} {kvs:List (Key×V)} {vs:List (Key×Value)},KV more rs->KV kvs vs->KV (ck kvs more) (merged vs rs):=by
 intro more rs kvs vs r
 unfold KV at r
 induction r generalizing kvs vs with
 | nil=>intro q;exact q
 | @cons p q ps qs h t ih=>
  intro r0
  have e:KV (putK kvs p.1 p.2) (stored vs q.1 q.2):=by
   have:=r0.put p.1 h.2
   rw[<-h.1];exact this
  exact ih e
theorem cN:∀(more kvs:List (Key×V)),(ck kvs more).length<=kvs.length+more.length
 | [],kvs=>by show kvs.length<=kvs.length+0;omega
 | p::r,kvs=>by
  have h1:=cN r (putK kvs p.1 p.2)
  have h2:=hW kvs p.1 p.2
  show(ck (putK kvs p.1 p.2) r).length<=_
  rw[Jt];omega
theorem oq {P:Program}{w:World}:∀{kvs:List (Key×V)} {ws:List (Value×Value)},VV (kvs.map fun kv=>(kV kv.1,kv.2)) ws->∃rs,Carries (br P w) ws rs/\KV kvs rs
 | [],_,r=>by rw[List.map_nil] at r;cases r;exact⟨[],True.intro,.nil⟩
 | p::kvs,_,r=>by
  rw[Jy] at r
  cases r with
  | @cons a b as bs h t=>
   obtain⟨rs,c,q⟩:=oq (P:=P) (w:=w) t
   obtain⟨b1,b2⟩:=b
   exact⟨(p.1,b2)::rs,⟨pO h.1,rfl,c⟩,.cons ⟨rfl,h.2⟩ q⟩
def DS (uB:List (TE×TE)):TE:=fun σ H Q=>∀p,H p=none->mY uB σ (upd H p (.dK [])) fun ps H2=>H2 p=some (.dK [])/\∃kvs:List (Key×V),ps=kvs.map (fun kv=>(kV kv.1,kv.2))/\kvs.length<=15/\Q (.ref p) (upd H2 p (.dK (ck [] kvs)))
theorem FV {X:Cx}{pos:Pos}{keys:List (Option Expr)}{values:List Expr}{uB:List (TE×TE)}(h:NP X pos keys values uB)(iE:keys.all (·.isSome)=true)(hl:keys.length=values.length)(h0:keys≠[])
  (NC:keys.length<=15):PE X (.Dict keys values pos) (DS uB):=by
 intro pins s σ H Q I q
 have hn:=I.bw.fresh (Je s.heap.objs.size)
 have I1:=I.laid (a:=s.heap.objs.size) (o := .dK []) (h':=s.heap.push { cls := .type "dict",data := .dict #[] }) (t':=s.toks) (fun _ _ q=>Jb _ q) (Je _) (BB s.heap I.big)
 refine wpAny_Dict_walk (knd:=br X.prog X.w) iE hl h0 NC (bz (h _ σ _ _ I1 (q _ hn)) fun ws s2 hz_=>ai.el hz_ _ fun ps H2 I2 rel e kvs ep lk q2 =>?_)
 subst ep
 obtain⟨rs,c,rk⟩:=oq (P:=X.prog) (w:=X.w) rel
 obtain⟨z,hd,vs0,r0,dd⟩:=BK I2.bw e
 cases r0
 refine⟨rs,c,dd,fun h' dd' hs=>⟨.ref s.heap.objs.size,_,?_,rfl,q2⟩⟩
 have hz:(ck [] kvs).length<=sizeLine:=by
  have h1:=cN kvs []
  rw[List.length_nil] at h1
  rw[sizeLine_eq];omega
 have he:∃q,h'.get? s.heap.objs.size=some q:=let ⟨q,_,_,hq,_⟩:=dd'; ⟨q,hq⟩
 exact mq I2 (by rw[e];exact True.intro) hs he (DA hz hd (rk.merge .nil) dd')
end L2
namespace HT
open PySem PyProof.Rows
section
variable {prog:Program}{w:World}{A:Around}{E:Value->Shared->Prop}{s:Shared}
noncomputable def cK (n d:Nat):Option Int->Nat
 | none=>d
 | some v=>if v<0 then (v+(n:Int)).toNat else min v.toNat n
theorem uH (n d:Nat):cK n d none=d:=rfl
theorem iW (n d k:Nat):cK n d (some (k:Int))=min k n:=by
 show(if (k:Int)<0 then ((k:Int)+(n:Int)).toNat else min (k:Int).toNat n)=min k n
 rw[if_neg (by omega),Yy]
theorem IX (n d:Nat)(hd:d<=n)(o:Option Int):cK n d o<=n:=by
 cases o with
 | none=>exact hd
 | some v=>
  show(if v<0 then (v+(n:Int)).toNat else min v.toNat n)<=n
  by_cases hv:v<0
  ·rw[if_pos hv];omega
  ·rw[if_neg hv];exact Nat.min_le_right _ _
theorem yA (v:Int)(n d:Nat):(if v<0 then max (v+(n:Int)) 0 else min v (n:Int))=((cK n d (some v):Nat):Int):=by
 show(if v<0 then max (v+(n:Int)) 0 else min v (n:Int))=(((if v<0 then (v+(n:Int)).toNat else min v.toNat n):Nat):Int)
 by_cases hv:v<0
 ·simp only[if_pos hv];omega
 ·simp only[if_neg hv];omega
theorem wK (lo hi:Option Int)(n:Nat):Builtin.Slice.sliceAdjust lo hi 1 (n:Int)=(((cK n 0 lo:Nat):Int),((cK n n hi:Nat):Int)):=by
 have h1:¬((1:Int)<0):=by omega
 unfold Builtin.Slice.sliceAdjust
 simp only[h1,if_false]
 refine Prod.ext ?_ ?_
 ·cases lo with
  | none=>rfl
  | some v=>exact yA v n 0
 ·cases hi with
  | none=>rfl
  | some v=>exact yA v n n
theorem xc (i j:Nat):Builtin.Slice.slicePlaces (i:Int) (j:Int) 1=j-i:=by
 unfold Builtin.Slice.slicePlaces
 have h1:(1:Int)>0:=by omega
 simp only[h1,if_true,Int.ediv_one]
 split<;>omega
theorem oI {v:Value}{o:Option Int}{Q:Option Int->Shared->Prop}(p:IsPart v o)(h:Q o s):wpAny (model prog w) A (Builtin.Slice.slicePartIndex v) Q E s:=by
 cases p with
 | none=>exact slicePart_none h
 | int i t=>exact slicePart_int h
theorem lj {sl:Addr}{vl vu:Value}{lo hi:Option Int}{n:Nat}{Q:Int×Int×Nat->Shared->Prop}(hs:s.heap.IsSliceOf sl vl vu .none)(pl:IsPart vl lo)(pu:IsPart vu hi)
  (h:Q (((cK n 0 lo:Nat):Int),1,cK n n hi-cK n 0 lo) s):wpAny (model prog w) A (Builtin.Slice.sliceApplied (.ref sl) (pure (n:Int))) Q E s:=by
 obtain⟨os,hos,Bl,hds⟩:=id hs
 unfold Builtin.Slice.sliceApplied Builtin.Slice.sliceFields
 refine wpAny_bind (wpAny_bind (wpAny_field hos hds (x:=vl) rfl (wpAny_bind (wpAny_field hos hds (x:=vu) rfl (wpAny_bind (wpAny_field hos hds (x := .none) rfl (wpAny_pure ?_)))))))
 refine wpAny_bind (slicePart_none ?_)
 show wpAny _ _ (if ((1:Int)==0)=true then _ else _) _ _ s
 rw[if_neg (by decide)]
 refine wpAny_bind (oI pl (wpAny_bind (oI pu (wpAny_bind (wpAny_pure ?_)))))
 show wpAny _ _ (match Builtin.Slice.sliceAdjust lo hi 1 (n:Int) with|(lo,hi)=>pure (lo,(1:Int),Builtin.Slice.slicePlaces lo hi 1)) _ _ s
 rw[wK lo hi n]
 show wpAny _ _ (pure (((cK n 0 lo:Nat):Int),(1:Int),Builtin.Slice.slicePlaces ((cK n 0 lo:Nat):Int) ((cK n n hi:Nat):Int) 1)) _ _ s
 rw[xc]
 exact wpAny_pure h
theorem CN (xs:Array Value)(i k:Nat):((Yd k).filterMap fun(m:Nat)=>xs[((i:Int)+(m:Int)*1).toNat]?).toArray=((xs.toList.drop i).take k).toArray:=by
 have e:(fun(m:Nat)=>xs[((i:Int)+(m:Int)*1).toNat]?)=fun m=>xs[i+m]?:=by
  funext m
  have:((i:Int)+(m:Int)*1).toNat=i+m:=by omega
  rw[this]
 rw[e]
 have:=pick_run xs i k
 rw[List.filterMap_map] at this
 have e2:((fun x=>xs[x]?)∘fun x=>i+x)=fun m=>xs[i+m]?:=rfl
 rw[e2] at this
 rw[this]
theorem j2 {t sl:Addr}{items:Array Value}{vl vu:Value}{lo hi:Option Int}{Q:Value->Shared->Prop}(ht:IsTup s.heap t items)(hs:s.heap.IsSliceOf sl vl vu .none)(pl:IsPart vl lo)(pu:IsPart vu hi)
  (hw:¬(cK items.size 0 lo=0/\cK items.size items.size hi=items.size))
  (h:Q (.ref s.heap.objs.size) { s with heap:=s.heap.push { cls := .type "tuple",data := .seq ((items.toList.drop (cK items.size 0 lo)).take (cK items.size items.size hi-cK items.size 0 lo)).toArray } })
  (hsz:items.size<=sizeLine):wpAny (model prog w) A (getItem (.ref t) (.ref sl)) Q E s:=by
 have yr:sizeOk (.seq ((items.toList.drop (cK items.size 0 lo)).take (cK items.size items.size hi-cK items.size 0 lo)).toArray):=by
  show((items.toList.drop (cK items.size 0 lo)).take (cK items.size items.size hi-cK items.size 0 lo)).toArray.size<=sizeLine
  rw[Jp,Uo,Wa,Um]
  omega
 have hj:cK items.size items.size hi<=items.size:=IX _ _ (Je _) hi
 obtain⟨os,hos,Bl,hds⟩:=id hs
 have W0:s.TypeIs (.ref sl) "slice":=⟨os,hos,Bl⟩
 unfold getItem
 try with_reducible refine wpAny_holding ?_
 first|refine wpAny_bind (wpAny_pure ?_)|skip
 refine wpAny_bind (wpAny_sequenceKey ht.typeIs (by decide) ?_)
 refine wpAny_bind (wpAny_callSpecial?_slot (name:=Str.ofString "__getitem__") ht.typeIs PyProof.Rows.slot_tuple_getitem
  (wpAny_call_entry PyProof.Rows.slot_tuple_getitem ht.typeIs entry_tuple_getitem ?_ (args_tuple_getitem _ _)))
 show wpAny _ _ (Builtin.Tuple.tupleItemsOf (.ref t) >>= _) _ _ s
 refine wpAny_bind (tupleItemsOf_ ht ?_)
 refine wpAny_bind (wpAny_typeOf W0 ?_)
 rw[if_pos (by decide)]
 refine wpAny_bind (lj hs pl pu ?_)
 have RP:¬((((cK items.size 0 lo:Nat):Int)==0&&(1:Int)==1&&(cK items.size items.size hi-cK items.size 0 lo)==items.size)=true):=by
  intro q
  rw[Ju,Ju] at q
  have q1:((cK items.size 0 lo:Nat):Int)=0:=eq_of_beq q.1.1
  have q2:cK items.size items.size hi-cK items.size 0 lo=items.size:=eq_of_beq q.2
  exact hw ⟨by omega,by omega⟩
 show wpAny _ _ (if (((cK items.size 0 lo:Nat):Int)==0&&(1:Int)==1&&(cK items.size items.size hi-cK items.size 0 lo)==items.size)=true then _ else _) _ _ s
 rw[if_neg RP,CN]
 first
  | exact wpAny_bind (m:=Builtin.Tuple.tupleExact _) (wpAny_newObj_type (wpAny_pure ⟨_,rfl,wpAny_pure h⟩) yr)
  | exact wpAny_bind (m:=Builtin.Tuple.tupleExact _) (wpAny_newObj_type (wpAny_bind (wpAny_pure (wpAny_pure ⟨_,rfl,wpAny_pure h⟩))) yr)
  | exact wpAny_bind (wpAny_bind (m:=Builtin.Tuple.tupleExact _) (wpAny_newObj_type (wpAny_pure (wpAny_pure ⟨_,rfl,wpAny_pure h⟩)) yr))
  | exact wpAny_bind (wpAny_bind (m:=Builtin.Tuple.tupleExact _) (wpAny_newObj_type (wpAny_pure ⟨_,rfl,wpAny_pure h⟩) yr))
end
end HT
namespace L2
open PySem PySem.Spec PyProof.Rows
abbrev TO:=St->Hp->(Option Int->Hp->Prop)->Prop
def PO (X:Cx)(e:Option Expr)(t:TO):Prop:=
 ∀ ⦃pins:List (Addr×Obj)⦄ (s:Shared) (σ:St) (H:Hp) (Q:Option Int->Hp->Prop),Inv X pins σ H s->t σ H Q ->
  wpAny (model X.prog X.w) X.A (evalPart e X.env) (fun u s'=>eu fun o H'=>Inv X pins σ H' s'/\IsPart u o/\Q o H') X.xe s
noncomputable def FU:TO:=fun _ H Q=>Q none H
noncomputable def Nj (t:TE):TO:=fun σ H Q=>t σ H fun x H1=>∃i,x = .int i/\Q (some i) H1
section
variable {X:Cx}{e:Expr}{te:TE}{lo hi:Option Expr}{tl th:TO}{pos p2:Pos}
theorem gG:PO X none FU:=by
 intro pins s σ H Q I h
 rw[evalPart_none]
 exact wpAny_pure ⟨none,H,I,.none,h⟩
theorem dM (h:PE X e te):PO X (some e) (Nj te):=by
 intro pins s σ H Q I hw
 rw[evalPart_some]
 refine bz (h s σ H _ I hw) fun u s1 hz_ =>?_
 refine ai.el hz_ _ ?_
 clear hz_
 rintro x H1 I1 r1 q1
 obtain⟨i,rfl,q⟩:=q1
 obtain⟨t,rfl⟩:=r1
 exact⟨some i,H1,I1,.int i t,q⟩
def Bh (X:Cx)(r:V->Option Int->Option Int->Hp->VK->Prop):Prop:=
 ∀ ⦃pins:List (Addr×Obj)⦄ (s:Shared) (σ:St) (H:Hp) (x:V) (v vl vu:Value) (lo hi:Option Int) (sl:Addr) (Q:VK),Inv X pins σ H s->RelV x v->s.heap.IsSliceOf sl vl vu .none->IsPart vl lo->IsPart vu hi->r x lo hi H Q ->
  eu fun T id=>typeLookup (.type T) "__getitem__" = pure (some (.builtin id))/\s.TypeIs v T/\wpAny (model X.prog X.w) X.A (getItem v (.ref sl)) (EP X pins σ Q) X.xe s
theorem Bh.or {r r':V->Option Int->Option Int->Hp->VK->Prop}(h:Bh X r)(h':Bh X r'):Bh X (fun x lo hi H Q=>r x lo hi H Q∨r' x lo hi H Q):=by
 intro pins s σ H x v vl vu lo hi sl Q I rx hs pl pu q
 rcases q with q|q
 ·exact h s σ H x v vl vu lo hi sl Q I rx hs pl pu q
 ·exact h' s σ H x v vl vu lo hi sl Q I rx hs pl pu q
def V3 (r:V->Option Int->Option Int->Hp->VK->Prop)(te:TE)(tl th:TO):TE:=fun σ H Q=>te σ H fun x H1=>tl σ H1 fun l H2=>th σ H2 fun u H3=>r x l u H3 Q
theorem dQ {r:V->Option Int->Option Int->Hp->VK->Prop}(hr:Bh X r)(he:PE X e te)(hl:PO X lo tl)(hu:PO X hi th):PE X (.Subscript e (.Slice lo hi none p2) pos) (V3 r te tl th):=by
 intro pins s σ H Q I h
 refine Subscript_ (bz (he s σ H _ I h) fun v s1 hz_ =>?_)
 refine ai.el hz_ _ ?_
 clear hz_
 rintro x H1 I1 r1 q1
 refine wpAny_Slice (bz (hl s1 σ H1 _ I1 q1) fun vl s2 hz_=>ai.el hz_ _ fun l H2 I2 pl q2=>bz (hu s2 σ H2 _ I2 q2) fun vu s3 hz_ =>?_)
 refine ai.el hz_ _ ?_
 clear hz_
 rintro u H3 I3 pu q3
 rw[evalPart_none]
 refine wpAny_pure ?_
 have I4:Inv X pins σ H3 { s3 with heap:=s3.heap.push { cls := .type "slice",data := .fields #[vl,vu,.none] } }:=I3.kept (t':=s3.toks) fun b ob q=>Jb _ q
 obtain⟨T,id,hT,ht,hg⟩:=hr { s3 with heap:=s3.heap.push { cls := .type "slice",data := .fields #[vl,vu,.none] } } σ H3 x v vl vu l u s3.heap.objs.size Q I4 r1 (Heap.IsSliceOf.new ..) pl pu q3
 show wpAny (model X.prog X.w) X.A (subscriptTail e (.Slice lo hi none p2) v (.ref s3.heap.objs.size)) (EP X pins σ Q) X.xe { s3 with heap:=s3.heap.push { cls := .type "slice",data := .fields #[vl,vu,.none] } }
 exact tail_any (ops:=[.ref s3.heap.objs.size,v]) ht hT hg (by with_unfolding_all rfl)
noncomputable def ir (xs:List V)(lo hi:Option Int):List V:=(xs.drop (HT.cK xs.length 0 lo)).take (HT.cK xs.length xs.length hi-HT.cK xs.length 0 lo)
theorem lQ (xs:List V)(lo hi:Option Int):(ir xs lo hi).length<=xs.length:=by
 unfold ir
 rw[Uo,Wa]
 omega
def Pd (K:Ja):V->Option Int->Option Int->Hp->VK->Prop:=fun x lo hi H Q=>eu fun a xs=>x = .ref a/\bF K H a xs /\
 ¬(HT.cK xs.length 0 lo=0/\HT.cK xs.length xs.length hi=xs.length)/\∀p,H p=none->Q (.ref p) (upd H p (.tup (ir xs lo hi)))
theorem KM:Bh X (Pd X.K):=by
 intro pins s σ H x v vl vu lo hi sl Q I rx hs pl pu h
 obtain⟨a,xs,rfl,hx,hw,q⟩:=h
 cases rx
 obtain⟨aq,r,ht,hz⟩:=I.tuple hx
 have hlen:aq.toArray.size=xs.length:=by rw[Jp];exact r.length.symm
 refine⟨"tuple",_,PyProof.Rows.slot_tuple_getitem.lookup,ht.typeIs,?_⟩
 refine HT.j2 ht hs pl pu (by rw[hlen];exact hw) ?_ (by rw[hlen];exact hz)
 rw[hlen]
 refine⟨.ref s.heap.objs.size,_,I.laid (t':=s.toks) (o := .tup (ir xs lo hi)) (fun b ob q=>Jb _ q) (Je _) ?_,rfl,q _ (I.bw.fresh (Je _))⟩
 exact⟨Ji (lQ xs lo hi) hz,_,(r.drop (HT.cK xs.length 0 lo)).take (HT.cK xs.length xs.length hi-HT.cK xs.length 0 lo),rT.new _ _⟩
end
noncomputable def Bg (n:Nat)(i:Int):Option Nat:=if 0<=i then (if i<n then some i.toNat else none) else if -(n:Int)<=i then some (i+n).toNat else none
noncomputable def ye {α:Type}(xs:List α)(i:Int):Option α:=(Bg xs.length i).bind fun j=>xs[j]?
theorem rd {n:Nat}{i:Int}{j:Nat}(h:Bg n i=some j):seqIndex? i n=some j/\j<n /\ -(n:Int)<=i/\i<n:=by
 unfold Bg at h
 by_cases h0:0<=i
 ·rw[if_pos h0] at h
  by_cases h1:i<n
  ·rw[if_pos h1] at h
   have e:i.toNat=j:=Option.some.inj h
   exact⟨by rw[seqIndex_of h0 h1,e],by omega,by omega,h1⟩
  ·rw[if_neg h1] at h;cases h
 ·rw[if_neg h0] at h
  by_cases h1: -(n:Int)<=i
  ·rw[if_pos h1] at h
   have e:(i+n).toNat=j:=Option.some.inj h
   exact⟨by rw[seqIndex_neg (by omega) h1,e],by omega,h1,by omega⟩
  ·rw[if_neg h1] at h;cases h
theorem mf {α:Type}{xs:List α}{i:Int}{v: α}(h:ye xs i=some v):∃j,seqIndex? i xs.length=some j/\xs[j]? = some v/\j<xs.length /\ -(xs.length:Int)<=i/\i<xs.length:=by
 unfold ye at h
 cases e:Bg xs.length i with
 | none=>rw[e] at h;cases h
 | some j=>
  rw[e] at h
  obtain⟨h1,h2,h3,h4⟩:=rd e
  exact⟨j,h1,h,h2,h3,h4⟩
theorem kq {α:Type}{xs:List α}{j:Nat}{v: α}(h:xs[j]? = some v):ye xs (j:Int)=some v:=by
 have hj:j<xs.length:=(Jq.mp h).1
 have e:Bg xs.length (j:Int)=some j:=by
  unfold Bg
  rw[if_pos (by omega),if_pos (by omega)];simp
 unfold ye;rw[e];exact h
def Gv (b:Expr):Prop:=∀o i,subscripted b false o i=operate [o,i] (getItem o i)
def DX (X:Cx)(r:R2):Prop:=
 ∀ ⦃value slice:Expr⦄ ⦃pins:List (Addr×Obj)⦄ (s:Shared) (σ:St) (H:Hp) (x y:V) (v u:Value) (Q:VK),Inv X pins σ H s->RelV x v->RelV y u->r x y H Q ->
  subscripted slice false v u=operate [v,u] (getItem v u)->wpAny (model X.prog X.w) X.A (subscriptTail value slice v u) (EP X pins σ Q) X.xe s
def D8 (X:Cx)(id:String)(r:V->List V->Hp->VK->Prop):Prop:=
 ∀ ⦃pins:List (Addr×Obj)⦄ (s:Shared) (σ:St) (H:Hp) (x:V) (xs:List V) (v:Value) (us:List Value) (Q:VK),Inv X pins σ H s->RelV x v->Vals xs us->r x xs H Q ->
  wpAny (model X.prog X.w) X.A (call (.builtin id) (v::us)) (EP X pins σ Q) X.xe s
section
variable {X:Cx}{a b:Expr}{ta tb:TE}{pos:Pos}
theorem DX.or {r r':R2}(h:DX X r)(h':DX X r'):DX X (fun x y H Q=>r x y H Q∨r' x y H Q):=by
 intro value slice pins s σ H x y v u Q I rx ry q hs
 rcases q with q|q
 ·exact h s σ H x y v u Q I rx ry q hs
 ·exact h' s σ H x y v u Q I rx ry q hs
theorem bA {r:R2}(hr:DX X r)(ha:PE X a ta)(hb:PE X b tb)(hs:Gv b):PE X (.Subscript a b pos) (N8 r ta tb):=by
 intro pins s σ H Q I h
 exact Subscript_ (HD ha hb I h fun v u s2 x y H2 I2 rx ry q=>hr s2 σ H2 x y v u Q I2 rx ry q (hs _ _))
def Mq (K:Ja):R2:=fun x y H Q=>vo fun p xs i v=>x = .ref p/\y = .int i/\bq K H p xs/\ye xs i=some v/\Q v H
def Mp (K:Ja):R2:=fun x y H Q=>vo fun p xs i v=>x = .ref p/\y = .int i/\bF K H p xs/\ye xs i=some v/\Q v H
def Np:R2:=fun x y H Q=>o7 fun z i c=>x = .str z/\y = .int i/\z.length<=sizeLine/\ye z.cps.toList i=some c/\Q (.str ⟨#[c]⟩) H
theorem Gu:DX X (Mq X.K):=by
 intro value slice pins s σ H x y v u Q I rx ry h hs
 obtain⟨p,xs,i,z,rfl,rfl,hq,he,q⟩:=h
 cases rx
 obtain⟨t,rfl⟩:=ry
 obtain⟨aq,r,pl,hz⟩:=I.list hq
 obtain⟨j,h1,h2,h3,h4,h5⟩:=mf he
 obtain⟨w,ew,rw'⟩:=r.get h2
 have hl:=r.length
 have hn:=lB
 have fin:EP X pins σ Q w s:=⟨z,H,I,rw',q⟩
 by_cases h0:0<=i
 ·have hj:i.toNat=j:=by
   rw[seqIndex_of h0 h5] at h1
   exact Option.some.inj h1
  exact item_listR pl.isList h0 (by omega) (by rw[hj];simpa using ew) fin hs
 ·have hj:(i+(aq.toArray.size:Int)).toNat=j:=by
   rw[seqIndex_neg (by omega) h4] at h1
   rw[Jp,<-hl]
   exact Option.some.inj h1
  exact subscriptTail_builtinR (x:=w) pl.isList.typeIs slot_list_getitem.lookup
   (wpAny_getItem_list_neg (Q:=fun r s'=>r=w/\EP X pins σ Q r s') pl.isList (by omega) (by rw[Jp]<;>omega) (by omega) (by rw[hj];simpa using ew) ⟨rfl,fin⟩) hs
theorem II:DX X (Mp X.K):=by
 intro value slice pins s σ H x y v u Q I rx ry h hs
 obtain⟨p,xs,i,z,rfl,rfl,hq,he,q⟩:=h
 cases rx
 obtain⟨t,rfl⟩:=ry
 obtain⟨aq,r,pl,hz⟩:=I.tuple hq
 obtain⟨j,h1,h2,h3,h4,h5⟩:=mf he
 obtain⟨w,ew,rw'⟩:=r.get h2
 have hl:=r.length
 have hn:=lB
 have fin:EP X pins σ Q w s:=⟨z,H,I,rw',q⟩
 exact subscriptTail_builtinR (x:=w) pl.typeIs slot_tuple_getitem.lookup
  (getItem_tuple (j:=j) (Q:=fun r s'=>r=w/\EP X pins σ Q r s') pl (by omega) (by omega) (by rw[Jp,<-hl];exact h1) (by simpa using ew) ⟨rfl,fin⟩) hs
theorem JT:DX X Np:=by
 intro value slice pins s σ H x y v u Q I rx ry h hs
 obtain⟨z,i,c,rfl,rfl,hz,he,q⟩:=h
 obtain⟨t,rfl⟩:=rx
 obtain⟨t',rfl⟩:=ry
 obtain⟨j,h1,h2,h3,h4,h5⟩:=mf he
 have hl:z.cps.toList.length=z.length:=by simp[Str.length]
 rw[hl] at h1 h4 h5
 have hn:=lB
 exact tail_any (typeIs_str s z t) slot_str_getitem.lookup (getItem_str (c:=c) (by
  have e1:decide (i < -(2^63:Int))=false:=decide_eq_false (by omega)
  have e2:decide (i>=2^63)=false:=decide_eq_false (by omega)
  rw[e1,e2,Bool.or_false]) (by rw[h1];simpa using h2) ⟨.str ⟨#[c]⟩,H,I.tok _,⟨_,rfl⟩,q⟩) hs
def TB (K:Ja):R2:=fun x y H Q=>Mq K x y H Q∨Mp K x y H Q∨Np x y H Q
theorem Ic:DX X (TB X.K):=Gu.or (II.or JT)
theorem wL (aq:List Value)(n j:Nat)(u:Value):Obj.mapSeq (·.setIfInBounds j u) { cls := .type "list",data := .seq aq.toArray n } = { cls := .type "list",data := .seq (aq.set j u).toArray n }:=by
 simp[Obj.mapSeq]
theorem Inv.lst {pins:List (Addr×Obj)}{σ:St}{H:Hp}{s:Shared}{p:Addr}{xs:List V}(I:Inv X pins σ H s)(h:H p=some (.lst xs)):
  ∃(aq:List Value) (n:Nat),Vals xs aq/\s.heap.get? p=some { cls := .type "list",data := .seq aq.toArray n } /\ xs.length<=sizeLine:=by
 obtain⟨z,aq,n,r,e⟩:=I.bw p _ h
 exact⟨aq,n,r,e,z⟩
theorem Inv.KJ {pins:List (Addr×Obj)}{σ:St}{H:Hp}{s:Shared}{p:Addr}{xs ys:List V}{aq its':List Value}{n n':Nat}{f:Obj->Obj}(I:Inv X pins σ H s)(h:H p=some (.lst xs))
  (ho:s.heap.get? p=some { cls := .type "list",data := .seq aq.toArray n }) (hf:f { cls := .type "list",data := .seq aq.toArray n } = { cls := .type "list",data := .seq its'.toArray n' }) (r:Vals ys its') (hz:ys.length<=sizeLine) (t:Nat) :
  Inv X pins σ (upd H p (.lst ys)) { s with heap:=s.heap.update p f,toks:=t }:=by
 have e:(s.heap.update p f).get? p=some { cls := .type "list",data := .seq its'.toArray n' }:=by
  rw[J2 f ho (by rw[hf]<;>rfl),hf]
 refine I.write (x:=p) (e:=p) (by rw[h];trivial) (.inl rfl) (fun b u hb q=>(J3 _ _ (Ne.symm hb)).trans q) ⟨_,e⟩ ?_
 exact⟨hz,its',n',r,e⟩
def LB:V->V->V->Hp->(Hp->Prop)->Prop:=fun o i v H Q=>vo fun p xs k j=>o = .ref p/\i = .int k/\H p=some (.lst xs)/\Bg xs.length k=some j/\Q (upd H p (.lst (xs.set j v)))
theorem set_list:MQ X LB:=by
 intro pins s σ H o i v ov iv u Q I ro ri rv h
 obtain⟨p,xs,k,j,rfl,rfl,hp,hj,q⟩:=h
 cases ro
 obtain⟨t,rfl⟩:=ri
 obtain⟨aq,n,r,ho,hz⟩:=I.lst hp
 obtain⟨h1,h2,h3,h4⟩:=rd hj
 have hl:=r.length
 have hn:=lB
 have I':Inv X pins σ (upd H p (.lst (xs.set j v))) { s with heap:=s.heap.update p (Obj.mapSeq (·.setIfInBounds j u)) }:=
  I.KJ hp ho (wL aq n j u) (r.set rv j) (by rw[Y7];exact hz) s.toks
 by_cases h0:0<=k
 ·have hk:k.toNat=j:=by
   rw[seqIndex_of h0 h4] at h1
   exact Option.some.inj h1
  exact PySem.W.ki_setAt ho h0 (by omega) (by rw[Jp,<-hl];exact h4) (by rw[hk];exact⟨_,I',q⟩)
 ·have hk:(k+(aq.toArray.size:Int)).toNat=j:=by
   rw[seqIndex_neg (by omega) h3] at h1
   rw[Jp,<-hl]
   exact Option.some.inj h1
  exact PySem.W.ki_setBack ho (by omega) (by rw[Jp,<-hl];exact h3) (by omega) (by rw[hk];exact⟨_,I',q⟩)
theorem sO (lo hi:Option Int)(n:Nat):(sliceBounds lo hi none n).1=((HT.cK n 0 lo:Nat):Int)/\(sliceBounds lo hi none n).2.1=((HT.cK n n hi:Nat):Int)/\(sliceBounds lo hi none n).2.2=1:=by
 refine⟨?_,?_,rfl⟩
 ·cases lo with
  | none=>simp[sliceBounds,HT.cK]
  | some i=>
   simp only[sliceBounds,HT.cK,Option.getD_none,show(1:Int)>0 by decide,if_true]
   by_cases h:i<0
   ·simp only[h,if_true]<;>omega
   ·simp only[h,if_false]<;>omega
 ·cases hi with
  | none=>simp[sliceBounds,HT.cK]
  | some i=>
   simp only[sliceBounds,HT.cK,Option.getD_none,show(1:Int)>0 by decide,if_true]
   by_cases h:i<0
   ·simp only[h,if_true]<;>omega
   ·simp only[h,if_false]<;>omega
theorem pF (aq:List Value)(lo hi:Option Int):slicePick aq.toArray lo hi none=((aq.drop (HT.cK aq.length 0 lo)).take (HT.cK aq.length aq.length hi-HT.cK aq.length 0 lo)).toArray:=by
 obtain⟨h1,h2,h3⟩:=sO lo hi aq.toArray.size
 unfold slicePick
 rw[h1,h2,h3]
 simp only[sliceRange_one,pick_run,Jp]<;>rfl
def Iu (K:Ja):V->Option Int->Option Int->Hp->VK->Prop:=fun x lo hi H Q=>eu fun a xs=>x = .ref a/\bq K H a xs/\∀p,H p=none->Q (.ref p) (upd H p (.lst (ir xs lo hi)))
theorem Ec:Bh X (Iu X.K):=by
 intro pins s σ H x v vl vu lo hi sl Q I rx hs pl pu h
 obtain⟨a,xs,rfl,hx,q⟩:=h
 cases rx
 obtain⟨aq,r,ht,hz⟩:=I.list hx
 have hlen:=r.length
 refine⟨"list",_,slot_list_getitem.lookup,ht.isList.typeIs,?_⟩
 refine wpAny_getItem_list_slice ht.isList hs pl pu .none (by simp) ?_ (by rw[Jp]<;>omega)
 rw[pF,<-hlen]
 refine⟨.ref s.heap.objs.size,_,I.laid (t':=s.toks) (o := .lst (ir xs lo hi)) (fun b ob q=>Jb _ q) (Je _) ?_,rfl,q _ (I.bw.fresh (Je _))⟩
 exact⟨Ji (lQ xs lo hi) hz,_,0,(r.drop (HT.cK xs.length 0 lo)).take (HT.cK xs.length xs.length hi-HT.cK xs.length 0 lo),Jj _ rfl⟩
noncomputable def lL:V->Bool
 | .non=>true
 | .bl _=>true
 | .int _=>true
 | .str _=>true
 | _=>false
noncomputable def FF:V->V->Bool
 | .non,.non=>true
 | .bl a,.bl b=>a==b
 | .bl a,.int b=>(if a then 1 else 0)==b
 | .int a,.bl b=>a==(if b then 1 else 0)
 | .int a,.int b=>a==b
 | .str a,.str b=>a==b
 | _,_=>false
theorem JZ {A:Around}{s:Shared}{y x:V}{u v:Value}(ry:RelV y u)(rx:RelV x v)(fy:lL y=true)(fx:lL x=true):SeqAt.EqAt A s u v (FF y x):=by
 cases y with
 | non=>
  cases ry
  cases x with
  | non=>cases rx;exact SeqAt.EqAt.same _
  | bl b=>cases rx;exact SeqAt.EqAt.none_bool b
  | int b=>obtain⟨t,rfl⟩:=rx;exact SeqAt.EqAt.none_int b t
  | str b=>obtain⟨t,rfl⟩:=rx;exact SeqAt.EqAt.none_str b t
  | _=>exact absurd (show false=true from fx) Jm
 | bl a=>
  cases ry
  cases x with
  | non=>cases rx;exact SeqAt.EqAt.bool_none a
  | bl b=>cases rx;exact SeqAt.EqAt.bool_bool a b
  | int b=>obtain⟨t,rfl⟩:=rx;exact SeqAt.EqAt.bool_int a b t
  | str b=>obtain⟨t,rfl⟩:=rx;exact SeqAt.EqAt.bool_str a b t
  | _=>exact absurd (show false=true from fx) Jm
 | int a=>
  obtain⟨t',rfl⟩:=ry
  cases x with
  | non=>cases rx;exact SeqAt.EqAt.int_none a t'
  | bl b=>cases rx;exact SeqAt.EqAt.int_bool a t' b
  | int b=>obtain⟨t,rfl⟩:=rx;exact SeqAt.EqAt.int_int a t' b t
  | str b=>obtain⟨t,rfl⟩:=rx;exact SeqAt.EqAt.int_str a t' b t
  | _=>exact absurd (show false=true from fx) Jm
 | str a=>
  obtain⟨t',rfl⟩:=ry
  cases x with
  | non=>cases rx;exact SeqAt.EqAt.str_none a t'
  | bl b=>cases rx;exact SeqAt.EqAt.str_bool a t' b
  | int b=>obtain⟨t,rfl⟩:=rx;exact SeqAt.EqAt.str_int a t' b t
  | str b=>obtain⟨t,rfl⟩:=rx;exact SeqAt.EqAt.str_str a t' b t
  | _=>exact absurd (show false=true from fx) Jm
 | _=>exact absurd (show false=true from fy) Jm
noncomputable def Ej (x:V)(u:Value):Bool:=match u with
 | .none=>FF .non x
 | .bool b=>FF (.bl b) x
 | .int i _=>FF (.int i) x
 | .str z _=>FF (.str z) x
 | _=>false
theorem BF {x y:V}{u:Value}(r:RelV y u)(f:lL y=true):Ej x u=FF y x:=by
 cases y with
 | non=>cases r;rfl
 | bl b=>cases r;rfl
 | int i=>obtain⟨t,rfl⟩:=r;rfl
 | str z=>obtain⟨t,rfl⟩:=r;rfl
 | _=>exact absurd (show false=true from f) Jm
theorem ra {x:V}:∀{xs:List V} {us:List Value},Vals xs us->xs.all lL=true->us.any (Ej x)=xs.any fun y=>FF y x
 | _,_,.nil,_=>rfl
 | y::xs,u::us,.cons r t,f=>by
  rw[List.all_cons,Ju] at f
  rw[Y5,Y5,BF r f.1,ra t f.2]
theorem oS {A:Around}{s:Shared}{x:V}{v:Value}(rx:RelV x v)(fx:lL x=true):∀{xs:List V} {us:List Value},Vals xs us->xs.all lL=true->∀u∈us,SeqAt.EqAt A s u v (Ej x u)
 | _,_,.nil,_=>fun u hu=>by cases hu
 | y::xs,u::us,.cons r t,f=>fun u' hu=>by
  rw[List.all_cons,Ju] at f
  rcases Jr.mp hu with rfl|hu
  ·rw[BF r f.1];exact JZ r rx f.1 fx
  ·exact oS rx fx t f.2 u' hu
noncomputable def G1 (x:V)(xs:List V):Bool:=xs.any fun y=>FF y x
def Tu (K:Ja)(neg:Bool):R2:=fun x y H Q=>eu fun p xs=>y = .ref p/\(bq K H p xs∨bF K H p xs)/\lL x=true/\xs.all lL=true/\Q (.bl (if neg then !G1 x xs else G1 x xs)) H
theorem AD:eE X (compareOp .In) (Tu X.K false):=by
 intro pins s σ H x y v u Q I rx ry h
 obtain⟨p,xs,rfl,hq,fx,fs,q⟩:=h
 cases ry
 rcases hq with hq|hq
 ·obtain⟨aq,r,pl,hz⟩:=I.list hq
  refine SeqAt.in_listAt (Ej x) pl.isList (fun w hw=>oS rx fx r fs w (by simpa using hw)) ⟨.bl _,H,I,rfl,?_⟩
  rw[show aq.toArray.any (Ej x)=aq.any (Ej x) by simp,ra r fs]
  exact q
 ·obtain⟨aq,r,pl,hz⟩:=I.tuple hq
  refine SeqAt.in_tupleAt (Ej x) pl (fun w hw=>oS rx fx r fs w (by simpa using hw)) ⟨.bl _,H,I,rfl,?_⟩
  rw[show aq.toArray.any (Ej x)=aq.any (Ej x) by simp,ra r fs]
  exact q
theorem bB.or {f:Value}{r r':List V->Hp->VK->Prop}(h:bB X f r)(h':bB X f r'):bB X f (fun xs H Q=>r xs H Q∨r' xs H Q):=by
 intro pins s σ H xs us Q I rs q
 rcases q with q|q
 ·exact h s σ H xs us Q I rs q
 ·exact h' s σ H xs us Q I rs q
theorem su:bB X (.type "list") (fun xs H Q=>∃p ys,xs=[.ref p]/\(bq X.K H p ys∨bF X.K H p ys)/\∀l,H l=none->Q (.ref l) (upd H l (.lst ys))):=by
 intro pins s σ H xs us Q I r h
 obtain⟨p,ys,rfl,hq,q⟩:=h
 obtain⟨u,rfl,rx⟩:=vals1 r
 cases rx
 have fin:∀(aq:List Value),Vals ys aq->ys.length<=sizeLine->∀(h':Heap) (c':Nat),(∀b o',s.heap.get? b=some o'->h'.get? b=some o') ->
   h'.get? s.heap.objs.size=some { cls := .type "list",dict:=none,data := .seq aq.toArray c',slots := #[] } -> EP X pins σ Q (.ref s.heap.objs.size) { s with heap:=h' }:=fun aq r' hz h' c' kp e=>
  ⟨.ref s.heap.objs.size,_,I.laid (t':=s.toks) kp (Je _) (show bg X.prog X.w _ h' _ (.lst ys) from⟨hz,aq,c',r',e⟩),rfl,q _ (I.bw.fresh (Je _))⟩
 rcases hq with hq|hq
 ·obtain⟨aq,r',pl,hz⟩:=I.list hq
  have hlen:=r'.length
  obtain⟨o,ho,hc,n,hd⟩:=pl.isList
  exact call_list_seq p (.inl rfl) ho hc hd (fun h' c' kp e=>fin aq r' hz h' c' kp e) (by simp only[Jp]<;>omega)
 ·obtain⟨aq,r',pl,hz⟩:=I.tuple hq
  have hlen:=r'.length
  obtain⟨o,ho,hc,n,hd⟩:=pl
  exact call_list_seq p (.inr rfl) ho hc hd (fun h' c' kp e=>fin aq r' hz h' c' kp e) (by simp only[Jp]<;>omega)
theorem pH:bB X (.type "tuple") (fun xs H Q=>∃p ys,xs=[.ref p]/\((bq X.K H p ys/\∀l,H l=none->Q (.ref l) (upd H l (.tup ys)))∨(bF X.K H p ys/\Q (.ref p) H))):=by
 intro pins s σ H xs us Q I r h
 obtain⟨p,ys,rfl,h⟩:=h
 obtain⟨u,rfl,rx⟩:=vals1 r
 cases rx
 rcases h with ⟨hq,q⟩|⟨hq,q⟩
 ·obtain⟨aq,r',pl,hz⟩:=I.list hq
  have hlen:=r'.length
  refine call_tuple_list pl.isList (fun h' kp =>?_) (by simp only[Jp]<;>omega)
  have I1:Inv X pins σ H { s with heap:=h' }:=I.kept (t':=s.toks) kp
  have I2:Inv X pins σ (upd H h'.objs.size (.tup ys)) { s with heap:=h'.push { cls := .type "tuple",data := .seq aq.toArray } }:=
   I1.laid (t':=s.toks) (fun b o e=>Jb _ e) (Je _) (show bg X.prog X.w _ _ _ (.tup ys) from⟨hz,aq,r',rT.new _ _⟩)
  exact⟨.ref h'.objs.size,_,I2,rfl,q _ (I1.bw.fresh (Je _))⟩
 ·obtain⟨aq,r',pl,hz⟩:=I.tuple hq
  exact call_tuple_same pl ⟨.ref p,H,I,rfl,q⟩
def OQ (K:Ja)(T:String)(x:V)(H:Hp):Prop:=match x with
 | .str _=>T = "str"
 | .int _=>T = "int"
 | .ref p=>(T = "list" /\ ∃xs,bq K H p xs)∨(T = "tuple" /\ ∃o,K.lookup p=some o/\o.cls = .type "tuple" /\ o.dict=none) ∨
   (T = "dict" /\ ((∃kvs,H p=some (.dK kvs))∨∃kvs,H p=some (.dT kvs)))∨(T = "set" /\ eu fun S n=>H p=some (.set S n))
 | _=>False
theorem vY {pins:List (Addr×Obj)}{σ:St}{H:Hp}{s:Shared}{T:String}{x:V}{v:Value}(I:Inv X pins σ H s)(r:RelV x v)(ty:OQ X.K T x H):
  s.TypeIs v T/\∀a,v = .ref a->∃ob,s.heap.get? a=some ob/\ob.dict=none:=by
 cases x with
 | str z=>
  obtain⟨t,rfl⟩:=r
  cases (show T = "str" from ty)
  exact⟨typeIs_str s z t,fun _ e=>nomatch e⟩
 | int i=>
  obtain⟨t,rfl⟩:=r
  cases (show T = "int" from ty)
  exact⟨typeIs_int s i t,fun _ e=>nomatch e⟩
 | ref p=>
  cases r
  rcases ty with ⟨rfl,xs,hq⟩|⟨rfl,o,hk,hc,hd⟩|⟨rfl,hk⟩|⟨rfl,S,n,hk⟩
  ·obtain⟨aq,_,pl,_⟩:=I.list hq
   refine⟨pl.isList.typeIs,fun a e =>?_⟩
   cases e
   obtain⟨o,n,e,c,hd,_⟩:=pl
   exact⟨o,e,hd⟩
  ·refine⟨⟨o,I.gT p o hk,hc⟩,fun a e =>?_⟩
   cases e
   exact⟨o,I.gT _ o hk,hd⟩
  ·have z:∃o,s.heap.get? p=some o/\o.ExactDict:=by
    rcases hk with ⟨kvs,hk⟩|⟨kvs,hk⟩
    ·obtain⟨_,_,_,_,o,_,_,e,ex,_⟩:=I.bw p _ hk
     exact⟨o,e,ex⟩
    ·obtain⟨_,_,_,_,o,_,_,e,ex,_⟩:=I.bw p _ hk
     exact⟨o,e,ex⟩
   obtain⟨o,e,ex⟩:=z
   refine⟨⟨o,e,ex.1⟩,fun a e2 =>?_⟩
   cases e2
   exact⟨o,e,ex.2.1⟩
  ·obtain⟨o,_,_,_,e,ex,_⟩:=I.bw p _ hk
   refine⟨⟨o,e,ex.1⟩,fun a e2 =>?_⟩
   cases e2
   exact⟨o,e,ex.2.1⟩
 | _=>exact False.elim ty
def MD (K:Ja)(T:String)(r:V->List V->Hp->VK->Prop)(to:TE):TE:=fun σ H Q=>to σ H fun x H1=>OQ K T x H1/\r x [] H1 Q
def SE (K:Ja)(T:String)(r:V->List V->Hp->VK->Prop)(to:TE)(t:TA):TE:=fun σ H Q=>to σ H fun x H1=>OQ K T x H1/\t σ H1 fun xs H2=>r x xs H2 Q
variable {o e:Expr}{es:List Expr}{to:TE}{t:TA}{name:Str}{apos dg:Pos}{T id:String}{r:V->List V->Hp->VK->Prop}
theorem Ke (pa:PlainAttrs T)(slot:Slot T name id)(Iq:typeOf (.builtin id)=pure (.type "method_descriptor"))(hm:D8 X id r)(ho:PE X o to)
  (kz:attributeBase o name X.env (eval o X.env)=eval o X.env:=by rfl) (j4:(apos.endLine==dg.line)=true:=by rfl):PE X (.Call (.Attribute o name apos) [] [] dg) (MD X.K T r to):=by
 intro pins s σ H Q I h
 refine wpAny_Call_method0_late kz j4 (bz (ho s σ H _ I h) fun v s1 hz_ =>?_)
 refine ai.el hz_ _ ?_
 clear hz_
 rintro x H1 I1 r1 ⟨ty,q1⟩
 obtain⟨h1,h2⟩:=vY I1 r1 ty
 exact⟨T,id,pa,slot,Iq,h1,h2,Calls.callWith_builtin rfl (PySem.evalArgs_none (hm s1 σ H1 x [] v [] Q I1 r1 .nil q1))⟩
theorem L7 (pa:PlainAttrs T)(slot:Slot T name id)(Iq:typeOf (.builtin id)=pure (.type "method_descriptor"))(hm:D8 X id r)(ho:PE X o to)(ha:PA X (e::es) t)
  (kz:attributeBase o name X.env (eval o X.env)=eval o X.env:=by rfl)
  (zH:((backTo dg (starEach (e::es) X.env)).all (fun x => !x.1)&&(backToKw dg (keywordEach [] X.env)).all (fun x=>x.1.isSome)
   && decide ((e::es).length+([]:List Keyword).length+(if ([]:List Keyword).isEmpty then 0 else 1)<30))=true:=by rfl)
  (j4:(apos.endLine==dg.line)=true:=by rfl) (hs:starEach (e::es) X.env=(false,eval e X.env)::starEach es X.env:=by rfl) (xI:(backTo dg (starEach es X.env)).any (·.1)=false:=by rfl) :
  PE X (.Call (.Attribute o name apos) (e::es) [] dg) (SE X.K T r to t):=by
 intro pins s σ H Q I h
 refine wpAny_Call_method_late kz zH j4 rfl (bz (ho s σ H _ I h) fun v s1 hz_ =>?_)
 refine ai.el hz_ _ ?_
 clear hz_
 rintro x H1 I1 r1 ⟨ty,q1⟩
 obtain⟨h1,h2⟩:=vY I1 r1 ty
 refine⟨T,id,pa,slot,Iq,h1,h2,?_⟩
 have hA:=ha (pos:=dg) s1 σ H1 _ I1 q1
 rw[hs] at hA ⊢
 refine Calls.callWith_builtin (by show(false||(backTo dg (starEach es X.env)).any (·.1))=false;rw[xI]<;>rfl) (Calls.evalArgs_plain ?_)
 exact bz hA fun us s2 hz_=>ai.el hz_ _ fun vs H2 I2 r2 q2=>hm s2 σ H2 x vs v us Q I2 r1 r2 q2
end
def IG (X:Cx)(id:String)(r:V->List V->Hp->VK->Prop):Prop:=
 ∀ ⦃pins:List (Addr×Obj)⦄ (s:Shared) (σ:St) (H:Hp) (x:V) (xs:List V) (v:Value) (us:List Value) (Q:VK),Inv X pins σ H s->RelV x v->Vals xs us->r x xs H Q ->
  wpAny (model X.prog X.w) X.A (call (.builtin id) (v::us)) (EP X pins σ Q) X.xe s
theorem Vals.hd {x:V}{xs:List V}{us:List Value}(h:Vals (x::xs) us):∃u r,us=u::r/\RelV x u/\Vals xs r:=by
 cases h with|cons a b=>exact⟨_,_,rfl,a,b⟩
theorem Vals.one {x:V}{us:List Value}(h:Vals [x] us):∃u,us=[u]/\RelV x u:=by
 obtain⟨u,r,rfl,a,h⟩:=h.hd
 cases h
 exact⟨_,rfl,a⟩
theorem Vals.two {x y:V}{us:List Value}(h:Vals [x,y] us):∃u v,us=[u,v]/\RelV x u/\RelV y v:=by
 obtain⟨u,r,rfl,a,h⟩:=h.hd
 obtain⟨v,rfl,b⟩:=h.one
 exact⟨_,_,rfl,a,b⟩
theorem Vals.eraseIdx:∀{xs:List V} {us:List Value} (i:Nat),Vals xs us->Vals (xs.eraseIdx i) (us.eraseIdx i)
 | _,_,_,.nil =>.nil
 | _,_,0,.cons _ t=>t
 | _,_,i+1,.cons r t =>.cons r (Vals.eraseIdx i t)
theorem Vals.rep {xs:List V}{us:List Value}(h:Vals xs us):∀k:Nat,Vals (Jv k xs).flatten (Jv k us).flatten
 | 0 =>.nil
 | k+1=>by
  rw[Yo,Yo,List.flatten_cons,List.flatten_cons]
  exact Vals.append h (Vals.rep h k)
theorem qw {α:Type}:∀(l:List α) (i:Nat),(l.eraseIdx i).length<=l.length
 | [],_=>Je _
 | _::_,0=>Yt _
 | _::r,i+1=>Wb (qw r i)
theorem foldl_rep (aq:List Value):∀(k:Nat) (acc:List Value),
  List.foldl (fun x1 x2=>x1++x2) acc.toArray (Jv k aq.toArray)=(acc++(Jv k aq).flatten).toArray
 | 0,acc=>by simp
 | k+1,acc=>by
  have e:acc.toArray++aq.toArray=(acc++aq).toArray:=by simp
  have e2:(acc++aq)++(Jv k aq).flatten=acc++(Jv (k+1) aq).flatten:=by
   rw[Yo,List.flatten_cons,Y8]
  rw[<-e2,<-foldl_rep aq k (acc++aq),<-e,Yo,List.foldl_cons]
section
variable {X:Cx}{pins:List (Addr×Obj)}{σ:St}{H:Hp}{s:Shared}{l b:Addr}{xs ys zs:List V}
theorem Inv.Kf {aq its':List Value}{n:Nat}{f:Array Value->Array Value}{t':Nat}(I:Inv X pins σ H s)(hH:H l=some (.lst xs))
  (e:s.heap.get? l=some { cls := .type "list",data := .seq aq.toArray n }) (hf:f aq.toArray=its'.toArray) (hv:Vals ys its') (hz:ys.length<=sizeLine) :
  Inv X pins σ (upd H l (.lst ys)) { s with heap:=s.heap.update l (Obj.mapSeq f),toks:=t' }:=by
 have q:=PySem.IsL.update e f
 rw[hf] at q
 refine I.write (x:=l) (e:=l) (by rw[hH];exact trivial) (.inl rfl) (fun b' u hb hu=>(J3 s.heap (Obj.mapSeq f) (Ne.symm hb)).trans hu) ⟨_,q⟩ ?_
 exact⟨hz,its',_,hv,q⟩
theorem Inv.NO {aq:List Value}{t':Nat}(I:Inv X pins σ H s)(hv:Vals ys aq)(hz:ys.length<=sizeLine):
  Inv X pins σ (upd H s.heap.objs.size (.lst ys)) { s with heap:=s.heap.push { cls := .type "list",data := .seq aq.toArray },toks:=t' }:=
 I.laid (fun _ _ q=>Jb _ q) (Je _) ⟨hz,aq,0,hv,Jj _ rfl⟩
theorem Inv.fresh (I:Inv X pins σ H s):H s.heap.objs.size=none:=I.bw.fresh (Je _)
theorem Inv.uO (I:Inv X pins σ H s)(hH:H l=some (.lst xs)):xs.length<=sizeLine/\∃(aq:List Value) (n:Nat),Vals xs aq/\xs.length=aq.length/\s.heap.get? l=some { cls := .type "list",data := .seq aq.toArray n }:=by
 obtain⟨z,aq,n,r,e⟩:=I.bw l _ hH
 exact⟨z,aq,n,r,r.length,e⟩
theorem BZ {n:Nat}(h:n<=sizeLine):Builtin.List.listTooLong n=false:=by
 unfold Builtin.List.listTooLong
 exact decide_eq_false (by omega)
end
section
variable {X:Cx}
def Gn:V->List V->Hp->VK->Prop:=fun x vs H Q=>o7 fun l xs y=>x = .ref l/\vs=[y]/\H l=some (.lst xs)/\xs.length<sizeLine/\Q .non (upd H l (.lst (xs++[y])))
theorem Ad:IG X "list.append" Gn:=by
 intro pins s σ H x vs v us Q I rx rv h
 obtain⟨l,xs,y,rfl,rfl,hH,hz,q⟩:=h
 cases rx
 obtain⟨u,rfl,ru⟩:=rv.one
 obtain⟨z,aq,n,r,hl,e⟩:=I.uO hH
 refine call_meets F.slot_list_append ⟨_,e,rfl⟩ F.entry_list_append (F.args_list_append_2 _ _) (PySem.list_append l aq.toArray n u (by rw[Jp];omega)) ⟨e,?_⟩
 refine⟨.non,_,I.Kf (its':=aq++[u]) hH e (by simp) (r.append (.cons ru .nil)) ?_,rfl,q⟩
 rw[Jw,List.length_singleton]
 omega
def Hk:V->List V->Hp->VK->Prop:=fun x vs H Q=>yf fun l xs i k y=>x = .ref l/\vs=[.int i]/\H l=some (.lst xs) /\ -(2^63)<=i/\i<2^63/\seqIndex? i xs.length=some k/\xs[k]? = some y/\Q y (upd H l (.lst (xs.eraseIdx k)))
theorem DC:IG X "list.pop" Hk:=by
 intro pins s σ H x vs v us Q I rx rv h
 obtain⟨l,xs,i,k,y,rfl,rfl,hH,h1,h2,hk,hy,q⟩:=h
 cases rx
 obtain⟨u,rfl,ru⟩:=rv.one
 obtain⟨t,rfl⟩:=ru
 obtain⟨z,aq,n,r,hl,e⟩:=I.uO hH
 obtain⟨w,hw,rw'⟩:=r.get hy
 refine call_meets F.slot_list_pop ⟨_,e,rfl⟩ F.entry_list_pop (F.args_list_pop_2 _ _)
  (MeetsSeq.list_pop_at l aq.toArray n i t k w (fitsIndex_both h1 h2) (by rw[Jp,<-hl];exact hk) (by rw[<-Array.getElem?_toList];exact hw) (by rw[Jp];omega)) ⟨e,?_⟩
 refine⟨y,_,I.Kf (its':=aq.eraseIdx k) hH e ?_ (r.eraseIdx k) ?_,rw',q⟩
 ·show aq.toArray.eraseIdxIfInBounds k=(aq.eraseIdx k).toArray
  rw[List.eraseIdxIfInBounds_toArray]
 ·have:=qw xs k
  omega
def Lk:R2:=fun x y H Q=>vo fun l b xs zs=>x = .ref l/\y = .ref b/\H l=some (.lst xs)/\H b=some (.lst zs)/\xs.length+zs.length<=sizeLine/\∀p,H p=none->Q (.ref p) (upd H p (.lst (xs++zs)))
theorem HQ:eE X (binaryOp .Add) Lk:=by
 intro pins s σ H x y v u Q I rx ry h
 obtain⟨l,b,xs,zs,rfl,rfl,hH,hB,hz,q⟩:=h
 cases rx
 cases ry
 obtain⟨z,aq,n,r,hl,e⟩:=I.uO hH
 obtain⟨z2,its2,n2,r2,uv,e2⟩:=I.uO hB
 refine PySem.P.add_list e e2 ?_ (by rw[Jp,Jp];omega)
 have ea:aq.toArray++its2.toArray=(aq++its2).toArray:=by simp
 rw[ea]
 exact⟨.ref _,_,I.NO (t':=s.toks) (r.append r2) (by rw[Jw];omega),rfl,q _ I.fresh⟩
def MK:R2:=fun x y H Q=>o7 fun l k xs=>x = .ref l/\y = .int k/\H l=some (.lst xs) /\ -(2^63)<=k/\k<2^63/\xs.length*k.toNat<=sizeLine /\
 ∀p,H p=none->Q (.ref p) (upd H p (.lst (Jv k.toNat xs).flatten))
theorem GD {α:Type}(xs:List α)(k:Nat):(Jv k xs).flatten.length=k*xs.length:=by
 induction k with
 | zero=>simp
 | succ k ih=>rw[Yo,List.flatten_cons,Jw,ih,Nat.succ_mul,Nat.add_comm]
theorem Ki:eE X (binaryOp .Mult) MK:=by
 intro pins s σ H x y v u Q I rx ry h
 obtain⟨l,k,xs,rfl,rfl,hH,h1,h2,hz,q⟩:=h
 cases rx
 obtain⟨t,rfl⟩:=ry
 obtain⟨z,aq,n,r,hl,e⟩:=I.uO hH
 have hlen:aq.toArray.size*k.toNat<=sizeLine:=by rw[Jp,<-hl];exact hz
 have Qf:¬aq.toArray.size*k.toNat>(2^63-1) / 8:=by
  have:(sizeLine:Nat)<=(2^63-1) / 8:=by decide
  omega
 have Q8:¬(!Builtin.List.listFitsIndex k)=true:=by
  rw[fitsIndex_both h1 h2]
  exact Jm
 have MG:¬Builtin.List.listTooLong (aq.toArray.size*k.toNat)=true:=by
  rw[BZ hlen]
  exact Jm
 have Qa:List.foldl (fun x1 x2=>x1++x2) #[] (Jv (if aq.toArray.isEmpty=true then 0 else k.toNat) aq.toArray)=(Jv k.toNat aq).flatten.toArray:=by
  have f0:∀m:Nat,List.foldl (fun x1 x2=>x1++x2) #[] (Jv m aq.toArray)=(Jv m aq).flatten.toArray:=fun m=>by
   have:=foldl_rep aq m []
   rw[List.nil_append] at this
   exact this
  rw[f0]
  cases aq with
  | nil=>simp
  | cons a r'=>rw[if_neg (by simp)]
 refine wpAny_binaryOp_repeat_ref (T := "list") (U := "int") (by decide) ⟨_,e,rfl⟩ (fun s'=>typeIs_int s' k t) noFill_list_mul F.fills_int_mul F.slot_int_rmul repeat_list F.slot_int_index.lookup
  (call_meets F.slot_int_rmul (typeIs_int s k t) F.entry_int_rmul (F.args_int_rmul_2 _ _) (int___rmul___int_list k t l aq.toArray n)
   ⟨e,rfl,⟨_,e,rfl⟩,call_meets F.slot_list_mul ⟨_,e,rfl⟩ F.entry_list_mul (F.args_list_mul_2 _ _) (AutoListH.list___mul___list_int_3 l aq.toArray n k t Q8 Qf MG) ⟨e,?_⟩⟩)
 rw[Qa]
 exact⟨.ref _,_,I.NO (t':=s.toks) (r.rep k.toNat) (by rw[GD,Nat.mul_comm];exact hz),rfl,q _ I.fresh⟩
end
section
variable {prog:Program}{w:World}{A:Around}{E:Value->Shared->Prop}{s:Shared}
set_option maxRecDepth 100000 in
end
end L2
namespace Att
open PySem PySem.W PySem.Calls PyProof.Rows
theorem lV {P:Params}{h:Heap}:∀(ns:List Int) (vs:List Value),WellAll P h vs (ns.map WData.int)->IntsAre vs ns:=by
 intro ns
 induction ns with
 | nil=>
  intro vs w
  rw[List.map_nil] at w
  cases w
  exact .nil
 | cons n ns ih=>
  intro vs w
  rw[Jy] at w
  cases w with
  | cons a b=>
   cases a
   exact .cons _ _ (ih _ b)
theorem zt {l:OpenLaw}{n:Nat}(hn:l.most=some n){P:Params}{h:Heap}{args:List WData}{vals:List Value}
  (EO:l.row.toRowW.claim.pre args=true) (R3:WellAll P h vals args) :
  ∃a vs ns,vals=[Value.ref a]/\args=[WData.list (ns.map WData.int)]/\h.get? a=some { cls := .type "list",data := .seq vs.toArray } /\ IntsAre vs ns/\ns.length<=n:=by
 have KW:WShape.hasAll [] args [.list .int]=true:=(pre_splitW EO).1
 have hc:l.pre.holds [] { args:=args } = true:=(pre_splitW EO).2
 obtain⟨d,r,rfl,h1,h2⟩:=hasAllW_cons KW
 obtain rfl:=hasAllW_nil h2
 obtain⟨xs,rfl,h3⟩:=hasW_list h1
 obtain⟨ns,rfl⟩:=items_int h3
 have hlen:ns.length<=n:=by
  unfold OpenLaw.pre at hc
  have h4:(WTm.not (.lt (.lit (.int (n:Int))) (.len (.arg 0)))).holds [] { args:=[.list (ns.map .int)] } = true:=by
   have h4:=(holds_andW hc).1
   rw[hn] at h4
   exact h4
  have h5:=condW_of h4 (w_not (w_lt w_lit (w_len_list (w_arg rfl))))
  rw[Jd] at h5
  refine Nat.le_of_not_lt fun q =>?_
  have q':(n:Int)<((ns.length:Nat):Int):=by omega
  first
   | (rw[decide_eq_true q'] at h5;exact absurd h5 (by decide))
   | (simp at h5;omega)
 cases R3 with
 | cons w1 w2=>
  cases w2
  cases w1 with
  | list ho iE=>exact⟨_,_,ns,rfl,rfl,ho,lV ns _ iE,hlen⟩
theorem ze (l:OpenLaw)(args:List WData):l.row.toRowW.claim.post args (.bool true) args=true:=
 postW_of (r:=l.row.toRowW) (X:=(true==true))
  (show WShape.has [] (.bool true) .bool=true by first|rfl|decide|simp[WShape.has,WShape.arms,WShape.armsAll])
  (show(WTm.eq .res (.lit (.bool true))).value [] { args:=args,res:=some (.bool true),after:=args } = some (.bool (true==true)) from w_eq_bool (w_res rfl) w_lit) rfl
theorem tf {l:OpenLaw}{n:Nat}{q:Program}{loose:List Str}{XP:(Str->Option Value)->Heap->Prop}{YP:World->Heap->Prop}{d:DefRec}
  (hn:l.most=some n) (MR:d.params.defaults=[])
  (call:∀(w:World) (s₀ s₁:Shared) (mg mb:Str->Option Value) (fa:Addr) (o:Obj) (pm cd doc:Value) (a:Addr) (vs:List Value) (ns:List Int),
   Ground q loose [] XP w s₀ mg mb s₁.heap->YP w s₁.heap ->
   s₁.heap.get? fa=some o->o.data = .func (docDef d.name d.params d.body d.scope pm cd doc)->s₁.heap.CodeRec cd d.name->mg d.name=some (.ref fa) ->
   s₁.heap.get? a=some { cls := .type "list",data := .seq vs.toArray } -> IntsAre vs ns->ns.length<=n->s₁.gens = #[] ->
   codeAny (model l.prog w) callerA (.call (.ref fa) ⟨[.ref a],[]⟩) (fun r s'=>r = .ok (.ret (.bool true))/\OldK s₁.heap s'.heap/\s'.os=s₁.os/\AllBare s'.gens) s₁) :
  WalkO q loose XP YP l.row.toRowW d [] (fun f vs=>PySem.call f vs):=by
 intro w s₀ s₁ mg mb G Y fa o pm cd doc dV kV ho hd vO hD hmg hg args vals as EO hlay hrd R3 FY
 obtain rfl:dV = .none:=Dflts.none hD MR
 obtain rfl:kV = .none:=Dflts.noKw hD
 obtain⟨a,vs,ns,rfl,rfl,hobj,hints,hlen⟩:=zt hn EO R3
 refine enter_call (codeAny_mono (call w s₀ s₁ mg mb fa o pm cd doc a vs ns G Y ho (fd_plain hd) vO hmg hobj hints hlen hg) fun r s' hq =>?_)
 obtain⟨rfl,h2,h3,h4⟩:=hq
 exact⟨.inl ⟨.bool true,.bool true,[],rfl,fun _=>rfl,.bool true,ze l _,fun _=>⟨List.Pairwise.nil,fun _ hm=>(nomatch hm)⟩⟩,h2,h3,h4⟩
end Att
namespace L2
open PySem PySem.Spec PyProof.Rows
theorem AW {vs:List Value}{ns:List Int}(h:IntsAre vs ns):Vals (ns.map V.int) vs:=by
 induction h with
 | nil=>exact .nil
 | cons n t h ih=>exact .cons ⟨t,rfl⟩ ih
def HW (H:Hp):Prop:=∀b,H b=none∨eu fun o xs=>H b=some (.frz o (.lst xs))
theorem Ci {P:Program}{w:World}{K:Ja}{mg mb:Str->Option Value}{CX:zV}{k:Nat}{fa a:Addr}{fd:FuncData}{x:Str}{sp:Sp}{s₁:Shared}{vs:List Value}{ns:List Int}
  (KX:K.In s₁.heap) (Gg:s₁.heap.Ns mainGlobals mg) (hb:s₁.heap.Ns builtinsNs mb) (VQ:∀x:Str,x ≠ "__name__" -> mb x=bootBuiltins x) (Sq:s₁.heap.NoLimit) (hg:s₁.gens = #[])
  (ha:s₁.heap.get? a=some { cls := .type "list",data := .seq vs.toArray }) (hi:IntsAre vs ns) (hl:ns.length<=sizeLine) (hr:cG k callerA)
  (F:∀base:Heap,K.In base->base.Ns mainGlobals mg->bh P w K mg base CX k fa fd [x] sp) (NQ:∀(s:Shared) (u:Value),BindsTo s fd ⟨[u],[]⟩ [(x,u)])
  (D7:∀H:Hp,HW H->bq K H a (ns.map V.int)->sp [.ref a] H (fun v _=>v = .bl true) fun _ _ _=>False)
  (RW:∀H e s',CX [] H s₁ (fun _ _ _=>False) e s'->False) :
  codeAny (model P w) callerA (.call (.ref fa) ⟨[.ref a],[]⟩) (fun r s'=>r = .ok (.ret (.bool true))/\OldK s₁.heap s'.heap/\s'.os=s₁.os/\AllBare s'.gens) s₁:=by
 have rv:=AW hi
 have Qg:=hi.length
 have core:∀H:Hp,HW H->bq K H a (ns.map V.int)->gO P w H s₁.heap->(∀b,H b≠none->b=a)->(H a≠none->K.lookup a=none) ->
   codeAny (model P w) callerA (.call (.ref fa) ⟨[.ref a],[]⟩) (fun r s'=>r = .ok (.ret (.bool true))/\OldK s₁.heap s'.heap/\s'.os=s₁.os/\AllBare s'.gens) s₁:=by
  intro H hO hS bw hA hK
  have yH:∀{b:Addr} {o:Obj},s₁.heap.get? b=some o->H b=none->(rM s₁.heap H).get? b=some o:=fun e n=>BU e n
  have Lz:∀{b:Addr} {o:Obj} {es:Array DictEntry} {ep:Nat},s₁.heap.get? b=some o->o.data = .dict es ep->H b=none:=fun{b o es ep} e d=>by
   cases q:H b with
   | none=>rfl
   | some u=>
    have e':b=a:=hA b (by rw[q];simp)
    subst e'
    rw[ha] at e;cases e
    have d':Data.seq vs.toArray _=Data.dict es ep:=d
    cases d'
  have Oc:∀{b:Addr} {m:Str->Option Value},s₁.heap.Ns b m->(rM s₁.heap H).Ns b m:=fun{b m} ⟨o,es,ep,e,d,r⟩=>⟨o,es,ep,yH e (Lz e d),d,r⟩
  have SK:K.In (rM s₁.heap H):=fun b o e=>yH (KX b o e) (by
   cases q:H b with
   | none=>rfl
   | some u=>
    have e':b=a:=hA b (by rw[q];simp)
    subst e'
    rw[hK (by rw[q];simp)] at e;cases e)
  have hM:Mod K mg (rM s₁.heap H):=⟨SK,Oc Gg,⟨mb,Oc hb,VQ⟩,let ⟨mc,h1,h2⟩:=Sq; ⟨mc,Oc h1,h2⟩⟩
  have e0:xn P w K mg (rM s₁.heap H) callerA [] s₁ H:=⟨rfl,hM,fun b o e=>Fm e,Nat.le_of_eq (Ae _ _),trivial,fun b hb=>absurd (show b∈([]:List Addr) from hb) (by simp),bw,.of_eq hg⟩
  refine codeAny_mono ((F _ SK (Oc Gg)).run callerA [] s₁ H ⟨[.ref a],[]⟩ [.ref a] [.ref a] _ _ hr e0 (NQ s₁ (.ref a)) (.cons rfl .nil) (D7 H hO hS)) fun r s' h =>?_
  cases r with
  | error e=>exact(RW H e s' h).elim
  | ok fl=>
   cases fl with
   | next=>exact False.elim h
   | brk=>exact False.elim h
   | cont=>exact False.elim h
   | ret u=>
    obtain⟨v,H',os,bare,un,v7,r',q⟩:=h
    have q':v = .bl true:=q
    subst q'
    obtain rfl:u=Value.bool true:=r'
    refine⟨rfl,OldK.of_keep fun b o e =>?_,os,bare⟩
    cases q:H b with
    | none=>exact un.keep b o e q (by intro z;exact absurd (show b∈([]:List Addr) from z) (by simp)) (by simp)
    | some u=>
     rcases hO b with z|⟨ob,xs,z⟩
     ·rw[q] at z;cases z
     ·have z2:=un.gV b ob _ z
      obtain⟨e1,_⟩:=bw b _ z
      obtain⟨e2,_⟩:=v7 b _ z2
      rw[e] at e1;cases e1
      exact e2
 cases hk:K.lookup a with
 | some o=>
  have e:=KX a o hk
  rw[ha] at e
  cases e
  refine core (fun _=>none) (fun _ =>.inl rfl) (.inr ⟨_,vs.toArray,_,hk,rfl,rfl,rfl,by rw[Jp,Qg];exact hl,by simpa using rv⟩) (fun b u z=>by have z':(none:Option HO)=some u:=z;cases z') (fun b z=>absurd rfl z) fun z=>absurd rfl z
 | none=>
  refine core (fun b=>if b=a then some (.frz { cls := .type "list",data := .seq vs.toArray } (.lst (ns.map V.int))) else none) (fun b =>?_) (.inl (.inr ⟨{ cls := .type "list",data := .seq vs.toArray },if_pos rfl⟩)) (fun b u z =>?_) (fun b z =>?_) fun _=>hk
  ·by_cases hb:b=a
   ·exact .inr ⟨_,_,if_pos hb⟩
   ·exact .inl (if_neg hb)
  ·by_cases hb:b=a
   ·have z':=(if_pos hb).symm.trans z
    cases z'
    subst hb
    exact⟨ha,by rw[Jd];exact hl,vs,_,rv,ha⟩
   ·have z':=(if_neg hb).symm.trans z
    cases z'
  ·by_cases hb:b=a
   ·exact hb
   ·exact absurd (if_neg hb) z
theorem Fj {l:PySem.W.OpenLaw}{n k:Nat}{q:Program}{loose:List Str}{XP:(Str->Option Value)->Heap->Prop}{YP:World->Heap->Prop}{d:DefRec}{K:Params->Ja}{CX:World->zV}{sp:World->Sp}{x:Str}
  (hn:l.most=some n) (JK:n<=sizeLine) (MR:d.params.defaults=[]) (hr:cG k callerA)
  (hY:∀(w:World) (h:Heap),YP w h->(K w.params).In h)
  (F:∀(w:World) (mg:Str->Option Value) (fa:Addr) (h:Heap),(K w.params).In h->h.Ns mainGlobals mg->mg d.name=some (.ref fa) ->
   ∃fd:FuncData,(∀(s:Shared) (u:Value),BindsTo s fd ⟨[u],[]⟩ [(x,u)]) /\
    ∀base:Heap,(K w.params).In base->base.Ns mainGlobals mg->bh l.prog w (K w.params) mg base (CX w) k fa fd [x] (sp w))
  (D7:∀(w:World) (H:Hp) (a:Addr) (ns:List Int),ns.length<=n->HW H->bq (K w.params) H a (ns.map V.int)->sp w [.ref a] H (fun v _=>v = .bl true) fun _ _ _=>False)
  (RW:∀(w:World) (H:Hp) (s:Shared) (e:Value) (s':Shared),CX w [] H s (fun _ _ _=>False) e s'->False) :
  PySem.W.WalkO q loose XP YP l.row.toRowW d [] (fun f vs=>PySem.call f vs):=by
 refine Att.tf hn MR fun w s₀ s₁ mg mb fa o pm cd doc a vs ns G Y ho hd vO hmg hobj hints hlen hg =>?_
 have KX:=hY w _ Y
 obtain⟨fd,hb,hF⟩:=F w mg fa _ KX G.T.g hmg
 exact Ci KX G.T.g G.T.b G.T.builtins G.T.nolimit hg hobj hints (Ji hlen JK) hr hF hb (fun H hO hS=>D7 w H a ns hlen hO hS) fun H e s'=>RW w H s₁ e s'
noncomputable def inClass (s:Stmt)(j:Nat):Stmt:=match s with
 | .ClassDef _ _ _ body _ _ _ _ _ _ _=>body.getD j (.Pass ⟨0,0,0,0⟩)
 | _ =>.Pass ⟨0,0,0,0⟩
noncomputable def dv (s:Stmt):Arguments:=match s with
 | .FunctionDef _ a _ _ _ _ _ _ _ _=>a
 | _=>{ posonlyargs:=[],args:=[],vararg:=none,kwonlyargs:=[],kw_defaults:=[],kwarg:=none,defaults:=[] }
noncomputable def cB (s:Stmt):List Stmt:=match s with
 | .FunctionDef _ _ b _ _ _ _ _ _ _=>b
 | _=>[]
noncomputable def ak (s:Stmt):Scope:=match s with
 | .FunctionDef _ _ _ _ _ _ sc _ _ _=>sc
 | _=>{ kind := .function,names:=[],isGenerator:=false,isCoroutine:=false }
abbrev fw:zV:=fun _ _ _ _ _ _=>False
abbrev E0:XK:=fun _ _ _=>False
theorem Hh {X:Cx}:Passes fw X E0:=fun _ _ _ _ _ _ _ h=>h.elim
structure bU (K:Ja)(x qual:Str)(st:Stmt)(f:Addr)(fd:FuncData):Prop where
 ex:∃(oc:Value) (od:Option Addr) (kV doc pm:Value) (an:Option Addr) (cH ct:Value) (Ap:Array (Option Value)),
  fd=Yr x qual (dv st) (cB st) (ak st) .none kV doc pm an cH ct/\K.lookup f=some ⟨oc,od,.func fd,Ap⟩/\Y9 K cH qual=true
 kp:Ur K (.ref f)=true
section
variable {P:Program}{w:World}{K:Ja}{mg:Str->Option Value}{base:Heap}
theorem bU.ok {x qual:Str}{st:Stmt}{f:Addr}{fd:FuncData}{N ps:List Str}{k:Nat}{sp:Sp}(F:bU K x qual st f fd)(S:aB N ps (ak st))(len:∀vs H Q E,sp vs H Q E->vs.length=ps.length)
  (uI:∀(cH:Value) (A:Around) (outer:List Env) (s:Shared) (H:Hp) (vs:List V) (Q:VK) (E:XK),cG k (A.deeper (envOfC qual (ak st) s.heap.objs.size f cH))->sp vs H Q E ->
   ∃t,vk (gU fw P w K mg base N qual (ak st) f cH A outer s H E).ON (cB st) t/\t { nx:=fun _ H'=>Q .non H',rt:=Q } (start N vs) H):bh P w K mg base fw (k+1) f fd ps sp:=by
 obtain⟨oc,od,kV,doc,pm,an,cH,ct,Ap,rfl,lk,vO⟩:=F.ex
 refine GK lk vO S len fun A outer s H vs Q E hr D7 =>?_
 obtain⟨t,h,q⟩:=uI cH A outer s H vs Q E hr D7
 exact⟨t,h.ON,q⟩
theorem bU.binds {x qual:Str}{st:Stmt}{f:Addr}{fd:FuncData}{ps:List Str}(F:bU K x qual st f fd)
  (h:∀(kV doc pm:Value) (an:Option Addr) (cH ct:Value) (us:List Value),us.length=ps.length->bindArgs (Yr x qual (dv st) (cB st) (ak st) .none kV doc pm an cH ct) ⟨us,[]⟩=pure (ps.zip us)):Binds K fd ps []:=by
 obtain⟨oc,od,kV,doc,pm,an,cH,ct,Ap,rfl,lk,vO⟩:=F.ex
 exact .all (h kV doc pm an cH ct)
theorem aU {x qual:Str}{st:Stmt}{f:Addr}{oc:Value}{od an:Option Addr}{Ap:Array (Option Value)}{kV doc pm cH ct:Value}(l:K.lookup f=some ⟨oc,od,.func (Yr x qual (dv st) (cB st) (ak st) .none kV doc pm an cH ct),Ap⟩)
  (c:Y9 K cH qual=true) (k:Ur K (.ref f)=true):bU K x qual st f (Yr x qual (dv st) (cB st) (ak st) .none kV doc pm an cH ct):=⟨⟨oc,od,kV,doc,pm,an,cH,ct,Ap,rfl,l,c⟩,k⟩
end
theorem qE {A:Around}{k:Nat}(hr:cG k A):A.units+1<cLine:=Uj (Nat.add_le_add_left (by decide:1<=64) _) hr.units
section
variable {X:Cx}
theorem pv (i:Nat){x:Str}{pos:Pos}(hN:X.N[i]? = some x:=by rfl)(hv:KZ X.env.scope x:=by first|exact Or.inl rfl|exact Or.inr (Or.inl rfl)|exact Or.inr (Or.inr rfl))(hd:(x==("__debug__" : Str))=false:=by decide)
  (vO:(x==("__classdict__" : Str))=false:=by decide):PE X (.Name x pos) (Ie i):=JE hN hv hd vO
end
theorem bD {A B:Prop}(h:B):if false=true then A else B:=by
 rw[if_neg Jm]
 exact h
theorem bJ {A B:Prop}(h:A):if true=true then A else B:=by
 rw[if_pos rfl]
 exact h
theorem fG {c A B:Prop}[Decidable c](h1:c->A)(h2:¬c->B):if c then A else B:=by
 by_cases h:c
 ·rw[if_pos h]
  exact h1 h
 ·rw[if_neg h]
  exact h2 h
def ar (H H':Hp):Prop:=∀b o,H b=some o->H' b=some o
theorem ar.refl (H:Hp):ar H H:=fun _ _ h=>h
theorem ar.trans {H H1 H2:Hp}(a:ar H H1)(b:ar H1 H2):ar H H2:=fun c o h=>b c o (a c o h)
theorem ar.free {H H':Hp}(e:ar H H'){l:Addr}(h:H' l=Option.none):H l=Option.none:=by
 cases q:H l with
 | none=>rfl
 | some o=>
  rw[e l o q] at h
  cases h
theorem ar.seq {K:Ja}{H H':Hp}{a:Addr}{xs:List V}(e:ar H H')(h:bq K H a xs):bq K H' a xs:=by
 rcases h with (h|⟨o,h⟩)|h
 ·exact .inl (.inl (e _ _ h))
 ·exact .inl (.inr ⟨o,e _ _ h⟩)
 ·exact .inr h
end L2
namespace Z
open PySem L2
noncomputable def top (i:Nat):Stmt:=PySem.Challenge.pw_oddlong_k30_bare_rows_written.main.body.getD i (.Pass ⟨0,0,0,0⟩)
noncomputable abbrev HU:Nat:=1
noncomputable abbrev K5:Nat:=2
noncomputable abbrev K4:Nat:=3
noncomputable abbrev ME:Nat:=4
noncomputable abbrev K1:Nat:=5
noncomputable abbrev fR:Nat:=6
noncomputable abbrev fW:Nat:=7
noncomputable abbrev Hl:Nat:=8
noncomputable abbrev NK:Nat:=9
noncomputable abbrev lD:Nat:=18
noncomputable abbrev lh:Nat:=19
noncomputable abbrev kS:Nat:=20
noncomputable abbrev nh:Nat:=21
noncomputable abbrev gA:Nat:=22
noncomputable abbrev lE:Nat:=23
noncomputable abbrev iu:Nat:=24
noncomputable abbrev jM:Nat:=27
noncomputable abbrev jQ:Nat:=28
noncomputable abbrev fe:Nat:=29
noncomputable abbrev gw:Nat:=30
noncomputable abbrev kU:Nat:=32
noncomputable abbrev jP:Nat:=33
noncomputable abbrev xb:Nat:=34
noncomputable abbrev sN:Nat:=35
noncomputable abbrev la:Nat:=40
noncomputable abbrev fF:Nat:=41
noncomputable abbrev dq:Nat:=42
noncomputable abbrev dE:Nat:=43
noncomputable abbrev hV:Nat:=45
noncomputable abbrev jE:Nat:=46
noncomputable abbrev ju:Nat:=47
noncomputable abbrev ie:Nat:=48
noncomputable abbrev iI:Nat:=49
noncomputable abbrev iG:Nat:=50
noncomputable abbrev iD:Nat:=51
noncomputable abbrev iw:Nat:=52
noncomputable abbrev jj:Nat:=53
noncomputable abbrev fI:Nat:=54
noncomputable abbrev iy:Nat:=55
noncomputable abbrev eU:Nat:=56
noncomputable abbrev kT:Nat:=57
noncomputable abbrev eB:Nat:=58
noncomputable abbrev iH:Nat:=59
noncomputable abbrev jD:Nat:=60
noncomputable abbrev gj:Nat:=61
end Z
set_option maxHeartbeats 0
namespace Z
open PySem PySem.W PySem.Calls PyProof.Rows L2
noncomputable def MZ (s:Stmt):Pos:=match s with
 | .FunctionDef _ _ _ _ _ _ _ _ _ p=>p
 | _=>default
@[reducible] noncomputable def hs (s:String) (t:Nat):Value := .str (.ofString s) t
@[reducible] noncomputable def hy (P:Params) (s:String) (t:Nat) (v:Value):DictEntry:=⟨PyData.keyHash P (.ofString s),.str (.ofString s) t,v⟩
@[reducible] noncomputable def ht (xs:Array Value):Obj:=⟨.type "tuple",none,.seq xs 0,#[]⟩
@[reducible] noncomputable def hf (n q:String) (s:Stmt) (m:Value) (c:Addr):Obj:=⟨.type "function",none,.func (fnOf (.ofString n) (.ofString q) (dv s) (cB s) (ak s) .none .none .none m none (.ref c) .none),#[]⟩
@[reducible] noncomputable def hc (n:String) (t1:Nat) (q:String) (t2 t3:Nat) (i1 i2 i3:Int) (r1:Addr) (b:Bool) (i4:Int) (r2 r3 r4 r5:Addr) (i5 i6:Int) (t4:Nat):Obj:=⟨.type "code",none,.fields #[.str (.ofString n) t1,.str (.ofString q) t2,.str (.ofString "/claim/cut.py") t3,.int i1 0,.int i2 0,.int 0 0,.int 0 0,.int i3 0,.ref r1,.bool b,.int i4 0,.ref r2,.none,.ref r3,.ref r4,.ref r5,.int i5 0,.int i6 0,.str (.ofString "/claim/cut.py") t4],#[]⟩
noncomputable def Qx:Params->Frag:=fun P=>
 (nat_lit 3,⟨(.type "dict"),none,(.dict #[hy P "__name__" 165 (hs "law_oddlong_k30_bare_rows_written" 654),hy P "__doc__" 166 .none,hy P "__package__" 167 .none,hy P "__loader__" 168 (.builtin "__main__.__loader__#opaque"),hy P "__spec__" 169 .none,hy P "__annotations__" 170 (.ref 6),hy P "__builtins__" 171 (.ref 4),hy P "__file__" 173 (hs "/claim/cut.py" 172),hy P "__cached__" 174 .none,hy P "OddError" 206 (.ref 24),hy P "TooFull" 222 (.ref 37),hy P "NoPlace" 238 (.ref 49),hy P "NoName" 263 (.ref 68),hy P "BadText" 288 (.ref 87),hy P "NoForm" 313 (.ref 106),hy P "TooFar" 338 (.ref 125),hy P "NoTarget" 363 (.ref 144),hy P "BadRow" 388 (.ref 163),hy P "SIGNS" 392 (hs "01" 391),hy P "SMALL_LETTERS" 394 (hs "abcdefghijklmnopqrstuvwxyz" 393),hy P "LONGEST_NAME" 396 (.int 8 395),hy P "SPOT_NAMES" 401 (.ref 166),hy P "SIZE_NAMES" 411 (.ref 167),hy P "JUMPS" 414 (.ref 168),hy P "PARTS" 452 (.ref 169),hy P "made_of" 460 (.ref 187),hy P "is_name" 467 (.ref 194),hy P "is_code" 474 (.ref 201),hy P "two_to" 483 (.ref 208),hy P "figures_of" 493 (.ref 215),hy P "rest_of" 501 (.ref 222),hy P "is_number" 508 (.ref 229),hy P "SKIP_FIGURES" 512 (.int 3 511),hy P "put_bare" 523 (.ref 236),hy P "put_part" 533 (.ref 243),hy P "put_distance" 541 (.ref 250),hy P "is_reached" 550 (.ref 257),hy P "is_book" 558 (.ref 262),hy P "is_entry" 565 (.ref 269),hy P "free" 572 (.ref 276),hy P "clash" 584 (.ref 283),hy P "LEAST_NEAR" 588 (.int 2 587),hy P "MOST_NEAR" 590 (.int 8 589),hy P "MOST_FAR" 592 (.int 16 591),hy P "Form" 630 (.ref 300),hy P "first_wrong" 641 (.ref 311),hy P "is_free_book_of" 647 (.ref 316),hy P "far_is_shorter" 653 (.ref 321),hy P "_law_begin" 663 (.ref 328),hy P "_law_take" 677 (.ref 335),hy P "_law_same" 683 (.ref 340),hy P "_law_mixed" 693 (.ref 347),hy P "_law_codes" 699 (.ref 352),hy P "_law_kinds" 705 (.ref 359),hy P "_law_sizes" 711 (.ref 366),hy P "_law_parts" 726 (.ref 373),hy P "_law_form" 733 (.ref 380),hy P "_law_figures" 743 (.ref 387),hy P "_law_power" 752 (.ref 394),hy P "_law_far_word" 759 (.ref 401),hy P "_law_put" 765 (.ref 406),hy P "_law_some_bare" 780 (.ref 413),hy P "_law_class" 789 (.ref 420),hy P "_law_told" 800 (.ref 427),hy P "law" 814 (.ref 434)] 65),#[]⟩) ::
 (nat_lit 23,⟨(.type "dict"),none,(.dict #[hy P "__module__" 196 (hs "oddlong.errors" 187),hy P "__firstlineno__" 200 (.int 2 199),hy P "__static_attributes__" 201 (.ref 22),hy P "__weakref__" 203 (.ref 25),hy P "__doc__" 204 .none] 3),#[]⟩) ::
 (nat_lit 24,⟨(.type "type"),none,(.cls ⟨(.ofString "OddError"),[(.type "ValueError")],[(.ref 24),(.type "ValueError"),(.type "Exception"),(.type "BaseException"),(.type "object")],23,(.ofString "OddError"),true,[],[(.ref 37),(.ref 49),(.ref 68),(.ref 87),(.ref 106),(.ref 125),(.ref 144),(.ref 163)],false,none,false⟩),#[(some (.ref 15)),none,(some (hs "OddError" 189)),(some (hs "OddError" 197)),(some (.builtin "ValueError.__new__")),(some (.bool true))]⟩) ::
 (nat_lit 37,⟨(.type "type"),none,(.cls ⟨(.ofString "TooFull"),[(.ref 24)],[(.ref 37),(.ref 24),(.type "ValueError"),(.type "Exception"),(.type "BaseException"),(.type "object")],36,(.ofString "TooFull"),true,[],[],false,none,false⟩),#[(some (.ref 28)),none,(some (hs "TooFull" 207)),(some (hs "TooFull" 215)),(some (.builtin "ValueError.__new__")),(some (.bool true))]⟩) ::
 (nat_lit 49,⟨(.type "type"),none,(.cls ⟨(.ofString "NoPlace"),[(.ref 24)],[(.ref 49),(.ref 24),(.type "ValueError"),(.type "Exception"),(.type "BaseException"),(.type "object")],48,(.ofString "NoPlace"),true,[],[],false,none,false⟩),#[(some (.ref 40)),none,(some (hs "NoPlace" 223)),(some (hs "NoPlace" 231)),(some (.builtin "ValueError.__new__")),(some (.bool true))]⟩) ::
 (nat_lit 68,⟨(.type "type"),none,(.cls ⟨(.ofString "NoName"),[(.ref 24)],[(.ref 68),(.ref 24),(.type "ValueError"),(.type "Exception"),(.type "BaseException"),(.type "object")],67,(.ofString "NoName"),true,[],[],false,none,false⟩),#[(some (.ref 52)),none,(some (hs "NoName" 239)),(some (hs "NoName" 247)),(some (.builtin "ValueError.__new__")),(some (.bool true))]⟩) ::
 (nat_lit 87,⟨(.type "type"),none,(.cls ⟨(.ofString "BadText"),[(.ref 24)],[(.ref 87),(.ref 24),(.type "ValueError"),(.type "Exception"),(.type "BaseException"),(.type "object")],86,(.ofString "BadText"),true,[],[],false,none,false⟩),#[(some (.ref 71)),none,(some (hs "BadText" 264)),(some (hs "BadText" 272)),(some (.builtin "ValueError.__new__")),(some (.bool true))]⟩) ::
 (nat_lit 102,hc "__init__" 301 "NoForm.__init__" 302 303 18 2 3 97 true 181 98 99 100 101 306 18 307) ::
 (nat_lit 103,hf "__init__" "NoForm.__init__" (inClass (top 6) 0) (hs "oddlong.errors" 187) 102) ::
 (nat_lit 105,⟨(.type "dict"),none,(.dict #[hy P "__module__" 296 (hs "oddlong.errors" 187),hy P "__firstlineno__" 300 (.int 16 299),hy P "__init__" 308 (.ref 103),hy P "__static_attributes__" 310 (.ref 104),hy P "__doc__" 311 .none] 2),#[]⟩) ::
 (nat_lit 106,⟨(.type "type"),none,(.cls ⟨(.ofString "NoForm"),[(.ref 24)],[(.ref 106),(.ref 24),(.type "ValueError"),(.type "Exception"),(.type "BaseException"),(.type "object")],105,(.ofString "NoForm"),true,[],[],false,none,false⟩),#[(some (.ref 90)),none,(some (hs "NoForm" 289)),(some (hs "NoForm" 297)),(some (.builtin "ValueError.__new__")),(some (.bool true))]⟩) ::
 (nat_lit 121,hc "__init__" 326 "TooFar.__init__" 327 328 22 2 3 116 true 181 117 118 119 120 331 22 332) ::
 (nat_lit 122,hf "__init__" "TooFar.__init__" (inClass (top 7) 0) (hs "oddlong.errors" 187) 121) ::
 (nat_lit 124,⟨(.type "dict"),none,(.dict #[hy P "__module__" 321 (hs "oddlong.errors" 187),hy P "__firstlineno__" 325 (.int 20 324),hy P "__init__" 333 (.ref 122),hy P "__static_attributes__" 335 (.ref 123),hy P "__doc__" 336 .none] 2),#[]⟩) ::
 (nat_lit 125,⟨(.type "type"),none,(.cls ⟨(.ofString "TooFar"),[(.ref 24)],[(.ref 125),(.ref 24),(.type "ValueError"),(.type "Exception"),(.type "BaseException"),(.type "object")],124,(.ofString "TooFar"),true,[],[],false,none,false⟩),#[(some (.ref 109)),none,(some (hs "TooFar" 314)),(some (hs "TooFar" 322)),(some (.builtin "ValueError.__new__")),(some (.bool true))]⟩) ::
 (nat_lit 144,⟨(.type "type"),none,(.cls ⟨(.ofString "NoTarget"),[(.ref 24)],[(.ref 144),(.ref 24),(.type "ValueError"),(.type "Exception"),(.type "BaseException"),(.type "object")],143,(.ofString "NoTarget"),true,[],[],false,none,false⟩),#[(some (.ref 128)),none,(some (hs "NoTarget" 339)),(some (hs "NoTarget" 347)),(some (.builtin "ValueError.__new__")),(some (.bool true))]⟩) ::
 (nat_lit 163,⟨(.type "type"),none,(.cls ⟨(.ofString "BadRow"),[(.ref 24)],[(.ref 163),(.ref 24),(.type "ValueError"),(.type "Exception"),(.type "BaseException"),(.type "object")],162,(.ofString "BadRow"),true,[],[],false,none,false⟩),#[(some (.ref 147)),none,(some (hs "BadRow" 364)),(some (hs "BadRow" 372)),(some (.builtin "ValueError.__new__")),(some (.bool true))]⟩) ::
 (nat_lit 166,ht #[(hs "a" 397),(hs "b" 398),(hs "c" 399),(hs "d" 400)]) ::
 (nat_lit 167,ht #[(hs "none" 402),(hs "one" 403),(hs "two" 404),(hs "three" 405),(hs "four" 406),(hs "five" 407),(hs "six" 408),(hs "seven" 409),(hs "eight" 410)]) ::
 (nat_lit 168,ht #[(hs "jump" 412),(hs "zero" 413)]) ::
 (nat_lit 169,⟨(.type "dict"),none,(.dict #[hy P "set" 415 (.ref 170),hy P "add" 418 (.ref 171),hy P "take" 421 (.ref 172),hy P "tell" 424 (.ref 173),hy P "ask" 426 (.ref 174),hy P "jump" 428 (.ref 175),hy P "zero" 430 (.ref 176),hy P "stop" 433 (.ref 177),hy P "farjump" 434 (.ref 178),hy P "farzero" 436 (.ref 179),hy P "skip" 439 (.ref 180)] 11),#[]⟩) ::
 (nat_lit 170,ht #[(hs "spot" 416),(hs "number" 417)]) ::
 (nat_lit 171,ht #[(hs "spot" 419),(hs "spot" 420)]) ::
 (nat_lit 172,ht #[(hs "spot" 422),(hs "spot" 423)]) ::
 (nat_lit 173,ht #[(hs "spot" 425)]) ::
 (nat_lit 174,ht #[(hs "spot" 427)]) ::
 (nat_lit 175,ht #[(hs "near" 429)]) ::
 (nat_lit 176,ht #[(hs "spot" 431),(hs "near" 432)]) ::
 (nat_lit 177,ht #[]) ::
 (nat_lit 178,ht #[(hs "far" 435)]) ::
 (nat_lit 179,ht #[(hs "spot" 437),(hs "far" 438)]) ::
 (nat_lit 180,ht #[(hs "many" 440)]) ::
 (nat_lit 186,hc "made_of" 453 "made_of" 454 455 40 2 3 181 true 181 182 183 184 185 458 40 459) ::
 (nat_lit 187,hf "made_of" "made_of" (top 18) (hs "oddlong.shared" 389) 186) ::
 (nat_lit 193,hc "is_name" 461 "is_name" 462 463 42 1 3 188 true 181 189 190 191 192 465 42 466) ::
 (nat_lit 194,hf "is_name" "is_name" (top 19) (hs "oddlong.shared" 389) 193) ::
 (nat_lit 200,hc "is_code" 468 "is_code" 469 470 44 1 3 195 true 181 196 197 198 199 472 44 473) ::
 (nat_lit 201,hf "is_code" "is_code" (top 20) (hs "oddlong.shared" 389) 200) ::
 (nat_lit 207,hc "two_to" 475 "two_to" 476 477 46 1 3 202 true 181 203 204 205 206 481 46 482) ::
 (nat_lit 208,hf "two_to" "two_to" (top 21) (hs "oddlong.shared" 389) 207) ::
 (nat_lit 214,hc "figures_of" 484 "figures_of" 485 486 51 2 3 209 true 181 210 211 212 213 491 51 492) ::
 (nat_lit 215,hf "figures_of" "figures_of" (top 22) (hs "oddlong.shared" 389) 214) ::
 (nat_lit 221,hc "rest_of" 494 "rest_of" 495 496 57 2 3 216 true 181 217 218 219 220 499 57 500) ::
 (nat_lit 222,hf "rest_of" "rest_of" (top 23) (hs "oddlong.shared" 389) 221) ::
 (nat_lit 228,hc "is_number" 502 "is_number" 503 504 63 1 3 223 true 181 224 225 226 227 506 63 507) ::
 (nat_lit 229,hf "is_number" "is_number" (top 24) (hs "oddlong.shared" 389) 228) ::
 (nat_lit 235,hc "put_bare" 513 "put_bare" 514 515 67 2 3 230 true 181 231 232 233 234 521 67 522) ::
 (nat_lit 236,hf "put_bare" "put_bare" (top 27) (hs "oddlong.bare" 509) 235) ::
 (nat_lit 242,hc "put_part" 524 "put_part" 525 526 72 3 3 237 true 181 238 239 240 241 531 72 532) ::
 (nat_lit 243,hf "put_part" "put_part" (top 28) (hs "oddlong.bare" 509) 242) ::
 (nat_lit 249,hc "put_distance" 534 "put_distance" 535 536 81 2 3 244 true 181 245 246 247 248 539 81 540) ::
 (nat_lit 250,hf "put_distance" "put_distance" (top 29) (hs "oddlong.bare" 509) 249) ::
 (nat_lit 256,hc "is_reached" 542 "is_reached" 543 544 87 2 3 251 true 181 252 253 254 255 548 87 549) ::
 (nat_lit 257,hf "is_reached" "is_reached" (top 30) (hs "oddlong.bare" 509) 256) ::
 (nat_lit 261,⟨(.type "code"),none,(.fields #[(hs "is_book" 553),(hs "is_book" 554),(hs "/claim/cut.py" 555),(.int 91 0),(.int 1 0),(.int 0 0),(.int 0 0),(.int 3 0),(.ref 258),(.bool true),(.int 181 0),(.ref 259),.none,.none,.none,(.ref 260),(.int 556 0),(.int 91 0),(hs "/claim/cut.py" 557)]),#[]⟩) ::
 (nat_lit 262,hf "is_book" "is_book" (top 32) (hs "oddlong.books" 551) 261) ::
 (nat_lit 268,hc "is_entry" 559 "is_entry" 560 561 97 1 3 263 true 181 264 265 266 267 563 97 564) ::
 (nat_lit 269,hf "is_entry" "is_entry" (top 33) (hs "oddlong.books" 551) 268) ::
 (nat_lit 275,hc "free" 566 "free" 567 568 99 1 3 270 true 181 271 272 273 274 570 99 571) ::
 (nat_lit 276,hf "free" "free" (top 34) (hs "oddlong.books" 551) 275) ::
 (nat_lit 282,hc "clash" 573 "clash" 574 575 101 1 3 277 true 181 278 279 280 281 582 101 583) ::
 (nat_lit 283,hf "clash" "clash" (top 35) (hs "oddlong.books" 551) 282) ::
 (nat_lit 296,hc "__init__" 605 "Form.__init__" 606 607 113 6 3 291 true 181 292 293 294 295 615 113 616) ::
 (nat_lit 297,hf "__init__" "Form.__init__" (inClass (top 40) 0) (hs "oddlong.forms" 585) 296) ::
 (nat_lit 299,⟨(.type "dict"),none,(.dict #[hy P "__module__" 600 (hs "oddlong.forms" 585),hy P "__firstlineno__" 604 (.int 111 603),hy P "__init__" 617 (.ref 297),hy P "__static_attributes__" 623 (.ref 298),hy P "__dict__" 625 (.ref 301),hy P "__weakref__" 627 (.ref 302),hy P "__doc__" 628 .none] 4),#[]⟩) ::
 (nat_lit 300,⟨(.type "type"),none,(.cls ⟨(.ofString "Form"),[(.type "object")],[(.ref 300),(.type "object")],299,(.ofString "Form"),true,[],[],false,none,false⟩),#[none,none,(some (hs "Form" 593)),(some (hs "Form" 601)),(some (.builtin "object.__new__")),(some (.bool true))]⟩) ::
 (nat_lit 310,hc "first_wrong" 631 "first_wrong" 632 633 122 5 3 305 true 181 306 307 308 309 639 122 640) ::
 (nat_lit 311,hf "first_wrong" "first_wrong" (top 41) (hs "oddlong.forms" 585) 310) ::
 (nat_lit 315,⟨(.type "code"),none,(.fields #[(hs "is_free_book_of" 642),(hs "is_free_book_of" 643),(hs "/claim/cut.py" 644),(.int 134 0),(.int 2 0),(.int 0 0),(.int 0 0),(.int 3 0),(.ref 312),(.bool true),(.int 181 0),(.ref 313),.none,.none,.none,(.ref 314),(.int 645 0),(.int 134 0),(hs "/claim/cut.py" 646)]),#[]⟩) ::
 (nat_lit 316,hf "is_free_book_of" "is_free_book_of" (top 42) (hs "oddlong.forms" 585) 315) ::
 (nat_lit 320,⟨(.type "code"),none,(.fields #[(hs "far_is_shorter" 648),(hs "far_is_shorter" 649),(hs "/claim/cut.py" 650),(.int 139 0),(.int 3 0),(.int 0 0),(.int 0 0),(.int 3 0),(.ref 317),(.bool true),(.int 181 0),(.ref 318),.none,.none,.none,(.ref 319),(.int 651 0),(.int 139 0),(hs "/claim/cut.py" 652)]),#[]⟩) ::
 (nat_lit 321,hf "far_is_shorter" "far_is_shorter" (top 43) (hs "oddlong.forms" 585) 320) ::
 (nat_lit 327,hc "_law_begin" 656 "_law_begin" 657 658 143 1 3 322 true 181 323 324 325 326 661 143 662) ::
 (nat_lit 328,hf "_law_begin" "_law_begin" (top 45) (hs "law_oddlong_k30_bare_rows_written" 654) 327) ::
 (nat_lit 334,hc "_law_take" 664 "_law_take" 665 666 148 2 3 329 true 181 330 331 332 333 675 148 676) ::
 (nat_lit 335,hf "_law_take" "_law_take" (top 46) (hs "law_oddlong_k30_bare_rows_written" 654) 334) ::
 (nat_lit 339,⟨(.type "code"),none,(.fields #[(hs "_law_same" 678),(hs "_law_same" 679),(hs "/claim/cut.py" 680),(.int 160 0),(.int 2 0),(.int 0 0),(.int 0 0),(.int 3 0),(.ref 336),(.bool true),(.int 181 0),(.ref 337),.none,.none,.none,(.ref 338),(.int 681 0),(.int 160 0),(hs "/claim/cut.py" 682)]),#[]⟩) ::
 (nat_lit 340,hf "_law_same" "_law_same" (top 47) (hs "law_oddlong_k30_bare_rows_written" 654) 339) ::
 (nat_lit 346,hc "_law_mixed" 684 "_law_mixed" 685 686 174 2 3 341 true 181 342 343 344 345 691 174 692) ::
 (nat_lit 347,hf "_law_mixed" "_law_mixed" (top 48) (hs "law_oddlong_k30_bare_rows_written" 654) 346) ::
 (nat_lit 351,⟨(.type "code"),none,(.fields #[(hs "_law_codes" 694),(hs "_law_codes" 695),(hs "/claim/cut.py" 696),(.int 180 0),(.int 3 0),(.int 0 0),(.int 0 0),(.int 3 0),(.ref 348),(.bool true),(.int 181 0),(.ref 349),.none,.none,.none,(.ref 350),(.int 697 0),(.int 180 0),(hs "/claim/cut.py" 698)]),#[]⟩) ::
 (nat_lit 352,hf "_law_codes" "_law_codes" (top 49) (hs "law_oddlong_k30_bare_rows_written" 654) 351) ::
 (nat_lit 358,hc "_law_kinds" 700 "_law_kinds" 701 702 190 0 3 353 true 181 354 355 356 357 703 190 704) ::
 (nat_lit 359,hf "_law_kinds" "_law_kinds" (top 50) (hs "law_oddlong_k30_bare_rows_written" 654) 358) ::
 (nat_lit 365,hc "_law_sizes" 706 "_law_sizes" 707 708 192 0 3 360 true 181 361 362 363 364 709 192 710) ::
 (nat_lit 366,hf "_law_sizes" "_law_sizes" (top 51) (hs "law_oddlong_k30_bare_rows_written" 654) 365) ::
 (nat_lit 372,hc "_law_parts" 712 "_law_parts" 713 714 194 1 3 367 true 181 368 369 370 371 724 194 725) ::
 (nat_lit 373,hf "_law_parts" "_law_parts" (top 52) (hs "law_oddlong_k30_bare_rows_written" 654) 372) ::
 (nat_lit 379,hc "_law_form" 727 "_law_form" 728 729 206 1 3 374 true 181 375 376 377 378 731 206 732) ::
 (nat_lit 380,hf "_law_form" "_law_form" (top 53) (hs "law_oddlong_k30_bare_rows_written" 654) 379) ::
 (nat_lit 386,hc "_law_figures" 734 "_law_figures" 735 736 208 2 3 381 true 181 382 383 384 385 741 208 742) ::
 (nat_lit 387,hf "_law_figures" "_law_figures" (top 54) (hs "law_oddlong_k30_bare_rows_written" 654) 386) ::
 (nat_lit 393,hc "_law_power" 744 "_law_power" 745 746 214 1 3 388 true 181 389 390 391 392 750 214 751) ::
 (nat_lit 394,hf "_law_power" "_law_power" (top 55) (hs "law_oddlong_k30_bare_rows_written" 654) 393) ::
 (nat_lit 400,hc "_law_far_word" 753 "_law_far_word" 754 755 219 1 3 395 true 181 396 397 398 399 757 219 758) ::
 (nat_lit 401,hf "_law_far_word" "_law_far_word" (top 56) (hs "law_oddlong_k30_bare_rows_written" 654) 400) ::
 (nat_lit 405,⟨(.type "code"),none,(.fields #[(hs "_law_put" 760),(hs "_law_put" 761),(hs "/claim/cut.py" 762),(.int 221 0),(.int 2 0),(.int 0 0),(.int 0 0),(.int 3 0),(.ref 402),(.bool true),(.int 181 0),(.ref 403),.none,.none,.none,(.ref 404),(.int 763 0),(.int 221 0),(hs "/claim/cut.py" 764)]),#[]⟩) ::
 (nat_lit 406,hf "_law_put" "_law_put" (top 57) (hs "law_oddlong_k30_bare_rows_written" 654) 405) ::
 (nat_lit 412,hc "_law_some_bare" 766 "_law_some_bare" 767 768 240 3 3 407 true 181 408 409 410 411 778 240 779) ::
 (nat_lit 413,hf "_law_some_bare" "_law_some_bare" (top 58) (hs "law_oddlong_k30_bare_rows_written" 654) 412) ::
 (nat_lit 419,hc "_law_class" 781 "_law_class" 782 783 257 1 3 414 true 181 415 416 417 418 787 257 788) ::
 (nat_lit 420,hf "_law_class" "_law_class" (top 59) (hs "law_oddlong_k30_bare_rows_written" 654) 419) ::
 (nat_lit 426,hc "_law_told" 790 "_law_told" 791 792 269 2 3 421 true 181 422 423 424 425 798 269 799) ::
 (nat_lit 427,hf "_law_told" "_law_told" (top 60) (hs "law_oddlong_k30_bare_rows_written" 654) 426) ::
 (nat_lit 433,hc "law" 801 "law" 802 803 276 1 3 428 true 181 429 430 431 432 812 276 813) ::
 (nat_lit 434,hf "law" "law" (top 61) (hs "law_oddlong_k30_bare_rows_written" 654) 433)::[]
noncomputable def Tp:List Addr:=3::23::24::37::49::68::87::102::103::105::106::121::122::124::125::144::163::166::167::168::169::170::171::172::173::174::175::176::177::178::179::180::186::187::193::194::200::201::207::208::214::215::221::222::228::229::235::236::242::243::249::250::256::257::261::262::268::269::275::276::282::283::296::297::299::300::310::311::315::316::320::321::327::328::334::335::339::340::346::347::351::352::358::359::365::366::372::373::379::380::386::387::393::394::400::401::405::406::412::413::419::420::426::427::433::434::[]
noncomputable def Bj:Program:=view PySem.Challenge.pw_oddlong_k30_bare_rows_written [1,2,3,4,5,6,7,8,9,11,12,13,14,15,16,17,18,19,20,21,22,23,24,26,27,28,29,30,32,33,34,35,37,38,39,40,41,42,43,45,46,47,48,49,50,51,52,53,54,55,56,57,58,59,60,61]
noncomputable def DZ:List Str:=[.ofString "PARTS"]
theorem IU:∀P,Tp=(Qx P).map (·.1):=fun _=>by kernel_rfl
noncomputable abbrev Bk:Hook:=kHook Qx Tp IU
noncomputable abbrev NV:Shared->Bool:=fun s=>xlAt Bj [] s&&recOk (RowW.records (OpenRow.toRowW (OpenLaw.row PySem.Challenge.rw_oddlong_k30_bare_rows_written))) s
theorem EL {p q:Program}{loose:List Str}{Xt:Shared->Bool}{α:Type}{Yf:Shared -> α}{Ya:World -> α}{N:Nat}{g0:Bool}(e:opening p=plainProg p.main.scope.names)(hN:Nat.ble 600 N=true)(f:∀s,fenceModules? p s=some s)
  (h:∀w:World,(fun os=>(topFrom treeTable p w N ⟨boot_heap w.params,Array.mk [],boot_drawn,boot_toks,os⟩).map fun s=>(openSeen q loose (importedModules p.main.body) Xt g0 s,Yf s))=fun _=>some (openGood q loose,Ya w)):LeftO p q loose Xt Yf Ya N g0:=fun w=>by
 obtain⟨⟨hp,gs,d,k,os⟩,e1,e2⟩:=Option.map_eq_some_iff.mp (boot_open e hN f w)
 obtain⟨rfl,rfl,rfl,rfl⟩:hp=boot_heap w.params/\gs=Array.mk []/\d=boot_drawn/\k=boot_toks:=by simpa using e2
 unfold openEnds
 rw[e1]
 exact congrFun (h w) os
theorem EE:OpenLaw.wellSaid PySem.Challenge.rw_oddlong_k30_bare_rows_written=true:=by
 rw[PySem.W.Fast.te9446332074065402090]
 kernel_rfl
theorem Cg (w:World):(fun os=>(topFrom treeTable PySem.Challenge.pw_oddlong_k30_bare_rows_written (w.withFollow "special-get-raises" false) 7610 ⟨boot_heap (w.withFollow "special-get-raises" false).params,Array.mk [],boot_drawn,boot_toks,os⟩).map fun s=>(openSeen Bj DZ (importedModules PySem.Challenge.pw_oddlong_k30_bare_rows_written.main.body) NV true s,Hook.obs Bk s))=fun _=>some (openGood Bj DZ,Hook.val Bk (w.withFollow "special-get-raises" false)):=by
 unfold topFrom
 rw[PySem.W.Fast.te14082659384304107361,PySem.W.Fast.te14364793385576792824,PySem.W.Fast.te4187177175401517315]
 kernel_rfl
theorem Fa (w:World):(fun os=>(topFrom treeTable PySem.Challenge.pw_oddlong_k30_bare_rows_written (w.withFollow "special-get-raises" true) 7610 ⟨boot_heap (w.withFollow "special-get-raises" true).params,Array.mk [],boot_drawn,boot_toks,os⟩).map fun s=>(openSeen Bj DZ (importedModules PySem.Challenge.pw_oddlong_k30_bare_rows_written.main.body) NV true s,Hook.obs Bk s))=fun _=>some (openGood Bj DZ,Hook.val Bk (w.withFollow "special-get-raises" true)):=by
 unfold topFrom
 rw[PySem.W.Fast.te14082659384304107361,PySem.W.Fast.te14364793385576792824,PySem.W.Fast.te4187177175401517315]
 kernel_rfl
theorem JG (w:World):(fun os=>(topFrom treeTable PySem.Challenge.pw_oddlong_k30_bare_rows_written (w) 7610 ⟨boot_heap (w).params,Array.mk [],boot_drawn,boot_toks,os⟩).map fun s=>(openSeen Bj DZ (importedModules PySem.Challenge.pw_oddlong_k30_bare_rows_written.main.body) NV true s,Hook.obs Bk s))=fun _=>some (openGood Bj DZ,Hook.val Bk (w)):=byRow2 "special-get-raises" (P:=fun w=>(fun os=>(topFrom treeTable PySem.Challenge.pw_oddlong_k30_bare_rows_written (w) 7610 ⟨boot_heap (w).params,Array.mk [],boot_drawn,boot_toks,os⟩).map fun s=>(openSeen Bj DZ (importedModules PySem.Challenge.pw_oddlong_k30_bare_rows_written.main.body) NV true s,Hook.obs Bk s))=fun _=>some (openGood Bj DZ,Hook.val Bk (w))) Cg Fa w
theorem GA:LeftO PySem.Challenge.pw_oddlong_k30_bare_rows_written Bj DZ NV (Hook.obs Bk) (Hook.val Bk) 7610 true:=EL rfl rfl (fun _=>rfl) JG
noncomputable def SD:DefRec:=⟨.ofString "law",dv (top gj),cB (top gj),ak (top gj),MZ (top gj)⟩
theorem EH (hw:RowW.promised (OpenRow.toRowW (OpenLaw.row PySem.Challenge.rw_oddlong_k30_bare_rows_written)))(h:WalkO Bj DZ (XL Bj []) (InK Qx) (OpenRow.toRowW (OpenLaw.row PySem.Challenge.rw_oddlong_k30_bare_rows_written)) SD [] fun f vs=>PySem.call f vs):OpenLaw.Holds PySem.Challenge.rw_oddlong_k30_bare_rows_written:=
 holds_law EE fun sd=>holds_open (r:=OpenLaw.row PySem.Challenge.rw_oddlong_k30_bare_rows_written) (d:=SD) (kwd:=[]) GA (Hook.of Bk) (Hook.keeps Bk) (fun s e=>xl_of s (Bool.and_eq_true_iff.mp e).1) XL.keeps (by kernel_rfl) (by kernel_rfl) (by kernel_rfl) (fun s e=>recFacts_of (Bool.and_eq_true_iff.mp e).2) rfl sd (by decide +kernel) ⟨rfl,rfl,rfl,rfl,rfl,by decide +kernel⟩ hw h
end Z
set_option maxHeartbeats 4000000
namespace L2
open PySem PySem.Spec PyProof.Rows
abbrev sX:Value->Shared->Prop:=fun _ _=>False
theorem eg {α:Type}{M:Model}{A:Around}{t:Sem α}{Q: α->Shared->Prop}{E:Value->Shared->Prop}{s:Shared}(h:wpAny M A t Q sX s):wpAny M A t Q E s:=
 wpAny_mono h (fun _ _ q=>q) fun _ _ z=>z.elim
theorem bV {a b:Addr}{n:Nat}(h:a<n)(h':n<=b):a≠b:=fun e=>absurd (Jn h h') (by rw[e];exact Uc _)
theorem j0 {a b:Addr}{n:Nat}(h:a<n)(h':n<=b):b≠a:=fun e=>bV h h' e.symm
theorem jI (env:Env):∀(names:List (Str×NameKind)) (acc:List (Str×Addr)),
  (∀y∈names,y.2 = .free->∃c,env.cells.lookup y.1=some c)->(∀n c,acc.lookup n=some c->env.cells.lookup n=some c) ->
  ∃cl,(forIn names acc fun(x:Str×NameKind) (cs:List (Str×Addr))=>(if (x.2==NameKind.free)=true then do
    let a <-cellOf env x.1
    pure (ForInStep.yield ((x.1,a)::cs)) else pure (ForInStep.yield cs):Sem (ForInStep (List (Str×Addr)))))=pure cl /\
   (∀n c,cl.lookup n=some c->env.cells.lookup n=some c)/\(∀n c,acc.lookup n=some c->∃c',cl.lookup n=some c')/\∀y∈names,y.2 = .free->∃c,cl.lookup y.1=some c
 | [],acc,_,h2=>⟨acc,rfl,h2,fun _ c h=>⟨c,h⟩,fun _ h=>nomatch h⟩
 | (n,k)::r,acc,h1,h2=>by
  have hr:∀y∈r,y.2 = .free->∃c,env.cells.lookup y.1=some c:=fun y hy=>h1 y (Jo _ hy)
  by_cases hk:k = .free
  ·subst hk
   obtain⟨c,hc⟩:=h1 (n,.free) Js rfl
   obtain⟨cl,e,p1,p2,p3⟩:=jI env r ((n,c)::acc) hr (fun m d hm=>by
    rw[Ui] at hm
    by_cases q:m==n
    ·rw[q] at hm
     have:m=n:=by simpa using q
     subst this
     cases hm
     exact hc
    ·have q':(m==n)=false:=by simpa using q
     rw[q'] at hm
     exact h2 m d hm)
   refine⟨cl,?_,p1,fun m d hm =>?_,fun y hy hf =>?_⟩
   ·rw[Yp]
    rw[<-e]
    show(cellOf env n >>= fun a=>_) >>= _=_
    unfold cellOf
    rw[hc]
    rfl
   ·by_cases q:m=n
    ·subst q
     exact p2 m c (by rw[Ui];simp)
    ·exact p2 m d (by rw[Ui];simp -iota only [beq_eq_false_iff_ne.mpr q];exact hm)
   ·rcases Jr.mp hy with rfl|hy
    ·exact p2 n c (by rw[Ui];simp)
    ·exact p3 y hy hf
  ·refine ai.el (jI env r acc hr h2) _ ?_
   rintro cl e p1 p2 p3
   refine⟨cl,?_,p1,p2,fun y hy hf =>?_⟩
   ·rw[Yp,<-e]
    have hb:(k==NameKind.free)=false:=by simpa using hk
    simp -iota only [hb,Ut,if_false]
    rfl
   ·rcases Jr.mp hy with rfl|hy
    ·exact absurd hf hk
    ·exact p3 y hy hf
theorem ow {scope:Scope}{env:Env}(h:∀y∈scope.names,y.2 = .free->∃c,env.cells.lookup y.1=some c):
  ∃cl,closureFor scope env=pure cl/\(∀n c,cl.lookup n=some c->env.cells.lookup n=some c)/\∀y∈scope.names,y.2 = .free->∃c,cl.lookup y.1=some c:=by
 obtain⟨cl,e,p1,_,p3⟩:=jI env scope.names [] h (fun n c h=>by simp at h)
 refine⟨cl,?_,p1,p3⟩
 unfold closureFor
 refine Eq.trans ?_ (congrArg (fun m=>m >>= fun(cs:List (Str×Addr))=>(pure cs:Sem _)) e)
 rfl
noncomputable def rB (ifs:List Expr)(env:Env):Sem Bool:=forIn ifs true fun c r=>if r=true then do let ok <-isTrue c env (eval c env);pure (ForInStep.yield ok) else pure (ForInStep.yield r)
section
variable {prog:Program}{w:World}{A:Around}{R:Result->Shared->Prop}{s:Shared}
theorem wm {elt target iter:Expr}{ifs:List Expr}{scope:Scope}{pos:Pos}{it acc:Value}{env:Env}(I:Nat->Shared->Prop)
  (turn:∀n s,I n s->wpAny (model prog w) A (pyNext it) (fun r s1=>match r with
   | none=>R (.ok .next) s1
   | some v=>wpAny (model prog w) A (letOwnedTupleGo target it v) (fun _ s1'=>wpAny (model prog w) A (assign target env v) (fun _ s2=>
     wpAny (model prog w) A (rB ifs env) (fun ok s3=>
      if ok=true then wpAny (model prog w) A (eval elt env) (fun x s4=>
       wpAny (model prog w) A (call (.builtin "list.append") [acc,x]) (fun _ s5=>∃m,m<n/\I m s5) sX s4) sX s3
      else ∃m,m<n/\I m s3) sX s2) sX s1') sX s1) sX s)
  (n:Nat) (h:I n s):codeAny (model prog w) A (.compLoop (.ListComp elt [⟨target,iter,ifs,0⟩] scope pos) 0 it acc env) R s:=by
 refine codeAny_loop rfl I (fun n s hI=>(show wpAny _ A (Sem.onRaise (compTurn (.ListComp elt [⟨target,iter,ifs,0⟩] scope pos) 0 it acc env) (fun x=>do noteFrame x env;theTreesLotGoes x)) _ _ s from wpAny_noted ?_)) n h
 rw[compTurn_list]
 refine wpAny_bind (wpAny_standAt (wpAny_bind (eg (bz (turn n s hI) fun r s1 h1 =>?_))))
 cases r with
 | none=>exact wpAny_pure h1
 | some v=>
  refine wpAny_bind (eg (bz h1 fun _ s1' KY =>?_))
  refine wpAny_bind (eg (bz KY fun _ s2 h2=>wpAny_bind (eg (bz h2 fun ok s3 h3 =>?_))))
  cases ok with
  | false=>exact wpAny_pure ⟨rfl,h3⟩
  | true=>exact wpAny_bind (wpAny_bind (eg (bz h3 fun x s4 h4=>wpAny_bind (eg (bz h4 fun _ s5 h5=>wpAny_pure (wpAny_pure ⟨rfl,h5⟩))))))
end
theorem gO.adopt {P:Program}{w:World}{H:Hp}{h:Heap}{a:Addr}{o:HO}(x:gO P w H h)(hn:H a=none)(new:bg P w (upd H a o) h a o):gO P w (upd H a o) h:=fun b u e=>by
 by_cases hb:b=a
 ·subst hb;rw[ay] at e;cases e;exact new
 ·rw[aj hb] at e
  exact(x b u e).fu (fun c v _ q=>q) (fun c q=>by rw[aj (aw q hn)];exact q) fun c xs q=>by rw[aj (aw q hn)];exact q
structure gC (X:Cx)(scope:Scope)(Nc Fc:List Str)(js:List Nat):Prop where
 kind:scope.kind = .function
 nocell:∀y∈scope.names,y.2 ≠ .cell
 names:∀y∈scope.names,y.2 = .local->scope.names.lookup y.1=some .local
 free:∀y∈scope.names,y.2 = .free->X.env.kindOf y.1=some .cell∨X.env.kindOf y.1=some .free
 frees:∀(k:Nat) (x:Str),Fc[k]? = some x->scope.names.lookup x=some .free/\∃j,js[k]? = some j/\X.N[j]? = some x
 lens:js.length=Fc.length
noncomputable def dA (σ:St)(js:List Nat):St:=js.map fun j=>(σ[j]?).join
noncomputable def pf (X:Cx)(Nc Fc:List Str)(scope:Scope)(cl:List (Str×Addr))(C:Addr)(s:Shared)(H:Hp)(fp:List Addr):Cx:=
 { X with N:=Nc++Fc,s₀:=s,H₀:=H,env:=compEnvC scope cl C X.env,outer:=X.stack,stack:=X.stack,ex:=fp,fn:=fun _=>false,pn:=[],xe:=sX }
theorem gu {env:Env}:∀{names:List (Str×NameKind)} {x:Str} {k:NameKind},(names.map fun(n,k)=>if (k==NameKind.free&&env.scope.kind == .function&&env.kindOf n==some .cell) then (n,NameKind.cell) else (n,k)).lookup x=some k ->
  names.lookup x=some k∨(k = .cell/\names.lookup x=some .free)
 | [],_,_,h=>by simp at h
 | (n,k0)::r,x,k,h=>by
  have ih := @gu env r x k
  rw[Jy] at h
  dsimp only at h
  by_cases hx:x=n
  ·subst hx
   by_cases hc:(k0==NameKind.free&&env.scope.kind == .function&&env.kindOf x==some .cell)=true
   ·rw[if_pos hc] at h
    simp -iota only [Ui,beq_self_eq_true] at h
    have hk:k0 = .free:=by
     have:=(Ju _ _).mp ((Ju _ _).mp hc).1
     simpa using this.1
    subst hk
    cases h
    exact .inr ⟨rfl,by simp only[Ui,beq_self_eq_true]⟩
   ·rw[if_neg hc] at h
    simp -iota only [Ui,beq_self_eq_true] at h ⊢
    exact .inl h
  ·have hb:(x==n)=false:=beq_eq_false_iff_ne.mpr hx
   have e:Y4 x ((if (k0==NameKind.free&&env.scope.kind == .function&&env.kindOf n==some .cell)=true then (n,NameKind.cell) else (n,k0))::(r.map fun(n,k)=>if (k==NameKind.free&&env.scope.kind == .function&&env.kindOf n==some .cell) then (n,NameKind.cell) else (n,k)))=some k:=h
   have e2:Y4 x (r.map fun(n,k)=>if (k==NameKind.free&&env.scope.kind == .function&&env.kindOf n==some .cell) then (n,NameKind.cell) else (n,k))=some k:=by
    by_cases hc:(k0==NameKind.free&&env.scope.kind == .function&&env.kindOf n==some .cell)=true
    ·rw[if_pos hc] at e;simp -iota only [Ui,hb] at e;exact e
    ·rw[if_neg hc] at e;simp -iota only [Ui,hb] at e;exact e
   simp -iota only [Ui,hb]
   exact ih e2
theorem dZ {env:Env}:∀{names:List (Str×NameKind)} {x:Str},names.lookup x=some .free ->
  (names.map fun(n,k)=>if (k==NameKind.free&&env.scope.kind == .function&&env.kindOf n==some .cell) then (n,NameKind.cell) else (n,k)).lookup x=some .cell ∨
  (names.map fun(n,k)=>if (k==NameKind.free&&env.scope.kind == .function&&env.kindOf n==some .cell) then (n,NameKind.cell) else (n,k)).lookup x=some .free
 | [],_,h=>by simp at h
 | (n,k0)::r,x,h=>by
  have ih := @dZ env r x
  rw[Jy]
  dsimp only
  by_cases hx:x=n
  ·subst hx
   simp -iota only [Ui,beq_self_eq_true] at h
   cases h
   by_cases hc:(NameKind.free==NameKind.free&&env.scope.kind == .function&&env.kindOf x==some .cell)=true
   ·rw[if_pos hc];left;simp only[Ui,beq_self_eq_true]
   ·rw[if_neg hc];right;simp only[Ui,beq_self_eq_true]
  ·have hb:(x==n)=false:=beq_eq_false_iff_ne.mpr hx
   simp -iota only [Ui,hb] at h
   by_cases hc:(k0==NameKind.free&&env.scope.kind == .function&&env.kindOf n==some .cell)=true
   ·rw[if_pos hc];simp -iota only [Ui,hb];exact ih h
   ·rw[if_neg hc];simp -iota only [Ui,hb];exact ih h
theorem bS:∀{l:List (Str×NameKind)} {x:Str} {k:NameKind},l.lookup x=some k->(x,k)∈l:=fun h=>PySem.mem_of_lookup h
section
variable {X:Cx}{pins:List (Addr×Obj)}{σ:St}{H:Hp}{s:Shared}{scope:Scope}{Nc Fc:List Str}{js:List Nat}{cl:List (Str×Addr)}{C D:Addr}{fp:List Addr}
theorem mZ {x:Str}:(pf X Nc Fc scope cl C s H fp).env.kindOf x=(scope.names.map fun(n,k)=>if (k==NameKind.free&&X.env.scope.kind == .function&&X.env.kindOf n==some .cell) then (n,NameKind.cell) else (n,k)).lookup x:=rfl
theorem rE (I:Inv X pins σ H s)(c:gC X scope Nc Fc js)(dH:∀n c,cl.lookup n=some c->X.env.cells.lookup n=some c)(kJ:∀y∈scope.names,y.2 = .free->∃c,cl.lookup y.1=some c)
  (hC:s.heap.objs.size<=C) (hf:∀b∈fp,dU X pins H b) (ho:∀b∈fp,∃o,s.heap.get? b=some o):(pf X Nc Fc scope cl C s H fp).Ok where
 mod:=I.ok.mod
 kind:=c.kind
 glob:=I.ok.glob
 blt:=I.ok.blt
 above:=hC
 inj:=fun x y a h1 h2=>I.ok.inj x y a (dH _ _ h1) (dH _ _ h2)
 has:=fun x hx=>by
  have key:scope.names.lookup x=some .free:=by
   rw[mZ] at hx
   rcases hx with h|h
   ·rcases gu h with q|⟨_,q⟩
    ·exact absurd rfl (c.nocell _ (bS q))
    ·exact q
   ·rcases gu h with q|⟨q,_⟩
    ·exact q
    ·cases q
  exact kJ _ (bS key) rfl
 cab:=fun _ _ h=>nomatch h
 hd:=I.ok.hd
 frames:=I.ok.frames
 stk := .inl rfl
 exf:=fun b hb=>⟨fun z=>by
   obtain⟨o,e⟩:=ho b hb
   exact bV (Jf e) hC z,fun x a e z=>(hf b hb).2.2.2.2.1 x a (dH _ _ e) z⟩
 bs:=fun b o e=>I.bs b o e
 bsz:=Ji I.ok.bsz I.sz
 noex:=fun b o e hb=>by
  rcases(hf b hb).2.2.2.1 with z|z
  ·exact I.ok.noex b o e z
  ·exact absurd (Jn (Jf (I.ok.bs b o e).1) z) (Uc _)
 exfs:=fun b hb z=>by
  rcases Jr.mp (I.sW b z) with q|q
  ·exact(hf b hb).2.1 q
  ·exact(hf b hb).2.2.1 q
 i7:=I.stack
 frf:=I.qQ
theorem Ef (I:Inv X pins σ H s)(c:gC X scope Nc Fc js)(dH:∀n c,cl.lookup n=some c->X.env.cells.lookup n=some c)(kJ:∀y∈scope.names,y.2 = .free->∃c,cl.lookup y.1=some c)
  (hC:s.heap.objs.size<=C) (hD:s.heap.objs.size<=D) (KP:D≠C) (hf:∀b∈fp,dU X pins H b) (ho:∀b∈fp,∃o,s.heap.get? b=some o) {h1:Heap} {t1:Nat} {m:Str->Option Value} {ob:Obj}
  (hk:∀b o,s.heap.get? b=some o->h1.get? b=some o) (hm:h1.Ns C m) (OX:h1.get? D=some ob) (UZ:∀v,ob.data ≠ .cell v) :
  Inv (pf X Nc Fc scope cl C s H fp) [(D,ob)] (Jv Nc.length none++dA σ js) H { s with heap:=h1,toks:=t1 }:=by
 refine⟨rE I c dH kJ hC hf ho,rfl,I.bare,Un.kept hk,⟨m,hm,fun i x v e1 e2 e3 =>?_⟩,fun x a e =>?_,I.bw.fresh hC,fun x a e=>I.freeC x a (dH x a e),fun p hp =>?_,I.bw.kept hk,?_⟩
 ·have e1:(Nc++Fc)[i]? = some x:=e1
  have e2:(Jv Nc.length none++dA σ js)[i]? = some (some v):=e2
  by_cases hi:i<Nc.length
  ·rw[Yb (by simpa using hi),Yx] at e2
   split at e2<;>cases e2
  ·rw[Ux (by omega)] at e1
   rw[Ux (by rw[Uu];omega),Uu] at e2
   refine ai.el (c.frees _ _ e1) _ ?_
   rintro lU j hj hN
   have hv: σ[j]? = some (some v):=by
    unfold dA at e2
    rw[Jk,hj] at e2
    have e2:some ((σ[j]?).join)=some (some v):=e2
    cases q: σ[j]? with
    | none=>rw[q] at e2;cases e2
    | some z=>rw[q] at e2;cases e2;rfl
   have kx:=c.free _ (bS lU) rfl
   refine ai.el (I.loc) _ ?_
   rintro m0 hn0 hl0
   have Ng:KZ X.env.scope x:=by
    rcases kx with k|k
    ·exact .inr (.inl k)
    ·exact .inr (.inr k)
   refine ai.el (hl0 j x v hN hv Ng) _ ?_
   rintro u ru lk
   refine⟨u,ru,.inr ⟨?_,?_⟩⟩
   ·rw[mZ];exact dZ lU
   ·obtain⟨a,ha⟩:=kJ _ (bS lU) rfl
    refine⟨a,ha,?_⟩
    rcases lk with ⟨k,_⟩|⟨_,a',ha',hcell⟩
    ·rcases kx with q|q<;>(rw[k] at q;cases q)
    ·have e:=dH _ _ ha
     dsimp only at e
     rw[ha'] at e;cases e
     exact hcell.keeps hk
 ·obtain⟨v,z⟩:=I.cell x a (dH x a e)
  exact⟨v,z.keeps hk⟩
 ·have hp:p=(D,ob):=by
   have:p∈[(D,ob)]:=hp
   simpa using this
  subst hp
  refine⟨OX,I.bw.fresh hD,KP,fun z =>?_,UZ⟩
  have z:D∈eW X.stack:=z
  rcases Jr.mp (I.sW D z) with q|q
  ·exact j0 I.lt hD q
  ·exact I.LV hD q
 ·show(Jv Nc.length none++dA σ js).length=(Nc++Fc).length
  unfold dA
  rw[Jw,Jw,Uu,Jd,c.lens]
end
def JI (X:Cx)(ifs:List Expr)(t:TT):Prop:=
 ∀ ⦃pins:List (Addr×Obj)⦄ (s:Shared) (σ:St) (H:Hp) (Q:Bool->Hp->Prop),Inv X pins σ H s->t σ H Q->wpAny (model X.prog X.w) X.A (rB ifs X.env) (TP X pins σ Q) X.xe s
def PN:TT:=fun _ H Q=>Q true H
theorem fC {X:Cx}:JI X [] PN:=fun _ _ _ H _ I h=>wpAny_tests_nil ⟨H,I,h⟩
theorem F0 {X:Cx}{c:Expr}{t:TT}(h:PT X c t):JI X [c] t:=fun pins s σ H Q I hw=>wpAny_tests_one (h s σ H Q I hw)
def CM (J:It)(n:Nat)(js:List Nat)(g:TG)(tc:TT)(te:TE)(σ:St)(H1:Hp)(fin:List V->Hp->Prop):Prop:=
 ∃W:Nat->Nat->List V->Hp->Prop,(∃m,W 0 m [] H1)/\∀i m ys H,W i m ys H ->
  (J.stop i H/\fin ys H) ∨
  (J.go i H/\ys.length<sizeLine/\∀x H',J.yld i H x H'->g x (Jv n none++dA σ js) H' fun σ2 H2=>tc σ2 H2 fun b H3=>
   if b=true then te σ2 H3 fun y H4=>∃m',m'<m/\W (i+1) m' (ys++[y]) H4 else ∃m',m'<m/\W (i+1) m' ys H3)
def GZ (wi:TI)(n:Nat)(js:List Nat)(g:TG)(tc:TT)(te:TE):TE:=fun σ H Q=>wi σ H fun J H1=>
 CM J n js g tc te σ H1 fun ys H2=>∀p,H2 p=none->Q (.ref p) (upd H2 p (.lst ys))
def Gk (n:Nat)(g:TG):Prop:=∀x σ H Q,g x σ H Q->g x σ H fun σ' H'=>Q σ' H'/\(∀j,n<=j -> σ'[j]? = σ[j]?) /\ σ'.length = σ.length
def OU (n:Nat)(g:zU):Prop:=∀x σ H Q,g x σ H Q->g x σ H fun σ' H'=>Q σ' H'/\(∀j,n<=j -> σ'[j]? = σ[j]?) /\ σ'.length = σ.length
theorem cP {n i:Nat}(h:i<n:=by decide):Gk n (pY i):=fun x σ H Q q=>⟨q,fun j hj=>U7 (by omega),Y7⟩
theorem rz {n:Nat}:OU n HY:=fun x σ H Q q=>⟨q.1,q.2,fun _ _=>rfl,rfl⟩
theorem fQ {n:Nat}{t:TG}{u:zU}(h1:Gk n t)(h2:OU n u)(mt:∀x σ H Q Q',(∀a b,Q a b->Q' a b)->t x σ H Q->t x σ H Q')(mu:∀x σ H Q Q',(∀a b,Q a b->Q' a b)->u x σ H Q->u x σ H Q'):OU n (DH t u):=fun x σ H Q q=>by
 obtain⟨v,r,e,q⟩:=q
 refine⟨v,r,e,mt _ _ _ _ _ (fun σ1 H1 z =>?_) (h1 _ _ _ _ q)⟩
 refine ai.el (z) _ ?_
 rintro z k1 l1
 exact mu _ _ _ _ _ (fun σ2 H2 ⟨z2,k2,l2⟩=>⟨z2,fun j hj=>(k2 j hj).trans (k1 j hj),l2.trans l1⟩) (h2 _ _ _ _ z)
theorem wo {K:Ja}{n m:Nat}{t:zU}(h:OU n t):Gk n (HE K m t):=fun x σ H Q q=>by
 obtain⟨a,xs,e,h1,h2,q⟩:=q
 exact⟨a,xs,e,h1,h2,h _ _ _ _ q⟩
theorem qG {X:Cx}{elt tg iter:Expr}{ifs:List Expr}{scope:Scope}{pos:Pos}{Nc Fc:List Str}{js:List Nat}{wi:TI}{g:TG}{tc:TT}{te:TE}{use:Option (Value->Sem Unit)}{QV:Value->Shared->Prop}
  (hU:X.calm=true) (c:gC X scope Nc Fc js) (hi:PI X tg iter wi)
  (hg:∀cl C s H fp,PG (pf X Nc Fc scope cl C s H fp) tg g) (Fi:∀cl C s H fp,JI (pf X Nc Fc scope cl C s H fp) ifs tc) (Fp:∀cl C s H fp,PE (pf X Nc Fc scope cl C s H fp) elt te) (gk:Gk Nc.length g)
  {pins:List (Addr×Obj)} {s:Shared} {σ:St} {H:Hp} {fin:List V->Hp->Prop} (I:Inv X pins σ H s)
  (h:wi σ H fun J H1=>CM J Nc.length js g tc te σ H1 fin)
  (behind:∀(C D:Addr) (m:Str->Option Value) (ys:List V) (H2:Hp) (s2:Shared),Inv X pins σ (upd H2 D (.lst ys)) s2->s2.heap.Ns C m->dU X pins (upd H2 D (.lst ys)) C->H2 D=none->fin ys H2->compPost (model X.prog X.w) X.A X.xe use QV (.ref D) C (.ok .next) s2)
  (hs:∀x,foldedSetIterable iter X.env x=pure x) :
  wpAny (model X.prog X.w) X.A (comprehension (.ListComp elt [⟨tg,iter,ifs,0⟩] scope pos) scope X.env (firstIterPos [⟨tg,iter,ifs,0⟩] pos) (newList []) false (eval iter X.env) use) QV X.xe s:=by
 obtain⟨cl,hclos,dH,kJ⟩:=ow (scope:=scope) (env:=X.env) fun y hy hf=>I.ok.has y.1 (c.free y hy hf)
 refine wpAny_comprehension_free (use:=use) rfl hs hclos c.kind c.names ?_
 refine bz (hi s σ H _ I h) fun v s1 h1=>bz h1 fun Oq s2 h2 =>?_
 obtain⟨it,fp,tn,J,H2,e,I2,T,iO,f2,W,⟨m0,w0⟩,turn⟩:=h2
 subst e
 refine wpAny_newObj_type (wpAny_newFunctionEnv c.nocell (by intro y hy;simp at hy) (fun h1 hns1 hsb1 =>?_) c.kind)
 dsimp only at hns1 hsb1 ⊢
 generalize hG:s2.heap.push { cls := .type "list",dict:=none,data := .seq ([]:List Value).toArray } = G at hns1 hsb1 ⊢
 have hC:G.objs.size=s2.heap.objs.size+1:=by rw[<-hG,Ug]
 have KP:s2.heap.objs.size≠G.objs.size:=by rw[hC];exact Jl (Nat.lt_succ_self _)
 have hle:s2.heap.objs.size<=G.objs.size:=by rw[hC];exact Yt _
 have old:∀b o,s2.heap.get? b=some o->h1.get? b=some o:=fun b o e=>
  hsb1.extBut b o (bV (Jf e) hle) (Jb _ (hG▸Jb _ e))
 have fO:h1.PlainList s2.heap.objs.size #[]:=⟨_,hsb1.extBut _ _ KP (Jb _ (hG▸Jj _ rfl))⟩
 obtain⟨n0,fO⟩:=fO
 have fo:∀b∈fp,∃o,s2.heap.get? b=some o:=fun b hb=>let ⟨o,e,_⟩:=T.obj 0 _ iO b hb; ⟨o,e⟩
 have we:∀b∈fp,b<s2.heap.objs.size:=fun b hb=>let ⟨o,e⟩:=fo b hb;Jf e
 let Xc:Cx:=pf X Nc Fc scope cl G.objs.size s2 H2 fp
 let D:Addr:=s2.heap.objs.size
 have nM:∀{pl:List (Addr×Obj)} {H':Hp},(∀p∈pl,p.1=D)->(∀b∈fp,H' b=none)->∀b∈fp,dU Xc pl H' b:=fun{pl H'} hp hn b hb=>by
  refine⟨hn b hb,?_,?_,.inl hb,fun x a e =>?_,fun p hq =>?_⟩
  ·exact bV (we b hb) hle
  ·exact(rE I2 c dH kJ hle f2 fo).exfs b hb
  ·exact(f2 b hb).2.2.2.2.1 x a (dH _ _ e)
  ·have q:p∈([]:List (Addr×Obj))++pl:=hq
   rw[hp p (by simpa using q)]
   exact j0 (we b hb) (Je _)
 have loop:∀t1,codeAny (model X.prog X.w) X.A (.compLoop (.ListComp elt [⟨tg,iter,ifs,0⟩] scope pos) 0 (.ref it) (.ref s2.heap.objs.size) (compEnvC scope cl G.objs.size X.env))
   (compPost (model X.prog X.w) X.A X.xe use QV (.ref s2.heap.objs.size) G.objs.size) { s2 with heap:=h1,toks:=t1 }:=by
  intro t1
  refine wm (fun n s'=>∃i ys H' aq k,Inv Xc [(D,{ cls := .type "list",data := .seq aq k })] (Jv Nc.length none++dA σ js) H' s'/\Vals ys aq.toList/\ys.length<=sizeLine/\tn i s'.heap/\(∀b∈fp,H' b=none)/\W i n ys H') ?_ m0
   ⟨0,[],H2,#[],n0,Ef I2 c dH kJ hle (Je _) KP f2 fo old hns1 fO (fun _ z=>nomatch z),.nil,Uz _,T.keep _ _ _ iO (fun b hb o e=>old b o e),fun b hb=>(f2 b hb).1,w0⟩
  intro n s3
  refine ai.go ?_
  rintro i ys H3 aq k I3 rv hz dw fr3 w3
  have Ch:∀p∈[(D,({ cls := .type "list",data := .seq aq k }:Obj))],p.1=D:=fun p hp=>congrArg Prod.fst (J0.mp hp)
  rcases turn i n ys H3 w3 with ⟨stop,qn⟩|⟨go,iA,step⟩
  ·refine bz (T.done Xc rfl rfl rfl hU i _ s3 _ H3 sX I3 (nM Ch fr3) dw stop) fun r s4 hz_ =>?_
   refine ai.el hz_ _ ?_
   clear hz_
   rintro hr I4
   subst hr
   show compPost _ _ _ _ _ _ _ _ _
   obtain⟨hDo,JC,hDne,hDfs,_⟩:=I4.pin (D,_) (Jx _ Js)
   have Rq:D≠G.objs.size:=KP
   refine ai.el (I4.loc) _ ?_
   rintro mC hmC _
   have RH:H3 G.objs.size=none:=I4.free
   have Xh:∀b o,s2.heap.get? b=some o->b≠D:=fun b o e=>Jl (Jf e)
   have u:Un (eW X.stack) fp H2 H3 s2.heap s4.heap:=I4.base
   have ID:H2 D=none:=I2.bw.fresh (Je _)
   have u':Un (eW X.stack) fp H2 (upd H3 D (.lst ys)) s2.heap s4.heap:=
    ⟨u.keep,u.slot,fun b o e n hx=>by rw[aj (Xh b o e)];exact u.free b o e n hx,u.there,
      fun b xs e=>by rw[aj (aw e ID)];exact u.iq b xs e,fun b o xs e=>by rw[aj (aw e ID)];exact u.gV b o xs e,
      fun b ps e=>by rw[aj (aw e ID)];exact u.iY b ps e⟩
   have v7:gO X.prog X.w (upd H3 D (.lst ys)) s4.heap:=I4.bw.adopt JC ⟨hz,aq.toList,k,rv,by simpa using hDo⟩
   have yw:∀b∈fp,(b∈X.ex∨X.s₀.heap.objs.size<=b)/\b≠X.env.locals/\(∀x c,X.env.cells.lookup x=some c->c≠b)/\∀p∈X.pn++pins,p.1≠b:=fun b hb=>
    ⟨(f2 b hb).2.2.2.1,(f2 b hb).2.1,(f2 b hb).2.2.2.2.1,(f2 b hb).2.2.2.2.2⟩
   have Sl:s4.os=s2.os:=I4.os
   have J4:Inv X pins σ (upd H3 D (.lst ys)) s4:=I2.DN (H':=upd H3 D (.lst ys)) Sl u' v7 I4.bare yw
   refine behind G.objs.size D mC ys H3 s4 J4 hmC (I2.eA hle ?_) JC qn
   rw[aj (Ne.symm Rq)]
   exact RH
  ·refine bz (T.item Xc rfl rfl rfl hU i _ s3 _ H3 sX I3 (nM Ch fr3) dw go) fun r s4 hz_ =>?_
   refine ai.el hz_ _ ?_
   clear hz_
   rintro u hr h4
   subst hr
   show wpAny _ _ (letOwnedTupleGo tg (.ref it) u) _ _ _
   refine bz h4 fun _ s5 hz_ =>?_
   refine ai.el hz_ _ ?_
   clear hz_
   rintro x H5 I5 r5 y5 cj fr5
   have LA:=I5.pinned (nM Ch fr5) (T.obj _ _ cj)
   refine bz (hg cl G.objs.size s2 H2 fp s5 _ H5 x u _ LA r5 (gk _ _ _ _ (step x H5 y5))) fun _ s6 hz_ =>?_
   refine ai.el hz_ _ ?_
   clear hz_
   rintro σ6 H6 I6 q6 kσ kl
   refine bz (Fi cl G.objs.size s2 H2 fp s6 σ6 H6 _ I6 q6) fun b s7 hz_ =>?_
   refine ai.el hz_ _ ?_
   clear hz_
   rintro H7 I7 q7
   have later:∀{σ':St} {H':Hp} {s':Shared},Inv Xc ([(D,({ cls := .type "list",data := .seq aq k }:Obj))]++fP fp s5.heap) σ' H' s'->tn (i+1) s'.heap/\∀b∈fp,H' b=none:=fun{σ' H' s'} Iz=>by
    refine⟨T.keep _ _ _ cj fun b hb o e=>(Iz.pin (b,o) (Jx _ (Jx _ (dG hb e)))).1,fun b hb =>?_⟩
    refine ai.el (T.obj _ _ cj b hb) _ ?_
    rintro o e d
    exact(Iz.pin (b,o) (Jx _ (Jx _ (dG hb e)))).2.1
   have back:∀{pl:List (Addr×Obj)} {H':Hp} {s':Shared},Inv Xc pl σ6 H' s'->Inv Xc pl (Jv Nc.length none++dA σ js) H' s':=fun{pl H' s'} Iz=>by
    refine Iz.weak (by rw[<-kl]) fun j v hj =>?_
    by_cases hn:j<Nc.length
    ·rw[Yb (by simpa using hn),Yx] at hj
     split at hj<;>cases hj
    ·rw[kσ j (by omega)];exact hj
   cases b with
   | false=>
    rw[if_neg Jm] at q7 ⊢
    refine ai.el (q7) _ ?_
    rintro m' FN w7
    obtain⟨l1,l2⟩:=later I7
    exact⟨m',FN,i+1,ys,H7,aq,k,back I7.eZ,rv,hz,l1,l2,w7⟩
   | true=>
    rw[if_pos rfl] at q7 ⊢
    refine bz (Fp cl G.objs.size s2 H2 fp s7 σ6 H7 _ I7 q7) fun yv s8 hz_ =>?_
    refine ai.el hz_ _ ?_
    clear hz_
    rintro y H8 I8 r8 q8
    refine ai.el (q8) _ ?_
    rintro m' FN w8
    obtain⟨hDo,JC,hDne,hDfs,_⟩:=I8.pin (D,_) (Jx _ (Yj _ Js))
    obtain⟨l1,l2⟩:=later I8
    have hits:aq.size=ys.length:=by
     have e1:=rv.length
     simp -iota only [Um] at e1
     omega
    refine wpAny_list_append_plain (hsz:=by omega) ⟨k,hDo⟩ fun h9 Pa hs9 =>?_
    obtain⟨k9,hD9⟩:=Pa
    have P9:∀p∈fP fp s5.heap,p.1≠D:=fun p hp=>by
     obtain⟨hb,_⟩:=qB hp
     exact bV (we _ hb) (Je _)
    have VF:Inv Xc (fP fp s5.heap) σ6 H8 s8:=I8.mw fun p hp=>I8.pin p (Jx _ (Jx _ hp))
    have I9:Inv Xc (fP fp s5.heap) σ6 H8 { s8 with heap:=h9,toks:=s8.toks }:=VF.turned (it:=D) (fun b o hb e=>hs9.extBut b o hb e) JC KP (.inr (Je _))
     (fun x a e z=>by
      obtain⟨v,q⟩:=I2.cell x a (dH _ _ e)
      exact bV q.lt (Je _) z) (fun p hp=>P9 p (by
       have hp:p∈([]:List (Addr×Obj))++fP fp s5.heap:=hp
       simpa using hp))
    obtain⟨jS,fr9⟩:tn (i+1) h9/\∀b∈fp,H8 b=none:=by
     refine⟨T.keep _ _ _ l1 fun b hb o e=>hs9.extBut b o ?_ e,l2⟩
     exact bV (we _ hb) (Je _)
    refine⟨m',FN,i+1,ys++[y],H8,aq.push yv,k9,back (I9.mw fun p hp =>?_),?_,?_,jS,fr9,w8⟩
    ·cases J0.mp hp
     exact⟨hD9,JC,hDne,hDfs,fun _ z=>nomatch z⟩
    ·rw[Array.toList_push]
     exact rv.append (.cons r8 .nil)
    ·rw[Jw,List.length_singleton];omega
 exact codeAny_compStart_list (loop _) (T.self _ 0 _ _ _ (T.keep _ _ _ iO fun b hb o e=>old b o e) (loop _))
theorem gc {X:Cx}{elt tg iter:Expr}{ifs:List Expr}{scope:Scope}{pos:Pos}{Nc Fc:List Str}{js:List Nat}{wi:TI}{g:TG}{tc:TT}{te:TE}
  (hU:X.calm=true) (c:gC X scope Nc Fc js) (hi:PI X tg iter wi) (gk:Gk Nc.length g)
  (hg:∀cl C s H fp,PG (pf X Nc Fc scope cl C s H fp) tg g) (Fi:∀cl C s H fp,JI (pf X Nc Fc scope cl C s H fp) ifs tc) (Fp:∀cl C s H fp,PE (pf X Nc Fc scope cl C s H fp) elt te)
  (hs:∀x,foldedSetIterable iter X.env x=pure x:=by intro _;rfl) :
  PE X (.ListComp elt [⟨tg,iter,ifs,0⟩] scope pos) (GZ wi Nc.length js g tc te):=by
 intro pins s σ H Q I h
 rw[eval_ListComp]
 refine qG (use:=none) hU c hi hg Fi Fp gk I h (fun C D m ys H2 s2 I2 hm hC hD q =>?_) hs
 refine⟨m,hm,fun h' hs' =>?_⟩
 refine⟨.ref D,_,I2.turned (it:=C) (t':=s2.toks) (fun b o hb e=>hs'.extBut b o hb e) hC.1 (hC.2.1) hC.2.2.2.1 hC.2.2.2.2.1 hC.2.2.2.2.2,rfl,q D hD⟩
theorem mU {X:Cx}{i:Nat}{y:Str}{elt tg iter:Expr}{ifs:List Expr}{scope:Scope}{pos pos' py:Pos}{Nc Fc:List Str}{js:List Nat}{wi:TI}{g:TG}{tc:TT}{te:TE}(hN:X.N.Nodup)(hy:X.N[i]? = some y)(hl:Loc X.env.scope y)
  (hU:X.calm=true) (c:gC X scope Nc Fc js) (hi:PI X tg iter wi) (gk:Gk Nc.length g)
  (hg:∀cl C s H fp,PG (pf X Nc Fc scope cl C s H fp) tg g) (Fi:∀cl C s H fp,JI (pf X Nc Fc scope cl C s H fp) ifs tc) (Fp:∀cl C s H fp,PE (pf X Nc Fc scope cl C s H fp) elt te)
  (Wz:swapsWith (.ListComp elt [⟨tg,iter,ifs,0⟩] scope pos) (some (.Name y py)) pos'.line X.env=pure true:=by rfl)
  (hs:∀x,foldedSetIterable iter X.env x=pure x:=by intro _;rfl)
  (hf:X.fn y=true∨X.env.scope.names.lookup y=some .local:=by first|exact .inl rfl|exact .inr rfl|assumption) :
  PS X (.Assign [.Name y py] (.ListComp elt [⟨tg,iter,ifs,0⟩] scope pos) pos') (E5 (GZ wi Nc.length js g tc te) (pY i)):=by
 intro pins s σ H E I h
 rw[exec_Assign_Name_used _ _ _ _ Wz]
 refine wpAny_bind (wpAny_standAt (wpAny_bind ?_))
 show wpAny _ X.A (do let _ <-comprehension (.ListComp elt [⟨tg,iter,ifs,0⟩] scope pos) scope X.env _ (newList []) false (eval iter X.env) (some (assign (.Name y py) X.env))) _ _ s
 refine wpAny_bind (bz (qG (use:=some (assign (.Name y py) X.env)) (QV:=fun _ s'=>SP X pins E .next s') hU c hi hg Fi Fp gk I h (fun C D m ys H2 s2 I2 hm hC hD q =>?_) hs) fun _ s' hq=>wpAny_pure (wpAny_pure hq))
 show wpAny _ _ (assign (.Name y py) X.env (.ref D)) _ _ s2
 refine wpAny_assign_Name (qf I2 hN hy hl (v := .ref D) rfl (fun s3 I3 ⟨a,hsa,ha⟩=>?_) hf)
 have Ha:C≠a:=by
  rcases ha with e|e
  ·rw[e];exact hC.2.1
  ·exact fun z=>hC.2.2.2.2.1 _ _ e z.symm
 refine⟨m,hm.at' fun o e=>hsa.extBut _ o Ha e,fun h' hs' =>?_⟩
 exact⟨_,_,I3.turned (it:=C) (t':=s3.toks) (fun b o hb e=>hs'.extBut b o hb e) hC.1 hC.2.1 hC.2.2.2.1 hC.2.2.2.2.1 hC.2.2.2.2.2,q D hD⟩
section
variable {X:Cx}{pins:List (Addr×Obj)}{σ:St}{H:Hp}{s:Shared}{p:Addr}{ys:List V}
theorem qj {A:Around}(hh:A.handled=none)(I:Inv X pins σ H s)(hq:bq X.K H p ys){R:Value->Shared->Prop}{E:Value->Shared->Prop}
  (h:∀(aq:List Value) (it:Addr) (s2:Shared),Vals ys aq->aq.length<=sizeLine ->
   Walks X.prog X.w A it [it,p] [it] aq.toArray.size (fun i v=>aq.toArray[i]? = some v) (fun i h=>h.IsListIter it p i/\h.IsList p aq.toArray)->(s2.heap.IsListIter it p 0/\s2.heap.IsList p aq.toArray)->(∀b∈[it,p],b<s2.heap.objs.size) ->
   (∀h' tk,(∀b o,b∉[it]->s2.heap.get? b=some o->h'.get? b=some o)->Inv X pins σ H { s2 with heap:=h',toks:=tk })->R (.ref it) s2) :
  wpAny (model X.prog X.w) A (pyIter (.ref p)) R E s:=by
 obtain⟨aq,rv,pl,hz⟩:=I.list hq
 have hl:=pl.isList
 have hp:p<s.heap.objs.size:=by obtain⟨o,e,_⟩:=hl;exact Jf e
 refine wpAny_pyIter_list hl ?_
 refine h aq s.heap.objs.size _ rv (by have:=rv.length;omega) (Walks.list hh _ p (Jl hp) aq.toArray) ⟨⟨_,Jj _ rfl,rfl,rfl⟩,hl.push _⟩ (fun b hb =>?_) fun h' tk hk =>?_
 ·show b<(s.heap.push _).objs.size
  rw[Ug]
  rcases Jr.mp hb with rfl|hb
  ·exact Nat.lt_succ_self _
  ·rw[J0.mp hb];exact Nat.lt_succ_of_lt hp
 ·exact I.kept (t':=tk) fun b o e=>hk b o (fun z=>bV (Jf e) (Je _) (J0.mp z)) (Jb _ e)
theorem kn {ys:List V}{aq:List Value}(r:Vals ys aq){i:Nat}{v:Value}(e:aq.toArray[i]? = some v):∃y,ys[i]? = some y/\RelV y v:=by
 have e':aq[i]? = some v:=by simpa using e
 have hi:i<aq.length:=(Jq.mp e').1
 have hl:=r.length
 obtain⟨u,h1,h2⟩:=r.get (i:=i) (x:=ys[i]'(by omega)) (by simp)
 rw[e'] at h1;cases h1
 exact⟨_,by simp,h2⟩
theorem zm (bs:List Bool):(Yd bs.length).all (fun i=>bs.getD i false)=bs.all id:=by
 induction bs with
 | nil=>rfl
 | cons b r ih=>
  rw[Jt,List.range_succ_eq_map,List.all_cons,List.all_map,List.all_cons,<-ih]
  rfl
theorem y6 (bs:List Bool):(Yd bs.length).any (fun i=>bs.getD i false)=bs.any id:=by
 induction bs with
 | nil=>rfl
 | cons b r ih=>
  rw[Jt,List.range_succ_eq_map,Y5,List.any_map,Y5,<-ih]
  rfl
theorem uu {A:Around}{bs:List Bool}{aq:List Value}(r:Vals (bs.map V.bl) aq):TruthOf X.prog X.w A (fun i v=>aq.toArray[i]? = some v) (fun i=>bs.getD i false):=by
 intro i v s Q E e hQ
 obtain⟨y,h1,h2⟩:=kn r e
 rw[Jk] at h1
 cases q:bs[i]? with
 | none=>rw[q] at h1;cases h1
 | some b=>
  rw[q] at h1;cases h1
  cases h2
  have:bs.getD i false=b:=by simp[List.getD,q]
  have hQ:Q (bs.getD i false) s:=hQ
  rw[this] at hQ
  exact wpAny_pure hQ
theorem uM (hc:X.calm=true):bB X (.builtin "all") (fun xs H Q=>∃(p:Addr) (bs:List Bool),xs=[.ref p]/\bq X.K H p (bs.map V.bl)/\Q (.bl (bs.all id)) H):=by
 intro pins s σ H xs us Q I r h
 obtain⟨p,bs,rfl,hq,q⟩:=h
 obtain⟨u,rfl,ru⟩:=vals1 r
 cases ru
 refine call_all_walk (qj (A:=X.A.in1) (I.ok.hd hc) I hq fun aq it s2 rv hz W st iA hI =>?_)
 refine⟨it,_,_,_,_,_,fun i=>bs.getD i false,rfl,W,st,uu rv,fun h' tk hk =>?_⟩
 have hl:aq.toArray.size=bs.length:=by have:=rv.length;simp at this ⊢;omega
 rw[hl,zm]
 exact⟨.bl _,H,hI h' tk hk,rfl,q⟩
theorem u9 (hc:X.calm=true):bB X (.builtin "any") (fun xs H Q=>∃(p:Addr) (bs:List Bool),xs=[.ref p]/\bq X.K H p (bs.map V.bl)/\Q (.bl (bs.any id)) H):=by
 intro pins s σ H xs us Q I r h
 obtain⟨p,bs,rfl,hq,q⟩:=h
 obtain⟨u,rfl,ru⟩:=vals1 r
 cases ru
 refine call_any_walk (qj (A:=X.A.in1) (I.ok.hd hc) I hq fun aq it s2 rv hz W st iA hI =>?_)
 refine⟨it,_,_,_,_,_,fun i=>bs.getD i false,rfl,W,st,uu rv,fun h' tk hk =>?_⟩
 have hl:aq.toArray.size=bs.length:=by have:=rv.length;simp at this ⊢;omega
 rw[hl,y6]
 exact⟨.bl _,H,hI h' tk hk,rfl,q⟩
theorem M1 (K:Ja)(hc:X.calm=true)(hK:X.K=K:=by rfl):bB X (.builtin "all") (fun xs H Q=>∃(p:Addr) (bs:List Bool),xs=[.ref p]/\bq K H p (bs.map V.bl)/\Q (.bl (bs.all id)) H):=by subst hK;exact uM hc
theorem Ri (K:Ja)(hc:X.calm=true)(hK:X.K=K:=by rfl):bB X (.builtin "any") (fun xs H Q=>∃(p:Addr) (bs:List Bool),xs=[.ref p]/\bq K H p (bs.map V.bl)/\Q (.bl (bs.any id)) H):=by subst hK;exact u9 hc
theorem jc:D8 X "str.startswith" (fun x vs H Q=>∃a b,x = .str a/\vs=[.str b]/\Q (.bl (Txt.startswith a b)) H):=by
 intro pins s σ H x vs v us Q I rx rv h
 obtain⟨a,b,rfl,rfl,q⟩:=h
 obtain⟨t,rfl⟩:=rx
 obtain⟨u,rfl,t',rfl⟩:=rv.one
 exact SC.startswith ⟨.bl _,H,I,rfl,q⟩
theorem Au:D8 X "str.strip" (fun x vs H Q=>∃a b,x = .str a/\vs=[.str b]/\a.length<=sizeLine/\Q (.str (Txt.stripChars a b)) H):=by
 intro pins s σ H x vs v us Q I rx rv h
 obtain⟨a,b,rfl,rfl,hz,q⟩:=h
 obtain⟨t,rfl⟩:=rx
 obtain⟨u,rfl,t',rfl⟩:=rv.one
 exact SC.stripChars (fun t' k=>⟨.str _,H,I.tok _,⟨_,rfl⟩,q⟩) hz
theorem B2:∀{xs:List Str} {aq:List Value},Vals (xs.map V.str) aq->StrsAre aq xs:=by
 intro xs aq r
 induction xs generalizing aq with
 | nil=>cases r;exact StrsAre.nil
 | cons x xs ih=>
  cases r with
  | cons r1 r2=>
   obtain⟨t,rfl⟩:=r1
   exact StrsAre.cons x t (ih r2)
theorem Fz:D8 X "str.join" (fun x vs H Q=>∃(sep:Str) (p:Addr) (xs:List Str),x = .str sep/\vs=[.ref p]/\bq X.K H p (xs.map V.str)/\(xs.map (·.length)).sum+xs.length*sep.length<=16777216/\Q (.str (Txt.join sep xs)) H):=by
 intro pins s σ H x vs v us Q I rx rv h
 obtain⟨sep,p,xs,rfl,rfl,hq,hz,q⟩:=h
 obtain⟨t,rfl⟩:=rx
 obtain⟨u,rfl,ru⟩:=rv.one
 cases ru
 obtain⟨aq,r',pl,_⟩:=I.list hq
 exact join_list pl.isList (B2 r') hz fun t' k=>⟨.str _,H,I.tok _,⟨_,rfl⟩,q⟩
end
mutual
def Den (K:Ja)(H:Hp):PyData->V->Prop
 | .none,v=>v = .non
 | .bool b,v=>v = .bl b
 | .int i,v=>v = .int i
 | .str x,v=>v = .str x
 | .list ds,v=>eu fun a vs=>v = .ref a/\bq K H a vs/\aN K H ds vs
 | .tuple ds,v=>eu fun a vs=>v = .ref a/\bF K H a vs/\aN K H ds vs
 | .dict _,_=>False
def aN (K:Ja)(H:Hp):List PyData->List V->Prop
 | [],vs=>vs=[]
 | d::ds,vs=>eu fun v r=>vs=v::r/\Den K H d v/\aN K H ds r
end
theorem ar.cQ {K:Ja}{H H':Hp}{a:Addr}{xs:List V}(e:ar H H')(h:bF K H a xs):bF K H' a xs:=by
 rcases h with (h|⟨o,h⟩)|h
 ·exact .inl (.inl (e _ _ h))
 ·exact .inl (.inr ⟨o,e _ _ h⟩)
 ·exact .inr h
mutual
theorem Den.same {K:Ja}{H H':Hp}(e:ar H H'):∀{d:PyData} {v:V},Den K H d v->Den K H' d v
 | .none,_,h=>by unfold Den at h ⊢;exact h
 | .bool _,_,h=>by unfold Den at h ⊢;exact h
 | .int _,_,h=>by unfold Den at h ⊢;exact h
 | .str _,_,h=>by unfold Den at h ⊢;exact h
 | .list ds,_,h=>by
  unfold Den at h ⊢
  obtain⟨a,vs,h1,h2,h3⟩:=h
  exact⟨a,vs,h1,e.seq h2,aN.same e h3⟩
 | .tuple ds,_,h=>by
  unfold Den at h ⊢
  obtain⟨a,vs,h1,h2,h3⟩:=h
  exact⟨a,vs,h1,e.cQ h2,aN.same e h3⟩
 | .dict _,_,h=>by unfold Den at h;exact h.elim
theorem aN.same {K:Ja}{H H':Hp}(e:ar H H'):∀{ds:List PyData} {vs:List V},aN K H ds vs->aN K H' ds vs
 | [],_,h=>by unfold aN at h ⊢;exact h
 | d::ds,_,h=>by
  unfold aN at h ⊢
  obtain⟨v,r,h1,h2,h3⟩:=h
  exact⟨v,r,h1,Den.same e h2,aN.same e h3⟩
end
mutual
theorem Den.reads {X:Cx}{pins:List (Addr×Obj)}{σ:St}{H:Hp}{s:Shared}(I:Inv X pins σ H s):∀{d:PyData} {v:V} {u:Value},Den X.K H d v->RelV v u->∃as,Reads s.heap u d as
 | .none,_,_,h,r=>by unfold Den at h;subst h;cases r;exact⟨_,.none⟩
 | .bool _,_,_,h,r=>by unfold Den at h;subst h;cases r;exact⟨_,.bool _⟩
 | .int _,_,_,h,r=>by unfold Den at h;subst h;obtain⟨t,rfl⟩:=r;exact⟨_,.int _ _⟩
 | .str _,_,_,h,r=>by unfold Den at h;subst h;obtain⟨t,rfl⟩:=r;exact⟨_,.str _ _⟩
 | .list ds,_,_,h,r=>by
  unfold Den at h
  obtain⟨a,vs,rfl,h2,h3⟩:=h
  cases r
  obtain⟨aq,rv,⟨o,n,e1,e2,_,e4⟩,_⟩:=I.list h2
  obtain⟨as,q⟩:=aN.reads I h3 rv
  exact⟨_,.list e1 e2 e4 (by simpa using q)⟩
 | .tuple ds,_,_,h,r=>by
  unfold Den at h
  obtain⟨a,vs,rfl,h2,h3⟩:=h
  cases r
  obtain⟨aq,rv,⟨o,e1,e2,n,e4⟩,_⟩:=I.tuple h2
  obtain⟨as,q⟩:=aN.reads I h3 rv
  exact⟨_,.tuple e1 e2 e4 (by simpa using q)⟩
 | .dict _,_,_,h,_=>by unfold Den at h;exact h.elim
theorem aN.reads {X:Cx}{pins:List (Addr×Obj)}{σ:St}{H:Hp}{s:Shared}(I:Inv X pins σ H s):∀{ds:List PyData} {vs:List V} {us:List Value},aN X.K H ds vs->Vals vs us->∃as,ReadsAll s.heap us ds as
 | [],_,_,h,r=>by unfold aN at h;subst h;cases r;exact⟨_,.nil⟩
 | d::ds,_,_,h,r=>by
  unfold aN at h
  obtain⟨v,q,rfl,h2,h3⟩:=h
  cases r with
  | cons r1 r2=>
   obtain⟨as,q1⟩:=Den.reads I h2 r1
   obtain⟨bs,q2⟩:=aN.reads I h3 r2
   exact⟨_,.cons q1 q2⟩
end
section
variable {X:Cx}
open PySem.SeqAt in
theorem IZ (hu:X.A.units+64<cLine):eE X (compareOp .Eq) (fun x y H Q=>∃d e,Den X.K H d x/\Den X.K H e y/\shaped d=true/\shaped e=true/\Q (.bl (PyData.eqv d e)) H):=by
 intro pins s σ H x y v u Q I rx ry h
 obtain⟨d,e,hd,he,sd,se,q⟩:=h
 obtain⟨as,r1⟩:=hd.reads I rx
 obtain⟨bs,r2⟩:=he.reads I ry
 exact eq_dataH r1 r2 sd se hu ⟨.bl _,H,I,rfl,q⟩
open PySem.SeqAt in
theorem Ib (hu:X.A.units+64<cLine):eE X (compareOp .NotEq) (fun x y H Q=>∃d e,Den X.K H d x/\Den X.K H e y/\shaped d=true/\shaped e=true/\Q (.bl (!PyData.eqv d e)) H):=by
 intro pins s σ H x y v u Q I rx ry h
 obtain⟨d,e,hd,he,sd,se,q⟩:=h
 obtain⟨as,r1⟩:=hd.reads I rx
 obtain⟨bs,r2⟩:=he.reads I ry
 exact ne_dataH r1 r2 sd se hu ⟨.bl _,H,I,rfl,q⟩
theorem HX:eE X (compareOp .Is) (fun x y H Q=>∃a b,x = .bl a/\y = .bl b/\Q (.bl (decide (a=b))) H):=by
 intro pins s σ H x y v u Q I rx ry h
 obtain⟨a,b,rfl,rfl,q⟩:=h
 cases rx;cases ry
 refine wpAny_is_plain rfl (aX I q ?_)
 cases a<;>cases b<;>rfl
theorem y7:eE X (compareOp .IsNot) (fun x y H Q=>∃a b,x = .bl a/\y = .bl b/\Q (.bl (!decide (a=b))) H):=by
 intro pins s σ H x y v u Q I rx ry h
 obtain⟨a,b,rfl,rfl,q⟩:=h
 cases rx;cases ry
 refine wpAny_isNot_plain rfl (aX I q ?_)
 cases a<;>cases b<;>rfl
theorem DM:bB X (.builtin "isinstance") (fun xs H Q=>∃x T t b,xs=[x,.ty T]/\ka X.K H x t/\Ub X.K t (.type T)=some b/\Q (.bl b) H):=by
 intro pins s σ H xs us Q I r h
 obtain⟨x,T,t,b,rfl,ty,e,q⟩:=h
 obtain⟨u,w',rfl,r1,r2⟩:=vals2 r
 cases r2
 exact yU I r1 ty e fun tk=>⟨.bl b,H,I.tok _,rfl,q⟩
theorem KI:Bh X (fun x lo hi H Q=>∃z,x = .str z/\z.length<=sizeLine/\Q (.str (Txt.slice z lo hi)) H):=by
 intro pins s σ H x v vl vu lo hi sl Q I rx hs pl pu q
 obtain⟨z,rfl,hz,q⟩:=q
 obtain⟨t,rfl⟩:=rx
 refine⟨"str",_,F.slot_str_getitem.lookup,typeIs_str _ _ _,?_⟩
 have fin:∀t' k,EP X pins σ Q (.str (Txt.slice z lo hi) t') { s with toks:=k }:=fun t' k=>⟨.str _,H,I.tok _,⟨_,rfl⟩,q⟩
 cases pl with
 | none=>
  cases pu with
  | none=>exact wpAny_getItem_str_slice (l:=none) (u:=none) (st:=none) hs rfl (post_val_or_str ⟨Ji (Txt.slice_le z _ _) hz,fin⟩)
  | int j uj=>exact wpAny_getItem_str_slice (l:=none) (u:=some (j,uj)) (st:=none) hs rfl (post_val_or_str ⟨Ji (Txt.slice_le z _ _) hz,fin⟩)
 | int i ui=>
  cases pu with
  | none=>exact wpAny_getItem_str_slice (l:=some (i,ui)) (u:=none) (st:=none) hs rfl (post_val_or_str ⟨Ji (Txt.slice_le z _ _) hz,fin⟩)
  | int j uj=>exact wpAny_getItem_str_slice (l:=some (i,ui)) (u:=some (j,uj)) (st:=none) hs rfl (post_val_or_str ⟨Ji (Txt.slice_le z _ _) hz,fin⟩)
end
section
variable {X:Cx}{pins:List (Addr×Obj)}{σ:St}{H:Hp}{s:Shared}{h':Heap}
theorem Inv.iter {t':Nat}{ch:List Addr}(I:Inv X pins σ H s)(hf:∀b∈ch,dU X pins H b)(keep:∀b o,b∉ch->s.heap.get? b=some o->h'.get? b=some o):Inv X pins σ H { s with heap:=h',toks:=t' }:=by
 have He:∀b u,H b=some u->b∉ch:=fun b u e z=>by rw[(hf b z).1] at e;cases e
 refine I.step (g':=s.gens) (d':=s.drawn) (ch:=ch) (fun b hb=>⟨(hf b hb).2.2.2.1,(hf b hb).2.1,(hf b hb).2.2.2.2.1,(hf b hb).2.2.2.2.2⟩) (fun b o _ _ hc e _=>keep b o hc e) (fun b o _ _ hc e _=>⟨o.slots,keep b o hc e⟩)
  (fun _ _ _ _ n=>n) (fun b o hc e=>⟨o,keep b o hc e⟩) (fun _ _ e=>e) (fun _ _ _ e=>e) (fun b ps e=>⟨#[],by rw[e];simp⟩) (fun m hm=>hm.at' fun o e=>keep _ o (fun z=>(hf _ z).2.1 rfl) e) (fun b u e =>?_) I.bare
 refine(I.bw b u e).fu (fun c v hc q=>keep c v ?_ q) (fun _ q=>q) fun _ _ q=>q
 rcases hc with z|z
 ·rw[z];exact He b u e
 ·exact He c _ z
theorem Inv.adopt {T:Addr}{o:HO}(I:Inv X pins σ H s)(hT:dU X pins H T)(hex:X.s₀.heap.objs.size<=T)(new:bg X.prog X.w (upd H T o) s.heap T o):Inv X pins σ (upd H T o) s:=
 ⟨I.ok,I.os,I.bare,⟨I.base.keep,I.base.slot,fun b ob e n hx=>by rw[aj (bV (Jf e) hex)];exact I.base.free b ob e n hx,I.base.there,
   fun b xs e=>by rw[aj (aw (I.base.iq b xs e) hT.1)];exact I.base.iq b xs e,fun b ob xs e=>by rw[aj (aw (I.base.gV b ob xs e) hT.1)];exact I.base.gV b ob xs e,
   fun b ps e=>by
    obtain⟨m,q⟩:=I.base.iY b ps e
    exact⟨m,by rw[aj (aw q hT.1)];exact q⟩⟩,
  I.loc,I.cell,by rw[aj (Ne.symm hT.2.1)];exact I.free,fun x c e=>by rw[aj (hT.2.2.2.2.1 x c e)];exact I.freeC x c e,
  fun p hp=>by
   refine ai.el (I.pin p hp) _ ?_
   rintro a b c d f
   exact⟨a,by rw[aj (hT.2.2.2.2.2 p hp)];exact b,c,d,f⟩,I.bw.adopt hT.1 new,I.len⟩
end
theorem oh {xs:List V}{aq:List Value}{i:Nat}{x:V}(r:Vals xs aq)(e:xs[i]? = some x):∃u,aq.toArray[i]? = some u/\RelV x u:=by
 refine ai.el (r.get e) _ ?_
 rintro u h1 h2
 exact⟨u,by simpa using h1,h2⟩
noncomputable def SU (K:Ja)(a:Addr):It:=
 ⟨fun i H=>eu fun xs x=>bq K H a xs/\xs[i]? = some x,
   fun i H v H'=>∃T,v = .ref T/\H T=none/\∀xs x,bq K H a xs->xs[i]? = some x->H'=upd H T (.tup [.int i,x]),
   fun i H=>∃xs,bq K H a xs/\xs.length<=i⟩
theorem yW {P:Program}{w:World}{K:Ja}{elts:List Expr}{k:Nat}{tp:Pos}(e it l:Addr)(SM:e≠it)(hle:l≠e)(Xo:l≠it):
  Turn P w K (.Tuple elts k tp) (SU K l) [e,it] e (fun i h=>(∃old,IsEnum h e it i old)/\h.IsListIter it l i) where
 mem:=by simp
 obj:=fun i h st b hb=>by
  obtain⟨⟨_,h1⟩,⟨o4,h4,_,d4⟩⟩:=st
  simp at hb
  rcases hb with rfl|rfl
  ·exact⟨_,h1,fun _ z=>nomatch z⟩
  ·exact⟨_,h4,fun v q=>by rw[d4] at q;cases q⟩
 keep:=fun i h h' st hk=>by
  obtain⟨⟨a,h1⟩,h4⟩:=st
  exact⟨⟨a,hk e (by simp) _ h1⟩,h4.at fun o e=>hk it (by simp) o e⟩
 item:=fun X hP hw hK hc i pins s σ H E I hf st go=>by
  subst hP hw hK
  obtain⟨⟨old,he⟩,h1⟩:=st
  obtain⟨xs,x,q1,e1⟩:=go
  obtain⟨its1,r1,p1,_⟩:=I.list q1
  obtain⟨u1,g1,ru1⟩:=oh r1 e1
  refine wpAny_pyNext_enum_item he h1 p1.isList g1 SM fun h' a1 a3 a5 a6 a7=>⟨_,rfl,?_⟩
  refine wpAny_letOwnedTupleGo_enum a1 fun h'' b1 b2 =>?_
  have Rg:s.heap.objs.size≠e:=j0 (Jf he) (Je _)
  have kp:∀c o,c∉[e,it]->s.heap.get? c=some o->h''.get? c=some o:=fun c o hc z=>by
   simp only[Jr,Uk,or_false,not_or] at hc
   exact b2.extBut c o hc.1 (a7 c o hc.1 hc.2 z)
  have I1:Inv X pins σ H { s with heap:=h'',toks:=s.toks+1 }:=I.iter hf kp
  have fT:dU X pins H s.heap.objs.size:=I.eA (Je _) (I.bw.fresh (Je _))
  have oT:h''.get? s.heap.objs.size=some { cls := .type "tuple",data := .seq #[.int i s.toks,u1] }:=b2.extBut _ _ Rg a5
  have I2:=I1.adopt (T:=s.heap.objs.size) (o := .tup [.int i,x]) fT I.sz ⟨by show 2<=sizeLine;decide,[.int i s.toks,u1],.cons ⟨_,rfl⟩ (.cons ru1 .nil),⟨_,oT,rfl,rfl,_,rfl⟩⟩
  refine⟨.ref s.heap.objs.size,_,I2,rfl,⟨_,rfl,fT.1,fun xs' x' q1' e1' =>?_⟩,⟨⟨_,by
   have b1:IsEnum h'' e it ((i:Int)+1) u1:=b1
   have z:(((i+1:Nat):Int))=(i:Int)+1:=by omega
   show IsEnum h'' e it ((i+1:Nat):Int) _
   rw[z];exact b1⟩,a3.extBut b2.extBut (Ne.symm SM)⟩,fun c hc =>?_⟩
  ·rw[I.mz q1' q1] at e1'
   rw[e1] at e1';cases e1';rfl
  ·have Bl:c<s.heap.objs.size:=by
    simp at hc
    obtain⟨_,h1,_⟩:=h1
    rcases hc with rfl|rfl
    ·exact Jf he
    ·exact Jf h1
   rw[aj (bV Bl (Je _))]
   exact(hf c hc).1
 done:=fun X hP hw hK hc i pins s σ H E I hf st stop=>by
  subst hP hw hK
  obtain⟨⟨old,he⟩,h1⟩:=st
  obtain⟨xs,q1,e⟩:=stop
  obtain⟨its1,r1,p1,_⟩:=I.list q1
  have Wv:=r1.length
  refine wpAny_pyNext_enum_end (I.ok.hd hc) he h1 p1.isList (by simp;omega) fun h' kp=>⟨rfl,?_⟩
  refine I.iter (ch:=[it]) (t':=s.toks) (fun c hc=>hf c (by simp at hc ⊢;simp[hc])) fun c o hc z=>kp c o (fun q=>hc (by simp[q])) z
 self:=fun A i s Q E st hQ=>by
  obtain⟨⟨old,he⟩,_⟩:=st
  exact wpAny_pyIter_enum he hQ
section
variable {X:Cx}
def NZ (K:Ja)(ta:TA):TI:=fun σ H R=>ta σ H fun vs H1=>∃a,vs=[.ref a]/\(∃xs,bq K H1 a xs)/\R (SU K a) H1
theorem Ft {elts:List Expr}{k:Nat}{tp:Pos}{a:Expr}{ta:TA}{p pos:Pos}(hg:Gl X "enumerate")(hm:X.mg "enumerate" = none)(ha:PA X [a] ta)(hb:bootBuiltins "enumerate" = some (.type "enumerate"):=by first|rfl|decide)(hs:starEach [a] X.env=[(false,eval a X.env)]:=by rfl):
  PI X (.Tuple elts k tp) (.Call (.Name "enumerate" p) [a] [] pos) (NZ X.K ta):=by
 intro pins s σ H R I h
 refine Call_ (dF I hg hm hb (PyProof.Rows.callWith_type1 (bz (ha s σ H _ I h) fun us s1 hz_=>ai.el hz_ _ fun vs H1 I1 r1 q1 =>?_) hs rfl))
 obtain⟨l1,e,⟨xs,q1⟩,q⟩:=q1
 subst e
 obtain⟨u,rfl,ru⟩:=vals1 r1
 cases ru
 obtain⟨its1,rv1,p1,_⟩:=I1.list q1
 have a1:l1<s1.heap.objs.size:=by obtain⟨_,e,_⟩:=p1.isList;exact Jf e
 refine call_enumerate_list p1.isList (fun h' he hi1 hsz hk =>?_)
 refine wpAny_pyIter_enum he ?_
 have I2:Inv X pins σ H1 { s1 with heap:=h' }:=I1.kept (t':=s1.toks) hk
 refine⟨_,_,_,_,H1,rfl,I2,yW _ _ _ (Nat.succ_ne_self _) (Jl (Nat.lt_succ_of_lt a1)) (Jl a1),⟨⟨_,he⟩,hi1⟩,fun c hc =>?_,q⟩
 have Bl:s1.heap.objs.size<=c:=by
  simp at hc
  rcases hc with rfl|rfl
  ·exact Uq _ _
  ·exact Je _
 exact I1.eA Bl (I1.bw.fresh Bl)
end
section
variable {X:Cx}
def Nv:R2:=fun x y H Q=>(eu fun i j=>x = .int i/\y = .int j/\Q (.int (i+j)) H)∨(∃i j,x = .str i/\y = .str j/\i.length+j.length<=sizeLine/\Q (.str (i++j)) H)∨Lk x y H Q
theorem Lq:eE X (binaryOp .Add) Nv:=Hm.or (wF.or HQ)
def Md:R2:=fun x y H Q=>(eu fun i j=>x = .int i/\y = .int j/\wQ i j/\Q (.int (i*j)) H)∨MK x y H Q
theorem NN:eE X (binaryOp .Mult) Md:=Hr.or Ki
structure Fn (P:Program)(w:World)(K:Ja)(mg:Str->Option Value)(base:Heap)(k:Nat)(x:Str)(ps:List Str)(sp:Sp):Prop where
 ex:∃f fd,bh P w K mg base fw k f fd ps sp/\Binds K fd ps []/\Ur K (.ref f)=true/\mg x=some (.ref f)
theorem Fn.mono {P:Program}{w:World}{K:Ja}{mg:Str->Option Value}{base:Heap}{j k:Nat}{x:Str}{ps:List Str}{sp:Sp}(F:Fn P w K mg base j x ps sp)(h:j<=k):Fn P w K mg base k x ps sp:=by
 refine ai.el (F.ex) _ ?_
 rintro f fd a b c d
 exact⟨f,fd,a.mono h,b,c,d⟩
theorem aG {k:Nat}{x:Str}{ps:List Str}{sp:Sp}{p pos:Pos}{e:Expr}{es:List Expr}{t:TA}(F:Fn X.prog X.w X.K X.mg X.base k x ps sp)(hr:cG k X.A)(hg:Gl X x)
  (ha:PA X (e::es) t) (nP:(x==("__debug__" : Str))=false:=by decide) (he:starEach (e::es) X.env=(false,eval e X.env)::starEach es X.env:=by rfl) (pJ:(backTo pos (starEach es X.env)).any (·.1)=false:=by rfl) :
  PE X (.Call (.Name x p) (e::es) [] pos) (tN sp [] E0 t):=by
 refine ai.el (F.ex) _ ?_
 rintro f fd a b c d
 exact ym a hr hg d c b .nil Hh ha nP he pJ
end
noncomputable def x8 (pn sn:List (Str×NameKind))(N Fc:List Str)(js:List Nat):Bool:=
 sn.all (fun y=>y.2 != .cell)&&sn.all (fun y=>y.2 != .local||sn.lookup y.1==some .local)&&sn.all (fun y=>y.2 != .free||pn.lookup y.1==some .cell||pn.lookup y.1==some .free)&&js.length==Fc.length &&
 (Yd Fc.length).all fun k=>match Fc[k]?,js[k]? with
  | some x,some j=>sn.lookup x==some .free&&N[j]? == some x
  | _,_=>false
theorem eO {X:Cx}{scope:Scope}{Nc Fc:List Str}{js:List Nat}(hk:scope.kind = .function:=by rfl)(h:x8 X.env.scope.names scope.names X.N Fc js=true:=by rfl):gC X scope Nc Fc js:=by
 unfold x8 at h
 simp -iota only [Ju,Wc,Bool.or_eq_true,bne_iff_ne,beq_iff_eq,ne_eq] at h
 obtain⟨⟨⟨⟨h1,h2⟩,h3⟩,h4⟩,h5⟩:=h
 refine⟨hk,h1,fun y hy hl=>(h2 y hy).resolve_left (fun z=>z hl),fun y hy hf =>?_,fun k x hx =>?_,h4⟩
 ·rcases h3 y hy with (z|z)|z
  ·exact absurd hf z
  ·exact .inl z
  ·exact .inr z
 ·have WW:k<Fc.length:=(Jq.mp hx).1
  have q:=h5 k (List.mem_range.mpr WW)
  have hj:k<js.length:=by omega
  rw[hx,Jc hj] at q
  simp only[Ju,beq_iff_eq] at q
  exact⟨q.1,_,Jc hj,q.2⟩
section
variable {X:Cx}
theorem R7 (hu:X.A.units+64<cLine):eE X (compareOp .Eq) (fun x y H Q=>Ss x y H Q∨(∃d e,Den X.K H d x/\Den X.K H e y/\SeqAt.shaped d=true/\SeqAt.shaped e=true/\Q (.bl (PyData.eqv d e)) H)):=M4.or (IZ hu)
theorem Rz (hu:X.A.units+64<cLine):eE X (compareOp .NotEq) (fun x y H Q=>RK x y H Q∨(∃d e,Den X.K H d x/\Den X.K H e y/\SeqAt.shaped d=true/\SeqAt.shaped e=true/\Q (.bl (!PyData.eqv d e)) H)):=Lj.or (Ib hu)
theorem Dh:eE X (compareOp .Is) (fun x y H Q=>(y = .non/\Q (.bl (decide (x = .non))) H)∨(∃a b,x = .bl a/\y = .bl b/\Q (.bl (decide (a=b))) H)):=Ku.or HX
theorem yJ:eE X (compareOp .IsNot) (fun x y H Q=>(y = .non/\Q (.bl (!decide (x = .non))) H)∨(∃a b,x = .bl a/\y = .bl b/\Q (.bl (!decide (a=b))) H)):=GG.or y7
theorem Mu:Bh X (fun x lo hi H Q=>Iu X.K x lo hi H Q∨(∃z,x = .str z/\z.length<=sizeLine/\Q (.str (Txt.slice z lo hi)) H)):=Ec.or KI
structure Nm (mg:Str->Option Value):Prop where
 n_len:mg "len" = none
 n_range:mg "range" = none
 n_max:mg "max" = none
 n_min:mg "min" = none
 n_sum:mg "sum" = none
 n_all:mg "all" = none
 n_any:mg "any" = none
 n_list:mg "list" = none
 n_tuple:mg "tuple" = none
 n_int:mg "int" = none
 n_str:mg "str" = none
 n_bool:mg "bool" = none
 n_zip:mg "zip" = none
 n_enumerate:mg "enumerate" = none
 n_isinstance:mg "isinstance" = none
 n_divmod:mg "divmod" = none
end
theorem eJ {J:It}{n:Nat}{js:List Nat}{g:TG}{tc:TT}{te:TE}{σ:St}{H1:Hp}{fin:List V->Hp->Prop}(N:Nat)(Pv:Nat->List V->Hp->Prop)(h0:Pv 0 [] H1)
  (go:∀i ys H (Nx:List V->Hp->Prop),i<N->Pv i ys H->(∀ys' H',Pv (i+1) ys' H'->Nx ys' H')->J.go i H/\ys.length<sizeLine /\
   ∀x H',J.yld i H x H'->g x (Jv n none++dA σ js) H' fun σ2 H2=>tc σ2 H2 fun b H3=>if b=true then te σ2 H3 fun y H4=>Nx (ys++[y]) H4 else Nx ys H3)
  (stop:∀ys H,Pv N ys H->J.stop N H/\fin ys H):CM J n js g tc te σ H1 fin:=by
 refine⟨fun i m ys H=>m=N-i/\i<=N/\Pv i ys H,⟨N,by simp,Uz _,h0⟩,?_⟩
 intro i m ys H
 refine ai.go ?_
 rintro rfl hi p
 by_cases iA:i<N
 ·exact .inr (go i ys H (fun ys' H'=>∃m',m'<N-i/\(m'=N-(i+1)/\i+1<=N/\Pv (i+1) ys' H')) iA p fun ys' H' q=>⟨_,by omega,rfl,iA,q⟩)
 ·have e:i=N:=by omega
  subst e
  exact .inl (stop ys H p)
section
variable {X:Cx}(K:Ja)
theorem gW (hK:X.K=K:=by rfl):DX X (TB K):=by subst hK;exact Ic
theorem Rb (hK:X.K=K:=by rfl):Bh X (fun x lo hi H Q=>Iu K x lo hi H Q∨(∃z,x = .str z/\z.length<=sizeLine/\Q (.str (Txt.slice z lo hi)) H)):=by subst hK;exact Mu
theorem i8 (hK:X.K=K:=by rfl):bB X (.builtin "len") (fun xs H Q=>∃x n,xs=[x]/\Lr K x H n/\Q (.int n) H):=by subst hK;exact BV
theorem yF (hK:X.K=K:=by rfl):D8 X "str.join" (fun x vs H Q=>∃(sep:Str) (p:Addr) (xs:List Str),x = .str sep/\vs=[.ref p]/\bq K H p (xs.map V.str)/\(xs.map (·.length)).sum+xs.length*sep.length<=16777216/\Q (.str (Txt.join sep xs)) H):=by subst hK;exact Fz
theorem KS {tg l:Expr}{tl:TE}(hl:PE X l tl)(hK:X.K=K:=by rfl):PI X tg l (GH K tl):=by subst hK;exact E7 hl
theorem tupK {pos:Pos}{es:List Expr}{k:Nat}{t:zU}(n:Nat)(hc:X.calm=true)(h:Lw X es t)(hn:(assignEach es X.env).length=n:=by rfl)(jZ:(assignEach es X.env).findIdx? (·.1)=none:=by rfl)(hK:X.K=K:=by rfl):PG X (.Tuple es k pos) (HE K n t):=by subst hK;exact Hn hc h hn jZ
theorem tU {o e:Expr}{es:List Expr}{to:TE}{t:TA}{name:Str}{apos dg:Pos}{T id:String}{r:V->List V->Hp->VK->Prop}(pa:PlainAttrs T)(slot:Slot T name id)(Iq:typeOf (.builtin id)=pure (.type "method_descriptor"))(hm:D8 X id r)(ho:PE X o to)(ha:PA X (e::es) t)
  (kz:attributeBase o name X.env (eval o X.env)=eval o X.env:=by rfl)
  (zH:((backTo dg (starEach (e::es) X.env)).all (fun x => !x.1)&&(backToKw dg (keywordEach [] X.env)).all (fun x=>x.1.isSome)
   && decide ((e::es).length+([]:List Keyword).length+(if ([]:List Keyword).isEmpty then 0 else 1)<30))=true:=by rfl)
  (j4:(apos.endLine==dg.line)=true:=by rfl) (hs:starEach (e::es) X.env=(false,eval e X.env)::starEach es X.env:=by rfl) (xI:(backTo dg (starEach es X.env)).any (·.1)=false:=by rfl) (hK:X.K=K:=by rfl) :
  PE X (.Call (.Attribute o name apos) (e::es) [] dg) (SE K T r to t):=by subst hK;exact L7 pa slot Iq hm ho ha kz zH j4 hs xI
theorem Pf {o:Expr}{to:TE}{name:Str}{apos dg:Pos}{T id:String}{r:V->List V->Hp->VK->Prop}(pa:PlainAttrs T)(slot:Slot T name id)(Iq:typeOf (.builtin id)=pure (.type "method_descriptor"))(hm:D8 X id r)(ho:PE X o to)
  (kz:attributeBase o name X.env (eval o X.env)=eval o X.env:=by rfl) (j4:(apos.endLine==dg.line)=true:=by rfl) (hK:X.K=K:=by rfl):PE X (.Call (.Attribute o name apos) [] [] dg) (MD K T r to):=by subst hK;exact Ke pa slot Iq hm ho kz j4
theorem o9 (hu:X.A.units+64<cLine)(hK:X.K=K:=by rfl):eE X (compareOp .Eq) (fun x y H Q=>Ss x y H Q∨(∃d e,Den K H d x/\Den K H e y/\SeqAt.shaped d=true/\SeqAt.shaped e=true/\Q (.bl (PyData.eqv d e)) H)):=by subst hK;exact R7 hu
theorem Kk (hu:X.A.units+64<cLine)(hK:X.K=K:=by rfl):eE X (compareOp .NotEq) (fun x y H Q=>RK x y H Q∨(∃d e,Den K H d x/\Den K H e y/\SeqAt.shaped d=true/\SeqAt.shaped e=true/\Q (.bl (!PyData.eqv d e)) H)):=by subst hK;exact Rz hu
end
abbrev Keeps (g h:Heap)(c:Addr->Prop):Prop:=∀b o,¬c b->g.get? b=some o->h.get? b=some o
structure sZ (prog:Program)(w:World)(A:Around)(it S:Addr)(T:String)(fp:Addr->Prop)(n:Nat)(P:Nat->Value->Heap->Prop)(R:Value->Value->Prop)(St:Nat->Heap->Prop):Prop where
 sfp:¬fp S
 ne:it≠S
 ty:∀i h,St i h->∃o,h.get? it=some o/\o.cls = .type T
 self:∀(s:Shared) (Q:Value->Shared->Prop) (E:Value->Shared->Prop),St 0 s.heap->Q (.ref it) s->wpAny (model prog w) A (pyIter (.ref it)) Q E s
 item:∀i (s:Shared) (Q:Option Value->Shared->Prop) (E:Value->Shared->Prop),i<n->St i s.heap->S<s.heap.objs.size ->
  (∀v h' tk,Keeps s.heap h' fp->St (i+1) h'->P i v h'->(∀j u,P j u s.heap->R u v)->Q (some v) { s with heap:=h',toks:=tk })->wpAny (model prog w) A (pyNext (.ref it)) Q E s
 stop:∀(s:Shared) (Q:Option Value->Shared->Prop) (E:Value->Shared->Prop),St n s.heap->S<s.heap.objs.size->(∀h' tk,Keeps s.heap h' fp->Q none { s with heap:=h',toks:=tk })->wpAny (model prog w) A (pyNext (.ref it)) Q E s
 keepS:∀i h h',St i h->Keeps h h' (· = S)->St i h'
 keepP:∀j v h h',P j v h->Keeps h h' (fun b=>fp b∨b=S)->P j v h'
 nolen:typeLookup (.type T) "__len__" = pure none
 nohint:typeLookup (.type T) "__length_hint__" = pure none
 nl:(Value.type T==Value.type "list")=false
 nt:(Value.type T==Value.type "tuple")=false
structure nH (h:Heap)(S:Addr)(i:Nat)(P:Nat->Value->Heap->Prop)(R:Value->Value->Prop)(acc:Array Value)(c:Nat):Prop where
 ob:h.get? S=some { cls := .type "list",data := .seq acc c }
 sz:acc.size=i
 pw:acc.toList.Pairwise R
 all:∀(j:Nat) v,acc[j]? = some v->P j v h
abbrev qP (prog:Program)(w:World)(A:Around)(R:Result->Shared->Prop):Fin->Shared->Prop:=fun fin s'=>match fin with
 | .done f=>R (.ok f) s'
 | .again c'=>c'.quiet=true/\codeAny (model prog w) A c' R s'
section
variable {prog:Program}{w:World}{A:Around}{it S:Addr}{T:String}{fp:Addr->Prop}{n:Nat}{P:Nat->Value->Heap->Prop}{R:Value->Value->Prop}{St:Nat->Heap->Prop}
abbrev md (g:Heap)(S:Addr)(fp:Addr->Prop)(n:Nat)(P:Nat->Value->Heap->Prop)(R:Value->Value->Prop)(s:Shared)(Z:Shared->Prop):Prop:=
 ∀h' tk acc c,Keeps g h' (fun b=>fp b∨b=S)->nH h' S n P R acc c->Z { s with heap:=h',toks:=tk }
theorem qz (Fd:sZ prog w A.in1 it S T fp n P R St)(hn:n<=sizeLine){s:Shared}{Z:Result->Shared->Prop}{res:Value}{g:Heap}(fin:md g S fp n P R s (Z (.ok (.ret res)))):
  ∀(k i:Nat) (h:Heap) (tk:Nat) (acc:Array Value) (c:Nat),i+k=n->St i h->nH h S i P R acc c->Keeps g h (fun b=>fp b∨b=S) ->
   codeAny (model prog w) A (.builtin "list.extend.loop" ⟨[.ref S,.ref it,res],[]⟩) Z { s with heap:=h,toks:=tk }
 | 0,i,h,tk,acc,c,hk,jZ,G,kp=>by
  have e:i=n:=by omega
  subst e
  refine codeAny_builtin PySem.F.entry_extend_loop ?_
  rw[Around.under_plainId PySem.F.plain_extend_loop _]
  refine wpAny_bind (Fd.stop { s with heap:=h,toks:=tk } _ _ jZ (Jf G.ob) fun h' tk' k'=>wpAny_pure ?_)
  exact fin h' tk' acc c (fun b o nb q=>k' b o (fun z=>nb (.inl z)) (kp b o nb q)) ⟨k' _ _ Fd.sfp G.ob,G.sz,G.pw,fun j v e=>Fd.keepP _ _ _ _ (G.all j v e) fun b o nb q=>k' b o (fun z=>nb (.inl z)) q⟩
 | k+1,i,h,tk,acc,c,hk,jZ,G,kp=>by
  refine codeAny_builtin PySem.F.entry_extend_loop ?_
  rw[Around.under_plainId PySem.F.plain_extend_loop _]
  refine wpAny_bind (Fd.item i { s with heap:=h,toks:=tk } _ _ (by omega) jZ (Jf G.ob) fun v h' tk' k' st' pv rv =>?_)
  have NY:=k' _ _ Fd.sfp G.ob
  have other:Keeps h' (h'.update S (Obj.mapSeq (·.push v))) (· = S):=fun b o nb q=>(J3 _ _ (Ne.symm nb)).trans q
  have k2:Keeps h (h'.update S (Obj.mapSeq (·.push v))) (fun b=>fp b∨b=S):=fun b o nb q=>other b o (fun z=>nb (.inr z)) (k' b o (fun z=>nb (.inl z)) q)
  have sz:=G.sz
  refine wpAny_bind (wpAny_updateSeq NY rfl (wpAny_pure ⟨plainId_quiet PySem.F.plain_extend_loop _,?_⟩) (by rw[sz];omega) (by show(acc.push v).size<=sizeLine+1;rw[Array.size_push,sz];omega))
  refine qz Fd hn fin k (i+1) _ tk' (acc.push v) _ (by omega) (Fd.keepS _ _ _ st' other) ⟨J2 _ NY rfl,by rw[Array.size_push,sz],?_,fun j u e =>?_⟩ (fun b o nb q=>k2 b o nb (kp b o nb q))
  ·rw[Array.toList_push]
   refine Yu.mpr ⟨G.pw,List.pairwise_singleton _ _,fun a ha b hb =>?_⟩
   obtain⟨j,hj⟩:=Uv.mp ha
   rw[J0.mp hb]
   exact rv j a (G.all j a (by simpa using hj))
  ·by_cases hj:j<i
   ·rw[Array.getElem?_push_lt (by omega)] at e
    exact Fd.keepP _ _ _ _ (G.all j u (by rw[Ud (by omega)];exact e)) k2
   ·have Io:j=i:=by
     have:=(Uy.mp e).1
     rw[Array.size_push] at this
     omega
    subst Io
    have e':(acc.push v)[acc.size]? = some u:=by rw[sz];exact e
    rw[Array.getElem?_push_size] at e'
    cases e'
    exact Fd.keepP _ _ _ _ pv fun b o nb q=>other b o (fun z=>nb (.inr z)) q
theorem uG (Fd:sZ prog w A.in1 it S T fp n P R St)(hn:n<=sizeLine){s:Shared}{Z:Result->Shared->Prop}{res:Value}{c₀:Nat}(jZ:St 0 s.heap)(hS:s.heap.get? S=some { cls := .type "list",data := .seq #[] c₀ })
  (fin:md s.heap S fp n P R s (Z (.ok (.ret res)))) :
  wpAny (model prog w) A.in1 (Builtin.List.listExtendWith (.ref S) (.ref it) res) (qP prog w A Z) (fun e s'=>Z (.error e) s') s:=by
 have go:∀(h:Heap) (c tk:Nat),Keeps s.heap h (· = S)->h.get? S=some { cls := .type "list",data := .seq #[] c } -> codeAny (model prog w) A (.builtin "list.extend.loop" ⟨[.ref S,.ref it,res],[]⟩) Z { s with heap:=h,toks:=tk }:=
  fun h c tk k o=>qz Fd hn fin n 0 h tk #[] c (by omega) (Fd.keepS _ _ _ jZ k) ⟨o,rfl,.nil,fun j v e=>by simp at e⟩ fun b o nb q=>k b o (fun z=>nb (.inr z)) q
 obtain⟨oi,hoi,hci⟩:=Fd.ty 0 _ jZ
 have hT:s.TypeIs (.ref it) T:=⟨oi,hoi,hci⟩
 have B7:Builtin.List.listSameRef (.ref S) (.ref it)=false:=by simp[Builtin.List.listSameRef,Ne.symm Fd.ne]
 unfold Builtin.List.listExtendWith
 refine wpAny_bind (wpAny_typeOf hT ?_)
 simp only[B7,Fd.nl,Fd.nt,Bool.or_false,Ut,if_false]
 refine wpAny_bind (Fd.self s _ _ jZ ?_)
 have hint:∀(Q:Bool->Shared->Prop),Q true s->wpAny (model prog w) A.in1 (Builtin.List.listLengthHint (.ref it)) Q (fun e s'=>Z (.error e) s') s:=fun Q q=>by
  unfold Builtin.List.listLengthHint
  refine wpAny_bind (wpAny_specialOf hT Fd.nolen ?_)
  refine wpAny_ite_split (fun z=>absurd z (by decide)) fun _=>wpAny_ite_split (fun z=>absurd z (by decide)) fun _ =>?_
  exact wpAny_bind (wpAny_specialOf hT Fd.nohint (wpAny_pure q))
 refine wpAny_bind (wpAny_holding (hint _ ?_))
 refine wpAny_ite_split (fun _ =>?_) fun _=>wpAny_pure ⟨plainId_quiet PySem.F.plain_extend_loop _,go _ c₀ _ (fun _ _ _ q=>q) hS⟩
 refine wpAny_bind (wpAny_rule (wpAny_bind ?_))
 have o1:=J2 (Obj.mapSeq (·.push Value.none)) hS rfl
 have o2:=J2 (Obj.mapSeq (·.pop)) o1 rfl
 refine wpAny_bind (wpAny_updateSeq hS rfl (wpAny_updateSeq (hz:=by seq_fits) o1 rfl (wpAny_pure ⟨plainId_quiet PySem.F.plain_extend_loop _,go _ _ _ (fun b o nb q =>?_) o2⟩)))
 exact(J3 _ _ (Ne.symm nb)).trans ((J3 _ _ (Ne.symm nb)).trans q)
theorem Ag (Fd:sZ prog w A.in1 it S T fp n P R St)(hn:n<=sizeLine){s:Shared}{Z:Result->Shared->Prop}(jZ:St 0 s.heap)(hS:s.heap.get? S=some { cls := .type "list",data := .seq #[] })
  (fin:md s.heap S fp n P R s (Z (.ok (.ret .none)))) :
  wpAny (model prog w) A.in1 (Builtin.«list.__init__» ⟨[.ref S,.ref it],[]⟩) (qP prog w A Z) (fun e s'=>Z (.error e) s') s:=by
 refine wpAny_bind ?_
 unfold Builtin.List.listItems
 refine wpAny_bind (wpAny_seqItems hS rfl (wpAny_pure ?_))
 have o1:=J2 (Obj.mapSeq (fun _=>(#[]:Array Value))) hS rfl
 have k1:Keeps s.heap (s.heap.update S (Obj.mapSeq (fun _=>(#[]:Array Value)))) (· = S):=fun b o nb q=>(J3 _ _ (Ne.symm nb)).trans q
 refine wpAny_bind (wpAny_updateSeq hS rfl (wpAny_bind (wpAny_letGo ?_)))
 refine uG (s:={ s with heap:=_ }) Fd hn (Fd.keepS _ _ _ jZ k1) o1 fun h' tk acc c k G =>?_
 exact fin h' tk acc c (fun b o nb q=>k b o nb (k1 b o (fun z=>nb (.inr z)) q)) G
theorem qc {s:Shared}{Q:Value->Shared->Prop}{E:Value->Shared->Prop}(Fd:sZ prog w A.in1.in1 it s.heap.objs.size T fp n P R St)(hn:n<=sizeLine)(jZ:∀o,St 0 (s.heap.push o))
  (fin:∀h' tk acc c,Keeps s.heap h' fp->nH h' s.heap.objs.size n P R acc c->Q (.ref s.heap.objs.size) { s with heap:=h',toks:=tk }) :
  wpAny (model prog w) A (call (.type "list") [.ref it]) Q E s:=by
 refine callType_codes (Q₁:=fun obj s₁=>obj = .ref s.heap.objs.size/\s₁={ s with heap:=s.heap.push { cls := .type "list",data := .seq #[] } }) F.called_list (F.typeCall_list_1 _) F.entry_list_init
  (code_list_new _ ⟨rfl,rfl⟩) fun obj s₁ h₁ =>?_
 obtain⟨rfl,rfl⟩:=h₁
 have hS:(s.heap.push { cls := .type "list",data := .seq #[] }).get? s.heap.objs.size=some { cls := .type "list",data := .seq #[] }:=Jj _ rfl
 refine⟨⟨_,hS,rfl⟩,F.args_list_init_2 _ _,Ag (s:={ s with heap:=_ }) (A:=A.in1) Fd hn (jZ _) hS fun h' tk acc c k G=>⟨rfl,fin h' tk acc c (fun b o nb q =>?_) G⟩⟩
 exact k b o (fun z=>z.elim nb fun z=>bV (Jf q) (Je _) z) (Jb _ q)
end
abbrev fJ (h:Heap)(z TI TO a:Addr)(f:Bool):Prop:=
 h.get? z=some { cls := .type "zip",dict:=none,data := .fields #[rawInt a,.bool f,.bool false,.ref TI,.ref TO],slots := #[] }
section
variable {prog:Program}{w:World}{A:Around}{E:Value->Shared->Prop}{s:Shared}{z TI TO i1 i2 l1 l2 a:Addr}{f:Bool}{oa:Obj}
theorem ko {Q:Bool->Shared->Prop}(hz:fJ s.heap z TI TO a f)(ha:s.heap.get? a=some oa)
  (q:∀h,fJ h z TI TO a true->U1 z s.heap h->Q false { s with heap:=h }):wpAny (model prog w) A (Builtin.SmallTypes.ownedTupleIsFree (.ref z)) Q E s:=by
 unfold Builtin.SmallTypes.ownedTupleIsFree
 refine wpAny_bind (wpAny_field hz rfl (x:=rawInt a) rfl ?_)
 show wpAny _ _ (loadIfAlive ((a:Int).toNat) >>= _) _ _ _
 rw[Yy]
 refine wpAny_bind (PySem.W.kdx_alive ha ?_)
 simp -iota only [Option.isNone_some,Ut,if_false]
 refine wpAny_bind (wpAny_field hz rfl (x := .bool f) rfl ?_)
 cases f
 ·exact wpAny_bind (wpAny_setField_rec hz (by simp) fun h e k=>wpAny_pure (q h e k))
 ·exact wpAny_pure (q s.heap hz (U1.refl _ _))
theorem rW {k:Nat}{xs ys:Array Value}{x y:Value}{Q:Option Value->Shared->Prop}(D:ZipApart z TI TO i1 i2 l1 l2)(hz:fJ s.heap z TI TO a f)(ha:s.heap.get? a=some oa)(nq:IsPair s.heap TI (.ref i1) (.ref i2))
  (h1:s.heap.IsListIter i1 l1 k) (h2:s.heap.IsListIter i2 l2 k) (pI:s.heap.IsList l1 xs) (uv:s.heap.IsList l2 ys) (hx:xs[k]? = some x) (hy:ys[k]? = some y)
  (q:∀h',fJ h' z TI TO a true->h'.IsListIter i1 l1 (k+1)->h'.IsListIter i2 l2 (k+1)->IsPair h' s.heap.objs.size x y->Keeps s.heap h' (fun b=>b=z∨b=i1∨b=i2)->Q (some (.ref s.heap.objs.size)) { s with heap:=h' }) :
  wpAny (model prog w) A (pyNext (.ref z)) Q E s:=by
 have hT:s.TypeIs (.ref z) "zip":=⟨_,hz,rfl⟩
 unfold pyNext
 refine wpAny_bind (wpAny_attempt (wpAny_callSpecial?_slot (name:=Str.ofString "__next__") hT F.slot_zip_next (wpAny_call_entry F.slot_zip_next hT F.entry_zip_next ?_ (F.args_zip_next_1 _))))
 change wpAny _ _ (Bind.bind (field (.ref z) 2) _) _ _ _
 refine wpAny_bind (wpAny_field hz rfl (x := .bool false) rfl ?_)
 change wpAny _ _ (Bind.bind (field (.ref z) 3) _) _ _ _
 refine wpAny_bind (wpAny_field hz rfl (x := .ref TI) rfl (wpAny_bind (wpAny_seqItems nq rfl ?_)))
 change wpAny _ _ (Bind.bind (Builtin.SmallTypes.ownedTupleIsFree (.ref z)) _) _ _ _
 refine wpAny_bind (ko hz ha fun h0 z0 k0 =>?_)
 simp -iota only [Ut,if_false,<-Array.forIn_toList,Yp,Wd]
 refine wpAny_bind (wpAny_bind (wpAny_bind (wpAny_holding (wpAny_bind (wpAny_nextOf_list_item (h1.extBut k0.extBut D.i1z) (pI.extBut k0.extBut D.l1z) hx fun h4 e4 k4=>wpAny_pure (wpAny_pure ?_))))))
 refine wpAny_bind (wpAny_bind (wpAny_holding (wpAny_bind (wpAny_nextOf_list_item ((h2.extBut k0.extBut D.i2z).extBut k4.extBut D.i12.symm) ((uv.extBut k0.extBut D.l2z).extBut k4.extBut D.l2i1) hy fun h5 e5 k5=>wpAny_pure (wpAny_pure (wpAny_pure ?_))))))
 refine wpAny_bind (wpAny_newTuple (hsz:=by show 2<=sizeLine;decide) (wpAny_pure ⟨_,rfl,wpAny_pure ?_⟩))
 have hsz:h5.objs.size=s.heap.objs.size:=by rw[k5.1,k4.1,k0.1]
 show Q (some (.ref h5.objs.size)) _
 rw[hsz]
 refine q (h5.push { cls := .type "tuple",data := .seq #[x,y] }) (Jb _ (k5.extBut _ _ D.i2z.symm (k4.extBut _ _ D.i1z.symm z0))) ((e4.extBut k5.extBut D.i12).at fun o e=>Jb _ e) (e5.at fun o e=>Jb _ e) (by rw[<-hsz];exact Jj _ rfl) fun b o nb e =>?_
 exact Jb _ (k5.extBut _ _ (fun z=>nb (.inr (.inr z))) (k4.extBut _ _ (fun z=>nb (.inr (.inl z))) (k0.extBut _ _ (fun z=>nb (.inl z)) e)))
theorem rP {k:Nat}{xs ys:Array Value}{Q:Option Value->Shared->Prop}(hh:A.handled=none)(D:ZipApart z TI TO i1 i2 l1 l2)(hz:fJ s.heap z TI TO a f)(ha:s.heap.get? a=some oa)(nq:IsPair s.heap TI (.ref i1) (.ref i2))
  (h1:s.heap.IsListIter i1 l1 k) (h2:s.heap.IsListIter i2 l2 k) (pI:s.heap.IsList l1 xs) (uv:s.heap.IsList l2 ys) (he:xs[k]? = none∨ys[k]? = none)
  (q:∀h',Keeps s.heap h' (fun b=>b=z∨b=i1∨b=i2)->Q none { s with heap:=h' }) :
  wpAny (model prog w) A (pyNext (.ref z)) Q E s:=by
 have hT:s.TypeIs (.ref z) "zip":=⟨_,hz,rfl⟩
 unfold pyNext
 refine wpAny_bind (wpAny_attempt (wpAny_callSpecial?_slot (name:=Str.ofString "__next__") hT F.slot_zip_next (wpAny_call_entry F.slot_zip_next hT F.entry_zip_next ?_ (F.args_zip_next_1 _))))
 change wpAny _ _ (Bind.bind (field (.ref z) 2) _) _ _ _
 refine wpAny_bind (wpAny_field hz rfl (x := .bool false) rfl ?_)
 change wpAny _ _ (Bind.bind (field (.ref z) 3) _) _ _ _
 refine wpAny_bind (wpAny_field hz rfl (x := .ref TI) rfl (wpAny_bind (wpAny_seqItems nq rfl ?_)))
 change wpAny _ _ (Bind.bind (Builtin.SmallTypes.ownedTupleIsFree (.ref z)) _) _ _ _
 refine wpAny_bind (ko hz ha fun h0 z0 k0 =>?_)
 simp -iota only [Ut,if_false,<-Array.forIn_toList,Yp,Wd]
 refine wpAny_bind (wpAny_bind (wpAny_bind (wpAny_holding ?_)))
 cases hx:xs[k]? with
 | none=>
  refine wpAny_bind (wpAny_nextOf_list_end hh (h1.extBut k0.extBut D.i1z) (pI.extBut k0.extBut D.l1z) hx fun h4 e k4 oe =>?_)
  refine ai.el (oe) _ ?_
  rintro o ho hc
  exact wpAny_bind (wpAny_isInstance (T := "StopIteration") (b:=true) ⟨o,ho,hc⟩ isSubtype_stop (wpAny_pure (q h4 fun b o nb x=>k4 _ _ (fun z=>nb (.inr (.inl z))) (k0.extBut _ _ (fun z=>nb (.inl z)) x))))
 | some x=>
  have hy:ys[k]? = none:=he.resolve_left (by rw[hx];exact fun z=>nomatch z)
  refine wpAny_bind (wpAny_nextOf_list_item (h1.extBut k0.extBut D.i1z) (pI.extBut k0.extBut D.l1z) hx fun h4 e4 k4=>wpAny_pure (wpAny_pure ?_))
  refine wpAny_bind (wpAny_bind (wpAny_holding (wpAny_bind (wpAny_nextOf_list_end hh ((h2.extBut k0.extBut D.i2z).extBut k4.extBut D.i12.symm) ((uv.extBut k0.extBut D.l2z).extBut k4.extBut D.l2i1) hy fun h5 e k5 oe =>?_))))
  refine ai.el (oe) _ ?_
  rintro o ho hc
  exact wpAny_bind (wpAny_isInstance (T := "StopIteration") (b:=true) ⟨o,ho,hc⟩ isSubtype_stop (wpAny_pure (q h5 fun b o nb x=>k5 _ _ (fun z=>nb (.inr (.inr z))) (k4.extBut _ _ (fun z=>nb (.inr (.inl z))) (k0.extBut _ _ (fun z=>nb (.inl z)) x)))))
end
structure vh (z TI TO i1 i2 l1 l2 S:Addr)(xs ys:Array Value)(i:Nat)(h:Heap):Prop where
 ti:IsPair h TI (.ref i1) (.ref i2)
 to:∃a b,IsPair h TO a b
 it1:h.IsListIter i1 l1 i
 it2:h.IsListIter i2 l2 i
 a1:h.IsList l1 xs
 a2:h.IsList l2 ys
 zp:IsZip h z TI TO .none∨0<i/\∃a f oa,fJ h z TI TO a f/\h.get? a=some oa/\S<a
abbrev lO (z TO i1 i2:Addr)(b:Addr):Prop:=b=z∨b=TO∨b=i1∨b=i2
abbrev sj (S:Addr)(xs ys:Array Value)(j:Nat)(v:Value)(h:Heap):Prop:=o7 fun a x y=>v = .ref a/\S<a/\xs[j]? = some x/\ys[j]? = some y/\IsPair h a x y
abbrev hX (u v:Value):Prop:=∃a b:Addr,u = .ref a/\v = .ref b/\a<b
theorem u0 {prog:Program}{w:World}{A:Around}{z TI TO i1 i2 l1 l2 S:Addr}{xs ys:Array Value}(hh:A.handled=none)(D:ZipApart z TI TO i1 i2 l1 l2)(b1:z<S)(b2:TI<S)(b3:TO<S)(b4:i1<S)(b5:i2<S)(b6:l1<S)(b7:l2<S):
  sZ prog w A z S "zip" (lO z TO i1 i2) (min xs.size ys.size) (sj S xs ys) hX (vh z TI TO i1 i2 l1 l2 S xs ys) where
 sfp:=fun q=>by
  rcases q with q|q|q|q<;>(rw[q] at b1 b3 b4 b5;first|exact absurd b1 (Uc _)|exact absurd b3 (Uc _)|exact absurd b4 (Uc _)|exact absurd b5 (Uc _))
 ne:=Jl b1
 ty:=fun i h st=>by
  rcases st.zp with q|⟨_,a,f,oa,q,_⟩
  ·exact⟨_,q,rfl⟩
  ·exact⟨_,q,rfl⟩
 self:=fun s Q E st q=>by
  rcases st.zp with r|⟨r,_⟩
  ·exact wpAny_pyIter_zip r q
  ·exact absurd r (Uc _)
 item:=fun i s Q E hi st hS q=>by
  obtain⟨ti,⟨a,b,to⟩,it1,it2,a1,a2,zp⟩:=st
  have hx:xs[i]? = some (xs[i]'(by omega)):=Ud (by omega)
  have hy:ys[i]? = some (ys[i]'(by omega)):=Ud (by omega)
  have old:∀j u,sj S xs ys j u s.heap->hX u (.ref s.heap.objs.size):=fun j u hz_=>ai.el hz_ _ fun a x y e _ _ _ p=>⟨a,_,e,rfl,Jf p⟩
  rcases zp with r|⟨hi0,c,f,oc,r,oc',hc⟩
  ·refine wpAny_pyNext_zip_item D r ti to it1 it2 a1 a2 hx hy fun h' r1 r2 r3 r4 r5 r6 r7 =>?_
   have kp:Keeps s.heap h' (lO z TO i1 i2):=fun b o nb e=>r7 b o (fun z=>nb (.inl z)) (fun z=>nb (.inr (.inl z))) (fun z=>nb (.inr (.inr (.inl z)))) (fun z=>nb (.inr (.inr (.inr z)))) e
   refine q _ h' s.toks kp ⟨r7 _ _ D.TIz D.TITO D.TIi1 D.TIi2 ti,⟨_,_,r2⟩,r3,r4,a1.at fun o e=>r7 _ _ D.l1z D.l1TO D.l1i1 D.l1i2 e,a2.at fun o e=>r7 _ _ D.l2z D.l2TO D.l2i1 D.l2i2 e,.inr ⟨Nat.succ_pos _,_,_,_,r1,r5,hS⟩⟩ ⟨_,_,_,rfl,hS,hx,hy,r5⟩ old
  ·have ne:∀{b:Addr},b<S->c≠b:=fun hb=>Uh (Nat.lt_trans hb hc)
   refine rW D r oc' ti it1 it2 a1 a2 hx hy fun h' r1 r2 r3 r4 r5 =>?_
   have kp:Keeps s.heap h' (lO z TO i1 i2):=fun b o nb e=>r5 b o (fun z=>z.elim (fun z=>nb (.inl z)) fun z=>nb (.inr (.inr z))) e
   refine q _ h' s.toks kp ⟨r5 _ _ (fun z=>z.elim D.TIz fun z=>z.elim D.TIi1 D.TIi2) ti,⟨_,_,r5 _ _ (fun z=>z.elim D.TOz fun z=>z.elim D.TOi1 D.TOi2) to⟩,r2,r3,a1.at fun o e=>r5 _ _ (fun z=>z.elim D.l1z fun z=>z.elim D.l1i1 D.l1i2) e,a2.at fun o e=>r5 _ _ (fun z=>z.elim D.l2z fun z=>z.elim D.l2i1 D.l2i2) e,
    .inr ⟨Nat.succ_pos _,_,_,_,r1,r5 _ _ (fun z=>z.elim (ne b1) fun z=>z.elim (ne b4) (ne b5)) oc',hc⟩⟩ ⟨_,_,_,rfl,hS,hx,hy,r4⟩ old
 stop:=fun s Q E st hS q=>by
  obtain⟨ti,⟨a,b,to⟩,it1,it2,a1,a2,zp⟩:=st
  have he:xs[min xs.size ys.size]? = none∨ys[min xs.size ys.size]? = none:=by
   rcases Nat.le_total xs.size ys.size with h|h
   ·exact .inl (Yl (by omega))
   ·exact .inr (Yl (by omega))
  rcases zp with r|⟨hi0,c,f,oc,r,oc',hc⟩
  ·exact wpAny_pyNext_zip_end hh D r ti to it1 it2 a1 a2 he fun h' k=>q h' s.toks fun b o nb e=>k b o (fun z=>nb (.inl z)) (fun z=>nb (.inr (.inl z))) (fun z=>nb (.inr (.inr (.inl z)))) (fun z=>nb (.inr (.inr (.inr z)))) e
  ·exact rP hh D r oc' ti it1 it2 a1 a2 he fun h' k=>q h' s.toks fun b o nb e=>k b o (fun z=>z.elim (fun z=>nb (.inl z)) fun z=>nb (.inr (.inr z))) e
 keepS:=fun i h h' st k=>by
  obtain⟨ti,⟨a,b,to⟩,it1,it2,a1,a2,zp⟩:=st
  refine⟨k _ _ (Jl b2) ti,⟨a,b,k _ _ (Jl b3) to⟩,it1.at fun o e=>k _ o (Jl b4) e,it2.at fun o e=>k _ o (Jl b5) e,a1.at fun o e=>k _ o (Jl b6) e,a2.at fun o e=>k _ o (Jl b7) e,?_⟩
  rcases zp with r|⟨hi0,c,f,oc,r,oc',hc⟩
  ·exact .inl (k _ _ (Jl b1) r)
  ·exact .inr ⟨hi0,c,f,oc,k _ _ (Jl b1) r,k _ _ (Uh hc) oc',hc⟩
 keepP:=fun j v h h' ⟨a,x,y,e,ha,h1,h2,p⟩ k=>by
  have ne:∀{b:Addr},b<S->a≠b:=fun hb=>Uh (Nat.lt_trans hb ha)
  exact⟨a,x,y,e,ha,h1,h2,k _ _ (fun z=>z.elim (fun z=>z.elim (ne b1) fun z=>z.elim (ne b3) fun z=>z.elim (ne b4) (ne b5)) (Uh ha)) p⟩
 nolen:=by rw[typeLookup_type,builtinLookup_eq_fast];kernel_rfl
 nohint:=by rw[typeLookup_type,builtinLookup_eq_fast];kernel_rfl
 nl:=by decide
 nt:=by decide
theorem Inv.j8 {X:Cx}{pins:List (Addr×Obj)}{σ:St}:∀(as:List Addr) (ps:List (List V)) {H:Hp} {s:Shared},Inv X pins σ H s->as.Nodup->as.length=ps.length->(∀a∈as,dU X pins H a/\X.s₀.heap.objs.size<=a) ->
  (∀(j:Nat) a p,as[j]? = some a->ps[j]? = some p->p.length<=sizeLine/\∃aq:List Value,Vals p aq/\rT s.heap a aq.toArray) ->
  ∃H',Inv X pins σ H' s/\ar H H'/\(∀b,b∉as->H' b=H b)/\∀(j:Nat) a p,as[j]? = some a->ps[j]? = some p->H' a=some (.tup p)
 | [],ps,H,s,I,_,_,_,_=>⟨H,I,ar.refl H,fun _ _=>rfl,fun j a p h _=>by simp at h⟩
 | a::as,[],H,s,I,_,hl,_,_=>by simp at hl
 | a::as,p::ps,H,s,I,nd,hl,hf,ho=>by
  obtain⟨na,Rn⟩:=Yi.mp nd
  obtain⟨fa,sa⟩:=hf a Js
  obtain⟨hz,aq,rv,ht⟩:=ho 0 a p rfl rfl
  have I1:=I.adopt (T:=a) (o := .tup p) fa sa ⟨hz,aq,rv,ht⟩
  obtain⟨H',I',sm,same,all⟩:=Inv.j8 as ps I1 Rn (by simpa using hl) (fun b hb=>by
   obtain⟨fb,sb⟩:=hf b (Jo _ hb)
   exact⟨⟨by rw[aj (fun(e:b=a)=>na (by rw[<-e];exact hb))];exact fb.1,fb.2⟩,sb⟩) (fun j b q h1 h2=>ho (j+1) b q h1 h2)
  refine⟨H',I',fun b o e=>sm b o (by rw[aj (aw e fa.1)];exact e),fun b hb =>?_,fun j b q h1 h2 =>?_⟩
  ·rw[same b fun z=>hb (Jo _ z),aj (fun(z:b=a)=>hb (by rw[z];exact Js))]
  ·cases j with
   | zero=>
    cases h1;cases h2
    rw[same a na];exact ay
   | succ j=>exact all j b q h1 h2
theorem l9:∀{l:List Value},(∀v∈l,∃a:Addr,v = .ref a)->∃as:List Addr,l=as.map Value.ref
 | [],_=>⟨[],rfl⟩
 | v::r,h=>by
  obtain⟨a,rfl⟩:=h v Js
  obtain⟨as,rfl⟩:=l9 fun u hu=>h u (Jo _ hu)
  exact⟨a::as,rfl⟩
section
variable {X:Cx}
def TM (K:Ja)(ta:TA):TE:=fun σ H Q=>ta σ H fun vs H1=>vo fun l1 l2 xs ys=>vs=[.ref l1,.ref l2]/\bq K H1 l1 xs/\bq K H1 l2 ys /\
 ∀H' p (as:List Addr),ar H1 H'->H1 p=none->H' p=some (.lst (as.map V.ref))->as.length=min xs.length ys.length ->
  (∀(j:Nat) a x y,as[j]? = some a->xs[j]? = some x->ys[j]? = some y->H1 a=none/\H' a=some (.tup [x,y]))->Q (.ref p) H'
theorem pT {xs ys:List V}(j:Nat)(x y:V)(hx:xs[j]? = some x)(hy:ys[j]? = some y):((xs.zip ys).map fun q=>[q.1,q.2])[j]? = some [x,y]:=by
 rw[Jk,(Yc (z:=(x,y))).mpr ⟨hx,hy⟩]
 rfl
theorem wu {a b:Expr}{ta:TA}{p p2 pos ky:Pos}(hc:X.calm=true)(HB:Gl X "list")(IC:X.mg "list" = none)(LU:Gl X "zip")(Mg:X.mg "zip" = none)(ha:PA X [a,b] ta)
  (Ho:bootBuiltins "list" = some (.type "list"):=by first|rfl|decide) (Na:bootBuiltins "zip" = some (.type "zip"):=by first|rfl|decide)
  (CU:starEach [.Call (.Name "zip" p2) [a,b] [] ky] X.env=[(false,eval (.Call (.Name "zip" p2) [a,b] [] ky) X.env)]:=by rfl)
  (hs:starEach [a,b] X.env=[(false,eval a X.env),(false,eval b X.env)]:=by rfl) (yO:starEach [b] X.env=[(false,eval b X.env)]:=by rfl) :
  PE X (.Call (.Name "list" p) [.Call (.Name "zip" p2) [a,b] [] ky] [] pos) (TM X.K ta):=by
 intro pins s σ H Q I h
 refine wpAny_Call_Name_kw (dF I HB IC Ho ?_)
 refine PyProof.Rows.callWith_type1 ?_ CU rfl
 rw[CU]
 show wpAny _ _ (spliced ((false,eval (.Call (.Name "zip" p2) [a,b] [] ky) X.env)::[])) _ _ _
 refine Calls.spliced_cons ?_
 refine Call_ (dF I LU Mg Na (PyProof.Rows.callWith_type1 (bz (ha s σ H _ I h) fun us s1 hz_=>ai.el hz_ _ fun vs H1 I1 r1 q1 =>?_) (by rw[hs,yO]) (by rw[yO];rfl)))
 obtain⟨l1,l2,xs,ys,e,q1,q2,q⟩:=q1
 subst e
 obtain⟨u,w',rfl,r1,r2⟩:=vals2 r1
 cases r1;cases r2
 obtain⟨its1,rv1,p1,hz1⟩:=I1.list q1
 refine ai.el (I1.list q2) _ ?_
 rintro its2 rv2 p2 hz2
 have e1:=rv1.length
 have e2:=rv2.length
 have a1:l1<s1.heap.objs.size:=by obtain⟨_,e,_⟩:=p1.isList;exact Jf e
 have a2:l2<s1.heap.objs.size:=by obtain⟨_,e,_⟩:=p2.isList;exact Jf e
 refine call_zip_2 p1.isList p2.isList fun h' hz nq vj hi1 hi2 hsz hk =>?_
 refine Calls.spliced_nil ?_
 have qr:s1.heap.objs.size<=h'.objs.size:=by rw[hsz];exact Uq _ _
 have iz:∀n,n<5->s1.heap.objs.size+n<h'.objs.size:=fun n hn=>by rw[hsz];exact Nat.add_lt_add_left hn _
 have zs:∀o,vh (s1.heap.objs.size+4) (s1.heap.objs.size+2) (s1.heap.objs.size+3) s1.heap.objs.size (s1.heap.objs.size+1) l1 l2 h'.objs.size its1.toArray its2.toArray 0 (h'.push o):=fun o=>
  ⟨Jb _ nq,⟨_,_,Jb _ vj⟩,hi1.at fun o e=>Jb _ e,hi2.at fun o e=>Jb _ e,(p1.isList.at fun o e=>hk _ o e).push _,(p2.isList.at fun o e=>hk _ o e).push _,.inl (Jb _ hz)⟩
 refine qc (s:={ s1 with heap:=h' }) (u0 (I.ok.hd hc) (zipApart_new a1 a2) (iz 4 (by decide)) (iz 2 (by decide)) (iz 3 (by decide)) (iz 0 (by decide)) (iz 1 (by decide)) (Jn a1 qr) (Jn a2 qr)) (by simp;omega) zs fun h2 tk acc c Hq G =>?_
 obtain⟨hS2,hsz2,hpw,iE⟩:=G
 obtain⟨as,fO⟩:=l9 (l:=acc.toList) fun v hv=>by
  obtain⟨j,hj⟩:=Uv.mp hv
  obtain⟨a,_,_,e,_⟩:=iE j v (by simpa using hj)
  exact⟨a,e⟩
 have ij:∀(j:Nat) a,as[j]? = some a->∃x y,h'.objs.size<a/\its1.toArray[j]? = some x/\its2.toArray[j]? = some y/\IsPair h2 a x y:=fun j a h=>by
  obtain⟨a',x,y,e,g⟩:=iE j (.ref a) (by
   have:acc.toList[j]? = some (.ref a):=by rw[fO,Jk,h];rfl
   simpa using this)
  cases e
  exact⟨x,y,g⟩
 have above:∀a∈as,h'.objs.size<a:=fun a ha=>by
  obtain⟨j,hj⟩:=Uv.mp ha
  obtain⟨_,_,g,_⟩:=ij j a hj
  exact g
 have old:∀b o,s1.heap.get? b=some o->h2.get? b=some o:=fun b o e=>by
  have hb:=Jf e
  have gt:∀n,b≠s1.heap.objs.size+n:=fun n=>Jl (Jn hb (Uq _ _))
  exact Hq b o (fun z=>z.elim (gt 4) fun z=>z.elim (gt 3) fun z=>z.elim (gt 0) (gt 1)) (hk b o e)
 have I2:Inv X pins σ H1 { s1 with heap:=h2,toks:=tk }:=I1.kept old
 have sY:∀a∈as,s1.heap.objs.size<=a:=fun a ha=>Yh (Uj qr (above a ha))
 have nd:as.Nodup:=by
  rw[fO,List.pairwise_map] at hpw
  exact hpw.imp fun hz_=>ai.el hz_ _ fun a b e1 e2 h=>by cases e1;cases e2;exact Jl h
 have eA:∀a,s1.heap.objs.size<=a->dU X pins H1 a/\X.s₀.heap.objs.size<=a:=fun a ha=>⟨I1.eA ha (I1.bw.fresh ha),Ji I1.sz ha⟩
 have Gz:as.length=min xs.length ys.length:=by
  have z:acc.toList.length=as.length:=by rw[fO,Jd]
  simp at z hsz2
  omega
 obtain⟨H',I',sm,same,all⟩:=I2.j8 as ((xs.zip ys).map fun q=>[q.1,q.2]) nd (by rw[Jd,U8];omega) (fun a ha=>eA a (sY a ha)) (fun j a pp h1 h2'=>by
  refine ai.el (ij j a h1) _ ?_
  rintro x y _ g1 g2 g3
  refine ai.el (kn rv1 g1) _ ?_
  rintro vx gx rx
  refine ai.el (kn rv2 g2) _ ?_
  rintro vy gy ry
  have z:=pT j vx vy gx gy
  rw[z] at h2';cases h2'
  exact⟨by show 2<=sizeLine;decide,[x,y],.cons rx (.cons ry .nil),⟨_,g3,rfl,rfl,_,rfl⟩⟩)
 have Dl:h'.objs.size∉as:=fun hm=>Uc _ (above _ hm)
 have mx:H1 h'.objs.size=none:=I1.bw.fresh qr
 obtain⟨fS,sS⟩:=eA h'.objs.size qr
 have MX:dU X pins H' h'.objs.size:=⟨by rw[same _ Dl];exact mx,fS.2⟩
 have I3:=I'.adopt (T:=h'.objs.size) (o := .lst (as.map V.ref)) MX sS ⟨by rw[Jd];omega,acc.toList,c,by
  rw[fO]
  clear hS2 fO all same I' sm sY nd Gz Dl above ij
  induction as with
  | nil=>exact .nil
  | cons a r ih=>exact .cons rfl ih,by simpa using hS2⟩
 refine⟨.ref h'.objs.size,_,I3,rfl,q _ _ as (fun b o e =>?_) mx ay Gz fun j a x y h1 h2' h3'=>⟨(eA a (sY a (Jz h1))).1.1,?_⟩⟩
 ·rw[aj (aw e mx)];exact sm b o e
 ·rw[aj (fun(z:a=h'.objs.size)=>Dl (by rw[<-z];exact Jz h1))]
  exact all j a [x,y] h1 (pT j x y h2' h3')
end
structure gY (H:Hp)(p:Addr)(o:HO)(H':Hp):Prop where
 nn:H p=none
 eq:H'=upd H p o
theorem gY.at {H H':Hp}{p:Addr}{o:HO}(n:gY H p o H'):H' p=some o:=by rw[n.eq];exact ay
theorem gY.ne {H H':Hp}{p a:Addr}{o:HO}(n:gY H p o H')(h:a≠p):H' a=H a:=by rw[n.eq];exact aj h
theorem gY.same {H H':Hp}{p:Addr}{o:HO}(n:gY H p o H'):ar H H':=fun a u e=>by rw[n.ne (aw e n.nn)];exact e
theorem gY.back {H H':Hp}{p a:Addr}{o:HO}(n:gY H p o H')(h:H' a=none):H a=none:=by
 cases e:H a with
 | none=>rfl
 | some u=>rw[n.same a u e] at h;cases h
structure Du (H:Hp)(p:Addr)(o:HO)(H':Hp):Prop where
 eq:H'=upd H p o
theorem Du.at {H H':Hp}{p:Addr}{o:HO}(n:Du H p o H'):H' p=some o:=by rw[n.eq];exact ay
theorem Du.ne {H H':Hp}{p a:Addr}{o:HO}(n:Du H p o H')(h:a≠p):H' a=H a:=by rw[n.eq];exact aj h
theorem sE {H:Hp}{o:HO}{F:Addr->Hp->Prop}:(∀p,H p=none->F p (upd H p o)) = ∀p H',gY H p o H'->F p H':=
 propext ⟨fun h p H' n=>by rw[n.eq];exact h p n.nn,fun h p hp=>h p _ ⟨hp,rfl⟩⟩
theorem Fu {H:Hp}{p:Addr}{o:HO}{F:Hp->Prop}:F (upd H p o) = ∀H',Du H p o H'->F H':=
 propext ⟨fun h H' n=>by rw[n.eq];exact h,fun h=>h _ ⟨rfl⟩⟩
section
variable {X:Cx}{pos:Pos}{es:List Expr}{t:TA}
def GY (t:TA):TE:=fun σ H Q=>t σ H fun xs H1=>xs.length<=sizeLine/\∀p H',gY H1 p (.tup xs) H'->Q (.ref p) H'
def G2 (t:TA):TE:=fun σ H Q=>t σ H fun xs H1=>xs.length<=sizeLine/\∀p H',gY H1 p (.lst xs) H'->Q (.ref p) H'
theorem fh {x1}(h:PA X es t):PE X (.Tuple es x1 pos) (GY t):=by
 have e:GY t=Ls t:=by
  funext σ H Q
  show t σ H _=t σ H _
  congr 1;funext xs H1
  exact congrArg (_ /\ ·) (sE (F:=fun p H'=>Q (.ref p) H')).symm
 rw[e];exact C8 h
theorem gr (h:PA X es t):PE X (.List es pos) (G2 t):=by
 have e:G2 t=L6 t:=by
  funext σ H Q
  show t σ H _=t σ H _
  congr 1;funext xs H1
  exact congrArg (_ /\ ·) (sE (F:=fun p H'=>Q (.ref p) H')).symm
 rw[e];exact KG h
def xh (uB:List (TE×TE)):TE:=fun σ H Q=>∀p H0,gY H p (.dK []) H0->mY uB σ H0 fun ps H2=>H2 p=some (.dK [])/\∃kvs:List (Key×V),ps=kvs.map (fun kv=>(kV kv.1,kv.2))/\kvs.length<=15/\∀H3,Du H2 p (.dK (ck [] kvs)) H3->Q (.ref p) H3
theorem Lp {keys:List (Option Expr)}{values:List Expr}{uB:List (TE×TE)}(h:NP X pos keys values uB)(iE:keys.all (·.isSome)=true)(hl:keys.length=values.length)(h0:keys≠[])
  (NC:keys.length<=15):PE X (.Dict keys values pos) (xh uB):=by
 have e:xh uB=DS uB:=by
  funext σ H Q
  unfold xh DS
  rw[sE (F:=fun p H0=>mY uB σ H0 fun ps H2=>H2 p=some (.dK [])/\∃kvs:List (Key×V),ps=kvs.map (fun kv=>(kV kv.1,kv.2))/\kvs.length<=15/\Q (.ref p) (upd H2 p (.dK (ck [] kvs))))]
  simp only[<-Fu (F:=fun H3=>Q (.ref _) H3)]
 rw[e];exact FV h iE hl h0 NC
end
section
variable {X:Cx}(K:Ja)
def Q7 (K:Ja):V->Option Int->Option Int->Hp->VK->Prop:=fun x lo hi H Q=>(eu fun a xs=>x = .ref a/\bq K H a xs/\∀p H',gY H p (.lst (ir xs lo hi)) H'->Q (.ref p) H')∨(∃z,x = .str z/\z.length<=sizeLine/\Q (.str (Txt.slice z lo hi)) H)
theorem SI (hK:X.K=K:=by rfl):Bh X (Q7 K):=by
 subst hK
 intro pins s σ H x v vl vu lo hi sl Q I rx hs pl pu q
 refine Mu s σ H x v vl vu lo hi sl Q I rx hs pl pu ?_
 rcases q with ⟨a,xs,e,h,q⟩|q
 ·exact .inl ⟨a,xs,e,h,fun p hp=>q p _ ⟨hp,rfl⟩⟩
 ·exact .inr q
theorem Dn (hK:X.K=K:=by rfl):bB X (.type "list") (fun xs H Q=>∃p ys,xs=[.ref p]/\(bq K H p ys∨bF K H p ys)/\∀l H',gY H l (.lst ys) H'->Q (.ref l) H'):=by
 subst hK
 intro pins s σ H xs us Q I r h
 refine ai.el (h) _ ?_
 rintro p ys e h q
 exact su s σ H xs us Q I r ⟨p,ys,e,h,fun l hl=>q l _ ⟨hl,rfl⟩⟩
theorem nY (hK:X.K=K:=by rfl):bB X (.type "tuple") (fun xs H Q=>∃p ys,xs=[.ref p]/\((bq K H p ys/\∀l H',gY H l (.tup ys) H'->Q (.ref l) H')∨(bF K H p ys/\Q (.ref p) H))):=by
 subst hK
 intro pins s σ H xs us Q I r h
 refine ai.el (h) _ ?_
 rintro p ys e h
 refine pH s σ H xs us Q I r ⟨p,ys,e,?_⟩
 rcases h with ⟨h,q⟩|h
 ·exact .inl ⟨h,fun l hl=>q l _ ⟨hl,rfl⟩⟩
 ·exact .inr h
end
section
variable {X:Cx}
def Nk:R2:=fun x y H Q=>(eu fun i j=>x = .int i/\y = .int j/\Q (.int (i+j)) H)∨(∃i j,x = .str i/\y = .str j/\i.length+j.length<=sizeLine/\Q (.str (i++j)) H) ∨
 vo fun l b xs zs=>x = .ref l/\y = .ref b/\H l=some (.lst xs)/\H b=some (.lst zs)/\xs.length+zs.length<=sizeLine/\∀p H',gY H p (.lst (xs++zs)) H'->Q (.ref p) H'
theorem cI:eE X (binaryOp .Add) Nk:=by
 intro pins s σ H x y v u Q I rx ry h
 refine Lq s σ H x y v u Q I rx ry ?_
 rcases h with h|h|⟨l,b,xs,zs,e1,e2,h1,h2,h3,q⟩
 ·exact .inl h
 ·exact .inr (.inl h)
 ·exact .inr (.inr ⟨l,b,xs,zs,e1,e2,h1,h2,h3,fun p hp=>q p _ ⟨hp,rfl⟩⟩)
def G7:R2:=fun x y H Q=>(eu fun i j=>x = .int i/\y = .int j/\wQ i j/\Q (.int (i*j)) H) ∨
 o7 fun l k xs=>x = .ref l/\y = .int k/\H l=some (.lst xs) /\ -(2^63)<=k/\k<2^63/\xs.length*k.toNat<=sizeLine/\∀p H',gY H p (.lst (Jv k.toNat xs).flatten) H'->Q (.ref p) H'
theorem lZ:eE X (binaryOp .Mult) G7:=by
 intro pins s σ H x y v u Q I rx ry h
 refine NN s σ H x y v u Q I rx ry ?_
 rcases h with h|⟨l,k,xs,e1,e2,h1,h2,h3,h4,q⟩
 ·exact .inl h
 ·exact .inr ⟨l,k,xs,e1,e2,h1,h2,h3,h4,fun p hp=>q p _ ⟨hp,rfl⟩⟩
theorem Fe:bB X (.builtin "divmod") (fun xs H Q=>∃i j,xs=[.int i,.int j]/\Eo i j/\∀p H',gY H p (.tup [.int (i / j),.int (i%j)]) H'->Q (.ref p) H'):=by
 intro pins s σ H xs us Q I r h
 refine ai.el (h) _ ?_
 rintro i j e c q
 exact uQ s σ H xs us Q I r ⟨i,j,e,c,fun p hp=>q p _ ⟨hp,rfl⟩⟩
theorem sF:IG X "list.append" (fun x vs H Q=>∃l xs y,x = .ref l/\vs=[y]/\H l=some (.lst xs)/\xs.length<sizeLine/\∀H',Du H l (.lst (xs++[y])) H'->Q .non H'):=by
 intro pins s σ H x xs v us Q I rx rv h
 refine ai.el (h) _ ?_
 rintro l ys y e1 e2 h1 h2 q
 exact Ad s σ H x xs v us Q I rx rv ⟨l,ys,y,e1,e2,h1,h2,q _ ⟨rfl⟩⟩
theorem KN:IG X "list.pop" (fun x vs H Q=>∃l xs i y,x = .ref l/\vs=[.int i]/\H l=some (.lst xs)/\0<=i/\i<2^63/\xs[i.toNat]? = some y/\∀H',Du H l (.lst (xs.eraseIdx i.toNat)) H'->Q y H'):=by
 intro pins s σ H x xs v us Q I rx rv h
 refine ai.el (h) _ ?_
 rintro l ys i y e1 e2 h1 h2 h3 h4 q
 refine DC s σ H x xs v us Q I rx rv ⟨l,ys,i,i.toNat,y,e1,e2,h1,by omega,h3,?_,h4,q _ ⟨rfl⟩⟩
 have hl:=(Jq.mp h4).1
 have q:ye ys ((i.toNat:Nat):Int)=some y:=kq h4
 have ei:((i.toNat:Nat):Int)=i:=by omega +splitMinMax
 rw[ei] at q
 obtain⟨j,hj,hj2,_⟩:=mf q
 have:Bg ys.length i=some i.toNat:=by unfold Bg;rw[if_pos h2,if_pos (by omega)]
 exact(rd this).1
end
theorem fM {α:Type}{xs:List α}{i:Int}{v: α}(h0:0<=i)(h:xs[i.toNat]? = some v):ye xs i=some v:=by
 have q:=kq h
 have e:((i.toNat:Nat):Int)=i:=by omega
 rw[e] at q
 exact q
noncomputable def Bm:PyData->String
 | .none => "NoneType"
 | .bool _ => "bool"
 | .int _ => "int"
 | .str _ => "str"
 | .list _ => "list"
 | .tuple _ => "tuple"
 | .dict _ => "dict"
noncomputable def Mv (d:PyData)(T:String):Bool:=Bm d==T||(Bm d == "bool" && T == "int")
theorem uw (K:Ja)(d:PyData):Ub K (.type (Bm d)) (.type "bool")=some (Mv d "bool")/\Ub K (.type (Bm d)) (.type "int")=some (Mv d "int")/\Ub K (.type (Bm d)) (.type "str")=some (Mv d "str") /\
  Ub K (.type (Bm d)) (.type "list")=some (Mv d "list")/\Ub K (.type (Bm d)) (.type "tuple")=some (Mv d "tuple"):=by
 cases d<;>exact⟨rfl,rfl,rfl,rfl,rfl⟩
section
variable {X:Cx}
theorem yp {pins:List (Addr×Obj)}{σ:St}{H:Hp}{s:Shared}{x:V}{u:Value}{d:PyData}(I:Inv X pins σ H s)(rx:RelV x u)(h:Den X.K H d x):∃HH:Heap->Prop,PySem.W.KitX X.K u (.type (Bm d)) HH/\HH s.heap/\u ≠ .builtin "__main__.__loader__#opaque":=by
 cases d with
 | none=>unfold Den at h;subst h;cases rx;exact⟨_,PySem.W.kitx_none,True.intro,fun z=>nomatch z⟩
 | bool b=>unfold Den at h;subst h;cases rx;exact⟨_,PySem.W.kitx_bool,True.intro,fun z=>nomatch z⟩
 | int i=>unfold Den at h;subst h;obtain⟨t,rfl⟩:=rx;exact⟨_,PySem.W.kitx_int,True.intro,fun z=>nomatch z⟩
 | str y=>unfold Den at h;subst h;obtain⟨t,rfl⟩:=rx;exact⟨_,PySem.W.kitx_str,True.intro,fun z=>nomatch z⟩
 | list ds=>
  unfold Den at h
  refine ai.el (h) _ ?_
  rintro a vs rfl h2 _
  cases rx
  obtain⟨aq,_,⟨o,n,e1,e2,_⟩,_⟩:=I.list h2
  exact⟨_,PySem.W.kitx_list,⟨o,e1,e2⟩,fun z=>nomatch z⟩
 | tuple ds=>
  unfold Den at h
  refine ai.el (h) _ ?_
  rintro a vs rfl h2 _
  cases rx
  obtain⟨aq,_,⟨o,e1,e2,_⟩,_⟩:=I.tuple h2
  exact⟨_,PySem.W.kitx_tuple,⟨o,e1,e2⟩,fun z=>nomatch z⟩
 | dict _=>unfold Den at h;exact h.elim
theorem Aw:bB X (.builtin "isinstance") (fun xs H Q=>∃(x:V) (T:String) (d:PyData) (b:Bool),xs=[x,.ty T]/\Den X.K H d x/\Ub X.K (.type (Bm d)) (.type T)=some b/\Q (.bl b) H):=by
 intro pins s σ H xs us Q I r h
 refine ai.el (h) _ ?_
 rintro x T d b rfl hd e q
 refine ai.el (vals2 r) _ ?_
 rintro u w' rfl r1 r2
 cases r2
 refine ai.el (yp I r1 hd) _ ?_
 rintro HH Z hh hx
 exact U3 Z I.gT hh e hx fun tk=>⟨.bl b,H,I.tok _,rfl,q⟩
theorem vC:bB X (.builtin "isinstance") (fun xs H Q=>∃(x:V) (p:Addr) (Ts:List String) (d:PyData) (b:Bool),xs=[x,.ref p]/\H p=some (.tup (Ts.map V.ty))/\Den X.K H d x/\PySem.W.kitAny X.K (.type (Bm d)) (Ts.map Value.type)=some b/\Q (.bl b) H):=by
 intro pins s σ H xs us Q I r h
 refine ai.el (h) _ ?_
 rintro x p Ts d b rfl hp hd e q
 refine ai.el (vals2 r) _ ?_
 rintro u w' rfl r1 r2
 cases r2
 refine ai.el (yp I r1 hd) _ ?_
 rintro HH Z hh hx
 obtain⟨hz,aq,rv,o,h1,nQ,h2,n,h3⟩:=(show bg X.prog X.w H s.heap p (.tup (Ts.map V.ty)) from I.bw p _ hp)
 have ei:aq=Ts.map Value.type:=by
  clear e hp h3 h2 h1 nQ hz
  induction Ts generalizing aq with
  | nil=>cases rv;rfl
  | cons T Ts ih=>
   cases rv with
   | cons q1 q2=>cases q1;rw[ih _ q2];rfl
 subst ei
 obtain⟨cls,dd,data,sl⟩:=o
 simp only at h2 h3
 subst h2 h3
 exact PySem.W.kia_tup Z I.gT hh h1 e hx fun tk=>⟨.bl b,H,I.tok _,rfl,q⟩
def PU (K:Ja):List V->Hp->VK->Prop:=fun xs H Q=>(∃(x:V) (T:String) (d:PyData) (b:Bool),xs=[x,.ty T]/\Den K H d x/\Ub K (.type (Bm d)) (.type T)=some b/\Q (.bl b) H) ∨
 ∃x T t b,xs=[x,.ty T]/\ka K H x t/\Ub K t (.type T)=some b/\Q (.bl b) H
theorem iB (K:Ja)(hK:X.K=K:=by rfl):bB X (.builtin "isinstance") (PU K):=by subst hK;exact Aw.or DM
def MO (K:Ja):List V->Hp->VK->Prop:=fun xs H Q=>∃(x:V) (p:Addr) (Ts:List String) (d:PyData) (b:Bool),xs=[x,.ref p]/\H p=some (.tup (Ts.map V.ty))/\Den K H d x/\PySem.W.kitAny K (.type (Bm d)) (Ts.map Value.type)=some b/\Q (.bl b) H
theorem LD (K:Ja)(hK:X.K=K:=by rfl):bB X (.builtin "isinstance") (MO K):=by subst hK;exact vC
end
noncomputable def QA (k:Bool):String:=if k then "tuple" else "list"
noncomputable def Bp (k:Bool):String:=if k then "tuple_iterator" else "list_iterator"
def dh (k:Bool)(h:Heap)(a:Addr)(aq:Array Value):Prop:=∃o,h.get? a=some o/\o.cls = .type (QA k)/\∃n,o.data = .seq aq n
def fz (k:Bool)(h:Heap)(it a:Addr)(i:Nat):Prop:=∃o,h.get? it=some o/\o.cls = .type (Bp k)/\o.data = .fields #[.ref a,.int i 0]
theorem dh.at {k:Bool}{h h':Heap}{a:Addr}{aq:Array Value}(x:dh k h a aq)(e:∀o,h.get? a=some o->h'.get? a=some o):dh k h' a aq:=let ⟨o,ho,r⟩:=x; ⟨o,e _ ho,r⟩
theorem fz.at {k:Bool}{h h':Heap}{it a:Addr}{i:Nat}(x:fz k h it a i)(e:∀o,h.get? it=some o->h'.get? it=some o):fz k h' it a i:=let ⟨o,ho,r⟩:=x; ⟨o,e _ ho,r⟩
theorem dh.lt {k:Bool}{h:Heap}{a:Addr}{aq:Array Value}(x:dh k h a aq):a<h.objs.size:=let ⟨_,e,_⟩:=x;Jf e
theorem fz.lt {k:Bool}{h:Heap}{it a:Addr}{i:Nat}(x:fz k h it a i):it<h.objs.size:=let ⟨_,e,_⟩:=x;Jf e
section
variable {prog:Program}{w:World}{A:Around}{E:Value->Shared->Prop}{s:Shared}{k:Bool}{it a:Addr}{i:Nat}{aq:Array Value}
theorem nj {x:Value}{Q:Value->Shared->Prop}(h1:fz k s.heap it a i)(h2:dh k s.heap a aq)(hx:aq[i]? = some x)
  (q:∀h',fz k h' it a (i+1)->U1 it s.heap h'->Q x { s with heap:=h' }):wpAny (model prog w) A (Builtin.SmallTypes.nextOf (.ref it)) Q E s:=by
 cases k with
 | false=>exact wpAny_nextOf_list_item h1 h2 hx q
 | true=>
  obtain⟨o,ho,hc,hd⟩:=h1
  obtain⟨ol,hol,_,nl,hdl⟩:=h2
  have hT:s.TypeIs (.ref it) "tuple_iterator":=⟨o,ho,hc⟩
  unfold Builtin.SmallTypes.nextOf
  refine wpAny_bind (wpAny_callSpecial?_slot (name:=Str.ofString "__next__") hT F.slot_tuple_iterator_next (wpAny_call_entry F.slot_tuple_iterator_next hT F.entry_tuple_iterator_next ?_ (F.args_tuple_iterator_next_1 _)))
  change wpAny _ _ (Bind.bind (field (.ref it) 0) _) _ _ s
  refine wpAny_bind (wpAny_field ho hd (x := .ref a) rfl ?_)
  rw[if_neg (by intro z;cases z)]
  refine wpAny_bind (wpAny_field ho hd (x := .int i 0) rfl (wpAny_bind (wpAny_seqItems hol hdl ?_)))
  simp only[Yy,hx]
  refine wpAny_bind (wpAny_setField ho hd (by simp) (wpAny_pure ⟨x,rfl,wpAny_pure (q _ ⟨_,J2 _ ho (Obj.isFreed_of_fields (Obj.data_mapFields hd _)),(Obj.cls_mapFields ..).trans hc,?_⟩ (U1.update ..))⟩))
  rw[Obj.data_mapFields hd]
  simp[rawInt]
theorem uS {Q:Value->Shared->Prop}(hh:A.handled=none)(h1:fz k s.heap it a i)(h2:dh k s.heap a aq)(hx:aq[i]? = none)
  (q:∀h' e,Heap.ExtBut it s.heap h'->(∃o,h'.get? e=some o/\o.cls = .type "StopIteration")->E (.ref e) { s with heap:=h' }):wpAny (model prog w) A (Builtin.SmallTypes.nextOf (.ref it)) Q E s:=by
 cases k with
 | false=>exact wpAny_nextOf_list_end hh h1 h2 hx q
 | true=>
  obtain⟨o,ho,hc,hd⟩:=h1
  obtain⟨ol,hol,_,nl,hdl⟩:=h2
  have hT:s.TypeIs (.ref it) "tuple_iterator":=⟨o,ho,hc⟩
  unfold Builtin.SmallTypes.nextOf
  refine wpAny_bind (wpAny_callSpecial?_slot (name:=Str.ofString "__next__") hT F.slot_tuple_iterator_next (wpAny_call_entry F.slot_tuple_iterator_next hT F.entry_tuple_iterator_next ?_ (F.args_tuple_iterator_next_1 _)))
  change wpAny _ _ (Bind.bind (field (.ref it) 0) _) _ _ s
  refine wpAny_bind (wpAny_field ho hd (x := .ref a) rfl ?_)
  rw[if_neg (by intro z;cases z)]
  refine wpAny_bind (wpAny_field ho hd (x := .int i 0) rfl (wpAny_bind (wpAny_seqItems hol hdl ?_)))
  simp only[Yy,hx]
  refine wpAny_bind (wpAny_rule (wpAny_bind (wpAny_setField ho hd (by simp) (wpAny_bind ?_))))
  simp only[newExc,newTuple]
  refine wpAny_bind (wpAny_newObj_type ?_ (by size_fits))
  refine wpAny_bind (m:=firstArgMember _ _) (wpAny_of_eq (a:=Value.none) (by first|rfl|(simp only[firstArgMember];rfl)) (wpAny_newObj_type ?_ (by size_fits)))
  simp only[raiseNew]
  refine wpAny_bind (wpAny_handled ?_)
  rw[show A.in1.handled=none from hh]
  exact wpAny_bind (wpAny_pure (wpAny_throw (q _ _ (((U1.update ..).extBut.push _).push _) ⟨_,Jj _ rfl,rfl⟩)))
end
structure tX (k1 k2:Bool)(z TI TO i1 i2 l1 l2:Addr)(i:Nat)(h:Heap):Prop where
 zp:IsZip h z TI TO .none
 ti:IsPair h TI (.ref i1) (.ref i2)
 to:∃a b,IsPair h TO a b
 it1:fz k1 h i1 l1 i
 it2:fz k2 h i2 l2 i
section
variable {prog:Program}{w:World}{A:Around}{E:Value->Shared->Prop}{s:Shared}{k1 k2:Bool}{z TI TO i1 i2 l1 l2:Addr}{i:Nat}{xs ys:Array Value}
abbrev HA (z TO i1 i2:Addr)(b:Addr):Prop:=b=z∨b=TO∨b=i1∨b=i2
theorem zT {x y:Value}{Q:Option Value->Shared->Prop}(D:ZipApart z TI TO i1 i2 l1 l2)(st:tX k1 k2 z TI TO i1 i2 l1 l2 i s.heap)(pI:dh k1 s.heap l1 xs)(uv:dh k2 s.heap l2 ys)(hx:xs[i]? = some x)(hy:ys[i]? = some y)
  (q:∀h',IsZip h' z TI TO (rawInt s.heap.objs.size)->IsPair h' TO x y->fz k1 h' i1 l1 (i+1)->fz k2 h' i2 l2 (i+1)->IsPair h' s.heap.objs.size x y->Keeps s.heap h' (HA z TO i1 i2)->Q (some (.ref s.heap.objs.size)) { s with heap:=h' }) :
  wpAny (model prog w) A (pyNext (.ref z)) Q E s:=by
 obtain⟨hz,nq,⟨a,b,vj⟩,h1,h2⟩:=st
 have hT:s.TypeIs (.ref z) "zip":=⟨_,hz,rfl⟩
 unfold pyNext
 refine wpAny_bind (wpAny_attempt (wpAny_callSpecial?_slot (name:=Str.ofString "__next__") hT F.slot_zip_next (wpAny_call_entry F.slot_zip_next hT F.entry_zip_next ?_ (F.args_zip_next_1 _))))
 change wpAny _ _ (Bind.bind (field (.ref z) 2) _) _ _ _
 refine wpAny_bind (wpAny_field hz rfl (x := .bool false) rfl ?_)
 change wpAny _ _ (Bind.bind (field (.ref z) 3) _) _ _ _
 refine wpAny_bind (wpAny_field hz rfl (x := .ref TI) rfl (wpAny_bind (wpAny_seqItems nq rfl ?_)))
 change wpAny _ _ (Bind.bind (Builtin.SmallTypes.ownedTupleIsFree (.ref z)) _) _ _ _
 refine wpAny_bind ?_
 unfold Builtin.SmallTypes.ownedTupleIsFree
 refine wpAny_bind (wpAny_field hz rfl (x := .none) rfl (wpAny_pure ?_))
 simp only[if_true]
 refine wpAny_bind (wpAny_rule (wpAny_bind (wpAny_field hz rfl (x := .ref TO) rfl (wpAny_bind (wpAny_setField_rec hz (by simp) fun g1 z1 e1=>wpAny_bind ?_)))))
 simp only[List.zipIdx_cons,List.zipIdx_nil,Yp,Wd]
 refine wpAny_bind (wpAny_bind (wpAny_onRaise ?_))
 change wpAny _ _ (Bind.bind (Builtin.SmallTypes.nextOf (.ref i1)) _) _ _ _
 refine wpAny_bind (nj (h1.at fun o e=>e1.extBut _ _ D.i1z e) (pI.at fun o e=>e1.extBut _ _ D.l1z e) hx fun g2 it1 e2=>wpAny_pure ?_)
 have to2:IsPair g2 TO a b:=e2.extBut _ _ D.TOi1 (e1.extBut _ _ D.TOz vj)
 refine wpAny_bind (wpAny_seqItems to2 rfl (wpAny_bind (wpAny_updateSeq_pair to2 fun g3 to3 e3=>wpAny_bind (wpAny_letGo (wpAny_pure ?_)))))
 have to3:IsPair g3 TO x b:=to3
 have zY:Keeps s.heap g3 (fun c=>c=z∨c=i1∨c=TO):=fun c o nc e=>e3.extBut _ _ (fun q=>nc (.inr (.inr q))) (e2.extBut _ _ (fun q=>nc (.inr (.inl q))) (e1.extBut _ _ (fun q=>nc (.inl q)) e))
 refine wpAny_bind (wpAny_bind (wpAny_onRaise ?_))
 change wpAny _ _ (Bind.bind (Builtin.SmallTypes.nextOf (.ref i2)) _) _ _ _
 refine wpAny_bind (nj (h2.at fun o e=>zY _ _ (fun q=>q.elim D.i2z fun q=>q.elim D.i12.symm D.TOi2.symm) e) (uv.at fun o e=>zY _ _ (fun q=>q.elim D.l2z fun q=>q.elim D.l2i1 D.l2TO) e) hy fun g4 it2 e4=>wpAny_pure ?_)
 have NM:IsPair g4 TO x b:=e4.extBut _ _ D.TOi2 to3
 refine wpAny_bind (wpAny_seqItems NM rfl (wpAny_bind (wpAny_updateSeq_pair NM fun g5 Fy e5=>wpAny_bind (wpAny_letGo (wpAny_pure (wpAny_pure ?_))))))
 have Fy:IsPair g5 TO x y:=Fy
 refine wpAny_bind (wpAny_seqItems Fy rfl (wpAny_bind (wpAny_newTuple ?_)))
 have hsz:g5.objs.size=s.heap.objs.size:=by rw[e5.1,e4.1,e3.1,e2.1,e1.1]
 have z5:IsZip g5 z TI TO .ellipsis:=e5.extBut _ _ D.TOz.symm (e4.extBut _ _ D.i2z.symm (e3.extBut _ _ D.TOz.symm (e2.extBut _ _ D.i1z.symm z1)))
 have k5:Keeps s.heap g5 (HA z TO i1 i2):=fun c o nc e=>e5.extBut _ _ (fun q=>nc (.inr (.inl q))) (e4.extBut _ _ (fun q=>nc (.inr (.inr (.inr q)))) (zY c o (fun q=>q.elim (fun q=>nc (.inl q)) fun q=>q.elim (fun q=>nc (.inr (.inr (.inl q)))) fun q=>nc (.inr (.inl q))) e))
 have HS:fz k1 g5 i1 l1 (i+1):=it1.at fun o e=>e5.extBut _ _ D.TOi1.symm (e4.extBut _ _ D.i12 (e3.extBut _ _ D.TOi1.symm e))
 have Kv:fz k2 g5 i2 l2 (i+1):=it2.at fun o e=>e5.extBut _ _ D.TOi2.symm e
 have MC:z<g5.objs.size:=Jf z5
 change wpAny _ _ (Bind.bind (Builtin.SmallTypes.ownedTupleHandOut (.ref z) (.ref g5.objs.size)) _) _ _ _
 refine wpAny_bind ?_
 unfold Builtin.SmallTypes.ownedTupleHandOut
 have z6:IsZip (g5.push { cls := .type "tuple",data := .seq #[x,y] }) z TI TO .ellipsis:=Jb _ z5
 refine wpAny_bind (wpAny_setField_rec z6 (by simp) fun g7 z7 e7 =>?_)
 have z7:IsZip g7 z TI TO (rawInt g5.objs.size):=z7
 refine wpAny_setField_rec z7 (by simp) fun g8 z8 e8=>wpAny_pure ⟨_,rfl,wpAny_pure ?_⟩
 have up:∀c o,c≠z->g5.get? c=some o->g8.get? c=some o:=fun c o c1 e=>e8.extBut _ _ c1 (e7.extBut _ _ c1 (Jb _ e))
 have tp:IsPair g8 g5.objs.size x y:=e8.extBut _ _ (Uh MC) (e7.extBut _ _ (Uh MC) (Jj _ rfl))
 have z8:IsZip g8 z TI TO (rawInt g5.objs.size):=z8
 show Q (some (.ref g5.objs.size)) _
 rw[hsz] at z8 tp ⊢
 exact q g8 z8 (up _ _ D.TOz Fy) (HS.at fun o e=>up _ o D.i1z e) (Kv.at fun o e=>up _ o D.i2z e) tp fun c o nc e=>up c o (fun q=>nc (.inl q)) (k5 c o nc e)
theorem zr {Q:Option Value->Shared->Prop}(hh:A.handled=none)(D:ZipApart z TI TO i1 i2 l1 l2)(st:tX k1 k2 z TI TO i1 i2 l1 l2 i s.heap)(pI:dh k1 s.heap l1 xs)(uv:dh k2 s.heap l2 ys)(PC:xs[i]? = none∨ys[i]? = none)
  (q:∀h',Keeps s.heap h' (HA z TO i1 i2)->Q none { s with heap:=h' }):wpAny (model prog w) A (pyNext (.ref z)) Q E s:=by
 obtain⟨hz,nq,⟨a,b,vj⟩,h1,h2⟩:=st
 have hT:s.TypeIs (.ref z) "zip":=⟨_,hz,rfl⟩
 unfold pyNext
 refine wpAny_bind (wpAny_attempt (wpAny_callSpecial?_slot (name:=Str.ofString "__next__") hT F.slot_zip_next (wpAny_call_entry F.slot_zip_next hT F.entry_zip_next ?_ (F.args_zip_next_1 _))))
 change wpAny _ _ (Bind.bind (field (.ref z) 2) _) _ _ _
 refine wpAny_bind (wpAny_field hz rfl (x := .bool false) rfl ?_)
 change wpAny _ _ (Bind.bind (field (.ref z) 3) _) _ _ _
 refine wpAny_bind (wpAny_field hz rfl (x := .ref TI) rfl (wpAny_bind (wpAny_seqItems nq rfl ?_)))
 change wpAny _ _ (Bind.bind (Builtin.SmallTypes.ownedTupleIsFree (.ref z)) _) _ _ _
 refine wpAny_bind ?_
 unfold Builtin.SmallTypes.ownedTupleIsFree
 refine wpAny_bind (wpAny_field hz rfl (x := .none) rfl (wpAny_pure ?_))
 simp only[if_true]
 refine wpAny_bind (wpAny_rule (wpAny_bind (wpAny_field hz rfl (x := .ref TO) rfl (wpAny_bind (wpAny_setField_rec hz (by simp) fun g1 z1 e1=>wpAny_bind ?_)))))
 have z1:IsZip g1 z TI TO .ellipsis:=z1
 simp only[List.zipIdx_cons,List.zipIdx_nil,Yp,Wd]
 refine wpAny_bind (wpAny_bind (wpAny_onRaise ?_))
 change wpAny _ _ (Bind.bind (Builtin.SmallTypes.nextOf (.ref i1)) _) _ _ _
 cases hx:xs[i]? with
 | none=>
  refine wpAny_bind (uS hh (h1.at fun o e=>e1.extBut _ _ D.i1z e) (pI.at fun o e=>e1.extBut _ _ D.l1z e) hx fun g2 e e2 oe =>?_)
  refine ai.el (oe) _ ?_
  rintro o ho hc
  have z2:IsZip g2 z TI TO .ellipsis:=e2 _ _ D.i1z.symm z1
  have ez:e≠z:=fun q=>by subst q;rw[z2] at ho;cases ho;simp at hc
  refine wpAny_setField_rec z2 (by simp) fun g3 _ e3 =>?_
  refine wpAny_bind (wpAny_isInstance (T := "StopIteration") (b:=true) ⟨o,e3.extBut _ _ ez ho,hc⟩ isSubtype_stop (wpAny_pure (q g3 fun c o nc h =>?_)))
  exact e3.extBut _ _ (fun q=>nc (.inl q)) (e2 _ _ (fun q=>nc (.inr (.inr (.inl q)))) (e1.extBut _ _ (fun q=>nc (.inl q)) h))
 | some x=>
  have hy:ys[i]? = none:=PC.resolve_left (by rw[hx];exact fun z=>nomatch z)
  refine wpAny_bind (nj (h1.at fun o e=>e1.extBut _ _ D.i1z e) (pI.at fun o e=>e1.extBut _ _ D.l1z e) hx fun g2 it1 e2=>wpAny_pure ?_)
  have to2:IsPair g2 TO a b:=e2.extBut _ _ D.TOi1 (e1.extBut _ _ D.TOz vj)
  refine wpAny_bind (wpAny_seqItems to2 rfl (wpAny_bind (wpAny_updateSeq_pair to2 fun g3 to3 e3=>wpAny_bind (wpAny_letGo (wpAny_pure ?_)))))
  have zY:Keeps s.heap g3 (fun c=>c=z∨c=i1∨c=TO):=fun c o nc e=>e3.extBut _ _ (fun q=>nc (.inr (.inr q))) (e2.extBut _ _ (fun q=>nc (.inr (.inl q))) (e1.extBut _ _ (fun q=>nc (.inl q)) e))
  refine wpAny_bind (wpAny_bind (wpAny_onRaise ?_))
  change wpAny _ _ (Bind.bind (Builtin.SmallTypes.nextOf (.ref i2)) _) _ _ _
  refine wpAny_bind (uS hh (h2.at fun o e=>zY _ _ (fun q=>q.elim D.i2z fun q=>q.elim D.i12.symm D.TOi2.symm) e) (uv.at fun o e=>zY _ _ (fun q=>q.elim D.l2z fun q=>q.elim D.l2i1 D.l2TO) e) hy fun g4 e e4 oe =>?_)
  refine ai.el (oe) _ ?_
  rintro o ho hc
  have z4:IsZip g4 z TI TO .ellipsis:=e4 _ _ D.i2z.symm (e3.extBut _ _ D.TOz.symm (e2.extBut _ _ D.i1z.symm z1))
  have ez:e≠z:=fun q=>by subst q;rw[z4] at ho;cases ho;simp at hc
  refine wpAny_setField_rec z4 (by simp) fun g5 _ e5 =>?_
  refine wpAny_bind (wpAny_isInstance (T := "StopIteration") (b:=true) ⟨o,e5.extBut _ _ ez ho,hc⟩ isSubtype_stop (wpAny_pure (q g5 fun c o nc h =>?_)))
  exact e5.extBut _ _ (fun q=>nc (.inl q)) (e4 _ _ (fun q=>nc (.inr (.inr (.inr q)))) (zY c o (fun q=>q.elim (fun q=>nc (.inl q)) fun q=>q.elim (fun q=>nc (.inr (.inr (.inl q)))) fun q=>nc (.inr (.inl q))) h))
theorem uk {k:Bool}{a:Addr}{aq:Array Value}{Q:Value->Shared->Prop}(h:dh k s.heap a aq)(q:Q (.ref s.heap.objs.size) { s with heap:=s.heap.push { cls := .type (Bp k),data := .fields #[.ref a,.int 0 0] } }):wpAny (model prog w) A (pyIter (.ref a)) Q E s:=by
 cases k with
 | false=>exact wpAny_pyIter_list h q
 | true=>exact wpAny_pyIter_tuple h q
end
noncomputable abbrev Br (k:Bool)(a:Addr):Obj:={ cls := .type (Bp k),data := .fields #[.ref a,.int 0 0] }
noncomputable abbrev Om (k1 k2:Bool)(h:Heap)(a b:Addr):Heap:=((((h.push (Br k1 a)).push (Br k2 b)).push { cls := .type "tuple",data := .seq #[.ref h.objs.size,.ref (h.objs.size+1)] }).push { cls := .type "tuple",data := .seq #[.none,.none] }).push
 { cls := .type "zip",data := .fields #[.none,.bool false,.bool false,.ref (h.objs.size+2),.ref (h.objs.size+3)] }
theorem C0 (k1 k2:Bool)(a b:Addr)(xs ys:Array Value):
  Meets (Builtin.«zip.__new__» ⟨[.type "zip",.ref a,.ref b],[]⟩) (fun _ R s=>dh k1 s.heap a xs/\dh k2 s.heap b ys/\R (.ok (.ret (.ref (s.heap.objs.size+4)))) { s with heap:=Om k1 k2 s.heap a b }):=
 .of_wp fun prog w A R s h=>by
  obtain⟨hp,g,d,tk,os⟩:=s;obtain⟨pI,uv,h⟩:=h
  have dH:=sub_zip
  have Vj:dh k1 (Shared.heap ⟨hp,g,d,tk,os⟩) a xs:=pI
  have Si:dh k2 (Shared.heap ⟨hp.push (Br k1 a),g,d,tk,os⟩) b ys:=uv.at fun o e=>Jb _ e
  have s1:(hp.push (Br k1 a)).objs.size=hp.objs.size+1:=Ug ..
  wp_walk using uk Vj,uk Si
  refine⟨_,rfl,?_⟩
  simp only[Ug] at h ⊢
  exact h
section
variable {prog:Program}{w:World}{A:Around}{E:Value->Shared->Prop}{s:Shared}
theorem zo {k1 k2:Bool}{a b:Addr}{xs ys:Array Value}{Q:Value->Shared->Prop}(h1:dh k1 s.heap a xs)(h2:dh k2 s.heap b ys)
  (q:∀h',tX k1 k2 (s.heap.objs.size+4) (s.heap.objs.size+2) (s.heap.objs.size+3) s.heap.objs.size (s.heap.objs.size+1) a b 0 h'->(∀c o,s.heap.get? c=some o->h'.get? c=some o)->Q (.ref (s.heap.objs.size+4)) { s with heap:=h' }) :
  wpAny (model prog w) A (call (.type "zip") [.ref a,.ref b]) Q E s:=by
 refine callType_new F.called_zip (by decide) (F.typeCall_zip_2 _ _) (F.newCall_zip_2 _ _) (fun obj=>F.args_object_init_3 obj _ _) F.entry_zip_new (C0 k1 k2 a b xs ys) ⟨h1,h2,?_⟩
 have up:∀{h:Heap} {c:Addr} {o:Obj} (p:Obj),h.get? c=some o->(h.push p).get? c=some o:=fun p e=>Jb p e
 have last:∀{h:Heap} {n:Nat} {p:Obj},h.objs.size=n->p.isFreed=false->(h.push p).get? n=some p:=fun e hf=>by rw[<-e];exact Jj _ hf
 have z1:(s.heap.push (Br k1 a)).objs.size=s.heap.objs.size+1:=Ug ..
 have z2:((s.heap.push (Br k1 a)).push (Br k2 b)).objs.size=s.heap.objs.size+2:=by rw[Ug,z1]
 have z3:(((s.heap.push (Br k1 a)).push (Br k2 b)).push { cls := .type "tuple",data := .seq #[.ref s.heap.objs.size,.ref (s.heap.objs.size+1)] }).objs.size=s.heap.objs.size+3:=by rw[Ug,z2]
 have z4:((((s.heap.push (Br k1 a)).push (Br k2 b)).push { cls := .type "tuple",data := .seq #[.ref s.heap.objs.size,.ref (s.heap.objs.size+1)] }).push { cls := .type "tuple",data := .seq #[.none,.none] }).objs.size=s.heap.objs.size+4:=by rw[Ug,z3]
 have st:tX k1 k2 (s.heap.objs.size+4) (s.heap.objs.size+2) (s.heap.objs.size+3) s.heap.objs.size (s.heap.objs.size+1) a b 0 (Om k1 k2 s.heap a b):=
  ⟨last z4 rfl,up _ (up _ (last z2 rfl)),⟨.none,.none,up _ (last z3 rfl)⟩,⟨_,up _ (up _ (up _ (up _ (last rfl rfl)))),rfl,rfl⟩,⟨_,up _ (up _ (up _ (last z1 rfl))),rfl,rfl⟩⟩
 have kp:∀c o,s.heap.get? c=some o->(Om k1 k2 s.heap a b).get? c=some o:=fun c o e=>up _ (up _ (up _ (up _ (up _ e))))
 have ob:(Om k1 k2 s.heap a b).get? (s.heap.objs.size+4)=some _:=st.zp
 exact⟨⟨_,ob,rfl⟩,q _ st kp⟩
end
def lW (k:Bool)(K:Ja)(H:Hp)(a:Addr)(xs:List V):Prop:=if k=true then bF K H a xs else bq K H a xs
theorem Inv.A4 {X:Cx}{pins:List (Addr×Obj)}{σ:St}{H:Hp}{s:Shared}{k:Bool}{a:Addr}{xs:List V}(I:Inv X pins σ H s)(h:lW k X.K H a xs):∃aq:List Value,Vals xs aq/\dh k s.heap a aq.toArray/\xs.length<=sizeLine:=by
 cases k with
 | false=>
  obtain⟨aq,r,⟨o,n,e1,e2,_,e4⟩,z⟩:=I.list h
  exact⟨aq,r,⟨o,e1,e2,n,e4⟩,z⟩
 | true=>
  obtain⟨aq,r,⟨o,e1,e2,n,e4⟩,z⟩:=I.tuple h
  exact⟨aq,r,⟨o,e1,e2,n,e4⟩,z⟩
theorem Inv.tD {X:Cx}{pins:List (Addr×Obj)}{σ:St}{H:Hp}{s:Shared}{k:Bool}{a:Addr}{xs ys:List V}(I:Inv X pins σ H s)(h:lW k X.K H a xs)(h':lW k X.K H a ys):xs=ys:=by
 cases k with
 | false=>exact I.mz h h'
 | true=>exact I.qm h h'
noncomputable def Lu (K:Ja)(k1 k2:Bool)(a b:Addr):It:=
 ⟨fun i H=>vo fun xs ys x y=>lW k1 K H a xs/\lW k2 K H b ys/\xs[i]? = some x/\ys[i]? = some y,
   fun i H v H'=>∃T,v = .ref T/\∀xs ys x y,lW k1 K H a xs->lW k2 K H b ys->xs[i]? = some x->ys[i]? = some y->gY H T (.tup [x,y]) H',
   fun i H=>eu fun xs ys=>lW k1 K H a xs/\lW k2 K H b ys/\(xs.length<=i∨ys.length<=i)⟩
theorem A8 {P:Program}{w:World}{K:Ja}{elts:List Expr}{k:Nat}{tp:Pos}(k1 k2:Bool)(z TI TO i1 i2 l1 l2:Addr)(D:ZipApart z TI TO i1 i2 l1 l2):
  Turn P w K (.Tuple elts k tp) (Lu K k1 k2 l1 l2) [z,TI,TO,i1,i2] z (tX k1 k2 z TI TO i1 i2 l1 l2) where
 mem:=by simp
 obj:=fun i h st b hb=>by
  obtain⟨h1,h2,⟨_,_,h3⟩,⟨o4,h4,_,d4⟩,⟨o5,h5,_,d5⟩⟩:=st
  simp at hb
  rcases hb with rfl|rfl|rfl|rfl|rfl
  ·exact⟨_,h1,fun _ z=>nomatch z⟩
  ·exact⟨_,h2,fun _ z=>nomatch z⟩
  ·exact⟨_,h3,fun _ z=>nomatch z⟩
  ·exact⟨_,h4,fun v q=>by rw[d4] at q;cases q⟩
  ·exact⟨_,h5,fun v q=>by rw[d5] at q;cases q⟩
 keep:=fun i h h' st hk=>by
  obtain⟨h1,h2,⟨a,b,h3⟩,h4,h5⟩:=st
  exact⟨hk z (by simp) _ h1,hk TI (by simp) _ h2,⟨a,b,hk TO (by simp) _ h3⟩,h4.at fun o e=>hk i1 (by simp) o e,h5.at fun o e=>hk i2 (by simp) o e⟩
 item:=fun X hP hw hK hc i pins s σ H E I hf st go=>by
  subst hP hw hK
  obtain⟨xs,ys,x,y,q1,q2,e1,e2⟩:=go
  refine ai.el (I.A4 q1) _ ?_
  rintro its1 r1 p1 _
  refine ai.el (I.A4 q2) _ ?_
  rintro its2 r2 p2 _
  refine ai.el (oh r1 e1) _ ?_
  rintro u1 g1 ru1
  refine ai.el (oh r2 e2) _ ?_
  rintro u2 g2 ru2
  have hz:=st.zp
  have nq:=st.ti
  refine zT D st p1 p2 g1 g2 fun h' a1 a2 a3 a4 a5 a7=>⟨_,rfl,?_⟩
  refine wpAny_letOwnedTupleGo_zip a1 fun h'' b1 b2 =>?_
  have Rg:s.heap.objs.size≠z:=j0 (Jf hz) (Je _)
  have WD:∀c∈[z,TO,i1,i2],dU X pins H c:=fun c hc=>hf c (by simp at hc ⊢;rcases hc with q|q|q|q<;>simp[q])
  have kp:∀c o,c∉[z,TO,i1,i2]->s.heap.get? c=some o->h''.get? c=some o:=fun c o hc e=>by
   simp only[Jr,Uk,or_false] at hc
   exact b2.extBut c o (fun q=>hc (.inl q)) (a7 c o hc e)
  have I1:Inv X pins σ H { s with heap:=h'',toks:=s.toks }:=I.iter WD kp
  have fT:dU X pins H s.heap.objs.size:=I.eA (Je _) (I.bw.fresh (Je _))
  have oT:h''.get? s.heap.objs.size=some { cls := .type "tuple",data := .seq #[u1,u2] }:=b2.extBut _ _ Rg a5
  have I2:=I1.adopt (T:=s.heap.objs.size) (o := .tup [x,y]) fT I.sz ⟨by show 2<=sizeLine;decide,[u1,u2],.cons ru1 (.cons ru2 .nil),⟨_,oT,rfl,rfl,_,rfl⟩⟩
  refine⟨.ref s.heap.objs.size,_,I2,rfl,⟨_,rfl,fun xs' ys' x' y' q1' q2' e1' e2' =>?_⟩,⟨b1,b2.extBut _ _ D.TIz (a7 _ _ (fun q=>q.elim D.TIz fun q=>q.elim D.TITO fun q=>q.elim D.TIi1 D.TIi2) nq),⟨_,_,b2.extBut _ _ D.TOz a2⟩,a3.at fun o e=>b2.extBut _ _ D.i1z e,a4.at fun o e=>b2.extBut _ _ D.i2z e⟩,fun c hc =>?_⟩
  ·rw[I.tD q1' q1] at e1'
   rw[I.tD q2' q2] at e2'
   rw[e1] at e1';rw[e2] at e2';cases e1';cases e2'
   exact⟨fT.1,rfl⟩
  ·obtain⟨_,_,⟨_,_,vj⟩,h1,h2⟩:=st
   have Bl:c<s.heap.objs.size:=by
    simp at hc
    rcases hc with rfl|rfl|rfl|rfl|rfl
    ·exact Jf hz
    ·exact Jf nq
    ·exact Jf vj
    ·exact h1.lt
    ·exact h2.lt
   rw[aj (bV Bl (Je _))]
   exact(hf c hc).1
 done:=fun X hP hw hK hc i pins s σ H E I hf st stop=>by
  subst hP hw hK
  obtain⟨xs,ys,q1,q2,e⟩:=stop
  refine ai.el (I.A4 q1) _ ?_
  rintro its1 r1 p1 _
  refine ai.el (I.A4 q2) _ ?_
  rintro its2 r2 p2 _
  have Wv:=r1.length
  have Xl:=r2.length
  refine zr (I.ok.hd hc) D st p1 p2 ?_ fun h' kp=>⟨rfl,?_⟩
  ·rcases e with e|e
   ·exact .inl (by simp;omega)
   ·exact .inr (by simp;omega)
  ·refine I.iter (ch:=[z,TO,i1,i2]) (t':=s.toks) (fun c hc=>hf c (by simp at hc ⊢;rcases hc with q|q|q|q<;>simp[q])) fun c o hc e =>?_
   simp only[Jr,Uk,or_false] at hc
   exact kp c o hc e
 self:=fun A i s Q E st hQ=>wpAny_pyIter_zip st.zp hQ
section
variable {X:Cx}
def M5 (K:Ja)(ta:TA):TI:=fun σ H R=>ta σ H fun vs H1=>vo fun k1 k2 a b=>vs=[.ref a,.ref b]/\(∃xs,lW k1 K H1 a xs)/\(∃ys,lW k2 K H1 b ys)/\R (Lu K k1 k2 a b) H1
theorem xZ (K:Ja){elts:List Expr}{k:Nat}{tp:Pos}{a b:Expr}{ta:TA}{p pos:Pos}(hg:Gl X "zip")(hm:X.mg "zip" = none)(ha:PA X [a,b] ta)(hb:bootBuiltins "zip" = some (.type "zip"):=by first|rfl|decide)
  (hs:starEach [a,b] X.env=[(false,eval a X.env),(false,eval b X.env)]:=by rfl) (yO:starEach [b] X.env=[(false,eval b X.env)]:=by rfl) (hK:X.K=K:=by rfl) :
  PI X (.Tuple elts k tp) (.Call (.Name "zip" p) [a,b] [] pos) (M5 K ta):=by
 subst hK
 intro pins s σ H R I h
 refine Call_ (dF I hg hm hb (PyProof.Rows.callWith_type1 (bz (ha s σ H _ I h) fun us s1 ⟨vs,H1,I1,r1,q1⟩=>?_) (by rw[hs,yO]) (by rw[yO];rfl)))
 obtain⟨k1,k2,l1,l2,e,⟨xs,q1⟩,⟨ys,q2⟩,q⟩:=q1
 subst e
 refine ai.el (vals2 r1) _ ?_
 rintro u w' rfl r1 r2
 cases r1;cases r2
 refine ai.el (I1.A4 q1) _ ?_
 rintro its1 rv1 p1 _
 refine ai.el (I1.A4 q2) _ ?_
 rintro its2 rv2 p2 _
 refine zo p1 p2 fun h' st hk=>wpAny_pyIter_zip st.zp ?_
 have I2:Inv X pins σ H1 { s1 with heap:=h' }:=I1.kept (t':=s1.toks) hk
 refine⟨_,_,_,_,H1,rfl,I2,A8 k1 k2 _ _ _ _ _ _ _ (zipApart_new p1.lt p2.lt),st,fun c hc =>?_,q⟩
 have Bl:s1.heap.objs.size<=c:=by
  simp at hc
  rcases hc with rfl|rfl|rfl|rfl|rfl
  ·exact Uq _ _
  ·exact Uq _ _
  ·exact Uq _ _
  ·exact Je _
  ·exact Uq _ _
 exact I1.eA Bl (I1.bw.fresh Bl)
end
section
variable {X:Cx}{tg:Expr}
theorem mj (K:Ja){l:Expr}{tl:TE}(hl:PE X l tl)(hK:X.K=K:=by rfl):PI X tg l (M8 K tl):=by subst hK;exact JU hl
end
theorem Ao (n:Nat):sliceRange (sliceBounds none none (some (-1)) n).1 (sliceBounds none none (some (-1)) n).2.1 (sliceBounds none none (some (-1)) n).2.2=(Yd n).map fun k=>n-1-k:=by
 have e:=PyProof.Rows.picked_rev n
 rw[<-e]
 rfl
theorem DE {α β:Type}{f: α->Option β}{g: α -> β}:∀{l:List α},(∀k∈l,f k=some (g k))->l.filterMap f=l.map g
 | [],_=>rfl
 | a::l,h=>by
  rw[List.filterMap_cons_some (h a Js),Jy,DE fun k hk=>h k (Jo _ hk)]
theorem Df (aq:List Value):slicePick aq.toArray none none (some (-1))=aq.reverse.toArray:=by
 unfold slicePick
 rw[Ao,Jp]
 congr 1
 apply List.ext_getElem?
 intro i
 rw[List.filterMap_map]
 have hm:∀k∈Yd aq.length,((fun x=>aq.toArray[x]?)∘fun k=>aq.length-1-k) k=some (aq.reverse.getD k .none):=fun k hk=>by
  have hk:=List.mem_range.mp hk
  simp only[Function.comp]
  rw[Ym,List.getElem?_reverse (by omega +splitMinMax)]
  rw[List.getElem?_toArray,Jc (by omega +splitMinMax)]
  rfl
 have e2:(Yd aq.length).filterMap ((fun x=>aq.toArray[x]?)∘fun k=>aq.length-1-k)=(Yd aq.length).map fun k=>aq.reverse.getD k .none:=by
  exact DE hm
 rw[e2,Jk]
 by_cases hi:i<aq.length
 ·rw[List.getElem?_range hi,Jc (by simpa using hi)]
  simp[List.getD,hi]
 ·rw[List.getElem?_eq_none (by simp;omega),List.getElem?_eq_none (by simp;omega)]
  rfl
section
variable {X:Cx}{e:Expr}{te:TE}{pos p2 p3 p4:Pos}{j:Nat}
def PD (K:Ja)(te:TE):TE:=fun σ H Q=>te σ H fun x H1=>eu fun a xs=>x = .ref a/\bq K H1 a xs/\∀p H',gY H1 p (.lst xs.reverse) H'->Q (.ref p) H'
theorem Vals.rev:∀{xs:List V} {us:List Value},Vals xs us->Vals xs.reverse us.reverse:=by
 intro xs us t
 induction t with
 | nil=>exact .nil
 | cons r _ ih=>
  rw[List.reverse_cons,List.reverse_cons]
  exact ih.append (.cons r .nil)
theorem Iv (K:Ja)(he:PE X e te)(hK:X.K=K:=by rfl):PE X (.Subscript e (.Slice none none (some (.UnaryOp .USub (.Constant (.int 1) j p4) p3)) p2) pos) (PD K te):=by
 subst hK
 intro pins s σ H Q I h
 refine Subscript_ (bz (he s σ H _ I h) fun v s1 hz_ =>?_)
 refine ai.el hz_ _ ?_
 clear hz_
 rintro x H1 I1 r1 q1
 obtain⟨a,xs,rfl,hx,q⟩:=q1
 cases r1
 refine wpAny_Slice ?_
 rw[evalPart_none]
 refine wpAny_pure ?_
 refine wpAny_pure ?_
 have hs:PE X (.UnaryOp .USub (.Constant (.int 1) j p4) p3) (TF (rU fun i =>.int (-i)) (tC (.int 1))):=oN jo ah
 have hp:=dM hs s1 σ H1 (fun o H2=>o=some (-1)/\H2=H1) I1 ⟨1,rfl,-1,rfl,rfl,rfl⟩
 refine bz hp fun vs s3 hz_ =>?_
 refine ai.el hz_ _ ?_
 clear hz_
 rintro o H3 I3 ps eo eh
 subst eo eh
 have I4:Inv X pins σ H3 { s3 with heap:=s3.heap.push { cls := .type "slice",data := .fields #[.none,.none,vs] } }:=I3.kept (t':=s3.toks) fun b ob q=>Jb _ q
 obtain⟨aq,r,ht,hz⟩:=I4.list hx
 have hlen:=r.length
 refine tail_any (ops:=[.ref a,.ref s3.heap.objs.size]) ht.isList.typeIs slot_list_getitem.lookup ?_ (by with_unfolding_all rfl)
 refine wpAny_getItem_list_slice (st:=some (-1)) ht.isList (Heap.IsSliceOf.new ..) .none .none ps (by decide) ?_ (by rw[Jp];omega)
 rw[Df]
 refine⟨.ref _,_,I4.laid (t':=s3.toks) (o := .lst xs.reverse) (fun b ob q=>Jb _ q) (Je _) ?_,rfl,q _ _ ⟨I4.bw.fresh (Je _),rfl⟩⟩
 exact⟨by rw[List.length_reverse];exact hz,_,0,r.rev,Jj _ rfl⟩
end
section
variable {X:Cx}(K:Ja)
theorem MB (hK:X.K=K:=by rfl):eE X (compareOp .In) (Tu K false):=by subst hK;exact AD
end
section
variable {X:Cx}{pins:List (Addr×Obj)}{σ:St}{H:Hp}{s:Shared}{scope:Scope}{Nc Fc:List Str}{js:List Nat}{cl:List (Str×Addr)}{C:Addr}{fp:List Addr}
theorem DB (I:Inv X pins σ H s)(c:gC X scope Nc Fc js)(dH:∀n c,cl.lookup n=some c->X.env.cells.lookup n=some c)(kJ:∀y∈scope.names,y.2 = .free->∃c,cl.lookup y.1=some c)
  (hC:s.heap.objs.size<=C) (hf:∀b∈fp,dU X pins H b) (ho:∀b∈fp,∃o,s.heap.get? b=some o) {h1:Heap} {t1:Nat} {m:Str->Option Value}
  (hk:∀b o,s.heap.get? b=some o->h1.get? b=some o) (hm:h1.Ns C m) :
  Inv (pf X Nc Fc scope cl C s H fp) [] (Jv Nc.length none++dA σ js) H { s with heap:=h1,toks:=t1 }:=by
 refine⟨rE I c dH kJ hC hf ho,rfl,I.bare,Un.kept hk,⟨m,hm,fun i x v e1 e2 e3 =>?_⟩,fun x a e =>?_,I.bw.fresh hC,fun x a e=>I.freeC x a (dH x a e),fun p hp =>?_,I.bw.kept hk,?_⟩
 ·have e1:(Nc++Fc)[i]? = some x:=e1
  have e2:(Jv Nc.length none++dA σ js)[i]? = some (some v):=e2
  by_cases hi:i<Nc.length
  ·rw[Yb (by simpa using hi),Yx] at e2
   split at e2<;>cases e2
  ·rw[Ux (by omega)] at e1
   rw[Ux (by rw[Uu];omega),Uu] at e2
   refine ai.el (c.frees _ _ e1) _ ?_
   rintro lU j hj hN
   have hv: σ[j]? = some (some v):=by
    unfold dA at e2
    rw[Jk,hj] at e2
    have e2:some ((σ[j]?).join)=some (some v):=e2
    cases q: σ[j]? with
    | none=>rw[q] at e2;cases e2
    | some z=>rw[q] at e2;cases e2;rfl
   have kx:=c.free _ (bS lU) rfl
   refine ai.el (I.loc) _ ?_
   rintro m0 hn0 hl0
   have Ng:KZ X.env.scope x:=by
    rcases kx with k|k
    ·exact .inr (.inl k)
    ·exact .inr (.inr k)
   refine ai.el (hl0 j x v hN hv Ng) _ ?_
   rintro u ru lk
   refine⟨u,ru,.inr ⟨?_,?_⟩⟩
   ·rw[mZ];exact dZ lU
   ·obtain⟨a,ha⟩:=kJ _ (bS lU) rfl
    refine⟨a,ha,?_⟩
    rcases lk with ⟨k,_⟩|⟨_,a',ha',hcell⟩
    ·rcases kx with q|q<;>(rw[k] at q;cases q)
    ·have e:=dH _ _ ha
     dsimp only at e
     rw[ha'] at e;cases e
     exact hcell.keeps hk
 ·obtain⟨v,z⟩:=I.cell x a (dH x a e)
  exact⟨v,z.keeps hk⟩
 ·have hp:p∈([]:List (Addr×Obj)):=hp
  cases hp
 ·show(Jv Nc.length none++dA σ js).length=(Nc++Fc).length
  unfold dA
  rw[Jw,Jw,Uu,Jd,c.lens]
end
open PySem.W
def Ov (h base:Heap)(e:Addr)(cls a0:Value)(dx:Option Addr)(fl:Value):Prop:=∃oe vs T oT ts,
 h.get? e=some oe/\oe.cls=cls/\oe.dict=dx/\oe.data = .fields vs/\vs[0]? = some a0/\vs[1]? = some (.ref T)/\base.get? T=none/\T≠e/\h.get? T=some oT/\oT.data = .fields ts/\ts[3]? = some fl
def lX (base:Heap)(l:List Env)(e:Addr)(cls a0:Value)(dx:Option Addr)(h:Heap):Prop:=base.StaysIn h/\base.get? e=none/\h.FunFrames base l/\Ov h base e cls a0 dx .none
def GQ (base:Heap)(l:List Env)(e:Addr)(cls a0:Value)(dx:Option Addr)(L:Addr)(h:Heap):Prop:=base.StaysIn h/\base.get? e=none/\h.FunFrames base l/\Ov h base e cls a0 dx (rawInt L)
theorem lX.own {base h:Heap}{l:List Env}{e:Addr}{cls a0:Value}{dx:Option Addr}(x:lX base l e cls a0 dx h):∃o,h.get? e=some o/\o.cls=cls/\o.dict=dx/\∃vs,o.data = .fields vs:=by
 obtain⟨_,_,_,oe,vs,T,oT,ts,a1,a2,a3,a4,_⟩:=x
 exact⟨oe,a1,a2,a3,vs,a4⟩
section
variable {M:Model}{A:Around}{E:Value->Shared->Prop}{s:Shared}{base:Heap}{env:Env}{outer:List Env}{L e:Addr}{cls a0:Value}{dx:Option Addr}{Q:Unit->Shared->Prop}
theorem mH {oe:Obj}{vs:Array Value}{head:Value}{hn:Bool}(lU:A.frames=some (env::outer))(j9:s.heap.FunFrames base (env::outer))(hf:env.frame=some L)(he:s.heap.get? e=some oe)(fu:base.StaysIn s.heap)(new:base.get? e=none)
  (hd:oe.data = .fields vs) (sz:1<vs.size) (h0:vs[0]? = some a0)
  (q:∀h',base.StaysIn h'->h'.FunFrames base (env::outer)->Ov h' base e oe.cls a0 oe.dict (rawInt L)->s.heap.UpToSlots h'->Q () { s with heap:=h' }) :
  wpAny M A (do let a <-frameOf env;let pl <-entryPlaceOf L hn;let b <-EntryCells.newEntry head a .none (rawInt L) .none pl;setField (.ref e) 1 b) Q E s:=by
 have apart:e∉(env::outer).filterMap (·.frame):=fun m=>by
  obtain⟨_,o,ho,nf⟩:=j9.mem m
  rw[he] at ho;cases ho
  exact nf vs hd
 refine wpAny_bind (wpAny_frameOf_fun lU j9 hf fun h1 so=>wpAny_bind (wpAny_entryPlaceOf fun pl isp =>?_))
 unfold EntryCells.newEntry newFields
 refine wpAny_bind (wpAny_newObj_type ?_ (isp.sizeOk5 _ _ _ _ _))
 obtain⟨tr,etr⟩:∃tr:Obj,tr={ cls := .type "traceback",dict:=none,data := .fields ([head,.ref L,.none,rawInt L,.none]++(if pl.isEmpty then Jv 6 Value.none else pl)).toArray }:=⟨_,rfl⟩
 rw[<-etr]
 have e1:h1.get? e=some oe:=(so.2.1 e apart).trans he
 have oX:base.StaysIn h1:=fun b o x=>(so.2.1 b fun m=>by rw[(j9.mem m).1] at x;cases x).trans (fu b o x)
 have e2:(h1.push tr).get? e=some oe:=Jb _ e1
 refine wpAny_setField e2 hd sz (q _ ?_ ?_ ?_ ?_)
 all_goals have nT:h1.objs.size≠e:=Uh (Jf e1)
 all_goals have kp:∀b o,b≠e->h1.get? b=some o->((h1.push tr).update e (Obj.mapFields (·.setIfInBounds 1 (Value.ref h1.objs.size)))).get? b=some o:=fun b o nb x=>(J3 _ _ (Ne.symm nb)).trans (Jb _ x)
 all_goals have nr:∀b o,s.heap.get? b=some o->(∀ws,o.data ≠ .fields ws)->b≠e:=fun b o x nf z=>(by rw[z,he] at x;cases x;exact nf vs hd)
 ·exact fun b o x=>kp b o (fun z=>by rw[z,new] at x;cases x) (oX b o x)
 ·refine j9.of_keeps fun b o x nf =>?_
  obtain⟨sl,hs⟩:=so.2.2 b o x
  exact⟨_,kp b _ (nr b o x nf) hs,rfl⟩
 ·have d3:=Obj.data_mapFields hd (·.setIfInBounds 1 (Value.ref h1.objs.size))
  have e3:=J2 (Obj.mapFields (·.setIfInBounds 1 (Value.ref h1.objs.size))) e2 (Obj.isFreed_of_fields d3)
  refine⟨_,_,h1.objs.size,tr,_,e3,Obj.cls_mapFields _ _,?_,d3,by rw[Array.getElem?_setIfInBounds_ne (by decide)];exact h0,by simp[sz],oX.fresh,nT,(J3 _ _ (Ne.symm nT)).trans (Jj h1 (by rw[etr];rfl)),by rw[etr],?_⟩
  ·obtain⟨c1,c2,c3,c4⟩:=oe
   cases c3<;>rfl
  ·first
    | (simp;done)
    | (rcases isp with rfl|⟨_,_,_,_,_,_,_,rfl⟩<;>simp)
 ·intro b o x nf
  obtain⟨sl,hs⟩:=so.2.2 b o x
  exact⟨sl,kp b _ (nr b o x nf) hs⟩
theorem wN {oe:Obj}{vs:Array Value}(lU:A.frames=some (env::outer))(j9:s.heap.FunFrames base (env::outer))(hf:env.frame=some L)(he:s.heap.get? e=some oe)(fu:base.StaysIn s.heap)(new:base.get? e=none)
  (hd:oe.data = .fields vs) (h1:vs[1]? = some .none) (h0:vs[0]? = some a0) (q:∀h',GQ base (env::outer) e oe.cls a0 oe.dict L h'->s.heap.UpToSlots h'->Q () { s with heap:=h' }):wpAny M A (noteFrame (.ref e) env) Q E s:=by
 unfold noteFrame
 simp only[hf]
 refine wpAny_bind (wpAny_field he hd h1 ?_)
 rw[if_neg (by decide)]
 exact mH lU j9 hf he fu new hd (Uy.mp h1).1 h0 fun h' k1 k2 k3 k4=>q h' ⟨k1,new,k2,k3⟩ k4
theorem slot_set {T:Addr}{oT:Obj}{ts:Array Value}{x:Value}(hT:s.heap.get? T=some oT)(dT:oT.data = .fields ts)(nT:base.get? T=none)(fu:base.StaysIn s.heap){l:List Env}(j9:s.heap.FunFrames base l):
  (∀b,b≠T->(s.heap.update T (Obj.mapFields (·.setIfInBounds 3 x))).get? b=s.heap.get? b)/\base.StaysIn (s.heap.update T (Obj.mapFields (·.setIfInBounds 3 x)))/\(s.heap.update T (Obj.mapFields (·.setIfInBounds 3 x))).FunFrames base l /\
   ∀b o,s.heap.get? b=some o->(∀ws,o.data ≠ .fields ws)->(s.heap.update T (Obj.mapFields (·.setIfInBounds 3 x))).get? b=some o:=by
 have off:∀b,b≠T->(s.heap.update T (Obj.mapFields (·.setIfInBounds 3 x))).get? b=s.heap.get? b:=fun b nb=>J3 _ _ (Ne.symm nb)
 have kp:∀b o,s.heap.get? b=some o->(∀ws,o.data ≠ .fields ws)->(s.heap.update T (Obj.mapFields (·.setIfInBounds 3 x))).get? b=some o:=fun b o z nf=>
  (off b fun w=>by rw[w,hT] at z;cases z;exact nf ts dT).trans z
 exact⟨off,fun b o z=>(off b fun w=>by rw[w,nT] at z;cases z).trans (fu b o z),j9.of_keeps fun b o z nf=>⟨o,kp b o z nf,rfl⟩,kp⟩
theorem xY (lU:A.frames=some (env::outer))(hf:env.frame=some L)(oZ:lX base (env::outer) e cls a0 dx s.heap)(q:∀h',GQ base (env::outer) e cls a0 dx L h'->s.heap.UpToSlots h'->Q () { s with heap:=h' }):wpAny M A (noteFrame (.ref e) env) Q E s:=by
 obtain⟨fu,new,j9,oe,vs,T,oT,ts,he,rfl,rfl,hd,h0,h1,nT,ne,hT,dT,h3⟩:=oZ
 obtain⟨off,iO,fu2,kp⟩:=slot_set (x := .none) hT dT nT fu j9
 unfold noteFrame
 simp only[hf]
 refine wpAny_bind (wpAny_field he hd h1 ?_)
 rw[if_pos (show(Value.ref T != Value.none)=true by simp)]
 refine wpAny_bind (wpAny_field hT dT h3 ?_)
 rw[if_neg (show ¬((Value.none==rawInt L)=true) by simp[rawInt])]
 refine wpAny_bind (wpAny_setField hT dT (Uy.mp h3).1 ?_)
 refine mH lU fu2 hf ((off e (Ne.symm ne)).trans he) iO new hd (Uy.mp h1).1 h0 fun h' k1 k2 k3 k4=>q h' ⟨k1,new,k2,k3⟩ fun b o z nf=>k4 b o (kp b o z nf) nf
theorem xU {l:List Env}{fl:Value}(fu:base.StaysIn s.heap)(new:base.get? e=none)(j9:s.heap.FunFrames base l)(tr:Ov s.heap base e cls a0 dx fl)(q:∀h',lX base l e cls a0 dx h'->s.heap.UpToSlots h'->Q () { s with heap:=h' }):
  wpAny M A (setFlight (.ref e) none) Q E s:=by
 obtain⟨oe,vs,T,oT,ts,he,rfl,rfl,hd,h0,h1,nT,ne,hT,dT,h3⟩:=tr
 have K2:3<ts.size:=(Uy.mp h3).1
 obtain⟨off,iO,fu2,kp⟩:=slot_set (x:=(none:Option Addr).elim Value.none fun f=>rawInt f) hT dT nT fu j9
 unfold setFlight
 refine wpAny_bind (wpAny_field he hd h1 ?_)
 rw[if_pos (show(Value.ref T != Value.none)=true by simp)]
 have Tj:=Obj.data_mapFields dT (·.setIfInBounds 3 ((none:Option Addr).elim Value.none fun f=>rawInt f))
 exact wpAny_setField hT dT K2 (q _ ⟨iO,new,fu2,oe,vs,T,_,_,(off e (Ne.symm ne)).trans he,rfl,rfl,hd,h0,h1,nT,ne,J2 _ hT (Obj.isFreed_of_fields Tj),Tj,by simp[K2]⟩ fun b o z nf=>⟨o.slots,kp b o z nf⟩)
theorem lX.tail {h:Heap}(x:lX base (env::outer) e cls a0 dx h):lX base outer e cls a0 dx h:=let ⟨a,b,⟨_,_,c⟩,d⟩:=x; ⟨a,b,c,d⟩
theorem A2 (lU:A.frames=some (env::outer))(hf:env.frame=some L)(oZ:lX base (env::outer) e cls a0 dx s.heap)(q:∀h',lX base outer e cls a0 dx h'->s.heap.UpToSlots h'->Q () { s with heap:=h' }):wpAny M A (leaving env (.ref e)) Q E s:=by
 unfold leaving
 exact wpAny_bind (xY lU hf oZ fun h1 hd up=>xU hd.1 hd.2.1 hd.2.2.1 hd.2.2.2 fun h2 fly2 up2=>q h2 fly2.tail (up.trans up2))
theorem qL {oe:Obj}{vs:Array Value}(lU:A.frames=some (env::outer))(j9:s.heap.FunFrames base (env::outer))(hf:env.frame=some L)(he:s.heap.get? e=some oe)(fu:base.StaysIn s.heap)(new:base.get? e=none)
  (hd:oe.data = .fields vs) (h1:vs[1]? = some .none) (h0:vs[0]? = some a0) (q:∀h',lX base outer e oe.cls a0 oe.dict h'->s.heap.UpToSlots h'->Q () { s with heap:=h' }):wpAny M A (leaving env (.ref e)) Q E s:=by
 unfold leaving
 exact wpAny_bind (wN lU j9 hf he fu new hd h1 h0 fun h1 hd up=>xU hd.1 hd.2.1 hd.2.2.1 hd.2.2.2 fun h2 fly2 up2=>q h2 fly2.tail (up.trans up2))
end
theorem bg.ex {P:Program}{w:World}{H:Hp}{h:Heap}{a:Addr}{o:HO}(x:bg P w H h a o):∃q,h.get? a=some q:=by
 cases o with
 | lst xs=>obtain⟨_,_,_,_,e⟩:=x;exact⟨_,e⟩
 | tup xs=>obtain⟨_,_,_,_,e,_⟩:=x;exact⟨_,e⟩
 | dK kvs=>obtain⟨_,_,_,_,_,_,_,e,_⟩:=x;exact⟨_,e⟩
 | dT kvs=>obtain⟨_,_,_,_,_,_,_,e,_⟩:=x;exact⟨_,e⟩
 | set S n=>obtain⟨_,_,_,_,e,_⟩:=x;exact⟨_,e⟩
 | ins C dx fs=>exact⟨_,x.2.2.2.1⟩
 | own y=>exact x
 | xd fs=>obtain⟨_,⟨_,_,_,e,_⟩,_⟩:=x;exact⟨_,e⟩
 | rng lo hi=>obtain⟨_,_,_,e⟩:=x;exact⟨_,e⟩
 | frz ob u=>exact⟨_,x.1⟩
 | tbl ps=>exact⟨_,x⟩
 | met f y=>exact⟨_,x⟩
 | ext φ=>exact x.2.1
theorem gO.part {P:Program}{w:World}{H:Hp}{h h' B:Heap}(x:gO P w H h)(hB:B.StaysIn h)(WH:B.StaysIn h')(iz:∀b u,H b=some u->∃o,B.get? b=some o):gO P w H h':=fun a o e=>
 (x a o e).fu (fun b u hb q=>by
  obtain⟨o',eo⟩:∃o',B.get? b=some o':=by
   rcases hb with hb|hb
   ·subst hb;exact iz _ _ e
   ·exact iz _ _ hb
  have:=hB b o' eo
  rw[q] at this;cases this
  exact WH b _ eo) (fun _ q=>q) fun _ _ q=>q
noncomputable def oY (H:Hp)(a:Addr):Hp:=fun b=>if b=a then none else H b
theorem fq {H:Hp}{a:Addr}:oY H a a=none:=if_pos rfl
theorem cy {H:Hp}{a b:Addr}(h:b≠a):oY H a b=H b:=if_neg h
def nU (P:Program)(w:World)(base:Heap):zV:=fun outer H s E e s'=>D0 fun ea cls t B H' dx=>e = .ref ea/\s'.os=s.os/\AllBare s'.gens/\Un (eW outer) [] H H' s.heap s'.heap/\gO P w H' s'.heap /\
 base.StaysIn B/\(∀b o,s.heap.get? b=some o->b∉eW outer->∃o',B.get? b=some o')/\(∀b u,H' b=some u->∃o',B.get? b=some o')/\lX B outer ea cls (.ref t) dx s'.heap/\E cls dx H'
theorem j3 {base h:Heap}:∀{l:List Env} {b:Addr},h.FunFrames base l->b∈eW l->∃o,h.get? b=some o/\∀vs,o.data ≠ .fields vs:=fun{l b} hl hb=>by
 refine ai.el (hl.mem hb) _ ?_
 rintro _ o e n
 exact⟨o,e,n⟩
section
variable {P:Program}{w:World}{K:Ja}{mg:Str->Option Value}{base:Heap}{N:List Str}{qual:Str}{scope:Scope}{f:Addr}{cd:Value}{A:Around}{outer:List Env}{s0:Shared}{H0:Hp}{E:XK}
theorem xu {pins:List (Addr×Obj)}{σ:St}{H:Hp}{s:Shared}{e t:Addr}{oe:Obj}{vs:Array Value}
  (I:Inv (gU (nU P w base) P w K mg base N qual scope f cd A outer s0 H0 E) pins σ H s) (he:s.heap.get? e=some oe) (new:s0.heap.get? e=none) (hd:oe.data = .fields vs) (v1:vs[1]? = some .none) (v0:vs[0]? = some (.ref t))
  (ND:H e=none∨∃ φ,H e=some (.ext φ)) (hE:E oe.cls oe.dict (oY H e)):(gU (nU P w base) P w K mg base N qual scope f cd A outer s0 H0 E).xe (.ref e) s:=by
 let env:=envOfC qual scope s0.heap.objs.size f cd
 let B:=hideAll s.heap (e::eW (env::outer))
 have jZ:B.StaysIn s.heap:=fun b o q=>of_hideAll _ q
 have Bo:s.heap.FunFrames base (env::outer):=I.stack
 have lU:(A.deeper env).frames=some (env::outer):=I.ok.frames
 have PZ:∀b o,s0.heap.get? b=some o->b≠s0.heap.objs.size:=fun b o q=>Jl (Jf q)
 have C2:∀b o,s0.heap.get? b=some o->b≠e:=fun b o q z=>by rw[z,new] at q;cases q
 have IW:∀b,b∈eW (env::outer)->b=s0.heap.objs.size∨b∈eW outer:=fun b hb=>by
  have:b∈(env::outer).filterMap (·.frame):=hb
  rw[Ye] at this
  exact Jr.mp this
 have V9:∀b o,base.get? b=some o->b≠e:=fun b o q z=>by
  have q0:=I.ok.bs b o q
  exact C2 b _ q0.1 z
 have iz:∀b u,oY H e b=some u->∃o,B.get? b=some o:=fun b u q=>by
  have nb:b≠e:=fun z=>by rw[z,fq] at q;cases q
  rw[cy nb] at q
  obtain⟨o,eo⟩:=(I.bw b u q).ex
  refine⟨o,hideAll_get _ eo fun z =>?_⟩
  rcases Jr.mp z with z|z
  ·exact nb z
  ·have:=I.qQ b z
   rw[q] at this;cases this
 have Oj:base.StaysIn B:=fun b o q=>by
  refine hideAll_get _ (I.bs b o q).1 fun z =>?_
  rcases Jr.mp z with z|z
  ·exact V9 b o q z
  ·have:=(Bo.mem z).1
   rw[q] at this;cases this
 have ub:Un (eW outer) [] H0 H s0.heap s.heap:=I.base
 show wpAny _ _ (leaving env (.ref e)) _ _ _
 refine qL (base:=B) lU (funFrames_hide Bo fun v hv a ha=>Jo _ (List.mem_filterMap.mpr ⟨v,hv,ha⟩)) rfl he jZ (hideAll_none _ (Js ..)) hd v1 v0 fun h' oZ up =>?_
 have hk:∀b o,b≠e->b∉eW (env::outer)->s.heap.get? b=some o->h'.get? b=some o:=fun b o ne hb q=>oZ.1 b o (hideAll_get _ q fun z=>(Jr.mp z).elim ne hb)
 have tY:∀b o,b∈eW (env::outer)->s.heap.get? b=some o->∃sl,h'.get? b=some { o with slots:=sl }:=fun b o hb q=>by
  refine ai.el (j3 Bo hb) _ ?_
  rintro o' e' nf
  rw[q] at e';cases e'
  exact up b o q nf
 have old:∀b o,s0.heap.get? b=some o->b∉eW outer->b∉eW (env::outer):=fun b o q hb z=>(IW b z).elim (PZ b o q) hb
 have NW:gO P w (oY H e) s.heap:=fun b u q=>by
  have nb:b≠e:=fun z=>by rw[z,fq] at q;cases q
  rw[cy nb] at q
  refine(I.bw b u q).fu (fun _ _ _ z=>z) (fun c z =>?_) fun c xs z =>?_
  all_goals
   have nc:c≠e:=fun y=>by
    rw[y] at z
    rcases ND with l|⟨φ,l⟩<;>(rw[l] at z;cases z)
   rw[cy nc];exact z
 have C7:∀b o,H0 b=some o->(∀ φ,H b≠some (.ext φ))->H b≠none->oY H e b=H b:=fun b o q n1 n2=>by
  refine cy fun z =>?_
  rw[z] at n1 n2
  rcases ND with l|⟨φ,l⟩
  ·exact n2 l
  ·exact n1 φ l
 refine⟨e,oe.cls,t,B,oY H e,oe.dict,rfl,I.os,I.bare,⟨?_,?_,?_,?_,?_,?_,?_⟩,NW.part jZ oZ.1 iz,Oj,?_,iz,oZ,hE⟩
 ·exact fun b o q n hb l7=>hk b o (C2 b o q) (old b o q hb) (ub.keep b o q n hb l7)
 ·intro b o q n hb l7
  obtain⟨sl,e1⟩:=ub.slot b o q n hb l7
  obtain⟨sl',e2⟩:=tY b _ (by show b∈(env::outer).filterMap (·.frame);rw[Ye];exact Jo _ hb) e1
  exact⟨sl',e2⟩
 ·intro b o q n l7
  rw[cy (C2 b o q)]
  exact ub.free b o q n l7
 ·intro b o q l7
  obtain⟨o1,e1⟩:=ub.there b o q l7
  by_cases hb:b∈eW (env::outer)
  ·obtain⟨sl,e2⟩:=tY b o1 hb e1
   exact⟨_,e2⟩
  ·exact⟨o1,hk b o1 (C2 b o q) hb e1⟩
 ·intro b xs q
  have z:=ub.iq b xs q
  rw[C7 b _ q (fun φ y=>by rw[z] at y;cases y) (fun y=>by rw[z] at y;cases y)]
  exact z
 ·intro b o u q
  have z:=ub.gV b o u q
  rw[C7 b _ q (fun φ y=>by rw[z] at y;cases y) (fun y=>by rw[z] at y;cases y)]
  exact z
 ·intro b ps q
  obtain⟨m,z⟩:=ub.iY b ps q
  refine⟨m,?_⟩
  rw[C7 b _ q (fun φ y=>by rw[z] at y;cases y) (fun y=>by rw[z] at y;cases y)]
  exact z
 ·intro b o q hb
  obtain⟨o1,e1⟩:=ub.there b o q (by simp)
  exact⟨o1,hideAll_get _ e1 fun z=>(Jr.mp z).elim (C2 b o q) (old b o q hb)⟩
theorem qg {E':XK}(hE:∀c d H,E' c d H->E c d H):Passes (nU P w base) (gU (nU P w base) P w K mg base N qual scope f cd A outer s0 H0 E) E':=by
 intro pins σ H s ev s' I h
 let env:=envOfC qual scope s0.heap.objs.size f cd
 obtain⟨e,cls,t,B,H',dx,rfl,os',bare',u1,v7,Oj,hold,iz,oZ,q⟩:=h
 have lU:(A.deeper env).frames=some (env::outer):=I.ok.frames
 have ub:Un (eW outer) [] H0 H s0.heap s.heap:=I.base
 have u1:Un (eW (env::outer)) [] H H' s.heap s'.heap:=u1
 have oZ:lX B (env::outer) e cls (.ref t) dx s'.heap:=oZ
 have hold:∀b o,s.heap.get? b=some o->b∉eW (env::outer)->∃o',B.get? b=some o':=hold
 have PZ:∀b o,s0.heap.get? b=some o->b≠s0.heap.objs.size:=fun b o q=>Jl (Jf q)
 have IW:∀b,b∈eW (env::outer)->b=s0.heap.objs.size∨b∈eW outer:=fun b hb=>by
  have:b∈(env::outer).filterMap (·.frame):=hb
  rw[Ye] at this
  exact Jr.mp this
 have dH:∀b,b∈eW outer->b∈eW (env::outer):=fun b hb=>by
  show b∈(env::outer).filterMap (·.frame)
  rw[Ye];exact Jo _ hb
 have old:∀b o,s0.heap.get? b=some o->b∉eW outer->b∉eW (env::outer):=fun b o q hb z=>(IW b z).elim (PZ b o q) hb
 have Bo:s'.heap.FunFrames B (env::outer):=oZ.2.2.1
 have Vi:s'.os=s0.os:=os'.trans I.os
 show wpAny _ _ (leaving env (.ref e)) _ _ _
 refine A2 (base:=B) lU rfl oZ fun h' zd up =>?_
 have step:∀b o,s.heap.get? b=some o->b∉eW (env::outer)->∀o1,s'.heap.get? b=some o1->h'.get? b=some o1:=fun b o q hb o1 e1=>by
  obtain⟨o',eo⟩:=hold b o q hb
  have e2:=oZ.1 b o' eo
  rw[e1] at e2;cases e2
  exact zd.1 b _ eo
 have tY:∀b o,b∈eW (env::outer)->s'.heap.get? b=some o->∃sl,h'.get? b=some { o with slots:=sl }:=fun b o hb q=>by
  refine ai.el (j3 Bo hb) _ ?_
  rintro o' e' nf
  rw[q] at e';cases e'
  exact up b o q nf
 refine⟨e,cls,t,B,H',dx,rfl,Vi,bare',⟨?_,?_,?_,?_,?_,?_,?_⟩,v7.part oZ.1 zd.1 iz,Oj,?_,iz,zd,hE _ _ _ q⟩
 ·intro b o q n hb l7
  have e1:=ub.keep b o q n hb l7
  have n1:=ub.free b o q n l7
  have xT:=old b o q hb
  exact step b o e1 xT o (u1.keep b o e1 n1 xT (by simp))
 ·intro b o q n hb l7
  obtain⟨sl,e1⟩:=ub.slot b o q n hb l7
  have n1:=ub.free b o q n l7
  obtain⟨sl1,e2⟩:=u1.slot b _ e1 n1 (dH b hb) (by simp)
  obtain⟨sl2,e3⟩:=tY b _ (dH b hb) e2
  exact⟨sl2,e3⟩
 ·intro b o q n l7
  have n1:=ub.free b o q n l7
  obtain⟨o1,e1⟩:=ub.there b o q l7
  exact u1.free b o1 e1 n1 (by simp)
 ·intro b o q l7
  obtain⟨o1,e1⟩:=ub.there b o q l7
  obtain⟨o2,e2⟩:=u1.there b o1 e1 (by simp)
  by_cases hb:b∈eW (env::outer)
  ·obtain⟨sl,e3⟩:=tY b o2 hb e2
   exact⟨_,e3⟩
  ·exact⟨o2,step b o1 e1 hb o2 e2⟩
 ·exact fun b xs q=>u1.iq b xs (ub.iq b xs q)
 ·exact fun b o u q=>u1.gV b o u (ub.gV b o u q)
 ·intro b ps q
  obtain⟨m1,e1⟩:=ub.iY b ps q
  obtain⟨m2,e2⟩:=u1.iY b _ e1
  exact⟨m1++m2,by rw[e2,Array.append_assoc]⟩
 ·intro b o q hb
  obtain⟨o1,e1⟩:=ub.there b o q (by simp)
  exact hold b o1 e1 (old b o q hb)
end
def Et (X:Cx)(pins:List (Addr×Obj))(σ0:St)(E':XK):Value->Shared->Prop:=fun e s'=>o7 fun kE H s=>Inv X (pins++kE) σ0 H s/\nU X.prog X.w X.base X.stack H s E' e s'
noncomputable def xB (X:Cx)(pins:List (Addr×Obj))(σ0:St)(E':XK):Cx:={ X with pn:=X.pn++pins,xe:=Et X pins σ0 E' }
noncomputable def xH (X:Cx)(e:Addr):Cx:={ X with A:=X.A.mark (some (.ref e)),calm:=false,xe:=fun _ _=>False }
section
variable {X:Cx}{pins kE:List (Addr×Obj)}{σ σ0:St}{E':XK}{H:Hp}{s:Shared}
theorem Inv.W6 (I:Inv X pins σ H s):Inv (xB X pins σ0 E') [] σ H s:=
 ⟨⟨I.ok.mod,I.ok.kind,I.ok.glob,I.ok.blt,I.ok.above,I.ok.inj,I.ok.has,I.ok.cab,I.ok.hd,I.ok.frames,I.ok.stk,I.ok.exf,I.ok.bs,I.ok.bsz,I.ok.noex,I.ok.exfs,I.ok.i7,I.ok.frf⟩,I.os,I.bare,I.base,I.loc,I.cell,I.free,I.freeC,
  fun p hp=>I.pin p (by have hp:p∈(X.pn++pins)++[]:=hp;simpa using hp),I.bw,I.len⟩
theorem Inv.L1 (I:Inv (xB X pins σ0 E') kE σ H s):Inv X (pins++kE) σ H s:=
 ⟨⟨I.ok.mod,I.ok.kind,I.ok.glob,I.ok.blt,I.ok.above,I.ok.inj,I.ok.has,I.ok.cab,I.ok.hd,I.ok.frames,I.ok.stk,I.ok.exf,I.ok.bs,I.ok.bsz,I.ok.noex,I.ok.exfs,I.ok.i7,I.ok.frf⟩,I.os,I.bare,I.base,I.loc,I.cell,I.free,I.freeC,
  fun p hp=>I.pin p (by show p∈(X.pn++pins)++kE;simpa [Y8] using hp),I.bw,I.len⟩
theorem Inv.SS {e:Addr}(I:Inv X pins σ H s):Inv (xH X e) pins σ H s:=
 ⟨⟨I.ok.mod,I.ok.kind,I.ok.glob,I.ok.blt,I.ok.above,I.ok.inj,I.ok.has,I.ok.cab,fun z=>Bool.noConfusion z,I.ok.frames,I.ok.stk,I.ok.exf,I.ok.bs,I.ok.bsz,I.ok.noex,I.ok.exfs,I.ok.i7,I.ok.frf⟩,I.os,I.bare,I.base,I.loc,I.cell,I.free,I.freeC,I.pin,I.bw,I.len⟩
theorem Inv.Oh {e:Addr}(k:X.Ok)(I:Inv (xH X e) pins σ H s):Inv X pins σ H s:=
 ⟨k,I.os,I.bare,I.base,I.loc,I.cell,I.free,I.freeC,I.pin,I.bw,I.len⟩
def yR (σ0:St)(sp:Sp)(E:XK)(t:TA):TE:=fun σ H Q =>σ = σ0/\t σ H fun vs H1=>sp vs H1 Q E
theorem Hz {k:Nat}{f:Addr}{fd:FuncData}{ps:List Str}{sp:Sp}{x:Str}{e:Expr}{es:List Expr}{t:TA}{p pos:Pos}(F:bh X.prog X.w X.K X.mg X.base (nU X.prog X.w X.base) k f fd ps sp)(hr:cG k X.A)(hg:Gl X x)(hm:X.mg x=some (.ref f))
  (hk:Ur X.K (.ref f)=true) (hb:Binds X.K fd ps []) (ha:PA (xB X pins σ0 E') (e::es) t) (nP:(x==("__debug__" : Str))=false:=by decide)
  (he:starEach (e::es) X.env=(false,eval e X.env)::starEach es X.env:=by rfl) (pJ:(backTo pos (starEach es X.env)).any (·.1)=false:=by rfl) :
  PE (xB X pins σ0 E') (.Call (.Name x p) (e::es) [] pos) (yR σ0 sp E' t):=by
 intro pl s σ H Q I h
 obtain⟨hσ,h⟩:=h
 subst hσ
 refine wpAny_Call_Name_kw (gN (X:=xB X pins σ E') I hg hm ?_ nP)
 refine PySem.W.callWith_K (h₀:=X.base) I.ok.mod.xF hk (bz (ha s σ H _ I h) fun us s1 hz_=>ai.el hz_ _ fun vs H1 I1 r q=>⟨I1.gT,?_⟩) he pJ
 have J1:Inv X (pins++pl) σ H1 s1:=I1.L1
 have hl:us.length=ps.length:=by rw[<-r.length];exact F.len _ _ _ _ q
 have LM:=hb s1 us J1.gT (by simpa using hl)
 refine wpAny_call (codeAny_mono (F.run X.A X.stack s1 H1 ⟨us,[]⟩ us vs Q E' hr J1.FJ (by simpa using LM) r q) fun r s' hq =>?_)
 cases r with
 | error e=>exact⟨pl,H1,s1,J1,hq⟩
 | ok fl=>
  cases fl with
  | ret u=>exact I1.after hq
  | next=>exact False.elim hq
  | brk=>exact False.elim hq
  | cont=>exact False.elim hq
end
theorem Un.land {st:List Env}{H H':Hp}{h h1 h3 B:Heap}(u:Un (eW st) [] H H' h h1)(hold:∀b o,h.get? b=some o->b∉eW st->∃o',B.get? b=some o')(k1:B.StaysIn h1)(k3:B.StaysIn h3)(hf:h1.FunFrames B st)(up:h1.UpToSlots h3):
  Un (eW st) [] H H' h h3:=by
 have step:∀b o,h.get? b=some o->b∉eW st->∀o1,h1.get? b=some o1->h3.get? b=some o1:=fun b o q hb o1 e1=>by
  obtain⟨o',eo⟩:=hold b o q hb
  have e2:=k1 b o' eo
  rw[e1] at e2;cases e2
  exact k3 b _ eo
 have sl:∀b o,b∈eW st->h1.get? b=some o->∃l,h3.get? b=some { o with slots:=l }:=fun b o hb q=>by
  refine ai.el (j3 hf hb) _ ?_
  rintro o' e' nf
  rw[q] at e';cases e'
  exact up b o q nf
 refine⟨fun b o q n hb hx=>step b o q hb o (u.keep b o q n hb hx),fun b o q n hb hx =>?_,u.free,fun b o q hx =>?_,u.iq,u.gV,u.iY⟩
 ·obtain⟨l1,e1⟩:=u.slot b o q n hb hx
  obtain⟨l2,e2⟩:=sl b _ hb e1
  exact⟨l2,e2⟩
 ·obtain⟨o1,e1⟩:=u.there b o q hx
  by_cases hb:b∈eW st
  ·obtain⟨l,e2⟩:=sl b o1 hb e1
   exact⟨_,e2⟩
  ·exact⟨o1,step b o q hb o1 e1⟩
theorem zj {M:Model}{h:Heap}{e:Addr}{o:Obj}(he:h.get? e=some o):Looks M h (typeOf (.ref e)) o.cls:=by
 exact(Looks.ld he).andThen .now
section
variable {X:Cx}{L:Addr}{pins:List (Addr×Obj)}{σ:St}{H:Hp}{s:Shared}
theorem iT {M:Model}{A:Around}{E:Value->Shared->Prop}{i:Nat}{n:Str}{pos:Pos}{Q:Unit->Shared->Prop}(I:Inv X pins σ H s)(hN:X.N.Nodup)(hi:X.N[i]? = some n)(FY:X.env.kindOf n=some .local)
  (h:∀s',Inv X pins (σ.set i none) H s'->Q () s'):wpAny M A (do bindName X.env n .none;unbindBehindTheSuite X.env n pos) Q E s:=by
 refine ai.el (id I.loc) _ ?_
 rintro m hn hl
 have hp:(X.env.scope.kind == .class||(X.env.scope.kind == .module&&X.env.locals != X.env.globals))=false:=by rw[I.ok.kind];rfl
 obtain⟨oL,_,_,hoL,_⟩:=id hn
 refine wpAny_nameGoes_keeps FY hn hp fun h' v hn' hs=>h _ ?_
 have off:∀b,b≠X.env.locals->h'.get? b=s.heap.get? b:=fun b hb=>hs.2 b hb
 have old:∀b o,X.s₀.heap.get? b=some o->b≠X.env.locals:=fun b o e=>Jl (Jn (Jf e) I.ok.above)
 have Kj:∀b u,H b=some u->b≠X.env.locals:=fun b u e z=>by have:=I.free;rw[<-z,e] at this;cases this
 refine⟨I.ok,I.os,I.bare,⟨fun b o e n hb hx =>?_,fun b o e n hb hx =>?_,I.base.free,fun b o e hx =>?_,I.base.iq,I.base.gV,I.base.iY⟩,⟨_,hn',fun j y w e1 e2 e3 =>?_⟩,fun y c e =>?_,I.free,I.freeC,fun p hp =>?_,?_,by simpa using I.len⟩
 ·rw[off b (old b o e)];exact I.base.keep b o e n hb hx
 ·rw[off b (old b o e)];exact I.base.slot b o e n hb hx
 ·rw[off b (old b o e)];exact I.base.there b o e hx
 ·have hj:j≠i:=fun z=>by
   subst z
   have iA:j < σ.length:=by rw[I.len];exact(Jq.mp hi).1
   rw[U9 iA] at e2
   cases e2
  have hy:y≠n:=fun z=>hj (oB hN e1 (z▸hi))
  rw[U7 (Ne.symm hj)] at e2
  refine ai.el (hl j y w e1 e2 e3) _ ?_
  rintro u ru lk
  refine⟨u,ru,?_⟩
  rcases lk with ⟨k1,k2⟩|⟨k1,c,k2,k3⟩
  ·exact .inl ⟨k1,by show(if y=n then v else m y)=some u;rw[if_neg hy];exact k2⟩
  ·refine .inr ⟨k1,c,k2,?_⟩
   have hc:c≠X.env.locals:=I.E6 y c k2
   exact k3.sameBut hs hc
 ·obtain⟨w,z⟩:=I.cell y c e
  exact⟨w,z.sameBut hs (I.E6 y c e)⟩
 ·refine ai.el (I.pin p hp) _ ?_
  rintro p1 p2 p3 p4 p5
  exact⟨by rw[off _ p3];exact p1,p2,p3,p4,p5⟩
 ·intro b u e
  refine(I.bw b u e).fu (fun c w hc q =>?_) (fun _ q=>q) fun _ _ q=>q
  rw[off c (by
   rcases hc with hc|hc
   ·subst hc;exact Kj _ _ e
   ·exact Kj _ _ hc)]
  exact q
end
noncomputable def MA (e:Addr)(cls:Value):HO := .ext fun h=>∃o,h.get? e=some o/\o.cls=cls
noncomputable def Mb (e:Addr)(cls:Value)(d:Addr):HO := .ext fun h=>∃o,h.get? e=some o/\o.cls=cls/\o.dict=some d/\notCls o=true
noncomputable def kB (e:Addr)(cls:Value):Option Addr->HO
 | none=>MA e cls
 | some d=>Mb e cls d
theorem Cw {P:Program}{w:World}{H:Hp}{h:Heap}{e:Addr}{o:Obj}{cls:Value}{dx:Option Addr}{vs:Array Value}(h1:h.get? e=some o)(h2:o.cls=cls)(h3:o.dict=dx)(h4:o.data = .fields vs):bg P w H h e (kB e cls dx):=by
 cases dx with
 | none=>exact⟨⟨o,h1,h2⟩,⟨o,h1⟩,fun a b ⟨o,e1,r⟩ k=>⟨o,k _ e1,r⟩⟩
 | some d=>exact⟨⟨o,h1,h2,h3,by obtain⟨_,_,dt,_⟩:=o;cases h4;rfl⟩,⟨o,h1⟩,fun a b ⟨o,e1,r⟩ k=>⟨o,k _ e1,r⟩⟩
section
variable {X:Cx}{L:Addr}{pins:List (Addr×Obj)}{σ:St}{H:Hp}{s:Shared}
theorem Inv.wj {e:Addr}{o:HO}(I:Inv X pins σ H s)(h0:H e=none)(h1:e≠X.env.locals)(h2:∀x c,X.env.cells.lookup x=some c->c≠e)(h3:∀p∈X.pn++pins,p.1≠e)(h4:∀b u,X.s₀.heap.get? b=some u->b≠e)
  (new:bg X.prog X.w (upd H e o) s.heap e o):Inv X pins σ (upd H e o) s:=by
 refine⟨I.ok,I.os,I.bare,⟨I.base.keep,I.base.slot,fun b u q n hx =>?_,I.base.there,fun b xs q =>?_,fun b u xs q =>?_,fun b ps q =>?_⟩,I.loc,I.cell,?_,fun x c q =>?_,fun p hp =>?_,I.bw.adopt h0 new,I.len⟩
 ·rw[aj (h4 b u q)];exact I.base.free b u q n hx
 ·have z:=I.base.iq b xs q
  rw[aj (aw z h0)];exact z
 ·have z:=I.base.gV b u xs q
  rw[aj (aw z h0)];exact z
 ·obtain⟨m,z⟩:=I.base.iY b ps q
  exact⟨m,by rw[aj (aw z h0)];exact z⟩
 ·rw[aj (Ne.symm h1)];exact I.free
 ·rw[aj (h2 x c q)];exact I.freeC x c q
 ·obtain⟨p1,p2,p3⟩:=I.pin p hp
  exact⟨p1,by rw[aj (h3 p hp)];exact p2,p3⟩
noncomputable def Ends.gone (D:Ends)(j:Nat):Ends:={ nx:=fun σ H=>D.nx (σ.set j none) H,rt:=D.rt,bk:=fun σ H=>D.bk (σ.set j none) H,ct:=fun σ H=>D.ct (σ.set j none) H }
def GS (K:Ja)(C:Addr)(j:Nat)(tb:St->XK->TS)(th:TS):TS:=fun D σ H=>∃E':XK,tb σ E' D σ H /\
 ∀cls dx H',E' cls dx H'->exmOne K cls (.ref C)=some true/\∀e,H' e=none->th (D.gone j) (σ.set j (some (.ref e))) (upd H' e (kB e cls dx))
theorem FQ {c n:Str}{j:Nat}{C:Addr}{body G0:List Stmt}{b0:Stmt}{tb:St->XK->TS}{th:TS}{np hp pos:Pos}(jZ:X.stack=X.env::X.outer)(WE:X.env.frame=some L)(hN:X.N.Nodup)(hj:X.N[j]? = some n)(FY:X.env.kindOf n=some .local)
  (hg:Gl X c) (hm:X.mg c=some (.ref C)) (hb:∀pins σ0 E',vk (xB X pins σ0 E') body (tb σ0 E')) (hh:∀e,vk (xH X e) (b0::G0) th) (hd:(c==("__debug__" : Str))=false:=by decide) (hex:X.ex=[]:=by rfl) :
  PS X (.Try body [.ExceptHandler (some (.Name c np)) (some n) (b0::G0) hp] [] [] pos) (GS X.K C j tb th):=by
 intro pins s σ H D I h
 obtain⟨E',xT,hc⟩:=h
 refine wpAny_Try_except (wpAny_mono (hb pins σ E' s σ H D I.W6 xT) (fun f s1 q =>?_) fun ev s1 q =>?_)
 ·cases f with
  | next=>
   obtain⟨σ',H',J,q⟩:=q
   have J:=J.L1
   rw[Uw] at J
   exact wpAny_execs_nil ⟨σ',H',J,q⟩
  | brk=>
   obtain⟨σ',H',J,q⟩:=q
   have J:=J.L1
   rw[Uw] at J
   exact⟨σ',H',J,q⟩
  | cont=>
   obtain⟨σ',H',J,q⟩:=q
   have J:=J.L1
   rw[Uw] at J
   exact⟨σ',H',J,q⟩
  | ret u=>
   obtain⟨v,σ',H',J,r,q⟩:=q
   have J:=J.L1
   rw[Uw] at J
   exact⟨v,σ',H',J,r,q⟩
 ·obtain⟨kE,H1,s0,J,ea,cls,t,B,H',dx,rfl,os',bare',u1,v7,Oj,hold,iz,oZ,q⟩:=q
  obtain⟨hx,ht⟩:=hc _ _ _ q
  have lU:X.A.frames=some (X.env::X.outer):=by rw[<-jZ];exact J.ok.frames
  have Tg:B.get? ea=none:=oZ.2.1
  have xr:∃oe vs,s1.heap.get? ea=some oe/\oe.data = .fields vs:=by
   refine ai.el (oZ.own) _ ?_
   rintro oe e1 _ _ vs e3
   exact⟨oe,vs,e1,e3⟩
  have Wr:ea∉eW X.stack:=fun z=>by
   refine ai.el (j3 oZ.2.2.1 z) _ ?_
   rintro o e1 e2
   refine ai.el (xr) _ ?_
   rintro oe vs e3 e4
   rw[e1] at e3;cases e3
   exact e2 vs e4
  have Gg:∀b o,s0.heap.get? b=some o->b≠ea:=fun b o e z=>by
   subst z
   obtain⟨o',e'⟩:=hold b o e Wr
   rw[Tg] at e';cases e'
  have Tz:H' ea=none:=by
   cases e:H' ea with
   | none=>rfl
   | some u=>obtain⟨o',e'⟩:=iz _ _ e;rw[Tg] at e';cases e'
  have zd:=oZ
  rw[jZ] at zd
  refine xY lU WE zd fun h4 held4 up4 =>?_
  refine xU held4.1 held4.2.1 held4.2.2.1 held4.2.2.2 fun h5 fly5 up5 =>?_
  have at_:∀{h9:Heap},B.StaysIn h9->s1.heap.UpToSlots h9->Inv X pins σ H' { s1 with heap:=h9 }:=fun{h9} k9 up9=>
   (J.DN (s':={ s1 with heap:=h9 }) (ch:=[]) os' (u1.land hold oZ.1 k9 oZ.2.2.1 up9) (v7.part oZ.1 k9 iz) bare' (fun b z=>absurd z (by simp))).eZ
  have J5:=at_ fly5.1 (up4.trans up5)
  obtain⟨ob,OX,wD,_⟩:=fly5.own
  refine wpAny_handleBy_cons (codeAny_handlers_test (gN (X:=xH X ea) J5.SS hg hm ?_ hd)) (by intro z;cases z)
  refine exm_one (K:=X.K) J5.gT (by rw[<-wD];exact zj OX) hx _ _ _ _ (fun b o z=>z) ?_
  refine codeAny_handlers_suite_as (xU fly5.1 fly5.2.1 fly5.2.2.1 fly5.2.2.2 fun h6 fly6 up6 =>?_)
  have J6:=at_ fly6.1 ((up4.trans up5).trans up6)
  refine ai.el (fly6.own) _ ?_
  rintro o6 ho6 hc6 KO w6 hw6
  have K6:Inv X pins σ (upd H' ea (kB ea cls dx)) { s1 with heap:=h6 }:=by
   refine J6.wj Tz (fun z =>?_) (fun x k e =>?_) (fun p hp =>?_) (fun b u e =>?_) (Cw ho6 hc6 KO hw6)
   ·obtain⟨m,⟨oL,_,_,e,_⟩,_⟩:=J.loc
    exact Gg _ _ e z.symm
   ·obtain⟨v,o,e1,_⟩:=J.cell x k e
    exact Gg _ _ e1
   ·exact Gg _ _ (J.pin p (by
     have hp:p∈X.pn++pins:=hp
     rcases U2.mp hp with z|z
     ·exact Yj _ z
     ·exact Jx _ (Yj _ z))).1
   ·obtain⟨o',e'⟩:=J.base.there b u e (by rw[hex];simp)
    exact Gg _ _ e'
  refine fV (X:=xH X ea) (K6.SS) hN hj (.inl FY) (v := .ref ea) rfl (fun s7 K7 =>?_) (.inr FY)
  refine wpAny_mono (hh ea _ _ _ (D.gone j) K7 (ht ea Tz)) (fun f s8 q8 =>?_) fun _ _ z=>False.elim z
  cases f with
  | next=>obtain⟨σ',H8,J8,q8⟩:=q8;exact iT (J8.Oh J.ok) hN hj FY fun s9 J9=>⟨_,_,J9,q8⟩
  | brk=>obtain⟨σ',H8,J8,q8⟩:=q8;exact iT (J8.Oh J.ok) hN hj FY fun s9 J9=>⟨_,_,J9,q8⟩
  | cont=>obtain⟨σ',H8,J8,q8⟩:=q8;exact iT (J8.Oh J.ok) hN hj FY fun s9 J9=>⟨_,_,J9,q8⟩
  | ret u=>obtain⟨v,σ',H8,J8,r,q8⟩:=q8;exact iT (J8.Oh J.ok) hN hj FY fun s9 J9=>⟨v,_,_,J9,r,q8⟩
end
section
variable {P:Program}{w:World}{K:Ja}{mg:Str->Option Value}{base:Heap}
theorem bU.NA {x qual:Str}{st:Stmt}{f:Addr}{fd:FuncData}{N ps:List Str}{k:Nat}{sp:Sp}(F:bU K x qual st f fd)(S:aB N ps (ak st))(len:∀vs H Q E,sp vs H Q E->vs.length=ps.length)
  (uI:∀(cH:Value) (A:Around) (outer:List Env) (s:Shared) (H:Hp) (vs:List V) (Q:VK) (E:XK),cG k (A.deeper (envOfC qual (ak st) s.heap.objs.size f cH))->sp vs H Q E ->
   ∃t,vk (gU (nU P w base) P w K mg base N qual (ak st) f cH A outer s H E) (cB st) t/\t { nx:=fun _ H'=>Q .non H',rt:=Q } (start N vs) H):bh P w K mg base (nU P w base) (k+1) f fd ps sp:=by
 refine ai.el (F.ex) _ ?_
 rintro oc od kV doc pm an cH ct Ap rfl lk vO
 exact GK lk vO S len fun A outer s H vs Q E hr D7=>uI cH A outer s H vs Q E hr D7
structure xD (P:Program)(w:World)(K:Ja)(mg:Str->Option Value)(base:Heap)(k:Nat)(x:Str)(ps:List Str)(sp:Sp):Prop where
 ex:∃f fd,bh P w K mg base (nU P w base) k f fd ps sp/\Binds K fd ps []/\Ur K (.ref f)=true/\mg x=some (.ref f)
theorem xD.mono {j k:Nat}{x:Str}{ps:List Str}{sp:Sp}(F:xD P w K mg base j x ps sp)(h:j<=k):xD P w K mg base k x ps sp:=by
 refine ai.el (F.ex) _ ?_
 rintro f fd a b c d
 exact⟨f,fd,a.mono h,b,c,d⟩
theorem DR {N:List Str}{qual:Str}{scope:Scope}{fa:Addr}{cd:Value}{A:Around}{outer:List Env}{s0:Shared}{H0:Hp}{E E':XK}{k:Nat}{x:Str}{ps:List Str}{sp:Sp}{p pos:Pos}{e:Expr}{es:List Expr}{t:TA}
  (F:xD P w K mg base k x ps sp) (hr:cG k (A.deeper (envOfC qual scope s0.heap.objs.size fa cd))) (hg:Gl (gU (nU P w base) P w K mg base N qual scope fa cd A outer s0 H0 E) x) (hE:∀c d H,E' c d H->E c d H)
  (ha:PA (gU (nU P w base) P w K mg base N qual scope fa cd A outer s0 H0 E) (e::es) t) (nP:(x==("__debug__" : Str))=false:=by decide)
  (he:starEach (e::es) (envOfC qual scope s0.heap.objs.size fa cd)=(false,eval e (envOfC qual scope s0.heap.objs.size fa cd))::starEach es (envOfC qual scope s0.heap.objs.size fa cd):=by rfl)
  (pJ:(backTo pos (starEach es (envOfC qual scope s0.heap.objs.size fa cd))).any (·.1)=false:=by rfl) :
  PE (gU (nU P w base) P w K mg base N qual scope fa cd A outer s0 H0 E) (.Call (.Name x p) (e::es) [] pos) (tN sp [] E' t):=by
 refine ai.el (F.ex) _ ?_
 rintro f fd a b c d
 exact ym (X:=gU (nU P w base) P w K mg base N qual scope fa cd A outer s0 H0 E) a hr hg d c b .nil (qg hE) ha nP he pJ
theorem Ij {X:Cx}{pins:List (Addr×Obj)}{σ0:St}{E':XK}{k:Nat}{x:Str}{ps:List Str}{sp:Sp}{p pos:Pos}{e:Expr}{es:List Expr}{t:TA}(F:xD X.prog X.w X.K X.mg X.base k x ps sp)(hr:cG k X.A)(hg:Gl X x)
  (ha:PA (xB X pins σ0 E') (e::es) t) (nP:(x==("__debug__" : Str))=false:=by decide) (he:starEach (e::es) X.env=(false,eval e X.env)::starEach es X.env:=by rfl) (pJ:(backTo pos (starEach es X.env)).any (·.1)=false:=by rfl) :
  PE (xB X pins σ0 E') (.Call (.Name x p) (e::es) [] pos) (yR σ0 sp E' t):=by
 refine ai.el (F.ex) _ ?_
 rintro f fd a b c d
 exact Hz a hr hg d c b ha nP he pJ
end
theorem xD.calm {P:Program}{w:World}{K:Ja}{mg:Str->Option Value}{base:Heap}{k:Nat}{x:Str}{ps:List Str}{sp Hf:Sp}(F:xD P w K mg base k x ps sp)(h:∀vs H Q E,Hf vs H Q E->sp vs H Q (fun _ _ _=>False)):Fn P w K mg base k x ps Hf:=by
 refine ai.el (F.ex) _ ?_
 rintro f fd a b c d
 refine⟨f,fd,⟨fun vs H Q E q=>a.len _ _ _ _ (h _ _ _ _ q),fun A outer s H args us vs Q E hr he hb hv hs=>codeAny_mono (a.run A outer s H args us vs Q _ hr he hb hv (h _ _ _ _ hs)) fun r s' q =>?_⟩,b,c,d⟩
 cases r with
 | error e=>obtain⟨_,_,_,_,_,_,_,_,_,_,_,_,_,_,_,z⟩:=q;exact z
 | ok fl=>cases fl<;>exact q
open PySem.Calls Builtin Builtin.ObjectAttr Builtin.Getset_descriptor
def ExcAt (e C:Addr)(h:Heap):Prop:=∃o,h.get? e=some o/\o.cls = .ref C
structure iC (K:Frag)(C:Addr):Prop where
 cl:(clsIn K C).isSome=true
 ga:findIn K (.ref C) "__getattribute__" = some (some (.builtin "BaseException.__getattribute__"))
 gt:findIn K (.ref C) "__getattr__" = some none
 ca:findIn K (.ref C) "__class__" = some (some (.builtin "object.__class__"))
 cg:specialIn K (.builtin "object.__class__") "__get__" = some (some (.builtin "getset_descriptor.__get__"))
 ct:takesIn K (.builtin "object.__class__")=some true
 mo:mroIn K C (.type "object")=some true
 mb:mroIn K C (.type "BaseException")=some true
section
variable {K:Frag}{e C:Addr}
theorem gh {M:Model}{h:Heap}(p:ExcAt e C h):Looks M h (typeOf (.ref e)) (.ref C):=by
 obtain⟨o,h1,h2⟩:=p
 exact h2▸(Looks.ld h1).andThen .now
theorem BW {M:Model}{h:Heap}{self:Value}(X:K.In h)(O:iC K C):Looks M h (find self (.ref C) "__class__") (.bind (.builtin "getset_descriptor.__get__") (.builtin "object.__class__")):=by
 have a:=looks_findIn (M:=M) X O.ca
 have g:Looks M h (getOf (some (.builtin "object.__class__"))) (some (.builtin "getset_descriptor.__get__")):=looks_specialIn X O.cg
 have t:=looks_takesIn (M:=M) X O.ct
 have d:Looks M h (dataDescriptor? (some (.builtin "object.__class__")) (some (.builtin "getset_descriptor.__get__"))) (some (.builtin "getset_descriptor.__get__",.builtin "object.__class__")):=t.andThen .now
 exact a.andThen (g.andThen (d.andThen (Looks.tag .now)))
variable {prog:Program}{w:World}{A:Around}{E:Value->Shared->Prop}{s:Shared}
theorem Cr {R:Result->Shared->Prop}{tp:Value}(X:K.In s.heap)(O:iC K C)(p:ExcAt e C s.heap)(h:R (.ok (.ret (.ref C))) s):
  codeAny (model prog w) A (.call (.builtin "getset_descriptor.__get__") ⟨[.builtin "object.__class__",.ref e,tp],[]⟩) R s:=by
 obtain⟨hh,g,dr,t,os⟩:=s
 have T0:=gh (M:=model prog w) p
 have T1:=looks_mroIn (M:=model prog w) X O.mo
 refine codeAny_call_builtin KF.slot_gs.plain KF.entry_gs ?_
 refine KF.slot_gs.check _ _ _ _ _ _ _ _ KF.type_class (KF.args_gs _ _ _) ?_
 unfold Builtin.«getset_descriptor.__get__» descrGet
 rw[dga_obj]
 refine wpAny_bind (wpAny_pure ?_)
 unfold descrGetter descrCheckInstance descrNameAndClass isInstance
 simp only[KF.owner_class]
 repeat lk
 refine⟨Code.quiet_builtin _ (by decide +kernel),?_⟩
 refine codeAny_builtin KF.entry_class ?_
 unfold Builtin.«object.__class__» shownTypeOf
 repeat lk
 exact h
theorem A1 {tk:Tok}{Q:Fin->Shared->Prop}(X:K.In s.heap)(O:iC K C)(p:ExcAt e C s.heap)(h:Q (.done (.ret (.ref C))) s):
  wpAny (model prog w) A (Builtin.«object.__getattribute__» ⟨[.ref e,.str "__class__" tk],[]⟩) Q E s:=by
 obtain⟨hh,g,dr,t,os⟩:=s
 have T0:=gh (M:=model prog w) p
 have T1:=BW (M:=model prog w) (self := .ref e) X O
 unfold Builtin.«object.__getattribute__»
 refine wpAny_bind (wpAny_pure ?_)
 refine wpAny_bind (wpAny_pure ?_)
 refine wpAny_bind (T0.at (wpAny_bind (T1.at ?_)))
 show wpAny _ _ (holding [.builtin "object.__class__"] (call (.builtin "getset_descriptor.__get__") [.builtin "object.__class__",.ref e,.ref C]) >>= ret) _ _ _
 exact wpAny_bind (wpAny_holding (wpAny_call (Cr X O p (wpAny_pure h))))
theorem pW {Hd:Value}{Q:Unit->Shared->Prop}(X:K.In s.heap)(O:iC K C)(p:ExcAt e C s.heap)(h:Q () s):wpAny (model prog w) A (checkBuiltinCall "BaseException.__getattribute__" ⟨[.ref e,Hd],[]⟩) Q E s:=by
 obtain⟨hh,g,dr,t,os⟩:=s
 have T0:=gh (M:=model prog w) p
 have T1:=looks_mroIn (M:=model prog w) X O.mb
 have k1:builtinKind "BaseException.__getattribute__" = some .slot:=by decide +kernel
 have k2:splitId "BaseException.__getattribute__" = some ("BaseException", "__getattribute__"):=by decide +kernel
 have k3:=F.args_bexc_ga (.ref e) Hd
 simp only[checkBuiltinCall,k1,k2]
 unfold isInstance
 repeat (first|lk|wp_step)
 exact h
theorem BR {Q:Option Value->Shared->Prop}(X:K.In s.heap)(O:iC K C)(p:ExcAt e C s.heap)(h:Q (some (.ref C)) { s with toks:=s.toks+1 }):wpAny (model prog w) A (getAttr? (.ref e) "__class__") Q E s:=by
 obtain⟨hh,g,dr,t,os⟩:=s
 have T0:=gh (M:=model prog w) p
 have T1:=looks_findIn (M:=model prog w) X O.ga
 have T2:=looks_findIn (M:=model prog w) X O.gt
 have f3:=F.attr_ValueError.ga.bind (.ref e)
 unfold getAttr? getAttrBy?
 unfold getAttrBy
 refine wpAny_bind (wpAny_mkText ?_)
 refine wpAny_bind (wpAny_attempt (wpAny_holding ?_))
 refine wpAny_bind (T0.at ?_)
 refine wpAny_bind (T1.at ?_)
 show wpAny _ _ (getAttrByItsOwn _ _ _ _ _ _) _ _ _
 unfold getAttrByItsOwn
 refine wpAny_bind ?_
 show wpAny _ _ (typeLookup (.ref C) "__getattr__") _ _ _
 refine T2.at ?_
 refine wpAny_bind (wpAny_attempt (wpAny_holding ?_))
 show wpAny _ _ (boundAndCalled _ _ _) _ _ _
 unfold boundAndCalled
 rw[f3]
 refine wpAny_bind (wpAny_pure ?_)
 refine wpAny_call (codeAny_call_builtin F.attr_ValueError.ga.plain F.entry_bexc_ga (pW (s:=⟨hh,g,dr,t+1,os⟩) X O p (A1 (s:=⟨hh,g,dr,t+1,os⟩) X O p ?_)))
 exact handed_on rfl (wpAny_pure h)
theorem BX (O:iC K C):KitX K (.ref e) (.ref C) (ExcAt e C) where
 ty:=fun _ _ _ p=>gh p
 it:=fun _ _ X _=>by
  have z:=O.cl
  cases q:K.lookup C with
  | none=>simp[clsIn,q] at z
  | some o=>
   obtain⟨c1,c2,c3,c4⟩:=o
   cases c3<;>simp[clsIn,q] at z
   intro A Q E s k h
   unfold isType loadHead
   exact wpAny_bind (wpAny_loadPart (k _ _ (X _ _ q)) (wpAny_pure h))
 ne:=fun h tp dd aq n sl X htp=>U5.mpr fun z=>by
  have z:C=tp:=Value.ref.inj (beq_iff_eq.mp z)
  subst z
  have z:=O.cl
  cases q:K.lookup C with
  | none=>simp[clsIn,q] at z
  | some o=>
   have w:=(X _ _ q).symm.trans htp
   cases w
   simp[clsIn,q] at z
 ca:=fun X p h=>BR X O p h
theorem fA {C D:Addr}{cd}{b:Bool}(h1:clsIn K D=some cd)(h2:typeIn K (.ref D)=some (.type "type"))(h3:subIn K (.ref C) (.ref D)=some b)(Ha:(Value.ref C==Value.ref D)=false):kitOne K (.ref C) (.ref D)=some b:=by
 unfold kitOne kitCls
 rw[if_neg (by rw[Ha];decide)]
 simp[h1,h2,h3]
theorem E3 {C D:Addr}{cd}(h1:subIn K (.ref D) (.type "BaseException")=some true)(h2:clsIn K D=some cd)(h3:typeIn K (.ref D)=some (.type "type"))(h4:subIn K (.ref C) (.ref D)=some true):exmOne K (.ref C) (.ref D)=some true:=by
 unfold exmOne kitCls
 rw[h1]
 simp[h2,h3,h4]
theorem Cu {C:Addr}{cd}(h:clsIn K C=some cd):(clsIn K C).isSome=true:=by rw[h];rfl
theorem Bw {C:Addr}:kitOne K (.ref C) (.ref C)=some true:=by
 unfold kitOne
 rw[if_pos (beq_iff_eq.mpr rfl)]
theorem JF {C:Addr}{T:String}{b:Bool}(h1:kitMeta T=true)(h3:subIn K (.ref C) (.type T)=some b):kitOne K (.ref C) (.type T)=some b:=by
 unfold kitOne kitCls
 rw[if_neg (fun z=>by cases beq_iff_eq.mp z)]
 simp[h1,h3]
end
section
variable {X:Cx}
theorem bW {x:Str}{C:Addr}{pos:Pos}(hg:Gl X x)(hm:X.mg x=some (.ref C))(hd:(x==("__debug__" : Str))=false:=by decide):PE X (.Name x pos) (tC (.ref C)):=rj (v := .ref C) hg hm rfl hd
noncomputable def N5:V->Option Value
 | .ref D=>some (.ref D)
 | .ty T=>some (.type T)
 | _=>none
end
section
variable {X:Cx}
theorem ED:eE X (binaryOp .Mult) (fun x y H Q=>∃(z:Str) (n:Int),x = .str z/\y = .int n/\MulOk z n/\Q (.str (Txt.mul z n)) H):=by
 intro pins s σ H x y v u Q I rx ry h
 obtain⟨z,n,rfl,rfl,ok,q⟩:=h
 obtain⟨t,rfl⟩:=rx
 obtain⟨t',rfl⟩:=ry
 exact SB.mul ok fun t' k=>⟨.str _,H,I.tok _,⟨_,rfl⟩,q⟩
def Lf:R2:=fun x y H Q=>G7 x y H Q∨∃(z:Str) (n:Int),x = .str z/\y = .int n/\MulOk z n/\Q (.str (Txt.mul z n)) H
theorem Nw:eE X (binaryOp .Mult) Lf:=lZ.or ED
theorem lR {z:Str}{n:Int}(h1:z.length<=1000)(h2:n<=1000)(h3: -1000<=n):MulOk z n:=by
 refine⟨?_,fun a _ =>?_,fun a _ =>?_⟩
 ·rw[decide_eq_false (by omega),decide_eq_false (by omega)];rfl
 ·have:(1000:Int)<=(2^63-1) / n:=by
   rw[Int.le_ediv_iff_mul_le (by omega)]
   omega
  omega
 ·have:z.length*n.toNat<=1000*1000:=Nat.mul_le_mul h1 (by omega)
  show decide (_>sizeLine)=false
  simp
  exact Ji this (by decide)
end
noncomputable def oneMore {K:Type}[DecidableEq K](D:List K)(k:K):List K:=if k∈D then D else D++[k]
noncomputable def bH {K:Type}[DecidableEq K](ks:Nat->K):Nat->List K
 | 0=>[]
 | i+1=>oneMore (bH ks i) (ks i)
theorem jG {K:Type}[DecidableEq K](ks:Nat->K):∀i,(bH ks i).length<=i
 | 0=>Je _
 | i+1=>by
  have:=jG ks i
  unfold bH oneMore
  split
  ·omega
  ·rw[Jw];exact Wb this
section
variable {prog:Program}{w:World}{K:Type}[DecidableEq K]{knd:PySem.KeyKind prog w K}
def jU (knd:PySem.KeyKind prog w K)(h:Heap)(a:Addr)(D:List K):Prop:=h.SetOf knd a (fun k=>decide (k∈D)) D.length
theorem jU.at' {h h':Heap}{a:Addr}{D:List K}(x:jU knd h a D)(k:∀o,h.get? a=some o->h'.get? a=some o):jU knd h' a D:=by
 obtain⟨o,es,ep,t,e,r⟩:=x
 exact⟨o,es,ep,t,k _ e,r⟩
variable {A:Around}{R:Result->Shared->Prop}{I:Addr}{fp wr:List Addr}{G:Array GenState->Array GenState->Prop}{n:Nat}{P:Nat->Value->Prop}{St:Nat->Shared->Prop}
end
noncomputable abbrev km (led:Bool):Obj:={ cls := .type "set",dict:=none,data := .set #[] 0 (.fresh 0 0 led) }
def Up (xs:List Nat):Prop:=xs.Pairwise (· < ·)
theorem Up.lt {xs:Array Nat}(h:Up xs.toList){i j:Nat}(hj:j<xs.size)(u4:i<j):xs[i]<xs[j]:=by
 have:=U0.mp h i j (by simpa using Nat.lt_trans u4 hj) (by simpa using hj) u4
 simpa using this
structure Cut (xs:Array Nat)(j p:Nat):Prop where
 le:p<=xs.size
 lo:∀i (h:i<xs.size),i<p->xs[i]<j
 hi:∀i (h:i<xs.size),p<=i->j<=xs[i]
theorem m7 {xs:Array Nat}(u:Up xs.toList)(j:Nat):∀(fuel lo hi:Nat),hi-lo<=fuel->lo<=hi->hi<=xs.size->(∀i (h:i<xs.size),i<lo->xs[i]<j)->(∀i (h:i<xs.size),hi<=i->j<=xs[i])->Cut xs j (SetTable.below.go xs j fuel lo hi)
 | 0,lo,hi,hf,hl,hs,h1,h2=>by
  have e:lo=hi:=by omega
  unfold SetTable.below.go
  subst e
  exact⟨hs,h1,h2⟩
 | fuel+1,lo,hi,hf,hl,hs,h1,h2=>by
  unfold SetTable.below.go
  by_cases iA:lo<hi
  ·rw[if_pos iA]
   have hm:(lo+hi) / 2<xs.size:=by omega
   have e:xs.getD ((lo+hi) / 2) j=xs[(lo+hi) / 2]:=by simp[Array.getD,hm]
   dsimp only
   rw[e]
   by_cases hc:xs[(lo+hi) / 2]<j
   ·rw[if_pos hc]
    refine m7 u j fuel _ _ (by omega) (by omega) hs (fun i h vn =>?_) h2
    by_cases q:i=(lo+hi) / 2
    ·subst q;exact hc
    ·exact Nat.lt_trans (u.lt hm (by omega)) hc
   ·rw[if_neg hc]
    refine m7 u j fuel _ _ (by omega) (by omega) (by omega) h1 (fun i h vn =>?_)
    by_cases q:i=(lo+hi) / 2
    ·subst q;omega
    ·have:=u.lt h (show(lo+hi) / 2<i by omega)
     omega
  ·rw[if_neg iA]
   have e:lo=hi:=by omega
   subst e
   exact⟨hs,h1,h2⟩
theorem pV {xs:Array Nat}(u:Up xs.toList)(j:Nat):Cut xs j (SetTable.below xs j):=
 m7 u j _ _ _ (by omega) (Uz _) (Je _) (fun i h z=>absurd z (Nat.not_lt_zero _)) fun i h z=>absurd h (by omega)
def dS (t:SetTable):Prop:=t.dummies = #[]/\Up t.place.toList
theorem xk {a b:Nat}{led:Bool}:dS (SetTable.fresh a b led):=⟨rfl,List.Pairwise.nil⟩
theorem gL (t:SetTable)(n:Nat):dS (t.standIn n):=⟨rfl,by
 show List.Pairwise _ (Array.range n).toList
 rw[Array.toList_range]
 exact List.pairwise_lt_range⟩
theorem has_none (j:Nat):SetTable.has #[] j=false:=by
 unfold SetTable.has
 simp
theorem zM {t:SetTable}(g:dS t)(j:Nat):t.slot j = .empty∨∃i,t.slot j = .live i:=by
 unfold SetTable.slot
 dsimp only
 split
 ·exact .inr ⟨_,rfl⟩
 ·rw[g.1,has_none]
  exact .inl rfl
theorem zu {t:SetTable}(g:dS t){j:Nat}(h:t.slot j = .empty):j∉t.place.toList:=fun hm=>by
 obtain⟨i,hi,e⟩:=Yv.mp hm
 have vn:i<t.place.size:=by simpa using hi
 have e':t.place[i]=j:=by simpa using e
 have c:=pV g.2 j
 have hp:SetTable.below t.place j=i:=by
  have h1:¬i<SetTable.below t.place j:=fun z=>by have:=c.lo i vn z;omega
  have h2:¬SetTable.below t.place j<i:=fun z=>by
   have hs:SetTable.below t.place j<t.place.size:=by omega
   have a:=c.hi _ hs (Je _)
   have b:=g.2.lt vn z
   omega
  omega
 unfold SetTable.slot at h
 dsimp only at h
 rw[hp,Ud vn,e'] at h
 simp at h
theorem nD {t:SetTable}(g:dS t){h:Int}{j:Nat}{d:Option Nat}:∀(fuel:Nat) (p:SetTable.Probe),p.dummy=none->SetTable.probe.go t (fun _=>h+1) h fuel p=some (.empty j d)->t.slot j = .empty/\d=none
 | 0,p,hp,e=>by unfold SetTable.probe.go at e;cases e
 | fuel+1,p,hp,e=>by
  unfold SetTable.probe.go at e
  rcases zM g p.j with q|⟨i,q⟩
  ·rw[q] at e
   dsimp only at e
   cases e
   exact⟨q,hp⟩
  ·rw[q] at e
   dsimp only at e
   rw[if_neg (by rw[beq_iff_eq];omega)] at e
   refine nD g fuel _ ?_ e
   unfold SetTable.advance
   split
   ·exact hp
   ·exact hp
theorem BL {t:SetTable}(g:dS t){j:Nat}(h:t.slot j = .empty):dS (t.put j).1:=by
 have hn:=zu g h
 have c:=pV g.2 j
 unfold SetTable.put
 refine⟨?_,?_⟩
 ·show(if SetTable.has t.dummies j=true then _ else t.dummies) = #[]
  rw[g.1,has_none,if_neg Jm]
 ·show Up (SetTable.insertAt t.place _ j).toList
  rw[SetTable.toList_insertAt]
  have u:Up t.place.toList:=g.2
  refine Yu.mpr ⟨List.Pairwise.sublist (List.take_sublist _ _) u,List.pairwise_cons.mpr ⟨fun x hx =>?_,List.Pairwise.sublist (List.drop_sublist _ _) u⟩,fun x hx y hy =>?_⟩
  ·obtain⟨i,hi,e⟩:=Yv.mp hx
   rw[List.getElem_drop] at e
   have vn:SetTable.below t.place j+i<t.place.size:=by rw[Wa] at hi;simp at hi;omega
   have:=c.hi _ vn (Uq _ _)
   have e':t.place[SetTable.below t.place j+i]=x:=by simpa using e
   have Ha:j≠x:=fun z=>hn (by rw[z];exact List.mem_of_mem_drop hx)
   omega
  ·have UE:x<j:=by
    obtain⟨i,hi,e⟩:=Yv.mp hx
    rw[List.getElem_take] at e
    rw[Uo] at hi
    have vn:i<t.place.size:=by simp at hi;omega
    have:=c.lo i vn (by omega)
    have e':t.place[i]=x:=by simpa using e
    omega
   rcases Jr.mp hy with rfl|hy
   ·exact UE
   ·obtain⟨i,hi,e⟩:=Yv.mp hy
    rw[List.getElem_drop] at e
    have vn:SetTable.below t.place j+i<t.place.size:=by rw[Wa] at hi;simp at hi;omega
    have:=c.hi _ vn (Uq _ _)
    have e':t.place[SetTable.below t.place j+i]=y:=by simpa using e
    omega
theorem E9 {t:SetTable}(g:dS t)(n:Nat):dS (t.orStandIn n):=by
 unfold SetTable.orStandIn
 split
 ·exact g
 ·exact gL t n
theorem BS {t:SetTable}(g:dS t)(es:Array (Int×Value))(h:Int)(x:Value):dS (layNew t es h x).2.1/\(layNew t es h x).2.1.led=t.led:=by
 unfold layNew
 split
 ·rename_i slot wasDummy hs
  dsimp only
  have yP:t.slot slot = .empty:=by
   unfold SetTable.freeSlot at hs
   split at hs
   ·rename_i j d hp
    unfold SetTable.probe at hp
    obtain⟨h1,h2⟩:=nD g _ _ rfl hp
    subst h2
    cases hs
    exact h1
   ·cases hs
  refine⟨E9 (BL g yP) _,?_⟩
  unfold SetTable.orStandIn
  split<;>rfl
 ·exact⟨gL t _,rfl⟩
theorem mV {β:Type}(f:Nat->Option β):∀l:List Nat,List.Sublist ((l.filterMap fun j=>(f j).map (j, ·)).map (·.1)) l
 | []=>List.Sublist.refl _
 | j::l=>by
  rw[Ye]
  cases f j with
  | none=>exact List.Sublist.cons _ (mV f l)
  | some b=>exact List.Sublist.cons_cons _ (mV f l)
theorem zE {mask finger moves:Nat}{led plain:Bool}{hs:Array Int}{t:SetTable}{order:Array Nat}(e:SetTable.laid mask finger moves led plain hs=some (t,order)):dS t/\t.led=led:=by
 unfold SetTable.laid at e
 cases q:SetTable.layClean mask hs with
 | none=>rw[q] at e;cases e
 | some owner=>
  rw[q] at e
  cases e
  refine⟨⟨rfl,?_⟩,rfl⟩
  exact List.Pairwise.sublist (mV _ _) List.pairwise_lt_range
theorem xi {t:SetTable}(es:Array (Int×Value))(n:Nat):dS (relayAll t es n).2.1/\(relayAll t es n).2.1.led=t.led:=by
 unfold relayAll
 split
 ·rename_i t' order hr
  dsimp only
  split
  ·unfold SetTable.relaid at hr
   exact zE hr
  ·exact⟨gL t _,rfl⟩
 ·exact⟨gL t _,rfl⟩
section
variable {prog:Program}{w:World}{K:Type}[DecidableEq K]{knd:PySem.KeyKind prog w K}{A:Around}{E:Value->Shared->Prop}{s:Shared}{a:Addr}
def jW (w:World)(h:Heap)(a:Addr):Prop:=∃o es ep t,h.get? a=some o/\o.data = .set es ep t/\dS t/\(w.params.followText "set-order" = false->t.led=true)
theorem jW.at' {h h':Heap}(x:jW w h a)(k:∀o,h.get? a=some o->h'.get? a=some o):jW w h' a:=by
 obtain⟨o,es,ep,t,e,r⟩:=x
 exact⟨o,es,ep,t,k _ e,r⟩
def cA (knd:PySem.KeyKind prog w K)(h:Heap)(a:Addr)(D:List K):Prop:=jU knd h a D/\jW w h a
theorem uN {o:Obj}{es:Array (Int×Value)}{ep:Nat}{t:SetTable}(ho:s.heap.get? a=some o)(hd:o.data = .set es ep t){es':Array (Int×Value)}{t':SetTable}(g:dS t')(l:w.params.followText "set-order" = false->t'.led=true):
  (s.heap.update a (Obj.putSet es' t')).get? a=some { o with data := .set es' (ep+1) t' } /\ jW w (s.heap.update a (Obj.putSet es' t')) a:=by
 have e:=J2 (Obj.putSet es' t') ho (by rw[putSet_of es' t' hd];rfl)
 rw[putSet_of es' t' hd] at e
 exact⟨e,_,_,_,_,e,rfl,g,l⟩
theorem vq {D:List K}{k:K}{x:Value}{Q:Bool->Shared->Prop}(hk:knd.is k x=true)(hx:x.scannable=true)(S:cA knd s.heap a D)(room:D.length+1<scanBound)
  (fin:∀b h',U1 a s.heap h'->cA knd h' a (oneMore D k)->Q b { s with heap:=h' }):wpAny (model prog w) A (setAddHashed a x (knd.hash k)) Q E s:=by
 obtain⟨HK,o',es',ep',t',ya,Ff,gt',ld'⟩:=S
 obtain⟨o,es,ep,t,ho,ex,hd,el,mem,bnd,fit,len⟩:=id HK
 obtain⟨gt,ld⟩:dS t/\(w.params.followText "set-order" = false->t.led=true):=by
  rw[ho] at ya;cases ya
  rw[hd] at Ff;cases Ff
  exact⟨gt',ld'⟩
 have UH:=byScan_of hx bnd el
 unfold setAddHashed setAddHashedIn setAddByScan
 refine wpAny_holding (wpAny_bind (wpAny_setState_of ho hd fit ?_))
 dsimp only
 rw[UH,if_pos rfl]
 refine wpAny_bind (wpAny_bind (wpAny_rule (wpAny_bind (wpAny_setScan_of hk ho hd fit el ?_))))
 have Nl:∀(b:Bool) {s1:Shared} {Q':Unit->Shared->Prop},Q' () s1->wpAny (model prog w) A (match b with|true=>rule "set.scan.the-table-gave-way" | false=>pure ()) Q' E s1:=fun b s1 Q' q=>by
  cases b
  ·exact wpAny_pure q
  ·exact wpAny_rule q
 cases hr:es.toList.findIdx? (fun e=>knd.is k e.2) with
 | some j=>
  obtain⟨hj,hp,_⟩:=List.findIdx?_eq_some_iff_getElem.mp hr
  have iz:k∈D:=of_decide_eq_true ((mem k).mpr ⟨_,Ul hj,hp⟩)
  refine wpAny_pure (wpAny_pure ?_)
  have q:=fin false s.heap (U1.refl a s.heap) (by
   unfold oneMore
   rw[if_pos iz]
   exact⟨HK,_,_,_,_,ho,hd,gt,ld⟩)
  exact q
 | none=>
  have KL:k∉D:=fun z=>by
   obtain⟨e,he,hp⟩:=(mem k).mp (decide_eq_true z)
   have:=List.findIdx?_eq_none_iff.mp hr e he
   rw[hp] at this;cases this
  have more:∀k',decide (k'∈oneMore D k)=(decide (k'∈D)||decide (k'=k)):=fun k'=>by
   unfold oneMore
   rw[if_neg KL]
   simp[Bool.decide_or]
  obtain⟨g1,l1⟩:=BS gt es (knd.hash k) x
  have pm:=layNew_perm t es (knd.hash k) x
  have ft:=layNew_fits t es (knd.hash k) x
  dsimp only
  generalize layNew t es (knd.hash k) x=L at g1 l1 pm ft ⊢
  obtain⟨es1,t1,dummy,gv⟩:=L
  dsimp only at g1 l1 pm ft ⊢
  rw[Array.toList_push] at pm
  have S0:ElemsOf knd es1.toList:=(el.push hk hx).perm pm
  have MJ:∀k',decide (k'∈oneMore D k)=true ↔ ∃e∈es1.toList,knd.is k' e.2=true:=fun k'=>by
   rw[more];exact mem_push_iff hk mem pm k'
  have KU:es1.size=(oneMore D k).length:=by
   unfold oneMore
   rw[if_neg KL,<-Um,pm.length_eq,Jw,Jw,Um,len];rfl
  have HP:(oneMore D k).length=D.length+1:=by
   unfold oneMore
   rw[if_neg KL,Jw];rfl
  have LI:es1.size<scanBound:=by omega
  have PR:w.params.followText "set-order" = false->t1.led=true:=fun z=>l1.trans (ld z)
  have tail:∀t2:SetTable,dS t2->(w.params.followText "set-order" = false->t2.led=true)->t2.fits es1.size=true->∀c:Bool,
    wpAny (model prog w) A (do
     storeSet a es1 t2
     if c=true then do
       (match (relayAll t2 es1 (SetTable.grown es1.size)).2.2 with|true=>rule "set.scan.the-table-gave-way" | false=>pure ())
       storeSet a (relayAll t2 es1 (SetTable.grown es1.size)).1 (relayAll t2 es1 (SetTable.grown es1.size)).2.1
       pure (some true)
      else pure (some true)) (fun r s'=>r=some true/\∃h',s'={ s with heap:=h' } /\ U1 a s.heap h'/\cA knd h' a (oneMore D k)) E s:=by
   intro t2 g2 ld2 ft2 c
   refine wpAny_bind (wpAny_storeSet_of ho hd ?_ (fits_of_scanBound LI))
   obtain⟨e1,gs1⟩:=uN (es':=es1) ho hd g2 ld2
   have D9:=U1.update s.heap a (Obj.putSet es1 t2)
   cases c with
   | false=>
    rw[if_neg Jm]
    exact wpAny_pure ⟨rfl,_,rfl,D9,⟨_,_,_,_,e1,ex,rfl,S0,MJ,LI,ft2,KU⟩,gs1⟩
   | true=>
    rw[if_pos rfl]
    have Ea:=relayAll_perm t2 es1 (SetTable.grown es1.size)
    have Pc:=relayAll_fits t2 es1 (SetTable.grown es1.size)
    obtain⟨g3,l3⟩:=xi (t:=t2) es1 (SetTable.grown es1.size)
    generalize relayAll t2 es1 (SetTable.grown es1.size)=L2 at Ea Pc g3 l3 ⊢
    obtain⟨es2,t3,gv2⟩:=L2
    dsimp only at Ea Pc g3 l3 ⊢
    have Mz:es2.size=es1.size:=by rw[<-Um,Ea.length_eq,Um]
    refine wpAny_bind (Nl _ ?_)
    refine wpAny_bind (wpAny_storeSet_of e1 rfl ?_ (fits_of_scanBound (by omega)))
    obtain⟨e2,gs2⟩:=uN (s:={ s with heap:=s.heap.update a (Obj.putSet es1 t2) }) (es':=es2) e1 rfl g3 (fun z=>l3.trans (ld2 z))
    refine wpAny_pure ⟨rfl,_,rfl,D9.trans (U1.update _ a _),⟨_,_,_,_,e2,ex,rfl,S0.perm Ea,fun k'=>(MJ k').trans ⟨fun hz_=>ai.el hz_ _ fun e he q=>⟨e,Ea.mem_iff.mpr he,q⟩,fun hz_=>ai.el hz_ _ fun e he q=>⟨e,Ea.mem_iff.mp he,q⟩⟩,by omega,Pc,Mz.trans KU⟩,gs2⟩
  have out:∀(r:Option Bool) s',(r=some true/\∃h',s'={ s with heap:=h' } /\ U1 a s.heap h'/\cA knd h' a (oneMore D k))->wpAny (model prog w) A (match r with|some added=>pure added|none=>setAddHashedIn a x (knd.hash k) 99999) Q E s':=by
   rintro r s' ⟨rfl,h',rfl,sb,sk⟩
   exact wpAny_pure (fin true h' sb sk)
  refine wpAny_bind (Nl _ ?_)
  cases pJ:t1.plain with
  | false=>
   rw[if_neg Jm]
   refine wpAny_bind (wpAny_pure ?_)
   rw[if_pos rfl]
   exact wpAny_mono (tail t1 g1 PR ft _) (fun r s' q=>out r s' q) fun _ _ z=>z
  | true=>
   rw[if_pos rfl]
   refine wpAny_bind ?_
   rw[hashByValue_scannable 8 hx]
   refine wpAny_pure ?_
   cases plainKind x with
   | true=>
    rw[if_pos rfl]
    exact wpAny_mono (tail t1 g1 PR ft _) (fun r s' q=>out r s' q) fun _ _ z=>z
   | false=>
    rw[if_neg Jm]
    exact wpAny_mono (tail { t1 with plain:=false } g1 PR (SetTable.fits_plain_off ft) _) (fun r s' q=>out r s' q) fun _ _ z=>z
theorem cA.at' {D:List K}{h h':Heap}(x:cA knd h a D)(k:∀o,h.get? a=some o->h'.get? a=some o):cA knd h' a D:=⟨x.1.at' k,x.2.at' k⟩
theorem C9 {D:List K}{k:K}{x:Value}{Q:Value->Shared->Prop}(hk:knd.is k x=true)(hx:x.scannable=true)(S:cA knd s.heap a D)(room:D.length+1<scanBound)
  (fin:∀h',U1 a s.heap h'->cA knd h' a (oneMore D k)->Q .none { s with heap:=h',toks:=s.toks+1 }):wpAny (model prog w) A (call (.builtin "set.add") [.ref a,x]) Q E s:=by
 refine wpAny_call_entry F.slot_set_add (show s.heap.SetOf knd a _ _ from S.1).typeIs F.entry_set_add ?_ (F.args_set_add_2 _ _)
 unfold Builtin.«set.add» Builtin.Frozenset.oneOther Builtin.Frozenset.addrOf setAdd
 simp only[List.isEmpty_nil,bind_assoc]
 refine wpAny_bind (wpAny_pure (wpAny_bind (wpAny_pure (wpAny_bind (wpAny_holding (wpAny_bind (knd.pyHash hk ?_)))))))
 exact vq (s:={ s with toks:=s.toks+1 }) hk hx S room fun b h' sb sk=>wpAny_pure ⟨_,rfl,fin h' sb sk⟩
end
structure pC (P:Program)(w:World)(K:Type)[DecidableEq K] where
 knd:PySem.KeyKind P w K
 v:K->V
 ok:∀k u,RelV (v k) u->knd.is k u=true/\u.scannable=true
noncomputable def Fv (P:Program)(w:World):pC P w Str:=⟨strKind P w,V.str,fun k u r=>by obtain⟨t,rfl⟩:=r;exact⟨strKind_is _ _ _ _,rfl⟩⟩
noncomputable def ip {P:Program}{w:World}{K:Type}[DecidableEq K](kv:pC P w K)(a:Addr)(D:List K):HO := .ext fun h=>cA kv.knd h a D
theorem yt {P:Program}{w:World}{K:Type}[DecidableEq K]{kv:pC P w K}{a:Addr}{D:List K}{H:Hp}{h:Heap}(x:cA kv.knd h a D):bg P w H h a (ip kv a D):=by
 have x':=x.1
 obtain⟨o,es,ep,t,e,rest⟩:=x'
 exact⟨x,⟨o,e⟩,fun h1 h2 y k=>cA.at' y k⟩
section
variable {prog:Program}{w:World}{A:Around}{R:Result->Shared->Prop}{s:Shared}
theorem xj (ex target iter:Expr)(ifs:List Expr)(scope:Scope)(pos:Pos)(it:Value)(D:Addr)(env:Env):
  compTurn (.SetComp ex [⟨target,iter,ifs,0⟩] scope pos) 0 it (.ref D) env=(do
   standAt iter.pos
   match <-pyNext it with
   | none=>pure (.done .next)
   | some v=>
    letOwnedTupleGo target it v
    assign target env v
    let mut ok:=true
    for c in ifs do
     if ok then ok <-isTrue c env (eval c env)
    if ok then
     (do
      let ev <-eval ex env
      standAt ex.pos
      let _ <-call (.builtin "set.add") [.ref D,ev])
    again (.compLoop (.SetComp ex [⟨target,iter,ifs,0⟩] scope pos) 0 it (.ref D) env)):=by rfl
theorem tQ {ex target iter:Expr}{ifs:List Expr}{scope:Scope}{pos:Pos}{it:Value}{D:Addr}{env:Env}(I:Nat->Shared->Prop)
  (turn:∀n s,I n s->wpAny (model prog w) A (pyNext it) (fun r s1=>match r with
   | none=>R (.ok .next) s1
   | some v=>wpAny (model prog w) A (letOwnedTupleGo target it v) (fun _ s1'=>wpAny (model prog w) A (assign target env v) (fun _ s2=>
     wpAny (model prog w) A (rB ifs env) (fun ok s3=>
      if ok=true then wpAny (model prog w) A (eval ex env) (fun ev s4=>wpAny (model prog w) A (call (.builtin "set.add") [.ref D,ev]) (fun _ s6=>∃m,m<n/\I m s6) sX s4) sX s3
      else ∃m,m<n/\I m s3) sX s2) sX s1') sX s1) sX s)
  (n:Nat) (h:I n s):codeAny (model prog w) A (.compLoop (.SetComp ex [⟨target,iter,ifs,0⟩] scope pos) 0 it (.ref D) env) R s:=by
 refine codeAny_loop rfl I (fun n s hI=>(show wpAny _ A (Sem.onRaise (compTurn (.SetComp ex [⟨target,iter,ifs,0⟩] scope pos) 0 it (.ref D) env) (fun x=>do noteFrame x env;theTreesLotGoes x)) _ _ s from wpAny_noted ?_)) n h
 rw[xj]
 refine wpAny_bind (wpAny_standAt (wpAny_bind (eg (bz (turn n s hI) fun r s1 h1 =>?_))))
 cases r with
 | none=>exact wpAny_pure h1
 | some v=>
  refine wpAny_bind (eg (bz h1 fun _ s1' KY =>?_))
  refine wpAny_bind (eg (bz KY fun _ s2 h2=>wpAny_bind (eg (bz h2 fun ok s3 h3 =>?_))))
  cases ok with
  | false=>exact wpAny_pure ⟨rfl,h3⟩
  | true=>
   exact wpAny_bind (wpAny_bind (eg (bz h3 fun ev s4 h4=>wpAny_bind (wpAny_standAt (wpAny_bind (eg (bz h4 fun _ s6 h6=>wpAny_pure (wpAny_pure ⟨rfl,h6⟩))))))))
theorem tZ {ex target iter ifs rest scope pos it acc env}(h0:codeAny (model prog w) A (.compLoop (.SetComp ex (⟨target,iter,ifs,0⟩::rest) scope pos) 0 it acc env) R s)
  (h:wpAny (model prog w) A (pyIter it) (fun it' s'=>codeAny (model prog w) A (.compLoop (.SetComp ex (⟨target,iter,ifs,0⟩::rest) scope pos) 0 it' acc env) R s') (notedBy (model prog w) A env fun x s'=>R (.error x) s') s) :
  codeAny (model prog w) A (.compStart (.SetComp ex (⟨target,iter,ifs,0⟩::rest) scope pos) 0 it acc env) R s:=by
 refine codeAny_of_tree (show wpAny _ A ((compStart (.SetComp ex (⟨target,iter,ifs,0⟩::rest) scope pos) 0 it acc env).onRaise (fun x=>do noteFrame x env;standAt theWindowsPlace)) _ _ s from wpAny_notedAt ?_)
 unfold compStart
 refine wpAny_bind (m:=ask) (wpAny_askSetting (wpAny_ite ?_))
 split
 ·first
   | exact wpAny_bind (wpAny_pure (wpAny_pure ⟨rfl,h0⟩))
   | exact wpAny_pure ⟨rfl,h0⟩
 ·refine wpAny_bind (wpAny_rule ?_)
  refine wpAny_bind (m:=standAt iter.pos) (wpAny_standAt ?_)
  exact wpAny_bind (wpAny_mono h (fun it' s' h'=>wpAny_pure ⟨rfl,h'⟩) fun _ _ x=>x)
end
section
variable {X:Cx}{pins:List (Addr×Obj)}{σ:St}{H:Hp}{s:Shared}{a:Addr}{u:Value}{A:Around}{E:Value->Shared->Prop}{K:Type}[DecidableEq K]{kv:pC X.prog X.w K}
theorem NF {D:List K}{k:K}{Q:Value->Shared->Prop}(I:Inv X pins σ H s)(e:H a=some (ip kv a D))(l:D.length<=4000)(ry:RelV (kv.v k) u)
  (h:∀v s',Inv X pins σ (upd H a (ip kv a (oneMore D k))) s'->Q v s'):wpAny (model X.prog X.w) A (call (.builtin "set.add") [.ref a,u]) Q E s:=by
 have x:=(show bg X.prog X.w H s.heap a (ip kv a D) from I.bw a _ e).1
 obtain⟨h1,h2⟩:=kv.ok k u ry
 refine C9 h1 h2 x (by unfold scanBound;omega) fun h' sb y =>?_
 have y':=y.1
 obtain⟨o,es,ep,t,eo,_⟩:=y'
 exact h _ _ (mq I (by rw[e];exact True.intro) sb ⟨o,eo⟩ (yt y))
end
def De {P:Program}{w:World}{KT:Type}[DecidableEq KT](kv:pC P w KT)(J:It)(n:Nat)(js:List Nat)(g:TG)(tc:TT)(te:TE)(σ:St)(D:Addr)(H1:Hp)(fin:Hp->Prop):Prop:=
 ∃W:Nat->Nat->Hp->Prop,(∃m,W 0 m H1)/\∀i m H,W i m H ->
  (J.stop i H/\fin H) ∨
  (J.go i H/\∀x H',J.yld i H x H'->g x (Jv n none++dA σ js) H' fun σ2 H2=>tc σ2 H2 fun b H3=>
   if b=true then te σ2 H3 fun y H4=>∃ks k,H4 D=some (ip kv D ks)/\y=kv.v k/\ks.length<=4000/\∃m',m'<m/\W (i+1) m' (upd H4 D (ip kv D (oneMore ks k))) else ∃m',m'<m/\W (i+1) m' H3)
def IY {P:Program}{w:World}{KT:Type}[DecidableEq KT](kv:pC P w KT)(wi:TI)(n:Nat)(js:List Nat)(g:TG)(tc:TT)(te:TE):TE:=fun σ H Q=>wi σ H fun J H1=>∀D,H1 D=none->De kv J n js g tc te σ D (upd H1 D (ip kv D [])) fun H2=>Q (.ref D) H2
theorem Ga {prog:Program}{w:World}{A:Around}{s:Shared}{Q:Value->Shared->Prop}{E:Value->Shared->Prop}(h:∀led,(w.params.followText "set-order" = false->led=true)->Q (.ref s.heap.objs.size) { s with heap:=s.heap.push (km led) }):wpAny (model prog w) A (newSet (.type "set")) Q E s:=by
 unfold newSet setsByText
 refine wpAny_bind (wpAny_bind (wpAny_askSetting (wpAny_pure ?_)))
 show wpAny _ _ (newObj _ _) _ _ _
 simp only[newObj]
 exact wpAny_bind (wpAny_alloc (wpAny_pure (h _ fun z=>by show(!w.params.followText "set-order")=true;rw[z];rfl)))
theorem wI {prog:Program}{w:World}{K:Type}[DecidableEq K]{knd:PySem.KeyKind prog w K}{h:Heap}{a:Addr}{led:Bool}(e:h.get? a=some (km led)):jU knd h a []:=by
 have z:=(setObjOf_fresh (knd:=knd) led).setOf e (by decide)
 have q:(fun k:K=>decide (k∈([]:List K)))=fun _=>false:=by funext k;simp
 show Heap.SetOf knd _ _ (fun k=>decide (k∈([]:List K))) 0
 rw[q]
 exact z
theorem vS {prog:Program}{w:World}{K:Type}[DecidableEq K]{knd:PySem.KeyKind prog w K}{h:Heap}{a:Addr}{led:Bool}(l:w.params.followText "set-order" = false->led=true)(e:h.get? a=some (km led)):cA knd h a []:=⟨wI e,_,_,_,_,e,rfl,xk,l⟩
theorem xA {X:Cx}{KT:Type}[DecidableEq KT](kv:pC X.prog X.w KT){ex tg iter:Expr}{ifs:List Expr}{scope:Scope}{pos:Pos}{Nc Fc:List Str}{js:List Nat}{wi:TI}{g:TG}{tc:TT}{te:TE}{use:Option (Value->Sem Unit)}{QV:Value->Shared->Prop}
  (hU:X.calm=true) (c:gC X scope Nc Fc js) (hi:PI X tg iter wi)
  (hg:∀cl C s H fp,PG (pf X Nc Fc scope cl C s H fp) tg g) (Fi:∀cl C s H fp,JI (pf X Nc Fc scope cl C s H fp) ifs tc) (Fp:∀cl C s H fp,PE (pf X Nc Fc scope cl C s H fp) ex te) (gk:Gk Nc.length g)
  {pins:List (Addr×Obj)} {s:Shared} {σ:St} {H:Hp} {fin:Addr->Hp->Prop} (I:Inv X pins σ H s)
  (h:wi σ H fun J H1=>∀D,H1 D=none->De kv J Nc.length js g tc te σ D (upd H1 D (ip kv D [])) (fin D))
  (behind:∀(C D:Addr) (m:Str->Option Value) (H2:Hp) (s2:Shared),Inv X pins σ H2 s2->s2.heap.Ns C m->dU X pins H2 C->fin D H2->compPost (model X.prog X.w) X.A X.xe use QV (.ref D) C (.ok .next) s2)
  (hs:∀x,foldedSetIterable iter X.env x=pure x) :
  wpAny (model X.prog X.w) X.A (comprehension (.SetComp ex [⟨tg,iter,ifs,0⟩] scope pos) scope X.env (firstIterPos [⟨tg,iter,ifs,0⟩] pos) (newSet (.type "set")) false (eval iter X.env) use) QV X.xe s:=by
 obtain⟨cl,hclos,dH,kJ⟩:=ow (scope:=scope) (env:=X.env) fun y hy hf=>I.ok.has y.1 (c.free y hy hf)
 refine wpAny_comprehension_free (use:=use) rfl hs hclos c.kind c.names ?_
 refine bz (hi s σ H _ I h) fun v s1 h1=>bz h1 fun Oq s2 h2 =>?_
 obtain⟨it,fp,tn,J,H2,e,I2,T,iO,f2,all⟩:=h2
 subst e
 refine Ga fun led hled =>?_
 refine(wpAny_newFunctionEnv c.nocell (by intro y hy;simp at hy) (fun h1 hns1 hsb1 =>?_) c.kind)
 dsimp only at hns1 hsb1 ⊢
 have JC:H2 s2.heap.objs.size=none:=I2.bw.fresh (Je _)
 have Nr:=I2.laid (a:=s2.heap.objs.size) (o:=ip kv s2.heap.objs.size []) (h':=s2.heap.push (km led)) (t':=s2.toks) (fun _ _ q=>Jb _ q) (Je _) (yt (vS hled (Jj _ rfl)))
 obtain⟨W,⟨m0,w0⟩,turn⟩:=all _ JC
 have TU:∀b∈fp,∃o,s2.heap.get? b=some o:=fun b hb=>let ⟨o,e,_⟩:=T.obj 0 _ iO b hb; ⟨o,e⟩
 have we:∀b∈fp,b<s2.heap.objs.size:=fun b hb=>let ⟨o,e⟩:=TU b hb;Jf e
 generalize hG:s2.heap.push (km led)=G at hns1 hsb1 Nr ⊢
 have toG:∀b o,s2.heap.get? b=some o->G.get? b=some o:=fun b o e=>hG▸Jb _ e
 have hC:G.objs.size=s2.heap.objs.size+1:=by rw[<-hG,Ug]
 have old:∀b o,G.get? b=some o->h1.get? b=some o:=fun b o e=>
  hsb1.extBut b o (bV (Jf e) (Je _)) (Jb _ e)
 let D:Addr:=s2.heap.objs.size
 let s2':Shared:={ s2 with heap:=G,toks:=s2.toks }
 let H2':Hp:=upd H2 D (ip kv D [])
 have QS:∀b∈fp,dU X pins H2' b:=fun b hb=>by
  obtain⟨a1,a2⟩:=f2 b hb
  refine⟨?_,a2⟩
  show upd H2 D (ip kv D []) b=none
  rw[aj (Jl (we b hb))];exact a1
 have fo:∀b∈fp,∃o,s2'.heap.get? b=some o:=fun b hb=>let ⟨o,e⟩:=TU b hb; ⟨o,toG b o e⟩
 have Vw:∀b∈fp,b<G.objs.size:=fun b hb=>by have:=we b hb;rw[hC];exact Nat.lt_succ_of_lt this
 let Xc:Cx:=pf X Nc Fc scope cl G.objs.size s2' H2' fp
 have nM:∀{H':Hp},(∀b∈fp,H' b=none)->∀b∈fp,dU Xc [] H' b:=fun{H'} hn b hb=>by
  refine⟨hn b hb,?_,?_,.inl hb,fun x a e =>?_,fun p hq =>?_⟩
  ·exact bV (Vw b hb) (Je _)
  ·exact(rE Nr c dH kJ (Je _) QS fo).exfs b hb
  ·exact(f2 b hb).2.2.2.2.1 x a (dH _ _ e)
  ·have q:p∈([]:List (Addr×Obj))++[]:=hq
   simp at q
 have loop:∀t1,codeAny (model X.prog X.w) X.A (.compLoop (.SetComp ex [⟨tg,iter,ifs,0⟩] scope pos) 0 (.ref it) (.ref s2.heap.objs.size) (compEnvC scope cl G.objs.size X.env))
   (compPost (model X.prog X.w) X.A X.xe use QV (.ref s2.heap.objs.size) G.objs.size) { s2 with heap:=h1,toks:=t1 }:=by
  intro t1
  refine tQ (fun n s'=>∃i H',Inv Xc [] (Jv Nc.length none++dA σ js) H' s'/\tn i s'.heap/\(∀b∈fp,H' b=none)/\W i n H') ?_ m0
   ⟨0,H2',DB Nr c dH kJ (Je _) QS fo old hns1,T.keep _ _ _ iO (fun b hb o e=>old b o (toG b o e)),fun b hb=>(QS b hb).1,w0⟩
  intro n s3
  refine ai.go ?_
  rintro i H3 I3 dw fr3 w3
  rcases turn i n H3 w3 with ⟨stop,qn⟩|⟨go,step⟩
  ·refine bz (T.done Xc rfl rfl rfl hU i _ s3 _ H3 sX I3 (nM fr3) dw stop) fun r s4 ⟨hr,I4⟩=>?_
   subst hr
   show compPost _ _ _ _ _ _ _ _ _
   refine ai.el (I4.loc) _ ?_
   rintro mC hmC _
   have RH:H3 G.objs.size=none:=I4.free
   have u:Un (eW X.stack) fp H2' H3 G s4.heap:=I4.base
   have yw:∀b∈fp,(b∈X.ex∨X.s₀.heap.objs.size<=b)/\b≠X.env.locals/\(∀x c,X.env.cells.lookup x=some c->c≠b)/\∀p∈X.pn++pins,p.1≠b:=fun b hb=>
    ⟨(f2 b hb).2.2.2.1,(f2 b hb).2.1,(f2 b hb).2.2.2.2.1,(f2 b hb).2.2.2.2.2⟩
   have Sl:s4.os=s2'.os:=I4.os
   have J4:Inv X pins σ H3 s4:=Nr.DN (H':=H3) Sl u I4.bw I4.bare yw
   exact behind G.objs.size D mC H3 s4 J4 hmC (Nr.eA (Je _) RH) qn
  ·refine bz (T.item Xc rfl rfl rfl hU i _ s3 _ H3 sX I3 (nM fr3) dw go) fun r s4 hz_=>ai.el hz_ _ fun u hr h4 =>?_
   subst hr
   show wpAny _ _ (letOwnedTupleGo tg (.ref it) u) _ _ _
   refine bz h4 fun _ s5 hz_=>ai.el hz_ _ fun x H5 I5 r5 y5 cj fr5 =>?_
   have LA:=I5.pinned (nM fr5) (T.obj _ _ cj)
   refine bz (hg cl G.objs.size s2' H2' fp s5 _ H5 x u _ LA r5 (gk _ _ _ _ (step x H5 y5))) fun _ s6 hz_=>ai.el hz_ _ fun σ6 H6 I6 q6 kσ kl =>?_
   refine bz (Fi cl G.objs.size s2' H2' fp s6 σ6 H6 _ I6 q6) fun b s7 hz_=>ai.el hz_ _ fun H7 I7 q7 =>?_
   have later:∀{σ':St} {H':Hp} {s':Shared},Inv Xc ([]++fP fp s5.heap) σ' H' s'->tn (i+1) s'.heap/\∀b∈fp,H' b=none:=fun{σ' H' s'} Iz=>by
    refine⟨T.keep _ _ _ cj fun b hb o e=>(Iz.pin (b,o) (Jx _ (Jx _ (dG hb e)))).1,fun b hb =>?_⟩
    refine ai.el (T.obj _ _ cj b hb) _ ?_
    rintro o e d
    exact(Iz.pin (b,o) (Jx _ (Jx _ (dG hb e)))).2.1
   have back:∀{pl:List (Addr×Obj)} {H':Hp} {s':Shared},Inv Xc pl σ6 H' s'->Inv Xc pl (Jv Nc.length none++dA σ js) H' s':=fun{pl H' s'} Iz=>by
    refine Iz.weak (by rw[<-kl]) fun j v hj =>?_
    by_cases hn:j<Nc.length
    ·rw[Yb (by simpa using hn),Yx] at hj
     split at hj<;>cases hj
    ·rw[kσ j (by omega)];exact hj
   cases b with
   | false=>
    rw[if_neg Jm] at q7 ⊢
    refine ai.el (q7) _ ?_
    rintro m' FN w7
    obtain⟨l1,l2⟩:=later I7
    exact⟨m',FN,i+1,H7,back I7.eZ,l1,l2,w7⟩
   | true=>
    rw[if_pos rfl] at q7 ⊢
    refine bz (Fp cl G.objs.size s2' H2' fp s7 σ6 H7 _ I7 q7) fun yv s8 hz_=>ai.el hz_ _ fun y H8 I8 r8 q8 =>?_
    refine ai.el (q8) _ ?_
    rintro ks k eD ey hl m' FN w9
    subst ey
    refine NF (X:=Xc) (kv:=kv) I8 eD hl r8 fun _ E1 I10 =>?_
    obtain⟨l1,l2⟩:=later I10
    exact⟨m',FN,i+1,_,back I10.eZ,l1,l2,w9⟩
 exact tZ (loop _) (T.self _ 0 _ _ _ (T.keep _ _ _ iO fun b hb o e=>old b o (toG b o e)) (loop _))
theorem BA {X:Cx}{KT:Type}[DecidableEq KT](kv:pC X.prog X.w KT){ex tg iter:Expr}{ifs:List Expr}{scope:Scope}{pos:Pos}{Nc Fc:List Str}{js:List Nat}{wi:TI}{g:TG}{tc:TT}{te:TE}
  (hU:X.calm=true) (c:gC X scope Nc Fc js) (hi:PI X tg iter wi) (gk:Gk Nc.length g)
  (hg:∀cl C s H fp,PG (pf X Nc Fc scope cl C s H fp) tg g) (Fi:∀cl C s H fp,JI (pf X Nc Fc scope cl C s H fp) ifs tc) (Fp:∀cl C s H fp,PE (pf X Nc Fc scope cl C s H fp) ex te)
  (hs:∀x,foldedSetIterable iter X.env x=pure x:=by intro _;rfl) :
  PE X (.SetComp ex [⟨tg,iter,ifs,0⟩] scope pos) (IY kv wi Nc.length js g tc te):=by
 intro pins s σ H Q I h
 rw[arm_eval_SetComp]
 refine xA kv (use:=none) (fin:=fun D H2=>Q (.ref D) H2) hU c hi hg Fi Fp gk I h (fun C D m H2 s2 I2 hm hC q =>?_) hs
 refine⟨m,hm,fun h' hs' =>?_⟩
 exact⟨.ref D,_,I2.turned (it:=C) (t':=s2.toks) (fun b o hb e=>hs'.extBut b o hb e) hC.1 (hC.2.1) hC.2.2.2.1 hC.2.2.2.2.1 hC.2.2.2.2.2,rfl,q⟩
theorem yV {X:Cx}{KT:Type}[DecidableEq KT](kv:pC X.prog X.w KT):bB X (.builtin "len") (fun xs H Q=>∃(a:Addr) (D:List KT),xs=[.ref a]/\H a=some (ip kv a D)/\Q (.int (D.length:Nat)) H):=by
 intro pins s σ H xs us Q I r h
 refine ai.el (h) _ ?_
 rintro a D rfl ha q
 refine ai.el (vals1 r) _ ?_
 rintro u rfl ru
 cases ru
 obtain⟨o,es,ep,t,h1,h2,h3,h4,h5,h6,h7,h8⟩:=(show bg X.prog X.w H s.heap a (ip kv a D) from I.bw a _ ha).1.1
 have hb:scanBound=4096:=rfl
 refine call_len_set h1 h2 h3 h7 (by omega) ⟨.int (D.length:Nat),H,I.tok _,⟨_,by rw[h8]⟩,q⟩
theorem CT {P:Program}{w:World}{KT:Type}[DecidableEq KT]{kv:pC P w KT}{J:It}{n:Nat}{js:List Nat}{g:TG}{tc:TT}{te:TE}{σ:St}{D:Addr}{H1:Hp}{fin:Hp->Prop}(N:Nat)(Pv:Nat->Hp->Prop)(h0:Pv 0 H1)
  (go:∀i H (Nx:Hp->Prop),i<N->Pv i H->(∀H',Pv (i+1) H'->Nx H')->J.go i H /\
   ∀x H',J.yld i H x H'->g x (Jv n none++dA σ js) H' fun σ2 H2=>tc σ2 H2 fun b H3=>if b=true then te σ2 H3 fun y H4=>∃ks k,H4 D=some (ip kv D ks)/\y=kv.v k/\ks.length<=4000/\Nx (upd H4 D (ip kv D (oneMore ks k))) else Nx H3)
  (stop:∀H,Pv N H->J.stop N H/\fin H):De kv J n js g tc te σ D H1 fin:=by
 refine⟨fun i m H=>m=N-i/\i<=N/\Pv i H,⟨N,by simp,Uz _,h0⟩,?_⟩
 intro i m H
 refine ai.go ?_
 rintro rfl hi p
 by_cases iA:i<N
 ·obtain⟨g1,g2⟩:=go i H (fun H'=>∃m',m'<N-i/\(m'=N-(i+1)/\i+1<=N/\Pv (i+1) H')) iA p fun H' q=>⟨_,by omega,rfl,iA,q⟩
  exact .inr ⟨g1,fun x H' y=>g2 x H' y⟩
 ·have e:i=N:=by omega
  subst e
  exact .inl (stop H p)
section
variable {X:Cx}
theorem yy {x:Str}{z:Str}{t:Tok}{pos:Pos}(hg:Gl X x)(hm:X.mg x=some (.str z t))(hd:(x==("__debug__" : Str))=false:=by decide):PE X (.Name x pos) (tC (.str z)):=rj (v := .str z) hg hm ⟨t,rfl⟩ hd
theorem kF {x:Str}{z:Int}{t:Tok}{pos:Pos}(hg:Gl X x)(hm:X.mg x=some (.int z t))(hd:(x==("__debug__" : Str))=false:=by decide):PE X (.Name x pos) (tC (.int z)):=rj (v := .int z) hg hm ⟨t,rfl⟩ hd
end
theorem ke:∀{ss:List Str} {us:List Value},StrsAre us ss->Vals (ss.map V.str) us:=by
 intro ss us h
 induction h with
 | nil=>exact .nil
 | cons _ _ _ ih=>exact .cons ⟨_,rfl⟩ ih
theorem gE:∀{ss:List Str} {us:List Value},Vals (ss.map V.str) us->StrsAre us ss
 | [],_,.nil =>.nil
 | _::_,_,.cons ⟨_,e⟩ t=>by subst e;exact .cons _ _ (gE t)
section
variable {X:Cx}(K:Ja)
theorem sortedS (hK:X.K=K:=by rfl):bB X (.builtin "sorted") (fun xs H Q=>∃(p:Addr) (ss:List Str),xs=[.ref p]/\bq K H p (ss.map V.str)/\ss.length<64 /\
  ∀(ms:List Str) (q:Addr) (H':Hp),ms.Perm ss->PyProof.Rows.sortedS ms=true->gY H q (.lst (ms.map V.str)) H'->Q (.ref q) H'):=by
 subst hK
 intro pins s σ H xs us Q I r h
 obtain⟨p,ss,rfl,hq,hl,q⟩:=h
 obtain⟨u,rfl,ru⟩:=vals1 r
 cases ru
 obtain⟨aq,rv,pl,hz⟩:=I.list hq
 have hn:aq.length=ss.length:=by have:=rv.length;rw[Jd] at this;exact this.symm
 refine sorted_strs pl.isList (gE rv) (by omega) fun out ms a1 a2 a3 =>?_
 obtain⟨e,he⟩:=sortedAll_at s.heap aq out
 have hm:ms.length=ss.length:=a2.length_eq
 have hr:=ke a1
 refine⟨.ref (s.heap.objs.size+1),_,I.laid (a:=s.heap.objs.size+1) (o := .lst (ms.map V.str)) (t':=s.toks) (fun _ _=>sortedAll_old) (Yt _) ⟨?_,out.toList,e,hr,?_⟩,rfl,q ms _ _ a2 a3 ⟨I.bw.fresh (Yt _),rfl⟩⟩
 ·rw[Jd];exact Ji (show ms.length<=64 by omega) (by decide)
 ·simpa [seqObj] using he
end
section
variable {X:Cx}
theorem oj:∀{xs:List V} {us:List Value} (j:Nat),Vals xs us->Vals (xs.eraseIdx j) (us.eraseIdx j)
 | _,_,_,.nil=>by simp;exact .nil
 | _,_,0,.cons _ t=>by simpa using t
 | _,_,j+1,.cons h t=>by simpa using .cons h (oj j t)
end
theorem PE.weak {X:Cx}{e:Expr}{t t':TE}(h:PE X e t)(w:∀ σ H Q,t' σ H Q->t σ H Q):PE X e t':=fun _ s σ H Q I q=>h s σ H Q I (w σ H Q q)
theorem PA.weak {X:Cx}{es:List Expr}{t t':TA}(h:PA X es t)(w:∀ σ H Q,t' σ H Q->t σ H Q):PA X es t':=fun _ _ s σ H Q I q=>h s σ H Q I (w σ H Q q)
noncomputable def newOf (H H':Hp):Hp:=fun a=>match H a with
 | none=>H' a
 | some _=>none
theorem jr {H H':Hp}{a:Addr}(h:H a=none):newOf H H' a=H' a:=by unfold newOf;rw[h]
theorem il {H H':Hp}{a:Addr}{o:HO}(h:newOf H H' a=some o):H a=none/\H' a=some o:=by
 unfold newOf at h
 cases e:H a with
 | none=>rw[e] at h;exact⟨rfl,h⟩
 | some u=>rw[e] at h;cases h
theorem BH {H H':Hp}:ar (newOf H H') H':=fun _ _ h=>(il h).2
theorem mW {H H1 H2:Hp}(s:ar H1 H2):ar (newOf H H1) (newOf H H2):=fun a o h=>by
 rw[jr (il h).1];exact s a o (il h).2
theorem vX {H H1 H2:Hp}(s:ar H H1):ar (newOf H1 H2) (newOf H H2):=fun a o h=>by
 rw[jr (s.free (il h).1)];exact(il h).2
def Kl (K:Ja)(d:PyData):TE:=fun _ H Q=>∀v H',ar H H'->Den K (newOf H H') d v->Q v H'
noncomputable def yI (K:Ja)(ds:List PyData):TA:=fun _ H Q=>∀vs H',ar H H'->aN K (newOf H H') ds vs->Q vs H'
section
variable {X:Cx}{K:Ja}
theorem lit_int {i:Int}{j pos}:PE X (.Constant (.int i) j pos) (Kl K (.int i)):=ah.weak fun σ H Q h=>h _ H (ar.refl _) (by unfold Den;rfl)
theorem Cd:PA X [] (yI K []):=ae.weak fun σ H Q h=>h [] H (ar.refl _) (by unfold aN;rfl)
theorem dB {e:Expr}{es:List Expr}{d:PyData}{ds:List PyData}(h:PE X e (Kl K d))(hs:PA X es (yI K ds))(jZ:starEach (e::es) X.env=(false,eval e X.env)::starEach es X.env:=by rfl):PA X (e::es) (yI K (d::ds)):=
 (aa h hs jZ).weak fun σ H Q q v H1 s1 d1 vs H2 s2 d2=>q (v::vs) H2 (s1.trans s2) (by
  unfold aN
  exact⟨v,vs,rfl,d1.same (mW s2),d2.same (vX s1)⟩)
theorem xQ {K:Ja}{H:Hp}:∀{ds:List PyData} {vs:List V},aN K H ds vs->vs.length=ds.length
 | [],_,h=>by unfold aN at h;subst h;rfl
 | d::ds,vs,h=>by
  unfold aN at h
  obtain⟨v,r,rfl,h1,h2⟩:=h
  rw[Jt,Jt,xQ h2]
theorem Ez {es:List Expr}{ds:List PyData}{pos:Pos}(h:PA X es (yI K ds))(hl:ds.length<=1000:=by decide):PE X (.List es pos) (Kl K (.list ds)):=
 (gr h).weak fun σ H Q q vs H1 s1 d1=>⟨Ji (by rw[xQ d1];exact hl) (show 1000<=sizeLine by decide),fun p H' n=>q _ _ (s1.trans n.same) (by
  unfold Den
  exact⟨p,vs,rfl,bq.of (by rw[jr (s1.free n.nn)];exact n.at),d1.same (mW n.same)⟩)⟩
end
structure GN (K:Ja)(w:World)(a:Addr):Prop where
 ex:∃es n,K.lookup a=some ⟨.type "dict",none,.dict es n,#[]⟩/\PySem.W.KeysLit w.params es.toList
def Lc (K:Ja)(w:World)(td ty:TE):TE:=fun σ H Q=>td σ H fun x H1=>ty σ H1 fun y H2=>∃a k u v,x = .ref a/\y = .str k/\GN K w a/\Jg K a k=some (some u)/\RelV v u/\Q v H2
section
variable {X:Cx}{o i:Expr}{td ty:TE}{pos:Pos}
theorem Gi (K:Ja)(w:World)(ho:PE X o td)(hi:PE X i ty)(hs:Hw i)(hK:X.K=K:=by rfl)(hw:X.w=w:=by rfl):PE X (.Subscript o i pos) (Lc K w td ty):=by
 subst hK hw
 intro pins s σ H Q I h
 refine xX PySem.F.slot_dict_getitem.lookup hs (bz (ho s σ H _ I h) fun u s1 hz_=>ai.el hz_ _ fun x H1 I1 rx q1=>bz (hi s1 σ H1 _ I1 q1) fun iv s2 hz_ =>?_)
 refine ai.el hz_ _ ?_
 clear hz_
 rintro y H2 I2 ry ⟨a,k,u',v,ex,ey,cd,e,rv,q2⟩
 subst ex ey
 obtain rfl:u=Value.ref a:=rx
 obtain⟨t,rfl⟩:=ry
 obtain⟨es,n,hl,hk⟩:=cd.ex
 have hm:=PySem.W.mapOf_K (prog:=X.prog) I2.gT hl hk
 exact⟨hm.typeIs,wpAny_getItem_of (strKind_is X.prog X.w k t) hm (PySem.W.find_K hl e) ⟨v,H2,I2.tok _,rv,q2⟩⟩
end
section
variable {X:Cx}
def NR (K:Ja):V->Option Int->Option Int->Hp->VK->Prop:=fun x lo hi H Q=>eu fun a xs=>x = .ref a/\bF K H a xs /\
 ¬(HT.cK xs.length 0 lo=0/\HT.cK xs.length xs.length hi=xs.length)/\∀p H',gY H p (.tup (ir xs lo hi)) H'->Q (.ref p) H'
theorem Ks (K:Ja)(hK:X.K=K:=by rfl):Bh X (NR K):=by
 subst hK
 intro pins s σ H x v vl vu lo hi sl Q I rx hs pl pu q
 refine KM s σ H x v vl vu lo hi sl Q I rx hs pl pu ?_
 obtain⟨a,xs,e,h,nw,q⟩:=q
 exact⟨a,xs,e,h,nw,fun p hp=>q p _ ⟨hp,rfl⟩⟩
end
theorem cU {K:Ja}{a:Addr}{aq:List Value}{n:Nat}{sl:Array (Option Value)}{xs:List V}(h:K.lookup a=some ⟨.type "tuple",none,.seq aq.toArray n,sl⟩)(hv:Vals xs aq)(hz:xs.length<=1000)(H:Hp):bF K H a xs:=
 .inr ⟨_,aq.toArray,n,h,rfl,rfl,rfl,Ji (by rw[Jp,<-hv.length];exact hz) (show 1000<=sizeLine by decide),by simpa using hv⟩
theorem rg {X:Cx}{k:Nat}{x:Str}{ps:List Str}{sp:Sp}{p pos:Pos}(F:Fn X.prog X.w X.K X.mg X.base k x ps sp)(hr:cG k X.A)(hg:Gl X x)(nP:(x==("__debug__" : Str))=false:=by decide):
  PE X (.Call (.Name x p) [] [] pos) (tN sp [] E0 Ge):=by
 obtain⟨f,fd,a,b,c,d⟩:=F.ex
 exact Dp a hr hg d c b .nil Hh nP
noncomputable abbrev cZ:List Value:=[.type "ValueError",.type "Exception",.type "BaseException",.type "object"]
structure ja (K:Frag)(C:Addr)(f:Str):Prop where
 sa:findIn K (.ref C) "__setattr__" = some (some (.builtin "object.__setattr__"))
 na:findIn K (.ref C) f=some none
 mo:mroIn K C (.type "object")=some true
 cl:∃cd D,clsIn K C=some cd/\cd.mro = .ref C :: .ref D::cZ/\cd.hasDict=true
def Raw (o:Obj):Prop:=∃t,o.data = .fields #[.ref t,.none,.none,.none,.bool false,.none]
theorem Raw.nc {o:Obj}(h:Raw o):notCls o=true:=by
 obtain⟨_,_,dt,_⟩:=o
 obtain⟨t,h⟩:=h
 cases h;rfl
noncomputable def uo (e C:Addr):HO := .ext fun h=>∃o,h.get? e=some o/\o.cls = .ref C/\o.dict=none/\Raw o
noncomputable def A5 (e C dx:Addr):HO := .ext fun h=>∃o,h.get? e=some o/\o.cls = .ref C/\o.dict=some dx/\Raw o
section
variable {prog:Program}{w:World}{A:Around}{K:Frag}{C e:Addr}{s:Shared}{E:Value->Shared->Prop}{f:Str}{v:Value}
theorem Ba {o:Obj}{Q:Unit->Shared->Prop}(X:K.In s.heap)(O:ja K C f)(hx:s.heap.get? e=some o)(hc:o.cls = .ref C)(hd:o.dict=none)(hn:notCls o=true)
  (k:∀h' tk,h'.get? e=some { o with dict:=some s.heap.objs.size } -> h'.Ns1 s.heap.objs.size (fun y=>if y=f then some v else none)->(∀b ob,b≠e->s.heap.get? b=some ob->h'.get? b=some ob)->Q () { s with heap:=h',toks:=tk }) :
  wpAny (model prog w) A (setAttr (.ref e) f v) Q E s:=by
 have J:InstAt s.heap e o C none:=⟨hx,hc,hn,by rw[hd];trivial⟩
 refine ai.el (O.cl) _ ?_
 rintro cd D c1 c2 c3
 have SF:=PySem.F.store_object
 have top:Looks (model prog w) s.heap (isInstance (.ref e) (.type "object")) true:=J.type.andThen (looks_mroIn X O.mo)
 have Sk:Looks (model prog w) s.heap (mroOf (.ref C)) cd.mro:=(looks_clsIn X c1).andThen .now
 refine set_plain X J O.sa ?_
 refine codeAny_call_builtin SF.slot.plain SF.entry ?_
 refine @check_slot (model prog w) _ _ { s with toks:=s.toks+1 } "object.__setattr__" "object" "__setattr__" (.ref e) [.str f s.toks,v] [] _ SF.kind SF.split top (SF.args (.ref e) (.str f s.toks) v) ?_
 rw[osa_eq,refuse_eq]
 refine wpAny_bind (wpAny_bind (J.type.here (s:={ s with toks:=s.toks+1 }) (wpAny_bind (Sk.here (s:={ s with toks:=s.toks+1 }) ?_))))
 rw[c2,refuseLoop_ref,refuseLoop_ref,PySem.F.store_ValueError.passes]
 refine wpAny_pure (wpAny_bind (J.type.here (s:={ s with toks:=s.toks+1 }) ?_))
 refine wpAny_bind ((looks_findIn X O.na).here (s:={ s with toks:=s.toks+1 }) ?_)
 refine wpAny_bind (wpAny_pure ?_)
 show wpAny _ _ (storeInOwnDict (.ref e) (.ref C) (.str f s.toks) f v false) _ _ _
 obtain⟨oc,od,odt,Ap⟩:=o
 dsimp only at hc hd
 subst hc hd
 have lU:=(Heap.get?_some_iff.mp hx).2
 have C2:e≠s.heap.objs.size:=Jl (Jf hx)
 refine wpAny_bind (wpAny_pure (wpAny_bind ?_))
 show wpAny _ _ (instanceDict e true) _ _ _
 unfold instanceDict
 refine wpAny_bind (wpAny_loadPart hx ?_)
 refine wpAny_bind ((looks_clsIn X c1).here (s:={ s with toks:=s.toks+1 }) ?_)
 rw[c3]
 dsimp only
 rw[if_neg (by decide),if_neg (by simp[typeHasDict])]
 split
 ·rename_i c
  exact absurd hn (by simp[notCls])
 have OE:(s.heap.push { cls := .type "dict",data := .dict #[] }).get? e=some ⟨.ref C,none,odt,Ap⟩:=Jb _ hx
 refine wpAny_bind (wpAny_alloc' ?_)
 refine wpAny_bind (wpAny_update' OE ?_)
 refine wpAny_pure ?_
 obtain⟨G,hG⟩:∃G,G=(s.heap.push { cls := .type "dict",data := .dict #[] }).update e fun o=>{ cls:=o.cls,dict:=some s.heap.objs.size,data:=o.data,slots:=o.slots }:=⟨_,rfl⟩
 have gd:G.get? s.heap.objs.size=some { cls := .type "dict",data := .dict #[] }:=by
  rw[hG]
  exact(Heap.get?_update_ne _ _ _ _ C2.symm).trans (Heap.get?_push_at rfl rfl)
 have ge:G.get? e=some ⟨.ref C,some s.heap.objs.size,odt,Ap⟩:=by
  rw[hG]
  refine J2 _ OE ?_
  cases odt<;>first|rfl|exact lU
 have go:∀b ob,b≠e->s.heap.get? b=some ob->G.get? b=some ob:=fun b ob nb q=>by
  rw[hG]
  exact(Heap.get?_update_ne _ _ _ _ nb).trans (Jb _ q)
 have Vq:G.Ns s.heap.objs.size (fun _=>none):=⟨_,#[],_,gd,rfl,(fun a ha=>absurd ha (by simp)),fun _=>rfl⟩
 rw[<-hG]
 show wpAny _ _ (storeInDict s.heap.objs.size (.str f s.toks) f v) _ _ _
 unfold storeInDict newKeyGuard
 refine wpAny_bind (wpAny_pure (wpAny_bind (wpAny_nsSet1 (Heap.Ns1.of_empty Vq) fun h2 ns2 sb =>?_)))
 refine ai.el (ns2.count (Within.cons f v Within.nil)) _ ?_
 rintro oD eD pD hoD dD cD
 refine wpAny_bind (wpAny_lookBehind hoD ?_ ?_)
 ·rw[dD]
  refine pastItsLine_dict (Ji cD ?_)
  rw[Jt,List.length_nil,sizeLine_eq]
  omega
 exact wpAny_pure (k h2 _ ((sb.2 e C2).trans ge) ns2 fun b ob nb q=>(sb.2 b (Jl (Jf q))).trans (go b ob nb q))
theorem Dc {o od:Obj}{dx:Addr}{Q:Value->Shared->Prop}(X:K.In s.heap)(O:iC K C)(S:ja K C f)(hx:s.heap.get? e=some o)(hc:o.cls = .ref C)(hd:o.dict=some dx)(hn:notCls o=true)(ho:s.heap.get? dx=some od)
  (hl:lookIn f od=some (some v)) (hv:handedIn v=true) (k:Q v { s with toks:=s.toks+1 }):wpAny (model prog w) A (getAttr (.ref e) f true) Q E s:=by
 have J:InstAt s.heap e o C (some od):=⟨hx,hc,hn,by rw[hd];exact ho⟩
 have p:ExcAt e C s.heap:=⟨o,hx,hc⟩
 refine ai.el (S.cl) _ ?_
 rintro cd D c1 c2 c3
 have fo:findObj K C (some od) f=some (.value v):=by
  unfold findObj PySem.W.ownOf
  simp only[c1,S.na,Option.bind_some,c3,if_true,hl]
 obtain⟨hh,g,dr,t,os⟩:=s
 have T0:=gh (M:=model prog w) p
 have T1:=looks_findIn (M:=model prog w) X O.ga
 have T2:=looks_findIn (M:=model prog w) X O.gt
 have T3:=looks_find (M:=model prog w) X J fo
 have f3:=F.attr_ValueError.ga.bind (.ref e)
 unfold getAttr getAttrBy
 refine wpAny_bind (wpAny_mkText (wpAny_holding ?_))
 refine wpAny_bind (T0.at (wpAny_bind (T1.at ?_)))
 show wpAny _ _ (getAttrByItsOwn _ _ _ _ _ _) _ _ _
 unfold getAttrByItsOwn
 refine wpAny_bind ?_
 show wpAny _ _ (typeLookup (.ref C) "__getattr__") _ _ _
 refine T2.at (wpAny_bind (wpAny_attempt (wpAny_holding ?_)))
 show wpAny _ _ (boundAndCalled _ _ _) _ _ _
 unfold boundAndCalled
 rw[f3]
 refine wpAny_bind (wpAny_pure (wpAny_call (codeAny_call_builtin F.attr_ValueError.ga.plain F.entry_bexc_ga (pW (s:=⟨hh,g,dr,t+1,os⟩) X O p ?_))))
 unfold Builtin.«object.__getattribute__»
 refine wpAny_bind (wpAny_pure (wpAny_bind (wpAny_pure (wpAny_bind (T0.at (wpAny_bind (T3.at ?_)))))))
 exact wpAny_pure (handed_on hv k)
end
section
variable {prog:Program}{w:World}{A:Around}{E:Value->Shared->Prop}{h0:Heap}{g0:Array GenState}{d0:Drawn}{t0:Nat}{os0:OsState}{nm qn:Str}{C N fi:Addr}{bs up tail:List Value}{hdct:Bool}{sn:List Str}{sub:List Value}{ab:Bool}
 {col:Option Bool} {dd:Option Addr} {k0 k1 k2 k3 k5:Option Value} {B newId Dd:String}
theorem AV (FB:ExcBaseFacts B newId Dd tail)(TL:OwnTail h0 tail up){vs:List Value}{oi:Obj}{Q:Fin->Shared->Prop}
  (wD:h0.get? C=some (excClassObj nm qn C N bs up hdct sn sub ab col dd k0 k1 k2 k3 k5 newId)) (iz:∀h1:Heap,(∀b o,h0.get? b=some o->h1.get? b=some o)->Looks (model prog w) h1 (typeLookup (.ref C) "__init__") (some (.ref fi))) (Pt:h0.get? fi=some oi) (Se:oi.cls = .type "function") (fit:vs.length<=sizeLine)
  (run:∀h' e,Heap.MadeExcOf h0 h' e (.ref C) vs->wpAny (model prog w) A (call (.ref fi) (.ref e::vs)) (fun r s'=>r = .none/\Q (.done (.ret (.ref e))) s') E ⟨h',g0,d0,t0,os0⟩) :
  wpAny (model prog w) A (Builtin.«type.__call__» ⟨.ref C::vs,[]⟩) Q E ⟨h0,g0,d0,t0,os0⟩:=by
 repeat (first
  | with_reducible refine wpAny_loadPart_at wD ?_
  | with_reducible refine wpAny_madeBy_exc wD ?_
  | wp_step)
 refine codeAny_call_builtin_code (Code.quiet_builtin _ FB.quiet) ?_
 refine wpAny_check_new_subT FB TL wD ?_
 refine codeAny_exc_new_subT FB TL wD ?_ fit
 show wpAny _ _ _ _ _ _
 obtain⟨H1,e1⟩:∃H1,H1=(h0.push { cls := .type "tuple",data := .seq vs.toArray }).push { cls := .ref C,data := .fields #[.ref h0.objs.size,.none,.none,.none,.bool false,.none] }:=⟨_,rfl⟩
 have kp:∀b o,h0.get? b=some o->H1.get? b=some o:=fun b o z=>by
  rw[e1]
  exact Jb _ (Jb _ z)
 have me:H1.get? (h0.objs.size+1)=some { cls := .ref C,data := .fields #[.ref h0.objs.size,.none,.none,.none,.bool false,.none] }:=by
  rw[e1]
  heap_get
 have mt:H1.get? h0.objs.size=some { cls := .type "tuple",data := .seq vs.toArray }:=by
  rw[e1]
  exact Jb _ (Heap.get?_push_at rfl rfl)
 rw[<-e1]
 have RB:=kp _ _ wD
 have self:(Value.ref C::up).contains (.ref C)=true:=by simp
 unfold isInstance
 repeat (first
  | with_reducible refine wpAny_loadPart_at me ?_
  | (with_reducible refine wpAny_isSubtype_exc RB ?_;rw[self])
  | wp_step)
 show wpAny _ _ (typeLookup (.ref C) _) _ _ _
 refine(iz H1 kp).at ?_
 refine wpAny_holding (wpAny_bind ?_)
 unfold bindSpecial
 refine wpAny_bind (wpAny_typeOf (T := "function") ⟨_,kp _ _ Pt,Se⟩ ?_)
 rw[if_pos (by decide)]
 have made:Heap.MadeExcOf h0 H1 (h0.objs.size+1) (.ref C) vs:=⟨kp,Heap.get?_none_of_le (Yt _),h0.objs.size,me,Heap.get?_none_of_le (Je _),mt⟩
 refine wpAny_pure (wpAny_bind (wpAny_mono (run H1 _ made) (fun r s' hr =>?_) fun _ _ x=>x))
 obtain⟨rfl,q⟩:=hr
 wp_walk
 exact q
theorem NG (FB:ExcBaseFacts B newId Dd tail)(TL:OwnTail h0 tail up){vs:List Value}{oi:Obj}{Q:Value->Shared->Prop}
  (wD:h0.get? C=some (excClassObj nm qn C N bs up hdct sn sub ab col dd k0 k1 k2 k3 k5 newId)) (iz:∀h1:Heap,(∀b o,h0.get? b=some o->h1.get? b=some o)->Looks (model prog w) h1 (typeLookup (.ref C) "__init__") (some (.ref fi))) (Pt:h0.get? fi=some oi) (Se:oi.cls = .type "function") (fit:vs.length<=sizeLine)
  (run:∀h' e,Heap.MadeExcOf h0 h' e (.ref C) vs->wpAny (model prog w) (A.under (.builtin "type.__call__" ⟨.ref C::vs,[]⟩)) (call (.ref fi) (.ref e::vs)) (fun r s'=>r = .none/\Q (.ref e) s') E ⟨h',g0,d0,t0,os0⟩) :
  wpAny (model prog w) A (call (.ref C) vs) Q E ⟨h0,g0,d0,t0,os0⟩:=by
 have b1:=tc_lookup
 have b2:=tc_bind (.ref C)
 have ty:(⟨h0,g0,d0,t0,os0⟩:Shared).TypeIs (.ref C) "type":=⟨_,wD,rfl⟩
 refine wpAny_call (codeAny_of_tree ?_)
 show wpAny _ _ (callAny (.ref C) _) _ _ _
 repeat (any_goals (first
  | assumption
  | with_reducible refine wpAny_loadPart_at wD ?_
  | wp_step))
 refine⟨rfl,codeAny_call_builtin_at (Code.quiet_builtin _ (by decide +kernel)) entry_typeCall ?_⟩
 exact wpAny_check_type_call_sub wD (AV FB TL wD iz Pt Se fit fun h' e m=>run h' e m)
end
section
variable {X:Cx}{pins:List (Addr×Obj)}{σ:St}{H:Hp}{s:Shared}{e C:Addr}
theorem Gf {P:Program}{w:World}{H:Hp}{h:Heap}{o:Obj}(h1:h.get? e=some o)(h2:o.cls = .ref C)(h3:o.dict=none)(h4:Raw o):bg P w H h e (uo e C):=
 ⟨⟨o,h1,h2,h3,h4⟩,⟨o,h1⟩,fun a b ⟨o,e1,r⟩ k=>⟨o,k _ e1,r⟩⟩
theorem Er {P:Program}{w:World}{H:Hp}{h:Heap}{o:Obj}{dx:Addr}(h1:h.get? e=some o)(h2:o.cls = .ref C)(h3:o.dict=some dx)(h4:Raw o):bg P w H h e (A5 e C dx):=
 ⟨⟨o,h1,h2,h3,h4⟩,⟨o,h1⟩,fun a b ⟨o,e1,r⟩ k=>⟨o,k _ e1,r⟩⟩
theorem Inv.noObj (I:Inv X pins σ H s)(h:s.heap.get? e=none):H e=none:=by
 cases z:H e with
 | none=>rfl
 | some o=>obtain⟨q,hq⟩:=(I.bw e o z).ex;rw[hq] at h;cases h
theorem Inv.NJ {h':Heap}{us:List Value}{tk:Nat}(I:Inv X pins σ H s)(m:Heap.MadeExcOf s.heap h' e (.ref C) us)(hex:X.ex=[]):Inv X pins σ (upd H e (uo e C)) { s with heap:=h',toks:=tk }:=by
 obtain⟨k,ne,t0,me,nt,mt⟩:=m
 have I2:Inv X pins σ H { s with heap:=h',toks:=tk }:=I.kept k
 have hs:∀b o,s.heap.get? b=some o->b≠e:=fun b o q z=>by rw[z,ne] at q;cases q
 refine I2.wj (I.noObj ne) (fun z =>?_) (fun x c q =>?_) (fun p hp =>?_) (fun b u q =>?_) (Gf me rfl rfl ⟨_,rfl⟩)
 ·obtain⟨m,⟨oL,_,_,q,_⟩,_⟩:=I.loc
  exact hs _ _ q z.symm
 ·obtain⟨v,o,e1,_⟩:=I.cell x c q
  exact hs _ _ e1
 ·exact hs _ _ (I.pin p hp).1
 ·obtain⟨o',q'⟩:=I.base.there b u q (by rw[hex];exact fun z=>nomatch z)
  exact hs _ _ q'
structure IB (K:Frag)(C fi:Addr):Prop where
 cl:∃nm qn N bs D hdct sn sub ab col dd k0 k1 k2 k3 k5,K.lookup C=some (excClassObj nm qn C N bs (.ref D::cZ) hdct sn sub ab col dd k0 k1 k2 k3 k5 "ValueError.__new__")/\∀h:Heap,K.In h->OwnTail h cZ (.ref D::cZ)
 ini:findIn K (.ref C) "__init__" = some (some (.ref fi))
 fn:∃oi:Obj,K.lookup fi=some oi/\oi.cls = .type "function"
 kp:keepIn K (.ref C)=true
def Dx (C:Addr)(sp:Sp)(t:TA):TE:=fun σ H Q=>t σ H fun vs H1=>vs.length<=1000/\∀e,H1 e=none->sp (.ref e::vs) (upd H1 e (uo e C)) (fun v H2=>v = .non/\Q (.ref e) H2) E0
theorem Af {k:Nat}{fi:Addr}{fd:FuncData}{ps:List Str}{sp:Sp}{Q:VK}{us:List Value}{vs:List V}(M:IB X.K C fi)(F:bh X.prog X.w X.K X.mg X.base fw k fi fd ps sp)(hr:cG (k+1) X.A)(hb:Binds X.K fd ps [])(hex:X.ex=[])
  (I:Inv X pins σ H s) (r:Vals vs us) (hl:vs.length<=1000) (h:∀e,H e=none->sp (.ref e::vs) (upd H e (uo e C)) (fun v H2=>v = .non/\Q (.ref e) H2) E0):wpAny (model X.prog X.w) X.A (call (.ref C) us) (EP X pins σ Q) X.xe s:=by
 refine ai.el (M.cl) _ ?_
 rintro nm qn N bs D hdct sn sub ab col dd k0 k1 k2 k3 k5 lk TL
 refine ai.el (M.fn) _ ?_
 rintro oi l2 ft
 have xF:=I.gT
 refine NG (h0:=s.heap) (g0:=s.gens) (d0:=s.drawn) (t0:=s.toks) (os0:=s.os) PySem.F.excBase_ValueError (TL _ xF) (xF _ _ lk) (fun h1 kp=>looks_findIn (fun a o z=>kp a o (xF a o z)) M.ini) (xF _ _ l2) ft (by rw[<-r.length];exact Ji hl (by decide)) fun h' e m =>?_
 have I2:Inv X pins σ (upd H e (uo e C)) { s with heap:=h',toks:=s.toks }:=I.NJ m hex
 have hq:=h e (I.noObj m.2)
 have r2:Vals (V.ref e::vs) (Value.ref e::us) := .cons rfl r
 have hlen:(Value.ref e::us).length=ps.length:=by rw[<-r2.length];exact F.len _ _ _ _ hq
 have Ow:=hb { s with heap:=h',toks:=s.toks } (Value.ref e::us) I2.gT (by rw[Uw];exact hlen)
 rw[Uw] at Ow
 refine wpAny_call (codeAny_mono (F.run _ X.stack { s with heap:=h',toks:=s.toks } _ ⟨Value.ref e::us,[]⟩ (Value.ref e::us) _ _ E0 (hr.make C us []) (I2.FJ.make C us []) Ow r2 hq) fun rr s' hq' =>?_)
 cases rr with
 | error x=>exact hq'.elim
 | ok fl=>
  cases fl with
  | ret u=>
   obtain⟨v,H',I3,rv,ev,q3⟩:=I2.after hq'
   subst ev
   exact⟨rv,⟨V.ref e,H',I3,rfl,q3⟩⟩
  | next=>exact hq'.elim
  | brk=>exact hq'.elim
  | cont=>exact hq'.elim
theorem Cv {k:Nat}{fi:Addr}{fd:FuncData}{ps:List Str}{sp:Sp}{x:Str}{p pos:Pos}{a:Expr}{as:List Expr}{t:TA}(M:IB X.K C fi)(F:bh X.prog X.w X.K X.mg X.base fw k fi fd ps sp)(hr:cG (k+1) X.A)(hg:Gl X x)(hm:X.mg x=some (.ref C))
  (hb:Binds X.K fd ps []) (ha:PA X (a::as) t) (hex:X.ex=[]:=by rfl) (nP:(x==("__debug__" : Str))=false:=by decide) (he:starEach (a::as) X.env=(false,eval a X.env)::starEach as X.env:=by rfl) (pJ:(backTo pos (starEach as X.env)).any (·.1)=false:=by rfl) :
  PE X (.Call (.Name x p) (a::as) [] pos) (Dx C sp t):=by
 intro pins s σ H Q I h
 refine wpAny_Call_Name_kw (gN I hg hm ?_ nP)
 refine PySem.W.callWith_K (h₀:=X.base) I.ok.mod.xF M.kp (bz (ha s σ H _ I h) fun us s1 hz_=>ai.el hz_ _ fun vs H1 I1 r q=>⟨I1.gT,?_⟩) he pJ
 exact Af M F hr hb hex I1 r q.1 q.2
def NU (K:Frag)(to tv:TE)(f:Str):TS:=fun D σ H=>tv σ H fun v H1=>to σ H1 fun x H2=>∃e C,x = .ref e/\H2 e=some (uo e C)/\ja K C f/\∀dx,H2 dx=none->dx≠e->D.nx σ (upd (upd H2 e (A5 e C dx)) dx (.xd [(f,v)]))
theorem yi {o value:Expr}{f:Str}{to tv:TE}{pos pos':Pos}(ho:PE X o to)(hv:PE X value tv)(hs:swapsWith value (some (.Attribute o f pos')) pos.line X.env=pure false):PS X (.Assign [.Attribute o f pos'] value pos) (NU X.K to tv f):=by
 intro pins s σ H D I h
 refine plainObj_wpAny_Assign_Attribute (bz (hv s σ H _ I h) fun u s1 ⟨v,H1,I1,ru,q⟩=>bz (ho s1 σ H1 _ I1 q) fun ov s2 ⟨x,H2,I2,rx,e,C,ex,ee,S,q2⟩=>?_) hs
 subst ex
 obtain rfl:ov=Value.ref e:=rx
 obtain⟨ob,b1,b2,b3,b4⟩:=(show bg X.prog X.w H2 s2.heap e (uo e C) from I2.bw e _ ee).1
 have C2:e≠s2.heap.objs.size:=Jl (Jf b1)
 refine Ba I2.gT S b1 b2 b3 b4.nc fun h' tk a1 a2 a3 =>?_
 have I3:Inv X pins σ (upd H2 e (A5 e C s2.heap.objs.size)) { s2 with heap:=h',toks:=tk }:=I2.write (x:=e) (e:=e) (by rw[ee];exact True.intro) (.inl rfl) a3 ⟨_,a1⟩ (Er a1 b2 rfl b4)
 have hd:H2 s2.heap.objs.size=none:=I2.bw.fresh (Je _)
 have fp:=I2.eA (H':=H2) (Je _) hd
 refine⟨σ,_,?_,q2 _ hd C2.symm⟩
 refine I3.wj (by rw[aj C2.symm];exact hd) fp.2.1 fp.2.2.2.2.1 fp.2.2.2.2.2 (fun b u q z =>?_) ⟨_,a2,fun g =>?_⟩
 ·have:=Jf q
  rw[z] at this
  exact absurd (Jn this I2.sz) (Uc _)
 ·show j6 (Y4 g [(f,v)]) (if g=f then some u else none)
  by_cases z:g=f
  ·rw[if_pos z,z,List.lookup_cons_self];exact ru
  ·rw[if_neg z]
   have:Y4 g [(f,v)]=none:=by
    rw[Ui]
    have:(g==f)=false:=by simpa using z
    rw[this];rfl
   rw[this];trivial
end
section
variable {K:Frag}{C D N:Addr}{nm qn:Str}{bs up:List Value}{hdct:Bool}{sn:List Str}{sub:List Value}{ab:Bool}{col:Option Bool}{dd:Option Addr}{k0 k1 k2 k3 k5:Option Value}
theorem A9 (lk:K.lookup C=some (excClassObj nm qn C N bs up hdct sn sub ab col dd k0 k1 k2 k3 k5 "ValueError.__new__"))(made:excIn K C cZ "ValueError.__new__" = true):nsOkIn K N=true/\nsIn K N "__init__" = some none:=by
 have h:(C==C && "ValueError.__new__" == "ValueError.__new__" && !false&&tailIn K cZ up&&nsOkIn K N&&nsIn K N "__init__" == some none)=true:=by
  unfold excIn at made
  rw[lk] at made
  exact made
 have h1:=Bool.and_eq_true_iff.mp h
 exact⟨(Bool.and_eq_true_iff.mp h1.1).2,beq_iff_eq.mp h1.2⟩
theorem tH (lk:K.lookup C=some (excClassObj nm qn C N bs cZ hdct sn sub ab col dd k0 k1 k2 k3 k5 "ValueError.__new__"))(made:excIn K C cZ "ValueError.__new__" = true)(h:Heap)(xF:K.In h):OwnTail h cZ (.ref C::cZ):=by
 obtain⟨a,b⟩:=A9 lk made
 exact .own (xF _ _ lk) (.of_isNs (isNs_of_in xF a)) (nsMap_none_of_in xF a b) .base
theorem tT {f:Str}(lk:K.lookup C=some (excClassObj nm qn C N bs (.ref D::cZ) true sn sub ab col dd k0 k1 k2 k3 k5 "ValueError.__new__"))(sa:findIn K (.ref C) "__setattr__" = some (some (.builtin "object.__setattr__")))(na:findIn K (.ref C) f=some none)
  (mo:mroIn K C (.type "object")=some true):ja K C f:=by
 refine⟨sa,na,mo,⟨{ name:=nm,bases:=bs,mro := .ref C :: .ref D::cZ,ns:=N,qualname:=qn,hasDict:=true,slotNames:=sn,subclasses:=sub,abstract:=ab,collection:=col,hasDel:=false },D,?_,rfl,rfl⟩⟩
 unfold clsIn
 rw[lk]
end
structure xP (K:Ja)(P:Program)(w:World)(a:Addr)(es:Array DictEntry)(n:Nat)(kvs:List (Str×Value)):Prop where
 l:K.lookup a=some ⟨.type "dict",none,.dict es n,#[]⟩
 k:PySem.W.KeysLit w.params es.toList
 p:Pairs (PySem.strKind P w) es.toList kvs
 nd:(kvs.map (·.1)).Nodup
 ns:(a==sysModules)=false
theorem xP.at {K:Ja}{P:Program}{w:World}{a:Addr}{es:Array DictEntry}{n:Nat}{kvs:List (Str×Value)}{h:Heap}(D:xP K P w a es n kvs)(X:K.In h):h.DictAt (PySem.strKind P w) a kvs n:=
 ⟨_,es,X _ _ D.l,⟨rfl,rfl,rfl⟩,rfl,fun e he=>by
  obtain⟨x,t,e1,e2⟩:=D.k.all e (Array.mem_toList_iff.mpr he)
  exact⟨x,by rw[e1];exact strKind_is P w x t,e2⟩,D.p,D.nd⟩
theorem Nt {X:Cx}:D8 X "int.bit_length" (fun x vs H Q=>∃a:Int,x = .int a/\vs=[]/\Q (.int ((PySem.Builtin.Int.intBits a:Nat):Int)) H):=by
 intro pins s σ H x vs v us Q I rx rv h
 obtain⟨a,rfl,rfl,q⟩:=h
 obtain⟨t,rfl⟩:=rx
 cases rv
 exact call_gives PySem.F.slot_int_bit_length (typeIs_int _ _ _) PySem.F.entry_int_bit_length (PySem.F.args_int_bit_length_1 _) (PySem.AutoIntG2.int_bit_length_int_0 a t) ⟨.int _,H,I.tok _,⟨_,rfl⟩,q⟩
structure uz (h:Heap)(S it d:Addr)(i n ep:Nat):Prop where
 ex:∃(x0:Value) (f:Bool) (ok ov:Value),h.get? it=some { cls := .type "dict_itemiterator",dict:=none,data := .fields #[x0,.bool f,.ref d,.int i 0,.int n 0,.int ep 0,ok,ov],slots := #[] } /\ (x0 = .none∨∃(a:Addr) (oa:Obj),x0=rawInt a/\h.get? a=some oa/\a≠it/\a≠S)
section
variable {prog:Program}{w:World}{K:Type}[DecidableEq K]{knd:KeyKind prog w K}{A:Around}{E:Value->Shared->Prop}{s:Shared}
theorem zK {S it d:Addr}{i n ep:Nat}{key val:Value}{Q:Value->Shared->Prop}(st:uz s.heap S it d i n ep)(hS:S<s.heap.objs.size)
  (q:∀h',uz h' S it d i n ep->h'.get? s.heap.objs.size=some { cls := .type "tuple",data := .seq #[key,val] } -> h'.objs.size=s.heap.objs.size+1->(∀b o,b≠it->s.heap.get? b=some o->h'.get? b=some o)->Q (.ref s.heap.objs.size) { s with heap:=h' }) :
  wpAny (model prog w) A (Builtin.Dict_items.pairFromOwner (.ref it) 6 key val) Q E s:=by
 obtain⟨⟨x0,f,ok,ov,e,DY⟩⟩:=st
 have low:it<s.heap.objs.size:=Jf e
 unfold Builtin.Dict_items.pairFromOwner
 refine wpAny_bind (wpAny_newTuple ?_)
 obtain⟨h2,eh2⟩:∃h2,h2=s.heap.push { cls := .type "tuple",data := .seq #[key,val] }:=⟨_,rfl⟩
 have t2:h2.get? s.heap.objs.size=some { cls := .type "tuple",data := .seq #[key,val] }:=by rw[eh2];exact Jj _ rfl
 have z2:h2.objs.size=s.heap.objs.size+1:=by rw[eh2,Ug]
 have k2:∀b o,s.heap.get? b=some o->h2.get? b=some o:=fun b o x=>by rw[eh2];exact Jb _ x
 have e2:=k2 _ _ e
 rw[<-eh2]
 clear eh2
 refine wpAny_bind ?_
 unfold Builtin.Dict_items.ownedTupleIsFree
 rcases DY with rfl|⟨a,oa,rfl,ha,na,nS⟩
 ·refine wpAny_bind (wpAny_field (s:={ s with heap:=h2 }) e2 rfl (x := .none) rfl (wpAny_pure ?_))
  simp only[if_true]
  refine wpAny_bind (wpAny_field (s:={ s with heap:=h2 }) e2 rfl (x:=ok) rfl (wpAny_bind (wpAny_field (s:={ s with heap:=h2 }) e2 rfl (x:=ov) rfl ?_)))
  refine wpAny_bind (wpAny_setField_rec (s:={ s with heap:=h2 }) e2 (by simp) fun h3 e3 s3=>wpAny_bind (wpAny_setField_rec (s:={ s with heap:=h3 }) e3 (by simp) fun h4 e4 s4=>wpAny_bind (wpAny_setField_rec (s:={ s with heap:=h4 }) e4 (by simp) fun h5 e5 s5=>wpAny_bind (wpAny_setField_rec (s:={ s with heap:=h5 }) e5 (by simp) fun h6 e6 s6 =>?_))))
  have kk:∀b o,b≠it->h2.get? b=some o->h6.get? b=some o:=fun b o nb x=>s6.extBut b o nb (s5.extBut b o nb (s4.extBut b o nb (s3.extBut b o nb x)))
  have t6:=kk _ _ (Uh low) t2
  exact wpAny_bind (wpAny_letGo (wpAny_pure (q h6 ⟨_,_,_,_,e6,.inr ⟨_,_,rfl,t6,Uh low,Uh hS⟩⟩ t6 (by rw[s6.1,s5.1,s4.1,s3.1];exact z2) fun b o nb x=>kk b o nb (k2 b o x))))
 ·refine wpAny_bind (wpAny_field (s:={ s with heap:=h2 }) e2 rfl (x:=rawInt a) rfl ?_)
  show wpAny _ _ (loadIfAlive ((a:Int).toNat) >>= _) _ _ _
  rw[Yy]
  refine wpAny_bind (PySem.W.kdx_alive (k2 _ _ ha) ?_)
  simp only[Option.isNone_some,Ut,if_false]
  refine wpAny_bind (wpAny_field (s:={ s with heap:=h2 }) e2 rfl (x := .bool f) rfl ?_)
  cases f
  ·refine wpAny_bind (wpAny_setField_rec (s:={ s with heap:=h2 }) e2 (by simp) fun h3 e3 s3=>wpAny_pure ?_)
   simp only[Ut,if_false]
   exact wpAny_pure (q h3 ⟨_,_,_,_,e3,.inr ⟨a,oa,rfl,s3.extBut _ _ na (k2 _ _ ha),na,nS⟩⟩ (s3.extBut _ _ (Uh low) t2) (by rw[s3.1];exact z2) fun b o nb x=>s3.extBut b o nb (k2 b o x))
  ·refine wpAny_pure ?_
   simp only[Ut,if_false]
   exact wpAny_pure (q h2 ⟨_,_,_,_,e2,.inr ⟨a,oa,rfl,k2 _ _ ha,na,nS⟩⟩ t2 z2 fun b o nb x=>k2 b o x)
theorem vB {S it d:Addr}{i ep:Nat}{kvs:List (K×Value)}{k:K}{v:Value}{Q:Option Value->Shared->Prop}(FW:uz s.heap S it d i kvs.length ep)(hS:S<s.heap.objs.size)
  (hm:s.heap.DictAt knd d kvs ep) (hx:kvs[i]? = some (k,v))
  (hQ:∀key h',knd.is k key=true->uz h' S it d (i+1) kvs.length ep->h'.get? s.heap.objs.size=some { cls := .type "tuple",data := .seq #[key,v] } -> h'.objs.size=s.heap.objs.size+1 ->
   (∀b o,b≠it->s.heap.get? b=some o->h'.get? b=some o)->Q (some (.ref s.heap.objs.size)) { s with heap:=h' }) :
  wpAny (model prog w) A (pyNext (.ref it)) Q E s:=by
 obtain⟨⟨x0,f,ok,ov,e,DY⟩⟩:=FW
 obtain⟨od,es,hod,vO,hdd,hk,EZ,hn⟩:=id hm
 have hT:s.TypeIs (.ref it) "dict_itemiterator":=⟨_,e,rfl⟩
 have hsz:es.size=kvs.length:=by rw[<-EZ.length];simp
 have iA:i<es.size:=by rw[hsz];exact(Jq.mp hx).1
 obtain⟨hkey,hval⟩:=EZ.get? (e:=es[i]) (by simp[iA]) hx
 refine wpAny_bind (wpAny_attempt (wpAny_callSpecial?_slot (name:=Str.ofString "__next__") hT F.slot_dict_itemiterator_next (wpAny_call_entry F.slot_dict_itemiterator_next hT F.entry_dict_itemiterator_next ?_ (F.args_dict_itemiterator_next_1 _))))
 unfold Builtin.«dict_itemiterator.__next__»
 repeat (first
  | with_reducible refine wpAny_typeNameOfWhole_itemiter hT ?_
  | with_reducible refine wpAny_typeNameOf_itemiter hT ?_
  | with_reducible refine wpAny_fieldsOf e rfl ?_
  | with_reducible refine wpAny_dictEntries hod hdd ?_
  | with_reducible refine wpAny_dictEpoch hod hdd ?_
  | with_reducible refine wpAny_isOneOf_itemiter hT ?_
  | wp_step)
 simp only[show ¬((i:Int)<0) from by omega,if_false,Yy,Ud iA]
 refine wpAny_bind ?_
 refine wpAny_bind (wpAny_typeNameOfWhole_itemiter hT (wpAny_pure ?_))
 refine wpAny_bind (wpAny_isOneOf_itemiter hT ?_)
 change wpAny _ _ (Bind.bind (setField (.ref it) 3 (rawInt ((i:Int)+1))) _) _ _ _
 refine wpAny_bind (wpAny_setField_rec e (by simp) fun h1 e1 s1 =>?_)
 have z:((i+1:Nat):Int)=(i:Int)+1:=by omega
 have oX:uz h1 S it d (i+1) kvs.length ep:=⟨x0,f,ok,ov,by rw[z];exact e1,DY.imp id fun⟨a,oa,h1,h2,h3,h4⟩=>⟨a,oa,h1,s1.extBut _ _ h3 h2,h3,h4⟩⟩
 have G9:Shared.TypeIs { s with heap:=h1 } (.ref it) "dict_itemiterator":=⟨_,e1,rfl⟩
 refine wpAny_bind (wpAny_holding (wpAny_bind (wpAny_isOneOf_itemiter G9 (wpAny_bind (wpAny_isOneOf_itemiter G9 ?_)))))
 change wpAny _ _ (Builtin.Dict_items.pairFromOwner (.ref it) 6 es[i].key es[i].val) _ _ _
 refine zK (s:={ s with heap:=h1 }) oX (by show S<h1.objs.size;rw[s1.1];exact hS) fun h' st' t' z' k' =>?_
 have zs:h1.objs.size=s.heap.objs.size:=s1.1
 show wpAny _ _ (ret (.ref h1.objs.size)) _ _ _
 rw[zs] at t' z' ⊢
 refine wpAny_pure ⟨_,rfl,wpAny_pure (hQ _ h' hkey st' (by rw[<-hval];exact t') z' fun b o nb x=>k' b o nb (s1.extBut b o nb x))⟩
theorem wq {S it d:Addr}{i ep:Nat}{kvs:List (K×Value)}{Q:Option Value->Shared->Prop}(hh:A.handled=none)(FW:uz s.heap S it d i kvs.length ep)
  (hm:s.heap.DictAt knd d kvs ep) (hx:kvs[i]? = none) (hQ:∀h',Heap.ExtBut it s.heap h'->Q none { s with heap:=h' }) :
  wpAny (model prog w) A (pyNext (.ref it)) Q E s:=by
 obtain⟨⟨x0,f,ok,ov,e,DY⟩⟩:=FW
 obtain⟨od,es,hod,vO,hdd,hk,EZ,hn⟩:=id hm
 have hT:s.TypeIs (.ref it) "dict_itemiterator":=⟨_,e,rfl⟩
 have hsz:es.size=kvs.length:=by rw[<-EZ.length];simp
 have WA:es.size<=i:=by rw[hsz];simpa using hx
 refine wpAny_bind (wpAny_attempt (wpAny_callSpecial?_slot (name:=Str.ofString "__next__") hT F.slot_dict_itemiterator_next (wpAny_call_entry F.slot_dict_itemiterator_next hT F.entry_dict_itemiterator_next ?_ (F.args_dict_itemiterator_next_1 _))))
 unfold Builtin.«dict_itemiterator.__next__»
 repeat (first
  | with_reducible refine wpAny_typeNameOfWhole_itemiter hT ?_
  | with_reducible refine wpAny_fieldsOf e rfl ?_
  | with_reducible refine wpAny_dictEntries hod hdd ?_
  | with_reducible refine wpAny_dictEpoch hod hdd ?_
  | wp_step)
 simp only[show ¬((i:Int)<0) from by omega,if_false,Yy,Yl WA]
 refine wpAny_bind ?_
 refine wpAny_bind (wpAny_typeNameOfWhole_itemiter hT (wpAny_pure ?_))
 change wpAny _ _ (Bind.bind (setField (.ref it) 2 .none) _) _ _ _
 refine wpAny_bind (wpAny_setField_rec e (by simp) fun h1 e1 s1 =>?_)
 wp_walk
 refine wpAny_raiseNew_none hh (wpAny_bind (wpAny_isInstance (T := "StopIteration") (b:=true) ⟨_,Jj _ rfl,rfl⟩ isSubtype_stop (wpAny_pure (hQ _ fun b o nb x =>?_))))
 exact Jb _ (Jb _ (s1.extBut b o nb x))
end
structure GX (prog:Program)(w:World)(A:Around)(it S:Addr)(fp:Addr->Prop)(n:Nat)(P:Nat->Value->Heap->Prop)(R:Value->Value->Prop)(St:Nat->Heap->Prop):Prop where
 sfp:¬fp S
 item:∀i (s:Shared) (Q:Option Value->Shared->Prop) (E:Value->Shared->Prop),i<n->St i s.heap->S<s.heap.objs.size ->
  (∀v h' tk,Keeps s.heap h' fp->St (i+1) h'->P i v h'->(∀j u,P j u s.heap->R u v)->Q (some v) { s with heap:=h',toks:=tk })->wpAny (model prog w) A (pyNext (.ref it)) Q E s
 stop:∀(s:Shared) (Q:Option Value->Shared->Prop) (E:Value->Shared->Prop),St n s.heap->S<s.heap.objs.size->(∀h' tk,Keeps s.heap h' fp->Q none { s with heap:=h',toks:=tk })->wpAny (model prog w) A (pyNext (.ref it)) Q E s
 keepS:∀i h h',St i h->Keeps h h' (· = S)->St i h'
 keepP:∀j v h h',P j v h->Keeps h h' (fun b=>fp b∨b=S)->P j v h'
section
variable {prog:Program}{w:World}{A:Around}{it S:Addr}{fp:Addr->Prop}{n:Nat}{P:Nat->Value->Heap->Prop}{R:Value->Value->Prop}{St:Nat->Heap->Prop}
theorem nA (Fd:GX prog w A.in1 it S fp n P R St)(hn:n<=sizeLine){s:Shared}{Z:Result->Shared->Prop}{res:Value}{g:Heap}(fin:md g S fp n P R s (Z (.ok (.ret res)))):
  ∀(k i:Nat) (h:Heap) (tk:Nat) (acc:Array Value) (c:Nat),i+k=n->St i h->nH h S i P R acc c->Keeps g h (fun b=>fp b∨b=S) ->
   codeAny (model prog w) A (.builtin "list.extend.loop" ⟨[.ref S,.ref it,res],[]⟩) Z { s with heap:=h,toks:=tk }
 | 0,i,h,tk,acc,c,hk,jZ,G,kp=>by
  have e:i=n:=by omega
  subst e
  refine codeAny_builtin PySem.F.entry_extend_loop ?_
  rw[Around.under_plainId PySem.F.plain_extend_loop _]
  refine wpAny_bind (Fd.stop { s with heap:=h,toks:=tk } _ _ jZ (Jf G.ob) fun h' tk' k'=>wpAny_pure ?_)
  exact fin h' tk' acc c (fun b o nb q=>k' b o (fun z=>nb (.inl z)) (kp b o nb q)) ⟨k' _ _ Fd.sfp G.ob,G.sz,G.pw,fun j v e=>Fd.keepP _ _ _ _ (G.all j v e) fun b o nb q=>k' b o (fun z=>nb (.inl z)) q⟩
 | k+1,i,h,tk,acc,c,hk,jZ,G,kp=>by
  refine codeAny_builtin PySem.F.entry_extend_loop ?_
  rw[Around.under_plainId PySem.F.plain_extend_loop _]
  refine wpAny_bind (Fd.item i { s with heap:=h,toks:=tk } _ _ (by omega) jZ (Jf G.ob) fun v h' tk' k' st' pv rv =>?_)
  have NY:=k' _ _ Fd.sfp G.ob
  have other:Keeps h' (h'.update S (Obj.mapSeq (·.push v))) (· = S):=fun b o nb q=>(J3 _ _ (Ne.symm nb)).trans q
  have k2:Keeps h (h'.update S (Obj.mapSeq (·.push v))) (fun b=>fp b∨b=S):=fun b o nb q=>other b o (fun z=>nb (.inr z)) (k' b o (fun z=>nb (.inl z)) q)
  have sz:=G.sz
  refine wpAny_bind (wpAny_updateSeq NY rfl (wpAny_pure ⟨plainId_quiet PySem.F.plain_extend_loop _,?_⟩) (by rw[sz];omega) (by show(acc.push v).size<=sizeLine+1;rw[Array.size_push,sz];omega))
  refine nA Fd hn fin k (i+1) _ tk' (acc.push v) _ (by omega) (Fd.keepS _ _ _ st' other) ⟨J2 _ NY rfl,by rw[Array.size_push,sz],?_,fun j u e =>?_⟩ (fun b o nb q=>k2 b o nb (kp b o nb q))
  ·rw[Array.toList_push]
   refine Yu.mpr ⟨G.pw,List.pairwise_singleton _ _,fun a ha b hb =>?_⟩
   obtain⟨j,hj⟩:=Uv.mp ha
   rw[J0.mp hb]
   exact rv j a (G.all j a (by simpa using hj))
  ·by_cases hj:j<i
   ·rw[Array.getElem?_push_lt (by omega)] at e
    exact Fd.keepP _ _ _ _ (G.all j u (by rw[Ud (by omega)];exact e)) k2
   ·have Io:j=i:=by
     have:=(Uy.mp e).1
     rw[Array.size_push] at this
     omega
    subst Io
    have e':(acc.push v)[acc.size]? = some u:=by rw[sz];exact e
    rw[Array.getElem?_push_size] at e'
    cases e'
    exact Fd.keepP _ _ _ _ pv fun b o nb q=>other b o (fun z=>nb (.inr z)) q
end
section
variable {prog:Program}{w:World}{K:Type}[DecidableEq K]{knd:KeyKind prog w K}
abbrev kf (knd:KeyKind prog w K)(it S:Addr)(kvs:List (K×Value))(j:Nat)(v:Value)(h:Heap):Prop:=∃(a:Addr) (k:K) (key val:Value),v = .ref a/\S<a/\it<a/\kvs[j]? = some (k,val)/\knd.is k key=true/\a<h.objs.size/\h.get? a=some { cls := .type "tuple",data := .seq #[key,val] }
theorem xg {A:Around}{it d S:Addr}{kvs:List (K×Value)}{ep:Nat}(hh:A.handled=none)(n1:it≠S)(n2:d≠it)(n3:d≠S):
  GX prog w A it S (· = it) kvs.length (kf knd it S kvs) hX (fun i h=>uz h S it d i kvs.length ep/\h.DictAt knd d kvs ep) where
 sfp:=fun z=>n1 z.symm
 item:=fun i s Q E hi st hS q=>by
  obtain⟨st,hm⟩:=st
  have low:it<s.heap.objs.size:=by obtain⟨⟨_,_,_,_,e,_⟩⟩:=st;exact Jf e
  refine vB st hS hm (k:=kvs[i].1) (v:=kvs[i].2) (Jc hi) fun key h' hk st' t' z' k' =>?_
  refine q _ h' s.toks (fun b o nb x=>k' b o nb x) ⟨st',?_⟩ ⟨_,_,key,_,rfl,hS,low,Jc hi,hk,by rw[z'];exact Nat.lt_succ_self _,t'⟩ fun j u hu =>?_
  ·obtain⟨o,es,ho,r⟩:=hm
   exact⟨o,es,k' _ _ n2 ho,r⟩
  ·refine ai.el (hu) _ ?_
   rintro a _ _ _ rfl _ _ _ _ ha _
   exact⟨a,_,rfl,rfl,ha⟩
 stop:=fun s Q E st hS q=>by
  obtain⟨st,hm⟩:=st
  exact wq hh st hm (List.getElem?_eq_none (Je _)) fun h' kb=>q h' s.toks fun b o nb x=>kb b o nb x
 keepS:=fun i h h' st k=>by
  obtain⟨⟨⟨x0,f,ok,ov,e,hx⟩⟩,⟨o,es,ho,r⟩⟩:=st
  exact⟨⟨x0,f,ok,ov,k _ _ n1 e,hx.imp id fun⟨a,oa,h1,h2,h3,h4⟩=>⟨a,oa,h1,k _ _ h4 h2,h3,h4⟩⟩,⟨o,es,k _ _ n3 ho,r⟩⟩
 keepP:=fun j v h h' p k=>by
  refine ai.el (p) _ ?_
  rintro a kk key val h1 h2 h3 h4 h5 h6 h7
  have z:=k a _ (fun z=>z.elim (fun z=>Uc _ (z▸h3)) fun z=>Uc _ (z▸h2)) h7
  exact⟨a,kk,key,val,h1,h2,h3,h4,h5,Jf z,z⟩
theorem Am:isSubtype (.type "dict_items") (.type "dict_items")=pure true:=by
 first|rfl|decide|(unfold isSubtype;rfl)
theorem uP {A:Around}{S vw d:Addr}{kvs:List (K×Value)}{ep:Nat}(hh:A.in1.handled=none){s:Shared}{Z:Result->Shared->Prop}{res:Value}{c₀:Nat}(hv:s.heap.IsItemsView vw d)(hm:s.heap.DictAt knd d kvs ep)(hn:kvs.length<=sizeLine)
  (Oa:vw≠S) (OD:d≠S) (hS:s.heap.get? S=some { cls := .type "list",data := .seq #[] c₀ })
  (fin:∀h' tk acc c,Keeps s.heap h' (· = S)->nH h' S kvs.length (kf knd s.heap.objs.size S kvs) hX acc c->Z (.ok (.ret res)) { s with heap:=h',toks:=tk }) :
  wpAny (model prog w) A.in1 (Builtin.List.listExtendWith (.ref S) (.ref vw) res) (qP prog w A Z) (fun e s'=>Z (.error e) s') s:=by
 have hT:=hv.typeIs
 have B7:Builtin.List.listSameRef (.ref S) (.ref vw)=false:=by simp[Builtin.List.listSameRef,Ne.symm Oa]
 unfold Builtin.List.listExtendWith
 refine wpAny_bind (wpAny_typeOf hT ?_)
 simp only[B7,show(Value.type "dict_items" == Value.type "list")=false by decide,show(Value.type "dict_items" == Value.type "tuple")=false by decide,Bool.or_false,Ut,if_false]
 refine wpAny_bind (wpAny_pyIter_items hv hm ?_)
 obtain⟨h1,eh1⟩:∃h1,h1=s.heap.push { cls := .type "dict_itemiterator",data := .fields #[.none,.bool false,.ref d,.int 0 0,.int kvs.length 0,.int ep 0,.none,.none] }:=⟨_,rfl⟩
 have k1:∀b o,s.heap.get? b=some o->h1.get? b=some o:=fun b o x=>by rw[eh1];exact Jb _ x
 have oX:uz h1 S s.heap.objs.size d 0 kvs.length ep:=⟨.none,false,.none,.none,by rw[eh1];exact Jj _ rfl,.inl rfl⟩
 rw[<-eh1]
 clear eh1
 have G9:Shared.TypeIs { s with heap:=h1 } (.ref vw) "dict_items":=by
  obtain⟨o,ho,hc,_⟩:=hv
  exact⟨o,k1 _ _ ho,hc⟩
 have hint:∀(Q:Bool->Shared->Prop),Q false { s with heap:=h1 } -> wpAny (model prog w) A.in1 (Builtin.List.listLengthHint (.ref vw)) Q (fun e s'=>Z (.error e) s') { s with heap:=h1 }:=fun Q q=>by
  unfold Builtin.List.listLengthHint
  refine wpAny_bind (wpAny_specialOf G9 F.slot_dict_items_len.lookup ?_)
  refine wpAny_bind (wpAny_isInstance (T := "dict_items") (b:=true) G9 Am ?_)
  refine wpAny_ite_split (fun z=>absurd z (by decide)) fun _=>wpAny_ite_split (fun _ =>?_) fun z=>absurd (show _=true by decide +kernel) z
  exact wpAny_bind (wpAny_typeOf G9 (wpAny_pure q))
 refine wpAny_bind (wpAny_holding (hint _ ?_))
 have mx:=k1 _ _ hS
 have low:=Jf hS
 have nS:s.heap.objs.size≠S:=Uh low
 have OZ:d<s.heap.objs.size:=hm.lt_size
 have go:∀(h:Heap) (c tk:Nat),Keeps h1 h (· = S)->h.get? S=some { cls := .type "list",data := .seq #[] c } -> codeAny (model prog w) A (.builtin "list.extend.loop" ⟨[.ref S,.ref s.heap.objs.size,res],[]⟩) Z { s with heap:=h,toks:=tk }:=
  fun h c tk k o=>by
   have Fd:=xg (knd:=knd) (kvs:=kvs) (ep:=ep) (A:=A.in1) hh nS (Jl OZ) OD
   obtain⟨od,es,ho,r⟩:=hm
   refine nA Fd hn (g:=h1) (fun h' tk acc c k' G=>fin h' tk acc c (fun b o nb q=>k' b o (fun z=>z.elim (fun z=>Uc _ (z▸Jf q)) nb) (k1 b o q)) G) kvs.length 0 h tk #[] c (by omega) (Fd.keepS _ _ _ ⟨oX,od,es,k1 _ _ ho,r⟩ k) ⟨o,rfl,.nil,fun j v e=>by simp at e⟩ fun b o nb q=>k b o (fun z=>nb (.inr z)) q
 refine wpAny_ite_split (fun _ =>?_) fun z=>absurd (show _=true by decide +kernel) z
 refine wpAny_bind (wpAny_rule (wpAny_bind ?_))
 have o1:=J2 (Obj.mapSeq (·.push Value.none)) mx rfl
 have o2:=J2 (Obj.mapSeq (·.pop)) o1 rfl
 refine wpAny_bind (wpAny_updateSeq (s:={ s with heap:=h1 }) mx rfl (wpAny_updateSeq (hz:=by seq_fits) o1 rfl (wpAny_pure ⟨plainId_quiet PySem.F.plain_extend_loop _,go _ _ _ (fun b o nb q =>?_) o2⟩)))
 exact(J3 _ _ (Ne.symm nb)).trans ((J3 _ _ (Ne.symm nb)).trans q)
theorem AE {A:Around}{S vw d:Addr}{kvs:List (K×Value)}{ep:Nat}(hh:A.in1.handled=none){s:Shared}{Z:Result->Shared->Prop}(hv:s.heap.IsItemsView vw d)(hm:s.heap.DictAt knd d kvs ep)(hn:kvs.length<=sizeLine)
  (Oa:vw≠S) (OD:d≠S) (hS:s.heap.get? S=some { cls := .type "list",data := .seq #[] })
  (fin:∀h' tk acc c,Keeps s.heap h' (· = S)->nH h' S kvs.length (kf knd s.heap.objs.size S kvs) hX acc c->Z (.ok (.ret .none)) { s with heap:=h',toks:=tk }) :
  wpAny (model prog w) A.in1 (Builtin.«list.__init__» ⟨[.ref S,.ref vw],[]⟩) (qP prog w A Z) (fun e s'=>Z (.error e) s') s:=by
 refine wpAny_bind ?_
 unfold Builtin.List.listItems
 refine wpAny_bind (wpAny_seqItems hS rfl (wpAny_pure ?_))
 have o1:=J2 (Obj.mapSeq (fun _=>(#[]:Array Value))) hS rfl
 have k1:Keeps s.heap (s.heap.update S (Obj.mapSeq (fun _=>(#[]:Array Value)))) (· = S):=fun b o nb q=>(J3 _ _ (Ne.symm nb)).trans q
 refine wpAny_bind (wpAny_updateSeq hS rfl (wpAny_bind (wpAny_letGo ?_)))
 have hz:(s.heap.update S (Obj.mapSeq (fun _=>(#[]:Array Value)))).objs.size=s.heap.objs.size:=Heap.size_update ..
 obtain⟨ov,hov,c1,c2⟩:=hv
 obtain⟨od,es,ho,r⟩:=hm
 refine uP (knd:=knd) (kvs:=kvs) (ep:=ep) (s:={ s with heap:=_ }) hh ⟨ov,k1 _ _ Oa hov,c1,c2⟩ ⟨od,es,k1 _ _ OD ho,r⟩ hn Oa OD o1 fun h' tk acc c k G =>?_
 refine fin h' tk acc c (fun b o nb q=>k b o nb (k1 b o nb q)) ?_
 have e:s.heap.objs.size=(s.heap.update S (Obj.mapSeq (fun _=>(#[]:Array Value)))).objs.size:=hz.symm
 rw[e]
 exact G
theorem AU {A:Around}{E:Value->Shared->Prop}{vw d:Addr}{kvs:List (K×Value)}{ep:Nat}(hh:A.handled=none){s:Shared}{Q:Value->Shared->Prop}(hv:s.heap.IsItemsView vw d)(hm:s.heap.DictAt knd d kvs ep)(hn:kvs.length<=sizeLine)
  (fin:∀h' tk acc c,(∀b o,s.heap.get? b=some o->h'.get? b=some o)->nH h' s.heap.objs.size kvs.length (kf knd (s.heap.objs.size+1) s.heap.objs.size kvs) hX acc c->Q (.ref s.heap.objs.size) { s with heap:=h',toks:=tk }) :
  wpAny (model prog w) A (call (.type "list") [.ref vw]) Q E s:=by
 refine callType_codes (Q₁:=fun obj s₁=>obj = .ref s.heap.objs.size/\s₁={ s with heap:=s.heap.push { cls := .type "list",data := .seq #[] } }) F.called_list (F.typeCall_list_1 _) F.entry_list_init
  (code_list_new _ ⟨rfl,rfl⟩) fun obj s₁ h₁ =>?_
 obtain⟨rfl,rfl⟩:=h₁
 have hS:(s.heap.push { cls := .type "list",data := .seq #[] }).get? s.heap.objs.size=some { cls := .type "list",data := .seq #[] }:=Jj _ rfl
 obtain⟨ov,hov,c1,c2⟩:=hv
 obtain⟨od,es,ho,r⟩:=hm
 refine⟨⟨_,hS,rfl⟩,F.args_list_init_2 _ _,AE (knd:=knd) (kvs:=kvs) (ep:=ep) (s:={ s with heap:=_ }) (A:=A.in1) hh ⟨ov,Jb _ hov,c1,c2⟩ ⟨od,es,Jb _ ho,r⟩ hn (Jl (Jf hov)) (Jl (Jf ho)) hS fun h' tk acc c k G=>⟨rfl,fin h' tk acc c (fun b o q =>?_) ?_⟩⟩
 ·exact k b o (Jl (Jf q)) (Jb _ q)
 ·have e:(s.heap.push { cls := .type "list",data := .seq #[] }).objs.size=s.heap.objs.size+1:=Ug ..
  rw[<-e]
  exact G
end
theorem LN {P:Program}{w:World}{k:Key}{u:Value}(h:(br P w).is k u=true):RelV (kV k) u:=by
 rw[xf] at h
 cases k with
 | inl i=>exact Value.isInt_shape (k:=i) (v:=u) h
 | inr x=>exact Value.isStrOf_shape (x:=x) (v:=u) h
theorem L0 {kvs:List (Key×V)}{vs:List (Key×Value)}(r:KV kvs vs):∀{j:Nat} {k:Key} {u:Value},vs[j]? = some (k,u)->∃v,kvs[j]? = some (k,v)/\RelV v u:=by
 induction r with
 | nil=>intro j k u h;simp at h
 | @cons p q ps qs h t ih=>
  intro j k u e
  cases j with
  | zero=>
   cases e
   have h1:p.1=k:=h.1
   exact⟨p.2,by rw[<-h1];rfl,h.2⟩
  | succ j=>exact ih e
section
variable {X:Cx}
def Wf (to:TE):TE:=fun σ H Q=>to σ H fun x H1=>∃a kvs,x = .ref a/\H1 a=some (.dK kvs) /\
 ∀H' p (as:List Addr),ar H1 H'->H1 p=none->H' p=some (.lst (as.map V.ref))->as.length=kvs.length ->
  (∀(j:Nat) b k v,as[j]? = some b->kvs[j]? = some (k,v)->H1 b=none/\H' b=some (.tup [kV k,v]))->Q (.ref p) H'
theorem AZ {o:Expr}{to:TE}{p pos apos dg:Pos}(hc:X.calm=true)(HB:Gl X "list")(IC:X.mg "list" = none)(ho:PE X o to)
  (Ho:bootBuiltins "list" = some (.type "list"):=by first|rfl|decide)
  (CU:starEach [.Call (.Attribute o "items" apos) [] [] dg] X.env=[(false,eval (.Call (.Attribute o "items" apos) [] [] dg) X.env)]:=by rfl)
  (kz:attributeBase o "items" X.env (eval o X.env)=eval o X.env:=by rfl) (j4:(apos.endLine==dg.line)=true:=by rfl) :
  PE X (.Call (.Name "list" p) [.Call (.Attribute o "items" apos) [] [] dg] [] pos) (Wf to):=by
 intro pins s σ H Q I h
 refine wpAny_Call_Name_kw (dF I HB IC Ho ?_)
 refine PyProof.Rows.callWith_type1 ?_ CU rfl
 rw[CU]
 show wpAny _ _ (spliced ((false,eval (.Call (.Attribute o "items" apos) [] [] dg) X.env)::[])) _ _ _
 refine Calls.spliced_cons ?_
 refine wpAny_Call_method0_late kz j4 (bz (ho s σ H _ I h) fun v s1 ⟨x,H1,I1,r1,q1⟩=>?_)
 refine ai.el (q1) _ ?_
 rintro a kvs rfl ea q
 cases r1
 obtain⟨h1,h2⟩:=vY I1 (x := .ref a) (v := .ref a) rfl (show OQ X.K "dict" (.ref a) H1 from .inr (.inr (.inl ⟨rfl,.inl ⟨kvs,ea⟩⟩)))
 refine ai.el (BK I1.bw ea) _ ?_
 rintro hz hsm vs rel dd
 refine⟨"dict", "dict.items",PySem.F.plainAttrs_dict,PySem.F.slot_dict_items,PySem.F.type_dict_items,h1,h2,Calls.callWith_builtin rfl (PySem.evalArgs_none ?_)⟩
 refine call_meetsIn PySem.F.slot_dict_items h1 PySem.F.entry_dict_items (PySem.F.args_dict_items_1 _) (meets_dict_items (br X.prog X.w) a hsm) ⟨⟨vs,dd⟩,?_⟩
 refine Calls.spliced_nil ?_
 obtain⟨ep,dat⟩:=dd.dictAt
 obtain⟨hp,ehp⟩:∃hp,hp=s1.heap.push { cls := .type "dict_items",data := .fields #[.ref a] }:=⟨_,rfl⟩
 have hk:∀b o,s1.heap.get? b=some o->hp.get? b=some o:=fun b o x=>by rw[ehp];exact Jb _ x
 have LF:hp.IsItemsView s1.heap.objs.size a:=⟨_,by rw[ehp];exact Jj _ rfl,rfl,rfl⟩
 have hsz:hp.objs.size=s1.heap.objs.size+1:=by rw[ehp,Ug]
 have qr:s1.heap.objs.size<=hp.objs.size:=by rw[hsz];exact Yt _
 rw[<-ehp]
 have rl:=rel.length
 refine AU (knd:=br X.prog X.w) (s:={ s1 with heap:=hp }) (I.ok.hd hc) LF (dat.keep hk) (by rw[<-rl];exact hz) fun h' tk acc c Hq G =>?_
 obtain⟨gob,gsz,gpw,gall⟩:=G
 obtain⟨as,fO⟩:=l9 (l:=acc.toList) fun v hv=>by
  obtain⟨j,hj⟩:=Uv.mp hv
  obtain⟨b,_,_,_,e,_⟩:=gall j v (by simpa using hj)
  exact⟨b,e⟩
 have ij:∀(j:Nat) b,as[j]? = some b->∃(k:Key) (key val:Value),hp.objs.size<b/\vs[j]? = some (k,val)/\(br X.prog X.w).is k key=true/\h'.get? b=some { cls := .type "tuple",data := .seq #[key,val] }:=fun j b hb=>by
  obtain⟨b',k,key,val,e,g1,_,g3,g4,_,g6⟩:=gall j (.ref b) (by
   have:acc.toList[j]? = some (.ref b):=by rw[fO,Jk,hb];rfl
   simpa using this)
  cases e
  exact⟨k,key,val,g1,g3,g4,g6⟩
 have above:∀b∈as,hp.objs.size<b:=fun b hb=>by
  obtain⟨j,hj⟩:=Uv.mp hb
  obtain⟨_,_,_,g,_⟩:=ij j b hj
  exact g
 have I2:Inv X pins σ H1 { s1 with heap:=h',toks:=tk }:=I1.kept fun b o e=>Hq b o (hk b o e)
 have sY:∀b∈as,s1.heap.objs.size<=b:=fun b hb=>Yh (Uj qr (above b hb))
 have nd:as.Nodup:=by
  rw[fO,List.pairwise_map] at gpw
  exact gpw.imp fun⟨a,b,e1,e2,h⟩=>by cases e1;cases e2;exact Jl h
 have eA:∀b,s1.heap.objs.size<=b->dU X pins H1 b/\X.s₀.heap.objs.size<=b:=fun b hb=>⟨I1.eA hb (I1.bw.fresh hb),Ji I1.sz hb⟩
 have Gz:as.length=kvs.length:=by
  have z:acc.toList.length=as.length:=by rw[fO,Jd]
  simp at z gsz
  omega
 obtain⟨H',I',sm,same,all⟩:=I2.j8 as (kvs.map fun q=>[kV q.1,q.2]) nd (by rw[Jd];exact Gz) (fun b hb=>eA b (sY b hb)) (fun j b pp g1 g2=>by
  refine ai.el (ij j b g1) _ ?_
  rintro k key val _ c1 c2 c3
  refine ai.el (L0 rel c1) _ ?_
  rintro v c4 c5
  rw[Jk,c4] at g2
  cases g2
  exact⟨by show 2<=sizeLine;decide,[key,val],.cons (LN c2) (.cons c5 .nil),⟨_,c3,rfl,rfl,_,rfl⟩⟩)
 have Dl:hp.objs.size∉as:=fun hm=>Uc _ (above _ hm)
 have mx:H1 hp.objs.size=none:=I1.bw.fresh qr
 obtain⟨fS,sS⟩:=eA hp.objs.size qr
 have MX:dU X pins H' hp.objs.size:=⟨by rw[same _ Dl];exact mx,fS.2⟩
 have I3:=I'.adopt (T:=hp.objs.size) (o := .lst (as.map V.ref)) MX sS ⟨by rw[Jd];omega,acc.toList,c,by
  rw[fO]
  clear gob fO all same I' sm sY nd Gz Dl above ij
  induction as with
  | nil=>exact .nil
  | cons a r ih=>exact .cons rfl ih,by simpa using gob⟩
 refine⟨.ref hp.objs.size,_,I3,rfl,q _ _ as (fun b o e =>?_) mx ay Gz fun j b k v g1 g2=>⟨(eA b (sY b (Jz g1))).1.1,?_⟩⟩
 ·rw[aj (aw e mx)];exact sm b o e
 ·rw[aj (fun(z:b=hp.objs.size)=>Dl (by rw[<-z];exact Jz g1))]
  exact all j b [kV k,v] g1 (by rw[Jk,g2];rfl)
end
theorem El:typeLookup (.type "list") "keys" = pure none:=by rw[typeLookup_type,builtinLookup_eq_fast];kernel_rfl
theorem Ll:typeLookup (.type "list") "__getattr__" = pure none:=by rw[typeLookup_type,builtinLookup_eq_fast];kernel_rfl
theorem lA:isSubtype (.type "AttributeError") (.type "AttributeError")=pure true:=by first|rfl|(rw[isSubtype_type];kernel_rfl)
section
variable {prog:Program}{w:World}{A:Around}{E:Value->Shared->Prop}{h:Heap}{g:Array GenState}{d:Drawn}{t:Nat}{os:OsState}{a:Addr}{o:Obj}
theorem wB {tk:Tok}{Q:Fin->Shared->Prop}(hx:h.get? a=some o)(hc:o.cls = .type "list")(nQ:o.dict=none){xs:Array Value}{n:Nat}(hd:o.data = .seq xs n)(hh:A.handled=none)
  (hq:∀e h' t',(∀b o,h.get? b=some o->h'.get? b=some o)->(∃oe,h'.get? e=some oe/\oe.cls = .type "AttributeError")->E (.ref e) ⟨h',g,d,t',os⟩) :
  wpAny (model prog w) A (Builtin.«object.__getattribute__» ⟨[.ref a,.str "keys" tk],[]⟩) Q E ⟨h,g,d,t,os⟩:=by
 have hT:(⟨h,g,d,t,os⟩:Shared).TypeIs (.ref a) "list":=⟨_,hx,hc⟩
 have f4:=El
 repeat (any_goals (first|assumption|wp_step))
 rw[hd]
 dsimp only
 unfold instanceDict
 repeat (any_goals (first|assumption|wp_step))
 rw[nQ,hc]
 repeat (any_goals (first|assumption|wp_step))
 have f9:=lA
 unfold raiseAttrError noteAttr
 wp_walk
 rw[show(Manifest.find? "AttributeError").elim false (fun t=>t.mro.contains "StopIteration" || t.mro.contains "SystemExit")=false by decide +kernel,if_neg Jm]
 repeat (any_goals (first|assumption|wp_step))
 refine wpAny_raiseNew_none hh (hq _ _ _ (fun b o' x =>?_) ⟨_,J2 _ (Jj _ rfl) rfl,rfl⟩)
 have x1:=Jb (h:=h) { cls:=Value.type "tuple",data:=Data.seq #[Value.str (Str.ofString (toString "'" ++ toString ((Manifest.find? "list").elim "list" fun x=>x.tpName)++toString "' object has no attribute '")++Str.ofString "keys" ++ Str.ofString "'") t] } x
 rw[J3 _ _ (Uh (Jf x1))]
 exact Jb _ x1
theorem zC {tk:Tok}{R:Result->Shared->Prop}(hx:h.get? a=some o)(hc:o.cls = .type "list")(nQ:o.dict=none){xs:Array Value}{n:Nat}(hd:o.data = .seq xs n)(hh:A.handled=none)
  (hq:∀e h' t',(∀b o,h.get? b=some o->h'.get? b=some o)->(∃oe,h'.get? e=some oe/\oe.cls = .type "AttributeError")->R (.error (.ref e)) ⟨h',g,d,t',os⟩) :
  codeAny (model prog w) A (.call (.builtin "list.__getattribute__") ⟨[.ref a,.str "keys" tk],[]⟩) R ⟨h,g,d,t,os⟩:=
 codeAny_call_builtin F.slot_list_getattribute.plain F.entry_list_ga (F.slot_list_getattribute.check _ _ _ _ _ _ _ _ (show(⟨h,g,d,t,os⟩:Shared).TypeIs (.ref a) "list" from⟨_,hx,hc⟩) (F.args_list_getattribute_2 _ _) (wB hx hc nQ hd hh hq))
theorem zG {Q:Option Value->Shared->Prop}(hx:h.get? a=some o)(hc:o.cls = .type "list")(nQ:o.dict=none){xs:Array Value}{n:Nat}(hd:o.data = .seq xs n)(hh:A.handled=none)
  (hq:∀h' t',(∀b o,h.get? b=some o->h'.get? b=some o)->Q none ⟨h',g,d,t',os⟩):wpAny (model prog w) A (getAttr? (.ref a) "keys") Q E ⟨h,g,d,t,os⟩:=by
 have hT:(⟨h,g,d,t+1,os⟩:Shared).TypeIs (.ref a) "list":=⟨_,hx,hc⟩
 have f2:=F.slot_list_getattribute.lookup
 have f3:=F.slot_list_getattribute.bind (.ref a)
 have f4:=Ll
 unfold getAttr? getAttrBy?
 repeat (any_goals (first|assumption|wp_step))
 refine zC hx hc nQ hd hh fun e h' t' k hoe =>?_
 have Ni:Shared.TypeIs ⟨h',g,d,t',os⟩ (.ref e) "AttributeError":=hoe
 have f5:=lA
 dsimp only
 unfold getattributeRaised
 refine wpAny_bind (wpAny_isInstance (T := "AttributeError") (b:=true) Ni f5 ?_)
 rw[if_pos rfl]
 unfold hookBehind
 repeat (any_goals (first|assumption|wp_step))
 exact hq h' t' k
end
theorem bO:entryFor table "dict.update.loop" = some Builtin.«dict.update.loop»:=entryFor_of_fast (by kernel_rfl)
theorem aR:plainId "dict.update.loop" = true:=by decide +kernel
section
variable {prog:Program}{w:World}{K:Type}[DecidableEq K]{knd:KeyKind prog w K}{A:Around}{E:Value->Shared->Prop}
def jv (knd:KeyKind prog w K)(h:Heap)(v:Value)(kv:K×Value):Prop:=∃(tp:Addr) (o:Obj) (n:Nat) (ku:Value),v = .ref tp/\h.get? tp=some o/\o.cls = .type "tuple" /\ o.data = .seq #[ku,kv.2] n/\knd.is kv.1 ku=true
theorem m6 {s:Shared}{R:Result->Shared->Prop}{it l d:Addr}{items:Array Value}{kvs:List (K×Value)}{g:Heap}(hh:A.in1.handled=none)(hl:g.IsList l items)(hn:items.size=kvs.length)(hz:kvs.length<=100000)
  (hp:∀(j:Nat) v kv,items[j]? = some v->kvs[j]? = some kv->jv knd g v kv) (lit:∀b o,g.get? b=some o->b≠it/\b≠d) (ne:d≠it)
  (fin:∀h tk,(∀b o,b≠d->b≠it->g.get? b=some o->h.get? b=some o)->h.DictOf knd d (merged [] kvs)->R (.ok (.ret .none)) { s with heap:=h,toks:=tk }) :
  ∀(k i:Nat) (h:Heap) (tk:Nat) (acc:List (K×Value)),i+k=kvs.length->acc.length<=i->merged acc (kvs.drop i)=merged [] kvs->(∀b o,b≠d->b≠it->g.get? b=some o->h.get? b=some o)->h.IsListIter it l i->h.DictOf knd d acc ->
   codeAny (model prog w) A (.builtin "dict.update.loop" ⟨[.ref d,.ref it,rawInt i,.none],[]⟩) R { s with heap:=h,toks:=tk }
 | 0,i,h,tk,acc,hk,ha,hm,kp,hi,hd=>by
  have e:i=kvs.length:=by omega
  subst e
  have EW:h.IsList l items:=by
   obtain⟨o,ho,r⟩:=hl
   exact⟨o,kp _ _ (lit _ _ ho).2 (lit _ _ ho).1 ho,r⟩
  refine codeAny_builtin bO ?_
  rw[Around.under_plainId aR _]
  unfold Builtin.«dict.update.loop»
  refine wpAny_bind (wpAny_pyNext_list_end (s:={ s with heap:=h,toks:=tk }) hh hi EW (by rw[Yl (by omega)]) fun h' eb =>?_)
  refine wpAny_bind (m:=Builtin.Dict.addKeywords d []) (wpAny_pure (wpAny_pure ?_))
  refine fin h' tk (fun b o nd ni x=>eb b o ni (kp b o nd ni x)) ?_
  rw[List.drop_length] at hm
  have hm:acc=merged [] kvs:=hm
  rw[<-hm]
  obtain⟨o,es,ep,ho,r⟩:=hd
  exact⟨o,es,ep,eb _ _ ne ho,r⟩
 | k+1,i,h,tk,acc,hk,ha,hm,kp,hi,hd=>by
  have iA:i<kvs.length:=by omega
  have EW:h.IsList l items:=by
   obtain⟨o,ho,r⟩:=hl
   exact⟨o,kp _ _ (lit _ _ ho).2 (lit _ _ ho).1 ho,r⟩
  have FW:items[i]? = some items[i]:=Ud (by omega)
  obtain⟨tp,o,n,ku,ev,ho,hc,xr,hkey⟩:=hp i _ _ FW (Jc iA)
  refine codeAny_builtin bO ?_
  rw[Around.under_plainId aR _]
  unfold Builtin.«dict.update.loop»
  refine wpAny_bind (wpAny_pyNext_list_item (s:={ s with heap:=h,toks:=tk }) hi EW FW fun h1 hi1 D9 =>?_)
  rw[ev]
  have Hj:h1.get? tp=some o:=D9.extBut _ _ (lit _ _ ho).1 (kp _ _ (lit _ _ ho).2 (lit _ _ ho).1 ho)
  have HC:h1.DictOf knd d acc:=by
   obtain⟨o,es,ep,ho,r⟩:=hd
   exact⟨o,es,ep,D9.extBut _ _ ne ho,r⟩
  have hT:Shared.TypeIs { s with heap:=h1,toks:=tk } (.ref tp) "tuple":=⟨o,Hj,hc⟩
  refine wpAny_bind (wpAny_holding ?_)
  refine wpAny_bind (wpAny_tryCatch ?_)
  unfold Builtin.Dict.pairItems
  refine wpAny_bind (wpAny_typeOf hT ?_)
  rw[if_pos (by decide)]
  refine wpAny_bind (wpAny_seqItems (s:={ s with heap:=h1,toks:=tk }) Hj xr (wpAny_pure ?_))
  refine wpAny_holding (wpAny_dictSet_pairs (s:={ s with heap:=h1,toks:=tk }) hkey HC (fun h2 JN sb2 =>?_) (Ji (show acc.length<=100000 by omega) (by decide)))
  refine wpAny_pure ⟨plainId_quiet aR _,?_⟩
  have:=m6 hh hl hn hz hp lit ne fin k (i+1) h2 (tk+1) (stored acc kvs[i].1 kvs[i].2) (by omega) ?_ ?_ (fun b o nd ni x=>sb2.extBut b o nd (D9.extBut b o ni (kp b o nd ni x))) ?_ JN
  ·exact this
  ·refine Ji ?_ (Wb ha)
   unfold stored
   split
   ·rw[Jd];exact Yt _
   ·rw[Jw];exact Je _
  ·rw[<-hm,List.drop_eq_getElem_cons iA]
   rfl
  ·obtain⟨oi,e1,r⟩:=hi1
   exact⟨oi,sb2.extBut _ _ (Ne.symm ne) e1,r⟩
theorem wc {s:Shared}{Q:Value->Shared->Prop}{l:Addr}{items:Array Value}{kvs:List (K×Value)}{ol:Obj}{n:Nat}(hh:A.handled=none)(ho:s.heap.get? l=some ol)(hc:ol.cls = .type "list")(nQ:ol.dict=none)(hd:ol.data = .seq items n)(hn:items.size=kvs.length)(hz:kvs.length<=100000)
  (hp:∀(j:Nat) v kv,items[j]? = some v->kvs[j]? = some kv->jv knd s.heap v kv)
  (fin:∀h tk,(∀b o,s.heap.get? b=some o->h.get? b=some o)->h.DictOf knd s.heap.objs.size (merged [] kvs)->Q (.ref s.heap.objs.size) { s with heap:=h,toks:=tk }) :
  wpAny (model prog w) A (call (.type "dict") [.ref l]) Q E s:=by
 refine callType_codes (Q₁:=fun obj s₁=>obj = .ref s.heap.objs.size/\s₁={ s with heap:=s.heap.push { cls := .type "dict",data := .dict #[] } }) F.kt_called_dict (F.kt_typeCall_dict_1 _) F.entry_dict_init (kt_code_dict_new _ ⟨rfl,rfl⟩) ?_
 rintro obj s1 ⟨rfl,rfl⟩
 have new:(s.heap.push { cls := .type "dict",data := .dict #[] }).DictOf knd s.heap.objs.size []:=Heap.DictOf.new s.heap
 have k0:∀b o,s.heap.get? b=some o->(s.heap.push { cls := .type "dict",data := .dict #[] }).get? b=some o:=fun b o x=>Jb _ x
 refine⟨new.typeIs,F.args_dict_init_2 _ _,?_⟩
 unfold Builtin.«dict.__init__» Builtin.Dict.selfAndRest
 refine wpAny_bind (wpAny_bind (wpAny_notOrdered_dict new.typeIs ?_))
 show wpAny _ _ (pure (s.heap.objs.size,[Value.ref l])) _ _ _
 refine wpAny_pure ?_
 show wpAny _ _ (Builtin.Dict.updateFrom "dict.__init__" s.heap.objs.size (.ref l) [] .none) _ _ _
 unfold Builtin.Dict.updateFrom
 have hT:Shared.TypeIs { s with heap:=s.heap.push { cls := .type "dict",data := .dict #[] } } (.ref l) "list":=⟨ol,k0 _ _ ho,hc⟩
 refine wpAny_bind (wpAny_typeOf hT ?_)
 rw[if_pos (by decide)]
 refine wpAny_bind (zG (h:=s.heap.push { cls := .type "dict",data := .dict #[] }) (k0 _ _ ho) hc nQ hd hh fun h1 t1 k1 =>?_)
 rw[if_pos (by rfl)]
 have kk:∀b o,s.heap.get? b=some o->h1.get? b=some o:=fun b o x=>k1 b o (k0 b o x)
 refine wpAny_bind (wpAny_rule (wpAny_bind (wpAny_pyIter_list (l:=l) (items:=items) ⟨ol,kk _ _ ho,hc,n,hd⟩ ?_)))
 have hS:s.heap.objs.size<h1.objs.size:=by
  obtain⟨o,es,ep,e,_⟩:=new
  exact Jf (k1 _ _ e)
 refine wpAny_pure ⟨plainId_quiet aR _,?_⟩
 have low:∀b o,s.heap.get? b=some o->b≠h1.objs.size/\b≠s.heap.objs.size:=fun b o x=>⟨Jl (Jf (kk b o x)),Jl (Jf x)⟩
 refine m6 (s:=s) (knd:=knd) (A:=A.in1) (it:=h1.objs.size) (g:=s.heap) (kvs:=kvs) hh ⟨ol,ho,hc,n,hd⟩ hn hz hp low (Jl hS) (fun h tk k dd=>⟨rfl,fin h tk (fun b o x=>k b o (low b o x).2 (low b o x).1 x) dd⟩) kvs.length 0 _ _ [] (by omega) (Je _) rfl (fun b o nd ni x=>Jb _ (kk b o x)) ⟨_,Jj _ rfl,rfl,rfl⟩ ?_
 obtain⟨o,es,ep,e,r⟩:=new
 exact⟨o,es,ep,Jb _ (k1 _ _ e),r⟩
end
section
variable {X:Cx}{pins:List (Addr×Obj)}{σ:St}{H:Hp}{s:Shared}
theorem qv (I:Inv X pins σ H s)(as:List Addr):∀{kvs:List (Key×V)},as.length=kvs.length->(∀(j:Nat) b kv,as[j]? = some b->kvs[j]? = some kv->bF X.K H b [kV kv.1,kv.2]) ->
  ∃vs,KV kvs vs/\∀(j:Nat) b kv,as[j]? = some b->vs[j]? = some kv->jv (br X.prog X.w) s.heap (.ref b) kv:=by
 induction as with
 | nil=>
  intro kvs hl _
  rw[Yw hl.symm]
  exact⟨[],.nil,fun j b kv h=>by simp at h⟩
 | cons a as ih=>
  intro kvs hl h
  cases kvs with
  | nil=>cases hl
  | cons p kvs=>
  obtain⟨vs,h1,h2⟩:=ih (kvs:=kvs) (by simpa using hl) fun j b kv e1 e2=>h (j+1) b kv e1 e2
  obtain⟨aq,r,⟨o,e1,e2,n,e3⟩,_⟩:=I.tuple (h 0 a p rfl rfl)
  obtain⟨ku,vu,rfl,r1,r2⟩:=r.two
  refine⟨(p.1,vu)::vs,.cons ⟨rfl,r2⟩ h1,fun j b kv e4 e5 =>?_⟩
  cases j with
  | zero=>
   cases e4;cases e5
   exact⟨a,o,n,ku,rfl,e1,e2,e3,pO r1⟩
  | succ j=>exact h2 j b kv e4 e5
theorem jH:∀{as:List Addr} {aq:List Value},Vals (as.map V.ref) aq->aq=as.map Value.ref
 | [],_,rv=>by cases rv;rfl
 | a::as,_,rv=>by
  obtain⟨v,r,rfl,rv1,rv2⟩:=rv.hd
  cases rv1
  rw[jH rv2];rfl
theorem yu (K:Ja)(hc:X.calm=true)(hK:X.K=K:=by rfl):bB X (.type "dict") (fun xs H Q=>∃(p:Addr) (as:List Addr) (kvs:List (Key×V)),xs=[.ref p]/\bq K H p (as.map V.ref)/\as.length=kvs.length/\kvs.length<=100000 /\
  (∀(j:Nat) b kv,as[j]? = some b->kvs[j]? = some kv->bF K H b [kV kv.1,kv.2])/\∀d H',gY H d (.dK (ck [] kvs)) H'->Q (.ref d) H'):=by
 subst hK
 intro pins s σ H xs us Q I r h
 obtain⟨p,as,kvs,rfl,hp,hl,hz,ht,q⟩:=h
 obtain⟨u,rfl,ru⟩:=vals1 r
 cases ru
 obtain⟨aq,rv,⟨o,n,e1,e2,e3,e4⟩,_⟩:=I.list hp
 obtain⟨vs,kv,pa⟩:=qv I _ hl ht
 have hits:=jH rv
 have kl:=kv.length
 refine wc (knd:=br X.prog X.w) (kvs:=vs) (I.ok.hd hc) e1 e2 e3 e4 (by rw[hits];simp;omega) (by omega) (fun j v kw h1 h2 =>?_) fun h1 tk k1 dd =>?_
 ·rw[hits] at h1
  simp only[List.getElem?_toArray,Jk] at h1
  cases e:as[j]? with
  | none=>rw[e] at h1;cases h1
  | some b=>rw[e] at h1;cases h1;exact pa j b kw e h2
 ·have ml:=cN kvs []
  have big:=I.big
  refine⟨.ref s.heap.objs.size,_,I.laid (a:=s.heap.objs.size) (o := .dK (ck [] kvs)) (t':=tk) k1 (Je _) ⟨Ji (show _<=100000 by simp at ml;omega) (by decide),?_,_,KV.merge kv .nil,dd⟩,rfl,q _ _ ⟨I.bw.fresh (Je _),rfl⟩⟩
  exact beq_eq_false_iff_ne.mpr (Uh big)
end
section
variable {X:Cx}
theorem FG:IG X "list.remove" (fun x vs H Q=>∃(l:Addr) (xs:List Str) (y:Str),x = .ref l/\vs=[.str y]/\H l=some (.lst (xs.map V.str))/\y∈xs/\∀H',Du H l (.lst ((xs.erase y).map V.str)) H'->Q .non H'):=by
 intro pins s σ H x vs v us Q I rx rv h
 obtain⟨l,xs,y,rfl,rfl,hH,hy,q⟩:=h
 cases rx
 obtain⟨u,rfl,ru⟩:=vals1 rv
 obtain⟨t,rfl⟩:=ru
 obtain⟨z,aq,n,r,hl,e⟩:=I.uO hH
 have hlen:=r.length
 rw[Jd] at hlen
 obtain⟨j,hj⟩:∃j,j=xs.idxOf y:=⟨_,rfl⟩
 have jl:j<xs.length:=by rw[hj];exact List.idxOf_lt_length_iff.mpr hy
 have jy:xs[j]=y:=by simp only[hj];exact List.getElem_idxOf (by rw[<-hj];exact jl)
 have jn:∀m (hm:m<xs.length),m<j->xs[m]≠y:=fun m hm hmj w=>by
  have:m<List.findIdx (· == y) xs:=by rw[hj] at hmj;exact hmj
  have:=List.not_of_lt_findIdx this
  rw[w] at this
  simp at this
 let ev:Value->Bool:=fun u=>match u with | .str a _=>a==y|_=>false
 have at':∀m (hm:m<aq.length),∃t',aq[m] = .str (xs[m]'(by omega)) t':=fun m hm=>by
  obtain⟨a,h1,h2⟩:=kn r (i:=m) (v:=aq[m]) (by simp[hm])
  rw[Jk,Jc (by omega)] at h1
  cases h1
  exact h2
 refine call_meets F.slot_list_remove ⟨_,e,rfl⟩ F.entry_list_remove (F.args_list_remove_2 _ _) (MeetsSeq.list_remove l aq.toArray n (.str y t) ev (fun w hw =>?_) j (by rw[Jp];omega) ?_ ?_ (by rw[Jp];omega)) ⟨e,?_⟩
 ·have hw:w∈aq:=by simpa using hw
  obtain⟨i,hi,ew⟩:=Yv.mp hw
  obtain⟨t',e'⟩:=at' i hi
  rw[<-ew,e']
  have z:=SeqRoads2.EqGives.str (xs[i]'(by omega)) y t' t
  rw[show((xs[i]'(by omega)).cps.toList==y.cps.toList)=((xs[i]'(by omega))==y) from by rw[Y6,beq_iff_eq,beq_iff_eq,Array.toList_inj];exact⟨fun q=>by generalize xs[i]'(by omega)=x at q ⊢;cases x;cases y;simp_all,fun q=>by rw[q]⟩] at z
  exact z
 ·obtain⟨t',e'⟩:=at' j (by omega)
  show ev aq[j]=true
  rw[e']
  show(xs[j]==y)=true
  rw[jy];simp
 ·intro m hm hmj
  have FN:m<aq.length:=by rw[Jp] at hm;exact hm
  obtain⟨t',e'⟩:=at' m FN
  show ev aq[m]=false
  rw[e']
  show(xs[m]==y)=false
  simpa using jn m (by omega) hmj
 ·have ex:(xs.map V.str).eraseIdx j=(xs.erase y).map V.str:=by
   rw[List.erase_eq_eraseIdx_of_idxOf (i:=j) hj.symm,Yq,Yq,J7,List.map_take,List.map_drop]
  refine⟨.non,_,I.Kf (ys:=(xs.map V.str).eraseIdx j) (its':=aq.eraseIdx j) hH e ?_ (oj j r) (by rw[List.length_eraseIdx];split<;>omega),rfl,?_⟩
  ·simp[Array.eraseIdxIfInBounds,show j<aq.length by omega]
  ·exact q _ ⟨by rw[ex]⟩
end
section
variable {M:Model}{A:Around}{E:Value->Shared->Prop}{s:Shared}{env:Env}
variable {nm q:Str}{C N:Addr}{bs bm:List Value}{hdct:Bool}{sn:List Str}{sub:List Value}{ab:Bool}{col:Option Bool}{dd:Option Addr}{k0 k1 k2 k3 k5:Option Value}{newId:String}
theorem zN {x:Expr}{pos:Pos}{Q:Flow->Shared->Prop}(hh:A.handled=none)(hb:bm.contains (.type "BaseException")=true)
  (h:wpAny M A (eval x env) (fun v s1=>∃e o,v = .ref e/\s1.heap.get? C=some (excClassObj nm q C N bs bm hdct sn sub ab col dd k0 k1 k2 k3 k5 newId)/\s1.heap.get? e=some o/\o.cls = .ref C/\Raw o/\E (.ref e) s1) E s) :
  wpAny M A (exec (.Raise (some x) none pos) env) Q E s:=by
 have WN:(Value.ref C::bm).contains (.type "BaseException")=true:=by rw[List.contains_cons,hb,Bool.or_true]
 rw[arm_exec_Raise]
 show wpAny M A (do standAt pos;raiseStmt env (some (do let v <-eval x env;standAt pos;pure v)) none) Q E s
 refine wpAny_bind (wpAny_standAt ?_)
 unfold raiseStmt
 refine wpAny_bind (wpAny_bind (wpAny_mono h (fun v s1 h1=>wpAny_bind (wpAny_standAt (wpAny_pure ?_))) fun _ _ z=>z))
 obtain⟨e,o,rfl,hC,he,hc,⟨t,hd⟩,hE⟩:=h1
 obtain⟨oc,od,odt,Ap⟩:=o
 dsimp only at hc hd
 subst hc hd
 obtain⟨hp,g,d,tk,os⟩:=s1
 repeat (first|with_reducible refine wpAny_loadPart_at he ?_|with_reducible refine wpAny_loadPart_at hC ?_|(with_reducible refine wpAny_isSubtype_exc hC ?_;rw[WN])|wp_step)
 exact wpAny_raiseNew_none hh hE
end
section
variable {P:Program}{w:World}{K:Ja}{mg:Str->Option Value}{base:Heap}{N:List Str}{qual:Str}{scope:Scope}{f:Addr}{cd:Value}{A:Around}{outer:List Env}{s0:Shared}{H0:Hp}{E:XK}
def Eb (C:Addr)(H0:Hp)(E:XK)(sp:Sp)(t:TA):TS:=fun _ σ H=>Dx C sp t σ H fun v H2=>∃e dx,v = .ref e/\H2 e=some (A5 e C dx)/\H0 e=none/\E (.ref C) (some dx) (oY H2 e)
theorem pX {k:Nat}{fi C:Addr}{fd:FuncData}{ps:List Str}{sp:Sp}{x:Str}{p dg pos:Pos}{a:Expr}{as:List Expr}{t:TA}(M:IB K C fi)(F:bh P w K mg base fw k fi fd ps sp)(hr:cG (k+1) (A.deeper (envOfC qual scope s0.heap.objs.size f cd)))
  (hg:Gl (gU (nU P w base) P w K mg base N qual scope f cd A outer s0 H0 E) x) (hm:mg x=some (.ref C)) (hb:Binds K fd ps []) (ha:PA (gU (nU P w base) P w K mg base N qual scope f cd A outer s0 H0 E) (a::as) t) (nP:(x==("__debug__" : Str))=false:=by decide)
  (he:starEach (a::as) (envOfC qual scope s0.heap.objs.size f cd)=(false,eval a (envOfC qual scope s0.heap.objs.size f cd))::starEach as (envOfC qual scope s0.heap.objs.size f cd):=by rfl) (pJ:(backTo dg (starEach as (envOfC qual scope s0.heap.objs.size f cd))).any (·.1)=false:=by rfl) :
  PS (gU (nU P w base) P w K mg base N qual scope f cd A outer s0 H0 E) (.Raise (some (.Call (.Name x p) (a::as) [] dg)) none pos) (Eb C H0 E sp t):=by
 intro pins s σ H D I h
 obtain⟨nm,qn,Nn,bs,Db,hdct,sn,sub,ab,col,dd,k0,k1,k2,k3,k5,lk,TL⟩:=id M.cl
 have ev:=Cv (X:=gU (nU P w base) P w K mg base N qual scope f cd A outer s0 H0 E) (pos:=dg) (p:=p) M F hr hg hm hb ha rfl nP he pJ s σ H _ I h
 refine zN (C:=C) (nm:=nm) (q:=qn) (N:=Nn) (bs:=bs) (bm := .ref Db::cZ) (hdct:=hdct) (sn:=sn) (sub:=sub) (ab:=ab) (col:=col) (dd:=dd) (k0:=k0) (k1:=k1) (k2:=k2) (k3:=k3) (k5:=k5) (newId := "ValueError.__new__")
  (I.ok.hd rfl) (by simp[cZ]) (bz ev fun v s1 ⟨y,H1,I1,ry,e,dx,ey,ee,h0,hE⟩=>?_)
 subst ey
 obtain rfl:v=Value.ref e:=ry
 obtain⟨ob,b1,b2,b3,b4⟩:=(show bg P w H1 s1.heap e (A5 e C dx) from I1.bw e _ ee).1
 obtain⟨t0,b5⟩:=id b4
 have ub:Un (eW outer) [] H0 H1 s0.heap s1.heap:=I1.base
 refine⟨e,ob,rfl,I1.gT _ _ lk,b1,b2,b4,xu (t:=t0) I1 b1 ?_ b5 rfl rfl (.inr ⟨_,ee⟩) (by rw[b2,b3];exact hE)⟩
 cases z:s0.heap.get? e with
 | none=>rfl
 | some o=>
  have:=ub.free e o z h0 (by simp)
  rw[ee] at this;cases this
end
section
variable {X:Cx}
def Ii (K:Frag)(to:TE)(f:Str):TE:=fun σ H Q=>to σ H fun x H1=>∃e C dx fs v,x = .ref e/\H1 e=some (kB e (.ref C) (some dx))/\H1 dx=some (.xd fs)/\fs.lookup f=some v/\iC K C/\ja K C f/\((∃i,v = .int i)∨∃z,v = .str z)/\Q v H1
theorem nW {o:Expr}{f:Str}{to:TE}{pos:Pos}(K:Frag)(ho:PE X o to)(hb:attributeBase o f X.env (eval o X.env)=eval o X.env:=by rfl)(hK:X.K=K:=by rfl):PE X (.Attribute o f pos) (Ii K to f):=by
 subst hK
 intro pins s σ H Q I h
 refine yd hb (bz (ho s σ H _ I h) fun ov s1 hz_ =>?_)
 refine ai.el hz_ _ ?_
 clear hz_
 rintro x H1 I1 rx ⟨e,C,dx,fs,v,ex,ee,ed,el,O,S,hv,q⟩
 subst ex
 obtain rfl:ov=Value.ref e:=rx
 obtain⟨ob,b1,b2,b3,b4⟩:=(show bg X.prog X.w H1 s1.heap e (Mb e (.ref C) dx) from I1.bw e _ ee).1
 obtain⟨mA,n1,n2⟩:=I1.bw dx _ ed
 obtain⟨od,c1,c2⟩:=pN n1
 have hf:=n2 f
 rw[el] at hf
 cases hm:mA f with
 | none=>rw[hm] at hf;exact hf.elim
 | some u=>
  rw[hm] at hf
  have ru:RelV v u:=hf
  refine Dc I1.gT O S b1 b2 b3 b4 c1 (by rw[c2,hm]) ?_ ⟨v,H1,I1.tok _,ru,q⟩
  rcases hv with ⟨i,rfl⟩|⟨z,rfl⟩
  ·obtain⟨t,rfl⟩:=ru;rfl
  ·obtain⟨t,rfl⟩:=ru;rfl
theorem DK {P:Program}{w:World}{H:Hp}{h:Heap}{e C:Addr}{dx:Option Addr}(x:bg P w H h e (kB e (.ref C) dx)):ExcAt e C h:=by
 cases dx with
 | none=>exact x.1
 | some d=>obtain⟨o,a,b,_⟩:=x.1;exact⟨o,a,b⟩
def QL (K:Frag):List V->Hp->VK->Prop:=fun xs H Q=>D0 fun(e C:Addr) (dx:Option Addr) (c:V) (cv:Value) (b:Bool)=>xs=[.ref e,c]/\H e=some (kB e (.ref C) dx)/\iC K C/\N5 c=some cv/\kitOne K (.ref C) cv=some b/\Q (.bl b) H
theorem pA (K:Frag)(hK:X.K=K:=by rfl):bB X (.builtin "isinstance") (QL K):=by
 subst hK
 intro pins s σ H xs us Q I r h
 obtain⟨e,C,dx,c,cv,b,rfl,hE,O,hc,hk,q⟩:=h
 obtain⟨u,w',rfl,r1,r2⟩:=vals2 r
 cases r1
 have hx:=DK (I.bw e _ hE)
 have ew:w'=cv:=by
  cases c<;>simp[N5] at hc
  ·subst hc;cases r2;rfl
  ·subst hc;cases r2;rfl
 subst ew
 exact kia_one (BX O) I.gT hx hk (fun z=>nomatch z) fun tk=>⟨.bl b,H,I.tok _,rfl,q⟩
end
theorem cw {h h':Heap}{it:Addr}{ty:String}{z:Str}{t:Tok}{i:Nat}(x:h.IsStrIter it ty z t i)(k:∀o,h.get? it=some o->h'.get? it=some o):h'.IsStrIter it ty z t i:=
 let ⟨o,a,r⟩:=x; ⟨o,k o a,r⟩
open Builtin.Str
theorem kg:∀(tk:Nat) (xs:List Str),Vals (xs.map V.str) (strValues (numbered tk xs))
 | _,[] =>.nil
 | tk,x::r =>.cons ⟨tk,rfl⟩ (kg (tk+1) r)
section
variable {X:Cx}
theorem vG:D8 X "str.split" (fun x vs H Q=>eu fun a b=>x = .str a/\vs=[.str b]/\b.length≠0/\a.length<=10000000/\(Txt.split a b).length<=10000000/\∀p H',gY H p (.lst ((Txt.split a b).map V.str)) H'->Q (.ref p) H'):=by
 intro pins s σ H x vs v us Q I rx rv h
 obtain⟨a,b,rfl,rfl,hb,ha,hn,q⟩:=h
 obtain⟨t,rfl⟩:=rx
 obtain⟨u,rfl,t',rfl⟩:=rv.one
 have xT:(b.length==0)=false:=by simpa using hb
 have new:∀(tk:Nat) (aq:List Value),Vals ((Txt.split a b).map V.str) aq->EP X pins σ Q (.ref s.heap.objs.size) { s with toks:=tk,heap:=s.heap.push { cls := .type "list",data := .seq aq.toArray } }:=fun tk aq r=>
  ⟨.ref _,_,I.laid (a:=s.heap.objs.size) (o := .lst ((Txt.split a b).map V.str)) (t':=tk) (fun _ _ e=>Jb _ e) (Je _) ⟨by rw[Jd];exact Ji hn (by decide),aq,0,r,Jj _ rfl⟩,rfl,q _ _ ⟨I.bw.fresh (Je _),rfl⟩⟩
 have self:Txt.split a b=[a]->Vals ((Txt.split a b).map V.str) [.str a t]:=fun e=>by rw[e];exact .cons ⟨t,rfl⟩ .nil
 by_cases h1:(decide (a.length<b.length)||decide (strKind a<strKind b))=true
 ·exact call_meets F.slot_str_split (typeIs_str _ _ _) F.entry_str_split (F.args_str_split_2 _ _) (meets_str_split_cannot_occur a b t t' h1) (new s.toks _ (self (if_pos h1)))
 have KY:=U5.mpr h1
 by_cases hf:(occurrences a b 0 a.length (a.length+1)).isEmpty=true
 ·exact call_meets F.slot_str_split (typeIs_str _ _ _) F.entry_str_split (F.args_str_split_2 _ _) (meets_str_split_not_found a b t t' KY xT hf) (new s.toks _ (self ((if_neg h1).trans (if_pos hf))))
 have e:Txt.split a b=partsBetween a (occurrences a b 0 a.length (a.length+1)) b.length:=(if_neg h1).trans (if_neg hf)
 refine call_meets F.slot_str_split (typeIs_str _ _ _) F.entry_str_split (F.args_str_split_2 _ _) (meets_str_split_sep a b t t' KY xT (U5.mpr hf) (Ji ha (by decide)) (by rw[<-e];exact Ji hn (by decide))) ?_
 refine new _ _ ?_
 rw[<-e,strsFrom_eq]
 exact kg _ _
end
section
variable {prog:Program}{w:World}{A:Around}{E:Value->Shared->Prop}{s:Shared}
theorem wY {l:Addr}{o:Obj}{vs:List Value}{n:Nat}{Q:List Value->Shared->Prop}(ho:s.heap.get? l=some o)(hc:o.cls = .type "tuple")(hd:o.data = .seq vs.toArray n)(hz:vs.length<=sizeLine)
  (h:Q vs { s with heap:=(s.heap.push (seqObj "list" #[] 0)).update s.heap.objs.size (Obj.mapSeq (· ++ vs.toArray)) }):wpAny (model prog w) A (collect (.ref l)) Q E s:=by
 unfold collect
 have To:(s.heap.push (seqObj "list" #[] 0)).get? l=some o:=Jb _ ho
 have hn:(s.heap.push (seqObj "list" #[] 0)).get? s.heap.objs.size=some (seqObj "list" #[] 0):=Jj _ rfl
 refine wpAny_bind (wpAny_runValue (codeAny_builtin entry_proto_collect' ?_))
 refine wpAny_bind (wpAny_newList (wpAny_pure ⟨Code.quiet_builtin _ (by decide +kernel),codeAny_builtin entry_list_iadd' ?_⟩))
 show wpAny _ _ (Builtin.List.listExtendWith (.ref s.heap.objs.size) (.ref l) (.ref s.heap.objs.size)) _ _ { s with heap:=s.heap.push (seqObj "list" #[] 0) }
 unfold Builtin.List.listExtendWith
 refine wpAny_bind (wpAny_typeOf (T := "tuple") ⟨o,To,hc⟩ ?_)
 rw[if_pos (by simp)]
 refine wpAny_bind (listItems_at To hd (wpAny_bind (listItems_at hn rfl ?_)))
 rw[if_neg (by simp)]
 have room:((#[]:Array Value)++vs.toArray).size<=sizeLine+1:=by rw[Array.size_append,Jp];exact Ji (by show 0+vs.length<=vs.length;omega) (Nat.le_succ_of_le hz)
 refine wpAny_bind (listUpdate_at hn rfl (wpAny_pure (wpAny_bind (wpAny_load (get?_update_seq hn _) ?_))) (Uz _) room)
 have e:((#[]:Array Value)++vs.toArray).toList=vs:=by simp
 refine wpAny_pure ?_
 rw[e]
 exact h
theorem xC {l:Addr}{o:Obj}{vs:List Value}{n:Nat}{ss:List Str}{Q:Value->Shared->Prop}(ho:s.heap.get? l=some o)(hc:o.cls = .type "tuple")(hd:o.data = .seq vs.toArray n)(hS:StrsAre vs ss)(wO:vs.length<64)
  (h:∀(out:Array Value) (ms:List Str),StrsAre out.toList ms->ms.Perm ss->PyProof.Rows.sortedS ms=true->Q (.ref (s.heap.objs.size+1)) { s with heap:=sortedAll s.heap vs out }):wpAny (model prog w) A (call (.builtin "sorted") [.ref l]) Q E s:=by
 have k1:((s.heap.push (seqObj "list" #[] 0)).update s.heap.objs.size (Obj.mapSeq (· ++ vs.toArray))).objs.size=s.heap.objs.size+1:=(Heap.size_update ..).trans (size_push' _ _)
 have k2:(((s.heap.push (seqObj "list" #[] 0)).update s.heap.objs.size (Obj.mapSeq (· ++ vs.toArray))).push (seqObj "list" vs.toArray 0)).get? _=some (seqObj "list" vs.toArray 0):=Jj _ rfl
 have hz:vs.length<=sizeLine:=Ji (Yh wO) (by decide)
 refine Calls.call_function_entry kind_sorted plain_sorted entry_sorted (args_sorted1 _) ?_
 unfold Builtin.«sorted»
 refine wpAny_bind (m:=checkCount "sorted" 1 1 _) (wpAny_pure (wpAny_bind (wY ho hc hd hz (wpAny_bind (wpAny_newList ?_)))))
 rw[k1] at k2
 show wpAny _ _ _ _ _ { s with heap:=Heap.push _ (seqObj "list" vs.toArray 0) }
 rw[k1]
 refine wpAny_bind (wpAny_holding (wpAny_call_entry slot_list_sort ⟨_,k2,rfl⟩ entry_list_sort (list_sort_treeK strKind_oneLt k2 hS.keysOf (fun v₁ v₂ rest e=>keyKind_strs (by rw[<-e];exact hS)) wO fun st a1 a2=>⟨_,rfl,wpAny_pure ⟨_,rfl,?_⟩⟩) (args_list_sort _)))
 obtain⟨ms,h1,h2,h3⟩:=sorted_out_str hS a1 a2
 exact h _ ms h1 h2 h3
end
section
variable {X:Cx}(K:Ja)
theorem CB (hK:X.K=K:=by rfl):bB X (.builtin "sorted") (fun xs H Q=>∃(p:Addr) (ss:List Str),xs=[.ref p]/\bF K H p (ss.map V.str)/\ss.length<64 /\
  ∀(ms:List Str) (q:Addr) (H':Hp),ms.Perm ss->PyProof.Rows.sortedS ms=true->gY H q (.lst (ms.map V.str)) H'->Q (.ref q) H'):=by
 subst hK
 intro pins s σ H xs us Q I r h
 obtain⟨p,ss,rfl,hq,hl,q⟩:=h
 obtain⟨u,rfl,ru⟩:=vals1 r
 cases ru
 obtain⟨aq,rv,⟨o,ho,hc,n,hd⟩,hz⟩:=I.tuple hq
 have hn:aq.length=ss.length:=by have:=rv.length;rw[Jd] at this;exact this.symm
 refine xC ho hc hd (gE rv) (by omega) fun out ms a1 a2 a3 =>?_
 obtain⟨e,he⟩:=sortedAll_at s.heap aq out
 have hm:ms.length=ss.length:=a2.length_eq
 refine⟨.ref (s.heap.objs.size+1),_,I.laid (a:=s.heap.objs.size+1) (o := .lst (ms.map V.str)) (t':=s.toks) (fun _ _=>sortedAll_old) (Yt _) ⟨?_,out.toList,e,ke a1,?_⟩,rfl,q ms _ _ a2 a3 ⟨I.bw.fresh (Yt _),rfl⟩⟩
 ·rw[Jd];exact Ji (show ms.length<=64 by omega) (by decide)
 ·simpa [seqObj] using he
theorem uY (hK:X.K=K:=by rfl):bB X (.builtin "sorted") (fun xs H Q=>∃(p:Addr) (ss:List Str),xs=[.ref p]/\(bq K H p (ss.map V.str)∨bF K H p (ss.map V.str))/\ss.length<64 /\
  ∀(ms:List Str) (q:Addr) (H':Hp),ms.Perm ss->PyProof.Rows.sortedS ms=true->gY H q (.lst (ms.map V.str)) H'->Q (.ref q) H'):=by
 intro pins s σ H xs us Q I r h
 obtain⟨p,ss,e,hq,hl,q⟩:=h
 rcases hq with hq|hq
 ·exact L2.sortedS K hK s σ H xs us Q I r ⟨p,ss,e,hq,hl,q⟩
 ·exact CB K hK s σ H xs us Q I r ⟨p,ss,e,hq,hl,q⟩
end
theorem DT:typeLookup (.type "tuple") "keys" = pure none:=by rw[typeLookup_type,builtinLookup_eq_fast];kernel_rfl
theorem HZ:typeLookup (.type "tuple") "__getattr__" = pure none:=by rw[typeLookup_type,builtinLookup_eq_fast];kernel_rfl
section
variable {prog:Program}{w:World}{A:Around}{E:Value->Shared->Prop}{h:Heap}{g:Array GenState}{d:Drawn}{t:Nat}{os:OsState}{a:Addr}{o:Obj}
theorem tR {tk:Tok}{Q:Fin->Shared->Prop}(hx:h.get? a=some o)(hc:o.cls = .type "tuple")(nQ:o.dict=none){xs:Array Value}{n:Nat}(hd:o.data = .seq xs n)(hh:A.handled=none)
  (hq:∀e h' t',(∀b o,h.get? b=some o->h'.get? b=some o)->(∃oe,h'.get? e=some oe/\oe.cls = .type "AttributeError")->E (.ref e) ⟨h',g,d,t',os⟩) :
  wpAny (model prog w) A (Builtin.«object.__getattribute__» ⟨[.ref a,.str "keys" tk],[]⟩) Q E ⟨h,g,d,t,os⟩:=by
 have hT:(⟨h,g,d,t,os⟩:Shared).TypeIs (.ref a) "tuple":=⟨_,hx,hc⟩
 have f4:=DT
 repeat (any_goals (first|assumption|wp_step))
 rw[hd]
 dsimp only
 unfold instanceDict
 repeat (any_goals (first|assumption|wp_step))
 rw[nQ,hc]
 repeat (any_goals (first|assumption|wp_step))
 have f9:=lA
 unfold raiseAttrError noteAttr
 wp_walk
 rw[show(Manifest.find? "AttributeError").elim false (fun t=>t.mro.contains "StopIteration" || t.mro.contains "SystemExit")=false by decide +kernel,if_neg Jm]
 repeat (any_goals (first|assumption|wp_step))
 refine wpAny_raiseNew_none hh (hq _ _ _ (fun b o' x =>?_) ⟨_,J2 _ (Jj _ rfl) rfl,rfl⟩)
 have x1:=Jb (h:=h) { cls:=Value.type "tuple",data:=Data.seq #[Value.str (Str.ofString (toString "'" ++ toString ((Manifest.find? "tuple").elim "tuple" fun x=>x.tpName)++toString "' object has no attribute '")++Str.ofString "keys" ++ Str.ofString "'") t] } x
 rw[J3 _ _ (Uh (Jf x1))]
 exact Jb _ x1
theorem vU {tk:Tok}{R:Result->Shared->Prop}(hx:h.get? a=some o)(hc:o.cls = .type "tuple")(nQ:o.dict=none){xs:Array Value}{n:Nat}(hd:o.data = .seq xs n)(hh:A.handled=none)
  (hq:∀e h' t',(∀b o,h.get? b=some o->h'.get? b=some o)->(∃oe,h'.get? e=some oe/\oe.cls = .type "AttributeError")->R (.error (.ref e)) ⟨h',g,d,t',os⟩) :
  codeAny (model prog w) A (.call (.builtin "tuple.__getattribute__") ⟨[.ref a,.str "keys" tk],[]⟩) R ⟨h,g,d,t,os⟩:=
 codeAny_call_builtin F.slot_tuple_getattribute.plain F.entry_tuple_ga (F.slot_tuple_getattribute.check _ _ _ _ _ _ _ _ (show(⟨h,g,d,t,os⟩:Shared).TypeIs (.ref a) "tuple" from⟨_,hx,hc⟩) (F.args_tuple_getattribute_2 _ _) (tR hx hc nQ hd hh hq))
theorem vI {Q:Option Value->Shared->Prop}(hx:h.get? a=some o)(hc:o.cls = .type "tuple")(nQ:o.dict=none){xs:Array Value}{n:Nat}(hd:o.data = .seq xs n)(hh:A.handled=none)
  (hq:∀h' t',(∀b o,h.get? b=some o->h'.get? b=some o)->Q none ⟨h',g,d,t',os⟩):wpAny (model prog w) A (getAttr? (.ref a) "keys") Q E ⟨h,g,d,t,os⟩:=by
 have hT:(⟨h,g,d,t+1,os⟩:Shared).TypeIs (.ref a) "tuple":=⟨_,hx,hc⟩
 have f2:=F.slot_tuple_getattribute.lookup
 have f3:=F.slot_tuple_getattribute.bind (.ref a)
 have f4:=HZ
 unfold getAttr? getAttrBy?
 repeat (any_goals (first|assumption|wp_step))
 refine vU hx hc nQ hd hh fun e h' t' k hoe =>?_
 have Ni:Shared.TypeIs ⟨h',g,d,t',os⟩ (.ref e) "AttributeError":=hoe
 have f5:=lA
 dsimp only
 unfold getattributeRaised
 refine wpAny_bind (wpAny_isInstance (T := "AttributeError") (b:=true) Ni f5 ?_)
 rw[if_pos rfl]
 unfold hookBehind
 repeat (any_goals (first|assumption|wp_step))
 exact hq h' t' k
end
section
variable {prog:Program}{w:World}{K:Type}[DecidableEq K]{knd:KeyKind prog w K}{A:Around}{E:Value->Shared->Prop}
theorem lJ {s:Shared}{R:Result->Shared->Prop}{it l d:Addr}{items:Array Value}{kvs:List (K×Value)}{g:Heap}(hh:A.in1.handled=none)(hl:g.IsTuple l items)(hn:items.size=kvs.length)(hz:kvs.length<=100000)
  (hp:∀(j:Nat) v kv,items[j]? = some v->kvs[j]? = some kv->jv knd g v kv) (lit:∀b o,g.get? b=some o->b≠it/\b≠d) (ne:d≠it)
  (fin:∀h tk,(∀b o,b≠d->b≠it->g.get? b=some o->h.get? b=some o)->h.DictOf knd d (merged [] kvs)->R (.ok (.ret .none)) { s with heap:=h,toks:=tk }) :
  ∀(k i:Nat) (h:Heap) (tk:Nat) (acc:List (K×Value)),i+k=kvs.length->acc.length<=i->merged acc (kvs.drop i)=merged [] kvs->(∀b o,b≠d->b≠it->g.get? b=some o->h.get? b=some o)->h.IsTupleIter it l i->h.DictOf knd d acc ->
   codeAny (model prog w) A (.builtin "dict.update.loop" ⟨[.ref d,.ref it,rawInt i,.none],[]⟩) R { s with heap:=h,toks:=tk }
 | 0,i,h,tk,acc,hk,ha,hm,kp,hi,hd=>by
  have e:i=kvs.length:=by omega
  subst e
  have EW:h.IsTuple l items:=by
   obtain⟨o,ho,r⟩:=hl
   exact⟨o,kp _ _ (lit _ _ ho).2 (lit _ _ ho).1 ho,r⟩
  refine codeAny_builtin bO ?_
  rw[Around.under_plainId aR _]
  unfold Builtin.«dict.update.loop»
  refine wpAny_bind (wpAny_pyNext_tuple_end (s:={ s with heap:=h,toks:=tk }) hh hi EW (by rw[Yl (by omega)]) fun h' eb =>?_)
  refine wpAny_bind (m:=Builtin.Dict.addKeywords d []) (wpAny_pure (wpAny_pure ?_))
  refine fin h' tk (fun b o nd ni x=>eb b o ni (kp b o nd ni x)) ?_
  rw[List.drop_length] at hm
  have hm:acc=merged [] kvs:=hm
  rw[<-hm]
  obtain⟨o,es,ep,ho,r⟩:=hd
  exact⟨o,es,ep,eb _ _ ne ho,r⟩
 | k+1,i,h,tk,acc,hk,ha,hm,kp,hi,hd=>by
  have iA:i<kvs.length:=by omega
  have EW:h.IsTuple l items:=by
   obtain⟨o,ho,r⟩:=hl
   exact⟨o,kp _ _ (lit _ _ ho).2 (lit _ _ ho).1 ho,r⟩
  have FW:items[i]? = some items[i]:=Ud (by omega)
  obtain⟨tp,o,n,ku,ev,ho,hc,xr,hkey⟩:=hp i _ _ FW (Jc iA)
  refine codeAny_builtin bO ?_
  rw[Around.under_plainId aR _]
  unfold Builtin.«dict.update.loop»
  refine wpAny_bind (wpAny_pyNext_tuple_item (s:={ s with heap:=h,toks:=tk }) hi EW FW fun h1 hi1 D9 =>?_)
  rw[ev]
  have Hj:h1.get? tp=some o:=D9.extBut _ _ (lit _ _ ho).1 (kp _ _ (lit _ _ ho).2 (lit _ _ ho).1 ho)
  have HC:h1.DictOf knd d acc:=by
   obtain⟨o,es,ep,ho,r⟩:=hd
   exact⟨o,es,ep,D9.extBut _ _ ne ho,r⟩
  have hT:Shared.TypeIs { s with heap:=h1,toks:=tk } (.ref tp) "tuple":=⟨o,Hj,hc⟩
  refine wpAny_bind (wpAny_holding ?_)
  refine wpAny_bind (wpAny_tryCatch ?_)
  unfold Builtin.Dict.pairItems
  refine wpAny_bind (wpAny_typeOf hT ?_)
  rw[if_pos (by decide)]
  refine wpAny_bind (wpAny_seqItems (s:={ s with heap:=h1,toks:=tk }) Hj xr (wpAny_pure ?_))
  refine wpAny_holding (wpAny_dictSet_pairs (s:={ s with heap:=h1,toks:=tk }) hkey HC (fun h2 JN sb2 =>?_) (Ji (show acc.length<=100000 by omega) (by decide)))
  refine wpAny_pure ⟨plainId_quiet aR _,?_⟩
  have:=lJ hh hl hn hz hp lit ne fin k (i+1) h2 (tk+1) (stored acc kvs[i].1 kvs[i].2) (by omega) ?_ ?_ (fun b o nd ni x=>sb2.extBut b o nd (D9.extBut b o ni (kp b o nd ni x))) ?_ JN
  ·exact this
  ·refine Ji ?_ (Wb ha)
   unfold stored
   split
   ·rw[Jd];exact Yt _
   ·rw[Jw];exact Je _
  ·rw[<-hm,List.drop_eq_getElem_cons iA]
   rfl
  ·obtain⟨oi,e1,r⟩:=hi1
   exact⟨oi,sb2.extBut _ _ (Ne.symm ne) e1,r⟩
theorem ug {s:Shared}{Q:Value->Shared->Prop}{l:Addr}{items:Array Value}{kvs:List (K×Value)}{ol:Obj}{n:Nat}(hh:A.handled=none)(ho:s.heap.get? l=some ol)(hc:ol.cls = .type "tuple")(nQ:ol.dict=none)(hd:ol.data = .seq items n)(hn:items.size=kvs.length)(hz:kvs.length<=100000)
  (hp:∀(j:Nat) v kv,items[j]? = some v->kvs[j]? = some kv->jv knd s.heap v kv)
  (fin:∀h tk,(∀b o,s.heap.get? b=some o->h.get? b=some o)->h.DictOf knd s.heap.objs.size (merged [] kvs)->Q (.ref s.heap.objs.size) { s with heap:=h,toks:=tk }) :
  wpAny (model prog w) A (call (.type "dict") [.ref l]) Q E s:=by
 refine callType_codes (Q₁:=fun obj s₁=>obj = .ref s.heap.objs.size/\s₁={ s with heap:=s.heap.push { cls := .type "dict",data := .dict #[] } }) F.kt_called_dict (F.kt_typeCall_dict_1 _) F.entry_dict_init (kt_code_dict_new _ ⟨rfl,rfl⟩) ?_
 rintro obj s1 ⟨rfl,rfl⟩
 have new:(s.heap.push { cls := .type "dict",data := .dict #[] }).DictOf knd s.heap.objs.size []:=Heap.DictOf.new s.heap
 have k0:∀b o,s.heap.get? b=some o->(s.heap.push { cls := .type "dict",data := .dict #[] }).get? b=some o:=fun b o x=>Jb _ x
 refine⟨new.typeIs,F.args_dict_init_2 _ _,?_⟩
 unfold Builtin.«dict.__init__» Builtin.Dict.selfAndRest
 refine wpAny_bind (wpAny_bind (wpAny_notOrdered_dict new.typeIs ?_))
 show wpAny _ _ (pure (s.heap.objs.size,[Value.ref l])) _ _ _
 refine wpAny_pure ?_
 show wpAny _ _ (Builtin.Dict.updateFrom "dict.__init__" s.heap.objs.size (.ref l) [] .none) _ _ _
 unfold Builtin.Dict.updateFrom
 have hT:Shared.TypeIs { s with heap:=s.heap.push { cls := .type "dict",data := .dict #[] } } (.ref l) "tuple":=⟨ol,k0 _ _ ho,hc⟩
 refine wpAny_bind (wpAny_typeOf hT ?_)
 rw[if_pos (by decide)]
 refine wpAny_bind (vI (h:=s.heap.push { cls := .type "dict",data := .dict #[] }) (k0 _ _ ho) hc nQ hd hh fun h1 t1 k1 =>?_)
 rw[if_pos (by rfl)]
 have kk:∀b o,s.heap.get? b=some o->h1.get? b=some o:=fun b o x=>k1 b o (k0 b o x)
 refine wpAny_bind (wpAny_rule (wpAny_bind (wpAny_pyIter_tuple (t:=l) (items:=items) ⟨ol,kk _ _ ho,hc,n,hd⟩ ?_)))
 have hS:s.heap.objs.size<h1.objs.size:=by
  obtain⟨o,es,ep,e,_⟩:=new
  exact Jf (k1 _ _ e)
 refine wpAny_pure ⟨plainId_quiet aR _,?_⟩
 have low:∀b o,s.heap.get? b=some o->b≠h1.objs.size/\b≠s.heap.objs.size:=fun b o x=>⟨Jl (Jf (kk b o x)),Jl (Jf x)⟩
 refine lJ (s:=s) (knd:=knd) (A:=A.in1) (it:=h1.objs.size) (g:=s.heap) (kvs:=kvs) hh ⟨ol,ho,hc,n,hd⟩ hn hz hp low (Jl hS) (fun h tk k dd=>⟨rfl,fin h tk (fun b o x=>k b o (low b o x).2 (low b o x).1 x) dd⟩) kvs.length 0 _ _ [] (by omega) (Je _) rfl (fun b o nd ni x=>Jb _ (kk b o x)) ⟨_,Jj _ rfl,rfl,rfl⟩ ?_
 obtain⟨o,es,ep,e,r⟩:=new
 exact⟨o,es,ep,Jb _ (k1 _ _ e),r⟩
end
section
variable {X:Cx}{pins:List (Addr×Obj)}{σ:St}{H:Hp}{s:Shared}
theorem IV (K:Ja)(hc:X.calm=true)(hK:X.K=K:=by rfl):bB X (.type "dict") (fun xs H Q=>∃(p:Addr) (as:List Addr) (kvs:List (Key×V)),xs=[.ref p]/\bF K H p (as.map V.ref)/\as.length=kvs.length/\kvs.length<=100000 /\
  (∀(j:Nat) b kv,as[j]? = some b->kvs[j]? = some kv->bF K H b [kV kv.1,kv.2])/\∀d H',gY H d (.dK (ck [] kvs)) H'->Q (.ref d) H'):=by
 subst hK
 intro pins s σ H xs us Q I r h
 obtain⟨p,as,kvs,rfl,hp,hl,hz,ht,q⟩:=h
 obtain⟨u,rfl,ru⟩:=vals1 r
 cases ru
 obtain⟨aq,rv,⟨o,e1,e3,e2,n,e4⟩,_⟩:=I.nY hp
 obtain⟨vs,kv,pa⟩:=qv I _ hl ht
 have hits:=jH rv
 have kl:=kv.length
 refine ug (knd:=br X.prog X.w) (kvs:=vs) (I.ok.hd hc) e1 e2 e3 e4 (by rw[hits];simp;omega) (by omega) (fun j v kw h1 h2 =>?_) fun h1 tk k1 dd =>?_
 ·rw[hits] at h1
  simp only[List.getElem?_toArray,Jk] at h1
  cases e:as[j]? with
  | none=>rw[e] at h1;cases h1
  | some b=>rw[e] at h1;cases h1;exact pa j b kw e h2
 ·have ml:=cN kvs []
  have big:=I.big
  refine⟨.ref s.heap.objs.size,_,I.laid (a:=s.heap.objs.size) (o := .dK (ck [] kvs)) (t':=tk) k1 (Je _) ⟨Ji (show _<=100000 by simp at ml;omega) (by decide),?_,_,KV.merge kv .nil,dd⟩,rfl,q _ _ ⟨I.bw.fresh (Je _),rfl⟩⟩
  exact beq_eq_false_iff_ne.mpr (Uh big)
theorem rN (K:Ja)(hc:X.calm=true)(hK:X.K=K:=by rfl):bB X (.type "dict") (fun xs H Q=>∃(p:Addr) (as:List Addr) (kvs:List (Key×V)),xs=[.ref p]/\(bq K H p (as.map V.ref)∨bF K H p (as.map V.ref))/\as.length=kvs.length/\kvs.length<=100000 /\
  (∀(j:Nat) b kv,as[j]? = some b->kvs[j]? = some kv->bF K H b [kV kv.1,kv.2])/\∀d H',gY H d (.dK (ck [] kvs)) H'->Q (.ref d) H'):=by
 intro pins s σ H xs us Q I r h
 obtain⟨p,as,kvs,e,hp,hl⟩:=h
 rcases hp with hp|hp
 ·exact yu K hc hK s σ H xs us Q I r ⟨p,as,kvs,e,hp,hl⟩
 ·exact IV K hc hK s σ H xs us Q I r ⟨p,as,kvs,e,hp,hl⟩
theorem Kp (hc:X.calm=true):bB X (.type "list") (fun xs H Q=>vo fun(d:Addr) (es:Array DictEntry) (n:Nat) (kvs:List (Str×Value))=>xs=[.ref d]/\xP X.K X.prog X.w d es n kvs/\kvs.length<=1000/\∀p H',gY H p (.lst ((kvs.map (·.1)).map V.str)) H'->Q (.ref p) H'):=by
 intro pins s σ H xs us Q I r h
 obtain⟨d,es,n,kvs,rfl,D,wO,q⟩:=h
 obtain⟨u,rfl,ru⟩:=vals1 r
 cases ru
 refine kdl_call (kdl_dict (knd:=PySem.strKind X.prog X.w) (kvs:=kvs) (ep:=n) D.ns) (I.ok.hd hc) (D.at I.gT) (Ji wO (by decide)) fun h' tk acc c k hS items =>?_
 refine⟨.ref s.heap.objs.size,_,I.laid (a:=s.heap.objs.size) (o := .lst ((kvs.map (·.1)).map V.str)) (t':=tk) k (Je _) ⟨by rw[Jd,Jd];exact Ji wO (by decide),acc.toList,c,?_,by simpa using hS⟩,rfl,q _ _ ⟨I.bw.fresh (Je _),rfl⟩⟩
 have hi:∀(j:Nat) v,acc.toList[j]? = some v->∃k x,kvs[j]? = some (k,x)/\(PySem.strKind X.prog X.w).is k v=true:=fun j v ej=>items.2 j v (by rw[<-Array.getElem?_toList];exact ej)
 have hl:acc.toList.length=kvs.length:=by rw[Um];exact items.1
 generalize acc.toList=aq at hi hl
 clear D items q wO
 induction kvs generalizing aq with
 | nil=>rw[Yw hl];exact .nil
 | cons p kvs ih=>
  cases aq with
  | nil=>cases hl
  | cons v aq=>
   refine .cons ?_ (ih aq (fun j u e=>hi (j+1) u e) (Nat.succ.inj hl))
   obtain⟨k,x,e1,e2⟩:=hi 0 v rfl
   cases e1
   obtain⟨t,e3⟩:=Value.isStrOf_shape e2
   exact⟨t,e3⟩
end
section
variable {X:Cx}
theorem mG:∀{xs:List Bool} {aq:List Value},Vals (xs.map V.bl) aq->aq=xs.map Value.bool
 | [],_,h=>by cases h;rfl
 | b::xs,_,h=>by
  cases h with
  | cons r1 r2=>rw[Jy,mG r2,show _=Value.bool b from r1]
noncomputable def Cz:Value->Bool
 | .bool b=>b==true
 | _=>false
theorem Ia:IG X "list.count" (fun x vs H Q=>∃(l:Addr) (xs:List Bool),x = .ref l/\vs=[.bl true]/\H l=some (.lst (xs.map V.bl))/\Q (.int (xs.countP (· == true):Nat)) H):=by
 intro pins s σ H x vs v us Q I rx rv h
 obtain⟨l,xs,rfl,rfl,hH,q⟩:=h
 cases rx
 obtain⟨u,rfl,ru⟩:=vals1 rv
 cases ru
 obtain⟨z,aq,n,r,hl,e⟩:=I.uO hH
 obtain rfl:=mG r
 refine call_meets F.slot_list_count ⟨_,e,rfl⟩ F.entry_list_count (F.args_list_count_2 _ _) (SeqAt.list_countAt l _ n none #[] (.bool true) Cz) ⟨e,fun w hw =>?_,?_⟩
 ·have hw:w∈xs.map Value.bool:=by simpa using hw
  obtain⟨b,_,rfl⟩:=Us.mp hw
  exact SeqAt.EqAt.bool_bool b true
 ·have ec:(xs.map Value.bool).toArray.toList.countP Cz=xs.countP (· == true):=by
   show(xs.map Value.bool).countP Cz=_
   rw[List.countP_map];rfl
  exact⟨.int _,H,I.tok _,⟨_,by rw[ec]⟩,q⟩
theorem JL:IG X "list.index" (fun x vs H Q=>∃(l:Addr) (xs:List Bool) (j:Nat),x = .ref l/\vs=[.bl true]/\H l=some (.lst (xs.map V.bl))/\xs[j]? = some true/\(∀m,m<j->xs[m]? ≠ some true)/\Q (.int (j:Nat)) H):=by
 intro pins s σ H x vs v us Q I rx rv h
 obtain⟨l,xs,j,rfl,rfl,hH,hj,RP,q⟩:=h
 cases rx
 obtain⟨u,rfl,ru⟩:=vals1 rv
 cases ru
 obtain⟨z,aq,n,r,hl,e⟩:=I.uO hH
 obtain rfl:=mG r
 have jl:j<xs.length:=(Jq.mp hj).1
 have zl:(xs.map Value.bool).toArray.size=xs.length:=by rw[Jp,Jd]
 have hn:=lB
 rw[Jd] at z
 have at':∀m (hm:m<(xs.map Value.bool).toArray.size),Cz (xs.map Value.bool).toArray[m]=(xs[m]'(by omega)==true):=fun m hm=>by
  simp only[List.getElem_toArray,List.getElem_map];rfl
 refine call_meets F.slot_list_index ⟨_,e,rfl⟩ F.entry_list_index (F.args_list_index_2 _ _) (SeqAt.list_indexAt l _ n none #[] (.bool true) Cz j (by omega) (by omega) ?_ ?_) ⟨e,fun w hw =>?_,?_⟩
 ·rw[at' j (by omega),(Jq.mp hj).2];rfl
 ·intro m hm hmj
  rw[at' m hm]
  have:=RP m hmj
  rw[Jc (by omega)] at this
  cases ev:xs[m]'(by omega) with
  | false=>rfl
  | true=>rw[ev] at this;exact absurd rfl this
 ·have hw:w∈xs.map Value.bool:=by simpa using hw
  obtain⟨b,_,rfl⟩:=Us.mp hw
  exact SeqAt.EqAt.bool_bool b true
 ·exact⟨.int _,H,I.tok _,⟨_,rfl⟩,q⟩
end
theorem BE:typeLookup (.type "zip") "keys" = pure none:=by rw[typeLookup_type,builtinLookup_eq_fast];kernel_rfl
theorem IT:typeLookup (.type "zip") "__getattr__" = pure none:=by rw[typeLookup_type,builtinLookup_eq_fast];kernel_rfl
theorem IK:entryFor table "zip.__getattribute__" = some Builtin.«object.__getattribute__»:=entryFor_alias (id' := "object.__getattribute__") (by kernel_rfl) (by decide +kernel) (by decide +kernel) (by kernel_rfl)
section
variable {prog:Program}{w:World}{A:Around}{E:Value->Shared->Prop}{h:Heap}{g:Array GenState}{d:Drawn}{t:Nat}{os:OsState}{a:Addr}{o:Obj}{fs:Array Value}
theorem tE {tk:Tok}{Q:Fin->Shared->Prop}(hx:h.get? a=some o)(hc:o.cls = .type "zip")(nQ:o.dict=none)(hd:o.data = .fields fs)(hh:A.handled=none)
  (hq:∀e h' t',(∀b o,h.get? b=some o->h'.get? b=some o)->(∃oe,h'.get? e=some oe/\oe.cls = .type "AttributeError")->E (.ref e) ⟨h',g,d,t',os⟩) :
  wpAny (model prog w) A (Builtin.«object.__getattribute__» ⟨[.ref a,.str "keys" tk],[]⟩) Q E ⟨h,g,d,t,os⟩:=by
 have hT:(⟨h,g,d,t,os⟩:Shared).TypeIs (.ref a) "zip":=⟨_,hx,hc⟩
 have f4:=BE
 repeat (any_goals (first|assumption|wp_step))
 rw[hd]
 dsimp only
 unfold instanceDict
 repeat (any_goals (first|assumption|wp_step))
 rw[nQ,hc]
 repeat (any_goals (first|assumption|wp_step))
 have f9:=lA
 unfold raiseAttrError noteAttr
 wp_walk
 rw[show(Manifest.find? "AttributeError").elim false (fun t=>t.mro.contains "StopIteration" || t.mro.contains "SystemExit")=false by decide +kernel,if_neg Jm]
 repeat (any_goals (first|assumption|wp_step))
 refine wpAny_raiseNew_none hh (hq _ _ _ (fun b o' x =>?_) ⟨_,J2 _ (Jj _ rfl) rfl,rfl⟩)
 have x1:=Jb (h:=h) { cls:=Value.type "tuple",data:=Data.seq #[Value.str (Str.ofString (toString "'" ++ toString ((Manifest.find? "zip").elim "zip" fun x=>x.tpName)++toString "' object has no attribute '")++Str.ofString "keys" ++ Str.ofString "'") t] } x
 rw[J3 _ _ (Uh (Jf x1))]
 exact Jb _ x1
theorem vE {Q:Option Value->Shared->Prop}(hx:h.get? a=some o)(hc:o.cls = .type "zip")(nQ:o.dict=none)(hd:o.data = .fields fs)(hh:A.handled=none)
  (hq:∀h' t',(∀b o,h.get? b=some o->h'.get? b=some o)->Q none ⟨h',g,d,t',os⟩):wpAny (model prog w) A (getAttr? (.ref a) "keys") Q E ⟨h,g,d,t,os⟩:=by
 have hT:(⟨h,g,d,t+1,os⟩:Shared).TypeIs (.ref a) "zip":=⟨_,hx,hc⟩
 have f2:=F.slot_zip_getattribute.lookup
 have f3:=F.slot_zip_getattribute.bind (.ref a)
 have f4:=IT
 unfold getAttr? getAttrBy?
 repeat (any_goals (first|assumption|wp_step))
 refine codeAny_call_builtin F.slot_zip_getattribute.plain IK (F.slot_zip_getattribute.check _ _ _ _ _ _ _ _ hT (F.args_zip_getattribute_2 _ _) (tE hx hc nQ hd hh fun e h' t' k hoe =>?_))
 have Ni:Shared.TypeIs ⟨h',g,d,t',os⟩ (.ref e) "AttributeError":=hoe
 have f5:=lA
 dsimp only
 unfold getattributeRaised
 refine wpAny_bind (wpAny_isInstance (T := "AttributeError") (b:=true) Ni f5 ?_)
 rw[if_pos rfl]
 unfold hookBehind
 repeat (any_goals (first|assumption|wp_step))
 exact hq h' t' k
end
section
variable {prog:Program}{w:World}{K:Type}[DecidableEq K]{knd:KeyKind prog w K}{A:Around}{E:Value->Shared->Prop}
variable {it d:Addr}{T:String}{fp:Addr->Prop}{n:Nat}{P:Nat->Value->Heap->Prop}{R:Value->Value->Prop}{St:Nat->Heap->Prop}
theorem tW {s:Shared}{Z:Result->Shared->Prop}{kvs:List (K×Value)}{g:Heap}(Fd:sZ prog w A.in1 it d T fp n P R St)(hn:n=kvs.length)(hz:kvs.length<=100000)
  (hp:∀(j:Nat) v kv h,P j v h->kvs[j]? = some kv->jv knd h v kv)
  (fin:∀h tk,Keeps g h (fun b=>fp b∨b=d)->h.DictOf knd d (merged [] kvs)->Z (.ok (.ret .none)) { s with heap:=h,toks:=tk }) :
  ∀(k i:Nat) (h:Heap) (tk:Nat) (acc:List (K×Value)),i+k=kvs.length->acc.length<=i->merged acc (kvs.drop i)=merged [] kvs->Keeps g h (fun b=>fp b∨b=d)->St i h->h.DictOf knd d acc ->
   codeAny (model prog w) A (.builtin "dict.update.loop" ⟨[.ref d,.ref it,rawInt i,.none],[]⟩) Z { s with heap:=h,toks:=tk }
 | 0,i,h,tk,acc,hk,ha,hm,kp,hi,hd=>by
  have e:i=n:=by omega
  subst e
  refine codeAny_builtin bO ?_
  rw[Around.under_plainId aR _]
  unfold Builtin.«dict.update.loop»
  have dl:d<h.objs.size:=by obtain⟨o,es,ep,ho,r⟩:=hd;exact Jf ho
  refine wpAny_bind (Fd.stop { s with heap:=h,toks:=tk } _ _ hi dl fun h' tk' k' =>?_)
  refine wpAny_bind (m:=Builtin.Dict.addKeywords d []) (wpAny_pure (wpAny_pure ?_))
  refine fin h' tk' (fun b o nb x=>k' b o (fun z=>nb (.inl z)) (kp b o nb x)) ?_
  rw[hn,List.drop_length] at hm
  have hm:acc=merged [] kvs:=hm
  rw[<-hm]
  obtain⟨o,es,ep,ho,r⟩:=hd
  exact⟨o,es,ep,k' _ _ Fd.sfp ho,r⟩
 | k+1,i,h,tk,acc,hk,ha,hm,kp,hi,hd=>by
  have iA:i<kvs.length:=by omega
  have dl:d<h.objs.size:=by obtain⟨o,es,ep,ho,r⟩:=hd;exact Jf ho
  refine codeAny_builtin bO ?_
  rw[Around.under_plainId aR _]
  unfold Builtin.«dict.update.loop»
  refine wpAny_bind (Fd.item i { s with heap:=h,toks:=tk } _ _ (by omega) hi dl fun v h1 tk1 k1 oX p1 r1 =>?_)
  obtain⟨tp,o,m,ku,ev,Hj,hc,xr,hkey⟩:=hp i _ _ _ p1 (Jc iA)
  subst ev
  have HC:h1.DictOf knd d acc:=by
   obtain⟨o,es,ep,ho,r⟩:=hd
   exact⟨o,es,ep,k1 _ _ Fd.sfp ho,r⟩
  have hT:Shared.TypeIs { s with heap:=h1,toks:=tk1 } (.ref tp) "tuple":=⟨o,Hj,hc⟩
  refine wpAny_bind (wpAny_holding ?_)
  refine wpAny_bind (wpAny_tryCatch ?_)
  unfold Builtin.Dict.pairItems
  refine wpAny_bind (wpAny_typeOf hT ?_)
  rw[if_pos (by decide)]
  refine wpAny_bind (wpAny_seqItems (s:={ s with heap:=h1,toks:=tk1 }) Hj xr (wpAny_pure ?_))
  refine wpAny_holding (wpAny_dictSet_pairs (s:={ s with heap:=h1,toks:=tk1 }) hkey HC (fun h2 JN sb2 =>?_) (Ji (show acc.length<=100000 by omega) (by decide)))
  refine wpAny_pure ⟨plainId_quiet aR _,?_⟩
  have Tf:Keeps h1 h2 (· = d):=fun b o nb x=>sb2.extBut b o nb x
  refine tW Fd hn hz hp fin k (i+1) h2 _ (stored acc kvs[i].1 kvs[i].2) (by omega) ?_ ?_ (fun b o nb x=>Tf b o (fun z=>nb (.inr z)) (k1 b o (fun z=>nb (.inl z)) (kp b o nb x))) (Fd.keepS _ _ _ oX Tf) JN
  ·refine Ji ?_ (Wb ha)
   unfold stored
   split
   ·rw[Jd];exact Yt _
   ·rw[Jw];exact Je _
  ·rw[<-hm,List.drop_eq_getElem_cons iA]
   rfl
theorem BN {s:Shared}{Q:Value->Shared->Prop}{kvs:List (K×Value)}{oz:Obj}{fs:Array Value}(hh:A.handled=none)(hT:T = "zip")(ho:s.heap.get? it=some oz)(hc:oz.cls = .type "zip")(nQ:oz.dict=none)(hd:oz.data = .fields fs)
  (Fd:sZ prog w A.in1.in1 it s.heap.objs.size T fp n P R St) (hn:n=kvs.length) (hz:kvs.length<=100000) (hp:∀(j:Nat) v kv h,P j v h->kvs[j]? = some kv->jv knd h v kv) (jZ:∀h',(∀b o,s.heap.get? b=some o->h'.get? b=some o)->St 0 h')
  (fin:∀h tk,Keeps s.heap h fp->h.DictOf knd s.heap.objs.size (merged [] kvs)->Q (.ref s.heap.objs.size) { s with heap:=h,toks:=tk }) :
  wpAny (model prog w) A (call (.type "dict") [.ref it]) Q E s:=by
 refine callType_codes (Q₁:=fun obj s₁=>obj = .ref s.heap.objs.size/\s₁={ s with heap:=s.heap.push { cls := .type "dict",data := .dict #[] } }) F.kt_called_dict (F.kt_typeCall_dict_1 _) F.entry_dict_init (kt_code_dict_new _ ⟨rfl,rfl⟩) ?_
 rintro obj s1 ⟨rfl,rfl⟩
 have new:(s.heap.push { cls := .type "dict",data := .dict #[] }).DictOf knd s.heap.objs.size []:=Heap.DictOf.new s.heap
 have k0:∀b o,s.heap.get? b=some o->(s.heap.push { cls := .type "dict",data := .dict #[] }).get? b=some o:=fun b o x=>Jb _ x
 refine⟨new.typeIs,F.args_dict_init_2 _ _,?_⟩
 unfold Builtin.«dict.__init__» Builtin.Dict.selfAndRest
 refine wpAny_bind (wpAny_bind (wpAny_notOrdered_dict new.typeIs ?_))
 show wpAny _ _ (pure (s.heap.objs.size,[Value.ref it])) _ _ _
 refine wpAny_pure ?_
 show wpAny _ _ (Builtin.Dict.updateFrom "dict.__init__" s.heap.objs.size (.ref it) [] .none) _ _ _
 unfold Builtin.Dict.updateFrom
 have W4:Shared.TypeIs { s with heap:=s.heap.push { cls := .type "dict",data := .dict #[] } } (.ref it) "zip":=⟨oz,k0 _ _ ho,hc⟩
 refine wpAny_bind (wpAny_typeOf W4 ?_)
 rw[if_pos (by decide)]
 refine wpAny_bind (vE (h:=s.heap.push { cls := .type "dict",data := .dict #[] }) (k0 _ _ ho) hc nQ hd hh fun h1 t1 k1 =>?_)
 rw[if_pos (by rfl)]
 have kk:∀b o,s.heap.get? b=some o->h1.get? b=some o:=fun b o x=>k1 b o (k0 b o x)
 have oX:=jZ h1 kk
 have PF:h1.DictOf knd s.heap.objs.size []:=by
  obtain⟨o,es,ep,e,r⟩:=new
  exact⟨o,es,ep,k1 _ _ e,r⟩
 refine wpAny_bind (wpAny_rule (wpAny_bind (Fd.self ⟨h1,s.gens,s.drawn,t1,s.os⟩ _ _ oX ?_)))
 refine wpAny_pure ⟨plainId_quiet aR _,?_⟩
 refine tW (s:=s) (A:=A.in1) (g:=s.heap) Fd hn hz hp (fun h tk k dd=>⟨rfl,fin h tk (fun b o nb x=>k b o (fun z=>z.elim nb fun z=>bV (Jf x) (Je _) z) x) dd⟩) kvs.length 0 _ _ [] (by omega) (Je _) rfl (fun b o nb x=>kk b o x) oX PF
end
section
variable {X:Cx}
theorem KH:∀{ks:List Key} {aq:List Value},Vals (ks.map kV) aq->∀(i:Nat) k u,ks[i]? = some k->aq[i]? = some u->RelV (kV k) u
 | ks,aq,r,i,k,u,h1,h2=>by
  obtain⟨u',h3,r3⟩:=r.get (i:=i) (x:=kV k) (by rw[Jk,h1];rfl)
  rw[h2] at h3;cases h3;exact r3
def S6 (K:Ja)(ta:TA):TE:=fun σ H Q=>ta σ H fun vs H1=>vo fun(l1 l2:Addr) (ks:List Key) (ys:List V)=>vs=[.ref l1,.ref l2]/\bq K H1 l1 (ks.map kV)/\bq K H1 l2 ys/\ks.length=ys.length/\ks.length<=100000 /\
 ∀d H',gY H1 d (.dK (ck [] (ks.zip ys))) H'->Q (.ref d) H'
theorem wU {a b:Expr}{ta:TA}{p p2 pos ky:Pos}(hc:X.calm=true)(HB:Gl X "dict")(IC:X.mg "dict" = none)(LU:Gl X "zip")(Mg:X.mg "zip" = none)(ha:PA X [a,b] ta)
  (Ho:bootBuiltins "dict" = some (.type "dict"):=by first|rfl|decide) (Na:bootBuiltins "zip" = some (.type "zip"):=by first|rfl|decide)
  (CU:starEach [.Call (.Name "zip" p2) [a,b] [] ky] X.env=[(false,eval (.Call (.Name "zip" p2) [a,b] [] ky) X.env)]:=by rfl)
  (hs:starEach [a,b] X.env=[(false,eval a X.env),(false,eval b X.env)]:=by rfl) (yO:starEach [b] X.env=[(false,eval b X.env)]:=by rfl) :
  PE X (.Call (.Name "dict" p) [.Call (.Name "zip" p2) [a,b] [] ky] [] pos) (S6 X.K ta):=by
 intro pins s σ H Q I h
 refine wpAny_Call_Name_kw (dF I HB IC Ho ?_)
 refine PyProof.Rows.callWith_type1 ?_ CU rfl
 rw[CU]
 show wpAny _ _ (spliced ((false,eval (.Call (.Name "zip" p2) [a,b] [] ky) X.env)::[])) _ _ _
 refine Calls.spliced_cons ?_
 refine Call_ (dF I LU Mg Na (PyProof.Rows.callWith_type1 (bz (ha s σ H _ I h) fun us s1 hz_=>ai.el hz_ _ fun vs H1 I1 r1 q1 =>?_) (by rw[hs,yO]) (by rw[yO];rfl)))
 obtain⟨l1,l2,ks,ys,e,q1,q2,el,ez,q⟩:=q1
 subst e
 obtain⟨u,w',rfl,r1,r2⟩:=vals2 r1
 cases r1;cases r2
 obtain⟨its1,rv1,p1,hz1⟩:=I1.list q1
 refine ai.el (I1.list q2) _ ?_
 rintro its2 rv2 p2 hz2
 have e1:=rv1.length
 have e2:=rv2.length
 rw[Jd] at e1
 have a1:l1<s1.heap.objs.size:=by obtain⟨_,e,_⟩:=p1.isList;exact Jf e
 have a2:l2<s1.heap.objs.size:=by obtain⟨_,e,_⟩:=p2.isList;exact Jf e
 refine call_zip_2 p1.isList p2.isList fun h' hz nq vj hi1 hi2 hsz hk =>?_
 refine Calls.spliced_nil ?_
 have qr:s1.heap.objs.size<=h'.objs.size:=by rw[hsz];exact Uq _ _
 have iz:∀n,n<5->s1.heap.objs.size+n<h'.objs.size:=fun n hn=>by rw[hsz];exact Nat.add_lt_add_left hn _
 have Vb:KV (ks.zip ys) (ks.zip its2):=by
  clear q q1 p1 p2 a1 a2 hi1 hi2 hk hz nq vj
  have:∀{ks:List Key} {ys:List V} {aq:List Value},Vals ys aq->ks.length=ys.length->KV (ks.zip ys) (ks.zip aq):=by
   intro ks
   induction ks with
   | nil=>intro ys aq r e;exact .nil
   | cons k ks ih=>
    intro ys aq r e
    cases ys with
    | nil=>cases e
    | cons y ys=>
     obtain⟨v,r',rfl,rv1,rv2⟩:=r.hd
     exact .cons ⟨rfl,rv1⟩ (ih rv2 (by simpa using e))
  exact this rv2 el
 have zl:(ks.zip its2).length=ks.length:=by rw[U8];omega
 refine BN (s:={ s1 with heap:=h' }) (knd:=br X.prog X.w) (kvs:=ks.zip its2) (P:=sj h'.objs.size its1.toArray its2.toArray) (I1.ok.hd hc) rfl hz rfl rfl rfl
  (u0 (I.ok.hd hc) (zipApart_new a1 a2) (iz 4 (by decide)) (iz 2 (by decide)) (iz 3 (by decide)) (iz 0 (by decide)) (iz 1 (by decide)) (Jn a1 qr) (Jn a2 qr)) (by simp;omega) (by omega) (fun j v kv h hP hkv =>?_) (fun h2 k2=>⟨k2 _ _ nq,⟨_,_,k2 _ _ vj⟩,hi1.at fun o e=>k2 _ _ e,hi2.at fun o e=>k2 _ _ e,(p1.isList.at fun o e=>hk _ o e).at fun o e=>k2 _ o e,(p2.isList.at fun o e=>hk _ o e).at fun o e=>k2 _ o e,.inl (k2 _ _ hz)⟩) fun h2 tk k2 dd =>?_
 ·obtain⟨a,x,y,rfl,_,gx,gy,pr⟩:=hP
  have z:=(Yc (z:=kv)).mp hkv
  have gy:its2[j]? = some y:=by simpa using gy
  have gx:its1[j]? = some x:=by simpa using gx
  have ey:y=kv.2:=Option.some.inj (gy.symm.trans z.2)
  subst ey
  exact⟨a,_,_,x,rfl,pr,rfl,rfl,pO (KH rv1 j kv.1 x z.1 gx)⟩
 ·have kk:∀b o,s1.heap.get? b=some o->h2.get? b=some o:=fun b o e=>by
   have hb:=Jf e
   have gt:∀n,b≠s1.heap.objs.size+n:=fun n=>Jl (Jn hb (Uq _ _))
   exact k2 b o (fun z=>z.elim (gt 4) fun z=>z.elim (gt 3) fun z=>z.elim (gt 0) (gt 1)) (hk b o e)
  have ml:=cN (ks.zip ys) []
  have big:=I1.big
  have TY:(ks.zip ys).length=ks.length:=by rw[U8];omega
  refine⟨.ref h'.objs.size,_,I1.laid (a:=h'.objs.size) (o := .dK (ck [] (ks.zip ys))) (t':=tk) kk qr ⟨Ji (show _<=100000 by simp at ml;omega) (by decide),?_,_,KV.merge Vb .nil,dd⟩,rfl,q _ _ ⟨I1.bw.fresh qr,rfl⟩⟩
  exact beq_eq_false_iff_ne.mpr (Uh (Jn big qr))
end
abbrev lP (h:Heap)(it:Addr)(x:Str)(t:Tok)(i:Nat):Prop:=h.IsStrIter it "str_ascii_iterator" x t i
section
variable {prog:Program}{w:World}{A:Around}{E:Value->Shared->Prop}{s:Shared}{z TI TO i1 i2 l a:Addr}{f:Bool}{oa:Obj}{x:Str}{t:Tok}{i c:Nat}{ys:Array Value}
theorem y9 {y:Value}{Q:Option Value->Shared->Prop}(D:ZipApart z TI TO i1 i2 l l)(hz:IsZip s.heap z TI TO .none)(nq:IsPair s.heap TI (.ref i1) (.ref i2))(vj:∃a b,IsPair s.heap TO a b)
  (h1:lP s.heap i1 x t i) (h2:s.heap.IsListIter i2 l i) (hl:s.heap.IsList l ys) (hx:x.cps[i]? = some c) (hy:ys[i]? = some y)
  (q:∀h' tk tk',IsZip h' z TI TO (rawInt s.heap.objs.size)->(∃a b,IsPair h' TO a b)->lP h' i1 x t (i+1)->h'.IsListIter i2 l (i+1)->IsPair h' s.heap.objs.size (.str ⟨#[c]⟩ tk) y->Keeps s.heap h' (lO z TO i1 i2)->Q (some (.ref s.heap.objs.size)) { s with heap:=h',toks:=tk' }) :
  wpAny (model prog w) A (pyNext (.ref z)) Q E s:=by
 obtain⟨a,b,vj⟩:=vj
 have hT:s.TypeIs (.ref z) "zip":=⟨_,hz,rfl⟩
 unfold pyNext
 refine wpAny_bind (wpAny_attempt (wpAny_callSpecial?_slot (name:=Str.ofString "__next__") hT F.slot_zip_next (wpAny_call_entry F.slot_zip_next hT F.entry_zip_next ?_ (F.args_zip_next_1 _))))
 change wpAny _ _ (Bind.bind (field (.ref z) 2) _) _ _ _
 refine wpAny_bind (wpAny_field hz rfl (x := .bool false) rfl ?_)
 change wpAny _ _ (Bind.bind (field (.ref z) 3) _) _ _ _
 refine wpAny_bind (wpAny_field hz rfl (x := .ref TI) rfl (wpAny_bind (wpAny_seqItems nq rfl ?_)))
 change wpAny _ _ (Bind.bind (Builtin.SmallTypes.ownedTupleIsFree (.ref z)) _) _ _ _
 refine wpAny_bind ?_
 unfold Builtin.SmallTypes.ownedTupleIsFree
 refine wpAny_bind (wpAny_field hz rfl (x := .none) rfl (wpAny_pure ?_))
 simp -iota only [if_true]
 refine wpAny_bind (wpAny_rule (wpAny_bind (wpAny_field hz rfl (x := .ref TO) rfl (wpAny_bind (wpAny_setField_rec hz (by simp) fun g1 z1 e1=>wpAny_bind ?_)))))
 simp -iota only [List.zipIdx_cons,List.zipIdx_nil,Yp,Wd]
 refine wpAny_bind (wpAny_bind (wpAny_onRaise ?_))
 change wpAny _ _ (Bind.bind (Builtin.SmallTypes.nextOf (.ref i1)) _) _ _ _
 refine wpAny_bind (wpAny_nextOf_ascii_item (s:={ s with heap:=g1 }) (cw h1 fun o e=>e1.extBut _ _ D.i1z e) hx fun g2 it1 e2=>wpAny_pure ?_)
 have to2:IsPair g2 TO a b:=e2.extBut _ _ D.TOi1 (e1.extBut _ _ D.TOz vj)
 refine wpAny_bind (wpAny_seqItems to2 rfl (wpAny_bind (wpAny_updateSeq_pair to2 fun g3 to3 e3=>wpAny_bind (wpAny_letGo (wpAny_pure ?_)))))
 have to3:IsPair g3 TO (.str ⟨#[c]⟩ s.toks) b:=to3
 have zY:Keeps s.heap g3 (fun c=>c=z∨c=i1∨c=TO):=fun c o nc e=>e3.extBut _ _ (fun q=>nc (.inr (.inr q))) (e2.extBut _ _ (fun q=>nc (.inr (.inl q))) (e1.extBut _ _ (fun q=>nc (.inl q)) e))
 refine wpAny_bind (wpAny_bind (wpAny_onRaise ?_))
 change wpAny _ _ (Bind.bind (Builtin.SmallTypes.nextOf (.ref i2)) _) _ _ _
 refine wpAny_bind (wpAny_nextOf_list_item (h2.at fun o e=>zY _ _ (fun q=>q.elim D.i2z fun q=>q.elim D.i12.symm D.TOi2.symm) e) (hl.at fun o e=>zY _ _ (fun q=>q.elim D.l2z fun q=>q.elim D.l2i1 D.l2TO) e) hy fun g4 it2 e4=>wpAny_pure ?_)
 have NM:IsPair g4 TO (.str ⟨#[c]⟩ s.toks) b:=e4.extBut _ _ D.TOi2 to3
 refine wpAny_bind (wpAny_seqItems NM rfl (wpAny_bind (wpAny_updateSeq_pair NM fun g5 Fy e5=>wpAny_bind (wpAny_letGo (wpAny_pure (wpAny_pure ?_))))))
 have Fy:IsPair g5 TO (.str ⟨#[c]⟩ s.toks) y:=Fy
 refine wpAny_bind (wpAny_seqItems Fy rfl (wpAny_bind (wpAny_newTuple ?_)))
 have hsz:g5.objs.size=s.heap.objs.size:=by rw[e5.1,e4.1,e3.1,e2.1,e1.1]
 have z5:IsZip g5 z TI TO .ellipsis:=e5.extBut _ _ D.TOz.symm (e4.extBut _ _ D.i2z.symm (e3.extBut _ _ D.TOz.symm (e2.extBut _ _ D.i1z.symm z1)))
 have k5:Keeps s.heap g5 (lO z TO i1 i2):=fun c o nc e=>e5.extBut _ _ (fun q=>nc (.inr (.inl q))) (e4.extBut _ _ (fun q=>nc (.inr (.inr (.inr q)))) (zY c o (fun q=>q.elim (fun q=>nc (.inl q)) fun q=>q.elim (fun q=>nc (.inr (.inr (.inl q)))) fun q=>nc (.inr (.inl q))) e))
 have HS:lP g5 i1 x t (i+1):=cw it1 fun o e=>e5.extBut _ _ D.TOi1.symm (e4.extBut _ _ D.i12 (e3.extBut _ _ D.TOi1.symm e))
 have Kv:g5.IsListIter i2 l (i+1):=it2.at fun o e=>e5.extBut _ _ D.TOi2.symm e
 have MC:z<g5.objs.size:=Jf z5
 change wpAny _ _ (Bind.bind (Builtin.SmallTypes.ownedTupleHandOut (.ref z) (.ref g5.objs.size)) _) _ _ _
 refine wpAny_bind ?_
 unfold Builtin.SmallTypes.ownedTupleHandOut
 have z6:IsZip (g5.push { cls := .type "tuple",data := .seq #[.str ⟨#[c]⟩ s.toks,y] }) z TI TO .ellipsis:=Jb _ z5
 refine wpAny_bind (wpAny_setField_rec z6 (by simp) fun g7 z7 e7 =>?_)
 have z7:IsZip g7 z TI TO (rawInt g5.objs.size):=z7
 refine wpAny_setField_rec z7 (by simp) fun g8 z8 e8=>wpAny_pure ⟨_,rfl,wpAny_pure ?_⟩
 have up:∀c o,c≠z->g5.get? c=some o->g8.get? c=some o:=fun c o c1 e=>e8.extBut _ _ c1 (e7.extBut _ _ c1 (Jb _ e))
 have tp:IsPair g8 g5.objs.size (.str ⟨#[c]⟩ s.toks) y:=e8.extBut _ _ (Uh MC) (e7.extBut _ _ (Uh MC) (Jj _ rfl))
 have z8:IsZip g8 z TI TO (rawInt g5.objs.size):=z8
 show Q (some (.ref g5.objs.size)) _
 rw[hsz] at z8 tp ⊢
 exact q g8 s.toks (s.toks+1) z8 ⟨_,_,up _ _ D.TOz Fy⟩ (cw HS fun o e=>up _ o D.i1z e) (Kv.at fun o e=>up _ o D.i2z e) tp fun c o nc e=>up c o (fun q=>nc (.inl q)) (k5 c o nc e)
theorem DW {y:Value}{Q:Option Value->Shared->Prop}(D:ZipApart z TI TO i1 i2 l l)(hz:fJ s.heap z TI TO a f)(ha:s.heap.get? a=some oa)(nq:IsPair s.heap TI (.ref i1) (.ref i2))
  (h1:lP s.heap i1 x t i) (h2:s.heap.IsListIter i2 l i) (hl:s.heap.IsList l ys) (hx:x.cps[i]? = some c) (hy:ys[i]? = some y)
  (q:∀h' tk tk',fJ h' z TI TO a true->lP h' i1 x t (i+1)->h'.IsListIter i2 l (i+1)->IsPair h' s.heap.objs.size (.str ⟨#[c]⟩ tk) y->Keeps s.heap h' (fun b=>b=z∨b=i1∨b=i2)->Q (some (.ref s.heap.objs.size)) { s with heap:=h',toks:=tk' }) :
  wpAny (model prog w) A (pyNext (.ref z)) Q E s:=by
 have hT:s.TypeIs (.ref z) "zip":=⟨_,hz,rfl⟩
 unfold pyNext
 refine wpAny_bind (wpAny_attempt (wpAny_callSpecial?_slot (name:=Str.ofString "__next__") hT F.slot_zip_next (wpAny_call_entry F.slot_zip_next hT F.entry_zip_next ?_ (F.args_zip_next_1 _))))
 change wpAny _ _ (Bind.bind (field (.ref z) 2) _) _ _ _
 refine wpAny_bind (wpAny_field hz rfl (x := .bool false) rfl ?_)
 change wpAny _ _ (Bind.bind (field (.ref z) 3) _) _ _ _
 refine wpAny_bind (wpAny_field hz rfl (x := .ref TI) rfl (wpAny_bind (wpAny_seqItems nq rfl ?_)))
 change wpAny _ _ (Bind.bind (Builtin.SmallTypes.ownedTupleIsFree (.ref z)) _) _ _ _
 refine wpAny_bind (ko hz ha fun h0 z0 k0 =>?_)
 simp -iota only [Ut,if_false,<-Array.forIn_toList,Yp,Wd]
 refine wpAny_bind (wpAny_bind (wpAny_bind (wpAny_holding (wpAny_bind (wpAny_nextOf_ascii_item (s:={ s with heap:=h0 }) (cw h1 fun o e=>k0.extBut _ _ D.i1z e) hx fun h4 e4 k4=>wpAny_pure (wpAny_pure ?_))))))
 refine wpAny_bind (wpAny_bind (wpAny_holding (wpAny_bind (wpAny_nextOf_list_item ((h2.extBut k0.extBut D.i2z).extBut k4.extBut D.i12.symm) ((hl.extBut k0.extBut D.l2z).extBut k4.extBut D.l2i1) hy fun h5 e5 k5=>wpAny_pure (wpAny_pure (wpAny_pure ?_))))))
 refine wpAny_bind (wpAny_newTuple (hsz:=by show 2<=sizeLine;decide) (wpAny_pure ⟨_,rfl,wpAny_pure ?_⟩))
 have hsz:h5.objs.size=s.heap.objs.size:=by rw[k5.1,k4.1,k0.1]
 show Q (some (.ref h5.objs.size)) _
 rw[hsz]
 refine q (h5.push { cls := .type "tuple",data := .seq #[.str ⟨#[c]⟩ s.toks,y] }) s.toks (s.toks+1) (Jb _ (k5.extBut _ _ D.i2z.symm (k4.extBut _ _ D.i1z.symm z0))) (cw e4 fun o e=>Jb _ (k5.extBut _ _ D.i12 e)) (e5.at fun o e=>Jb _ e) (by rw[<-hsz];exact Jj _ rfl) fun b o nb e =>?_
 exact Jb _ (k5.extBut _ _ (fun z=>nb (.inr (.inr z))) (k4.extBut _ _ (fun z=>nb (.inr (.inl z))) (k0.extBut _ _ (fun z=>nb (.inl z)) e)))
theorem C1 {Q:Option Value->Shared->Prop}(hh:A.handled=none)(D:ZipApart z TI TO i1 i2 l l)(hz:fJ s.heap z TI TO a f)(ha:s.heap.get? a=some oa)(nq:IsPair s.heap TI (.ref i1) (.ref i2))
  (h1:lP s.heap i1 x t i) (hx:x.cps[i]? = none)
  (q:∀h',Keeps s.heap h' (fun b=>b=z∨b=i1∨b=i2)->Q none { s with heap:=h' }) :
  wpAny (model prog w) A (pyNext (.ref z)) Q E s:=by
 have hT:s.TypeIs (.ref z) "zip":=⟨_,hz,rfl⟩
 unfold pyNext
 refine wpAny_bind (wpAny_attempt (wpAny_callSpecial?_slot (name:=Str.ofString "__next__") hT F.slot_zip_next (wpAny_call_entry F.slot_zip_next hT F.entry_zip_next ?_ (F.args_zip_next_1 _))))
 change wpAny _ _ (Bind.bind (field (.ref z) 2) _) _ _ _
 refine wpAny_bind (wpAny_field hz rfl (x := .bool false) rfl ?_)
 change wpAny _ _ (Bind.bind (field (.ref z) 3) _) _ _ _
 refine wpAny_bind (wpAny_field hz rfl (x := .ref TI) rfl (wpAny_bind (wpAny_seqItems nq rfl ?_)))
 change wpAny _ _ (Bind.bind (Builtin.SmallTypes.ownedTupleIsFree (.ref z)) _) _ _ _
 refine wpAny_bind (ko hz ha fun h0 z0 k0 =>?_)
 simp -iota only [Ut,if_false,<-Array.forIn_toList,Yp,Wd]
 refine wpAny_bind (wpAny_bind (wpAny_bind (wpAny_holding ?_)))
 refine wpAny_bind (wpAny_nextOf_ascii_end (s:={ s with heap:=h0 }) hh (cw h1 fun o e=>k0.extBut _ _ D.i1z e) hx fun h4 e k4 oe =>?_)
 refine ai.el (oe) _ ?_
 rintro o ho hc
 exact wpAny_bind (wpAny_isInstance (T := "StopIteration") (b:=true) ⟨o,ho,hc⟩ isSubtype_stop (wpAny_pure (q h4 fun b o nb x=>k4 _ _ (fun z=>nb (.inr (.inl z))) (k0.extBut _ _ (fun z=>nb (.inl z)) x))))
end
noncomputable abbrev SV (h:Heap)(x:Str)(t:Tok)(b:Addr):Heap:=((((h.push { cls := .type "str_ascii_iterator",data := .fields #[.str x t,.int 0 0] }).push { cls := .type "list_iterator",data := .fields #[.ref b,.int 0 0] }).push { cls := .type "tuple",data := .seq #[.ref h.objs.size,.ref (h.objs.size+1)] }).push { cls := .type "tuple",data := .seq #[.none,.none] }).push
 { cls := .type "zip",data := .fields #[.none,.bool false,.bool false,.ref (h.objs.size+2),.ref (h.objs.size+3)] }
theorem EU (x:Str)(t:Tok)(b:Addr)(ys:Array Value):
  Meets (Builtin.«zip.__new__» ⟨[.type "zip",.str x t,.ref b],[]⟩) (fun _ R s=>x.cps.all (· < 128)=true/\s.heap.IsList b ys/\R (.ok (.ret (.ref (s.heap.objs.size+4)))) { s with heap:=SV s.heap x t b }):=
 .of_wp fun prog w A R s h=>by
  obtain⟨hp,g,d,tk,os⟩:=s;obtain⟨hx,uv,h⟩:=h
  have dH:=sub_zip
  have Si:Heap.IsList (Shared.heap ⟨hp.push { cls := .type "str_ascii_iterator",data := .fields #[.str x t,.int 0 0] },g,d,tk,os⟩) b ys:=uv.at fun o e=>Jb _ e
  have s1:(hp.push { cls := .type "str_ascii_iterator",data := .fields #[.str x t,.int 0 0] }).objs.size=hp.objs.size+1:=Ug ..
  wp_walk using wpAny_pyIter_ascii hx,wpAny_pyIter_list Si
  refine⟨_,rfl,?_⟩
  simp -iota only [Ug] at h ⊢
  exact h
section
variable {prog:Program}{w:World}{A:Around}{E:Value->Shared->Prop}{s:Shared}
theorem DD {x:Str}{t:Tok}{b:Addr}{ys:Array Value}{Q:Value->Shared->Prop}(h1:x.cps.all (· < 128)=true)(h2:s.heap.IsList b ys)
  (q:∀h',IsZip h' (s.heap.objs.size+4) (s.heap.objs.size+2) (s.heap.objs.size+3) .none->IsPair h' (s.heap.objs.size+2) (.ref s.heap.objs.size) (.ref (s.heap.objs.size+1))->IsPair h' (s.heap.objs.size+3) .none .none->lP h' s.heap.objs.size x t 0->h'.IsListIter (s.heap.objs.size+1) b 0->h'.objs.size=s.heap.objs.size+5->(∀c o,s.heap.get? c=some o->h'.get? c=some o)->Q (.ref (s.heap.objs.size+4)) { s with heap:=h' }) :
  wpAny (model prog w) A (call (.type "zip") [.str x t,.ref b]) Q E s:=by
 refine callType_new F.called_zip (by decide) (F.typeCall_zip_2 _ _) (F.newCall_zip_2 _ _) (fun obj=>F.args_object_init_3 obj _ _) F.entry_zip_new (EU x t b ys) ⟨h1,h2,?_⟩
 have up:∀{h:Heap} {c:Addr} {o:Obj} (p:Obj),h.get? c=some o->(h.push p).get? c=some o:=fun p e=>Jb p e
 have last:∀{h:Heap} {n:Nat} {p:Obj},h.objs.size=n->p.isFreed=false->(h.push p).get? n=some p:=fun e hf=>by rw[<-e];exact Jj _ hf
 have z1:=Ug s.heap { cls := .type "str_ascii_iterator",data := .fields #[.str x t,.int 0 0] }
 have z2:=Ug (s.heap.push { cls := .type "str_ascii_iterator",data := .fields #[.str x t,.int 0 0] }) { cls := .type "list_iterator",data := .fields #[.ref b,.int 0 0] }
 rw[z1] at z2
 have z3:=Ug ((s.heap.push { cls := .type "str_ascii_iterator",data := .fields #[.str x t,.int 0 0] }).push { cls := .type "list_iterator",data := .fields #[.ref b,.int 0 0] }) { cls := .type "tuple",data := .seq #[.ref s.heap.objs.size,.ref (s.heap.objs.size+1)] }
 rw[z2] at z3
 have z4:=Ug (((s.heap.push { cls := .type "str_ascii_iterator",data := .fields #[.str x t,.int 0 0] }).push { cls := .type "list_iterator",data := .fields #[.ref b,.int 0 0] }).push { cls := .type "tuple",data := .seq #[.ref s.heap.objs.size,.ref (s.heap.objs.size+1)] }) { cls := .type "tuple",data := .seq #[.none,.none] }
 rw[z3] at z4
 have zz:(SV s.heap x t b).get? (s.heap.objs.size+4)=some _:=last z4 rfl
 refine⟨⟨_,zz,rfl⟩,q _ zz (up _ (up _ (last z2 rfl))) (up _ (last z3 rfl)) ⟨_,up _ (up _ (up _ (up _ (last rfl rfl)))),rfl,rfl⟩ ⟨_,up _ (up _ (up _ (last z1 rfl))),rfl,rfl⟩ ?_ fun c o e=>up _ (up _ (up _ (up _ (up _ e))))⟩
 show(Heap.push _ _).objs.size=_
 rw[Ug,z4]
end
structure yT (z TI TO i1 i2 l S:Addr)(x:Str)(t:Tok)(ys:Array Value)(i:Nat)(h:Heap):Prop where
 ti:IsPair h TI (.ref i1) (.ref i2)
 to:∃a b,IsPair h TO a b
 it1:lP h i1 x t i
 it2:h.IsListIter i2 l i
 a2:h.IsList l ys
 zp:IsZip h z TI TO .none/\i=0∨0<i/\∃a f oa,fJ h z TI TO a f/\h.get? a=some oa/\S<a
abbrev C4 (S:Addr)(x:Str)(ys:Array Value)(j:Nat)(v:Value)(h:Heap):Prop:=vo fun a c tk y=>v = .ref a/\S<a/\x.cps[j]? = some c/\ys[j]? = some y/\IsPair h a (.str ⟨#[c]⟩ tk) y
theorem Ck {prog:Program}{w:World}{A:Around}{z TI TO i1 i2 l S:Addr}{x:Str}{t:Tok}{ys:Array Value}(hh:A.handled=none)(hn:0<x.cps.size)(hy:x.cps.size<=ys.size)(D:ZipApart z TI TO i1 i2 l l)(b1:z<S)(b2:TI<S)(b3:TO<S)(b4:i1<S)(b5:i2<S)(b6:l<S):
  sZ prog w A z S "zip" (lO z TO i1 i2) x.cps.size (C4 S x ys) hX (yT z TI TO i1 i2 l S x t ys) where
 sfp:=fun q=>by
  rcases q with q|q|q|q<;>(rw[q] at b1 b3 b4 b5;first|exact absurd b1 (Uc _)|exact absurd b3 (Uc _)|exact absurd b4 (Uc _)|exact absurd b5 (Uc _))
 ne:=Jl b1
 ty:=fun i h st=>by
  rcases st.zp with ⟨q,_⟩|⟨_,a,f,oa,q,_⟩
  ·exact⟨_,q,rfl⟩
  ·exact⟨_,q,rfl⟩
 self:=fun s Q E st q=>by
  rcases st.zp with ⟨r,_⟩|⟨r,_⟩
  ·exact wpAny_pyIter_zip r q
  ·exact absurd r (Uc _)
 item:=fun i s Q E hi st hS q=>by
  obtain⟨ti,to,it1,it2,a2,zp⟩:=st
  have hx:x.cps[i]? = some (x.cps[i]'hi):=Ud hi
  have hy:ys[i]? = some (ys[i]'(by omega)):=Ud (by omega)
  have old:∀j u,C4 S x ys j u s.heap->hX u (.ref s.heap.objs.size):=fun j u hz_=>ai.el hz_ _ fun a c tk y e _ _ _ p=>⟨a,_,e,rfl,Jf p⟩
  rcases zp with ⟨r,_⟩|⟨hi0,c,f,oc,r,oc',hc⟩
  ·refine y9 D r ti to it1 it2 a2 hx hy fun h' tk tk' r1 r2 r3 r4 r5 r7 =>?_
   have n2:∀{b:Addr},b≠z->b≠TO->b≠i1->b≠i2->¬lO z TO i1 i2 b:=fun c1 c2 c3 c4 q=>q.elim c1 fun q=>q.elim c2 fun q=>q.elim c3 c4
   refine q _ h' tk' r7 ⟨r7 _ _ (n2 D.TIz D.TITO D.TIi1 D.TIi2) ti,r2,r3,r4,a2.at fun o e=>r7 _ _ (n2 D.l2z D.l2TO D.l2i1 D.l2i2) e,.inr ⟨Nat.succ_pos _,_,_,_,r1,r5,hS⟩⟩ ⟨_,_,_,_,rfl,hS,hx,hy,r5⟩ old
  ·have ne:∀{b:Addr},b<S->c≠b:=fun hb=>Uh (Nat.lt_trans hb hc)
   refine DW D r oc' ti it1 it2 a2 hx hy fun h' tk tk' r1 r2 r3 r4 r5 =>?_
   have kp:Keeps s.heap h' (lO z TO i1 i2):=fun b o nb e=>r5 b o (fun z=>z.elim (fun z=>nb (.inl z)) fun z=>nb (.inr (.inr z))) e
   obtain⟨ta,tb,to⟩:=to
   refine q _ h' tk' kp ⟨r5 _ _ (fun z=>z.elim D.TIz fun z=>z.elim D.TIi1 D.TIi2) ti,⟨_,_,r5 _ _ (fun z=>z.elim D.TOz fun z=>z.elim D.TOi1 D.TOi2) to⟩,r2,r3,a2.at fun o e=>r5 _ _ (fun z=>z.elim D.l2z fun z=>z.elim D.l2i1 D.l2i2) e,
    .inr ⟨Nat.succ_pos _,_,_,_,r1,r5 _ _ (fun z=>z.elim (ne b1) fun z=>z.elim (ne b4) (ne b5)) oc',hc⟩⟩ ⟨_,_,_,_,rfl,hS,hx,hy,r4⟩ old
 stop:=fun s Q E st hS q=>by
  obtain⟨ti,to,it1,it2,a2,zp⟩:=st
  rcases zp with ⟨_,r⟩|⟨hi0,c,f,oc,r,oc',hc⟩
  ·rw[r] at hn;exact absurd hn (Uc _)
  ·exact C1 hh D r oc' ti it1 (Yl (Je _)) fun h' k=>q h' s.toks fun b o nb e=>k b o (fun z=>z.elim (fun z=>nb (.inl z)) fun z=>nb (.inr (.inr z))) e
 keepS:=fun i h h' st k=>by
  obtain⟨ti,⟨a,b,to⟩,it1,it2,a2,zp⟩:=st
  refine⟨k _ _ (Jl b2) ti,⟨a,b,k _ _ (Jl b3) to⟩,cw it1 fun o e=>k _ o (Jl b4) e,it2.at fun o e=>k _ o (Jl b5) e,a2.at fun o e=>k _ o (Jl b6) e,?_⟩
  rcases zp with ⟨r,r0⟩|⟨hi0,c,f,oc,r,oc',hc⟩
  ·exact .inl ⟨k _ _ (Jl b1) r,r0⟩
  ·exact .inr ⟨hi0,c,f,oc,k _ _ (Jl b1) r,k _ _ (Uh hc) oc',hc⟩
 keepP:=fun j v h h' hz_ k=>ai.el hz_ _ fun a c tk y e ha h1 h2 p=>by
  have ne:∀{b:Addr},b<S->a≠b:=fun hb=>Uh (Nat.lt_trans hb ha)
  exact⟨a,c,tk,y,e,ha,h1,h2,k _ _ (fun z=>z.elim (fun z=>z.elim (ne b1) fun z=>z.elim (ne b3) fun z=>z.elim (ne b4) (ne b5)) (Uh ha)) p⟩
 nolen:=by rw[typeLookup_type,builtinLookup_eq_fast];kernel_rfl
 nohint:=by rw[typeLookup_type,builtinLookup_eq_fast];kernel_rfl
 nl:=by decide
 nt:=by decide
section
variable {X:Cx}
def SO (K:Ja)(ta:TA):TE:=fun σ H Q=>ta σ H fun vs H1=>o7 fun(x:Str) (l2:Addr) (ys:List V)=>vs=[.str x,.ref l2]/\bq K H1 l2 ys/\x.cps.all (· < 128)=true/\0<x.cps.size/\x.cps.size<=ys.length /\
 ∀H' p (as:List Addr),ar H1 H'->H1 p=none->H' p=some (.lst (as.map V.ref))->as.length=x.cps.size ->
  (∀(j:Nat) a c y,as[j]? = some a->x.cps[j]? = some c->ys[j]? = some y->H1 a=none/\H' a=some (.tup [.str ⟨#[c]⟩,y]))->Q (.ref p) H'
theorem va {a b:Expr}{ta:TA}{p p2 pos ky:Pos}(hc:X.calm=true)(HB:Gl X "list")(IC:X.mg "list" = none)(LU:Gl X "zip")(Mg:X.mg "zip" = none)(ha:PA X [a,b] ta)
  (Ho:bootBuiltins "list" = some (.type "list"):=by first|rfl|decide) (Na:bootBuiltins "zip" = some (.type "zip"):=by first|rfl|decide)
  (CU:starEach [.Call (.Name "zip" p2) [a,b] [] ky] X.env=[(false,eval (.Call (.Name "zip" p2) [a,b] [] ky) X.env)]:=by rfl)
  (hs:starEach [a,b] X.env=[(false,eval a X.env),(false,eval b X.env)]:=by rfl) (yO:starEach [b] X.env=[(false,eval b X.env)]:=by rfl) :
  PE X (.Call (.Name "list" p) [.Call (.Name "zip" p2) [a,b] [] ky] [] pos) (SO X.K ta):=by
 intro pins s σ H Q I h
 refine wpAny_Call_Name_kw (dF I HB IC Ho ?_)
 refine PyProof.Rows.callWith_type1 ?_ CU rfl
 rw[CU]
 show wpAny _ _ (spliced ((false,eval (.Call (.Name "zip" p2) [a,b] [] ky) X.env)::[])) _ _ _
 refine Calls.spliced_cons ?_
 refine Call_ (dF I LU Mg Na (PyProof.Rows.callWith_type1 (bz (ha s σ H _ I h) fun us s1 hz_=>ai.el hz_ _ fun vs H1 I1 r1 q1 =>?_) (by rw[hs,yO]) (by rw[yO];rfl)))
 obtain⟨x,l2,ys,e,q2,xa,xp,xy,q⟩:=q1
 subst e
 obtain⟨u,w',rfl,ru,r2⟩:=vals2 r1
 cases r2
 obtain⟨t,rfl⟩:∃t,u = .str x t:=ru
 refine ai.el (I1.list q2) _ ?_
 rintro its2 rv2 p2 hz2
 have e2:=rv2.length
 have a2:l2<s1.heap.objs.size:=by obtain⟨_,e,_⟩:=p2.isList;exact Jf e
 refine DD xa p2.isList fun h' hz nq vj hi1 hi2 hsz hk =>?_
 refine Calls.spliced_nil ?_
 have qr:s1.heap.objs.size<=h'.objs.size:=by rw[hsz];exact Uq _ _
 have iz:∀n,n<5->s1.heap.objs.size+n<h'.objs.size:=fun n hn=>by rw[hsz];exact Nat.add_lt_add_left hn _
 have zs:∀o,yT (s1.heap.objs.size+4) (s1.heap.objs.size+2) (s1.heap.objs.size+3) s1.heap.objs.size (s1.heap.objs.size+1) l2 h'.objs.size x t its2.toArray 0 (h'.push o):=fun o=>
  ⟨Jb _ nq,⟨_,_,Jb _ vj⟩,cw hi1 fun o e=>Jb _ e,hi2.at fun o e=>Jb _ e,(p2.isList.at fun o e=>hk _ o e).push _,.inl ⟨Jb _ hz,rfl⟩⟩
 refine qc (s:={ s1 with heap:=h' }) (Ck (I.ok.hd hc) xp (by simp;omega) (zipApart_new a2 a2) (iz 4 (by decide)) (iz 2 (by decide)) (iz 3 (by decide)) (iz 0 (by decide)) (iz 1 (by decide)) (Jn a2 qr)) (by omega) zs fun h2 tk acc c Hq G =>?_
 obtain⟨hS2,hsz2,hpw,iE⟩:=G
 obtain⟨as,fO⟩:=l9 (l:=acc.toList) fun v hv=>by
  obtain⟨j,hj⟩:=Uv.mp hv
  obtain⟨a,_,_,_,e,_⟩:=iE j v (by simpa using hj)
  exact⟨a,e⟩
 have ij:∀(j:Nat) a,as[j]? = some a->o7 fun c tk y=>h'.objs.size<a/\x.cps[j]? = some c/\its2.toArray[j]? = some y/\IsPair h2 a (.str ⟨#[c]⟩ tk) y:=fun j a h=>by
  obtain⟨a',c,tk,y,e,g⟩:=iE j (.ref a) (by
   have:acc.toList[j]? = some (.ref a):=by rw[fO,Jk,h];rfl
   simpa using this)
  cases e
  exact⟨c,tk,y,g⟩
 have above:∀a∈as,h'.objs.size<a:=fun a ha=>by
  obtain⟨j,hj⟩:=Uv.mp ha
  obtain⟨_,_,_,g,_⟩:=ij j a hj
  exact g
 have old:∀b o,s1.heap.get? b=some o->h2.get? b=some o:=fun b o e=>by
  have hb:=Jf e
  have gt:∀n,b≠s1.heap.objs.size+n:=fun n=>Jl (Jn hb (Uq _ _))
  exact Hq b o (fun z=>z.elim (gt 4) fun z=>z.elim (gt 3) fun z=>z.elim (gt 0) (gt 1)) (hk b o e)
 have I2:Inv X pins σ H1 { s1 with heap:=h2,toks:=tk }:=I1.kept old
 have sY:∀a∈as,s1.heap.objs.size<=a:=fun a ha=>Yh (Uj qr (above a ha))
 have nd:as.Nodup:=by
  rw[fO,List.pairwise_map] at hpw
  exact hpw.imp fun hz_=>ai.el hz_ _ fun a b e1 e2 h=>by cases e1;cases e2;exact Jl h
 have eA:∀a,s1.heap.objs.size<=a->dU X pins H1 a/\X.s₀.heap.objs.size<=a:=fun a ha=>⟨I1.eA ha (I1.bw.fresh ha),Ji I1.sz ha⟩
 have Gz:as.length=x.cps.size:=by
  have z:acc.toList.length=as.length:=by rw[fO,Jd]
  simp at z hsz2
  omega
 let ps:List (List V):=(x.cps.toList.zip ys).map fun q=>[V.str ⟨#[q.1]⟩,q.2]
 have Te:∀(j:Nat) c y,x.cps[j]? = some c->ys[j]? = some y->ps[j]? = some [V.str ⟨#[c]⟩,y]:=fun j c y h1 h2=>by
  show((x.cps.toList.zip ys).map fun q=>[V.str ⟨#[q.1]⟩,q.2])[j]? = _
  rw[Jk,(Yc (z:=(c,y))).mpr ⟨by simpa using h1,h2⟩]
  rfl
 obtain⟨H',I',sm,same,all⟩:=I2.j8 as ps nd (by show _=((x.cps.toList.zip ys).map _).length;rw[Jd,U8];have:=Um (xs:=x.cps);omega) (fun a ha=>eA a (sY a ha)) (fun j a pp h1 h2'=>by
  refine ai.el (ij j a h1) _ ?_
  rintro c tk y _ g1 g2 g3
  refine ai.el (kn rv2 g2) _ ?_
  rintro vy gy ry
  rw[Te j c vy g1 gy] at h2';cases h2'
  exact⟨by show 2<=sizeLine;decide,[.str ⟨#[c]⟩ tk,y],.cons ⟨_,rfl⟩ (.cons ry .nil),⟨_,g3,rfl,rfl,_,rfl⟩⟩)
 have Dl:h'.objs.size∉as:=fun hm=>Uc _ (above _ hm)
 have mx:H1 h'.objs.size=none:=I1.bw.fresh qr
 obtain⟨fS,sS⟩:=eA h'.objs.size qr
 have MX:dU X pins H' h'.objs.size:=⟨by rw[same _ Dl];exact mx,fS.2⟩
 have I3:=I'.adopt (T:=h'.objs.size) (o := .lst (as.map V.ref)) MX sS ⟨by rw[Jd];omega,acc.toList,c,by
  rw[fO]
  clear hS2 fO all same I' sm sY nd Gz Dl above ij
  induction as with
  | nil=>exact .nil
  | cons a r ih=>exact .cons rfl ih,by simpa using hS2⟩
 refine⟨.ref h'.objs.size,_,I3,rfl,q _ _ as (fun b o e =>?_) mx ay Gz fun j a c y h1 h2' h3'=>⟨(eA a (sY a (Jz h1))).1.1,?_⟩⟩
 ·rw[aj (aw e mx)];exact sm b o e
 ·rw[aj (fun(z:a=h'.objs.size)=>Dl (by rw[<-z];exact Jz h1))]
  exact all j a _ h1 (Te j c y h2' h3')
end
end L2
namespace Z
open PySem L2
theorem sizeOk {n:Nat}(h:n<=10000000):n<=sizeLine:=Ji h (by decide)
theorem Bi (l:List Str)(h:decide l.Nodup=true:=by decide +kernel):l.Nodup:=of_decide_eq_true h
theorem Dt (i:Nat):(2:Int)^i+2^i=2^(i+1):=by rw[Int.pow_succ];omega
end Z
namespace L2
set_option genSizeOf false
set_option genInjectivity false
set_option genSizeOf false
set_option genInjectivity false
end L2
namespace Z
open PySem L2
structure u3 (H:Hp)(b c:Addr)(t:Int)(ns:List Int):Prop where
 d:H b=some (.dK [(.inr "cells",.ref c),(.inr "turn",.int t)])
 l:H c=some (.lst (ns.map V.int))
 ne:0<ns.length
 le:ns.length<=64
noncomputable def fY (H:Hp)(b c:Addr):Hp:=fun a=>if a=b∨a=c then none else H a
theorem cJ {H:Hp}{b c a:Addr}(h1:a≠b)(h2:a≠c):fY H b c a=H a:=if_neg (fun z=>z.elim h1 h2)
theorem jq {H:Hp}{b c a:Addr}{o:HO}(h:fY H b c a=some o):H a=some o/\a≠b/\a≠c:=by
 unfold fY at h
 split at h
 ·cases h
 ·rename_i n
  exact⟨h,fun z=>n (.inl z),fun z=>n (.inr z)⟩
theorem Hv {H:Hp}{b c:Addr}:ar (fY H b c) H:=fun a o h=>(jq h).1
theorem u3.bc {H:Hp}{b c:Addr}{t:Int}{ns:List Int}(x:u3 H b c t ns):b≠c:=Hg x.d x.l (by intro z;cases z)
theorem u3.DF {H:Hp}{b c:Addr}{t:Int}{ns:List Int}(x:u3 H b c t ns):dI H b (.str "turn") (some (.int t)):=dI.k (k:=Sum.inr "turn") x.d
theorem u3.kN {H:Hp}{b c:Addr}{t:Int}{ns:List Int}(x:u3 H b c t ns):dI H b (.str "cells") (some (.ref c)):=dI.k (k:=Sum.inr "cells") x.d
theorem u3.BC {H:Hp}{b c:Addr}{t:Int}{ns:List Int}(x:u3 H b c t ns)(t':Int):pj H b (.str "turn") (.int t') (upd H b (.dK [(.inr "cells",.ref c),(.inr "turn",.int t')])):=
 pj.k (k:=Sum.inr "turn") x.d (by show 2<sizeLine;decide)
theorem u3.turned {H:Hp}{b c:Addr}{t:Int}{ns:List Int}(x:u3 H b c t ns)(t':Int):u3 (upd H b (.dK [(.inr "cells",.ref c),(.inr "turn",.int t')])) b c t' ns:=
 ⟨ay,by rw[aj (Ne.symm x.bc)];exact x.l,x.ne,x.le⟩
theorem zX {H:Hp}{b c:Addr}{o:HO}:fY (upd H b o) b c=fY H b c:=by
 funext a;unfold fY;split
 ·rfl
 ·rename_i n;exact aj (fun z=>n (.inl z))
theorem Bb {H:Hp}{b c:Addr}{o:HO}:fY (upd H c o) b c=fY H b c:=by
 funext a;unfold fY;split
 ·rfl
 ·rename_i n;exact aj (fun z=>n (.inr z))
def vW:Sp:=fun vs H Q _=>yf fun(b c:Addr) (t:Int) (ns:List Int) (many:Int)=>vs=[.ref b,.int many]/\u3 H b c t ns/\0<=t/\t<100000000/\0<many/\many<1073741824 /\
 ∀(r:Int) (H':Hp) (EB:List Int),0<=r->r<many->u3 H' b c (t+1) EB->ar (fY H b c) (fY H' b c)->Q (.int r) H'
theorem at_of {ns:List Int}{p:Int}(h0:0<=p)(h1:p<ns.length):∃v,ye (ns.map V.int) p=some (.int v)/\ns[p.toNat]? = some v:=by
 have hk:p.toNat<ns.length:=by omega
 have ek:p=((p.toNat:Nat):Int):=by omega
 have q:ye (ns.map V.int) ((p.toNat:Nat):Int)=some (.int ns[p.toNat]):=kq (by rw[Jk,Jc hk]<;>rfl)
 rw[<-ek] at q
 exact⟨_,q,Jc hk⟩
theorem IL {a j m:Int}(h0:0<m)(h:m<2^64):wQ (a%m) j:=by
 have h1:=Int.emod_nonneg a (b:=m) (by omega)
 have h2:=Int.emod_lt_of_pos a h0
 exact .inl ⟨by omega,by omega⟩
theorem HR {n:Nat}{p:Int}(h0:0<=p)(h1:p<n):Bg n p=some p.toNat:=by unfold Bg;rw[if_pos h0,if_pos h1]
theorem m8 {H H':Hp}{b c:Addr}(h:∀a o,a≠b->a≠c->H a=some o->H' a=some o):ar (fY H b c) (fY H' b c):=fun a o e=>by
 refine ai.el (jq e) _ ?_
 rintro e h1 h2
 rw[cJ h1 h2]
 exact h a o h1 h2 e
end Z
namespace L2
open PySem
def Gm (t:TG):Prop:=∀x σ H (Q Q':St->Hp->Prop),(∀a b,Q a b->Q' a b)->t x σ H Q->t x σ H Q'
def QF (t:zU):Prop:=∀x σ H (Q Q':St->Hp->Prop),(∀a b,Q a b->Q' a b)->t x σ H Q->t x σ H Q'
theorem eN {i:Nat}:Gm (pY i):=fun _ _ _ _ _ h q=>h _ _ q
theorem iR:QF HY:=fun _ _ _ _ _ h q=>⟨q.1,h _ _ q.2⟩
theorem nB {t:TG}{u:zU}(a:Gm t)(b:QF u):QF (DH t u):=fun _ _ _ _ _ h ⟨v,r,e,q⟩=>⟨v,r,e,a _ _ _ _ _ (fun _ _ z=>b _ _ _ _ _ h z) q⟩
theorem aN.get {K:Ja}{H:Hp}:∀{ds:List PyData} {vs:List V} {i:Nat} {d:PyData},aN K H ds vs->ds[i]? = some d->∃v,vs[i]? = some v/\Den K H d v
 | [],_,_,_,_,e=>by simp at e
 | d::ds,vs,i,d',h,e=>by
  unfold aN at h
  obtain⟨v,r,rfl,h1,h2⟩:=h
  cases i with
  | zero=>cases e;exact⟨v,rfl,h1⟩
  | succ i=>exact aN.get (i:=i) h2 e
theorem aN.len {K:Ja}{H:Hp}:∀{ds:List PyData} {vs:List V},aN K H ds vs->vs.length=ds.length
 | [],_,h=>by unfold aN at h;subst h;rfl
 | d::ds,vs,h=>by
  unfold aN at h
  obtain⟨v,r,rfl,h1,h2⟩:=h
  rw[Jt,Jt,aN.len h2]
theorem Den.pair {K:Ja}{H:Hp}{a b:Str}{v:V}(h:Den K H (.tuple [.str a,.str b]) v):∃p,v = .ref p/\bF K H p [.str a,.str b]:=by
 unfold Den at h
 obtain⟨p,vs,e,h1,h2⟩:=h
 unfold aN at h2
 obtain⟨v1,r1,rfl,d1,h2⟩:=h2
 unfold aN at h2
 obtain⟨v2,r2,rfl,d2,h2⟩:=h2
 unfold aN at h2
 subst h2
 unfold Den at d1 d2
 subst d1 d2
 exact⟨p,e,h1⟩
end L2
namespace Z
open PySem L2
noncomputable def aH (bk:List (Str×Str)):PyData := .list (bk.map fun q =>.tuple [.str q.1,.str q.2])
theorem bQ {H:Hp}{p:Addr}(h:H p=none)(o:HO):ar H (upd H p o):=fun b u q=>by rw[aj (aw q h)];exact q
end Z
namespace L2
open PySem
theorem wx {J:It}{g:TG}{tb:TS}{D:Ends}{σ:St}{H:Hp}(N:Nat)(Pv:Nat->St->Hp->Prop)(h0:Pv 0 σ H)
  (go:∀i σ H,i<N->Pv i σ H->J.go i H/\∀x H',J.yld i H x H'->g x σ H' fun σ2 H2=>tb { D with nx:=Pv (i+1),ct:=Pv (i+1),bk:=D.nx } σ2 H2)
  (stop:∀ σ H,Pv N σ H->J.stop N H/\D.nx σ H) :
  ∃W:Nat->Nat->St->Hp->Prop,(∃m,W 0 m σ H)/\∀i m σ H,W i m σ H ->
   (J.stop i H/\D.nx σ H)∨(J.go i H/\∃N:St->Hp->Prop,(∀ σ' H',N σ' H'->∃m',m'<m/\W (i+1) m' σ' H')/\∀x H',J.yld i H x H'->g x σ H' fun σ2 H2=>tb { D with nx:=N,ct:=N,bk:=D.nx } σ2 H2):=by
 refine⟨fun i m σ H=>m=N-i/\i<=N/\Pv i σ H,⟨N,by simp,Uz _,h0⟩,?_⟩
 intro i m σ H
 refine ai.go ?_
 rintro rfl hi p
 by_cases iA:i<N
 ·obtain⟨g1,g2⟩:=go i σ H iA p
  exact .inr ⟨g1,Pv (i+1),fun σ' H' p'=>⟨N-(i+1),by omega,rfl,iA,p'⟩,g2⟩
 ·have e:i=N:=by omega
  subst e
  exact .inl (stop σ H p)
theorem gH {t u:TS}{D:Ends}{σ:St}{H:Hp}(Ex:St->Hp->Prop)(h:∀Nx:St->Hp->Prop,(∀ σ H,Ex σ H->Nx σ H)->t { D with nx:=Nx } σ H)(fin:∀ σ H,Ex σ H->u D σ H):EJ t u D σ H:=h (u D) fin
theorem rG {c:TT}{tb:TS}{D:Ends}{σ:St}{H:Hp}(Pv:Nat->St->Hp->Prop)(h0:∃m,Pv m σ H)
  (hs:∀m σ H,Pv m σ H->c σ H fun b H1=>if b=true then ∃N:St->Hp->Prop,(∀ σ' H',N σ' H'->∃m',m'<m/\Pv m' σ' H')/\tb { D with nx:=N,ct:=N,bk:=D.nx } σ H1 else D.nx σ H1):oM c tb D σ H:=⟨Pv,h0,hs⟩
theorem kZ {te:TE}{g:TG}{u:TS}{D:Ends}{σ:St}{H:Hp}(Ex:V->Hp->Prop)(h:∀Qn:VK,(∀v H,Ex v H->Qn v H)->te σ H Qn)(fin:∀v H,Ex v H->g v σ H (u D)):EJ (E5 te g) u D σ H:=h _ fin
theorem gn {i:Nat}{v:V}{σ:St}{H:Hp}{Q:St->Hp->Prop}(h:Q (σ.set i (some v)) H):pY i v σ H Q:=h
end L2
namespace Z
open PySem L2
def Bx (H:Hp)(b c:Addr)(t:Int):Prop:=∃ns,u3 H b c t ns
structure Step (b c:Addr)(H H':Hp)(t t' N:Int):Prop where
 le:t<=t'
 ub:t'<=t+N
 bx:Bx H' b c t'
 sm:ar (fY H b c) (fY H' b c)
theorem Step.refl {b c:Addr}{H:Hp}{t:Int}(h:Bx H b c t):Step b c H H t t 0:=⟨Int.le_refl _,by omega,h,ar.refl _⟩
theorem Step.trans {b c:Addr}{H H' H2:Hp}{t t' t2 N M:Int}(x:Step b c H H' t t' N)(y:Step b c H' H2 t' t2 M):Step b c H H2 t t2 (N+M):=
 ⟨by have:=x.le;have:=y.le;omega,by have:=x.ub;have:=y.ub;omega,y.bx,x.sm.trans y.sm⟩
theorem Step.more {b c:Addr}{H H':Hp}{t t' N M:Int}(x:Step b c H H' t t' N)(h:N<=M):Step b c H H' t t' M:=⟨x.le,by have:=x.ub;omega,x.bx,x.sm⟩
theorem Bx.aK {H:Hp}{b c p:Addr}{t:Int}(x:Bx H b c t)(h:H p=none):p≠b/\p≠c:=by
 obtain⟨ns,x⟩:=x
 exact⟨fun z=>(by rw[z,x.d] at h;cases h),fun z=>(by rw[z,x.l] at h;cases h)⟩
theorem Bx.upd {H:Hp}{b c p:Addr}{t:Int}{o:HO}(x:Bx H b c t)(h1:p≠b)(h2:p≠c):Bx (upd H p o) b c t:=by
 obtain⟨ns,x⟩:=x
 exact⟨ns,by rw[aj (Ne.symm h1)];exact x.d,by rw[aj (Ne.symm h2)];exact x.l,x.ne,x.le⟩
theorem Step.new {b c p:Addr}{H H':Hp}{t t' N:Int}(x:Step b c H H' t t' N)(h:H' p=none)(o:HO):Step b c H (upd H' p o) t t' N:=
 ⟨x.le,x.ub,x.bx.upd (x.bx.aK h).1 (x.bx.aK h).2,x.sm.trans (m8 fun a u _ _ e=>by rw[aj (aw e h)];exact e)⟩
theorem Step.Wx {b c p:Addr}{H H':Hp}{t t' N:Int}(x:Step b c H H' t t' N)(h:H p=none)(h1:p≠b)(h2:p≠c)(o:HO):Step b c H (upd H' p o) t t' N:=
 ⟨x.le,x.ub,x.bx.upd h1 h2,fun a u e=>by
  have q:=x.sm a u e
  refine ai.el (jq q) _ ?_
  rintro q n1 n2
  rw[cJ n1 n2,aj (fun z =>?_)]
  ·exact q
  ·rw[z] at e
   rw[(jq e).1] at h;cases h⟩
theorem Step.old {b c a:Addr}{H H':Hp}{t t' N:Int}{o:HO}(x:Step b c H H' t t' N)(h:H a=some o)(h1:a≠b)(h2:a≠c):H' a=some o:=
 (jq (x.sm a o (by rw[cJ h1 h2];exact h))).1
theorem Step.fresh {b c a:Addr}{H H':Hp}{t t' N:Int}(x:Step b c H H' t t' N)(hb:Bx H b c t)(h:H' a=none):H a=none:=by
 obtain⟨h1,h2⟩:=x.bx.aK h
 cases e:H a with
 | none=>rfl
 | some o=>rw[x.old e h1 h2] at h;cases h
theorem ar.fY {H H':Hp}{b c:Addr}(s:ar H H'):ar (fY H b c) (fY H' b c):=m8 fun a o _ _ e=>s a o e
theorem Bx.same {H H':Hp}{b c:Addr}{t:Int}(x:Bx H b c t)(s:ar H H'):Bx H' b c t:=by
 obtain⟨ns,x⟩:=x
 exact⟨ns,s _ _ x.d,s _ _ x.l,x.ne,x.le⟩
theorem Step.same {b c:Addr}{H H':Hp}{t:Int}(x:Bx H b c t)(s:ar H H'):Step b c H H' t t 0:=⟨Int.le_refl _,by omega,x.same s,ar.fY s⟩
def A7:Sp:=fun vs H Q _=>vo fun(b c:Addr) (t many:Int)=>vs=[.ref b,.int many]/\Bx H b c t/\0<=t/\t<100000000/\0<many/\many<1073741824 /\
 ∀(r:Int) (H':Hp),0<=r->r<many->Step b c H H' t (t+1) 1->Q (.int r) H'
theorem Go {vs:List V}{H:Hp}{Q:VK}{E:XK}(h:A7 vs H Q E):vW vs H Q E:=by
 obtain⟨b,c,t,many,e,⟨ns,bx⟩,h1,h2,h3,h4,q⟩:=h
 exact⟨b,c,t,ns,many,e,bx,h1,h2,h3,h4,fun r H' EB r0 r1 bx' sm=>q r H' r0 r1 ⟨by omega,by omega,⟨EB,bx'⟩,sm⟩⟩
theorem Iy (vs:List V)(j:Nat):ir vs none (some (j:Int))=vs.take j:=by
 unfold ir
 rw[HT.uH,HT.iW,List.drop_zero,Nat.sub_zero]
 rcases Nat.le_total j vs.length with h|h
 ·rw[Nat.min_eq_left h]
 ·rw[Nat.min_eq_right h,Y3 (Je _),Y3 h]
theorem uW (vs:List V)(j:Nat):ir vs (some (j:Int)) none=vs.drop j:=by
 unfold ir
 rw[HT.uH,HT.iW]
 rcases Nat.le_total j vs.length with h|h
 ·rw[Nat.min_eq_left h,Y3 (by rw[Wa];exact Je _)]
 ·rw[Nat.min_eq_right h,List.drop_of_length_le (Je _),List.drop_of_length_le h];simp
theorem Fn.imp {P:Program}{w:World}{K:Ja}{mg:Str->Option Value}{base:Heap}{k:Nat}{x:Str}{ps:List Str}{sp Hf:Sp}(F:Fn P w K mg base k x ps sp)(h:∀vs H Q E,Hf vs H Q E->sp vs H Q E):Fn P w K mg base k x ps Hf:=by
 refine ai.el (F.ex) _ ?_
 rintro f fd a b c d
 exact⟨f,fd,a.imp h,b,c,d⟩
theorem Step.cX {b c p:Addr}{H H' H2:Hp}{t t' N:Int}{o:HO}(x:Step b c H H' t t' N)(n:gY H' p o H2):Step b c H H2 t t' N:=by rw[n.eq];exact x.new n.nn _
theorem Step.Ds {b c p:Addr}{H H' H2:Hp}{t t' N:Int}{o:HO}(x:Step b c H H' t t' N)(n:Du H' p o H2)(h:H p=none)(h1:p≠b)(h2:p≠c):Step b c H H2 t t' N:=by rw[n.eq];exact x.Wx h h1 h2 _
def tL (x:Str):Prop:=∀c∈x.cps.toList,c=48∨c=49
theorem mB (g:Str):∀(parts:List Str) (acc:Array Nat),(parts.foldl (fun acc p=>acc++g.cps++p.cps) acc).toList=acc.toList++parts.flatMap (fun p=>g.cps.toList++p.cps.toList)
 | [],acc=>by simp
 | p::r,acc=>by rw[List.foldl_cons,mB g r];simp
theorem cT (xs:List Str):(Txt.join "" xs).cps.toList=xs.flatMap (fun p=>p.cps.toList):=by
 cases xs with
 | nil=>rfl
 | cons x r=>
  show((r.foldl (fun acc p=>acc++(Str.ofString "").cps++p.cps) x.cps)).toList=_
  rw[mB]
  have e:(Str.ofString "").cps.toList=[]:=rfl
  simp[e]
theorem aE (x y:Str):(x++y).cps.toList=x.cps.toList++y.cps.toList:=by
 show(x.cps++y.cps).toList=_
 simp
theorem str_len (x:Str):x.length=x.cps.toList.length:=by simp[Str.length]
def Sh (n:Nat)(d:PyData):Prop:=d.canLay0=true/\d.depth<=n
theorem Sh.all {n:Nat}:∀{ds:List PyData},(∀d∈ds,Sh n d)->PyData.canLayAll0 ds=true/\PyData.depthAll ds<=n
 | [],_=>⟨by simp[PyData.canLayAll0],by simp[PyData.depthAll]⟩
 | d::ds,h=>by
  obtain⟨h1,h2⟩:=h d Js
  obtain⟨h3,h4⟩:=Sh.all fun e he=>h e (Jo _ he)
  exact⟨by simp[PyData.canLayAll0,h1,h3],by simp only[PyData.depthAll];omega⟩
theorem Sh.list {n:Nat}{ds:List PyData}(h:∀d∈ds,Sh n d):Sh (n+1) (.list ds):=by
 obtain⟨h1,h2⟩:=Sh.all h
 exact⟨by simpa [PyData.canLay0] using h1,by simp only[PyData.depth];omega⟩
theorem Sh.tuple {n:Nat}{ds:List PyData}(h:∀d∈ds,Sh n d):Sh (n+1) (.tuple ds):=by
 obtain⟨h1,h2⟩:=Sh.all h
 exact⟨by simpa [PyData.canLay0] using h1,by simp only[PyData.depth];omega⟩
theorem Sh.shaped {n:Nat}{d:PyData}(h:Sh n d)(hn:n<=64):SeqAt.shaped d=true:=by
 unfold SeqAt.shaped
 rw[h.1,decide_eq_true (Ji h.2 hn)]
 rfl
theorem Sh.str {n:Nat}{x:Str}(h:PyData.canLay0 (.str x)=true):Sh n (.str x):=⟨h,by simp[PyData.depth]⟩
theorem Sh.int {n:Nat}{i:Int}:Sh n (.int i):=⟨by simp[PyData.canLay0],by simp[PyData.depth]⟩
theorem df {x:Str}(h:∀ch∈x.cps.toList,ch<128):PyData.canLay0 (.str x)=true:=by
 simp only[PyData.canLay0,PyData.strOk]
 rw[<-Array.all_toList,Wc]
 intro ch hc
 have:=h ch hc
 exact decide_eq_true (by omega)
theorem Den.strs {K:Ja}{H:Hp}:∀(xs:List Str),aN K H (xs.map PyData.str) (xs.map V.str)
 | []=>by unfold aN;rfl
 | x::xs=>by
  rw[Jy]
  unfold aN
  exact⟨_,_,rfl,by unfold Den;rfl,Den.strs xs⟩
theorem Den.list {K:Ja}{H:Hp}{l:Addr}{ds:List PyData}{vs:List V}(h:bq K H l vs)(hd:aN K H ds vs):Den K H (.list ds) (.ref l):=by
 unfold Den
 exact⟨l,vs,rfl,h,hd⟩
theorem mM {n:Nat}:∀{ds:List PyData} {d:PyData},PyData.depthAll ds<=n->d∈ds->d.depth<=n
 | [],_,_,h=>nomatch h
 | e::ds,d,hn,h=>by
  simp only[PyData.depthAll] at hn
  rcases Jr.mp h with rfl|h
  ·omega
  ·exact mM (by omega) h
theorem fU {n:Nat}:∀{ds:List PyData} {d:PyData},PyData.weightAll ds<=n->d∈ds->d.weight<=n
 | [],_,_,h=>nomatch h
 | e::ds,d,hn,h=>by
  simp only[PyData.weightAll] at hn
  rcases Jr.mp h with rfl|h
  ·omega
  ·exact fU (by omega) h
theorem gp:∀(ds:List PyData),ds.length<=PyData.weightAll ds
 | []=>by simp
 | e::ds=>by
  simp only[PyData.weightAll,Jt]
  have:=gp ds
  omega
theorem all_true (n:Nat):(Jv n true).all id=true:=by
 induction n with
 | zero=>rfl
 | succ n ih=>rw[Yo,List.all_cons,ih];rfl
theorem aN.of_get {K:Ja}{H:Hp}:∀{ds:List PyData} {vs:List V},ds.length=vs.length->(∀(j:Nat) d v,ds[j]? = some d->vs[j]? = some v->Den K H d v)->aN K H ds vs
 | [],[],_,_=>by unfold aN;rfl
 | [],_::_,h,_=>by simp at h
 | _::_,[],h,_=>by simp at h
 | d::ds,v::vs,h,g=>by
  unfold aN
  exact⟨v,vs,rfl,g 0 d v rfl rfl,aN.of_get (by simpa using h) fun j d' v' h1 h2=>g (j+1) d' v' h1 h2⟩
noncomputable def jb (a b:Str):V:=if Txt.startswith a b=true then .str (Txt.slice a (some (b.length:Nat)) none) else if Txt.startswith b a=true then .str (Txt.slice b (some (a.length:Nat)) none) else .non
def rA:Sp:=fun vs H Q _=>∃a b:Str,vs=[.str a,.str b]/\a.length<=1000000/\b.length<=1000000/\Q (jb a b) H
section
variable {P:Program}{w:World}{K:Ja}{mg:Str->Option Value}{base:Heap}{f:Addr}{fd:FuncData}
theorem Gj:aB ["one", "other"] ["one", "other"] (ak (top lE)):=⟨rfl,rfl,rfl,by decide +kernel,rfl,by decide +kernel,by decide +kernel⟩
theorem Gp (F:bU K "rest_of" "rest_of" (top lE) f fd)(T:Nm mg):bh P w K mg base fw 1 f fd ["one", "other"] rA:=by
 refine F.ok Gj (fun vs H Q E h =>?_) (fun cH A outer s H vs Q E hr h =>?_)
 ·obtain⟨a,b,rfl,_⟩:=h
  rfl
 unfold rA at h
 refine ai.el h _ ?_
 clear h
 rintro a b rfl ha hb q
 refine⟨_,(af (bt (bR (tU K PySem.F.plainAttrs_str PySem.F.slot_str_startswith PySem.F.type_str_startswith jc (pv 0) (aa (pv 1) ae))) (ag (av (dQ (Rb K) (pv 0) (dM (ao (i8 K) rfl T.n_len (by rfl) (aa (pv 1) ae))) gG))) aF)
  (af (bt (bR (tU K PySem.F.plainAttrs_str PySem.F.slot_str_startswith PySem.F.type_str_startswith jc (pv 1) (aa (pv 0) ae))) (ag (av (dQ (Rb K) (pv 1) (dM (ao (i8 K) rfl T.n_len (by rfl) (aa (pv 0) ae))) gG))) aF)
  (ag (av cS)))),?_⟩
 unfold jb at q
 refine⟨_,rfl,rfl,_,rfl,a,b,rfl,rfl,_,rfl,?_⟩
 refine fG (fun c =>?_) (fun c =>?_)
 ·rw[if_pos c] at q
  exact⟨_,rfl,_,rfl,_,_,rfl,⟨sizeOk (Ji hb (by decide)),rfl⟩,_,rfl,.inr ⟨a,rfl,sizeOk (Ji ha (by decide)),q⟩⟩
 ·rw[if_neg c] at q
  refine⟨_,rfl,rfl,_,rfl,b,a,rfl,rfl,_,rfl,?_⟩
  refine fG (fun c =>?_) (fun c =>?_)
  ·rw[if_pos c] at q
   exact⟨_,rfl,_,rfl,_,_,rfl,⟨sizeOk (Ji ha (by decide)),rfl⟩,_,rfl,.inr ⟨b,rfl,sizeOk (Ji hb (by decide)),q⟩⟩
  ·rw[if_neg c] at q
   exact q
end
def Od (bk:List (Str×Str))(j:Nat):Prop:=∀(i' j':Nat) a b,i'<j'->j'<j->bk[i']? = some a->bk[j']? = some b->jb a.2 b.2 = .non
def qM (K:Ja):Sp:=fun vs H Q _=>∃(v:V) (bk:List (Str×Str)),vs=[v]/\Den K H (aH bk) v/\bk.length<=1000/\(∀q∈bk,q.2.length<=200000) /\
 (Od bk bk.length->∀H',ar H H'->Q .non H') /\
 ∀(i j:Nat) a b,bk[i]? = some a->bk[j]? = some b->i<j->Od bk j->(∀(i':Nat) a',i'<i->bk[i']? = some a'->jb a'.2 b.2 = .non)->jb a.2 b.2 ≠ .non ->
  ∀p H',ar H H'->H p=none->H' p=some (.tup [.str a.1,.str b.1])->Q (.ref p) H'
section
variable {P:Program}{w:World}{K:Ja}{mg:Str->Option Value}{base:Heap}{f:Addr}{fd:FuncData}
theorem pP:aB ["book", "at", "other", "code", "one", "code_ahead"] ["book"] (ak (top sN)):=⟨rfl,rfl,rfl,by decide +kernel,rfl,by decide +kernel,by decide +kernel⟩
theorem Bt (vs:List V)(j:Nat)(h:j<=vs.length):ir vs none (some (j:Int))=vs.take j:=by
 unfold ir
 have e:HT.cK vs.length vs.length (some (j:Int))=j:=by
  unfold HT.cK
  dsimp only
  rw[if_neg (show ¬((j:Int)<0) by omega)]
  omega
 rw[e]
 show((vs.drop 0).take (j-0))=_
 simp
theorem Nz (F:bU K "clash" "clash" (top sN) f fd)(T:Nm mg)(Ig:Fn P w K mg base 1 "rest_of" ["one", "other"] rA):bh P w K mg base fw 2 f fd ["book"] (qM K):=by
 refine F.ok pP (fun vs H Q E h =>?_) (fun cH A outer s H vs Q E hr h =>?_)
 ·obtain⟨v,bk,rfl,_⟩:=h
  rfl
 obtain⟨v,bk,rfl,hD,hlen,hle,q0,q1⟩:=h
 refine⟨_,(af (fH PassesOwn.never rfl (Ft rfl T.n_enumerate (aa (pv 0) ae)) (tupK K 2 rfl (aY (aQ (i:=1) pP.nd rfl (Or.inl rfl)) (aY (tupK K 2 rfl (aY (aQ (i:=2) pP.nd rfl (Or.inl rfl)) (aY (aQ (i:=3) pP.nd rfl (Or.inl rfl)) cY))) cY))) (ag (fH PassesOwn.never rfl (KS K (dQ (Rb K) (pv 0) gG (dM (pv 1)))) (tupK K 2 rfl (aY (aQ (i:=4) pP.nd rfl (Or.inl rfl)) (aY (aQ (i:=5) pP.nd rfl (Or.inl rfl)) cY))) (ag (bt (aI yJ (aG Ig hr rfl (aa (pv 5) (aa (pv 3) ae))) cS (aM _)) (ag (av (C8 (aa (pv 4) (aa (pv 2) ae))))) aF)))))
  (ag (av cS))),?_⟩
 unfold aH at hD
 unfold Den at hD
 obtain⟨l,vs,rfl,hS,hDs⟩:=hD
 have Vs:vs.length=bk.length:=by rw[hDs.len,Jd]
 have item:∀i (hi:i<bk.length),∃a,vs[i]? = some (.ref a)/\bF K H a [.str bk[i].1,.str bk[i].2]:=fun i hi=>by
  obtain⟨x,hx,dx⟩:=hDs.get (i:=i) (d := .tuple [.str bk[i].1,.str bk[i].2]) (by rw[Jk,Jc hi];rfl)
  obtain⟨a,rfl,hT⟩:=dx.pair
  exact⟨a,hx,hT⟩
 have wD:∀i (hi:i<bk.length),bk[i].2.length<=1000000:=fun i hi=>Ji (hle _ (Ul hi)) (by decide)
 refine⟨_,rfl,l,rfl,⟨_,hS⟩,?_⟩
 refine wx (N:=bk.length) (fun j σ H'=>ar H H'/\Od bk j/\∃x1 x2 x3 x4 x5,σ=[some (.ref l),x1,x2,x3,x4,x5]) ⟨ar.refl _,fun i' j' a b _ h=>absurd h (Nat.not_lt_zero _),_,_,_,_,_,rfl⟩ ?_ ?_
 ·rintro j σ H' hj ⟨sm,nc,x1,x2,x3,x4,x5,rfl⟩
  obtain⟨a,hx,hT⟩:=item j hj
  refine⟨⟨_,_,sm.seq hS,hx⟩,?_⟩
  rintro x H2 ⟨t1,rfl,ht1,hy⟩
  have e:=hy _ _ (sm.seq hS) hx
  subst e
  have gm:=sm.trans (bQ ht1 (.tup [.int j,.ref a]))
  refine⟨t1,_,rfl,bF.of ay,rfl,_,_,rfl,_,_,rfl,a,_,rfl,gm.cQ hT,rfl,_,_,rfl,_,_,rfl,rfl,rfl,?_⟩
  refine⟨_,rfl,_,rfl,_,rfl,.inl ⟨l,_,rfl,gm.seq hS,fun p hp =>?_⟩⟩
  rw[Bt vs j (by omega)]
  have GL:=gm.trans (bQ hp (.lst (vs.take j)))
  refine⟨p,rfl,⟨_,bq.of ay⟩,?_⟩
  refine C5 (xs:=vs.take j) (fun i σ H4=>ar (upd (upd H' t1 (.tup [.int j,.ref a])) p (.lst (vs.take j))) H4/\(∀(i':Nat) a',i'<i->bk[i']? = some a'->jb a'.2 bk[j].2 = .non)/\∃y4 y5,σ=[some (.ref l),some (.int j),some (.str bk[j].1),some (.str bk[j].2),y4,y5]) ⟨ar.refl _,fun i' a' h=>absurd h (Nat.not_lt_zero _),_,_,rfl⟩ ?_ ?_ ?_
  ·rintro i σ H4 hi ⟨qd,_,_⟩
   exact qd.seq (bq.of ay)
  ·rintro i x σ H4 hix ⟨qd,ng,y4,y5,rfl⟩
   have u4:i<j:=by
    have:=(Jq.mp hix).1
    rw[Uo] at this;omega
   have OP:i<bk.length:=by omega
   obtain⟨a',l7,hT'⟩:=item i OP
   rw[List.getElem?_take_of_lt u4,l7] at hix
   cases hix
   have RE:=GL.trans qd
   refine⟨a',_,rfl,RE.cQ hT',rfl,_,_,rfl,_,_,rfl,rfl,?_⟩
   refine⟨_,rfl,_,rfl,bk[i].2,bk[j].2,rfl,wD i OP,wD j hj,.inl ⟨rfl,_,rfl,?_⟩⟩
   refine fG (fun c =>?_) (fun c =>?_)
   ·have hr:jb bk[i].2 bk[j].2 ≠ .non:=by simpa using c
    refine⟨_,rfl,_,rfl,by show 2<=sizeLine;decide,fun t2 ht2 =>?_⟩
    exact q1 i j bk[i] bk[j] (Jc OP) (Jc hj) u4 nc ng hr t2 _ (RE.trans (bQ ht2 _)) (RE.free ht2) ay
   ·have hr:jb bk[i].2 bk[j].2 = .non:=by simpa using c
    refine⟨qd,fun i' b' vn xT =>?_,_,_,rfl⟩
    by_cases z:i'<i
    ·exact ng i' b' z xT
    ·have:i'=i:=by omega
     subst this
     rw[Jc OP] at xT;cases xT
     exact hr
  ·rintro σ H4 ⟨qd,ng,y4,y5,rfl⟩
   refine⟨GL.trans qd,fun i' j' a1 b1 h1 h2 e1 e2 =>?_,_,_,_,_,_,rfl⟩
   by_cases z:j'<j
   ·exact nc i' j' a1 b1 h1 z e1 e2
   ·have:j'=j:=by omega
    subst this
    rw[Jc hj] at e2;cases e2
    exact ng i' a1 (by rw[Uo];omega) e1
 ·rintro σ H' ⟨sm,nc,x1,x2,x3,x4,x5,rfl⟩
  exact⟨⟨_,sm.seq hS,by rw[Vs];exact Je _⟩,q0 nc H' sm⟩
end
noncomputable abbrev sg (x:Str):List Nat:=x.cps.toList
def RF (a b:Str):Prop := ¬(sg a <+: sg b)/\¬(sg b <+: sg a)
theorem RF.symm {a b:Str}(h:RF a b):RF b a:=⟨h.2,h.1⟩
theorem sH (x y:Str):sg (x++y)=sg x++sg y:=aE x y
theorem RF.ext {a b u v:Str}(h:RF a b):RF (a++u) (b++v):=by
 refine⟨fun z =>?_,fun z =>?_⟩
 ·rw[sH,sH] at z
  rcases List.prefix_or_prefix_of_prefix ((List.prefix_append _ _).trans z) (List.prefix_append (sg b) (sg v)) with q|q
  ·exact h.1 q
  ·exact h.2 q
 ·rw[sH,sH] at z
  rcases List.prefix_or_prefix_of_prefix ((List.prefix_append _ _).trans z) (List.prefix_append (sg a) (sg u)) with q|q
  ·exact h.2 q
  ·exact h.1 q
abbrev eM (cs:List Str):Prop:=cs.Pairwise RF
theorem eM.perm {cs ds:List Str}(h:eM cs)(p:cs.Perm ds):eM ds:=(p.pairwise_iff fun h=>RF.symm h).mp h
noncomputable abbrev s0:Str := "0"
noncomputable abbrev s1:Str := "1"
theorem RF.two (x:Str):RF (x++s0) (x++s1):=by
 have e0:sg (x++s0)=sg x++[48]:=aE x s0
 have e1:sg (x++s1)=sg x++[49]:=aE x s1
 refine⟨fun z =>?_,fun z =>?_⟩
 ·rw[e0,e1] at z
  have:=z.eq_of_length (by simp)
  simp at this
 ·rw[e0,e1] at z
  have:=z.eq_of_length (by simp)
  simp at this
theorem RF.one {x y u:Str}(h:RF y x):RF y (x++u):=by
 have z:=h.ext (u:=Str.empty) (v:=u)
 have e:y++Str.empty=y:=by
  show(⟨y.cps ++ #[]⟩:Str)=y
  simp
 rw[e] at z
 exact z
theorem eM.split {A B:List Str}{x:Str}(h:eM (A++x::B)):eM (A++[x++s0,x++s1]++B):=by
 rw[Y8]
 refine ai.el (Yu.mp h) _ ?_
 rintro hA hxB hAB
 obtain⟨hx,hB⟩:=List.pairwise_cons.mp hxB
 refine Yu.mpr ⟨hA,?_,fun a ha y hy =>?_⟩
 ·refine Yu.mpr ⟨List.pairwise_cons.mpr ⟨fun y hy=>by rw[J0.mp hy];exact RF.two x,List.pairwise_singleton _ _⟩,hB,fun y hy z hz =>?_⟩
  have q:=(hx z hz).symm
  simp at hy
  rcases hy with rfl|rfl
  ·exact q.one.symm
  ·exact q.one.symm
 ·rcases U2.mp hy with hy|hy
  ·have q:=hAB a ha x Js
   simp at hy
   rcases hy with rfl|rfl
   ·exact q.one
   ·exact q.one
  ·exact hAB a ha y (Jo _ hy)
theorem gD (x y:Str):Txt.startswith x y=true↔sg y <+: sg x:=by
 have hl:y.length=(sg y).length:=str_len y
 have hx:x.length=(sg x).length:=str_len x
 have e:(x.cps.extract 0 (0+y.length)==y.cps)=true↔(sg x).take y.length=sg y:=by
  rw[beq_iff_eq,<-Array.toList_inj]
  simp[Array.toList_extract]
 show(decide (0+y.length<=x.length)&&(x.cps.extract 0 (0+y.length)==y.cps))=true↔_
 rw[Ju,decide_eq_true_iff,e]
 constructor
 ·rintro⟨_,h⟩
  rw[<-h]
  exact List.take_prefix _ _
 ·intro h
  exact⟨by have:=h.length_le;omega,by rw[hl];exact(List.prefix_iff_eq_take.mp h).symm⟩
theorem pQ {a b:Str}:jb a b = .non↔RF a b:=by
 unfold jb RF
 by_cases h1:Txt.startswith a b=true
 ·rw[if_pos h1]
  exact⟨(fun z=>nomatch z),fun z=>absurd ((gD a b).mp h1) z.2⟩
 ·rw[if_neg h1]
  by_cases h2:Txt.startswith b a=true
  ·rw[if_pos h2]
   exact⟨(fun z=>nomatch z),fun z=>absurd ((gD b a).mp h2) z.1⟩
  ·rw[if_neg h2]
   exact⟨fun _=>⟨fun z=>h2 ((gD b a).mpr z),fun z=>h1 ((gD a b).mpr z)⟩,fun _=>rfl⟩
theorem yL (bk:List (Str×Str)):Od bk bk.length↔eM (bk.map (·.2)):=by
 constructor
 ·intro h
  refine U0.mpr fun i j hi hj u4 =>?_
  rw[Jd] at hi hj
  rw[List.getElem_map,List.getElem_map]
  exact pQ.mp (h i j _ _ u4 hj (Jc hi) (Jc hj))
 ·intro h i j a b u4 hj ha hb
  obtain⟨vn,rfl⟩:=Jq.mp ha
  obtain⟨Io,rfl⟩:=Jq.mp hb
  have z:=U0.mp h i j (by rw[Jd];exact vn) (by rw[Jd];exact Io) u4
  rw[List.getElem_map,List.getElem_map] at z
  exact pQ.mpr z
def vz (K:Ja):Sp:=fun vs H Q _=>∃(v:V) (bk:List (Str×Str)),vs=[v]/\Den K H (aH bk) v/\bk.length<=1000/\(∀q∈bk,q.2.length<=200000) /\
 (eM (bk.map (·.2))->∀H',ar H H'->Q (.bl true) H')/\(¬eM (bk.map (·.2))->∀H',ar H H'->Q (.bl false) H')
section
variable {P:Program}{w:World}{K:Ja}{mg:Str->Option Value}{base:Heap}{f:Addr}{fd:FuncData}
theorem EI:aB ["book"] ["book"] (ak (top xb)):=⟨rfl,rfl,rfl,by decide +kernel,rfl,by decide +kernel,by decide +kernel⟩
theorem FE (F:bU K "free" "free" (top xb) f fd)(T:Nm mg)(Gx:Fn P w K mg base 2 "clash" ["book"] (qM K)):bh P w K mg base fw 3 f fd ["book"] (vz K):=by
 refine F.ok EI (fun vs H Q E h =>?_) (fun cH A outer s H vs Q E hr h =>?_)
 ·obtain⟨v,bk,rfl,_⟩:=h
  rfl
 obtain⟨v,bk,rfl,hD,hl,hc,q1,q2⟩:=h
 refine⟨_,(ag (av (dn Dh (aG (Gx.mono (by decide)) hr rfl (aa (pv 0) ae)) cS (aM _)))),?_⟩
 refine⟨_,rfl,v,bk,rfl,hD,hl,hc,fun nc H' sm =>.inl ⟨rfl,q1 ((yL bk).mp nc) H' sm⟩,fun i j a b ha hb u4 _ _ Ha p H' sm hp hp' =>.inl ⟨rfl,q2 (fun fr =>?_) H' sm⟩⟩
 exact Ha ((yL bk).mpr fr i j a b u4 (Jq.mp hb).1 ha hb)
end
end Z
set_option maxHeartbeats 30000000
namespace Z
open PySem L2
noncomputable abbrev nX:Str := "01"
noncomputable abbrev qU:Str := "abcdefghijklmnopqrstuvwxyz"
noncomputable def ic (x y:Str):Bool:=decide (V.str (Txt.stripChars x y)=V.str (Str.ofString ""))
noncomputable def cC:PyData->Bool
 | .str x=>decide ((1:Int)<=(x.length:Nat))&&(decide (((x.length:Nat):Int)<=8)&&ic x qU)
 | _=>false
noncomputable def bN:PyData->Bool
 | .str x => !decide (V.str x=V.str (Str.ofString ""))&&ic x nX
 | _=>false
noncomputable def bj:PyData->Bool
 | .tuple [a,b]=>cC a&&bN b
 | _=>false
noncomputable def fj:PyData->Str
 | .tuple (.str x::_)=>x
 | _=>Str.empty
noncomputable def cF:PyData->Bool
 | .list ds => !ds.isEmpty&&(ds.all bj&&decide ((bH (fun i=>(ds.map fj).getD i Str.empty) ds.length).length=ds.length))
 | _=>false
def oP (K:Ja):Sp:=fun vs H Q _=>∃(v:V) (d:PyData),vs=[v]/\Den K H d v/\d.weight<=300000/\SeqAt.shaped d=true/\(∀ds,d = .list ds->ds.length<=4000)/\∀H',ar H H'->Q (.bl (cF d)) H'
def qV:Sp:=fun vs H Q _=>∃x y:Str,vs=[.str x,.str y]/\x.length<=1000000/\Q (.bl (ic x y)) H
def kc (K:Ja)(f:PyData->Bool):Sp:=fun vs H Q _=>∃(v:V) (d:PyData),vs=[v]/\Den K H d v/\d.weight<=1000000/\∀H',ar H H'->Q (.bl (f d)) H'
section
variable {P:Program}{w:World}{K:Ja}{mg:Str->Option Value}{base:Heap}{f:Addr}{fd:FuncData}{t1 t2 t3:Tok}
theorem vT:aB ["text", "signs"] ["text", "signs"] (ak (top lD)):=⟨rfl,rfl,rfl,by decide +kernel,rfl,by decide +kernel,by decide +kernel⟩
theorem FC (F:bU K "made_of" "made_of" (top lD) f fd)(T:Nm mg):bh P w K mg base fw 1 f fd ["text", "signs"] qV:=by
 refine F.ok vT (fun vs H Q E h =>?_) (fun cH A outer s H vs Q E hr h =>?_)
 ·obtain⟨x,y,rfl,_⟩:=h
  rfl
 obtain⟨x,y,rfl,hx,q⟩:=h
 have eC:=hr.units
 refine⟨_,(ag (av (dn (o9 K eC) (tU K PySem.F.plainAttrs_str PySem.F.slot_str_strip PySem.F.type_str_strip Au (pv 0) (aa (pv 1) ae)) au (aM _)))),?_⟩
 exact⟨_,rfl,rfl,_,rfl,x,y,rfl,rfl,sizeOk (Ji hx (by decide)),.inl ⟨rfl,q⟩⟩
theorem vN:aB ["thing"] ["thing"] (ak (top lh)):=⟨rfl,rfl,rfl,by decide +kernel,rfl,by decide +kernel,by decide +kernel⟩
theorem zw (F:bU K "is_name" "is_name" (top lh) f fd)(T:Nm mg)(eY:mg "LONGEST_NAME" = some (.int 8 t1))(d7:mg "SMALL_LETTERS" = some (.str qU t2))(kX:Fn P w K mg base 1 "made_of" ["text", "signs"] qV):bh P w K mg base fw 2 f fd ["thing"] (kc K cC):=by
 refine F.ok vN (fun vs H Q E h =>?_) (fun cH A outer s H vs Q E hr h =>?_)
 ·obtain⟨v,d,rfl,_⟩:=h
  rfl
 obtain⟨v,d,rfl,hd,hw,q⟩:=h
 have eC:=hr.units
 have hq:=q H (ar.refl _)
 refine⟨_,(ag (av (d6 (ao (iB K) rfl T.n_isinstance (by rfl) (aa (pv 0) (aa (bC rfl T.n_str (by rfl) (v := .ty "str") rfl) ae))) (d6 (tm nL nL ah (ao (i8 K) rfl T.n_len (by rfl) (aa (pv 0) ae)) (kF rfl eY)) (ji (aG (kX.mono (by decide)) hr rfl (aa (pv 0) (aa (yy rfl d7) ae)))))))),?_⟩
 refine⟨_,rfl,.inl ⟨_, "str",d,_,rfl,hd,(uw K d).2.2.1,_,rfl,?_⟩⟩
 cases d with
 | str x=>
  have e:=hd
  unfold Den at e
  subst e
  have OV:x.length<=1000000:=hw
  refine bJ ⟨_,rfl,_,_,rfl,⟨sizeOk (Ji OV (by decide)),rfl⟩,_,_,rfl,rfl,_,rfl,?_⟩
  have hq:Q (.bl (decide ((1:Int)<=(x.length:Nat))&&(decide (((x.length:Nat):Int)<=8)&&ic x qU))) H:=hq
  refine fG (fun c1 =>?_) (fun c1 =>?_)
  ·rw[c1,U4] at hq
   refine⟨_,_,rfl,rfl,_,rfl,fG (fun c2 =>?_) (fun c2 =>?_)⟩
   ·rw[c2,U4] at hq
    exact⟨_,rfl,x,_,rfl,OV,hq⟩
   ·rw[U5.mpr c2,Yk] at hq
    exact hq
  ·rw[U5.mpr c1,Yk] at hq
   exact⟨_,rfl,bD hq⟩
 | _=>exact bD hq
theorem xw:aB ["thing"] ["thing"] (ak (top kS)):=⟨rfl,rfl,rfl,by decide +kernel,rfl,by decide +kernel,by decide +kernel⟩
theorem AQ (F:bU K "is_code" "is_code" (top kS) f fd)(T:Nm mg)(sx:mg "SIGNS" = some (.str nX t3))(kX:Fn P w K mg base 1 "made_of" ["text", "signs"] qV):bh P w K mg base fw 2 f fd ["thing"] (kc K bN):=by
 refine F.ok xw (fun vs H Q E h =>?_) (fun cH A outer s H vs Q E hr h =>?_)
 ·obtain⟨v,d,rfl,_⟩:=h
  rfl
 obtain⟨v,d,rfl,hd,hw,q⟩:=h
 have eC:=hr.units
 have hq:=q H (ar.refl _)
 refine⟨_,(ag (av (d6 (ao (iB K) rfl T.n_isinstance (by rfl) (aa (pv 0) (aa (bC rfl T.n_str (by rfl) (v := .ty "str") rfl) ae))) (d6 (dn (Kk K eC) (pv 0) au (aM _)) (ji (aG (kX.mono (by decide)) hr rfl (aa (pv 0) (aa (yy rfl sx) ae)))))))),?_⟩
 refine⟨_,rfl,.inl ⟨_, "str",d,_,rfl,hd,(uw K d).2.2.1,_,rfl,?_⟩⟩
 cases d with
 | str x=>
  have e:=hd
  unfold Den at e
  subst e
  have OV:x.length<=1000000:=hw
  have hq:Q (.bl (!decide (V.str x=V.str (Str.ofString ""))&&ic x nX)) H:=hq
  refine bJ ⟨_,rfl,.inl ⟨rfl,_,rfl,fG (fun c1 =>?_) (fun c1 =>?_)⟩⟩
  ·rw[c1,U4] at hq
   exact⟨_,rfl,x,_,rfl,OV,hq⟩
  ·rw[U5.mpr c1,Yk] at hq
   exact hq
 | _=>exact bD hq
theorem uf:aB ["thing"] ["thing"] (ak (top jP)):=⟨rfl,rfl,rfl,by decide +kernel,rfl,by decide +kernel,by decide +kernel⟩
theorem vR (F:bU K "is_entry" "is_entry" (top jP) f fd)(T:Nm mg)(Aq:Fn P w K mg base 2 "is_name" ["thing"] (kc K cC))(AI:Fn P w K mg base 2 "is_code" ["thing"] (kc K bN)):bh P w K mg base fw 3 f fd ["thing"] (kc K bj):=by
 refine F.ok uf (fun vs H Q E h =>?_) (fun cH A outer s H vs Q E hr h =>?_)
 ·obtain⟨v,d,rfl,_⟩:=h
  rfl
 obtain⟨v,d,rfl,hd,hw,q⟩:=h
 have eC:=hr.units
 refine⟨_,(ag (av (d6 (ao (iB K) rfl T.n_isinstance (by rfl) (aa (pv 0) (aa (bC rfl T.n_tuple (by rfl) (v := .ty "tuple") rfl) ae))) (d6 (dn (o9 K eC) (ao (i8 K) rfl T.n_len (by rfl) (aa (pv 0) ae)) ah (aM _)) (d6 (aG (Aq.mono (by decide)) hr rfl (aa (bA (gW K) (pv 0) ah (fun _ _=>rfl)) ae)) (ji (aG (AI.mono (by decide)) hr rfl (aa (bA (gW K) (pv 0) ah (fun _ _=>rfl)) ae)))))))),?_⟩
 refine⟨_,rfl,.inl ⟨_, "tuple",d,_,rfl,hd,(uw K d).2.2.2.2,_,rfl,?_⟩⟩
 cases d with
 | tuple ds=>
  have e:=hd
  unfold Den at e
  obtain⟨a,us,rfl,hT,hds⟩:=e
  have hl:=hds.len
  refine bJ ⟨_,rfl,_,_,rfl,.inr ⟨_,hT,rfl⟩,.inl ⟨rfl,_,rfl,fG (fun c1 =>?_) (fun c1 =>?_)⟩⟩
  ·have c1:V.int ((us.length:Nat):Int)=V.int 2:=of_decide_eq_true c1
   have c1:us.length=2:=by injection c1 with c1;omega
   rw[hl] at c1
   match ds,c1,hds,hw,q with
   | [d1,d2],_,hds,hw,q=>
    unfold aN at hds
    obtain⟨v1,r1,rfl,h1,hds⟩:=hds
    unfold aN at hds
    obtain⟨v2,r2,rfl,h2,hds⟩:=hds
    unfold aN at hds
    subst hds
    have hw:PyData.weight d1+1+(PyData.weight d2+1+0)<=1000000:=by simpa only [PyData.weight,PyData.weightAll] using hw
    have q:∀H',ar H H'->Q (.bl (cC d1&&bN d2)) H':=q
    refine⟨_,rfl,.inr (.inl ⟨a,_,0,_,rfl,rfl,hT,rfl,v1,d1,rfl,h1,by omega,fun H1 sm1=>⟨_,rfl,fG (fun c2 =>?_) (fun c2 =>?_)⟩⟩)⟩
    ·refine⟨_,rfl,.inr (.inl ⟨a,_,1,_,rfl,rfl,sm1.cQ hT,rfl,v2,d2,rfl,h2.same sm1,by omega,fun H2 gm =>?_⟩)⟩
     have z:=q H2 (sm1.trans gm)
     rw[c2,U4] at z
     exact z
    ·have z:=q H1 sm1
     rw[U5.mpr c2,Yk] at z
     exact z
  ·have c1:¬(V.int ((us.length:Nat):Int)=V.int 2):=of_decide_eq_false (U5.mpr c1)
   have z:=q H (ar.refl _)
   have e:bj (.tuple ds)=false:=by
    match ds,hl with
    | [],_=>rfl
    | [_],_=>rfl
    | [_,_],hl=>exact absurd (by rw[hl];rfl) c1
    | _::_::_::_,_=>rfl
   rw[e] at z
   exact z
 | _=>exact bD (q H (ar.refl _))
theorem Dq {d:PyData}(h:cC d=true):∃x,d = .str x:=by
 cases d<;>first|exact⟨_,rfl⟩|(simp[cC] at h)
theorem B5 {d:PyData}(h:bN d=true):∃x,d = .str x:=by
 cases d<;>first|exact⟨_,rfl⟩|(simp[bN] at h)
theorem tO {d:PyData}(h:bj d=true):∃x y:Str,d = .tuple [.str x,.str y]:=by
 cases d with
 | tuple ds=>
  match ds,h with
  | [],h=>simp[bj] at h
  | [_],h=>simp[bj] at h
  | [a,b],h=>
   have h:(cC a&&bN b)=true:=h
   rw[Ju] at h
   obtain⟨x,rfl⟩:=Dq h.1
   obtain⟨y,rfl⟩:=B5 h.2
   exact⟨x,y,rfl⟩
  | _::_::_::_,h=>simp[bj] at h
 | _=>simp[bj] at h
theorem yG (ds:List PyData):PyData.eqv (.list ds) (.list [])=ds.isEmpty:=by
 cases ds<;>simp[PyData.eqv,PyData.eqvAll]
theorem vL:aB ["thing"] ["thing"] (ak (top kU)):=⟨rfl,rfl,rfl,by decide +kernel,rfl,by decide +kernel,by decide +kernel⟩
theorem yY (F:bU K "is_book" "is_book" (top kU) f fd)(T:Nm mg)(wg:Fn P w K mg base 3 "is_entry" ["thing"] (kc K bj)):bh P w K mg base fw 4 f fd ["thing"] (oP K):=by
 refine F.ok vL (fun vs H Q E h =>?_) (fun cH A outer s H vs Q E hr h =>?_)
 ·obtain⟨v,d,rfl,_⟩:=h
  rfl
 obtain⟨v,d,rfl,hd,hw,KW,zH,q⟩:=h
 have eC:=hr.units
 refine⟨_,(af (bt (PW.pt (je (cR (bR (ao (iB K) rfl T.n_isinstance (by rfl) (aa (pv 0) (aa (bC rfl T.n_list (by rfl) (v := .ty "list") rfl) ae))))) (iP (aI (o9 K eC) (pv 0) (gr ae) (aM _))))) (ag (av j5)) aF)
  (af (bt (cR (bR (ao (M1 K rfl) rfl T.n_all (by rfl) (aa (gc rfl (eO (Nc:=["part"]) (Fc:=[]) (js:=[])) (KS K (pv 0)) (cP (i:=0) (n:=1) (by decide)) (fun _ _ _ _ _=>(aQ (i:=0) (Bi ["part"]) rfl (Or.inl rfl))) (fun _ _ _ _ _=>fC) (fun _ _ _ _ _=>(aG (wg.mono (by decide)) hr rfl (aa (pv 0) ae)))) ae)))) (ag (av j5)) aF)
  (ag (av (dn (o9 K eC) (ao (yV (Fv P w)) rfl T.n_len (by rfl) (aa (BA (Fv P w) rfl (eO (Nc:=["name", "code"]) (Fc:=[]) (js:=[])) (KS K (pv 0)) (wo (fQ (cP (i:=0) (n:=2) (by decide)) (fQ (cP (i:=1) (n:=2) (by decide)) rz eN iR) eN (nB eN iR))) (fun _ _ _ _ _=>(tupK K 2 rfl (aY (aQ (i:=0) (Bi ["name", "code"]) rfl (Or.inl rfl)) (aY (aQ (i:=1) (Bi ["name", "code"]) rfl (Or.inl rfl)) cY)))) (fun _ _ _ _ _=>fC) (fun _ _ _ _ _=>(pv 0))) ae)) (ao (i8 K) rfl T.n_len (by rfl) (aa (pv 0) ae)) (aM _)))))),?_⟩
 refine⟨_,rfl,.inl ⟨_, "list",d,_,rfl,hd,(uw K d).2.2.2.1,_,rfl,?_⟩⟩
 cases d with
 | list ds=>
  have e:=hd
  unfold Den at e
  obtain⟨a,us,rfl,hS,hds⟩:=e
  have hl:=hds.len
  have zH:=zH ds rfl
  have WC:PyData.weightAll ds<=300000:=by simpa only [PyData.weight] using hw
  refine bD ⟨_,rfl,by show 0<=sizeLine;decide,fun pe H1 n1 =>?_⟩
  have QG:Den K H1 (.list []) (.ref pe):=Den.list (bq.of n1.at) (Den.strs [])
  refine .inr ⟨_,_,hd.same n1.same,QG,KW,by decide +kernel,_,rfl,?_⟩
  rw[yG]
  cases hem:ds.isEmpty with
  | true=>
   have z:=q H1 n1.same
   have e:cF (.list ds)=false:=by simp[cF,hem]
   rw[e] at z
   exact bJ z
  | false=>
   refine bD ?_
   have mx:=n1.same.seq hS
   have Li:=hds.same n1.same
   have lw:=gp ds
   refine⟨_,rfl,a,rfl,⟨_,mx⟩,?_⟩
   refine eJ (N:=ds.length) (fun i ys H'=>ar H1 H'/\ys=((ds.take i).map bj).map V.bl) ⟨ar.refl _,rfl⟩ ?_ ?_
   ·rintro i ys H2 Nx hi ⟨gm,rfl⟩ nx
    obtain⟨x,hx,dx⟩:=Li.get (i:=i) (Jc hi)
    refine⟨⟨_,_,gm.seq mx,hx⟩,Uj (show _<=300000 by rw[Jd,Jd,Uo];omega) (by decide),?_⟩
    rintro x' H3 ⟨rfl,hy⟩
    have e:=hy _ (gm.seq mx)
    rw[hx] at e;cases e
    refine gn ⟨_,rfl,_,_,rfl,dx.same gm,Ji (fU (n:=300000) WC (Ul hi)) (by decide),fun H4 qd=>nx _ _ ⟨gm.trans qd,?_⟩⟩
    rw[U6 hi,J7,J7]
    rfl
   ·rintro ys H2 ⟨gm,rfl⟩
    refine⟨⟨_,gm.seq mx,by rw[hl];exact Je _⟩,fun p hp =>?_⟩
    rw[We]
    refine⟨p,_,rfl,bq.of ay,_,rfl,?_⟩
    have Fx:ar H1 (upd H2 p (.lst ((ds.map bj).map V.bl))):=gm.trans (bQ hp _)
    have LL:(ds.map bj).any id=ds.any bj:=by rw[List.any_map];rfl
    have LL:(ds.map bj).all id=ds.all bj:=by rw[List.all_map];rfl
    rw[LL]
    cases iE:ds.all bj with
    | false=>
     have z:=q _ (n1.same.trans Fx)
     have e:cF (.list ds)=false:=by simp[cF,hem,iE]
     rw[e] at z
     exact bJ z
    | true=>
     refine bD ?_
     generalize upd H2 p (.lst ((ds.map bj).map V.bl))=H3 at Fx
     have ent:∀i (hi:i<ds.length),∃x y:Str,ds[i] = .tuple [.str x,.str y]:=fun i hi=>tO (Wc.mp iE _ (Ul hi))
     refine⟨_,rfl,a,rfl,⟨_,Fx.seq mx⟩,fun D hD =>?_⟩
     refine CT (N:=ds.length) (fun i H'=>H' D=some (ip (Fv P w) D (bH (fun i=>(ds.map fj).getD i Str.empty) i))/\∀a u,a≠D->H3 a=some u->H' a=some u) ⟨ay,fun a u h e=>by rw[aj h];exact e⟩ ?_ ?_
     ·rintro i H4 Nx hi ⟨hD4,kp⟩ nx
      obtain⟨x,hx,dx⟩:=(Li.same Fx).get (i:=i) (Jc hi)
      obtain⟨nm,cd,ed⟩:=ent i hi
      rw[ed] at dx
      obtain⟨pa,rfl,hT⟩:=dx.pair
      have qd:ar H3 H4:=fun a u e=>kp a u (aw e hD) e
      refine⟨⟨_,_,qd.seq (Fx.seq mx),hx⟩,?_⟩
      rintro x' H5 ⟨rfl,hy⟩
      have e:=hy _ (qd.seq (Fx.seq mx))
      rw[hx] at e;cases e
      have Xd:(ds.map fj).getD i Str.empty=nm:=by
       rw[show(ds.map fj).getD i Str.empty=((ds.map fj)[i]?).getD Str.empty from rfl,Jk,Jc hi,ed]
       rfl
      have ml:=jG (fun i=>(ds.map fj).getD i Str.empty) i
      refine⟨pa,_,rfl,qd.cQ hT,rfl,_,_,rfl,_,_,rfl,rfl,_,rfl,_,nm,hD4,rfl,by omega,nx _ ⟨?_,fun a u h e =>?_⟩⟩
      ·rw[ay]
       show _=some (ip (Fv P w) D (oneMore (bH (fun i=>(ds.map fj).getD i Str.empty) i) ((ds.map fj).getD i Str.empty)))
       rw[Xd]
       rfl
      ·rw[aj h]
       exact kp a u h e
     ·rintro H4 ⟨hD4,kp⟩
      have qd:ar H3 H4:=fun a u e=>kp a u (aw e hD) e
      refine⟨⟨_,qd.seq (Fx.seq mx),by rw[hl];exact Je _⟩,?_⟩
      refine⟨D,_,rfl,hD4,_,rfl,_,_,rfl,.inl ⟨_,qd.seq (Fx.seq mx),rfl⟩,.inl ⟨rfl,?_⟩⟩
      have z:=q H4 (n1.same.trans (Fx.trans qd))
      have e:cF (.list ds)=decide (V.int ((bH (fun i=>(ds.map fj).getD i Str.empty) ds.length).length:Nat)=V.int (us.length:Nat)):=by
       show(!ds.isEmpty&&(ds.all bj&&decide ((bH (fun i=>(ds.map fj).getD i Str.empty) ds.length).length=ds.length)))=_
       rw[hem,iE,Bool.not_false,U4,U4,Y6,decide_eq_true_iff,decide_eq_true_iff,hl]
       constructor
       ·intro z;rw[z]
       ·intro z;injection z with z;omega
      rw[e] at z
      exact z
 | _=>exact bJ (q H (ar.refl _))
end
theorem fk {H:Hp}{b c:Addr}:ar (fY H b c) H:=fun a o e=>(jq e).1
theorem jF {K:Ja}{H:Hp}{ds:List PyData}{vs:List V}{j:Nat}{d:PyData}{v:V}(h:aN K H ds vs)(hd:ds[j]? = some d)(hv:vs[j]? = some v):Den K H d v:=by
 obtain⟨u,hu,q⟩:=h.get hd
 rw[hv] at hu;cases hu
 exact q
noncomputable def S4:List PyData->Bool
 | []=>true
 | .int _::_=>false
 | _::_=>true
mutual
noncomputable def K8:PyData->Bool
 | .list ds=>S4 ds&&xE ds
 | .tuple ds=>xE ds
 | _=>true
noncomputable def xE:List PyData->Bool
 | []=>true
 | d::ds=>K8 d&&xE ds
end
theorem Gr {K:Ja}{H:Hp}{d:PyData}{i:Int}(h:Den K H d (.int i)):d = .int i:=by
 cases d with
 | int k=>unfold Den at h;cases h;rfl
 | none=>unfold Den at h;cases h
 | bool b=>unfold Den at h;cases h
 | str x=>unfold Den at h;cases h
 | list ds=>unfold Den at h;obtain⟨_,_,e,_⟩:=h;cases e
 | tuple ds=>unfold Den at h;obtain⟨_,_,e,_⟩:=h;cases e
 | dict _=>unfold Den at h;exact h.elim
mutual
theorem Den.hide {K:Ja}{H:Hp}{b c:Addr}{t:Int}(bx:Bx H b c t):∀{d:PyData} {v:V},K8 d=true->Den K H d v->Den K (fY H b c) d v
 | .none,_,_,h=>by unfold Den at h ⊢;exact h
 | .bool _,_,_,h=>by unfold Den at h ⊢;exact h
 | .int _,_,_,h=>by unfold Den at h ⊢;exact h
 | .str _,_,_,h=>by unfold Den at h ⊢;exact h
 | .list ds,_,n,h=>by
  unfold Den at h ⊢
  unfold K8 at n
  rw[Ju] at n
  obtain⟨a,vs,h1,h2,h3⟩:=h
  refine⟨a,vs,h1,?_,aN.hide bx n.2 h3⟩
  obtain⟨ns,bx⟩:=bx
  rcases h2 with (h2|⟨o,h2⟩)|h2
  ·refine .inl (.inl ?_)
   rw[cJ (fun z=>by rw[z,bx.d] at h2;cases h2) (fun z =>?_)]
   ·exact h2
   rw[z,bx.l] at h2
   cases h2
   cases ds with
   | nil=>
    unfold aN at h3
    have:=bx.ne
    cases ns with
    | nil=>exact absurd this (by decide)
    | cons i ns=>cases h3
   | cons d ds=>
    unfold aN at h3
    obtain⟨v,r,e,hv,_⟩:=h3
    cases ns with
    | nil=>cases e
    | cons i ns=>
     cases e
     rw[Gr hv] at n
     exact absurd n.1 (by simp[S4])
  ·refine .inl (.inr ⟨o,?_⟩)
   rw[cJ (fun z=>by rw[z,bx.d] at h2;cases h2) (fun z=>by rw[z,bx.l] at h2;cases h2)]
   exact h2
  ·exact .inr h2
 | .tuple ds,_,n,h=>by
  unfold Den at h ⊢
  unfold K8 at n
  obtain⟨a,vs,h1,h2,h3⟩:=h
  refine⟨a,vs,h1,?_,aN.hide bx n h3⟩
  obtain⟨ns,bx⟩:=bx
  rcases h2 with (h2|⟨o,h2⟩)|h2
  ·refine .inl (.inl ?_)
   rw[cJ (fun z=>by rw[z,bx.d] at h2;cases h2) (fun z=>by rw[z,bx.l] at h2;cases h2)]
   exact h2
  ·refine .inl (.inr ⟨o,?_⟩)
   rw[cJ (fun z=>by rw[z,bx.d] at h2;cases h2) (fun z=>by rw[z,bx.l] at h2;cases h2)]
   exact h2
  ·exact .inr h2
 | .dict _,_,_,h=>by unfold Den at h;exact h.elim
theorem aN.hide {K:Ja}{H:Hp}{b c:Addr}{t:Int}(bx:Bx H b c t):∀{ds:List PyData} {vs:List V},xE ds=true->aN K H ds vs->aN K (fY H b c) ds vs
 | [],_,_,h=>by unfold aN at h ⊢;exact h
 | d::ds,_,n,h=>by
  unfold aN at h ⊢
  unfold xE at n
  rw[Ju] at n
  obtain⟨v,r,h1,h2,h3⟩:=h
  exact⟨v,r,h1,Den.hide bx n.1 h2,aN.hide bx n.2 h3⟩
end
def rQ (K:Ja):Sp:=fun vs H Q _=>eu fun(a:Addr) (ns:List Int)=>vs=[.ref a]/\bq K H a (ns.map V.int)/\ns.length<=63 /\
 ∀(b c:Addr) (H':Hp),Bx H' b c 0->H b=none->H c=none->ar H (fY H' b c)->Q (.ref b) H'
theorem Den.ints {K:Ja}{H:Hp}:∀(ns:List Int),aN K H (ns.map PyData.int) (ns.map V.int)
 | []=>by unfold aN;rfl
 | n::ns=>by
  rw[Jy,Jy]
  unfold aN
  exact⟨_,_,rfl,by unfold Den;rfl,Den.ints ns⟩
theorem Kz (ds:List PyData):PyData.eqv (.list ds) (.list [])=ds.isEmpty:=by
 cases ds<;>simp[PyData.eqv,PyData.eqvAll]
theorem Em {n:Nat}(ns:List Int):Sh (n+1) (.list (ns.map PyData.int)):=Sh.list fun d hd=>by
 refine ai.el (Us.mp hd) _ ?_
 rintro i _ rfl
 exact Sh.int
section
variable {P:Program}{w:World}{K:Ja}{mg:Str->Option Value}{base:Heap}{f:Addr}{fd:FuncData}
theorem gF:aB ["_law_script", "_law_cells"] ["_law_script"] (ak (top hV)):=⟨rfl,rfl,rfl,by decide +kernel,rfl,by decide +kernel,by decide +kernel⟩
theorem CV (F:bU K "_law_begin" "_law_begin" (top hV) f fd)(T:Nm mg):bh P w K mg base fw 1 f fd ["_law_script"] (rQ K):=by
 refine F.ok gF (fun vs H Q E h =>?_) (fun cH A outer s H vs Q E hr h =>?_)
 ·obtain⟨a,ns,rfl,_⟩:=h
  rfl
 obtain⟨a,ns,rfl,hS,hlen,q⟩:=h
 have eC:=hr.units
 refine⟨_,(af (aA (i:=1) gF.nd rfl (Or.inl rfl) (bf (Dn K) rfl T.n_list (by rfl) (aa (dQ (SI K) (pv 0) gG (dM ah)) ae)))
  (af (bt (aI (o9 K eC) (pv 1) (gr ae) (aM _)) (ag (aA (i:=1) gF.nd rfl (Or.inl rfl) (gr (aa ah ae)))) aF)
  (ag (av (Lp (uU au (pv 1) (uU au ah EM)) rfl rfl (by decide) (by decide)))))),?_⟩
 refine⟨_,rfl,_,rfl,.inl ⟨a,_,rfl,hS,fun r1 H1 n1 =>?_⟩⟩
 refine⟨r1,_,rfl,.inl (bq.of n1.at),fun r2 H2 n2=>gn ?_⟩
 have hc:ir (ns.map V.int) none (some 63)=ns.map V.int:=by
  have e:=Iy (ns.map V.int) 63
  rw[Y3 (by rw[Jd];exact hlen)] at e
  exact e
 have JK:H2 r2=some (.lst (ns.map V.int)):=by rw[<-hc];exact n2.at
 have gm:=n1.same.trans n2.same
 dsimp only
 refine gH (t:=Eh _ _ _) (fun σ H'=>eu fun(r:Addr) (EB:List Int) =>σ=[some (.ref a),some (.ref r)]/\H' r=some (.lst (EB.map V.int))/\0<EB.length/\EB.length<=64/\H r=none/\ar H H') (fun Nx nx =>?_) ?_
 ·refine⟨_,rfl,by show 0<=sizeLine;decide,fun r3 H3 n3 =>?_⟩
  have d2:Den K H3 (.list (ns.map PyData.int)) (.ref r2):=Den.list (bq.of (n3.same _ _ JK)) (Den.ints ns)
  have d3:Den K H3 (.list []) (.ref r3):=Den.list (bq.of n3.at) (Den.ints [])
  refine .inr ⟨_,_,d2,d3,(Em (n:=1) ns).shaped (by decide),by decide +kernel,_,rfl,?_⟩
  rw[Kz]
  refine fG (fun e =>?_) (fun e =>?_)
  ·refine⟨by show 1<=sizeLine;decide,fun r4 H4 n4=>gn (nx _ _ ⟨r4,[_],rfl,n4.at,by decide,by decide,(gm.trans n3.same).free n4.nn,gm.trans (n3.same.trans n4.same)⟩)⟩
  ·refine nx _ _ ⟨r2,ns,rfl,n3.same _ _ JK,?_,by omega,n1.same.free n2.nn,gm.trans n3.same⟩
   cases ns with
   | nil=>exact absurd rfl e
   | cons _ _=>exact Nat.succ_pos _
 intro σ H3
 refine ai.go ?_
 rintro r EB rfl hr' l0 l1 hn sm
 intro p H0 n0
 refine⟨_,rfl,?_⟩
 refine⟨n0.at,[(.inr "cells",.ref r),(.inr "turn",.int 0)],rfl,by show 2<=15;decide,fun H6 n6 =>?_⟩
 have EZ:r≠p:=aw hr' n0.nn
 have hp:H p=none:=sm.free n0.nn
 refine q p r H6 ⟨EB,?_,?_,l0,l1⟩ hp hn (fun b o e =>?_)
 ·rw[n6.at];rfl
 ·rw[n6.ne EZ,n0.ne EZ];exact hr'
 ·have LM:b≠p:=aw e hp
  have Ow:b≠r:=aw e hn
  rw[cJ LM Ow,n6.ne LM,n0.ne LM]
  exact sm _ _ e
end
theorem qo {K:Ja}{H:Hp}:∀{ns:List Int} {vs:List V},aN K H (ns.map PyData.int) vs->vs=ns.map V.int
 | [],_,h=>by rw[List.map_nil] at h;unfold aN at h;exact h
 | n::ns,_,h=>by
  rw[Jy] at h
  unfold aN at h
  obtain⟨v,r,rfl,h1,h2⟩:=h
  unfold Den at h1
  rw[h1,qo h2];rfl
theorem Bq {K:Ja}{H:Hp}{ns:List Int}{v:V}(h:Den K H (.list (ns.map PyData.int)) v):∃p,v = .ref p/\bq K H p (ns.map V.int):=by
 unfold Den at h
 obtain⟨p,vs,rfl,h1,h2⟩:=h
 rw[qo h2] at h1
 exact⟨p,rfl,h1⟩
theorem u3.same {H H':Hp}{b c:Addr}{t:Int}{ns:List Int}(x:u3 H b c t ns)(s:ar H H'):u3 H' b c t ns:=⟨s _ _ x.d,s _ _ x.l,x.ne,x.le⟩
section
variable {P:Program}{w:World}{K:Ja}{mg:Str->Option Value}{base:Heap}{f:Addr}{fd:FuncData}
theorem bT:aB ["_law_state", "_law_many", "_law_turn", "_law_place", "_law_cell", "_law_digit", "_law_prime", "_law_mixed_here"] ["_law_state", "_law_many"] (ak (top jE)):=⟨rfl,rfl,rfl,by decide +kernel,rfl,by decide +kernel,by decide +kernel⟩
theorem FO (F:bU K "_law_take" "_law_take" (top jE) f fd)(T:Nm mg):bh P w K mg base fw 1 f fd ["_law_state", "_law_many"] vW:=by
 refine F.ok bT (fun vs H Q E h =>?_) (fun cH A outer s H vs Q E hr h =>?_)
 ·obtain⟨b,c,t,ns,many,rfl,_⟩:=h
  rfl
 obtain⟨b,c,t,ns,many,rfl,bx,t0,t1,m0,m1,q⟩:=h
 have hu:=qE hr
 refine⟨_,(af (aA (i:=2) bT.nd rfl (Or.inl rfl) (aD cI (bI hu (pv 0) au (fun _ _=>rfl)) ah))
  (af (q9 hu (pv 0) au (pv 2) rfl)
  (af (aA (i:=3) bT.nd rfl (Or.inl rfl) (aD ig (pv 2) (ao (i8 K) rfl T.n_len (by rfl) (aa (bI hu (pv 0) au (fun _ _=>rfl)) ae))))
  (af (aA (i:=4) bT.nd rfl (Or.inl rfl) (bA (gW K) (bI hu (pv 0) au (fun _ _=>rfl)) (pv 3) (fun _ _=>rfl)))
  (af (bt (aI GJ (pv 4) (aD Kq ah ah) (aM _)) (af (xo (ao Fe rfl T.n_divmod (by rfl) (aa (pv 4) (aa (pv 1) ae))) (tupK K 2 rfl (aY (JJ (bI hu (pv 0) au (fun _ _=>rfl)) (pv 3) set_list) (aY (aQ (i:=5) bT.nd rfl (Or.inl rfl)) cY))))
  (ag (av (pv 5)))) aF)
  (af (aA (i:=6) bT.nd rfl (Or.inl rfl) (bA (gW K) (Ez (K:=K) (dB lit_int (dB lit_int (dB lit_int (dB lit_int (dB lit_int (dB lit_int (dB lit_int Cd)))))))) (aD ig (pv 2) ah) (fun _ _=>rfl)))
  (af (aA (i:=7) bT.nd rfl (Or.inl rfl) (aD ig (aD lZ (aD cI (aD cI (aD ig (pv 4) (pv 6)) (aD lZ (aD lZ (pv 2) (pv 2)) ah)) ah) ah) ah))
  (af (aA (i:=7) bT.nd rfl (Or.inl rfl) (aD ig (aD lZ (pv 7) (pv 7)) (pv 6)))
  (ag (av (aD ig (aD yj (aD ig (aD lZ (aD cI (pv 7) (aD lZ (pv 2) ah)) ah) ah) ah) (pv 1)))))))))))),?_⟩
 refine⟨_,rfl,b,_,rfl,bx.DF,.inl ⟨_,_,rfl,rfl,?_⟩⟩
 refine⟨_,rfl,_,rfl,b,_,rfl,bx.BC (t+1),?_⟩
 have wJ:=bx.turned (t+1)
 refine⟨_,rfl,_,rfl,b,_,rfl,wJ.kN,_,_,rfl,.inl ⟨_,bq.of wJ.l,rfl⟩,_,_,rfl,rfl,?_,?_⟩
 ·rw[Jd];have:=wJ.ne;omega
 have hlen:(ns.map V.int).length=ns.length:=Jd _
 have Dw:0<=(t+1)%((ns.map V.int).length:Int):=Int.emod_nonneg _ (by have:=wJ.ne;omega)
 have DJ:(t+1)%((ns.map V.int).length:Int)<ns.length:=by rw[hlen];exact Int.emod_lt_of_pos _ (by have:=wJ.ne;omega)
 refine ai.el (at_of Dw DJ) _ ?_
 rintro v hv Tv
 refine⟨_,rfl,b,_,rfl,wJ.kN,_,rfl,.inl ⟨c,_,_,_,rfl,rfl,bq.of wJ.l,hv,?_⟩⟩
 refine⟨_,rfl,_,_,rfl,rfl,⟨by decide,by decide,by decide⟩,_,_,rfl,rfl,_,rfl,?_⟩
 refine fG (fun _ =>?_) (fun _ =>?_)
 ·refine⟨_,rfl,_,rfl,v,many,rfl,⟨m0,by omega⟩,fun pt H2 n2 =>?_⟩
  obtain⟨hpb,hpc⟩:pt≠b/\pt≠c:=⟨fun z=>(by have:=n2.nn;rw[z,wJ.d] at this;cases this),fun z=>(by have:=n2.nn;rw[z,wJ.l] at this;cases this)⟩
  have KR:=wJ.same n2.same
  refine⟨pt,_,rfl,bF.of n2.at,rfl,_,_,rfl,?_⟩
  refine⟨_,rfl,b,_,rfl,KR.kN,_,rfl,c,_,_,_,rfl,rfl,KR.l,HR Dw (by simpa only [hlen] using DJ),?_⟩
  refine⟨_,_,rfl,rfl,_,rfl,?_⟩
  refine q (v%many) _ (ns.set ((t+1)%((ns.map V.int).length:Int)).toNat (v / many)) (Int.emod_nonneg _ (by omega)) (Int.emod_lt_of_pos _ m0) ⟨?_,?_,?_,?_⟩ ?_
  ·rw[aj KR.bc];exact KR.d
  ·rw[ay,List.map_set]
  ·rw[Y7];exact wJ.ne
  ·rw[Y7];exact wJ.le
  ·rw[Bb]
   refine m8 fun a o h1 h2 e =>?_
   rw[n2.ne (fun z =>?_),aj h1]
   ·exact e
   ·have z2:=n2.nn
    rw[aj hpb,<-z,e] at z2
    cases z2
 ·intro v1 H2 gm d2
  obtain⟨L,hL,iE,d2⟩:∃L:List Int,L.length=7/\(∀x∈L,0<x/\x<2147483648)/\Den K H2 (.list (L.map PyData.int)) v1:=by
   refine⟨[_,_,_,_,_,_,_],?_,?_,d2.same BH⟩
   ·rfl
   ·decide
  obtain⟨pp,rfl,hS⟩:=Bq d2
  have Wh:0<=(t+1)%7:=Int.emod_nonneg _ (by decide)
  have V4:(t+1)%7<7:=Int.emod_lt_of_pos _ (by decide)
  have KR:=wJ.same gm
  refine⟨_,rfl,_,_,rfl,rfl,(by dsimp only;decide),?_⟩
  refine ai.el (at_of Wh (show(t+1)%7<(L.length:Int) by rw[hL];exact V4)) _ ?_
  rintro pr EZ hpr'
  have Qm:=iE pr (Jz hpr')
  refine .inl ⟨pp,_,_,_,rfl,rfl,hS,EZ,?_⟩
  obtain⟨pr0,pr1⟩:=Qm
  refine⟨_,rfl,_,rfl,_,_,rfl,rfl,pr0,_,rfl,_,rfl,.inl ⟨_,_,rfl,rfl,.inl ⟨by omega,by omega⟩,.inl ⟨_,_,rfl,rfl,.inr ⟨by decide,by decide⟩,.inl ⟨_,_,rfl,rfl,.inl ⟨_,_,rfl,rfl,.inl ⟨_,_,rfl,rfl,.inr ⟨by decide,by decide⟩,_,_,rfl,rfl,(by dsimp only;decide),?_⟩⟩⟩⟩⟩⟩
  have cm:∀(x y p:Int),0<p->p<2^64->wQ (x%p) y:=fun x y p h0 h1=>IL h0 h1
  refine⟨_,rfl,_,rfl,.inl ⟨_,_,rfl,rfl,cm _ _ _ (by decide) (by decide),?_⟩⟩
  refine⟨_,rfl,_,_,rfl,rfl,pr0,?_⟩
  refine⟨_,rfl,_,rfl,.inl ⟨_,_,rfl,rfl,.inl ⟨by omega,by omega⟩,.inl ⟨_,_,rfl,rfl,.inl ⟨_,_,rfl,rfl,.inr ⟨by decide,by decide⟩,_,_,rfl,rfl,(by dsimp only;decide),_,_,rfl,rfl,⟨by decide,by decide⟩,_,rfl,_,_,rfl,rfl,m0,?_⟩⟩⟩⟩
  refine q _ _ ns (Int.emod_nonneg _ (by omega)) (Int.emod_lt_of_pos _ m0) KR ?_
  have:=ar.fY (b:=b) (c:=c) gm
  rw[zX] at this
  exact this
end
noncomputable def jR (x:Str):Bool:=x.cps.all (· < 128)
mutual
noncomputable def Pz:PyData->Bool
 | .none | .bool _=>true
 | .int i=>decide (i.natAbs<10^40)
 | .str x=>jR x
 | .list ds | .tuple ds=>FD ds
 | .dict _=>false
noncomputable def FD:List PyData->Bool
 | []=>true
 | d::ds=>Pz d&&FD ds
end
theorem AN (ts:List Str):(listText ts).length<=piled ts+2:=by
 unfold listText
 rw[strLen_append]
 have e:(((("]" : String):Str))).length=1:=rfl
 rw[e]
 cases ts with
 | nil=>exact Je _
 | cons t ts=>
  have q:=textFrom_length_pos ts 1 ((("[" : String):Str)++((if 0>0 then ", " else "" : String):Str)++t) (by decide)
  show(textFrom 1 _ ts).length+1<=_
  rw[q,strLen_append,strLen_append,piled_cons]
  have e1:(((("[" : String):Str))).length=1:=rfl
  have e2:((((if 0>0 then ", " else "" : String):Str))).length=0:=rfl
  rw[e1,e2]
  omega
theorem yZ (ts:List Str):(tupleText ts).length<=piled ts+3:=by
 unfold tupleText
 rw[strLen_append,strLen_append]
 have e1:((("(" : String):Str)).length=1:=rfl
 have e3:(((if ts.length==1 then ",)" else ")" : String):Str)).length<=2:=by split<;>decide
 have e2:(Str.join ", " ts).length<=piled ts:=by
  cases ts with
  | nil=>exact Je _
  | cons t ts=>have:=join_length_add (t::ts) (by simp);omega
 rw[e1]
 omega
theorem Gw {i:Int}(h:i.natAbs<10^40):(Str.ofString (toString i)).length<=41:=by
 cases i with
 | ofNat n=>
  have:=PyProof.Rows.toString_length_le (v:=Int.ofNat n) (by simp) (k:=40) (by decide) (by
   have h:n<10^40:=h
   show((n:Nat):Int)<10^40
   exact_mod_cast h)
  omega
 | negSucc n=>
  have h:n+1<10^40:=h
  have:=PyProof.Rows.toString_length_le (v:=Int.ofNat (n+1)) (by show(0:Int)<=((n+1:Nat):Int);omega) (k:=40) (by decide) (by
   show((n+1:Nat):Int)<10^40
   exact_mod_cast h)
  have e:toString (Int.negSucc n) = "-" ++ toString (Int.ofNat (n+1)):=rfl
  rw[e]
  have e2:∀a b:String,(Str.ofString (a++b)).length=(Str.ofString a).length+(Str.ofString b).length:=fun a b=>by
   simp[PyProof.Rows.ofString_length]
  rw[e2]
  have e3:(Str.ofString "-").length=1:=rfl
  omega
mutual
theorem u5:∀(d:PyData),Pz d=true->d.shown.length<=44*d.weight+42/\d.showable=true/\d.canLay0=true
 | .none,_=>⟨by decide +kernel,rfl,rfl⟩
 | .bool b,_=>⟨by cases b<;>decide +kernel,rfl,rfl⟩
 | .int i,h=>by
  have h:i.natAbs<10^40:=by simpa [Pz] using h
  refine⟨?_,?_,rfl⟩
  ·have:=Gw h
   simp only[PyData.shown]
   show(Str.ofString (toString i)).length<=_
   omega
  ·simp only[PyData.showable,decide_eq_true_eq]
   by_cases z:i.natAbs=0
   ·rw[z];decide
   ·exact(Nat.log2_lt z).mpr (Jn h (by decide))
 | .str x,h=>by
  have hx:∀c∈x.cps.toList,c<128:=fun c hc=>by
   have h:jR x=true:=by simpa only [Pz] using h
   unfold jR at h
   rw[Array.all_eq_true_iff_forall_mem] at h
   have:=h c (by simpa using hc)
   simpa using this
  refine⟨?_,rfl,?_⟩
  ·have:=StrLaws.reprText_len x fun c hc=>Jn (hx c hc) (by decide)
   simp only[PyData.shown,PyData.weight]
   have e:x.cps.size=x.length:=rfl
   omega
  ·exact(Sh.str (n:=0) (df fun ch hc=>by have:=hx ch hc;omega)).1
 | .list ds,h=>by
  obtain⟨h1,h2,h3⟩:=lq ds (by simpa only [Pz] using h)
  refine⟨?_,by simpa only [PyData.showable] using h2,by simpa only [PyData.canLay0] using h3⟩
  have:=AN (PyData.shownAll ds)
  simp only[PyData.shown,PyData.weight]
  omega
 | .tuple ds,h=>by
  obtain⟨h1,h2,h3⟩:=lq ds (by simpa only [Pz] using h)
  refine⟨?_,by simpa only [PyData.showable] using h2,by simpa only [PyData.canLay0] using h3⟩
  have:=yZ (PyData.shownAll ds)
  simp only[PyData.shown,PyData.weight]
  omega
 | .dict _,h=>by simp[Pz] at h
theorem lq:∀(ds:List PyData),FD ds=true->piled (PyData.shownAll ds)<=44*PyData.weightAll ds/\PyData.showableAll ds=true/\PyData.canLayAll0 ds=true
 | [],_=>⟨Je _,rfl,rfl⟩
 | d::ds,h=>by
  simp only[FD,Ju] at h
  refine ai.el (u5 d h.1) _ ?_
  rintro a1 a2 a3
  refine ai.el (lq ds h.2) _ ?_
  rintro b1 b2 b3
  refine⟨?_,by simp only[PyData.showableAll,a2,b2];rfl,by simp only[PyData.canLayAll0,a3,b3];rfl⟩
  simp only[PyData.shownAll,PyData.weightAll,piled_cons]
  omega
end
theorem rJ {ds:List PyData}:FD ds=true ↔ ∀d∈ds,Pz d=true:=by
 induction ds with
 | nil=>simp[FD]
 | cons d ds ih=>simp[FD,ih]
theorem rK {m:Nat}:∀{ds:List PyData},(∀e∈ds,e.depth<=m)->PyData.depthAll ds<=m
 | [],_=>by simp[PyData.depthAll]
 | d::ds,h=>by
  have:=rK (m:=m) (ds:=ds) fun e he=>h e (Jo _ he)
  have:=h d Js
  simp only[PyData.depthAll]
  omega
structure Gd (w dp:Nat)(d:PyData):Prop where
 pz:Pz d=true
 wt:d.weight<=w
 dp:d.depth<=dp
theorem Gd.shaped {w dp:Nat}{d:PyData}(h:Gd w dp d)(hd:dp<=64):SeqAt.shaped d=true:=by
 unfold SeqAt.shaped
 rw[(u5 d h.pz).2.2,decide_eq_true (Ji h.dp hd)];rfl
theorem CJ (xs ys:List PyData):PyData.weightAll (xs++ys)=PyData.weightAll xs+PyData.weightAll ys:=by
 induction xs with
 | nil=>simp[PyData.weightAll]
 | cons x xs ih=>rw[List.cons_append];simp only[PyData.weightAll,ih];omega
structure Gs (w dp:Nat)(ds:List PyData):Prop where
 pz:∀d∈ds,Pz d=true
 wt:PyData.weightAll ds<=w
 dp:∀d∈ds,d.depth<=dp
theorem Gs.list {w dp:Nat}{ds:List PyData}(h:Gs w dp ds):Gd w (dp+1) (.list ds):=⟨by simp only[Pz];exact rJ.mpr h.pz,by simp only[PyData.weight];exact h.wt,by simp only[PyData.depth];have:=rK h.dp;omega⟩
theorem Gs.tuple {w dp:Nat}{ds:List PyData}(h:Gs w dp ds):Gd w (dp+1) (.tuple ds):=⟨by simp only[Pz];exact rJ.mpr h.pz,by simp only[PyData.weight];exact h.wt,by simp only[PyData.depth];have:=rK h.dp;omega⟩
theorem Gs.mono {w dp w' TQ:Nat}{ds:List PyData}(h:Gs w dp ds)(hw:w<=w')(hd:dp<=TQ):Gs w' TQ ds:=⟨h.pz,Ji h.wt hw,fun d m=>Ji (h.dp d m) hd⟩
theorem Gs.app {w dp w':Nat}{xs ys:List PyData}(h:Gs w dp xs)(g:Gs w' dp ys):Gs (w+w') dp (xs++ys):=
 ⟨fun d m=>(U2.mp m).elim (h.pz d) (g.pz d),by rw[CJ];have:=h.wt;have:=g.wt;omega,fun d m=>(U2.mp m).elim (h.dp d) (g.dp d)⟩
theorem Gs.one {w dp:Nat}{d:PyData}(h:Gd w dp d):Gs (w+1) dp [d]:=
 ⟨fun e m=>by rw[J0.mp m];exact h.pz,by have:=h.wt;simp only[PyData.weightAll];omega,fun e m=>by rw[J0.mp m];exact h.dp⟩
theorem Gs.cons {w dp w':Nat}{d:PyData}{ds:List PyData}(h:Gd w dp d)(g:Gs w' dp ds):Gs (w+1+w') dp (d::ds):=(Gs.one h).app g
theorem Gs.nil {dp:Nat}:Gs 0 dp []:=⟨(fun d m=>nomatch m),Je _,(fun d m=>nomatch m)⟩
theorem Gd.str {w dp:Nat}{x:Str}(h:jR x=true)(hw:x.length<=w):Gd w dp (.str x):=⟨by simpa only [Pz] using h,by simp only[PyData.weight];exact hw,by simp[PyData.depth]⟩
theorem AY {K:Ja}{H:Hp}{x:Str}:Den K H (.str x) (.str x):=by unfold Den;rfl
theorem Fw {K:Ja}{H:Hp}{x:Int}:Den K H (.int x) (.int x):=by unfold Den;rfl
theorem uc {K:Ja}{H:Hp}:aN K H [] []:=by unfold aN;rfl
theorem di {K:Ja}{H:Hp}{d:PyData}{v:V}{ds:List PyData}{vs:List V}(h:Den K H d v)(g:aN K H ds vs):aN K H (d::ds) (v::vs):=by unfold aN;exact⟨_,_,rfl,h,g⟩
theorem DQ {K:Ja}{G:Hp}{p:Addr}{ds:List PyData}{vs:List V}(h:G p=some (.tup vs))(g:aN K G ds vs):Den K G (.tuple ds) (.ref p):=by unfold Den;exact⟨p,vs,rfl,bF.of h,g⟩
theorem E8 {x:Str}:jR x=true ↔ ∀c∈x.cps.toList,c<128:=by
 unfold jR
 rw[Array.all_eq_true_iff_forall_mem]
 constructor
 ·intro h c hc
  have:=h c (by simpa using hc)
  simpa using this
 ·intro h c hc
  have:=h c (by simpa using hc)
  simpa using this
noncomputable def HP:PyData->Nat
 | .list ds | .tuple ds=>ds.length
 | _=>0
noncomputable def fK:PyData->PyData
 | .tuple ds =>.list ds
 | d=>d
noncomputable def cu:PyData->List (Str×Str)
 | .list ds=>ds.map fun d=>match d with
  | .tuple [.str x,.str y]=>(x,y)
  | _=>(Str.empty,Str.empty)
 | _=>[]
theorem xM {d:PyData}(h:cF d=true):d=aH (cu d)/\∀q∈cu d,cC (.str q.1)=true/\bN (.str q.2)=true:=by
 cases d with
 | list ds=>
  replace h:(!ds.isEmpty&&(ds.all bj&&decide ((bH (fun i=>(ds.map fj).getD i Str.empty) ds.length).length=ds.length)))=true:=h
  rw[Ju,Ju,Wc] at h
  have he:=h.2.1
  clear h
  induction ds with
  | nil=>exact⟨rfl,fun q hq=>nomatch hq⟩
  | cons e ds ih=>
   obtain⟨e1,e2⟩:=ih fun x hx=>he x (Jo _ hx)
   have z:=he e Js
   obtain⟨x,y,rfl⟩:=tO z
   have z:(cC (.str x)&&bN (.str y))=true:=z
   rw[Ju] at z
   have e1:ds=(cu (.list ds)).map fun q =>.tuple [.str q.1,.str q.2]:=PyData.list.inj e1
   refine⟨?_,fun q hq =>?_⟩
   ·show PyData.list (.tuple [.str x,.str y]::ds) = .list (.tuple [.str x,.str y]::(cu (.list ds)).map fun q =>.tuple [.str q.1,.str q.2])
    rw[<-e1]
   ·rcases Jr.mp (show q∈(x,y)::cu (.list ds) from hq) with rfl|hq
    ·exact z
    ·exact e2 q hq
 | _=>simp[cF] at h
theorem fB {x y:Str}(h:x.cps.toList=y.cps.toList):x=y:=by
 cases x;cases y
 congr 1
 exact Array.toList_inj.mp h
theorem qH:∀(p:Str) (l:List Str),PyProof.Rows.risingS p l=true->(p::l).Pairwise fun a b=>a.cps.toList<=b.cps.toList
 | p,[],_=>by simp
 | p,x::r,h=>by
  have h:(!Spec.ltCps x.cps.toList p.cps.toList&&PyProof.Rows.risingS x r)=true:=h
  rw[Ju,PyProof.Rows.ltCps_eq,Bool.not_eq_true',decide_eq_false_iff_not] at h
  have ih:=qH x r h.2
  have px:p.cps.toList<=x.cps.toList:=h.1
  refine List.pairwise_cons.mpr ⟨fun y hy =>?_,ih⟩
  rcases Jr.mp hy with rfl|hy
  ·exact px
  ·exact List.le_trans px ((List.pairwise_cons.mp ih).1 y hy)
theorem qb {a:List Str}(h:PyProof.Rows.sortedS a=true):a.Pairwise fun a b=>a.cps.toList<=b.cps.toList:=by
 cases a with
 | nil=>exact .nil
 | cons p l=>exact qH p l h
theorem zR {a b:List Str}(h:a.Perm b)(ha:PyProof.Rows.sortedS a=true)(hb:PyProof.Rows.sortedS b=true):a=b:=
 h.eq_of_pairwise (fun x y _ _ h1 h2=>fB (List.le_antisymm h1 h2)) (qb ha) (qb hb)
noncomputable def uD (bk:List (Str×Str)):Bool := @decide (eM (bk.map (·.2))) (Classical.propDecidable _)
noncomputable def cL (names:List Str)(d:PyData):Bool:=cF (fK d)&&(decide (((cu (fK d)).map (·.1)).Perm names)&&uD (cu (fK d)))
structure G8 (d:PyData):Prop where
 pz:Pz d=true
 wt:d.weight<=300000
 sh:SeqAt.shaped d=true
 wO:∀ds,fK d = .list ds->ds.length<=60
 cd:∀q∈cu (fK d),q.2.length<=200000
theorem vM (d:PyData):(fK d).weight=d.weight:=by cases d<;>simp only[fK,PyData.weight]
theorem IM {d:PyData}(h:Pz d=true):Pz (fK d)=true:=by cases d<;>simpa only [fK,Pz] using h
theorem JQ {d:PyData}(h:SeqAt.shaped d=true):SeqAt.shaped (fK d)=true:=by cases d<;>exact h
theorem Ky {K:Ja}{H:Hp}{bk:List (Str×Str)}{v:V}(h:Den K H (aH bk) v):eu fun(a:Addr) (us:List V)=>v = .ref a/\bq K H a us/\us.length=bk.length/\∀(i:Nat) (q:Str×Str),bk[i]? = some q->∃b:Addr,us[i]? = some (.ref b)/\bF K H b [.str q.1,.str q.2]:=by
 unfold aH Den at h
 obtain⟨a,us,rfl,hS,hds⟩:=h
 refine⟨a,us,rfl,hS,by have:=hds.len;rw[Jd] at this;exact this,fun i q e =>?_⟩
 obtain⟨u,hu,du⟩:=hds.get (i:=i) (d := .tuple [.str q.1,.str q.2]) (by rw[Jk,e];rfl)
 unfold Den at du
 obtain⟨b,vs,rfl,hT,hd⟩:=du
 unfold aN at hd
 obtain⟨x,r,rfl,hx,hd⟩:=hd
 unfold aN at hd
 obtain⟨y,r,rfl,hy,hd⟩:=hd
 unfold aN at hd
 unfold Den at hx hy
 subst hd hx hy
 exact⟨b,hu,hT⟩
theorem uJ:∀(a b:List Str),PyData.eqvAll (a.map PyData.str) (b.map PyData.str)=decide (a=b)
 | [],[]=>by simp[PyData.eqvAll]
 | [],_::_=>by simp[PyData.eqvAll]
 | _::_,[]=>by simp[PyData.eqvAll]
 | x::a,y::b=>by
  rw[Jy,Jy]
  simp only[PyData.eqvAll,PyData.eqv,uJ a b,List.cons.injEq,Bool.decide_and]
  rfl
theorem vJ {x:Str}(h:jR x=true):∀c∈x.cps.toList,c<128:=fun c hc=>by
 unfold jR at h
 rw[Array.all_eq_true_iff_forall_mem] at h
 have:=h c (by simpa using hc)
 simpa using this
theorem Cj {ks:List Str}(h:∀x∈ks,jR x=true):SeqAt.shaped (.list (ks.map PyData.str))=true:=(Sh.list (n:=0) fun d hd=>by
 obtain⟨x,hx,rfl⟩:=Us.mp hd
 exact Sh.str (df fun ch hc=>by have:=vJ (h x hx) ch hc;omega)).shaped (by decide)
def B3 (K:Ja):Sp:=fun vs H Q _=>vo fun(v:V) (d:PyData) (p:Addr) (ns:List Str)=>vs=[v,.ref p]/\Den K H d v/\G8 d/\(bq K H p (ns.map V.str)∨bF K H p (ns.map V.str))/\ns.length<64/\(∀x∈ns,jR x=true)/\∀H',ar H H'->Q (.bl (cL ns d)) H'
section
variable {P:Program}{w:World}{K:Ja}{mg:Str->Option Value}{base:Heap}{f:Addr}{fd:FuncData}
theorem fc:aB ["thing", "names", "book"] ["thing", "names"] (ak (top dq)):=⟨rfl,rfl,rfl,by decide +kernel,rfl,by decide +kernel,by decide +kernel⟩
theorem HG (F:bU K "is_free_book_of" "is_free_book_of" (top dq) f fd)(T:Nm mg)(kd:mg "sorted" = none)(AB:Fn P w K mg base 4 "is_book" ["thing"] (oP K))(IQ:Fn P w K mg base 3 "free" ["book"] (vz K)):bh P w K mg base fw 5 f fd ["thing", "names"] (B3 K):=by
 refine F.ok fc (fun vs H Q E h =>?_) (fun cH A outer s H vs Q E hr h =>?_)
 ·obtain⟨v,d,p,ns,rfl,_⟩:=h
  rfl
 obtain⟨v,d,p,ns,rfl,hd,fit,Gg,nl,na,q⟩:=h
 have eC:=hr.units
 refine⟨_,(af (aA (i:=2) fc.nd rfl (Or.inl rfl) (fX (bR (ao (iB K) rfl T.n_isinstance (by rfl) (aa (pv 0) (aa (bC rfl T.n_tuple (by rfl) (v := .ty "tuple") rfl) ae)))) (bf (Dn K) rfl T.n_list (by rfl) (aa (pv 0) ae)) (pv 0)))
  (af (bt (PW.pt (je (cR (bR (aG (AB.mono (by decide)) hr rfl (aa (pv 2) ae)))) (iP (aI (Kk K eC) (ao (uY K) rfl kd (by rfl) (aa (gc rfl (eO (Nc:=["name", "code"]) (Fc:=[]) (js:=[])) (KS K (pv 2)) (wo (fQ (cP (i:=0) (n:=2) (by decide)) (fQ (cP (i:=1) (n:=2) (by decide)) rz eN iR) eN (nB eN iR))) (fun _ _ _ _ _=>(tupK K 2 rfl (aY (aQ (i:=0) (Bi ["name", "code"]) rfl (Or.inl rfl)) (aY (aQ (i:=1) (Bi ["name", "code"]) rfl (Or.inl rfl)) cY)))) (fun _ _ _ _ _=>fC) (fun _ _ _ _ _=>(pv 0))) ae)) (ao (uY K) rfl kd (by rfl) (aa (pv 1) ae)) (aM _))))) (ag (av j5)) aF)
  (ag (av (aG (IQ.mono (by decide)) hr rfl (aa (pv 2) ae)))))),?_⟩
 refine kZ (te:=QT _ _ _) (fun v2 H'=>ar H H'/\Den K H' (fK d) v2) (fun Qn qn =>?_) ?_
 ·refine⟨_,rfl,.inl ⟨_, "tuple",d,_,rfl,hd,(uw K d).2.2.2.2,_,rfl,?_⟩⟩
  cases d with
  | tuple ds=>
   have e:=hd
   unfold Den at e
   obtain⟨a,us,rfl,hT,hds⟩:=e
   refine bJ ⟨_,rfl,a,us,rfl,.inr hT,fun l H1 n1=>qn _ _ ⟨n1.same,?_⟩⟩
   show Den K H1 (.list ds) _
   unfold Den
   exact⟨l,us,rfl,bq.of n1.at,hds.same n1.same⟩
  | _=>exact bD ⟨_,rfl,qn _ _ ⟨ar.refl _,hd⟩⟩
 rintro v2 H1 ⟨s1,d1⟩
 refine gn ?_
 refine⟨_,rfl,v2,fK d,rfl,d1,by rw[vM];exact fit.wt,JQ fit.sh,fun ds e=>Ji (fit.wO ds e) (by decide),fun H2 s2 =>?_⟩
 have yK:=s1.trans s2
 refine⟨_,rfl,?_⟩
 cases hb:cF (fK d) with
 | false=>
  have z:=q H2 yK
  rw[show cL ns d=false by unfold cL;rw[hb,Yk]] at z
  exact bJ (bJ z)
 | true=>
  obtain⟨eb,ok⟩:=xM hb
  have fl:=fit.wO (match fK d with | .list ds=>ds|_=>[]) (by rw[eb];rfl)
  have d2:=d1.same s2
  rw[eb] at d2
  have bl:(cu (fK d)).length<=60:=by
   rw[eb] at fl
   have:((cu (fK d)).map fun q=>PyData.tuple [.str q.1,.str q.2]).length<=60:=fl
   rw[Jd] at this
   exact this
  have wt:(aH (cu (fK d))).weight<=300000:=by rw[<-eb,vM];exact fit.wt
  have TR:Pz (aH (cu (fK d)))=true:=by rw[<-eb];exact IM fit.pz
  have fb:cL ns d=(decide (((cu (fK d)).map (·.1)).Perm ns)&&uD (cu (fK d))):=by unfold cL;rw[hb,U4]
  have cd:=fit.cd
  generalize cu (fK d)=bk at d2 bl wt fb ok TR cd
  rw[fb] at q
  refine bD ?_
  obtain⟨a,us,rfl,hS,hul,hds⟩:=Ky d2
  have pz:Pz (aH bk)=true:=TR
  have az:∀x∈bk.map (·.1),jR x=true:=fun x hx=>by
   obtain⟨q0,hq0,rfl⟩:=Us.mp hx
   have h1:FD (bk.map fun q=>PyData.tuple [.str q.1,.str q.2])=true:=by simpa only [aH,Pz] using pz
   have h2:=rJ.mp h1 _ (Us.mpr ⟨q0,hq0,rfl⟩)
   simp only[Pz,FD,Ju] at h2
   exact h2.1
  have small:∀{n:Nat},n<=10000->n<sizeLine:=fun h=>Uj h (by decide)
  refine⟨_,rfl,a,rfl,⟨_,hS⟩,?_⟩
  refine eJ (N:=bk.length) (fun i ys H'=>ar H2 H'/\ys=((bk.take i).map (·.1)).map V.str) ⟨ar.refl _,rfl⟩ ?_ ?_
  ·rintro i ys H3 Ny hi ⟨s3,rfl⟩ ny
   obtain⟨b,xT,hT⟩:=hds i bk[i] (Jc hi)
   refine⟨⟨_,_,s3.seq hS,xT⟩,small (by rw[Jd,Jd,Uo];omega),?_⟩
   rintro x' H4 ⟨rfl,hy⟩
   have e:=hy _ (s3.seq hS)
   rw[xT] at e;cases e
   refine⟨b,_,rfl,s3.cQ hT,rfl,_,_,rfl,gn ⟨_,_,rfl,gn ⟨rfl,_,rfl,ny _ _ ⟨s3,?_⟩⟩⟩⟩
   rw[U6 hi,J7,J7]
   rfl
  ·rintro ys H3 ⟨s3,rfl⟩
   refine⟨⟨_,s3.seq hS,by rw[hul];exact Je _⟩,fun pv hp =>?_⟩
   rw[We]
   have Vp:ar H2 (upd H3 pv (.lst ((bk.map (·.1)).map V.str))):=s3.trans (bQ hp _)
   refine⟨pv,bk.map (·.1),rfl,.inl (bq.of ay),by rw[Jd];omega,fun ms q1 H4 pm so n4 =>?_⟩
   have s4:=Vp.trans n4.same
   refine⟨_,rfl,p,ns,rfl,Gg.imp (yK.trans s4).seq (yK.trans s4).cQ,nl,fun ms2 q2 H5 Ea so2 n5 =>.inr ⟨.list (ms.map .str),.list (ms2.map .str),Den.list (bq.of (n5.same _ _ n4.at)) (Den.strs _),Den.list (bq.of n5.at) (Den.strs _),Cj fun x hx=>az x (pm.mem_iff.mp hx),Cj fun x hx=>na x (Ea.mem_iff.mp hx),?_⟩⟩
   have s5:=s4.trans n5.same
   have ev:PyData.eqv (.list (ms.map .str)) (.list (ms2.map .str))=decide (ms=ms2):=by simp only[PyData.eqv];exact uJ ms ms2
   rw[ev]
   by_cases e:ms=ms2
   ·have pp:(bk.map (·.1)).Perm ns:=pm.symm.trans (by rw[e];exact Ea)
    rw[show decide ((bk.map (·.1)).Perm ns)=true from decide_eq_true pp,U4] at q
    rw[decide_eq_true e]
    refine⟨_,rfl,bD ⟨_,rfl,.ref a,bk,rfl,d2.same s5,by omega,cd,fun fr H6 s6 =>?_,fun fr H6 s6 =>?_⟩⟩
    ·have z:=q H6 (yK.trans (s5.trans s6))
     rw[show uD bk=true from @decide_eq_true _ (Classical.propDecidable _) fr] at z
     exact z
    ·have z:=q H6 (yK.trans (s5.trans s6))
     rw[show uD bk=false from @decide_eq_false _ (Classical.propDecidable _) fr] at z
     exact z
   ·have np:¬(bk.map (·.1)).Perm ns:=fun pp=>e (zR (pm.trans (pp.trans Ea.symm)) so so2)
    have z:=q H5 (yK.trans s5)
    rw[show decide ((bk.map (·.1)).Perm ns)=false from decide_eq_false np,Yk] at z
    rw[decide_eq_false e]
    exact⟨_,rfl,bJ z⟩
end
noncomputable abbrev ax:List Str:=["set", "add", "take", "tell", "ask", "jump", "zero", "stop", "farjump", "farzero", "skip"]
noncomputable abbrev bM:List Str:=["a", "b", "c", "d"]
noncomputable abbrev bp:List Str:=["none", "one", "two", "three", "four", "five", "six", "seven", "eight"]
noncomputable def my:PyData->Bool
 | .int _=>true
 | _=>false
noncomputable def dP (bk:List (Str×Str)):List (Key×V):=bk.map fun q=>((Sum.inr q.1:Key),V.str q.2)
noncomputable def aW:List (Str×Str)->Str->Str
 | [],_=>Str.empty
 | q::r,x=>if q.1=x then q.2 else aW r x
noncomputable def jw (bk:List (Str×Str))(near dz:Int):Bool:=["jump", "zero"].any fun j:String=>decide (((aW bk (Str.ofString ("far" ++ j))).length:Int)+dz<((aW bk (Str.ofString j)).length:Int)+near)
noncomputable def ux:PyData->Bool
 | .int i=>decide (2<=i)&&decide (i<=8)
 | _=>false
noncomputable def Bd (d1:PyData):PyData->PyData->Bool
 | .int n,.int f=>decide (n<f)&&(decide (f<=16) && !jw (cu (fK d1)) n f)
 | _,_=>false
noncomputable def Bs (d1 d4 d5:PyData):Option Str:=if ux d4=false then some "near" else if Bd d1 d4 d5=false then some "far" else none
noncomputable def ki (d1 d2 d3 d4 d5:PyData):Option Str:=
 if cL ax d1=false then some "kinds" else if cL bM d2=false then some "spots" else if cL bp d3=false then some "sizes" else Bs d1 d4 d5
noncomputable def B0:Option Str->V
 | none =>.non
 | some x =>.str x
theorem fg:∀{bk:List (Str×Str)} {x:Str},x∈bk.map (·.1)->gq (dP bk) (.inr x)=some (.str (aW bk x))
 | q::r,x,h=>by
  show gq ((Sum.inr q.1,V.str q.2)::dP r) _=some (.str (if q.1=x then q.2 else aW r x))
  by_cases e:q.1=x
  ·rw[dN (by rw[e]),if_pos e]
  ·rw[dY (fun z=>e (Sum.inr.inj z)),if_neg e]
   refine fg ?_
   rcases Jr.mp h with z|z
   ·exact absurd z.symm e
   ·exact z
theorem wb:∀{bk:List (Str×Str)} (x:Str),(∀q∈bk,q.2.length<=200000)->(aW bk x).length<=200000
 | [],_,_=>Uz _
 | q::r,x,h=>by
  unfold aW
  split
  ·exact h q Js
  ·exact wb x fun z hz=>h z (Jo _ hz)
theorem pZ:∀(kvs acc:List (Key×V)),(kvs.map (·.1)).Nodup->(∀kv∈kvs,gq acc kv.1=none)->ck acc kvs=acc++kvs
 | [],acc,_,_=>by show acc=acc++[];rw[Uw]
 | kv::kvs,acc,nd,h=>by
  rw[Jy] at nd
  obtain⟨n1,n2⟩:=Yi.mp nd
  show ck (putK acc kv.1 kv.2) kvs=_
  rw[BP _ (h kv Js),pZ kvs _ n2 fun kw hw =>?_]
  ·rw[Y8];rfl
  ·rw[qk _ _ _ _ (h kv Js),if_neg (fun z=>n1 (by rw[<-z];exact Y0 hw))]
   exact h kw (Jo _ hw)
theorem dR {bk:List (Str×Str)}(h:(bk.map (·.1)).Nodup):ck [] (dP bk)=dP bk:=by
 have nd:((dP bk).map (·.1)).Nodup:=by
  unfold dP
  rw[Yn]
  refine List.pairwise_map.mpr ((List.pairwise_map.mp h).imp fun{a b} z e=>z (Sum.inr.inj e))
 rw[pZ _ _ nd fun kv _=>rfl]
 rfl
theorem rY {K:Ja}{H:Hp}{bk:List (Str×Str)}{us:List V}(h:aN K H (bk.map fun q =>.tuple [.str q.1,.str q.2]) us):∃as:List Addr,us=as.map V.ref/\as.length=bk.length/\∀(j:Nat) b (kv:Key×V),as[j]? = some b->(dP bk)[j]? = some kv->bF K H b [kV kv.1,kv.2]:=by
 induction bk generalizing us with
 | nil=>
  unfold aN at h
  subst h
  exact⟨[],rfl,rfl,fun j b kv e=>nomatch e⟩
 | cons q bk ih=>
  rw[Jy] at h
  unfold aN at h
  obtain⟨v,r,rfl,hd,h⟩:=h
  obtain⟨as,rfl,hl,hk⟩:=ih h
  unfold Den at hd
  obtain⟨b,vs,rfl,hT,hd⟩:=hd
  unfold aN at hd
  obtain⟨x,r,rfl,hx,hd⟩:=hd
  unfold aN at hd
  obtain⟨y,r,rfl,hy,hd⟩:=hd
  unfold aN at hd
  unfold Den at hx hy
  subst hd hx hy
  refine⟨b::as,rfl,by rw[Jt,Jt,hl],fun j c kv e1 e2 =>?_⟩
  cases j with
  | zero=>cases e1;cases e2;exact hT
  | succ j=>exact hk j c kv e1 e2
theorem mv {K:Ja}{H:Hp}{d:PyData}{bk:List (Str×Str)}{v:V}(h:Den K H d v)(e:fK d=aH bk):∃(p:Addr) (as:List Addr),v = .ref p/\(bq K H p (as.map V.ref)∨bF K H p (as.map V.ref))/\as.length=bk.length/\∀(j:Nat) b (kv:Key×V),as[j]? = some b->(dP bk)[j]? = some kv->bF K H b [kV kv.1,kv.2]:=by
 cases d with
 | list ds=>
  have e:ds=bk.map fun q =>.tuple [.str q.1,.str q.2]:=PyData.list.inj e
  unfold Den at h
  obtain⟨p,us,rfl,hS,hd⟩:=h
  rw[e] at hd
  obtain⟨as,rfl,hl,hk⟩:=rY hd
  exact⟨p,as,rfl,.inl hS,hl,hk⟩
 | tuple ds=>
  have e:ds=bk.map fun q =>.tuple [.str q.1,.str q.2]:=PyData.list.inj e
  unfold Den at h
  obtain⟨p,us,rfl,hS,hd⟩:=h
  rw[e] at hd
  obtain⟨as,rfl,hl,hk⟩:=rY hd
  exact⟨p,as,rfl,.inr hS,hl,hk⟩
 | _=>exact absurd e (by unfold aH fK;exact fun z=>nomatch z)
def vA (K:Ja):Sp:=fun vs H Q _=>∃(v:V) (d:PyData),vs=[v]/\Den K H d v/\∀H',ar H H'->Q (.bl (my d)) H'
def CP (K:Ja):Sp:=fun vs H Q _=>yf fun(v:V) (d:PyData) (bk:List (Str×Str)) (n f:Int)=>vs=[v,.int n,.int f]/\Den K H d v/\fK d=aH bk/\bk.length<=60/\(∀q∈bk,q.2.length<=200000)/\(bk.map (·.1)).Nodup/\(∀x∈ax,x∈bk.map (·.1))/\∀H',ar H H'->Q (.bl (jw bk n f)) H'
section
variable {P:Program}{w:World}{K:Ja}{mg:Str->Option Value}{base:Heap}{f:Addr}{fd:FuncData}{aJ aP aS aZ:Addr}{t1 t2 t3:Tok}
theorem qS:aB ["thing"] ["thing"] (ak (top iu)):=⟨rfl,rfl,rfl,by decide +kernel,rfl,by decide +kernel,by decide +kernel⟩
theorem CY (F:bU K "is_number" "is_number" (top iu) f fd)(T:Nm mg):bh P w K mg base fw 1 f fd ["thing"] (vA K):=by
 refine F.ok qS (fun vs H Q E h =>?_) (fun cH A outer s H vs Q E hr h =>?_)
 ·obtain⟨v,d,rfl,_⟩:=h
  rfl
 obtain⟨v,d,rfl,hd,q⟩:=h
 have hq:=q H (ar.refl _)
 refine⟨_,(ag (av (d6 (ao (iB K) rfl T.n_isinstance (by rfl) (aa (pv 0) (aa (bC rfl T.n_int (by rfl) (v := .ty "int") rfl) ae))) (ji (CA (ao (iB K) rfl T.n_isinstance (by rfl) (aa (pv 0) (aa (bC rfl T.n_bool (by rfl) (v := .ty "bool") rfl) ae)))))))),?_⟩
 refine⟨_,rfl,.inl ⟨_, "int",d,_,rfl,hd,(uw K d).2.1,_,rfl,?_⟩⟩
 cases d with
 | int i=>exact bJ ⟨_,rfl,.inl ⟨_, "bool",.int i,_,rfl,hd,(uw K (.int i)).1,_,rfl,hq⟩⟩
 | bool i=>exact bJ ⟨_,rfl,.inl ⟨_, "bool",.bool i,_,rfl,hd,(uw K (.bool i)).1,_,rfl,hq⟩⟩
 | _=>exact bD hq
theorem fD:aB ["kinds", "near", "far", "codes"] ["kinds", "near", "far"] (ak (top dE)):=⟨rfl,rfl,rfl,by decide +kernel,rfl,by decide +kernel,by decide +kernel⟩
theorem Iw (F:bU K "far_is_shorter" "far_is_shorter" (top dE) f fd)(T:Nm mg)(cn:mg "dict" = none)(sy:mg "JUMPS" = some (.ref aJ))(hJ:∀H,bF K H aJ [V.str "jump",V.str "zero"]):bh P w K mg base fw 1 f fd ["kinds", "near", "far"] (CP K):=by
 refine F.ok fD (fun vs H Q E h =>?_) (fun cH A outer s H vs Q E hr h =>?_)
 ·obtain⟨v,d,bk,n,f,rfl,_⟩:=h
  rfl
 obtain⟨v,d,bk,n,f,rfl,hd,ea,bl,cl,nd,hk,q⟩:=h
 have hu:=qE hr
 have eC:=hr.units
 obtain⟨p,as,rfl,sq,al,hT⟩:=mv hd ea
 have bn:(dP bk).length=bk.length:=by unfold dP;rw[Jd]
 refine⟨_,(af (aA (i:=3) fD.nd rfl (Or.inr rfl) (bf (rN K rfl) rfl cn (by rfl) (aa (pv 0) ae)))
  (ag (av (ao (Ri K rfl) rfl T.n_any (by rfl) (aa (gc rfl (eO (Nc:=["jump"]) (Fc:=["far", "near", "codes"]) (js:=[2,1,3])) (mj K (bW rfl sy)) (cP (i:=0) (n:=1) (by decide)) (fun _ _ _ _ _=>(aQ (i:=0) (Bi ["jump", "far", "near", "codes"]) rfl (Or.inl rfl))) (fun _ _ _ _ _=>fC) (fun _ _ _ _ _=>(dn lF (aD cI (ao (i8 K) rfl T.n_len (by rfl) (aa (bI hu (pv 3) (aD cI au (pv 0)) (fun _ _=>rfl)) ae)) (pv 1)) (aD cI (ao (i8 K) rfl T.n_len (by rfl) (aa (bI hu (pv 3) (pv 0) (fun _ _=>rfl)) ae)) (pv 2)) (aM _)))) ae))))),?_⟩
 refine⟨_,rfl,p,as,dP bk,rfl,sq,by rw[bn];exact al,by rw[bn];omega,hT,fun dd H1 n1=>gn ?_⟩
 rw[dR nd] at n1
 have small:∀{n:Nat},n<=1000000->n<sizeLine:=fun h=>Uj h (by decide)
 let tst:Str->Bool:=fun j=>decide (((aW bk (Str.ofString "far" ++ j)).length:Int)+f<((aW bk j).length:Int)+n)
 have js:∀j∈(["jump", "zero"]:List Str),j∈ax/\(Str.ofString "far" ++ j)∈ax/\j.length<=10:=by decide +kernel
 refine⟨aJ,rfl,⟨_,hJ _⟩,?_⟩
 refine eJ (N:=2) (fun i ys H'=>ar H1 H'/\ys=(((["jump", "zero"]:List Str).take i).map tst).map V.bl) ⟨ar.refl _,rfl⟩ ?_ ?_
 ·rintro i ys H2 Ny hi ⟨s2,rfl⟩ ny
  have SY:([V.str "jump",V.str "zero"]:List V)[i]? = some (.str ((["jump", "zero"]:List Str)[i])):=by
   match i,hi with
   | 0,_=>rfl
   | 1,_=>rfl
  refine⟨⟨_,_,hJ _,SY⟩,small (by rw[Jd,Jd,Uo];omega),?_⟩
  rintro x' H3 ⟨rfl,hy⟩
  have e:=hy _ (hJ _)
  rw[SY] at e;cases e
  obtain⟨j,hj⟩:∃j,j=(["jump", "zero"]:List Str)[i]:=⟨_,rfl⟩
  have jm:=js j (by rw[hj];exact Ul _)
  rw[<-hj]
  refine gn ?_
  have h2:=s2 _ _ n1.at
  have gd:∀{Hx:Hp},Hx dd=some (.dK (dP bk))->∀x,x∈ax->dI Hx dd (.str x) (some (.str (aW bk x))):=fun h x hx=>by
   rw[<-fg (hk x hx)]
   exact dI.k (k := .inr x) h
  have l1:=wb (Str.ofString "far" ++ j) cl
  have l2:=wb j cl
  have lf:(Str.ofString "far").length=3:=rfl
  have sz:∀{x:Str},x.length<=200000->x.length<=sizeLine:=fun h=>Ji h (by decide)
  refine⟨_,rfl,_,rfl,.inr (.inl ⟨_,_,rfl,rfl,Yh (small (by rw[lf];omega)),dd,_,rfl,gd h2 _ jm.2.1,?_⟩)⟩
  refine⟨_,_,rfl,⟨sz l1,rfl⟩,_,rfl,.inl ⟨_,_,rfl,rfl,?_⟩⟩
  refine⟨_,rfl,_,rfl,dd,_,rfl,gd h2 _ jm.1,_,_,rfl,⟨sz l2,rfl⟩,_,rfl,.inl ⟨_,_,rfl,rfl,_,_,rfl,rfl,ny _ _ ⟨s2,?_⟩⟩⟩
  rw[U6 (show i<(["jump", "zero"]:List Str).length from hi),J7,J7,hj]
  rfl
 ·rintro ys H2 ⟨s2,rfl⟩
  refine⟨⟨_,hJ _,Je _⟩,fun pv hp=>⟨pv,_,rfl,bq.of ay,?_⟩⟩
  exact q _ (n1.same.trans (s2.trans (bQ hp _)))
end
noncomputable def GU:PyData->PyData
 | .list ds =>.tuple ds
 | d=>d
structure tI (K:Ja)(H:Hp)(v1 v2 v3 v4 v5:V)(d1 d2 d3 d4 d5:PyData):Prop where
 e1:Den K H d1 v1
 e2:Den K H d2 v2
 e3:Den K H d3 v3
 e4:Den K H d4 v4
 e5:Den K H d5 v5
 f1:G8 d1
 f2:G8 d2
 f3:G8 d3
theorem tI.same {K:Ja}{H H':Hp}{v1 v2 v3 v4 v5:V}{d1 d2 d3 d4 d5:PyData}(h:tI K H v1 v2 v3 v4 v5 d1 d2 d3 d4 d5)(s:ar H H'):tI K H' v1 v2 v3 v4 v5 d1 d2 d3 d4 d5:=⟨h.e1.same s,h.e2.same s,h.e3.same s,h.e4.same s,h.e5.same s,h.f1,h.f2,h.f3⟩
structure Mo (K:Ja)(P:Program)(w:World)(mg:Str->Option Value)(aP aS aZ:Addr)(t1 t2 t3:Tok):Prop where
 gP:mg "PARTS" = some (.ref aP)
 gS:mg "SPOT_NAMES" = some (.ref aS)
 gZ:mg "SIZE_NAMES" = some (.ref aZ)
 P:o7 fun es n kvs=>xP K P w aP es n kvs/\kvs.map (·.1)=ax
 S:∀H,bF K H aS (bM.map V.str)
 Z:∀H,bF K H aZ (bp.map V.str)
 vl:mg "LEAST_NEAR" = some (.int 2 t1)
 vm:mg "MOST_NEAR" = some (.int 8 t2)
 vf:mg "MOST_FAR" = some (.int 16 t3)
def Kc (K:Ja):Sp:=fun vs H Q _=>∃(v1 v2 v3 v4 v5:V) (d1 d2 d3 d4 d5:PyData),vs=[v1,v2,v3,v4,v5]/\tI K H v1 v2 v3 v4 v5 d1 d2 d3 d4 d5/\∀H',ar H H'->Q (B0 (ki d1 d2 d3 d4 d5)) H'
theorem CH {d:PyData}(h:my d=false):ux d=false:=by cases d<;>first|rfl|cases h
theorem yg {d:PyData}(h:my d=true):∃i,d = .int i:=by cases d<;>first|exact⟨_,rfl⟩|cases h
theorem lr:(∀x∈ax,jR x=true)/\(∀x∈bM,jR x=true)/\∀x∈bp,jR x=true:=by decide +kernel
theorem bX:ax.Nodup:=by decide +kernel
section
variable {P:Program}{w:World}{K:Ja}{mg:Str->Option Value}{base:Heap}{f:Addr}{fd:FuncData}{aP aS aZ:Addr}{t1 t2 t3:Tok}
theorem nZ:aB ["kinds", "spots", "sizes", "near", "far"] ["kinds", "spots", "sizes", "near", "far"] (ak (top fF)):=⟨rfl,rfl,rfl,by decide +kernel,rfl,by decide +kernel,by decide +kernel⟩
theorem MT (F:bU K "first_wrong" "first_wrong" (top fF) f fd)(T:Nm mg)(M:Mo K P w mg aP aS aZ t1 t2 t3)(dj:Fn P w K mg base 5 "is_free_book_of" ["thing", "names"] (B3 K))(lK:Fn P w K mg base 1 "is_number" ["thing"] (vA K))(kH:Fn P w K mg base 1 "far_is_shorter" ["kinds", "near", "far"] (CP K)):bh P w K mg base fw 6 f fd ["kinds", "spots", "sizes", "near", "far"] (Kc K):=by
 refine F.ok nZ (fun vs H Q E h =>?_) (fun cH A outer s H vs Q E hr h =>?_)
 ·obtain⟨v1,v2,v3,v4,v5,d1,d2,d3,d4,d5,rfl,_⟩:=h
  rfl
 obtain⟨v1,v2,v3,v4,v5,d1,d2,d3,d4,d5,rfl,D,q⟩:=h
 have eC:=hr.units
 have sC:=M.gP
 have qK:=M.gS
 have de:=M.gZ
 have kj:=M.vl
 have lI:=M.vm
 have mF:=M.vf
 obtain⟨es,n,kvs,KD,ek⟩:=M.P
 refine⟨_,(af (bt (cR (bR (aG (dj.mono (by decide)) hr rfl (aa (pv 0) (aa (bf (Kp rfl) rfl T.n_list (by rfl) (aa (bW rfl sC) ae)) ae))))) (ag (av au)) aF)
  (af (bt (cR (bR (aG (dj.mono (by decide)) hr rfl (aa (pv 1) (aa (bW rfl qK) ae))))) (ag (av au)) aF)
  (af (bt (cR (bR (aG (dj.mono (by decide)) hr rfl (aa (pv 2) (aa (bW rfl de) ae))))) (ag (av au)) aF)
  (af (bt (PW.pt (je (cR (bR (aG (lK.mono (by decide)) hr rfl (aa (pv 3) ae)))) (iP (cR (ua nL nL (kF rfl kj) (pv 3) (kF rfl lI)))))) (ag (av au)) aF)
  (af (bt (PW.pt (je (cR (bR (aG (lK.mono (by decide)) hr rfl (aa (pv 4) ae)))) (je (cR (ua lF nL (pv 3) (pv 4) (kF rfl mF))) (iP (bR (aG (kH.mono (by decide)) hr rfl (aa (pv 0) (aa (pv 3) (aa (pv 4) ae))))))))) (ag (av au)) aF)
  (ag (av cS))))))),?_⟩
 refine⟨_,rfl,aP,es,n,kvs,rfl,KD,by have:=congrArg List.length ek;rw[Jd] at this;rw[this];decide,fun p H1 n1 =>?_⟩
 rw[ek] at n1
 refine⟨v1,d1,p,ax,rfl,D.e1.same n1.same,D.f1,.inl (bq.of n1.at),by decide,lr.1,fun H2 s2=>⟨_,rfl,?_⟩⟩
 have yK:=n1.same.trans s2
 have D2:=D.same yK
 have wy:∀{y:Option Str},ki d1 d2 d3 d4 d5=y->∀H',ar H H'->Q (B0 y) H':=fun e H' sm=>by rw[<-e];exact q H' sm
 cases h1:cL ax d1 with
 | false=>exact bJ (wy (if_pos h1) _ yK)
 | true=>
 have Rj:¬cL ax d1=false:=by rw[h1];decide
 refine bD ?_
 dsimp only[bZ]
 refine⟨_,rfl,v2,d2,aS,bM,rfl,D2.e2,D2.f2,.inr (M.S _),by decide,lr.2.1,fun H3 s3=>⟨_,rfl,?_⟩⟩
 have Qi:=yK.trans s3
 have D3:=D.same Qi
 cases h2:cL bM d2 with
 | false=>exact bJ (wy ((if_neg Rj).trans (if_pos h2)) _ Qi)
 | true=>
 have S5:¬cL bM d2=false:=by rw[h2];decide
 refine bD ?_
 dsimp only[bZ]
 refine⟨_,rfl,v3,d3,aZ,bp,rfl,D3.e3,D3.f3,.inr (M.Z _),by decide,lr.2.2,fun H4 s4=>⟨_,rfl,?_⟩⟩
 have IH:=Qi.trans s4
 have D4:=D.same IH
 cases h3:cL bp d3 with
 | false=>exact bJ (wy ((if_neg Rj).trans ((if_neg S5).trans (if_pos h3))) _ IH)
 | true=>
 have UM:¬cL bp d3=false:=by rw[h3];decide
 have wy:∀{y:Option Str},Bs d1 d4 d5=y->∀H',ar H H'->Q (B0 y) H':=fun e H' sm=>wy ((if_neg Rj).trans ((if_neg S5).trans ((if_neg UM).trans e))) H' sm
 refine bD ?_
 dsimp only[bZ]
 refine⟨_,rfl,v4,d4,rfl,D4.e4,fun H5 s5=>⟨_,rfl,?_⟩⟩
 have Mj:=IH.trans s5
 have D5:=D.same Mj
 cases hd4:my d4 with
 | false=>exact bJ (bJ (wy (if_pos (CH hd4)) _ Mj))
 | true=>
 obtain⟨i,rfl⟩:=yg hd4
 have e4:v4 = .int i:=by have:=D.e4;unfold Den at this;exact this
 subst e4
 refine bD ?_
 have nF:¬(2<=i/\i<=8)->Bs d1 (.int i) d5=some "near":=fun h=>if_pos (by
  show(decide (2<=i)&&decide (i<=8))=false
  rw[Bool.and_eq_false_iff]
  by_cases z:2<=i
  ·exact .inr (decide_eq_false fun y=>h ⟨z,y⟩)
  ·exact .inl (decide_eq_false z))
 refine⟨_,rfl,_,_,rfl,rfl,_,rfl,fG (fun c1 =>?_) (fun c1=>⟨_,rfl,bJ (wy (nF fun z=>c1 (decide_eq_true z.1)) _ Mj)⟩)⟩
 have c1:2<=i:=of_decide_eq_true c1
 refine⟨_,_,rfl,rfl,_,rfl,?_⟩
 by_cases c2:i<=8
 case neg=>
  rw[decide_eq_false c2]
  exact bJ (wy (nF fun z=>c2 z.2) _ Mj)
 rw[decide_eq_true c2]
 refine bD ?_
 dsimp only[bZ]
 have wy:∀{y:Option Str},(if Bd d1 (.int i) d5=false then some (Str.ofString "far") else none)=y->∀H',ar H H'->Q (B0 y) H':=fun e H' sm=>wy ((if_neg (by
  show ¬(decide (2<=i)&&decide (i<=8))=false
  rw[decide_eq_true c1,decide_eq_true c2];decide)).trans e) H' sm
 refine⟨_,rfl,v5,d5,rfl,D5.e5,fun H6 s6=>⟨_,rfl,?_⟩⟩
 have NB:=Mj.trans s6
 have D6:=D.same NB
 cases OK:my d5 with
 | false=>exact bJ (bJ (wy (if_pos (by cases d5<;>first|rfl|cases OK)) _ NB))
 | true=>
 obtain⟨j,rfl⟩:=yg OK
 have e5:v5 = .int j:=by have:=D.e5;unfold Den at this;exact this
 subst e5
 refine bD ?_
 have nG:¬(i<j/\j<=16/\jw (cu (fK d1)) i j=false)->Bd d1 (.int i) (.int j)=false:=fun h=>by
  show(decide (i<j)&&(decide (j<=16) && !jw (cu (fK d1)) i j))=false
  by_cases z:i<j
  ·by_cases y:j<=16
   ·rw[decide_eq_true z,decide_eq_true y]
    cases e:jw (cu (fK d1)) i j with
    | true=>rfl
    | false=>exact absurd ⟨z,y,e⟩ h
   ·rw[decide_eq_true z,decide_eq_false y];rfl
  ·rw[decide_eq_false z];rfl
 refine⟨_,rfl,_,rfl,_,_,rfl,rfl,_,rfl,fG (fun c3 =>?_) (fun c3=>⟨_,rfl,bJ (bJ (wy (if_pos (nG fun z=>c3 (decide_eq_true z.1))) _ NB))⟩)⟩
 have c3:i<j:=of_decide_eq_true c3
 refine⟨_,_,rfl,rfl,_,rfl,?_⟩
 by_cases c4:j<=16
 case neg=>
  rw[decide_eq_false c4]
  exact bJ (bJ (wy (if_pos (nG fun z=>c4 z.2.1)) _ NB))
 rw[decide_eq_true c4]
 refine bD ?_
 have bo:cF (fK d1)=true/\((cu (fK d1)).map (·.1)).Perm ax:=by
  have z:=h1
  unfold cL at z
  rw[Ju,Ju] at z
  exact⟨z.1,of_decide_eq_true z.2.1⟩
 obtain⟨eb,_⟩:=xM bo.1
 have wO:=bo.2.length_eq
 rw[Jd] at wO
 refine⟨_,rfl,_,rfl,_,rfl,v1,d1,cu (fK d1),i,j,rfl,D6.e1,eb,by rw[wO];decide,D.f1.cd,bo.2.nodup_iff.mpr bX,fun x hx=>bo.2.mem_iff.mpr hx,fun H7 s7=>⟨_,rfl,?_⟩⟩
 have TV:=NB.trans s7
 cases hf:jw (cu (fK d1)) i j with
 | true=>exact bJ (wy (if_pos (nG fun z=>by rw[hf] at z;exact absurd z.2.2 (by decide))) _ TV)
 | false=>
  refine bD ?_
  dsimp only[bZ]
  refine wy (if_neg ?_) _ TV
  show ¬(decide (i<j)&&(decide (j<=16) && !jw (cu (fK d1)) i j))=false
  rw[decide_eq_true c3,decide_eq_true c4,hf];decide
end
end Z
namespace L2
open PySem
theorem jY (K:Ja){X:Cx}{e:Expr}{f:Str}{pos:Pos}{ta:TE}(he:PE X e ta)(hb:attributeBase e f X.env (eval e X.env)=eval e X.env)(hK:X.K=K:=by rfl):PE X (.Attribute e f pos) (LK K ta f):=by subst hK;exact KB he hb
end L2
namespace Z
open PySem L2
structure Fh (K:Ja)(CF:Addr):Prop where
 c:GR K CF
 n1:eT K CF "kinds"
 n2:eT K CF "spots"
 n3:eT K CF "sizes"
 n4:eT K CF "near"
 n5:eT K CF "far"
def gB (K:Ja)(CF:Addr)(H:Hp)(m:Addr)(d1 d2 d3 d4 d5:PyData):Prop:=D0 fun(dx:Addr) (w1 w2 w3 w4 w5:V)=>H m=some (.ins CF dx [("kinds",w1),("spots",w2),("sizes",w3),("near",w4),("far",w5)]) /\
 Den K H (GU d1) w1/\Den K H (GU d2) w2/\Den K H (GU d3) w3/\Den K H d4 w4/\Den K H d5 w5
theorem gB.same {K:Ja}{CF:Addr}{H H':Hp}{m:Addr}{d1 d2 d3 d4 d5:PyData}(h:gB K CF H m d1 d2 d3 d4 d5)(s:ar H H'):gB K CF H' m d1 d2 d3 d4 d5:=by
 obtain⟨dx,w1,w2,w3,w4,w5,e,h1,h2,h3,h4,h5⟩:=h
 exact⟨dx,w1,w2,w3,w4,w5,s _ _ e,h1.same s,h2.same s,h3.same s,h4.same s,h5.same s⟩
def Ms (K:Ja)(CF C:Addr):Sp:=fun vs H Q E=>eu fun(H0:Hp) (m:Addr)=>D0 fun dx v1 v2 v3 v4 v5=>yf fun d1 d2 d3 d4 d5=>vs=[.ref m,v1,v2,v3,v4,v5]/\ar H0 H/\H0 m=none/\H m=some (.ins CF dx [])/\tI K H0 v1 v2 v3 v4 v5 d1 d2 d3 d4 d5 /\
 (ki d1 d2 d3 d4 d5=none->∀H',ar H0 H'->gB K CF H' m d1 d2 d3 d4 d5->Q .non H') /\
 (∀y,ki d1 d2 d3 d4 d5=some y->∀ex H',ar H0 H'->H' ex=some (.xd [("why",.str y)])->E (.ref C) (some ex) H')
theorem yB {H:Hp}{m:Addr}:ar (oY H m) H:=fun a o e=>by
 by_cases z:a=m
 ·rw[z,fq] at e;cases e
 ·rw[cy z] at e;exact e
theorem uE {H H':Hp}{m:Addr}(s:ar H H'):ar (oY H m) (oY H' m):=fun a o e=>by
 by_cases z:a=m
 ·rw[z,fq] at e;cases e
 ·rw[cy z] at e ⊢;exact s _ _ e
theorem mn {H:Hp}{m:Addr}{o:HO}:oY (upd H m o) m=oY H m:=by
 funext a
 by_cases z:a=m
 ·rw[z,fq,fq]
 ·rw[cy z,cy z,aj z]
theorem yq {H0 H:Hp}{m:Addr}(s:ar H0 H)(n:H0 m=none):ar H0 (oY H m):=fun a o e=>by
 rw[cy (aw e n)];exact s _ _ e
theorem sA {ns:List Str}{d:PyData}(h:cL ns d=true):∃ds,d = .list ds∨d = .tuple ds:=by
 unfold cL at h
 rw[Ju] at h
 cases d with
 | list ds=>exact⟨ds,.inl rfl⟩
 | tuple ds=>exact⟨ds,.inr rfl⟩
 | _=>exact absurd h.1 (by unfold fK cF;exact fun z=>nomatch z)
theorem Cp {d1 d2 d3 d4 d5:PyData}(h:ki d1 d2 d3 d4 d5=none):cL ax d1=true/\cL bM d2=true/\cL bp d3=true:=by
 unfold ki at h
 cases h1:cL ax d1 with
 | false=>rw[if_pos h1] at h;cases h
 | true=>
  rw[if_neg (by rw[h1];decide)] at h
  cases h2:cL bM d2 with
  | false=>rw[if_pos h2] at h;cases h
  | true=>
   rw[if_neg (by rw[h2];decide)] at h
   cases h3:cL bp d3 with
   | false=>rw[if_pos h3] at h;cases h
   | true=>exact⟨rfl,rfl,rfl⟩
theorem wz {K:Ja}{H:Hp}{m:Addr}{o:HO}{d:PyData}{v:V}{Q:VK}{σ:St}{i:Nat}(hv: σ[i]? = some (some v))(hm:H m=some o)(hd:Den K (oY H m) d v)(hs:∃ds,d = .list ds∨d = .tuple ds)
  (k:∀w H',ar (oY H m) (oY H' m)->H' m=some o->Den K (oY H' m) (GU d) w->Q w H'):Qo (fun xs H Q=>∃p ys,xs=[.ref p]/\((bq K H p ys/\∀l H',gY H l (.tup ys) H'->Q (.ref l) H')∨(bF K H p ys/\Q (.ref p) H))) (GV (Ie i) Ge) σ H Q:=by
 refine⟨_,hv,?_⟩
 obtain⟨ds,rfl|rfl⟩:=hs
 ·unfold Den at hd
  obtain⟨p,us,rfl,hS,hD⟩:=hd
  refine⟨p,us,rfl,.inl ⟨yB.seq hS,fun l H' n =>?_⟩⟩
  have nl:l≠m:=fun z=>by have:=n.nn;rw[z,hm] at this;cases this
  refine k _ _ (uE n.same) (n.same _ _ hm) ?_
  show Den K (oY H' m) (.tuple ds) (.ref l)
  unfold Den
  exact⟨l,us,rfl,bF.of (by rw[cy nl];exact n.at),hD.same (uE n.same)⟩
 ·have Ff:=hd
  unfold Den at Ff
  obtain⟨p,us,rfl,hS,hD⟩:=Ff
  exact⟨p,us,rfl,.inr ⟨yB.cQ hS,k _ _ (ar.refl _) hm hd⟩⟩
section
variable {P:Program}{w:World}{K:Ja}{mg:Str->Option Value}{base:Heap}{f fi:Addr}{fd La:FuncData}{C CF:Addr}
theorem pK:aB ["self", "why"] ["self", "why"] (ak (inClass (top fR) 0)):=⟨rfl,rfl,rfl,by decide +kernel,rfl,by decide +kernel,by decide +kernel⟩
def yx (C:Addr)(f:Str):Sp:=fun vs H Q _=>∃(e:Addr) (v:V),vs=[.ref e,v]/\H e=some (uo e C)/\∀dx,H dx=none->dx≠e->Q .non (upd (upd H e (A5 e C dx)) dx (.xd [(f,v)]))
theorem pE (F:bU K "__init__" "NoForm.__init__" (inClass (top fR) 0) f fd)(S:ja K C "why"):bh P w K mg base fw 1 f fd ["self", "why"] (yx C "why"):=by
 refine F.ok pK (fun vs H Q E h =>?_) (fun cH A outer s H vs Q E hr h =>?_)
 ·obtain⟨e,v,rfl,_⟩:=h
  rfl
 obtain⟨e,v,rfl,he,q⟩:=h
 refine⟨_,(ag (yi (pv 0) (pv 1) rfl)),?_⟩
 exact⟨_,rfl,_,rfl,e,C,rfl,he,S,fun dx h1 h2=>q dx h1 h2⟩
theorem j7:aB ["self", "kinds", "spots", "sizes", "near", "far", "why"] ["self", "kinds", "spots", "sizes", "near", "far"] (ak (inClass (top la) 0)):=⟨rfl,rfl,rfl,by decide +kernel,rfl,by decide +kernel,by decide +kernel⟩
theorem Mw (F:bU K "__init__" "Form.__init__" (inClass (top la) 0) f fd)(T:Nm mg)(MF:Fh K CF)(fZ:mg "NoForm" = some (.ref C))(nJ:IB K C fi)(nI:bh P w K mg base fw 1 fi La ["self", "why"] (yx C "why"))(mR:Binds K La ["self", "why"] [])(o8:Fn P w K mg base 6 "first_wrong" ["kinds", "spots", "sizes", "near", "far"] (Kc K)):
  bh P w K mg base (nU P w base) 7 f fd ["self", "kinds", "spots", "sizes", "near", "far"] (Ms K CF C):=by
 refine F.NA j7 (fun vs H Q E h =>?_) (fun cH A outer s H vs Q E hr h =>?_)
 ·obtain⟨H0,m,dx,v1,v2,v3,v4,v5,d1,d2,d3,d4,d5,rfl,_⟩:=h
  rfl
 obtain⟨H0,m,dx,v1,v2,v3,v4,v5,d1,d2,d3,d4,d5,rfl,sm,nm,hm,D,qY,qN⟩:=h
 have eC:=hr.units
 refine⟨_,(af (aA (i:=6) j7.nd rfl (Or.inl rfl) (aG (o8.mono (by decide)) hr rfl (aa (pv 1) (aa (pv 2) (aa (pv 3) (aa (pv 4) (aa (pv 5) ae)))))))
  (af (bt (aI yJ (pv 6) cS (aM _)) (ag (pX (k:=1) nJ nI (hr.mono (by decide)) rfl fZ mR (aa (pv 6) ae))) aF)
  (af (ou (pv 0) (bf (nY K) rfl T.n_tuple (by rfl) (aa (pv 1) ae)) rfl)
  (af (ou (pv 0) (bf (nY K) rfl T.n_tuple (by rfl) (aa (pv 2) ae)) rfl)
  (af (ou (pv 0) (bf (nY K) rfl T.n_tuple (by rfl) (aa (pv 3) ae)) rfl)
  (af (ou (pv 0) (pv 4) rfl)
  (ag (ou (pv 0) (pv 5) rfl)))))))),?_⟩
 have nb:∀{Hx:Hp} {a:Addr},ar H Hx->Hx a=none->H a=none:=fun{Hx a} s h=>by
  cases e:H a with
  | none=>rfl
  | some o=>rw[s _ _ e] at h;cases h
 refine⟨_,rfl,_,rfl,_,rfl,_,rfl,_,rfl,v1,v2,v3,v4,v5,d1,d2,d3,d4,d5,rfl,D.same sm,fun H1 s1=>gn ?_⟩
 have Qb:=sm.trans s1
 refine⟨_,rfl,.inl ⟨rfl,?_⟩⟩
 cases hw:ki d1 d2 d3 d4 d5 with
 | some y=>
  refine⟨_,rfl,bJ ?_⟩
  refine⟨_,rfl,by show 1<=1000;decide,fun e he=>⟨e,.str y,rfl,ay,fun dx c1 c2=>⟨rfl,e,dx,rfl,?_,nb s1 he,?_⟩⟩⟩
  ·rw[aj (Ne.symm c2),ay]
  ·refine qN y hw dx _ (fun a o z =>?_) ?_
   ·have z1:=Qb _ _ z
    have na:a≠e:=aw z1 he
    have nd:a≠dx:=fun y=>by
     rw[aj c2,<-y,z1] at c1
     cases c1
    rw[cy na,aj nd,aj na,aj na]
    exact z1
   ·rw[cy c2,ay]
 | none=>
  refine⟨_,rfl,bD ?_⟩
  obtain⟨o1,o2,o3⟩:=Cp hw
  have D1:=D.same (yq Qb nm)
  dsimp only[bZ]
  unfold EJ LQ
  dsimp only
  refine wz (by rfl) (s1 _ _ hm) D1.e1 (sA o1) fun w1 H2 s2 m2 t1 =>?_
  refine⟨_,rfl,m,CF,dx,_,rfl,m2,MF.c,MF.n1,by show 0<1000;decide,?_⟩
  refine wz (by rfl) ay (mn▸D1.e2.same s2) (sA o2) fun w2 H3 s3 m3 t2 =>?_
  rw[mn] at s3
  refine⟨_,rfl,m,CF,dx,_,rfl,m3,MF.c,MF.n2,by show 1<1000;decide,?_⟩
  refine wz (by rfl) ay (mn▸D1.e3.same (s2.trans s3)) (sA o3) fun w3 H4 s4 m4 t3 =>?_
  rw[mn] at s4
  refine⟨_,rfl,m,CF,dx,_,rfl,m4,MF.c,MF.n3,by show 2<1000;decide,?_⟩
  refine⟨_,rfl,_,rfl,m,CF,dx,_,rfl,ay,MF.c,MF.n4,by show 3<1000;decide,?_⟩
  refine⟨_,rfl,_,rfl,m,CF,dx,_,rfl,ay,MF.c,MF.n5,by show 4<1000;decide,?_⟩
  have IH:=s2.trans (s3.trans s4)
  have fin:∀{Hx:Hp},ar (oY Hx m) (oY H4 m)->∀{o p q:HO},ar (oY Hx m) (upd (upd (upd H4 m o) m p) m q):=fun{Hx} h {o p q}=>h.trans fun a u e=>by
   have na:a≠m:=fun y=>by rw[y,fq] at e;cases e
   rw[cy na] at e
   rw[aj na,aj na,aj na]
   exact e
  refine qY hw _ ?_ ⟨dx,w1,w2,w3,v4,v5,?_,?_,?_,?_,?_,?_⟩
  ·exact fun a o e=>by
    have z:=((yq Qb nm).trans IH) _ _ e
    have na:a≠m:=fun y=>by rw[y,nm] at e;cases e
    rw[cy na] at z
    rw[aj na,aj na,aj na]
    exact z
  ·exact ay
  ·exact t1.same (fin (s3.trans s4))
  ·exact t2.same (fin s4)
  ·exact t3.same (fin (ar.refl _))
  ·exact D1.e4.same (fin IH)
  ·exact D1.e5.same (fin IH)
end
theorem sG (ks:List Str)(x:Str):G1 (.str x) (ks.map V.str)=ks.contains x:=by
 unfold G1
 rw[List.any_map,List.contains_eq_any_beq]
 congr 1
 funext y
 show FF (.str y) (.str x)=(x==y)
 show(y==x)=(x==y)
 rw[Y6,beq_iff_eq,beq_iff_eq]
 exact eq_comm
theorem pB {x:Str}{A B:Prop}(q:A):if decide (V.str x=V.str x)=true then A else B:=by
 rw[decide_eq_true rfl];exact bJ q
theorem eF {x y:Str}{A B:Prop}(q:B)(h:(x==y)=false:=by decide +kernel):if decide (V.str x=V.str y)=true then A else B:=by
 rw[decide_eq_false (fun z=>by injection z with z;rw[z,beq_self_eq_true] at h;cases h)];exact bD q
theorem DP {ks:List Str}{x:Str}{A B:Prop}(q:B)(h:ks.contains x=false:=by decide +kernel):if (if false=true then !G1 (.str x) (ks.map V.str) else G1 (.str x) (ks.map V.str))=true then A else B:=by
 rw[if_neg Jm,sG,h];exact bD q
theorem DU {ks:List Str}{x:Str}{A B:Prop}(q:A)(h:ks.contains x=true:=by decide +kernel):if (if false=true then !G1 (.str x) (ks.map V.str) else G1 (.str x) (ks.map V.str))=true then A else B:=by
 rw[if_neg Jm,sG,h];exact bJ q
theorem qA {α:Type}{l:List α}{i:Nat}(h:i<l.length):l.take (i+1)=l.take i++[l[i]]:=by
 rw[List.take_succ,Jc h];rfl
def IA (K:Ja)(CF C:Addr):Sp:=fun vs H Q E=>D0 fun(lp:Addr) v1 v2 v3 v4 v5=>yf fun d1 d2 d3 d4 d5=>vs=[.ref lp]/\bq K H lp [v1,v2,v3,v4,v5]/\tI K H v1 v2 v3 v4 v5 d1 d2 d3 d4 d5 /\
 (ki d1 d2 d3 d4 d5=none->∀m H',ar H H'->H m=none->gB K CF H' m d1 d2 d3 d4 d5->Q (.ref m) H') /\
 (∀y,ki d1 d2 d3 d4 d5=some y->∀ex H',ar H H'->H' ex=some (.xd [("why",.str y)])->E (.ref C) (some ex) H')
def CL (K:Ja)(CF:Addr):Sp:=fun vs H Q _=>D0 fun(lp:Addr) v1 v2 v3 v4 v5=>yf fun d1 d2 d3 d4 d5=>vs=[.ref lp]/\bq K H lp [v1,v2,v3,v4,v5]/\tI K H v1 v2 v3 v4 v5 d1 d2 d3 d4 d5/\ki d1 d2 d3 d4 d5=none /\
 ∀m H',ar H H'->H m=none->gB K CF H' m d1 d2 d3 d4 d5->Q (.ref m) H'
theorem JD {K:Ja}{CF C:Addr}{vs:List V}{H:Hp}{Q:VK}{E:XK}(h:CL K CF vs H Q E):IA K CF C vs H Q (fun _ _ _=>False):=by
 obtain⟨lp,v1,v2,v3,v4,v5,d1,d2,d3,d4,d5,rfl,hl,D,hw,q⟩:=h
 exact⟨lp,v1,v2,v3,v4,v5,d1,d2,d3,d4,d5,rfl,hl,D,fun _ m H' s n fo=>q m H' s n fo,fun y hy=>by rw[hw] at hy;cases hy⟩
section
variable {P:Program}{w:World}{K:Ja}{mg:Str->Option Value}{base:Heap}{f:Addr}{fd:FuncData}{C CF cO c1 c2 c3 c4 c5 c6 c7 gi:Addr}{Qc:FuncData}
theorem ur:aB ["_law_parts_here"] ["_law_parts_here"] (ak (top jj)):=⟨rfl,rfl,rfl,by decide +kernel,rfl,by decide +kernel,by decide +kernel⟩
theorem MI (F:bU K "_law_form" "_law_form" (top jj) f fd)(T:Nm mg)(EN:Mk K CF gi)(wV:mg "Form" = some (.ref CF))(Fq:bh P w K mg base (nU P w base) 7 gi Qc ["self", "kinds", "spots", "sizes", "near", "far"] (Ms K CF C))(Ed:Binds K Qc ["self", "kinds", "spots", "sizes", "near", "far"] []):
  bh P w K mg base (nU P w base) 9 f fd ["_law_parts_here"] (IA K CF C):=by
 refine F.NA ur (fun vs H Q E h =>?_) (fun cH A outer s H vs Q E hr h =>?_)
 ·obtain⟨lp,v1,v2,v3,v4,v5,d1,d2,d3,d4,d5,rfl,_⟩:=h
  rfl
 obtain⟨lp,v1,v2,v3,v4,v5,d1,d2,d3,d4,d5,rfl,hl,D,qY,qN⟩:=h
 have eC:=hr.units
 refine⟨_,(ag (av (ET EN (Fq.mono (by first|decide|exact Je _)) (hr.mono (by first|decide|exact Je _)) rfl wV Ed .nil (qg (E':=E) fun _ _ _ z=>z) (aa (bA (gW K) (pv 0) ah (fun _ _=>rfl)) (aa (bA (gW K) (pv 0) ah (fun _ _=>rfl)) (aa (bA (gW K) (pv 0) ah (fun _ _=>rfl)) (aa (bA (gW K) (pv 0) ah (fun _ _=>rfl)) (aa (bA (gW K) (pv 0) ah (fun _ _=>rfl)) ae)))))))),?_⟩
 have ix:∀{i:Int} {v:V},([v1,v2,v3,v4,v5]:List V)[i.toNat]? = some v->True:=fun _=>trivial
 refine⟨_,rfl,.inl ⟨lp,_,_,v1,rfl,rfl,hl,rfl,_,rfl,.inl ⟨lp,_,_,v2,rfl,rfl,hl,rfl,_,rfl,.inl ⟨lp,_,_,v3,rfl,rfl,hl,rfl,_,rfl,.inl ⟨lp,_,_,v4,rfl,rfl,hl,rfl,_,rfl,.inl ⟨lp,_,_,v5,rfl,rfl,hl,rfl,fun x dx hx hdx ne =>?_⟩⟩⟩⟩⟩⟩
 refine⟨H,x,dx,v1,v2,v3,v4,v5,d1,d2,d3,d4,d5,rfl,(bQ hdx _).trans (bQ (by rw[aj (Ne.symm ne)];exact hx) _),hx,ay,D,fun e H' s fo=>⟨rfl,qY e x H' s hx fo⟩,qN⟩
end
def rV (K:Ja)(n:Nat):Sp:=fun vs H Q _=>o7 fun(v1 v2:V) (d:PyData)=>vs=[v1,v2]/\Den K H d v1/\Den K H d v2/\d.depth<n/\d.weight<=1000000/\∀H',ar H H'->Q (.bl true) H'
section
variable {P:Program}{w:World}{K:Ja}{mg:Str->Option Value}{base:Heap}{f:Addr}{fd:FuncData}
theorem uC:aB ["_law_found", "_law_due"] ["_law_found", "_law_due"] (ak (top ju)):=⟨rfl,rfl,rfl,by decide +kernel,rfl,by decide +kernel,by decide +kernel⟩
theorem Fg {n:Nat}(F:bU K "_law_same" "_law_same" (top ju) f fd)(T:Nm mg)(gM:Fn P w K mg base n "_law_same" ["_law_found", "_law_due"] (rV K n)):bh P w K mg base fw (n+1) f fd ["_law_found", "_law_due"] (rV K (n+1)):=by
 refine F.ok uC (fun vs H Q E h =>?_) (fun cH A outer s H vs Q E hr h =>?_)
 ·obtain⟨v1,v2,d,rfl,_⟩:=h
  rfl
 obtain⟨v1,v2,d,rfl,d1,d2,hn,hw,q⟩:=h
 have eC:=hr.units
 refine⟨_,(af (bt (aI Dh (pv 1) cS (aM _)) (ag (av (dn Dh (pv 0) cS (aM _)))) aF)
  (af (bt (bR (ao (iB K) rfl T.n_isinstance (by rfl) (aa (pv 1) (aa (bC rfl T.n_bool (by rfl) (v := .ty "bool") rfl) ae)))) (ag (av (d6 (ao (iB K) rfl T.n_isinstance (by rfl) (aa (pv 0) (aa (bC rfl T.n_bool (by rfl) (v := .ty "bool") rfl) ae))) (ji (dn (o9 K eC) (pv 0) (pv 1) (aM _)))))) aF)
  (af (bt (bR (ao (LD K) rfl T.n_isinstance (by rfl) (aa (pv 1) (aa (fh (aa (bC rfl T.n_list (by rfl) (v := .ty "list") rfl) (aa (bC rfl T.n_tuple (by rfl) (v := .ty "tuple") rfl) ae))) ae)))) (af (bt (PW.pt (je (aI (Kk K eC) (ao (iB K) rfl T.n_isinstance (by rfl) (aa (pv 0) (aa (bC rfl T.n_list (by rfl) (v := .ty "list") rfl) ae))) (ao (iB K) rfl T.n_isinstance (by rfl) (aa (pv 1) (aa (bC rfl T.n_list (by rfl) (v := .ty "list") rfl) ae))) (aM _)) (iP (aI (Kk K eC) (ao (iB K) rfl T.n_isinstance (by rfl) (aa (pv 0) (aa (bC rfl T.n_tuple (by rfl) (v := .ty "tuple") rfl) ae))) (ao (iB K) rfl T.n_isinstance (by rfl) (aa (pv 1) (aa (bC rfl T.n_tuple (by rfl) (v := .ty "tuple") rfl) ae))) (aM _))))) (ag (av j5)) aF)
  (af (bt (aI (Kk K eC) (ao (i8 K) rfl T.n_len (by rfl) (aa (pv 0) ae)) (ao (i8 K) rfl T.n_len (by rfl) (aa (pv 1) ae)) (aM _)) (ag (av j5)) aF)
  (ag (av (ao (M1 K rfl) rfl T.n_all (by rfl) (aa (gc rfl (eO (Nc:=["_law_one", "_law_other"]) (Fc:=[]) (js:=[])) (xZ K rfl T.n_zip (aa (pv 0) (aa (pv 1) ae))) (wo (fQ (cP (i:=0) (n:=2) (by decide)) (fQ (cP (i:=1) (n:=2) (by decide)) rz eN iR) eN (nB eN iR))) (fun _ _ _ _ _=>(tupK K 2 rfl (aY (aQ (i:=0) (Bi ["_law_one", "_law_other"]) rfl (Or.inl rfl)) (aY (aQ (i:=1) (Bi ["_law_one", "_law_other"]) rfl (Or.inl rfl)) cY)))) (fun _ _ _ _ _=>fC) (fun _ _ _ _ _=>(aG (gM.mono (by first|decide|exact Je _|omega)) hr rfl (aa (pv 0) (aa (pv 1) ae))))) ae)))))) aF)
  (af (bt (bR (ao (iB K) rfl T.n_isinstance (by rfl) (aa (pv 1) (aa (bC rfl T.n_str (by rfl) (v := .ty "str") rfl) ae)))) (ag (av (d6 (ao (iB K) rfl T.n_isinstance (by rfl) (aa (pv 0) (aa (bC rfl T.n_str (by rfl) (v := .ty "str") rfl) ae))) (ji (dn (o9 K eC) (pv 0) (pv 1) (aM _)))))) aF)
  (ag (av (d6 (ao (iB K) rfl T.n_isinstance (by rfl) (aa (pv 0) (aa (bC rfl T.n_int (by rfl) (v := .ty "int") rfl) ae))) (d6 (CA (ao (iB K) rfl T.n_isinstance (by rfl) (aa (pv 0) (aa (bC rfl T.n_bool (by rfl) (v := .ty "bool") rfl) ae)))) (ji (dn (o9 K eC) (pv 0) (pv 1) (aM _))))))))))),?_⟩
 cases d with
 | none=>
  have CO:=d1
  have Cb:=d2
  unfold Den at CO Cb
  subst CO Cb
  exact⟨_,rfl,.inl ⟨rfl,_,rfl,bJ ⟨_,rfl,.inl ⟨rfl,q H (ar.refl _)⟩⟩⟩⟩
 | bool b=>
  have CO:=d1
  have Cb:=d2
  unfold Den at CO Cb
  subst CO Cb
  refine⟨_,rfl,.inl ⟨rfl,_,rfl,bD ?_⟩⟩
  refine⟨_,rfl,.inl ⟨_, "bool",.bool b,true,rfl,d2,rfl,_,rfl,bJ ?_⟩⟩
  refine⟨_,rfl,.inl ⟨_, "bool",.bool b,true,rfl,d1,rfl,_,rfl,bJ ⟨_,rfl,_,rfl,.inl ⟨rfl,?_⟩⟩⟩⟩
  rw[decide_eq_true rfl]
  exact q H (ar.refl _)
 | int i=>
  have CO:=d1
  have Cb:=d2
  unfold Den at CO Cb
  subst CO Cb
  refine⟨_,rfl,.inl ⟨rfl,_,rfl,bD ?_⟩⟩
  refine⟨_,rfl,.inl ⟨_, "bool",.int i,false,rfl,d2,rfl,_,rfl,bD ?_⟩⟩
  refine⟨_,rfl,by show 2<=sizeLine;decide,fun p H1 n1=>⟨_,p,["list", "tuple"],.int i,false,rfl,n1.at,d2,rfl,_,rfl,bD ?_⟩⟩
  refine⟨_,rfl,.inl ⟨_, "str",.int i,false,rfl,d2,rfl,_,rfl,bD ?_⟩⟩
  refine⟨_,rfl,.inl ⟨_, "int",.int i,true,rfl,d1,rfl,_,rfl,bJ ⟨_,rfl,.inl ⟨_, "bool",.int i,false,rfl,d1,rfl,_,rfl,_,rfl,bJ ⟨_,rfl,_,rfl,.inl ⟨rfl,?_⟩⟩⟩⟩⟩⟩
  rw[decide_eq_true rfl]
  exact q H1 n1.same
 | str x=>
  have CO:=d1
  have Cb:=d2
  unfold Den at CO Cb
  subst CO Cb
  refine⟨_,rfl,.inl ⟨rfl,_,rfl,bD ?_⟩⟩
  refine⟨_,rfl,.inl ⟨_, "bool",.str x,false,rfl,d2,rfl,_,rfl,bD ?_⟩⟩
  refine⟨_,rfl,by show 2<=sizeLine;decide,fun p H1 n1=>⟨_,p,["list", "tuple"],.str x,false,rfl,n1.at,d2,rfl,_,rfl,bD ?_⟩⟩
  refine⟨_,rfl,.inl ⟨_, "str",.str x,true,rfl,d2,rfl,_,rfl,bJ ?_⟩⟩
  refine⟨_,rfl,.inl ⟨_, "str",.str x,true,rfl,d1,rfl,_,rfl,bJ ⟨_,rfl,_,rfl,.inl ⟨rfl,?_⟩⟩⟩⟩
  rw[decide_eq_true rfl]
  exact q H1 n1.same
 | list ds=>
  have e1:=d1
  have e2:=d2
  unfold Den at e1 e2
  obtain⟨a1,vs1,rfl,s1,ds1⟩:=e1
  obtain⟨a2,vs2,rfl,s2,ds2⟩:=e2
  simp only[PyData.depth] at hn
  simp only[PyData.weight] at hw
  have V0:=gp ds
  refine⟨_,rfl,.inl ⟨rfl,_,rfl,bD ?_⟩⟩
  refine⟨_,rfl,.inl ⟨_, "bool",.list ds,false,rfl,d2,rfl,_,rfl,bD ?_⟩⟩
  refine⟨_,rfl,by show 2<=sizeLine;decide,fun p H1 n1=>⟨_,p,["list", "tuple"],.list ds,true,rfl,n1.at,d2.same n1.same,rfl,_,rfl,bJ ?_⟩⟩
  have b1:=d1.same n1.same
  have b2:=d2.same n1.same
  refine⟨_,rfl,.inl ⟨_, "list",.list ds,true,rfl,b1,rfl,_,rfl,.inl ⟨_, "list",.list ds,true,rfl,b2,rfl,.inl ⟨rfl,_,rfl,bD ?_⟩⟩⟩⟩
  refine⟨_,rfl,.inl ⟨_, "tuple",.list ds,false,rfl,b1,rfl,_,rfl,.inl ⟨_, "tuple",.list ds,false,rfl,b2,rfl,.inl ⟨rfl,_,rfl,bD ?_⟩⟩⟩⟩
  refine⟨_,rfl,_,_,rfl,.inl ⟨vs1,n1.same.seq s1,rfl⟩,_,rfl,_,_,rfl,.inl ⟨vs2,n1.same.seq s2,rfl⟩,.inl ⟨rfl,_,rfl,?_⟩⟩
  rw[decide_eq_true (show V.int (vs1.length:Nat)=V.int (vs2.length:Nat) by rw[ds1.len,ds2.len])]
  refine bD ?_
  refine⟨_,rfl,_,rfl,false,false,a1,a2,rfl,⟨_,n1.same.seq s1⟩,⟨_,n1.same.seq s2⟩,?_⟩
  refine eJ (N:=ds.length) (fun i ys H'=>ar H1 H'/\ys=(Jv i true).map V.bl) ⟨ar.refl _,rfl⟩ ?_ ?_
  ·rintro i ys H2 Nx hi ⟨sm,rfl⟩ nx
   have gm:=n1.same.trans sm
   obtain⟨x,hx,dx⟩:=ds1.get (i:=i) (d:=ds[i]) (Jc hi)
   obtain⟨y,hy,dy⟩:=ds2.get (i:=i) (d:=ds[i]) (Jc hi)
   have q1:lW false K H2 a1 vs1:=gm.seq s1
   have q2:lW false K H2 a2 vs2:=gm.seq s2
   refine⟨⟨_,_,_,_,q1,q2,hx,hy⟩,by rw[Jd,Uu];exact Jn (show i<10000000 by omega) (by decide),?_⟩
   rintro x' H3 ⟨T',rfl,hN⟩
   have n3:=hN _ _ _ _ q1 q2 hx hy
   refine⟨T',_,rfl,bF.of n3.at,rfl,_,_,rfl,_,_,rfl,rfl,?_⟩
   have GL:=gm.trans n3.same
   refine⟨_,rfl,_,rfl,x,y,ds[i],rfl,dx.same GL,dy.same GL,?_,?_,fun H4 qd=>nx _ _ ⟨sm.trans (n3.same.trans qd),?_⟩⟩
   ·have:=mM (n:=n-1) (by omega) (Ul hi)
    omega
   ·exact fU hw (Ul hi)
   ·rw[List.replicate_succ',J7];rfl
  ·rintro ys H2 ⟨sm,rfl⟩
   have gm:=n1.same.trans sm
   have q1:lW false K H2 a1 vs1:=gm.seq s1
   have q2:lW false K H2 a2 vs2:=gm.seq s2
   refine⟨⟨_,_,q1,q2,.inl (by rw[ds1.len];exact Je _)⟩,fun p2 EX =>?_⟩
   refine⟨p2,Jv ds.length true,rfl,bq.of ay,?_⟩
   rw[all_true]
   exact q _ (gm.trans (bQ EX _))
 | tuple ds=>
  have e1:=d1
  have e2:=d2
  unfold Den at e1 e2
  obtain⟨a1,vs1,rfl,s1,ds1⟩:=e1
  obtain⟨a2,vs2,rfl,s2,ds2⟩:=e2
  simp only[PyData.depth] at hn
  simp only[PyData.weight] at hw
  have V0:=gp ds
  refine⟨_,rfl,.inl ⟨rfl,_,rfl,bD ?_⟩⟩
  refine⟨_,rfl,.inl ⟨_, "bool",.tuple ds,false,rfl,d2,rfl,_,rfl,bD ?_⟩⟩
  refine⟨_,rfl,by show 2<=sizeLine;decide,fun p H1 n1=>⟨_,p,["list", "tuple"],.tuple ds,true,rfl,n1.at,d2.same n1.same,rfl,_,rfl,bJ ?_⟩⟩
  have b1:=d1.same n1.same
  have b2:=d2.same n1.same
  refine⟨_,rfl,.inl ⟨_, "list",.tuple ds,false,rfl,b1,rfl,_,rfl,.inl ⟨_, "list",.tuple ds,false,rfl,b2,rfl,.inl ⟨rfl,_,rfl,bD ?_⟩⟩⟩⟩
  refine⟨_,rfl,.inl ⟨_, "tuple",.tuple ds,true,rfl,b1,rfl,_,rfl,.inl ⟨_, "tuple",.tuple ds,true,rfl,b2,rfl,.inl ⟨rfl,_,rfl,bD ?_⟩⟩⟩⟩
  refine⟨_,rfl,_,_,rfl,.inr ⟨vs1,n1.same.cQ s1,rfl⟩,_,rfl,_,_,rfl,.inr ⟨vs2,n1.same.cQ s2,rfl⟩,.inl ⟨rfl,_,rfl,?_⟩⟩
  rw[decide_eq_true (show V.int (vs1.length:Nat)=V.int (vs2.length:Nat) by rw[ds1.len,ds2.len])]
  refine bD ?_
  refine⟨_,rfl,_,rfl,true,true,a1,a2,rfl,⟨_,n1.same.cQ s1⟩,⟨_,n1.same.cQ s2⟩,?_⟩
  refine eJ (N:=ds.length) (fun i ys H'=>ar H1 H'/\ys=(Jv i true).map V.bl) ⟨ar.refl _,rfl⟩ ?_ ?_
  ·rintro i ys H2 Nx hi ⟨sm,rfl⟩ nx
   have gm:=n1.same.trans sm
   obtain⟨x,hx,dx⟩:=ds1.get (i:=i) (d:=ds[i]) (Jc hi)
   obtain⟨y,hy,dy⟩:=ds2.get (i:=i) (d:=ds[i]) (Jc hi)
   have q1:lW true K H2 a1 vs1:=gm.cQ s1
   have q2:lW true K H2 a2 vs2:=gm.cQ s2
   refine⟨⟨_,_,_,_,q1,q2,hx,hy⟩,by rw[Jd,Uu];exact Jn (show i<10000000 by omega) (by decide),?_⟩
   rintro x' H3 ⟨T',rfl,hN⟩
   have n3:=hN _ _ _ _ q1 q2 hx hy
   refine⟨T',_,rfl,bF.of n3.at,rfl,_,_,rfl,_,_,rfl,rfl,?_⟩
   have GL:=gm.trans n3.same
   refine⟨_,rfl,_,rfl,x,y,ds[i],rfl,dx.same GL,dy.same GL,?_,?_,fun H4 qd=>nx _ _ ⟨sm.trans (n3.same.trans qd),?_⟩⟩
   ·have:=mM (n:=n-1) (by omega) (Ul hi)
    omega
   ·exact fU hw (Ul hi)
   ·rw[List.replicate_succ',J7];rfl
  ·rintro ys H2 ⟨sm,rfl⟩
   have gm:=n1.same.trans sm
   have q1:lW true K H2 a1 vs1:=gm.cQ s1
   have q2:lW true K H2 a2 vs2:=gm.cQ s2
   refine⟨⟨_,_,q1,q2,.inl (by rw[ds1.len];exact Je _)⟩,fun p2 EX =>?_⟩
   refine⟨p2,Jv ds.length true,rfl,bq.of ay,?_⟩
   rw[all_true]
   exact q _ (gm.trans (bQ EX _))
 | dict _=>unfold Den at d1;exact d1.elim
end
theorem split_not {g:Nat->Bool}:∀(l:List Nat),l.all g=false->∃p c r,l=p++c::r/\(∀a∈p,g a=true)/\g c=false
 | [],h=>by cases h
 | a::l,h=>by
  cases ha:g a with
  | false=>exact⟨[],a,l,rfl,(fun _ z=>nomatch z),ha⟩
  | true=>
   rw[List.all_cons,ha,U4] at h
   obtain⟨p,c,r,rfl,hp,hc⟩:=split_not l h
   refine⟨a::p,c,r,rfl,fun x hx =>?_,hc⟩
   rcases Jr.mp hx with rfl|hx
   ·exact ha
   ·exact hp x hx
theorem wM (x y:Str):ic x y=x.cps.toList.all y.cps.contains:=by
 unfold ic Txt.stripChars
 rw[PyProof.Rows.stripBy_eq]
 generalize y.cps.contains=g
 unfold stripHi stripLo
 simp only[if_true]
 have sub:∀i j:Nat,decide (V.str (Builtin.Str.strSub x i j)=V.str (Str.ofString ""))=decide (min j x.length<=i):=fun i j=>by
  congr 1
  refine propext ⟨fun h =>?_,fun h =>?_⟩
  ·injection h with h
   have h:=congrArg (fun s:Str=>s.cps.size) h
   have e0:(Str.ofString "").cps.size=0:=rfl
   simp only[Builtin.Str.strSub,Array.size_extract,e0] at h
   have:x.cps.size=x.length:=rfl
   omega
  ·congr 1
   unfold Builtin.Str.strSub
   have e:x.cps.extract i j = #[]:=by
    apply Array.eq_empty_of_size_eq_zero
    rw[Array.size_extract]
    have:x.cps.size=x.length:=rfl
    omega
   rw[e]
   rfl
 rw[sub]
 have hlen:x.length=x.cps.toList.length:=by simp[Str.length]
 rw[hlen]
 generalize x.cps.toList=l
 by_cases h:l.all g=true
 ·rw[h]
  have e:l.takeWhile g=l:=by
   clear sub hlen
   induction l with
   | nil=>rfl
   | cons a l ih=>
    rw[List.all_cons,Ju] at h
    rw[List.takeWhile_cons,if_pos h.1,ih h.2]
  rw[e]
  exact decide_eq_true (by omega)
 ·have hf:l.all g=false:=by simpa using h
  rw[hf]
  apply decide_eq_false
  intro z
  obtain⟨p,c,r,rfl,hp,hc⟩:=split_not l hf
  have e:(p++c::r).takeWhile g=p:=by
   clear z hlen sub h hf
   induction p with
   | nil=>rw[List.nil_append,List.takeWhile_cons,hc];rfl
   | cons a p ih=>
    rw[List.cons_append,List.takeWhile_cons,if_pos (hp a Js),ih fun x hx=>hp x (Jo _ hx)]
  have ed:(p++c::r).drop p.length=c::r:=List.drop_left
  rw[e,ed] at z
  have hl:(p++c::r).length=p.length+(r.length+1):=by rw[Jw,Jt]
  have tl:((c::r).reverse.takeWhile g).length<=r.length:=by
   rw[List.reverse_cons]
   have:((r.reverse++[c]).takeWhile g).length<=r.reverse.length:=by
    rw[List.takeWhile_append]
    split
    ·rw[Jw]
     have e:[c].takeWhile g=[]:=by simp[List.takeWhile,hc]
     rw[e];simp
    ·exact(List.takeWhile_prefix g).length_le
   rw[List.length_reverse] at this
   exact this
  omega
theorem mh {α:Type}[DecidableEq α]{f:Nat -> α}{k: α}:∀{i:Nat},k∈bH f i ↔ ∃j,j<i/\f j=k
 | 0=>by simp[bH]
 | i+1=>by
  unfold bH oneMore
  have ih:=mh (f:=f) (k:=k) (i:=i)
  by_cases h:f i∈bH f i
  ·rw[if_pos h,ih]
   constructor
   ·rintro⟨j,hj,e⟩;exact⟨j,by omega,e⟩
   ·rintro⟨j,hj,e⟩
    by_cases hji:j=i
    ·subst hji
     obtain⟨m,hm,em⟩:=(mh (f:=f) (k:=f j) (i:=j)).mp h
     exact⟨m,hm,em.trans e⟩
    ·exact⟨j,by omega,e⟩
  ·rw[if_neg h,U2,ih,J0]
   constructor
   ·rintro(⟨j,hj,e⟩|e)
    ·exact⟨j,by omega,e⟩
    ·exact⟨i,by omega,e.symm⟩
   ·rintro⟨j,hj,e⟩
    by_cases hji:j=i
    ·subst hji;exact .inr e.symm
    ·exact .inl ⟨j,by omega,e⟩
theorem vc {α:Type}[DecidableEq α]{f:Nat -> α}:∀{i:Nat},(bH f i).length=i ↔ ∀a b,a<b->b<i->f a≠f b
 | 0=>⟨fun _ a b _ h=>absurd h (Nat.not_lt_zero _),fun _=>rfl⟩
 | i+1=>by
  have ih:=vc (f:=f) (i:=i)
  have le:=jG f i
  unfold bH oneMore
  by_cases h:f i∈bH f i
  ·rw[if_pos h]
   refine⟨fun z=>by omega,fun z =>?_⟩
   obtain⟨j,hj,e⟩:=mh.mp h
   exact absurd e (z j i hj (by omega))
  ·rw[if_neg h,Jw,List.length_singleton]
   constructor
   ·intro z a b sY hb e
    by_cases hbi:b=i
    ·subst hbi
     exact h (mh.mpr ⟨a,sY,e⟩)
    ·exact ih.mp (by omega) a b sY (by omega) e
   ·intro z
    have:=ih.mpr fun a b sY hb=>z a b sY (by omega)
    omega
theorem y3 {l:List Str}:(bH (fun i=>l.getD i Str.empty) l.length).length=l.length↔l.Nodup:=by
 rw[vc,List.nodup_iff_pairwise_ne,U0]
 constructor
 ·intro h i j hi hj u4 e
  refine h i j u4 hj ?_
  simp only[Ym,Jc hi,Jc hj]
  exact e
 ·intro h a b sY hb e
  refine h a b (by omega) hb sY ?_
  simpa only [Ym,Jc hb,Jc (show a<l.length by omega),Option.getD_some] using e
noncomputable def FA:PyData->Bool
 | .tuple [.str _,.str y]=>bN (.str y)
 | _=>false
theorem GC {d:PyData}(h:FA d=true):∃x y,d = .tuple [.str x,.str y]/\bN (.str y)=true:=by
 unfold FA at h
 split at h
 ·exact⟨_,_,rfl,h⟩
 ·cases h
theorem ot:∀{ds:List PyData},(∀x∈ds,FA x=true)->ds=(cu (.list ds)).map fun q=>PyData.tuple [.str q.1,.str q.2]
 | [],_=>rfl
 | d::ds,h=>by
  obtain⟨x,y,rfl,_⟩:=GC (h d Js)
  have ih:=ot fun x hx=>h x (Jo _ hx)
  show PyData.tuple [.str x,.str y]::ds=PyData.tuple [.str x,.str y]::(cu (.list ds)).map fun q=>PyData.tuple [.str q.1,.str q.2]
  rw[<-ih]
theorem IJ {ns:List Str}{d:PyData}{ds:List PyData}(e:fK d = .list ds)(h:∀x∈ds,FA x=true)(nn:ns≠[])(nd:ns.Nodup)(nv:∀x∈ns,cC (.str x)=true):
  cL ns d=(decide (((cu (.list ds)).map (·.1)).Perm ns)&&uD (cu (.list ds))):=by
 unfold cL
 rw[e]
 by_cases hp:((cu (.list ds)).map (·.1)).Perm ns
 ·rw[decide_eq_true hp,U4]
  have hb:cF (.list ds)=true:=by
   show(!ds.isEmpty&&(ds.all bj&&decide ((bH (fun i=>(ds.map fj).getD i Str.empty) ds.length).length=ds.length)))=true
   have en:ds.map fj=(cu (.list ds)).map (·.1):=by
    have e2:=congrArg (List.map fj) (ot h)
    rw[Yn] at e2
    exact e2
   rw[Ju,Ju,Wc]
   refine⟨?_,fun x hx =>?_,decide_eq_true ?_⟩
   ·cases ds with
    | nil=>exact absurd hp.symm.eq_nil nn
    | cons _ _=>rfl
   ·have l7:=hx
    rw[ot h] at l7
    obtain⟨q,hq,rfl⟩:=Us.mp l7
    have h1:=nv q.1 (hp.mem_iff.mp (Y0 hq))
    have h2:bN (.str q.2)=true:=h _ hx
    show(cC (.str q.1)&&bN (.str q.2))=true
    rw[h1,h2];rfl
   ·have:=y3 (l:=ds.map fj)
    rw[Jd] at this
    exact this.mpr (by rw[en];exact hp.nodup_iff.mpr nd)
  rw[hb,U4]
 ·rw[decide_eq_false hp,Yk,Bool.and_false]
theorem Fs (x:Str):decide (V.str x=V.str (Str.ofString ""))=decide (x.length=0):=by
 congr 1
 refine propext ⟨fun h =>?_,fun h =>?_⟩
 ·injection h with h
  rw[h];rfl
 ·congr 1
  cases x with
  | mk c=>
   have:c = #[]:=Array.eq_empty_of_size_eq_zero h
   rw[this];rfl
structure M9 (ns:List Str):Prop where
 l:ns.length<64
 nn:ns≠[]
 nd:ns.Nodup
 az:∀x∈ns,jR x=true
 ok:∀x∈ns,cC (.str x)=true
def lS (ws:List Str):Sp:=fun vs H Q _=>vs=[]/\∀p H',gY H p (.lst (ws.map V.str)) H'->Q (.ref p) H'
theorem Mh:M9 ax:=⟨by decide,by decide,by decide +kernel,by decide +kernel,by decide +kernel⟩
theorem KC:M9 bM:=⟨by decide,by decide,by decide +kernel,by decide +kernel,by decide +kernel⟩
theorem JB:M9 bp:=⟨by decide,by decide,by decide +kernel,by decide +kernel,by decide +kernel⟩
section
variable {P:Program}{w:World}{K:Ja}{mg:Str->Option Value}{base:Heap}{f:Addr}{fd:FuncData}
theorem rC:aB [] [] (ak (top iG)):=⟨rfl,rfl,rfl,by decide +kernel,rfl,by decide +kernel,by decide +kernel⟩
theorem Cf (F:bU K "_law_kinds" "_law_kinds" (top iG) f fd)(T:Nm mg):bh P w K mg base fw 1 f fd [] (lS ax):=by
 refine F.ok rC (fun vs H Q E h =>?_) (fun cH A outer s H vs Q E hr h =>?_)
 ·obtain⟨rfl,_⟩:=h
  rfl
 obtain⟨rfl,q⟩:=h
 refine⟨_,(ag (av (tU K PySem.F.plainAttrs_str PySem.F.slot_str_split PySem.F.type_str_split vG au (aa au ae)))),?_⟩
 have GI:Txt.split (Str.ofString "set add take tell ask jump zero stop farjump farzero skip") (Str.ofString " ")=ax:=by decide +kernel
 have sl:(Str.ofString " ").length≠0:=by decide +kernel
 refine⟨rfl,_,_,rfl,rfl,sl,by decide +kernel,by rw[GI];decide,fun p H7 n7 =>?_⟩
 rw[GI] at n7
 exact q p H7 n7
theorem rf:aB [] [] (ak (top iD)):=⟨rfl,rfl,rfl,by decide +kernel,rfl,by decide +kernel,by decide +kernel⟩
theorem B4 (F:bU K "_law_sizes" "_law_sizes" (top iD) f fd)(T:Nm mg):bh P w K mg base fw 1 f fd [] (lS bp):=by
 refine F.ok rf (fun vs H Q E h =>?_) (fun cH A outer s H vs Q E hr h =>?_)
 ·obtain⟨rfl,_⟩:=h
  rfl
 obtain⟨rfl,q⟩:=h
 refine⟨_,(ag (av (tU K PySem.F.plainAttrs_str PySem.F.slot_str_split PySem.F.type_str_split vG au (aa au ae)))),?_⟩
 have GI:Txt.split (Str.ofString "none one two three four five six seven eight") (Str.ofString " ")=bp:=by decide +kernel
 have sl:(Str.ofString " ").length≠0:=by decide +kernel
 refine⟨rfl,_,_,rfl,rfl,sl,by decide +kernel,by rw[GI];decide,fun p H7 n7 =>?_⟩
 rw[GI] at n7
 exact q p H7 n7
end
structure Mx (K:Ja)(G:Hp)(zs:List (PyData×V)):Prop where
 wO:zs.length<=64
 d:∀z∈zs,Den K G z.1 z.2
 sh:∀z∈zs,Sh 2 z.1
theorem nk {α:Type}:∀{l:List α} {k:Nat} {z: α},l[k]? = some z->(z::l.eraseIdx k).Perm l
 | [],_,_,h=>by cases h
 | x::l,0,z,h=>by
  cases h
  exact List.Perm.refl _
 | x::l,k+1,z,h=>by
  have ih:=nk (l:=l) (k:=k) (z:=z) h
  exact(List.Perm.swap x z _).trans (ih.cons x)
def xV (K:Ja):Sp:=fun vs H Q _=>D0 fun(b c p:Addr) (t:Int) (G:Hp) (zs:List (PyData×V))=>vs=[.ref b,.ref p]/\Bx H b c t/\0<=t/\t<50000000/\ar G (fY H b c)/\(bq K H p (zs.map (·.2))∨bF K H p (zs.map (·.2)))/\Mx K G zs /\
 ∀(l:Addr) (Ab:List (PyData×V)) (H':Hp) (t':Int),Ab.Perm zs->H l=none->H' l=some (.lst (Ab.map (·.2)))->Step b c H H' t t' 64->Q (.ref l) H'
section
variable {P:Program}{w:World}{K:Ja}{mg:Str->Option Value}{base:Heap}{f:Addr}{fd:FuncData}
theorem gJ:aB ["_law_state", "_law_some", "_law_rest", "_law_found"] ["_law_state", "_law_some"] (ak (top ie)):=⟨rfl,rfl,rfl,by decide +kernel,rfl,by decide +kernel,by decide +kernel⟩
theorem B1 (F:bU K "_law_mixed" "_law_mixed" (top ie) f fd)(T:Nm mg)(aO:Fn P w K mg base 1 "_law_take" ["_law_state", "_law_many"] A7):bh P w K mg base fw 2 f fd ["_law_state", "_law_some"] (xV K):=by
 refine F.ok gJ (fun vs H Q E h =>?_) (fun cH A outer s H vs Q E hr h =>?_)
 ·obtain⟨b,c,p,t,G,zs,rfl,_⟩:=h
  rfl
 obtain⟨b,c,p,t,G,zs,rfl,bx,t0,t1,hG,hs,M,q⟩:=h
 have eC:=hr.units
 refine⟨_,(af (aA (i:=2) gJ.nd rfl (Or.inl rfl) (bf (Dn K) rfl T.n_list (by rfl) (aa (pv 1) ae)))
  (af (aA (i:=3) gJ.nd rfl (Or.inl rfl) (gr ae))
  (af (oG PassesOwn.never (aI (Kk K eC) (pv 2) (gr ae) (aM _)) (ag (mi (tU K PySem.F.plainAttrs_list PySem.F.slot_list_append PySem.F.type_list_append sF (pv 3) (aa (tU K PySem.F.plainAttrs_list PySem.F.slot_list_pop PySem.F.type_list_pop KN (pv 2) (aa (aG (aO.mono (by decide)) hr rfl (aa (pv 0) (aa (ao (i8 K) rfl T.n_len (by rfl) (aa (pv 2) ae)) ae))) ae)) ae)))))
  (ag (av (pv 3)))))),?_⟩
 refine⟨_,rfl,p,_,rfl,hs,fun p1 H1 n1=>gn ⟨by show 0<=sizeLine;decide,fun p2 H2 n2=>gn ?_⟩⟩
 dsimp only
 have DJ:=n1.nn
 have EX:H p2=none:=n1.back n2.nn
 have Ta:p2≠p1:=fun z=>by have:=n2.nn;rw[z,n1.at] at this;cases this
 obtain⟨b1,c1⟩:=bx.aK DJ
 obtain⟨b2,c2⟩:=bx.aK EX
 have iO:Step b c H H2 t t 0:=Step.same bx (n1.same.trans n2.same)
 have zl:=M.wO
 refine gH (t:=oM _ _) (fun σ H'=>∃(fs:List (PyData×V)) (t':Int),σ=[some (.ref b),some (.ref p),some (.ref p1),some (.ref p2)]/\fs.Perm zs/\Step b c H H' t t' 64/\H' p2=some (.lst (fs.map (·.2)))) (fun Nx nx =>?_) ?_
 ·refine rG (fun m σ H'=>∃(rs fs:List (PyData×V)) (t':Int),m=rs.length /\ σ=[some (.ref b),some (.ref p),some (.ref p1),some (.ref p2)]/\(rs++fs).Perm zs/\Step b c H H' t t' (64-rs.length)/\H' p1=some (.lst (rs.map (·.2)))/\H' p2=some (.lst (fs.map (·.2)))) ⟨_,zs,[],t,rfl,rfl,by rw[Uw],iO.more (by omega),n2.same _ _ n1.at,n2.at⟩ ?_
  rintro m σ H3 ⟨rs,fs,t3,rfl,rfl,pm,dw,hr3,hf3⟩
  have N7:=dw.ub
  have Ou:=dw.le
  have rl:=pm.length_eq
  rw[Jw] at rl
  have G3:ar G H3:=fun a o e=>(jq (dw.sm _ _ (hG _ _ e))).1
  have mem:∀z∈rs,z∈zs:=fun z hz=>pm.mem_iff.mp (Yj _ hz)
  refine⟨_,rfl,by show 0<=sizeLine;decide,fun pe H4 n4 =>.inr ⟨.list (rs.map (·.1)),.list [],Den.list (bq.of (n4.same _ _ hr3)) (aN.of_get (by rw[Jd,Jd]) fun j d v hd hv =>?_),Den.list (bq.of n4.at) (Den.strs []),(Sh.list (n:=2) fun d hd =>?_).shaped (by decide),by decide +kernel,_,rfl,?_⟩⟩
  ·rw[Jk] at hd hv
   cases e:rs[j]? with
   | none=>rw[e] at hd;cases hd
   | some z=>
    rw[e] at hd hv
    cases hd;cases hv
    exact(M.d z (mem z (Jz e))).same (G3.trans n4.same)
  ·obtain⟨z,hz,rfl⟩:=Us.mp hd
   exact M.sh z (mem z hz)
  rw[yG]
  have gz:=dw.cX n4
  have SA:=n4.same _ _ hr3
  have OY:=n4.same _ _ hf3
  cases rs with
  | nil=>exact bD (nx _ _ ⟨fs,t3,rfl,pm,gz.more (by simp),OY⟩)
  | cons r0 rs0=>
   generalize hrs:r0::rs0=rs at *
   have pos:1<=rs.length:=by rw[<-hrs];exact Wb (Uz _)
   have em:(rs.map (·.1)).isEmpty=false:=by rw[<-hrs];rfl
   rw[em]
   refine bJ ⟨fun σ' H'=>∃m',m'<rs.length/\_,fun _ _ h=>h,?_⟩
   have small:∀{n:Nat},n<=10000->n<sizeLine:=fun h=>Uj h (by decide)
   have vl:(rs.map (·.2)).length=rs.length:=Jd _
   refine⟨_,rfl,.inl ⟨rfl,_,bq.of OY⟩,_,rfl,.inl ⟨rfl,_,bq.of SA⟩,_,rfl,_,rfl,_,_,rfl,.inl ⟨_,bq.of SA,rfl⟩,b,c,t3,_,rfl,gz.bx,by omega,by omega,by omega,by omega,fun a H5 a0 a1 cj =>?_⟩
   have Vv:=cj.old SA b1 c1
   have UN:=cj.old OY b2 c2
   have cj:=gz.trans cj
   obtain⟨z,hz⟩:∃z,rs[a.toNat]? = some z:=⟨_,Jc (by omega)⟩
   refine⟨p1,_,a,z.2,rfl,rfl,Vv,a0,by omega,by rw[Jk,hz];rfl,fun H6 c6 =>?_⟩
   have VL:H6 p2=some (.lst (fs.map (·.2))):=by rw[c6.ne Ta];exact UN
   refine⟨p2,_,_,rfl,rfl,VL,small (by rw[Jd];omega),fun H7 c7 =>?_⟩
   have le:(rs.eraseIdx a.toNat).length=rs.length-1:=List.length_eraseIdx_of_lt (by omega)
   refine⟨(rs.eraseIdx a.toNat).length,by omega,rs.eraseIdx a.toNat,fs++[z],t3+1,rfl,rfl,?_,((cj.Ds c6 DJ b1 c1).Ds c7 EX b2 c2).more (by omega),?_,?_⟩
   ·refine List.Perm.trans ?_ pm
    have h1:=nk hz
    refine List.Perm.trans ?_ (h1.append_right fs)
    rw[<-Y8]
    exact List.perm_append_singleton z _
   ·rw[c7.ne Ta.symm,c6.at]
    congr 2
    rw[Yq,Yq,J7,List.map_take,List.map_drop]
   ·rw[c7.at,J7];rfl
 rintro σ H3 ⟨fs,t3,rfl,pm,dw,hf3⟩
 exact⟨_,rfl,q p2 fs H3 t3 pm EX hf3 dw⟩
end
noncomputable def Kx (most:Nat)(cs:List Str):Nat:=(cs.map fun x=>2^(most-x.length)).sum
structure Cs (most:Nat)(cs:List Str):Prop where
 free:eM cs
 bin:∀x∈cs,tL x
 le:∀x∈cs,x.length<=most
 full:Kx most cs=2^most
theorem FK {most:Nat}{cs ds:List Str}(h:cs.Perm ds):Kx most cs=Kx most ds:=(h.map _).sum_nat
theorem Cs.one {most:Nat}:Cs most [Str.empty]:=⟨List.pairwise_singleton _ _,fun x hx=>by rw[J0.mp hx];exact fun c hc=>by simp[Str.empty] at hc,fun x hx=>by rw[J0.mp hx];exact Uz _,by unfold Kx;rw[Jy,List.map_nil,Ys,List.sum_nil];show 2^(most-0)+0=2^most;rw[Nat.sub_zero,Nat.add_zero]⟩
theorem uK {most:Nat}:∀{cs:List Str},(∀x∈cs,most<=x.length)->Kx most cs=cs.length
 | [],_=>rfl
 | x::cs,h=>by
  have ih:=uK (cs:=cs) fun y hy=>h y (Jo _ hy)
  unfold Kx at ih ⊢
  rw[Jy,Ys,ih,show most-x.length=0 from Nat.sub_eq_zero_of_le (h x Js),Jt]
  omega
theorem Cs.short {most:Nat}{cs:List Str}(h:Cs most cs)(hl:cs.length<2^most):∃x∈cs,x.length<most:=by
 apply Classical.byContradiction
 intro n
 have:=uK (most:=most) (cs:=cs) fun x hx=>Nat.le_of_not_lt fun z=>n ⟨x,hx,z⟩
 rw[h.full] at this
 omega
theorem nV (y z:Str):(y++z).length=y.length+z.length:=by
 show(y.cps++z.cps).size=_
 rw[Array.size_append];rfl
theorem Cs.part {most:Nat}{cs:List Str}{y:Str}(h:Cs most cs)(hy:y∈cs)(hl:y.length<most):Cs most (cs.erase y++[y++s0,y++s1]):=by
 have pm:cs.Perm (y::cs.erase y):=List.perm_cons_erase hy
 have l0:(y++s0).length=y.length+1:=nV _ _
 have l1:(y++s1).length=y.length+1:=nV _ _
 have sub:∀x∈cs.erase y,x∈cs:=fun x hx=>List.mem_of_mem_erase hx
 refine⟨?_,fun x hx =>?_,fun x hx =>?_,?_⟩
 ·have:=eM.split (A:=[]) (B:=cs.erase y) (x:=y) (h.free.perm pm)
  exact this.perm List.perm_append_comm
 ·rcases U2.mp hx with hx|hx
  ·exact h.bin x (sub x hx)
  ·have hb:=h.bin y hy
   simp only[Jr,Uk,or_false] at hx
   rcases hx with rfl|rfl
   ·intro c hc
    rw[show(y++s0).cps.toList=y.cps.toList++[48] from aE y s0] at hc
    rcases U2.mp hc with hc|hc
    ·exact hb c hc
    ·exact .inl (J0.mp hc)
   ·intro c hc
    rw[show(y++s1).cps.toList=y.cps.toList++[49] from aE y s1] at hc
    rcases U2.mp hc with hc|hc
    ·exact hb c hc
    ·exact .inr (J0.mp hc)
 ·rcases U2.mp hx with hx|hx
  ·exact h.le x (sub x hx)
  ·simp only[Jr,Uk,or_false] at hx
   rcases hx with rfl|rfl<;>omega
 ·have e:=h.full
  rw[FK pm] at e
  unfold Kx at e ⊢
  rw[Jy,Ys] at e
  rw[J7,List.sum_append,Jy,Jy,List.map_nil,Ys,Ys,List.sum_nil,l0,l1]
  have:2^(most-y.length)=2^(most-(y.length+1))+2^(most-(y.length+1)):=by
   rw[show most-y.length=(most-(y.length+1))+1 by omega,Nat.pow_succ]
   omega
  omega
theorem eM.longer {fs gs:List Str}(h:eM fs)(hl:gs.length=fs.length)(he:∀(j:Nat) y,gs[j]? = some y->∃x u,fs[j]? = some x/\y=x++u):eM gs:=by
 have h:=U0.mp h
 refine U0.mpr fun i j hi hj u4 =>?_
 obtain⟨x,u,hx,ex⟩:=he i gs[i] (Jc hi)
 obtain⟨y,v,hy,ey⟩:=he j gs[j] (Jc hj)
 obtain⟨vn,rfl⟩:=Jq.mp hx
 obtain⟨Io,rfl⟩:=Jq.mp hy
 rw[ex,ey]
 exact(h i j vn Io u4).ext
theorem yN:tL (Str.ofString ""):=fun c hc=>by
 rw[show(Str.ofString "").cps.toList=[] by decide +kernel] at hc
 cases hc
def Ct:Sp:=fun vs H Q _=>yf fun(b c:Addr) (t:Int) (many most:Nat)=>vs=[.ref b,.int (many:Nat),.int (most:Nat)]/\Bx H b c t/\0<=t/\t<40000000/\2<=many/\many<=20/\many<=2^most/\most<=12 /\
 ∀(l:Addr) (cs:List Str) (H':Hp) (t':Int),cs.length=many->eM cs->(∀x∈cs,tL x/\x.length<=most+2)->H l=none->H' l=some (.lst (cs.map V.str))->Step b c H H' t t' 200->Q (.ref l) H'
section
variable {P:Program}{w:World}{K:Ja}{mg:Str->Option Value}{base:Heap}{f:Addr}{fd:FuncData}
theorem cE:aB ["_law_state", "_law_many", "_law_most", "_law_found", "_law_short", "_law_code"] ["_law_state", "_law_many", "_law_most"] (ak (top iI)):=⟨rfl,rfl,rfl,by decide +kernel,rfl,by decide +kernel,by decide +kernel⟩
theorem Kb (F:bU K "_law_codes" "_law_codes" (top iI) f fd)(T:Nm mg)(aO:Fn P w K mg base 1 "_law_take" ["_law_state", "_law_many"] A7)(dX:Fn P w K mg base 2 "_law_mixed" ["_law_state", "_law_some"] (xV K)):bh P w K mg base fw 3 f fd ["_law_state", "_law_many", "_law_most"] Ct:=by
 refine F.ok cE (fun vs H Q E h =>?_) (fun cH A outer s H vs Q E hr h =>?_)
 ·obtain⟨b,c,t,many,most,rfl,_⟩:=h
  rfl
 obtain⟨b,c,t,many,most,rfl,bx,t0,t1,m2,m20,mm,m12,q⟩:=h
 have eC:=hr.units
 refine⟨_,(af (aA (i:=3) cE.nd rfl (Or.inl rfl) (gr (aa au ae)))
  (af (oG PassesOwn.never (aI lF (ao (i8 K) rfl T.n_len (by rfl) (aa (pv 3) ae)) (pv 1) (aM _)) (af (mU (i:=4) cE.nd rfl (Or.inl rfl) rfl (eO (Nc:=["_law_code"]) (Fc:=["_law_most"]) (js:=[2])) (KS K (pv 3)) (cP (i:=0) (n:=1) (by decide)) (fun _ _ _ _ _=>(aQ (i:=0) (Bi ["_law_code", "_law_most"]) rfl (Or.inl rfl))) (fun _ _ _ _ _=>(F0 (aI lF (ao (i8 K) rfl T.n_len (by rfl) (aa (pv 0) ae)) (pv 1) (aM _)))) (fun _ _ _ _ _=>(pv 0)))
  (af (aA (i:=5) cE.nd rfl (Or.inl rfl) (bA (gW K) (pv 4) (aG (aO.mono (by decide)) hr rfl (aa (pv 0) (aa (ao (i8 K) rfl T.n_len (by rfl) (aa (pv 4) ae)) ae))) (fun _ _=>rfl)))
  (af (mi (tU K PySem.F.plainAttrs_list PySem.F.slot_list_remove PySem.F.type_list_remove FG (pv 3) (aa (pv 5) ae)))
  (ag (aA (i:=3) cE.nd rfl (Or.inl rfl) (aD cI (pv 3) (gr (aa (aD cI (pv 5) au) (aa (aD cI (pv 5) au) ae))))))))))
  (af (bt (aI (o9 K eC) (aG (aO.mono (by decide)) hr rfl (aa (pv 0) (aa ah ae))) ah (aM _)) (ag (mU (i:=3) cE.nd rfl (Or.inl rfl) rfl (eO (Nc:=["_law_code"]) (Fc:=["_law_state"]) (js:=[0])) (KS K (pv 3)) (cP (i:=0) (n:=1) (by decide)) (fun _ _ _ _ _=>(aQ (i:=0) (Bi ["_law_code", "_law_state"]) rfl (Or.inl rfl))) (fun _ _ _ _ _=>fC) (fun _ _ _ _ _=>(aD cI (pv 0) (bA (gW K) (gr (aa au (aa au (aa au (aa au (aa au ae)))))) (aG (aO.mono (by decide)) hr rfl (aa (pv 1) (aa ah ae))) (fun _ _=>rfl)))))) aF)
  (ag (av (aG (dX.mono (by decide)) hr rfl (aa (pv 0) (aa (pv 3) ae)))))))),?_⟩
 refine⟨by show 1<=sizeLine;decide,fun l0 H1 n1=>gn ?_⟩
 dsimp only
 have small:∀{n:Nat},n<=10000->n<sizeLine:=fun h=>Uj h (by decide)
 refine gH (t:=oM _ _) (fun σ H'=>∃(cs:List Str) (l:Addr) (t':Int) (x4 x5:Option V),σ=[some (.ref b),some (.int (many:Nat)),some (.int (most:Nat)),some (.ref l),x4,x5]/\cs.length=many/\Cs most cs/\H l=none/\H' l=some (.lst (cs.map V.str))/\Step b c H H' t t' 20) (fun Nx nx =>?_) ?_
 ·refine rG (fun m σ H'=>∃(cs:List Str) (l:Addr) (t':Int) (x4 x5:Option V),m=many-cs.length /\ σ=[some (.ref b),some (.int (many:Nat)),some (.int (most:Nat)),some (.ref l),x4,x5]/\cs.length<=many/\Cs most cs/\H l=none/\H' l=some (.lst (cs.map V.str))/\Step b c H H' t t' cs.length) ⟨_,[Str.empty],l0,t,_,_,rfl,rfl,by show 1<=many;omega,Cs.one,n1.nn,n1.at,(Step.same bx n1.same).more (by decide)⟩ ?_
  rintro m σ H3 ⟨cs,l,t3,x4,x5,rfl,rfl,cm,C,hl,vt,dw⟩
  have N7:=dw.ub
  have Ou:=dw.le
  have vl:(cs.map V.str).length=cs.length:=Jd _
  obtain⟨lb,lc⟩:=bx.aK hl
  refine⟨_,rfl,_,_,rfl,.inl ⟨_,bq.of vt,rfl⟩,_,rfl,_,_,rfl,rfl,_,rfl,?_⟩
  refine fG (fun c1 =>?_) (fun c1 =>?_)
  ·have c1:cs.length<many:=by have:=of_decide_eq_true c1;omega
   refine⟨fun σ' H'=>∃m',m'<many-cs.length/\_,fun _ _ h=>h,?_⟩
   refine⟨_,rfl,l,rfl,⟨_,bq.of vt⟩,?_⟩
   refine eJ (N:=cs.length) (fun i ys H'=>H'=H3/\ys=((cs.take i).filter fun x=>decide (x.length<most)).map V.str) ⟨rfl,rfl⟩ ?_ ?_
   ·rintro i ys H' Ny hi ⟨rfl,rfl⟩ ny
    have hx:(cs.map V.str)[i]? = some (.str cs[i]):=by rw[Jk,Jc hi];rfl
    have xl:=C.le cs[i] (Ul hi)
    have fl:((cs.take i).filter fun x=>decide (x.length<most)).length<=20:=Ji (List.length_filter_le _ _) (by rw[Uo];omega)
    refine⟨⟨_,_,bq.of vt,hx⟩,small (by rw[Jd];omega),?_⟩
    rintro x' H4 ⟨rfl,hy⟩
    have e:=hy _ (bq.of vt)
    rw[hx] at e;cases e
    refine gn ?_
    refine⟨_,rfl,_,_,rfl,⟨Yh (small (by omega)),rfl⟩,_,rfl,_,_,rfl,rfl,_,rfl,?_⟩
    have O6:∀ys',ys'=((cs.take (i+1)).filter fun x=>decide (x.length<most)).map V.str->Ny ys' H4:=fun ys' e=>ny _ _ ⟨rfl,e⟩
    rw[U6 hi,List.filter_append,J7] at O6
    refine fG (fun c2 =>?_) (fun c2 =>?_)
    ·have c2:cs[i].length<most:=by have:=of_decide_eq_true c2;omega
     refine⟨_,rfl,O6 _ ?_⟩
     rw[List.filter_cons_of_pos (by exact decide_eq_true c2)]
     rfl
    ·have c2:¬cs[i].length<most:=fun z=>c2 (decide_eq_true (by omega))
     refine O6 _ ?_
     rw[List.filter_cons_of_neg (by rw[decide_eq_false c2];decide)]
     exact(Uw _).symm
   rintro ys H4 ⟨rfl,rfl⟩
   refine⟨⟨_,bq.of vt,by rw[vl];exact Je _⟩,?_⟩
   rw[We]
   obtain⟨y0,hy0,ly0⟩:=C.short (by omega)
   have KW:∀y∈cs.filter fun x=>decide (x.length<most),y∈cs/\y.length<most:=fun y hy=>by
    obtain⟨z1,z2⟩:=List.mem_filter.mp hy
    exact⟨z1,of_decide_eq_true z2⟩
   have pos:1<=(cs.filter fun x=>decide (x.length<most)).length:=List.length_pos_of_mem (List.mem_filter.mpr ⟨hy0,decide_eq_true ly0⟩)
   have fl:(cs.filter fun x=>decide (x.length<most)).length<=20:=Ji (List.length_filter_le _ _) (by omega)
   generalize (cs.filter fun x=>decide (x.length<most))=sh at KW pos fl
   have vs:(sh.map V.str).length=sh.length:=Jd _
   refine fun ls hls=>gn ?_
   have n4:gY H4 ls (.lst (sh.map V.str)) (upd H4 ls (.lst (sh.map V.str))):=⟨hls,rfl⟩
   generalize upd H4 ls (.lst (sh.map V.str))=H5 at n4
   have Gh:=n4.same _ _ vt
   have cj:=dw.cX n4
   obtain⟨sb,sc⟩:=dw.bx.aK n4.nn
   refine⟨_,rfl,_,rfl,_,rfl,_,_,rfl,.inl ⟨_,bq.of n4.at,rfl⟩,b,c,t3,_,rfl,cj.bx,by omega,by omega,by omega,by omega,fun a H6 a0 a1 jf =>?_⟩
   have UC:=jf.old n4.at sb sc
   have K0:=jf.old Gh lb lc
   have jf:=cj.trans jf
   obtain⟨y,hy⟩:∃y,sh[a.toNat]? = some y:=⟨_,Jc (by omega)⟩
   obtain⟨yc,yl⟩:=KW y (Jz hy)
   refine .inl ⟨ls,_,a,.str y,rfl,rfl,bq.of UC,fM a0 (by rw[Jk,hy];rfl),gn ?_⟩
   refine⟨_,rfl,.inl ⟨rfl,_,bq.of K0⟩,_,rfl,l,cs,y,rfl,rfl,K0,yc,fun H7 c7 =>?_⟩
   have iZ:=jf.Ds c7 hl lb lc
   have el:(cs.erase y).length=cs.length-1:=List.length_erase_of_mem yc
   have dg:1<=cs.length:=List.length_pos_of_mem yc
   have k0:(Str.ofString "0").length=1:=rfl
   have k1:(Str.ofString "1").length=1:=rfl
   refine⟨_,rfl,_,rfl,.inr (.inl ⟨_,_,rfl,rfl,Yh (small (by rw[k0];omega)),_,rfl,.inr (.inl ⟨_,_,rfl,rfl,Yh (small (by rw[k1];omega)),by show 2<=sizeLine;decide,fun lp H8 n8 =>.inr (.inr ⟨l,lp,_,_,rfl,rfl,n8.same _ _ c7.at,n8.at,Yh (small (by simp only[Jd,Jt,List.length_nil];omega)),fun l' H9 n9=>gn ?_⟩)⟩)⟩)⟩
   have jS:=(iZ.cX n8).cX n9
   have cl:(cs.erase y++[y++s0,y++s1]).length=cs.length+1:=by rw[Jw,el];show cs.length-1+2=_;omega
   refine⟨many-(cs.length+1),by omega,cs.erase y++[y++s0,y++s1],l',t3+1,_,_,by rw[cl],rfl,by omega,C.part yc yl,(iZ.cX n8).fresh bx n9.nn,by rw[n9.at,J7];rfl,jS.more (by omega)⟩
  ·have c1:¬(cs.length<many):=fun z=>(U5.mp (U5.mpr c1)) (decide_eq_true (by omega))
   exact nx _ _ ⟨cs,l,t3,x4,x5,rfl,by omega,C,hl,vt,dw.more (by omega)⟩
 rintro σ H3 ⟨cs,l,t3,x4,x5,rfl,cm,C,hl,vt,dw⟩
 have N7:=dw.ub
 have Ou:=dw.le
 obtain⟨lb,lc⟩:=bx.aK hl
 have vl:(cs.map V.str).length=cs.length:=Jd _
 refine gH (t:=Eh _ _ _) (fun σ H'=>∃(ds:List Str) (l:Addr) (t':Int) (x4 x5:Option V),σ=[some (.ref b),some (.int (many:Nat)),some (.int (most:Nat)),some (.ref l),x4,x5]/\ds.length=many/\eM ds/\(∀x∈ds,tL x/\x.length<=most+2)/\H l=none/\H' l=some (.lst (ds.map V.str))/\Step b c H H' t t' 50) (fun Nx nx =>?_) ?_
 ·refine⟨_,rfl,b,c,t3,2,rfl,dw.bx,by omega,by omega,by omega,by omega,fun a H4 a0 a1 gz =>?_⟩
  have Mc:=gz.old vt lb lc
  have gz:=dw.trans gz
  refine .inl ⟨rfl,_,rfl,fG (fun _ =>?_) (fun _ =>?_)⟩
  ·refine⟨_,rfl,l,rfl,⟨_,bq.of Mc⟩,?_⟩
   refine eJ (N:=cs.length) (fun i ys H'=>∃(gs:List Str) (t':Int),ys=gs.map V.str/\gs.length=i/\(∀(j:Nat) y,gs[j]? = some y->∃x u,cs[j]? = some x/\y=x++u/\tL u/\u.length<=2)/\Step b c H H' t t' (21+i)/\H' l=some (.lst (cs.map V.str))) ⟨[],t3+1,rfl,rfl,(fun j y e=>nomatch e),gz.more (by omega),Mc⟩ ?_ ?_
   ·rintro i ys H5 Ny hi ⟨gs,t5,rfl,gl,gg,cj,Gh⟩ ny
    have Tq:=cj.ub
    have SG:=cj.le
    have hx:(cs.map V.str)[i]? = some (.str cs[i]):=by rw[Jk,Jc hi];rfl
    refine⟨⟨_,_,bq.of Gh,hx⟩,small (by rw[Jd];omega),?_⟩
    rintro x' H6 ⟨rfl,hy⟩
    have e:=hy _ (bq.of Gh)
    rw[hx] at e;cases e
    have xl:=C.le cs[i] (Ul hi)
    refine gn ?_
    refine⟨_,rfl,by show 5<=sizeLine;decide,fun lp H7 n7=>⟨_,rfl,b,c,t5,5,rfl,cj.bx.same n7.same,by omega,by omega,by omega,by omega,fun r H8 r0 r1 gX =>?_⟩⟩
    obtain⟨pb,pc⟩:=cj.bx.aK n7.nn
    have Su:=gX.old n7.at pb pc
    have W8:=gX.old (n7.same _ _ Gh) lb lc
    have gX:=(cj.cX n7).trans gX
    obtain⟨u,hu,bu,lu⟩:∃u:Str,([V.str "",V.str "",V.str "0",V.str "1",V.str "01"]:List V)[r.toNat]? = some (.str u)/\tL u/\u.length<=2:=by
     have:r=0∨r=1∨r=2∨r=3∨r=4:=by omega
     rcases this with rfl|rfl|rfl|rfl|rfl
     ·exact⟨"",rfl,yN,by decide⟩
     ·exact⟨"",rfl,yN,by decide⟩
     ·exact⟨"0",rfl,(by unfold tL;decide +kernel),by decide⟩
     ·exact⟨"1",rfl,(by unfold tL;decide +kernel),by decide⟩
     ·exact⟨"01",rfl,(by unfold tL;decide +kernel),by decide⟩
    refine .inl ⟨lp,_,r,.str u,rfl,rfl,bq.of Su,fM r0 hu,.inr (.inl ⟨_,_,rfl,rfl,Yh (small (by omega)),ny _ _ ⟨gs++[cs[i]++u],t5+1,by rw[J7];rfl,by rw[Jw,gl];rfl,fun j y hj =>?_,gX.more (by omega),W8⟩⟩)⟩
    by_cases hji:j<gs.length
    ·rw[Yb hji] at hj
     exact gg j y hj
    ·rw[Ux (by omega)] at hj
     have:j-gs.length=0:=by have:=(Jq.mp hj).1;simp at this;omega
     rw[this] at hj
     cases hj
     exact⟨cs[i],u,by rw[show j=i by omega];exact Jc hi,rfl,bu,lu⟩
   ·rintro ys H5 ⟨gs,t5,rfl,gl,gg,cj,Gh⟩
    refine⟨⟨_,bq.of Gh,by rw[vl];exact Je _⟩,fun p6 hp6=>gn ?_⟩
    have n6:gY H5 p6 (.lst (gs.map V.str)) (upd H5 p6 (.lst (gs.map V.str))):=⟨hp6,rfl⟩
    generalize upd H5 p6 (.lst (gs.map V.str))=H6 at n6
    refine nx _ _ ⟨gs,p6,t5,x4,x5,rfl,by omega,?_,fun x hx =>?_,cj.fresh bx n6.nn,n6.at,(cj.cX n6).more (by omega)⟩
    ·exact C.free.longer (by omega) fun j y hj=>by
      obtain⟨x,u,h1,h2,_⟩:=gg j y hj
      exact⟨x,u,h1,h2⟩
    ·obtain⟨j,hj,rfl⟩:=List.getElem_of_mem hx
     obtain⟨x,u,h1,h2,h3,h4⟩:=gg j _ (Jc hj)
     have xm:=Jz h1
     have xl:=C.le x xm
     rw[h2]
     refine⟨fun ch hc =>?_,by rw[nV];omega⟩
     rw[show(x++u).cps.toList=x.cps.toList++u.cps.toList from aE x u] at hc
     rcases U2.mp hc with hc|hc
     ·exact C.bin x xm ch hc
     ·exact h3 ch hc
  ·exact nx _ _ ⟨cs,l,t3+1,x4,x5,rfl,cm,C.free,fun x hx=>⟨C.bin x hx,by have:=C.le x hx;omega⟩,hl,Mc,gz.more (by omega)⟩
 rintro σ H4 ⟨ds,l,t4,x4,x5,rfl,dm,fr,ok,hl,Mc,gz⟩
 have S2:=gz.ub
 have S9:=gz.le
 obtain⟨lb,lc⟩:=bx.aK hl
 have em:(ds.map fun x=>(PyData.str x,V.str x)).map (·.2)=ds.map V.str:=by rw[Yn];rfl
 refine⟨_,rfl,_,rfl,b,c,l,t4,fY H4 b c,ds.map fun x=>(PyData.str x,V.str x),rfl,gz.bx,by omega,by omega,ar.refl _,.inl (bq.of (by rw[em];exact Mc)),⟨by rw[Jd];omega,fun z hz =>?_,fun z hz =>?_⟩,fun l5 zs H5 t5 pm hn h5 cj =>?_⟩
 ·obtain⟨x,_,rfl⟩:=Us.mp hz
  show Den K _ (.str x) (.str x)
  unfold Den
  rfl
 ·obtain⟨x,hx,rfl⟩:=Us.mp hz
  exact Sh.str (df fun ch hc=>by rcases(ok x hx).1 ch hc with rfl|rfl<;>decide)
 ·have ez:∃es:List Str,zs=es.map (fun x=>(PyData.str x,V.str x))/\es.Perm ds:=by
   refine⟨zs.map fun z=>match z.1 with | .str x=>x|_=>Str.empty,?_,?_⟩
   ·rw[Yn]
    refine(List.map_id zs).symm.trans (Y1 fun z hz =>?_)
    obtain⟨x,_,rfl⟩:=Us.mp (pm.mem_iff.mp hz)
    rfl
   ·have:=pm.map fun z:PyData×V=>match z.1 with | .str x=>x|_=>Str.empty
    rw[Yn] at this
    refine this.trans ?_
    rw[show(ds.map ((fun z:PyData×V=>match z.1 with | .str x=>x|_=>Str.empty)∘fun x=>(PyData.str x,V.str x)))=ds from(Y1 fun x _=>rfl).trans (List.map_id ds)]
  obtain⟨es,rfl,pe⟩:=ez
  refine q l5 es H5 t5 (by rw[pe.length_eq,dm]) (fr.perm pe.symm) (fun x hx=>ok x (pe.mem_iff.mp hx)) (gz.fresh bx hn) ?_ ((gz.trans cj).more (by omega))
  rw[h5,Yn]
  rfl
end
noncomputable abbrev fm (q:Str×Str):PyData := .tuple [.str q.1,.str q.2]
theorem ll:∀{ns cs:List Str} {k:Nat} {x c:Str},ns.Nodup->ns[k]? = some x->cs[k]? = some c->aW (ns.zip cs) x=c
 | [],_,_,_,_,_,h,_=>nomatch h
 | _::_,[],_,_,_,_,_,h=>nomatch h
 | n::ns,c0::cs,0,x,c,_,h1,h2=>by
  cases h1;cases h2
  show(if n=n then c0 else _)=c0
  exact if_pos rfl
 | n::ns,c0::cs,k+1,x,c,nd,h1,h2=>by
  obtain⟨n1,n2⟩:=Yi.mp nd
  have hx:x∈ns:=Jz (show ns[k]? = some x from h1)
  show(if n=x then c0 else aW (ns.zip cs) x)=c
  rw[if_neg (fun z=>n1 (by rw[z];exact hx))]
  exact ll n2 h1 h2
theorem yh:∀{ns cs:List Str} {k:Nat} {x y:Str},ns.Nodup->ns.length=cs.length->ns[k]? = some x->(dP (ns.zip cs)).map (fun kv=>if kv.1=Sum.inr x then (kv.1,V.str y) else kv)=dP (ns.zip (cs.set k y))
 | [],_,_,_,_,_,_,h=>nomatch h
 | _::_,[],_,_,_,_,h,_=>nomatch h
 | n::ns,c::cs,0,x,y,nd,hl,h=>by
  cases h
  obtain⟨n1,n2⟩:=Yi.mp nd
  show(if (Sum.inr n:Key)=Sum.inr n then ((Sum.inr n:Key),V.str y) else _)::(dP (ns.zip cs)).map _=(Sum.inr n,V.str y)::dP (ns.zip cs)
  rw[if_pos rfl]
  congr 1
  conv=>rhs;rw[<-List.map_id (dP (ns.zip cs))]
  refine Y1 fun kv hkv=>if_neg fun z=>n1 ?_
  obtain⟨q,hq,rfl⟩:=Us.mp hkv
  have z:q.1=n:=Sum.inr.inj z
  rw[<-z]
  exact(List.of_mem_zip hq).1
 | n::ns,c::cs,k+1,x,y,nd,hl,h=>by
  obtain⟨n1,n2⟩:=Yi.mp nd
  have hx:x∈ns:=Jz (show ns[k]? = some x from h)
  show(if (Sum.inr n:Key)=Sum.inr x then _ else ((Sum.inr n:Key),V.str c))::(dP (ns.zip cs)).map _=(Sum.inr n,V.str c)::dP (ns.zip (cs.set k y))
  rw[if_neg (fun z=>n1 (by rw[Sum.inr.inj z];exact hx)),yh n2 (by simpa using hl) h]
theorem eS {ns cs:List Str}(hl:ns.length=cs.length):(ns.zip cs).map (·.1)=ns:=List.map_fst_zip (by omega)
theorem Ar {ns cs:List Str}(hl:ns.length=cs.length):(ns.zip cs).map (·.2)=cs:=List.map_snd_zip (by omega)
theorem Es {ns cs:List Str}{k:Nat}{x y:Str}(nd:ns.Nodup)(hl:ns.length=cs.length)(h:ns[k]? = some x):putK (dP (ns.zip cs)) (.inr x) (.str y)=dP (ns.zip (cs.set k y)):=by
 unfold putK
 rw[jX,fg (by rw[eS hl];exact Jz h),if_pos (Option.isSome_some)]
 exact yh nd hl h
theorem swap_perm {cs:List Str}{i j:Nat}{a b:Str}(hi:cs[i]? = some a)(hj:cs[j]? = some b):((cs.set i b).set j a).Perm cs:=by
 obtain⟨h1,rfl⟩:=Jq.mp hi
 obtain⟨h2,rfl⟩:=Jq.mp hj
 exact List.set_set_perm h1 h2
theorem kG (bk:List (Str×Str)):cu (aH bk)=bk:=by
 show(bk.map fm).map _=bk
 rw[Yn]
 exact(Y1 fun q _=>rfl).trans (List.map_id bk)
theorem Ek {y:Str}(hb:tL y)(hl:1<=y.length):bN (.str y)=true:=by
 show(!decide (V.str y=V.str (Str.ofString ""))&&ic y nX)=true
 rw[Fs,decide_eq_false (by omega),wM,Bool.not_false,U4,Wc]
 intro c hc
 rcases hb c hc with rfl|rfl<;>decide +kernel
theorem Bz {ns:List Str}{bk:List (Str×Str)}(N:M9 ns)(pm:(bk.map (·.1)).Perm ns)(hc:∀q∈bk,bN (.str q.2)=true)(fr:eM (bk.map (·.2))):cL ns (aH bk)=true:=by
 have e:=IJ (ns:=ns) (d:=aH bk) (ds:=bk.map fm) rfl (fun x hx=>by
  obtain⟨q,hq,rfl⟩:=Us.mp hx
  exact hc q hq) N.nn N.nd N.ok
 rw[e,show cu (.list (bk.map fm))=bk from kG bk,decide_eq_true pm,U4]
 exact @decide_eq_true _ (Classical.propDecidable _) fr
theorem xS {w:Nat}:∀{bk:List (Str×Str)},(∀q∈bk,jR q.1=true/\jR q.2=true/\q.1.length+q.2.length+3<=w)->Gs (w*bk.length) 1 (bk.map fm)
 | [],_=>Gs.nil.mono (Uz _) (Uz _)
 | q::bk,h=>by
  have ih:=xS (w:=w) (bk:=bk) fun x hx=>h x (Jo _ hx)
  obtain⟨h1,h2,h3⟩:=h q Js
  have g:Gd (q.1.length+1+(q.2.length+1)) 1 (fm q):=(Gs.cons (Gd.str (dp:=0) h1 (Je _)) (Gs.one (Gd.str h2 (Je _)))).tuple
  refine(Gs.cons g ih).mono ?_ (Je _)
  rw[Jt,Nat.mul_succ]
  omega
theorem CK {d:PyData}{ds:List PyData}(h:fK d = .list ds):HP d=ds.length:=by
 cases d<;>first|(cases h;rfl)|(exact nomatch h)
theorem G8.of {d:PyData}{w dp:Nat}(g:Gd w dp d)(hw:w<=150000)(hd:dp<=64)(hl:HP d<=60):G8 d:=by
 refine⟨g.pz,Ji g.wt (by omega),g.shaped hd,fun ds e=>by rw[<-CK e];exact hl,fun q hq =>?_⟩
 have wt:(fK d).weight<=150000:=by rw[vM];exact Ji g.wt hw
 cases e:fK d with
 | list ds=>
  rw[e] at hq wt
  obtain⟨x,hx,rfl⟩:=Us.mp (show q∈ds.map _ from hq)
  have hx:=fU (n:=150000) (by simpa only [PyData.weight] using wt) hx
  split
  ·simp only[PyData.weight,PyData.weightAll] at hx
   have:∀y:Str,y.cps.size=y.length:=fun _=>rfl
   simp only[this] at hx
   dsimp only
   omega
  ·exact Uz _
 | _=>rw[e] at hq;exact nomatch hq
theorem Dj {bk:List (Str×Str)}{zs Ab:List (PyData×V)}(e:zs.map (·.1)=bk.map fm)(p:Ab.Perm zs):∃v9:List (Str×Str),v9.Perm bk/\Ab.map (·.1)=v9.map fm:=by
 have pm:(Ab.map (·.1)).Perm (bk.map fm):=by rw[<-e];exact p.map _
 refine⟨cu (.list (Ab.map (·.1))),?_,?_⟩
 ·have:=kG bk
  conv=>rhs;rw[<-this]
  exact pm.map _
 ·have all:∀d∈Ab.map (·.1),∃q,d=fm q:=fun d hd=>by
   obtain⟨q,_,rfl⟩:=Us.mp (pm.mem_iff.mp hd)
   exact⟨q,rfl⟩
  generalize Ab.map (·.1)=ds at all
  clear pm p e
  induction ds with
  | nil=>rfl
  | cons d ds ih=>
   obtain⟨q,rfl⟩:=all d Js
   have:=ih fun d hd=>all d (Jo _ hd)
   show fm q::ds=fm q::(cu (.list ds)).map fm
   rw[<-this]
theorem Ca {cs:List Str}(h:eM cs)(hl:2<=cs.length):∀x∈cs,1<=x.length:=fun x hx=>by
 apply Classical.byContradiction
 intro n
 have x0:sg x=[]:=Yw (by have:x.length=(sg x).length:=str_len x;omega)
 obtain⟨i,hi,rfl⟩:=Yv.mp hx
 have pw:=U0.mp h
 by_cases i0:i=0
 ·subst i0
  have:=(pw 0 1 (by omega) (by omega) (by decide)).1
  rw[x0] at this
  exact this List.nil_prefix
 ·have:=(pw 0 i (by omega) hi (by omega)).2
  rw[x0] at this
  exact this List.nil_prefix
theorem EG {x:Str}(h:tL x):jR x=true:=E8.mpr fun c hc=>by rcases h c hc with rfl|rfl<;>decide
theorem Dr {K:Ja}{G:Hp}{bk:List (Str×Str)}{as:List Addr}(hl:as.length=bk.length)(wO:bk.length<=64)(az:∀q∈bk,jR q.1=true/\jR q.2=true)(h:∀(j:Nat) a q,as[j]? = some a->bk[j]? = some q->G a=some (.tup [.str q.1,.str q.2])):
  ∃zs:List (PyData×V),zs.map (·.1)=bk.map fm/\zs.map (·.2)=as.map V.ref/\Mx K G zs:=by
 have l1:(bk.map fm).length=(as.map V.ref).length:=by rw[Jd,Jd,hl]
 refine⟨(bk.map fm).zip (as.map V.ref),List.map_fst_zip (by omega),List.map_snd_zip (by omega),?_,?_,?_⟩
 ·rw[U8,Jd];omega
 ·intro z hz
  obtain⟨j,hj⟩:=Uv.mp hz
  have z1:=Yc.mp hj
  rw[Jk,Jk] at z1
  obtain⟨e1,e2⟩:=z1
  cases h1:bk[j]? with
  | none=>rw[h1] at e1;cases e1
  | some q=>
   cases h2:as[j]? with
   | none=>rw[h2] at e2;cases e2
   | some a=>
    rw[h1] at e1;rw[h2] at e2
    rw[<-Option.some.inj e1,<-Option.some.inj e2]
    exact DQ (h j a q h2 h1) (di AY (di AY uc))
 ·intro z hz
  have z1:=(List.of_mem_zip (a:=z.1) (b:=z.2) hz).1
  obtain⟨q,hq,e⟩:=Us.mp z1
  rw[<-e]
  have h1:=az q hq
  refine(fun h=>⟨h.1,Ji h.2 (by decide)⟩:Sh 1 (fm q)->Sh 2 (fm q)) (Sh.tuple (n:=0) (ds:=[.str q.1,.str q.2]) fun d hd =>?_)
  ·simp only[Jr,Uk,or_false] at hd
   rcases hd with rfl|rfl
   ·exact Sh.str (df fun ch hc=>by have:=vJ h1.1 ch hc;omega)
   ·exact Sh.str (df fun ch hc=>by have:=vJ h1.2 ch hc;omega)
theorem vF {K:Ja}{G G':Hp}{bk:List (Str×Str)}{zs Ab:List (PyData×V)}{l:Addr}(e:zs.map (·.1)=bk.map fm)(M:Mx K G zs)(p:Ab.Perm zs)(s:ar G G')(hl:G' l=some (.lst (Ab.map (·.2)))):
  ∃v9:List (Str×Str),v9.Perm bk/\Den K G' (aH v9) (.ref l):=by
 obtain⟨v9,h1,h2⟩:=Dj e p
 refine⟨v9,h1,Den.list (bq.of hl) ?_⟩
 show aN K G' (v9.map fm) _
 rw[<-h2]
 refine aN.of_get (by rw[Jd,Jd]) fun j d v hd hv =>?_
 rw[Jk] at hd hv
 cases ez:Ab[j]? with
 | none=>rw[ez] at hd;cases hd
 | some z=>
  rw[ez] at hd hv
  cases hd;cases hv
  exact(M.d z (p.mem_iff.mp (Jz ez))).same s
structure Good3 (nz sD qW:List (Str×Str))(near dz:Int):Prop where
 why:ki (aH nz) (aH sD) (aH qW) (.int near) (.int dz)=none
 n1:(nz.map (·.1)).Perm ax
 l1:nz.length=11
 l2:sD.length=4
 l3:qW.length=9
 sz:∀q,q∈nz∨q∈sD∨q∈qW->jR q.1=true/\jR q.2=true/\q.1.length<=8/\q.2.length<=11
 fr:near.natAbs<10/\dz.natAbs<20
def Dk (K:Ja):Sp:=fun vs H Q _=>o7 fun(b c:Addr) (t:Int)=>vs=[.ref b]/\Bx H b c t/\0<=t/\t<30000000 /\
 ∀(l:Addr) (r1 r2 r3:V) (nz sD qW:List (Str×Str)) (near dz:Int) (H':Hp) (t':Int),Good3 nz sD qW near dz->H l=none->H' l=some (.lst [r1,r2,r3,.int near,.int dz])->aN K (fY H' b c) [aH nz,aH sD,aH qW] [r1,r2,r3]->Step b c H H' t t' 1500->Q (.ref l) H'
theorem rb {ns cs:List Str}{most:Nat}(hn:∀x∈ns,jR x=true/\x.length<=8)(hm:most<=11)(hc:∀x∈cs,tL x/\x.length<=most):∀q∈ns.zip cs,jR q.1=true/\jR q.2=true/\q.1.length<=8/\q.2.length<=11:=fun q hq=>by
 obtain⟨h1,h2⟩:=List.of_mem_zip (a:=q.1) (b:=q.2) hq
 exact⟨(hn _ h1).1,EG (hc _ h2).1,(hn _ h1).2,Ji (hc _ h2).2 hm⟩
theorem kY:(∀x∈ax,jR x=true/\x.length<=8)/\(∀x∈bM,jR x=true/\x.length<=8)/\∀x∈bp,jR x=true/\x.length<=8:=by decide +kernel
theorem rL {ns cs:List Str}{bk:List (Str×Str)}(N:M9 ns)(hl:ns.length=cs.length)(h2:2<=cs.length)(hb:∀x∈cs,tL x)(fr:eM cs)(p:bk.Perm (ns.zip cs)):cL ns (aH bk)=true:=by
 have p1:=p.map (·.1)
 have p2:=p.map (·.2)
 rw[eS hl] at p1
 rw[Ar hl] at p2
 refine Bz N p1 (fun q hq =>?_) (fr.perm p2.symm)
 have K9:q.2∈cs:=p2.mem_iff.mp (Y0 hq)
 exact Ek (hb _ K9) (Ca fr h2 _ K9)
theorem En {bk v9:List (Str×Str)}{x:Str}(p:v9.Perm bk)(nd:(bk.map (·.1)).Nodup)(hx:x∈bk.map (·.1)):aW v9 x=aW bk x:=by
 have Rn:=(p.map (·.1)).nodup_iff.mpr nd
 have of:∀{bs:List (Str×Str)},(bs.map (·.1)).Nodup->∀y,(x,y)∈bs->aW bs x=y:=fun{bs}=>by
  induction bs with
  | nil=>intro _ y h;exact nomatch h
  | cons q r ih=>
   intro nd y h
   rw[Jy] at nd
   obtain⟨n1,n2⟩:=Yi.mp nd
   unfold aW
   rcases Jr.mp h with e|h
   ·rw[<-e];exact if_pos rfl
   ·rw[if_neg (fun z=>n1 (by rw[z];exact Y0 (f:=(·.1)) h))]
    exact ih n2 y h
 obtain⟨q,hq,rfl⟩:=Us.mp hx
 rw[of nd q.2 hq,of Rn q.2 (p.mem_iff.mpr hq)]
theorem B9 {bk v9:List (Str×Str)}{n f:Int}(p:v9.Perm bk)(hn:bk.map (·.1)=ax):jw v9 n f=jw bk n f:=by
 have e:∀x∈ax,aW v9 x=aW bk x:=fun x hx=>En p (by rw[hn];exact bX) (by rw[hn];exact hx)
 unfold jw
 simp only[Y5,List.any_nil,Bool.or_false]
 rw[e _ (by decide +kernel),e _ (by decide +kernel),e _ (by decide +kernel),e _ (by decide +kernel)]
theorem Bn {nz sD qW:List (Str×Str)}{n f:Int}(h1:cL ax (aH nz)=true)(h2:cL bM (aH sD)=true)(h3:cL bp (aH qW)=true)(n2:2<=n)(n8:n<=8)(nf:n<f)(JW:f<=16)(hf:jw nz n f=false):ki (aH nz) (aH sD) (aH qW) (.int n) (.int f)=none:=by
 unfold ki Bs
 rw[h1,h2,h3,if_neg (by decide),if_neg (by decide),if_neg (by decide)]
 rw[show ux (.int n)=true from by show(decide (2<=n)&&decide (n<=8))=true;rw[decide_eq_true n2,decide_eq_true n8];rfl,if_neg (by decide)]
 have:Bd (aH nz) (.int n) (.int f)=true:=by
  show(decide (n<f)&&(decide (f<=16) && !jw (cu (aH nz)) n f))=true
  rw[kG,hf,decide_eq_true nf,decide_eq_true JW];rfl
 rw[this,if_neg (by decide)]
theorem tM {H:Hp}{dd:Addr}{ns cs:List Str}{k:Nat}{x y:Str}(h:H dd=some (.dK (dP (ns.zip cs))))(nd:ns.Nodup)(hl:ns.length=cs.length)(hx:ns[k]? = some x)(sm:ns.length<1000):
  ∃H',Du H dd (.dK (dP (ns.zip (cs.set k y)))) H'/\pj H dd (.str x) (.str y) H':=by
 refine⟨_,⟨rfl⟩,?_⟩
 rw[<-Es nd hl hx]
 exact pj.k (k := .inr x) h (Uj (show(dP (ns.zip cs)).length<=1000 by unfold dP;rw[Jd,U8];omega) (by decide))
theorem DV {H:Hp}{dd:Addr}{ns cs:List Str}{k:Nat}{x c:Str}(h:H dd=some (.dK (dP (ns.zip cs))))(nd:ns.Nodup)(hl:ns.length=cs.length)(hx:ns[k]? = some x)(hc:cs[k]? = some c):dI H dd (.str x) (some (.str c)):=by
 have e:gq (dP (ns.zip cs)) (.inr x)=some (.str c):=by rw[fg (by rw[eS hl];exact Jz hx),ll nd hx hc]
 rw[<-e]
 exact dI.k (k := .inr x) h
theorem AG {ns:List Str}{cs:List Str}(nd:ns.Nodup)(hl:ns.length=cs.length):ck [] ((ns.map (Sum.inr:Str->Key)).zip (cs.map V.str))=dP (ns.zip cs):=by
 have e:(ns.map (Sum.inr:Str->Key)).zip (cs.map V.str)=dP (ns.zip cs):=by
  unfold dP
  rw[List.zip_map]
  rfl
 rw[e,dR (by rw[eS hl];exact nd)]
theorem Ew:∀(j:Nat) (c:Nat),(Str.ofString "abcd").cps[j]? = some c->bM[j]? = some ⟨#[c]⟩:=by
 intro j c h
 have hj:j<4:=(Uy.mp h).1
 match j,hj with
 | 0,_=>cases h;rfl
 | 1,_=>cases h;rfl
 | 2,_=>cases h;rfl
 | 3,_=>cases h;rfl
structure tS (K:Ja)(b c:Addr)(H:Hp)(p:Addr)(bk:List (Str×Str))(as:List Addr):Prop where
 at':H p=some (.lst (as.map V.ref))
 pb:p≠b
 pc:p≠c
 len:as.length=bk.length
 prs:∀(j:Nat) a q,as[j]? = some a->bk[j]? = some q->fY H b c a=some (.tup [.str q.1,.str q.2])
theorem tS.step {K:Ja}{b c p:Addr}{H H':Hp}{t t' N:Int}{bk:List (Str×Str)}{as:List Addr}(h:tS K b c H p bk as)(s:Step b c H H' t t' N):tS K b c H' p bk as:=
 ⟨s.old h.at' h.pb h.pc,h.pb,h.pc,h.len,fun j a q e1 e2=>s.sm _ _ (h.prs j a q e1 e2)⟩
section
variable {P:Program}{w:World}{K:Ja}{mg:Str->Option Value}{base:Heap}{f:Addr}{fd:FuncData}
theorem bE:aB ["_law_state", "_law_kinds_here", "_law_near", "_law_far", "_law_one", "_law_other", "_law_kept", "_law_spots", "_law_sizes_here"] ["_law_state"] (ak (top iw)):=⟨rfl,rfl,rfl,by decide +kernel,rfl,by decide +kernel,by decide +kernel⟩
theorem Dz (F:bU K "_law_parts" "_law_parts" (top iw) f fd)(T:Nm mg)(cn:mg "dict" = none)(iK:Fn P w K mg base 1 "_law_kinds" [] (lS ax))(ik:Fn P w K mg base 1 "_law_sizes" [] (lS bp))(aO:Fn P w K mg base 1 "_law_take" ["_law_state", "_law_many"] A7)(dX:Fn P w K mg base 2 "_law_mixed" ["_law_state", "_law_some"] (xV K))(iL:Fn P w K mg base 3 "_law_codes" ["_law_state", "_law_many", "_law_most"] Ct):bh P w K mg base fw 4 f fd ["_law_state"] (Dk K):=by
 refine F.ok bE (fun vs H Q E h =>?_) (fun cH A outer s H vs Q E hr h =>?_)
 ·obtain⟨b,c,t,rfl,_⟩:=h
  rfl
 obtain⟨b,c,t,rfl,bx,t0,t1,q⟩:=h
 have eC:=hr.units
 have hu:=qE hr
 have small:∀{n:Nat},n<=10000->n<sizeLine:=fun h=>Uj h (by decide)
 refine⟨_,(af (aA (i:=1) bE.nd rfl (Or.inl rfl) (wU rfl rfl cn rfl T.n_zip (aa (rg (iK.mono (by first|decide|exact Je _|omega)) hr rfl) (aa (aG (iL.mono (by decide)) hr rfl (aa (pv 0) (aa ah (aa (bA (gW K) (gr (aa ah (aa ah (aa ah (aa ah ae))))) (aG (aO.mono (by decide)) hr rfl (aa (pv 0) (aa ah ae))) (fun _ _=>rfl)) ae)))) ae))))
  (af (aA (i:=2) bE.nd rfl (Or.inl rfl) (aD cI ah (aG (aO.mono (by decide)) hr rfl (aa (pv 0) (aa ah ae)))))
  (af (aA (i:=3) bE.nd rfl (Or.inl rfl) (aD cI (aD cI (pv 2) ah) (aG (aO.mono (by decide)) hr rfl (aa (pv 0) (aa (aD et ah (pv 2)) ae)))))
  (af (fH PassesOwn.never rfl (mj K (fh (aa (fh (aa au (aa au ae))) (aa (fh (aa au (aa au ae))) ae)))) (tupK K 2 rfl (aY (aQ (i:=4) bE.nd rfl (Or.inl rfl)) (aY (aQ (i:=5) bE.nd rfl (Or.inl rfl)) cY))) (ag (bt (aI lF (aD cI (ao (i8 K) rfl T.n_len (by rfl) (aa (bI hu (pv 1) (pv 5) (fun _ _=>rfl)) ae)) (pv 3)) (aD cI (ao (i8 K) rfl T.n_len (by rfl) (aa (bI hu (pv 1) (pv 4) (fun _ _=>rfl)) ae)) (pv 2)) (aM _)) (af (aA (i:=6) bE.nd rfl (Or.inl rfl) (bI hu (pv 1) (pv 4) (fun _ _=>rfl)))
  (af (q9 hu (pv 1) (pv 4) (bI hu (pv 1) (pv 5) (fun _ _=>rfl)) rfl)
  (ag (q9 hu (pv 1) (pv 5) (pv 6) rfl)))) aF)))
  (af (aA (i:=7) bE.nd rfl (Or.inl rfl) (va rfl rfl T.n_list rfl T.n_zip (aa au (aa (aG (iL.mono (by decide)) hr rfl (aa (pv 0) (aa ah (aa ah ae)))) ae))))
  (af (aA (i:=8) bE.nd rfl (Or.inl rfl) (wu rfl rfl T.n_list rfl T.n_zip (aa (rg (ik.mono (by first|decide|exact Je _|omega)) hr rfl) (aa (aG (iL.mono (by decide)) hr rfl (aa (pv 0) (aa ah (aa (bA (gW K) (gr (aa ah (aa ah (aa ah ae)))) (aG (aO.mono (by decide)) hr rfl (aa (pv 0) (aa ah ae))) (fun _ _=>rfl)) ae)))) ae))))
  (ag (av (gr (aa (aG (dX.mono (by decide)) hr rfl (aa (pv 0) (aa (AZ rfl rfl T.n_list (pv 1)) ae))) (aa (aG (dX.mono (by decide)) hr rfl (aa (pv 0) (aa (pv 7) ae))) (aa (aG (dX.mono (by decide)) hr rfl (aa (pv 0) (aa (pv 8) ae))) (aa (pv 2) (aa (pv 3) ae)))))))))))))),?_⟩
 dsimp only
 refine kZ (te:=S6 _ _) (fun v H'=>∃(dd:Addr) (cs:List Str) (t':Int),v = .ref dd/\cs.length=11/\eM cs/\(∀x∈cs,tL x/\x.length<=11)/\H dd=none/\H' dd=some (.dK (dP (ax.zip cs)))/\Step b c H H' t t' 300) (fun Qn qn =>?_) ?_
 ·refine⟨rfl,fun pk H1 n1=>⟨_,rfl,by show 4<=sizeLine;decide,fun lp H2 n2=>⟨_,rfl,b,c,t,4,rfl,(bx.same n1.same).same n2.same,t0,by omega,by decide,by decide,fun r H3 r0 r1 dw =>?_⟩⟩⟩
  obtain⟨pb,pc⟩:=bx.aK n1.nn
  obtain⟨lb,lc⟩:=(bx.same n1.same).aK n2.nn
  have VS:=dw.old (n2.same _ _ n1.at) pb pc
  have Ih:=dw.old n2.at lb lc
  have dw:=(Step.same bx (n1.same.trans n2.same)).trans dw
  obtain⟨m,hm,m4,m9⟩:∃m:Nat,([V.int 4,V.int 4,V.int 5,V.int 9]:List V)[r.toNat]? = some (.int (m:Nat))/\4<=m/\m<=9:=by
   have:r=0∨r=1∨r=2∨r=3:=by omega
   rcases this with rfl|rfl|rfl|rfl
   ·exact⟨4,rfl,by decide,by decide⟩
   ·exact⟨4,rfl,by decide,by decide⟩
   ·exact⟨5,rfl,by decide,by decide⟩
   ·exact⟨9,rfl,by decide,by decide⟩
  have mm:11<=2^m:=Ji (show 11<=2^4 by decide) (Nat.pow_le_pow_right (by decide) m4)
  refine .inl ⟨lp,_,r,.int (m:Nat),rfl,rfl,bq.of Ih,fM r0 hm,b,c,t+1,11,m,rfl,dw.bx,by omega,by omega,by decide,by decide,mm,by omega,fun l cs H4 t4 cl fr cb hl0 pI gz =>?_⟩
  have Ww:=gz.old VS pb pc
  have gz:=dw.trans gz
  refine⟨pk,l,ax.map Sum.inr,cs.map V.str,rfl,bq.of Ww,bq.of pI,by rw[Jd,Jd,cl];rfl,by decide,fun d H5 n5 =>?_⟩
  rw[AG bX (by rw[cl];rfl)] at n5
  exact qn _ _ ⟨d,cs,t4,rfl,cl,fr,fun x hx=>⟨(cb x hx).1,by have:=(cb x hx).2;omega⟩,gz.fresh bx n5.nn,n5.at,(gz.cX n5).more (by omega)⟩
 rintro v H1 ⟨dd,cs,t2,rfl,cl,fr,cb,hd0,HC,oX⟩
 obtain⟨db,dc⟩:=bx.aK hd0
 have S3:=oX.ub
 have lo1:=oX.le
 refine gn ?_
 refine⟨_,rfl,b,c,t2,7,rfl,oX.bx,by omega,by omega,by decide,by decide,fun r2 H2 r20 r21 iO =>.inl ⟨_,_,rfl,rfl,gn ?_⟩⟩
 have JN:=iO.old HC db dc
 have iO:=oX.trans iO
 refine⟨_,rfl,.inl ⟨_,_,rfl,rfl,_,rfl,_,rfl,_,_,rfl,rfl,b,c,_,_,rfl,iO.bx,by omega,by omega,by omega,by omega,fun r3 H3 r30 r31 dw =>.inl ⟨_,_,rfl,rfl,gn ?_⟩⟩⟩
 have V6:=dw.old JN db dc
 have dw:=iO.trans dw
 obtain⟨near,en⟩:∃near:Int,near=2+r2:=⟨_,rfl⟩
 obtain⟨dz,ef⟩:∃dz:Int,dz=2+r2+1+r3:=⟨_,rfl⟩
 rw[<-ef,<-en]
 have n2:2<=near:=by omega
 have n8:near<=8:=by omega
 have nf:near<dz:=by omega
 have JW:dz<=16:=by omega
 have kl:ax.length=cs.length:=by rw[cl];rfl
 have sz:∀{x:Str},x.length<=11->x.length<=sizeLine:=fun h=>Ji h (by decide)
 dsimp only
 refine gH (t:=Kt _ _ _) (fun σ H'=>∃(hR:List Str) (x4 x5 x6:Option V) (t':Int),σ=[some (.ref b),some (.ref dd),some (.int near),some (.int dz),x4,x5,x6,none,none]/\hR.Perm cs/\H' dd=some (.dK (dP (ax.zip hR)))/\jw (ax.zip hR) near dz=false/\Step b c H H' t t' 310) (fun Nx nx =>?_) ?_
 ·refine⟨by show 2<=sizeLine;decide,fun p1 H4 n4=>⟨by show 2<=sizeLine;decide,fun p2 H5 n5=>⟨by show 2<=sizeLine;decide,fun p3 H6 n6=>⟨p3,rfl,⟨_,bF.of n6.at⟩,?_⟩⟩⟩⟩
  have jf:=((dw.cX n4).cX n5).cX n6
  have KO:=n6.same _ _ (n5.same _ _ (n4.same _ _ V6))
  have h1:=n6.same _ _ (n5.same _ _ n4.at)
  have h2:=n6.same _ _ n5.at
  have h3:=n6.at
  have QY:∀{p:Addr} {o:List V},H6 p=some (.tup o)->p≠dd:=fun h z=>by rw[z,KO] at h;cases h
  have e1:=QY h1
  have e2:=QY h2
  have e3:=QY h3
  refine wx (N:=2) (fun k σ H'=>∃(hR:List Str) (x4 x5 x6:Option V),σ=[some (.ref b),some (.ref dd),some (.int near),some (.int dz),x4,x5,x6,none,none]/\hR.Perm cs/\H' dd=some (.dK (dP (ax.zip hR)))/\(∀p,p≠dd->H' p=H6 p)/\(0<k->∀x y,hR[5]? = some x->hR[8]? = some y->¬((y.length:Int)+dz<x.length+near))/\(1<k->∀x y,hR[6]? = some x->hR[9]? = some y->¬((y.length:Int)+dz<x.length+near))/\∃t',Step b c H H' t t' 310) ⟨cs,_,_,_,rfl,List.Perm.refl _,KO,fun _ _=>rfl,(fun h=>absurd h (by decide)),(fun h=>absurd h (by decide)),_,jf.more (by omega)⟩ ?_ ?_
  ·rintro k σ H7 hk ⟨hR,x4,x5,x6,rfl,pm,hd7,k7,o1,o2,t7,iZ⟩
   have WV:=(k7 _ e1).trans h1
   have Xf:=(k7 _ e2).trans h2
   have Ob:=(k7 _ e3).trans h3
   have Td:hR.length=11:=by rw[pm.length_eq,cl]
   have QR:ax.length=hR.length:=by rw[Td];rfl
   have OJ:∀{i:Nat} {x:Str},hR[i]? = some x->x.length<=11:=fun h=>(cb _ (pm.mem_iff.mp (Jz h))).2
   obtain⟨c5,h5⟩:∃x,hR[5]? = some x:=⟨_,Jc (by omega)⟩
   obtain⟨c6,h6⟩:∃x,hR[6]? = some x:=⟨_,Jc (by omega)⟩
   obtain⟨c8,h8⟩:∃x,hR[8]? = some x:=⟨_,Jc (by omega)⟩
   obtain⟨c9,h9⟩:∃x,hR[9]? = some x:=⟨_,Jc (by omega)⟩
   have gd:∀{i:Nat} {x y:Str},ax[i]? = some x->hR[i]? = some y->dI H7 dd (.str x) (some (.str y)):=fun hx hy=>DV hd7 bX QR hx hy
   have swap:∀{i j:Nat} {x y a d:Str},ax[i]? = some x->ax[j]? = some y->hR[i]? = some a->hR[j]? = some d->∃H8 H9,pj H7 dd (.str x) (.str d) H8/\pj H8 dd (.str y) (.str a) H9/\H9 dd=some (.dK (dP (ax.zip ((hR.set i d).set j a))))/\(∀p,p≠dd->H9 p=H6 p)/\((hR.set i d).set j a).Perm cs/\Step b c H H9 t t7 310:=fun{i j x y a d} hx hy ha hd=>by
    obtain⟨H8,c8,d8⟩:=tM (y:=d) hd7 bX QR hx (by decide)
    obtain⟨H9,c9,d9⟩:=tM (y:=a) c8.at bX (by rw[Y7];exact QR) hy (by decide)
    exact⟨H8,H9,d8,d9,c9.at,fun p hp=>by rw[c9.ne hp,c8.ne hp];exact k7 p hp,(swap_perm ha hd).trans pm,(iZ.Ds c8 hd0 db dc).Ds c9 hd0 db dc⟩
   obtain rfl|rfl:k=0∨k=1:=by omega
   ·refine⟨⟨_,_,bF.of Ob,rfl⟩,?_⟩
    rintro w' H8 ⟨rfl,hy⟩
    have e:=hy _ (bF.of Ob)
    obtain rfl:V.ref p1=w':=Option.some.inj e
    refine⟨p1,_,rfl,bF.of WV,rfl,_,_,rfl,_,_,rfl,rfl,?_⟩
    refine⟨_,rfl,_,rfl,dd,_,rfl,gd (i:=8) rfl h8,_,_,rfl,⟨sz (OJ h8),rfl⟩,_,rfl,.inl ⟨_,_,rfl,rfl,_,rfl,_,rfl,dd,_,rfl,gd (i:=5) rfl h5,_,_,rfl,⟨sz (OJ h5),rfl⟩,_,rfl,.inl ⟨_,_,rfl,rfl,_,_,rfl,rfl,_,rfl,fG (fun c =>?_) (fun c =>?_)⟩⟩⟩
    ·have c:=of_decide_eq_true c
     obtain⟨H9,H10,d9,d10,hd10,M7,pm10,jk⟩:=swap (i:=5) (j:=8) (x := "jump") (y := "farjump") rfl rfl h5 h8
     refine⟨_,rfl,_,rfl,dd,_,rfl,gd (i:=5) rfl h5,gn ⟨_,rfl,_,rfl,dd,_,rfl,gd (i:=8) rfl h8,_,rfl,_,rfl,dd,_,rfl,d9,_,rfl,_,rfl,_,rfl,dd,_,rfl,d10,?_⟩⟩
     refine⟨_,_,_,_,rfl,pm10,hd10,M7,fun _ x y hx hy =>?_,(fun h=>absurd h (by decide)),t7,jk⟩
     rw[U7 (by decide),U9 (by omega)] at hx
     rw[U9 (by rw[Y7];omega)] at hy
     cases hx;cases hy
     omega
    ·have c:¬_:=fun z=>c (decide_eq_true z)
     refine⟨hR,_,_,_,rfl,pm,hd7,k7,fun _ x y hx hy =>?_,(fun h=>absurd h (by decide)),t7,iZ⟩
     rw[h5] at hx;rw[h8] at hy
     cases hx;cases hy
     exact c
   ·refine⟨⟨_,_,bF.of Ob,rfl⟩,?_⟩
    rintro w' H8 ⟨rfl,hy⟩
    have e:=hy _ (bF.of Ob)
    obtain rfl:V.ref p2=w':=Option.some.inj e
    refine⟨p2,_,rfl,bF.of Xf,rfl,_,_,rfl,_,_,rfl,rfl,?_⟩
    have o1:=o1 (by decide)
    refine⟨_,rfl,_,rfl,dd,_,rfl,gd (i:=9) rfl h9,_,_,rfl,⟨sz (OJ h9),rfl⟩,_,rfl,.inl ⟨_,_,rfl,rfl,_,rfl,_,rfl,dd,_,rfl,gd (i:=6) rfl h6,_,_,rfl,⟨sz (OJ h6),rfl⟩,_,rfl,.inl ⟨_,_,rfl,rfl,_,_,rfl,rfl,_,rfl,fG (fun c =>?_) (fun c =>?_)⟩⟩⟩
    ·have c:=of_decide_eq_true c
     obtain⟨H9,H10,d9,d10,hd10,M7,pm10,jk⟩:=swap (i:=6) (j:=9) (x := "zero") (y := "farzero") rfl rfl h6 h9
     refine⟨_,rfl,_,rfl,dd,_,rfl,gd (i:=6) rfl h6,gn ⟨_,rfl,_,rfl,dd,_,rfl,gd (i:=9) rfl h9,_,rfl,_,rfl,dd,_,rfl,d9,_,rfl,_,rfl,_,rfl,dd,_,rfl,d10,?_⟩⟩
     refine⟨_,_,_,_,rfl,pm10,hd10,M7,fun _ x y hx hy =>?_,fun _ x y hx hy =>?_,t7,jk⟩
     ·rw[U7 (by decide),U7 (by decide)] at hx hy
      exact o1 x y hx hy
     ·rw[U7 (by decide),U9 (by omega)] at hx
      rw[U9 (by rw[Y7];omega)] at hy
      cases hx;cases hy
      omega
    ·have c:¬_:=fun z=>c (decide_eq_true z)
     refine⟨hR,_,_,_,rfl,pm,hd7,k7,fun _=>o1,fun _ x y hx hy =>?_,t7,iZ⟩
     rw[h6] at hx;rw[h9] at hy
     cases hx;cases hy
     exact c
  ·rintro σ H7 ⟨hR,x4,x5,x6,rfl,pm,hd7,k7,o1,o2,t7,iZ⟩
   have Td:hR.length=11:=by rw[pm.length_eq,cl]
   refine⟨⟨_,bF.of ((k7 _ e3).trans h3),Je _⟩,nx _ _ ⟨hR,_,_,_,t7,rfl,pm,hd7,?_,iZ⟩⟩
   obtain⟨c5,h5⟩:∃x,hR[5]? = some x:=⟨_,Jc (by omega)⟩
   obtain⟨c6,h6⟩:∃x,hR[6]? = some x:=⟨_,Jc (by omega)⟩
   obtain⟨c8,h8⟩:∃x,hR[8]? = some x:=⟨_,Jc (by omega)⟩
   obtain⟨c9,h9⟩:∃x,hR[9]? = some x:=⟨_,Jc (by omega)⟩
   unfold jw
   simp only[Y5,List.any_nil,Bool.or_false]
   have g5:aW (ax.zip hR) (Str.ofString "jump")=c5:=ll bX (k:=5) rfl h5
   have g6:aW (ax.zip hR) (Str.ofString "zero")=c6:=ll bX (k:=6) rfl h6
   have g8:aW (ax.zip hR) (Str.ofString ("far" ++ "jump"))=c8:=ll bX (k:=8) (by rfl) h8
   have g9:aW (ax.zip hR) (Str.ofString ("far" ++ "zero"))=c9:=ll bX (k:=9) (by rfl) h9
   rw[g5,g6,g8,g9,decide_eq_false (o1 (by decide) _ _ h5 h8),decide_eq_false (o2 (by decide) _ _ h6 h9)]
   rfl
 rintro σ H4 ⟨cs1,x4,x5,x6,t4,rfl,pm1,hd4,hF,gz⟩
 have S2:=gz.ub
 have S9:=gz.le
 have OH:cs1.length=11:=by rw[pm1.length_eq,cl]
 have Vu:eM cs1:=fr.perm pm1.symm
 have Tn:∀x∈cs1,tL x/\x.length<=11:=fun x hx=>cb x (pm1.mem_iff.mp hx)
 refine kZ (te:=SO _ _) (fun v H'=>∃(p:Addr) (as:List Addr) (cs:List Str) (t':Int),v = .ref p/\cs.length=4/\eM cs/\(∀x∈cs,tL x/\x.length<=11)/\tS K b c H' p (bM.zip cs) as/\Step b c H4 H' t4 t' 300) (fun Qn qn =>?_) ?_
 ·refine⟨_,rfl,b,c,t4,4,3,rfl,gz.bx,by omega,by omega,by decide,by decide,by decide,by decide,fun l cs2 H5 t5 cl2 fr2 cb2 hl0 pI cj =>?_⟩
  refine⟨"abcd",l,cs2.map V.str,rfl,bq.of pI,by decide +kernel,by decide +kernel,by rw[Jd,cl2];decide +kernel,fun H6 p as s6 Dw DJ al hk=>qn _ _ ⟨p,as,cs2,t5,rfl,cl2,fr2,fun x hx=>⟨(cb2 x hx).1,by have:=(cb2 x hx).2;omega⟩,⟨DJ,(cj.bx.aK Dw).1,(cj.bx.aK Dw).2,by rw[al,U8,cl2];decide +kernel,fun j a qq ha hq =>?_⟩,(cj.trans (Step.same cj.bx s6)).more (by omega)⟩⟩
  have z:=Yc.mp hq
  have hj:j<(Str.ofString "abcd").cps.size:=by rw[<-al];exact(Jq.mp ha).1
  have ex:=Ud hj
  obtain⟨u1,u2⟩:=hk j a _ (.str qq.2) ha ex (by rw[Jk,z.2];rfl)
  have e1:=Ew j _ ex
  rw[z.1] at e1
  rw[<-Option.some.inj e1] at u2
  rw[cJ (cj.bx.aK u1).1 (cj.bx.aK u1).2]
  exact u2
 rintro v H5 ⟨p5,as5,cs2,t5,rfl,cl2,fr2,cb2,P5,cj⟩
 have OK:=cj.old hd4 db dc
 have Tq:=cj.ub
 have SG:=cj.le
 refine gn ?_
 refine kZ (te:=TM _ _) (fun v H'=>∃(p:Addr) (as:List Addr) (cs:List Str) (t':Int),v = .ref p/\cs.length=9/\eM cs/\(∀x∈cs,tL x/\x.length<=11)/\tS K b c H' p (bp.zip cs) as/\Step b c H5 H' t5 t' 300) (fun Qn qn =>?_) ?_
 ·refine⟨rfl,fun pk H6 n6=>⟨_,rfl,by show 3<=sizeLine;decide,fun lp H7 n7=>⟨_,rfl,b,c,t5,3,rfl,(cj.bx.same n6.same).same n7.same,by omega,by omega,by decide,by decide,fun r H8 r0 r1 gX =>?_⟩⟩⟩
  obtain⟨pb,pc⟩:=cj.bx.aK n6.nn
  obtain⟨lb,lc⟩:=(cj.bx.same n6.same).aK n7.nn
  have WL:=gX.old (n7.same _ _ n6.at) pb pc
  have Su:=gX.old n7.at lb lc
  have gX:=(Step.same cj.bx (n6.same.trans n7.same)).trans gX
  obtain⟨m,hm,m4,m9⟩:∃m:Nat,([V.int 4,V.int 5,V.int 8]:List V)[r.toNat]? = some (.int (m:Nat))/\4<=m/\m<=8:=by
   have:r=0∨r=1∨r=2:=by omega
   rcases this with rfl|rfl|rfl
   ·exact⟨4,rfl,by decide,by decide⟩
   ·exact⟨5,rfl,by decide,by decide⟩
   ·exact⟨8,rfl,by decide,by decide⟩
  have mm:9<=2^m:=Ji (show 9<=2^4 by decide) (Nat.pow_le_pow_right (by decide) m4)
  refine .inl ⟨lp,_,r,.int (m:Nat),rfl,rfl,bq.of Su,fM r0 hm,b,c,t5+1,9,m,rfl,gX.bx,by omega,by omega,by decide,by decide,mm,by omega,fun l cs3 H9 t9 cl3 fr3 cb3 hl0 pI jS =>?_⟩
  have WQ:=jS.old WL pb pc
  have jS:=gX.trans jS
  refine⟨pk,l,bp.map V.str,cs3.map V.str,rfl,bq.of WQ,bq.of pI,fun H10 p as E1 Dw DJ al hk=>qn _ _ ⟨p,as,cs3,t9,rfl,cl3,fr3,fun x hx=>⟨(cb3 x hx).1,by have:=(cb3 x hx).2;omega⟩,⟨DJ,(jS.bx.aK Dw).1,(jS.bx.aK Dw).2,by rw[al,Jd,Jd,U8],fun j a qq ha hq =>?_⟩,(jS.trans (Step.same jS.bx E1)).more (by omega)⟩⟩
  have z:=Yc.mp hq
  obtain⟨u1,u2⟩:=hk j a (.str qq.1) (.str qq.2) ha (by rw[Jk,z.1];rfl) (by rw[Jk,z.2];rfl)
  rw[cJ (jS.bx.aK u1).1 (jS.bx.aK u1).2]
  exact u2
 rintro v H6 ⟨p6,as6,cs3,t6,rfl,cl3,fr3,cb3,P6,jf⟩
 have KO:=jf.old OK db dc
 have P5:=P5.step jf
 have V2:=jf.ub
 have Wl:=jf.le
 refine gn ?_
 have KU:=rb kY.1 (Je 11) Tn
 have Mz:=rb kY.2.1 (Je 11) cb2
 have K2:=rb kY.2.2 (Je 11) cb3
 have Wg:(ax.zip cs1).length=11:=by rw[U8,OH];rfl
 have TY:(bM.zip cs2).length=4:=by rw[U8,cl2];rfl
 have VA:(bp.zip cs3).length=9:=by rw[U8,cl3];rfl
 have Nd:=(gz.trans cj).trans jf
 refine⟨_,rfl,_,rfl,dd,_,rfl,KO,fun H7 p7 as7 s7 Dw DJ al hk =>?_⟩
 have iZ:=Step.same jf.bx s7
 have P5:=P5.step iZ
 have P6:=P6.step iZ
 obtain⟨zs,ez1,ez2,M⟩:=Dr (K:=K) (G:=fY H7 b c) (bk:=ax.zip cs1) (as:=as7) (by rw[al];unfold dP;rw[Jd]) (by omega) (fun qq hq=>⟨(KU qq hq).1,(KU qq hq).2.1⟩) (fun j a qq ha hq=>by
  obtain⟨u1,u2⟩:=hk j a (.inr qq.1) (.str qq.2) ha (by unfold dP;rw[Jk,hq];rfl)
  rw[cJ (jf.bx.aK u1).1 (jf.bx.aK u1).2]
  exact u2)
 refine⟨b,c,p7,t6,fY H7 b c,zs,rfl,iZ.bx,by omega,by omega,ar.refl _,.inl (bq.of (by rw[DJ,ez2])),M,fun l1 zs1 H8 t8 pz1 hl10 hl11 gX =>?_⟩
 have UT:=gX.ub
 have W7:=gX.le
 obtain⟨l1b,l1c⟩:=iZ.bx.aK hl10
 obtain⟨nz,pb1,D1⟩:=vF ez1 M pz1 gX.sm (by rw[cJ l1b l1c];exact hl11)
 have P5:=P5.step gX
 have P6:=P6.step gX
 obtain⟨zs,ez1,ez2,M⟩:=Dr (K:=K) (G:=fY H8 b c) P5.len (by omega) (fun qq hq=>⟨(Mz qq hq).1,(Mz qq hq).2.1⟩) P5.prs
 refine⟨_,rfl,_,rfl,b,c,p5,t8,fY H8 b c,zs,rfl,gX.bx,by omega,by omega,ar.refl _,.inl (bq.of (by rw[P5.at',ez2])),M,fun l2 zs2 H9 t9 pz2 hl20 hl21 jS =>?_⟩
 have Xp:=jS.ub
 have Xm:=jS.le
 obtain⟨l2b,l2c⟩:=gX.bx.aK hl20
 obtain⟨sD,pb2,D2⟩:=vF ez1 M pz2 jS.sm (by rw[cJ l2b l2c];exact hl21)
 have P6:=P6.step jS
 obtain⟨zs,ez1,ez2,M⟩:=Dr (K:=K) (G:=fY H9 b c) P6.len (by omega) (fun qq hq=>⟨(K2 qq hq).1,(K2 qq hq).2.1⟩) P6.prs
 refine⟨_,rfl,_,rfl,b,c,p6,t9,fY H9 b c,zs,rfl,jS.bx,by omega,by omega,ar.refl _,.inl (bq.of (by rw[P6.at',ez2])),M,fun l3 zs3 H10 t10 pz3 hl30 hl31 jk =>?_⟩
 obtain⟨l3b,l3c⟩:=jS.bx.aK hl30
 obtain⟨qW,pb3,D3⟩:=vF ez1 M pz3 jk.sm (by rw[cJ l3b l3c];exact hl31)
 refine⟨_,rfl,_,rfl,by show 5<=sizeLine;decide,fun l H11 n11 =>?_⟩
 have Q5:=((((Nd.trans iZ).trans gX).trans jS).trans jk).cX n11
 have Kh:=(Step.same jk.bx n11.same).sm
 refine q l _ _ _ nz sD qW near dz H11 t10 ⟨?_,?_,?_,?_,?_,?_,by omega⟩ (((((Nd.trans iZ).trans gX).trans jS).trans jk).fresh bx n11.nn) n11.at (di (D1.same (jS.sm.trans (jk.sm.trans Kh))) (di (D2.same (jk.sm.trans Kh)) (di (D3.same Kh) uc))) (Q5.more (by omega))
 ·refine Bn (rL Mh (by rw[OH];rfl) (by omega) (fun x hx=>(Tn x hx).1) Vu pb1) (rL KC (by rw[cl2];rfl) (by omega) (fun x hx=>(cb2 x hx).1) fr2 pb2) (rL JB (by rw[cl3];rfl) (by omega) (fun x hx=>(cb3 x hx).1) fr3 pb3) n2 n8 nf JW ?_
  rw[B9 pb1 (eS (by rw[OH];rfl))]
  exact hF
 ·have:=pb1.map (·.1)
  rw[eS (by rw[OH];rfl)] at this
  exact this
 ·rw[pb1.length_eq,Wg]
 ·rw[pb2.length_eq,TY]
 ·rw[pb3.length_eq,VA]
 ·rintro qq (hq|hq|hq)
  ·exact KU qq (pb1.mem_iff.mp hq)
  ·exact Mz qq (pb2.mem_iff.mp hq)
  ·exact K2 qq (pb3.mem_iff.mp hq)
end
noncomputable def l6:Nat->Nat->List Nat
 | 0,_=>[]
 | k+1,n=>l6 k (n / 2)++[48+n%2]
noncomputable def cW (n k:Nat):Str:=⟨(l6 k n).toArray⟩
theorem gb:∀(k n:Nat),((Yd k).map fun j=>48+n / 2^j%2).reverse=l6 k n
 | 0,_=>rfl
 | k+1,n=>by
  rw[List.range_succ_eq_map,Jy,List.reverse_cons,Yn]
  show _++[48+n / 2^0%2]=l6 k (n / 2)++[48+n%2]
  rw[<-gb k (n / 2)]
  congr 2
  ·refine Y1 fun j _ =>?_
   show 48+n / 2^(j+1)%2=48+n / 2 / 2^j%2
   rw[Nat.div_div_eq_div_mul,Nat.pow_succ,Nat.mul_comm]
  ·simp
theorem tu:∀(k n:Nat),(l6 k n).length=k
 | 0,_=>rfl
 | k+1,n=>by unfold l6;rw[Jw,tu k];rfl
theorem yD (n:Nat):Builtin.bitAnd (n:Int) 1=((n%2:Nat):Int):=by
 rw[PyProof.Rows.bitAnd_pp (by omega) (by decide)]
 have:((n:Int).toNat &&& (1:Int).toNat)=n%2:=by
  show(n &&& 1)=n%2
  exact Nat.and_one_is_mod n
 rw[this]
theorem xK (n:Nat):(Str.ofString (toString ((n%2:Nat):Int)))=⟨#[48+n%2]⟩:=by
 rcases Nat.mod_two_eq_zero_or_one n with h|h<;>rw[h]<;>decide +kernel
theorem um:∀k:Nat,(Jv k 1).sum=k
 | 0=>rfl
 | k+1=>by rw[Yo,Ys,um k];omega
theorem tP {α β:Type}(g: α -> β):∀l:List α,l.flatMap (fun j=>[g j])=l.map g
 | []=>rfl
 | a::l=>by rw[List.flatMap_cons,tP g l];rfl
def mD:Sp:=fun vs H Q _=>eu fun(n k:Nat)=>vs=[.int n,.int k]/\k<=60/\∀H',ar H H'->Q (.str (cW n k)) H'
section
variable {P:Program}{w:World}{K:Ja}{mg:Str->Option Value}{base:Heap}{f:Addr}{fd:FuncData}
theorem dJ:aB ["number", "many", "figures", "step"] ["number", "many"] (ak (top gA)):=⟨rfl,rfl,rfl,by decide +kernel,rfl,by decide +kernel,by decide +kernel⟩
theorem HV (F:bU K "figures_of" "figures_of" (top gA) f fd)(T:Nm mg):bh P w K mg base fw 1 f fd ["number", "many"] mD:=by
 refine F.ok dJ (fun vs H Q E h =>?_) (fun cH A outer s H vs Q E hr h =>?_)
 ·obtain⟨n,k,rfl,_⟩:=h
  rfl
 obtain⟨n,k,rfl,hk,q⟩:=h
 have eC:=hr.units
 refine⟨_,(af (aA (i:=2) dJ.nd rfl (Or.inl rfl) (gr ae))
  (af (fH PassesOwn.never rfl (eR rfl T.n_range (aa (pv 1) ae)) (aQ (i:=3) dJ.nd rfl (Or.inl rfl)) (af (mi (tU K PySem.F.plainAttrs_list PySem.F.slot_list_append PySem.F.type_list_append sF (pv 2) (aa (bf kh rfl T.n_str (by rfl) (aa (aD JM (pv 0) ah) ae)) ae)))
  (ag (vD (i:=0) dJ.nd rfl (Or.inl rfl) ah Dv))))
  (ag (av (tU K PySem.F.plainAttrs_str PySem.F.slot_str_join PySem.F.type_str_join (yF K) au (aa (Iv K (pv 2)) ae)))))),?_⟩
 refine⟨by show 0<=sizeLine;decide,fun l H1 n1 =>?_⟩
 refine⟨_,rfl,k,rfl,by omega,by omega,?_⟩
 refine eQ (lo:=0) (n:=k) (fun i σ H'=>∃x3,σ=[some (.int ((n / 2^i:Nat):Int)),some (.int k),some (.ref l),x3]/\H' l=some (.lst (((Yd i).map fun j=>(⟨#[48+n / 2^j%2]⟩:Str)).map V.str))/\ar H H') ⟨_,by simp;rfl,n1.at,n1.same⟩ ?_ ?_
 ·intro i σ H2 hi
  refine ai.go ?_
  rintro x3 rfl uv gm
  refine⟨_,rfl,.inl ⟨rfl,_,bq.of uv⟩,_,rfl,_,_,rfl,rfl,_,rfl,?_,l,_,_,rfl,rfl,uv,?_,fun H3 c3 =>?_⟩
  ·rw[yD]
   have:((n / 2^i%2:Nat):Int).natAbs<=1:=by omega
   have hb:((n / 2^i%2:Nat):Int).natAbs=0∨((n / 2^i%2:Nat):Int).natAbs=1:=by omega
   rcases hb with z|z<;>rw[z]<;>decide
  ·rw[Jd,Jd,List.length_range];exact Jn (show i<1000 by omega) (by decide)
  have ed:((n / 2^i:Nat):Int) / 2=((n / 2^(i+1):Nat):Int):=by rw[Nat.pow_succ,<-Nat.div_div_eq_div_mul];omega
  refine⟨_,rfl,_,_,rfl,rfl,⟨by decide,by decide⟩,some (.int (0+i)),?_,?_,?_⟩
  ·show[some (V.int (((n / 2^i:Nat):Int) / 2)),_,_,_]=_
   rw[ed]
  ·rw[c3.at,yD,xK,List.range_succ,J7,J7]
   rfl
  ·intro a o e
   rw[c3.ne (aw e n1.nn)]
   exact gm a o e
 ·intro σ H2
  refine ai.go ?_
  rintro x3 rfl uv gm
  refine⟨rfl,_,rfl,l,_,rfl,bq.of uv,fun pr H3 n3 =>?_⟩
  refine⟨_,pr,((Yd k).map fun j=>(⟨#[48+n / 2^j%2]⟩:Str)).reverse,rfl,rfl,bq.of (by rw[n3.at,List.map_reverse]),?_,?_⟩
  ·rw[List.map_reverse,Yn,List.sum_reverse]
   have:((Yd k).map ((fun x:Str=>x.length)∘fun j=>(⟨#[48+n / 2^j%2]⟩:Str)))=Jv k 1:=by
    rw[List.eq_replicate_iff]
    refine⟨by simp,fun b hb =>?_⟩
    refine ai.el (Us.mp hb) _ ?_
    rintro j _ rfl
    rfl
   rw[this,um]
   show k+_*0<=16777216
   omega
  ·have e:Txt.join "" ((Yd k).map fun j=>(⟨#[48+n / 2^j%2]⟩:Str)).reverse=cW n k:=by
    have h1:=cT ((Yd k).map fun j=>(⟨#[48+n / 2^j%2]⟩:Str)).reverse
    have h2:(((Yd k).map fun j=>(⟨#[48+n / 2^j%2]⟩:Str)).reverse.flatMap fun p=>p.cps.toList)=l6 k n:=by
     rw[<-gb,<-List.map_reverse,<-List.map_reverse,List.flatMap_map]
     show(Yd k).reverse.flatMap (fun j=>[48+n / 2^j%2])=_
     exact tP _ _
    rw[h2] at h1
    unfold cW
    rw[<-h1]
   exact e▸q H3 (gm.trans n3.same)
end
def lM:Sp:=fun vs H Q _=>∃n:Nat,vs=[.int n]/\n<=1000/\Q (.int (2^n)) H
section
variable {P:Program}{w:World}{K:Ja}{mg:Str->Option Value}{base:Heap}{f:Addr}{fd:FuncData}
theorem sM:aB ["power", "whole", "step"] ["power"] (ak (top nh)):=⟨rfl,rfl,rfl,by decide +kernel,rfl,by decide +kernel,by decide +kernel⟩
theorem IE (F:bU K "two_to" "two_to" (top nh) f fd)(T:Nm mg):bh P w K mg base fw 1 f fd ["power"] lM:=by
 refine F.ok sM (fun vs H Q E h =>?_) (fun cH A outer s H vs Q E hr h =>?_)
 ·obtain⟨n,rfl,_⟩:=h
  rfl
 obtain⟨n,rfl,hn,q⟩:=h
 refine⟨_,(af (aA (i:=1) sM.nd rfl (Or.inl rfl) ah)
  (af (fH PassesOwn.never rfl (eR rfl T.n_range (aa (pv 0) ae)) (aQ (i:=2) sM.nd rfl (Or.inl rfl)) (ag (vD (i:=1) sM.nd rfl (Or.inl rfl) (pv 1) Cq)))
  (ag (av (pv 1))))),?_⟩
 refine⟨_,rfl,_,rfl,by omega,by omega,?_⟩
 refine eQ (lo:=0) (n:=n) (fun i σ H'=>H'=H/\∃st,σ=[some (.int n),some (.int (2^i)),st]) ⟨rfl,_,rfl⟩ ?_ ?_
 ·rintro i σ H' hi ⟨rfl,st,rfl⟩
  refine⟨_,rfl,_,rfl,_,_,rfl,rfl,rfl,some (.int (0+i)),?_⟩
  rw[<-Dt]
  rfl
 ·rintro σ H' ⟨rfl,st,rfl⟩
  exact⟨_,rfl,q⟩
end
inductive Arg where
 | sp (x:Str)|nu (n:Nat)|ma (n:Nat)|ne (d:Int)|fa (d:Int)
noncomputable def Arg.kind:Arg->Str
 | .sp _ => "spot" | .nu _ => "number" | .ma _ => "many" | .ne _ => "near" | .fa _ => "far"
noncomputable def Arg.v:Arg->V
 | .sp x =>.str x | .nu n =>.int (n:Nat) | .ma n =>.int (n:Nat) | .ne d =>.int d | .fa d =>.int d
def Arg.ok:Arg->Prop
 | .sp x=>x∈bM | .nu n=>n<=255 | .ma n=>n<=7 | .ne d=>d.natAbs<=1000000 | .fa d=>d.natAbs<=1000000
noncomputable def inD (d:Int)(k:Nat):Bool:=decide (-(2^(k-1))<=d)&&decide (d<2^(k-1))
noncomputable def pM (d:Int)(k:Nat):Option Str:=if inD d k=true then some (cW ((if d<0 then d+2^k else d).toNat) k) else none
noncomputable def cp (n:Nat):Nat:=PySem.Builtin.Int.intBits (n:Int)
structure Fb where
 b1:List (Str×Str)
 b2:List (Str×Str)
 b3:List (Str×Str)
 near:Nat
 dz:Nat
noncomputable def fN (F:Fb):Arg->Option Str
 | .sp x=>some (aW F.b2 x)
 | .nu n=>some (aW F.b3 (bp.getD (cp n) Str.empty)++Txt.slice (cW n (cp n)) (some 1) none)
 | .ma n=>some (cW n 3++Txt.mul (Str.ofString "0") (n:Nat))
 | .ne d=>pM d F.near
 | .fa d=>pM d F.dz
noncomputable def cq (F:Fb):List Arg->Option (List Str)
 | []=>some []
 | a::r=>match fN F a with
  | none=>none
  | some x=>(cq F r).map (x :: ·)
noncomputable def eG (F:Fb)(w:Str)(as:List Arg):Option Str:=(cq F as).map fun ts=>Txt.join "" (aW F.b1 w::ts)
structure tj (F:Fb):Prop where
 g:Good3 F.b1 F.b2 F.b3 F.near F.dz
 n2:(F.b2.map (·.1)).Perm bM
 n3:(F.b3.map (·.1)).Perm bp
 nr:2<=F.near/\F.near<=8
 fr:F.near<F.dz/\F.dz<=16
theorem tJ {ns:List Str}{bk:List (Str×Str)}(h:cL ns (aH bk)=true):(bk.map (·.1)).Perm ns:=by
 unfold cL at h
 rw[Ju,Ju] at h
 have:=of_decide_eq_true h.2.1
 rw[show cu (fK (aH bk))=bk from kG bk] at this
 exact this
theorem Good3.Wu {b1 b2 b3:List (Str×Str)}{near dz:Int}(g:Good3 b1 b2 b3 near dz):tj ⟨b1,b2,b3,near.toNat,dz.toNat⟩/\near=(near.toNat:Nat)/\dz=(dz.toNat:Nat):=by
 obtain⟨h1,h2,h3⟩:=Cp g.why
 have w:=g.why
 unfold ki at w
 rw[if_neg (by rw[h1];decide),if_neg (by rw[h2];decide),if_neg (by rw[h3];decide)] at w
 unfold Bs at w
 have hn:ux (.int near)=true:=by
  cases e:ux (.int near) with
  | true=>rfl
  | false=>rw[if_pos e] at w;cases w
 rw[if_neg (by rw[hn];decide)] at w
 have hf:Bd (aH b1) (.int near) (.int dz)=true:=by
  cases e:Bd (aH b1) (.int near) (.int dz) with
  | true=>rfl
  | false=>rw[if_pos e] at w;cases w
 have hn:(decide (2<=near)&&decide (near<=8))=true:=hn
 have hf:(decide (near<dz)&&(decide (dz<=16) && !jw (cu (fK (aH b1))) near dz))=true:=hf
 rw[Ju,decide_eq_true_eq,decide_eq_true_eq] at hn
 rw[Ju,Ju,decide_eq_true_eq,decide_eq_true_eq] at hf
 have en:near=(near.toNat:Nat):=by omega
 have ef:dz=(dz.toNat:Nat):=by omega
 exact⟨⟨by show Good3 b1 b2 b3 (near.toNat:Nat) (dz.toNat:Nat);rw[<-en,<-ef];exact g,tJ h2,tJ h3,by show 2<=near.toNat/\near.toNat<=8;omega,by show near.toNat<dz.toNat/\dz.toNat<=16;omega⟩,en,ef⟩
theorem vK {n:Nat}(h:n<=255):cp n<=8:=by
 unfold cp PySem.Builtin.Int.intBits
 split
 ·decide
 ·rename_i hz
  have Ha:((n:Nat):Int).natAbs≠0:=fun z=>hz (by simp;omega)
  have:=(Nat.log2_lt Ha).mpr (show((n:Nat):Int).natAbs<2^8 by omega)
  omega
theorem cM (n k:Nat):(cW n k).length=k:=by
 show(l6 k n).toArray.size=k
 rw[Jp,tu]
theorem Bv {bk:List (Str×Str)}{x:Str}(h:∀q∈bk,q.2.length<=11):(aW bk x).length<=11:=by
 induction bk with
 | nil=>exact Uz _
 | cons q r ih=>
  unfold aW
  split
  ·exact h q Js
  ·exact ih fun z hz=>h z (Jo _ hz)
theorem tj.c1 {F:Fb}(h:tj F)(x:Str):(aW F.b1 x).length<=11:=Bv fun q hq=>(h.g.sz q (.inl hq)).2.2.2
theorem tj.c2 {F:Fb}(h:tj F)(x:Str):(aW F.b2 x).length<=11:=Bv fun q hq=>(h.g.sz q (.inr (.inl hq))).2.2.2
theorem tj.c3 {F:Fb}(h:tj F)(x:Str):(aW F.b3 x).length<=11:=Bv fun q hq=>(h.g.sz q (.inr (.inr hq))).2.2.2
theorem Ey {F:Fb}(h:tj F){a:Arg}(ha:a.ok){x:Str}(e:fN F a=some x):x.length<=40:=by
 have nr:=h.nr
 have fr:=h.fr
 have dl:∀{d:Int} {k:Nat} {x:Str},pM d k=some x->x.length=k:=fun e=>by
  unfold pM at e
  split at e
  ·cases e;exact cM _ _
  ·cases e
 cases a with
 | sp y=>cases e;have:=h.c2 y;omega
 | nu n=>
  cases e
  have h1:=h.c3 (bp.getD (cp n) Str.empty)
  have h2:=Txt.slice_le (cW n (cp n)) (some 1) none
  have h3:=vK ha
  rw[PySem.strLen_append]
  rw[cM] at h2
  omega
 | ma n=>
  cases e
  have hn:n<=7:=ha
  rw[PySem.strLen_append,cM]
  have:∀n,n<=7->(Txt.mul (Str.ofString "0") ((n:Nat):Int)).length<=10:=by decide +kernel
  have:=this n hn
  omega
 | ne d=>have:=dl e;omega
 | fa d=>have:=dl e;omega
def BO (H:Hp)(E:XK)(C:Addr):Prop:=∀ex H',ar H H'->H' ex=some (.xd [("row",.int 0)])->E (.ref C) (some ex) H'
theorem BO.same {H H':Hp}{E:XK}{C:Addr}(h:BO H E C)(s:ar H H'):BO H' E C:=fun ex H2 s2 e=>h ex H2 (s.trans s2) e
def Qr (H:Hp)(Q:VK)(E:XK)(C:Addr):Option Str->Prop
 | some x=>∀H',ar H H'->Q (.str x) H'
 | none=>BO H E C
def Hs:Sp:=fun vs H Q _=>eu fun(d:Int) (k:Nat)=>vs=[.int d,.int (k:Nat)]/\1<=k/\k<=60/\∀H',ar H H'->Q (.bl (inD d k)) H'
def HI (C:Addr):Sp:=fun vs H Q E=>eu fun(d:Int) (k:Nat)=>vs=[.int d,.int (k:Nat)]/\1<=k/\k<=60/\Qr H Q E C (pM d k)
def j1 (K:Ja)(CF:Addr)(H:Hp)(m:Addr)(F:Fb):Prop:=gB K CF H m (aH F.b1) (aH F.b2) (aH F.b3) (.int (F.near:Nat)) (.int (F.dz:Nat))
def Kr (K:Ja)(CF C:Addr):Sp:=fun vs H Q E=>o7 fun(m:Addr) (F:Fb) (a:Arg)=>vs=[.ref m,.str a.kind,a.v]/\j1 K CF H m F/\tj F/\a.ok/\Qr H Q E C (fN F a)
section
variable {P:Program}{w:World}{K:Ja}{mg:Str->Option Value}{base:Heap}{f fi:Addr}{fd La:FuncData}{C CF aZ:Addr}{t6:Tok}
theorem ph:aB ["self", "row"] ["self", "row"] (ak (inClass (top fW) 0)):=⟨rfl,rfl,rfl,by decide +kernel,rfl,by decide +kernel,by decide +kernel⟩
theorem pq (F:bU K "__init__" "TooFar.__init__" (inClass (top fW) 0) f fd)(S:ja K C "row"):bh P w K mg base fw 1 f fd ["self", "row"] (yx C "row"):=by
 refine F.ok ph (fun vs H Q E h =>?_) (fun cH A outer s H vs Q E hr h =>?_)
 ·obtain⟨e,v,rfl,_⟩:=h
  rfl
 obtain⟨e,v,rfl,he,q⟩:=h
 refine⟨_,(ag (yi (pv 0) (pv 1) rfl)),?_⟩
 exact⟨_,rfl,_,rfl,e,C,rfl,he,S,fun dx h1 h2=>q dx h1 h2⟩
theorem jd:aB ["distance", "figures", "half"] ["distance", "figures"] (ak (top gw)):=⟨rfl,rfl,rfl,by decide +kernel,rfl,by decide +kernel,by decide +kernel⟩
theorem LZ (F:bU K "is_reached" "is_reached" (top gw) f fd)(T:Nm mg)(oK:Fn P w K mg base 1 "two_to" ["power"] lM):bh P w K mg base fw 2 f fd ["distance", "figures"] Hs:=by
 refine F.ok jd (fun vs H Q E h =>?_) (fun cH A outer s H vs Q E hr h =>?_)
 ·obtain⟨d,k,rfl,_⟩:=h
  rfl
 obtain⟨d,k,rfl,k1,k6,q⟩:=h
 refine⟨_,(af (aA (i:=2) jd.nd rfl (Or.inl rfl) (aG (oK.mono (by decide)) hr rfl (aa (aD et (pv 1) ah) ae)))
  (ag (av (tm nL lF (oN jo (pv 2)) (pv 0) (pv 2))))),?_⟩
 refine⟨_,rfl,_,_,rfl,rfl,k-1,?_,by omega,gn ?_⟩
 ·show[V.int ((k:Int)-1)]=[V.int ((k-1:Nat):Int)]
  rw[show(k:Int)-1=((k-1:Nat):Int) by omega]
 have q:=q H (ar.refl _)
 unfold inD at q
 refine⟨_,rfl,_,rfl,_,rfl,_,_,rfl,rfl,?_⟩
 refine⟨_,rfl,?_⟩
 by_cases c: -(2^(k-1))<=d
 ·rw[decide_eq_true c,U4] at q
  rw[decide_eq_true c]
  exact bJ ⟨_,rfl,_,_,rfl,rfl,q⟩
 ·rw[decide_eq_false c,Yk] at q
  rw[decide_eq_false c]
  exact bD q
theorem gR:aB ["distance", "figures"] ["distance", "figures"] (ak (top fe)):=⟨rfl,rfl,rfl,by decide +kernel,rfl,by decide +kernel,by decide +kernel⟩
theorem Lh (F:bU K "put_distance" "put_distance" (top fe) f fd)(T:Nm mg)(gf:mg "TooFar" = some (.ref C))(mO:IB K C fi)(oW:bh P w K mg base fw 1 fi La ["self", "row"] (yx C "row"))(om:Binds K La ["self", "row"] [])(qO:Fn P w K mg base 2 "is_reached" ["distance", "figures"] Hs)(oK:Fn P w K mg base 1 "two_to" ["power"] lM)(eI:Fn P w K mg base 1 "figures_of" ["number", "many"] mD):
  bh P w K mg base (nU P w base) 3 f fd ["distance", "figures"] (HI C):=by
 refine F.NA gR (fun vs H Q E h =>?_) (fun cH A outer s H vs Q E hr h =>?_)
 ·obtain⟨d,k,rfl,_⟩:=h
  rfl
 obtain⟨d,k,rfl,k1,k6,q⟩:=h
 refine⟨_,(af (bt (cR (bR (aG (qO.mono (by decide)) hr rfl (aa (pv 0) (aa (pv 1) ae))))) (ag (pX (k:=1) mO oW (hr.mono (by decide)) rfl gf om (aa ah ae))) aF)
  (af (bt (aI lF (pv 0) ah (aM _)) (ag (vD (i:=0) gR.nd rfl (Or.inl rfl) (aG (oK.mono (by decide)) hr rfl (aa (pv 1) ae)) Cq)) aF)
  (ag (av (aG (eI.mono (by decide)) hr rfl (aa (pv 0) (aa (pv 1) ae))))))),?_⟩
 refine⟨_,rfl,_,rfl,d,k,rfl,k1,k6,fun H1 s1=>⟨_,rfl,?_⟩⟩
 unfold pM at q
 cases c:inD d k with
 | false=>
  rw[c,if_neg (by decide)] at q
  refine bJ ⟨by show 1<=1000;decide,fun e he=>⟨e,.int 0,rfl,ay,fun dx c1 c2=>⟨rfl,e,dx,rfl,?_,?_,?_⟩⟩⟩
  ·rw[aj (Ne.symm c2),ay]
  ·cases z:H e with
   | none=>rfl
   | some o=>rw[s1 _ _ z] at he;cases he
  ·refine q dx _ (fun a o z =>?_) ?_
   ·have z1:=s1 _ _ z
    have na:a≠e:=aw z1 he
    have nd:a≠dx:=fun y=>by
     rw[aj c2,<-y,z1] at c1
     cases c1
    rw[cy na,aj nd,aj na,aj na]
    exact z1
   ·rw[cy c2,ay]
 | true=>
  rw[c,if_pos rfl] at q
  refine bD ?_
  have c:(decide (-(2^(k-1))<=d)&&decide (d<2^(k-1)))=true:=c
  rw[Ju,decide_eq_true_eq,decide_eq_true_eq] at c
  dsimp only[bZ]
  have p2:(2:Int)^k=2*2^(k-1):=by
   rw[show k=(k-1)+1 by omega,Int.pow_succ,Int.mul_comm];rfl
  have pp:(0:Int)<2^(k-1):=Int.pow_pos (by decide)
  refine gH (t:=Eh _ _ _) (fun σ H' =>σ=[some (.int (((if d<0 then d+2^k else d).toNat:Nat):Int)),some (.int (k:Nat))]/\H'=H1) (fun Nx nx =>?_) ?_
  ·refine⟨_,rfl,_,_,rfl,rfl,_,rfl,fG (fun c2 =>?_) (fun c2 =>?_)⟩
   ·have c2:d<0:=of_decide_eq_true c2
    refine⟨_,rfl,_,rfl,k,rfl,by omega,?_⟩
    refine⟨_,_,rfl,rfl,nx _ _ ⟨?_,rfl⟩⟩
    rw[if_pos c2,Y2 (by omega)]
    rfl
   ·have c2:¬d<0:=fun z=>c2 (decide_eq_true z)
    refine nx _ _ ⟨?_,rfl⟩
    rw[if_neg c2,Y2 (by omega)]
    rfl
  ·rintro σ H2 ⟨rfl,rfl⟩
   exact⟨_,rfl,_,rfl,_,k,rfl,k6,fun H3 s3=>q H3 (s1.trans s3)⟩
theorem lN:aB ["form", "part", "value", "size"] ["form", "part", "value"] (ak (top jQ)):=⟨rfl,rfl,rfl,by decide +kernel,rfl,by decide +kernel,by decide +kernel⟩
theorem Nu (F:bU K "put_part" "put_part" (top jQ) f fd)(T:Nm mg)(MF:Fh K CF)(cn:mg "dict" = none)(de:mg "SIZE_NAMES" = some (.ref aZ))(hZ:∀H,bF K H aZ (bp.map V.str))(eX:mg "SKIP_FIGURES" = some (.int 3 t6))(eI:Fn P w K mg base 1 "figures_of" ["number", "many"] mD)(oO:xD P w K mg base 3 "put_distance" ["distance", "figures"] (HI C)):
  bh P w K mg base (nU P w base) 4 f fd ["form", "part", "value"] (Kr K CF C):=by
 refine F.NA lN (fun vs H Q E h =>?_) (fun cH A outer s H vs Q E hr h =>?_)
 ·obtain⟨m,Fb,a,rfl,_⟩:=h
  rfl
 obtain⟨m,Fo,a,rfl,fo,fr,ha,q⟩:=h
 have hu:=qE hr
 have eC:=hr.units
 have small:∀{n:Nat},n<=10000->n<=sizeLine:=fun h=>Ji h (by decide)
 obtain⟨dx,w1,w2,w3,w4,w5,ho,g1,g2,g3,g4,g5⟩:=fo
 have e4:w4 = .int (Fo.near:Nat):=by unfold Den at g4;exact g4
 have e5:w5 = .int (Fo.dz:Nat):=by unfold Den at g5;exact g5
 subst e4 e5
 have nr:=fr.nr
 have dz:=fr.fr
 refine⟨_,(af (bt (aI (o9 K eC) (pv 1) au (aM _)) (ag (av (bI hu (bf (rN K rfl) rfl cn (by rfl) (aa (jY K (pv 0) rfl) ae)) (pv 2) (fun _ _=>rfl)))) aF)
  (af (bt (aI (o9 K eC) (pv 1) au (aM _)) (af (aA (i:=3) lN.nd rfl (Or.inl rfl) (Pf K PySem.F.plainAttrs_int PySem.F.slot_int_bit_length PySem.F.type_int_bit_length Nt (pv 2)))
  (ag (av (aD cI (bI hu (bf (rN K rfl) rfl cn (by rfl) (aa (jY K (pv 0) rfl) ae)) (bA (gW K) (bW rfl de) (pv 3) (fun _ _=>rfl)) (fun _ _=>rfl)) (dQ (SI K) (aG (eI.mono (by decide)) hr rfl (aa (pv 2) (aa (pv 3) ae))) (dM ah) gG))))) aF)
  (af (bt (aI (o9 K eC) (pv 1) au (aM _)) (ag (av (aD cI (aG (eI.mono (by decide)) hr rfl (aa (pv 2) (aa (kF rfl eX) ae))) (aD Nw au (pv 2))))) aF)
  (ag (av (DR (E':=E) (oO.mono (by first|decide|exact Je _|omega)) hr rfl (fun _ _ _ z=>z) (aa (pv 2) (aa (fX (aI (o9 K eC) (pv 1) au (aM _)) (jY K (pv 0) rfl) (jY K (pv 0) rfl)) ae)))))))),?_⟩
 cases a with
 | sp x=>
  dsimp only[Arg.kind,Arg.v]
  obtain⟨p,as,rfl,sq,al,hT⟩:=mv g2 (show fK (GU (aH Fo.b2))=aH Fo.b2 from rfl)
  have bn:(dP Fo.b2).length=Fo.b2.length:=by unfold dP;rw[Jd]
  have l2:Fo.b2.length=4:=fr.g.l2
  have nd:(Fo.b2.map (·.1)).Nodup:=fr.n2.nodup_iff.mpr KC.nd
  have hx:x∈Fo.b2.map (·.1):=fr.n2.mem_iff.mpr ha
  refine⟨_,rfl,.inl ⟨rfl,_,rfl,pB ?_⟩⟩
  refine⟨_,rfl,m,CF,dx,_,_,rfl,ho,MF.c,MF.n2,rfl,p,as,dP Fo.b2,rfl,sq,by rw[bn];exact al,by rw[bn,l2];decide,hT,fun dd H1 n1 =>?_⟩
  rw[dR nd] at n1
  have gd:dI H1 dd (.str x) (some (.str (aW Fo.b2 x))):=by
   rw[<-fg hx]
   exact dI.k (k := .inr x) n1.at
  exact⟨_,rfl,dd,_,rfl,gd,q H1 n1.same⟩
 | nu n=>
  dsimp only[Arg.kind,Arg.v]
  have hn:n<=255:=ha
  have hb:=vK hn
  obtain⟨p,as,rfl,sq,al,hT⟩:=mv g3 (show fK (GU (aH Fo.b3))=aH Fo.b3 from rfl)
  have bn:(dP Fo.b3).length=Fo.b3.length:=by unfold dP;rw[Jd]
  have l3:Fo.b3.length=9:=fr.g.l3
  have nd:(Fo.b3.map (·.1)).Nodup:=fr.n3.nodup_iff.mpr JB.nd
  obtain⟨x,hx⟩:∃x,bp[cp n]? = some x:=⟨_,Jc (show cp n<9 by omega)⟩
  have ex:bp.getD (cp n) Str.empty=x:=by rw[Ym,hx];rfl
  have WT:x∈Fo.b3.map (·.1):=fr.n3.mem_iff.mpr (Jz hx)
  refine⟨_,rfl,.inl ⟨rfl,_,rfl,eF ?_⟩⟩
  dsimp only[bZ]
  refine⟨_,rfl,.inl ⟨rfl,_,rfl,pB ?_⟩⟩
  refine⟨_,rfl,rfl,_,rfl,rfl,gn ?_⟩
  refine⟨_,rfl,m,CF,dx,_,_,rfl,ho,MF.c,MF.n3,rfl,p,as,dP Fo.b3,rfl,sq,by rw[bn];exact al,by rw[bn,l3];decide,hT,fun dd H1 n1 =>?_⟩
  rw[dR nd] at n1
  have gd:dI H1 dd (.str x) (some (.str (aW Fo.b3 x))):=by
   rw[<-fg WT]
   exact dI.k (k := .inr x) n1.at
  refine⟨_,rfl,.inr (.inl ⟨aZ,_,_,.str x,rfl,rfl,hZ _,kq (by rw[Jk];show(bp[cp n]?).map V.str=_;rw[hx];rfl),dd,_,rfl,gd,?_⟩)⟩
  have cl:=fr.c3 x
  have fl:(cW n (cp n)).length<=8:=by rw[cM];exact hb
  have sl:=Txt.slice_le (cW n (cp n)) (some 1) none
  refine⟨_,rfl,_,rfl,n,cp n,rfl,by omega,fun H2 s2 =>?_⟩
  refine⟨1,rfl,.inr ⟨_,rfl,small (by omega),.inr (.inl ⟨_,_,rfl,rfl,small (by omega),?_⟩)⟩⟩
  have q:=q H2 (n1.same.trans s2)
  rw[ex] at q
  exact q
 | ma n=>
  dsimp only[Arg.kind,Arg.v]
  have hn:n<=7:=ha
  refine⟨_,rfl,.inl ⟨rfl,_,rfl,eF ?_⟩⟩
  dsimp only[bZ]
  refine⟨_,rfl,.inl ⟨rfl,_,rfl,eF ?_⟩⟩
  dsimp only[bZ]
  refine⟨_,rfl,.inl ⟨rfl,_,rfl,pB ?_⟩⟩
  have ml:∀n,n<=7->(Txt.mul (Str.ofString "0") ((n:Nat):Int)).length<=10:=by decide +kernel
  have ml:=ml n hn
  refine⟨_,rfl,n,3,rfl,by decide,fun H1 s1 =>?_⟩
  refine⟨_,rfl,.inr ⟨_,_,rfl,rfl,lR (by decide) (by omega) (by omega),.inr (.inl ⟨_,_,rfl,rfl,small (by rw[cM];omega),q H1 s1⟩)⟩⟩
 | ne d=>
  dsimp only[Arg.kind,Arg.v]
  refine⟨_,rfl,.inl ⟨rfl,_,rfl,eF ?_⟩⟩
  dsimp only[bZ]
  refine⟨_,rfl,.inl ⟨rfl,_,rfl,eF ?_⟩⟩
  dsimp only[bZ]
  refine⟨_,rfl,.inl ⟨rfl,_,rfl,eF ?_⟩⟩
  dsimp only[bZ]
  refine⟨_,rfl,_,rfl,.inl ⟨rfl,_,rfl,pB ?_⟩⟩
  exact⟨_,rfl,m,CF,dx,_,_,rfl,ho,MF.c,MF.n4,rfl,d,Fo.near,rfl,by omega,by omega,q⟩
 | fa d=>
  dsimp only[Arg.kind,Arg.v]
  refine⟨_,rfl,.inl ⟨rfl,_,rfl,eF ?_⟩⟩
  dsimp only[bZ]
  refine⟨_,rfl,.inl ⟨rfl,_,rfl,eF ?_⟩⟩
  dsimp only[bZ]
  refine⟨_,rfl,.inl ⟨rfl,_,rfl,eF ?_⟩⟩
  dsimp only[bZ]
  refine⟨_,rfl,_,rfl,.inl ⟨rfl,_,rfl,eF ?_⟩⟩
  exact⟨_,rfl,m,CF,dx,_,_,rfl,ho,MF.c,MF.n5,rfl,d,Fo.dz,rfl,by omega,by omega,q⟩
end
noncomputable abbrev iV:List (Str×List Str):=[("set",["spot", "number"]),("add",["spot", "spot"]),("take",["spot", "spot"]),("tell",["spot"]),("ask",["spot"]),("jump",["near"]),("zero",["spot", "near"]),("stop",[]),("farjump",["far"]),("farzero",["spot", "far"]),("skip",["many"])]
theorem jN:∀q∈iV,q.1∈ax/\q.2.length<=2:=by decide +kernel
structure xq (w:Str)(as:List Arg):Prop where
 pt:∃q∈iV,w=q.1/\as.map Arg.kind=q.2
 ok:∀a∈as,a.ok
structure Lm (K:Ja)(w:World)(mg:Str->Option Value)(aP:Addr):Prop where
 g:mg "PARTS" = some (.ref aP)
 cd:GN K w aP
 pt:∀q∈iV,∃p,Jg K aP q.1=some (some (.ref p))/\∀H,bF K H p (q.2.map V.str)
theorem qx {F:Fb}{a:Arg}:∀{as:List Arg},cq F (as++[a])=match cq F as with
  | none=>none
  | some ts=>(fN F a).map fun x=>ts++[x]
 | []=>by
  show(match fN F a with|none=>none|some x=>(some []).map (x :: ·))=_
  unfold cq
  cases fN F a<;>rfl
 | b::as=>by
  have ih:=qx (F:=F) (a:=a) (as:=as)
  show(match fN F b with|none=>none|some x=>(cq F (as++[a])).map (x :: ·))=(match (match fN F b with|none=>none|some x=>(cq F as).map (x :: ·)) with|none=>none|some ts=>(fN F a).map fun x=>ts++[x])
  cases fN F b with
  | none=>rfl
  | some x=>
   rw[ih]
   cases cq F as with
   | none=>rfl
   | some ts=>cases fN F a<;>rfl
theorem kI {F:Fb}{a:Arg}(e:fN F a=none):∀{as:List Arg},a∈as->cq F as=none
 | b::as,h=>by
  show(match fN F b with|none=>none|some x=>(cq F as).map (x :: ·))=none
  rcases Jr.mp h with rfl|h
  ·rw[e]
  ·rw[kI e h]
   cases fN F b<;>rfl
theorem kC {F:Fb}(fr:tj F):∀{as:List Arg} {ts:List Str},(∀a∈as,a.ok)->cq F as=some ts->ts.length=as.length/\((ts.map fun x=>x.length).sum<=40*as.length)
 | [],ts,_,e=>by cases e;exact⟨rfl,Je _⟩
 | a::as,ts,ok,e=>by
  have e:(match fN F a with|none=>none|some x=>(cq F as).map (x :: ·))=some ts:=e
  cases ea:fN F a with
  | none=>rw[ea] at e;cases e
  | some x=>
   rw[ea] at e
   cases er:cq F as with
   | none=>rw[er] at e;cases e
   | some us=>
    rw[er] at e
    cases e
    obtain⟨h1,h2⟩:=kC fr (fun b hb=>ok b (Jo _ hb)) er
    have:=Ey fr (ok a Js) ea
    refine⟨by rw[Jt,Jt,h1],?_⟩
    rw[Jy,Ys,Jt]
    omega
def Ka (K:Ja)(CF C:Addr):Sp:=fun vs H Q E=>yf fun(m p:Addr) (F:Fb) (w:Str) (as:List Arg)=>vs=[.ref m,.ref p]/\j1 K CF H m F/\tj F/\xq w as/\bF K H p (.str w::as.map Arg.v)/\Qr H Q E C (eG F w as)
section
variable {P:Program}{w:World}{K:Ja}{mg:Str->Option Value}{base:Heap}{f fi:Addr}{fd La:FuncData}{C CF aP:Addr}
theorem fE:aB ["form", "bare", "texts", "part", "value"] ["form", "bare"] (ak (top jM)):=⟨rfl,rfl,rfl,by decide +kernel,rfl,by decide +kernel,by decide +kernel⟩
theorem L5 (F:bU K "put_bare" "put_bare" (top jM) f fd)(T:Nm mg)(MF:Fh K CF)(cn:mg "dict" = none)(LY:Lm K w mg aP)(wW:xD P w K mg base 4 "put_part" ["form", "part", "value"] (Kr K CF C)):
  bh P w K mg base (nU P w base) 5 f fd ["form", "bare"] (Ka K CF C):=by
 refine F.NA fE (fun vs H Q E h =>?_) (fun cH A outer s H vs Q E hr h =>?_)
 ·obtain⟨m,p,Fo,w,as,rfl,_⟩:=h
  rfl
 obtain⟨m,p,Fo,wd,args,rfl,fo,fr,ba,hp,q⟩:=h
 have hu:=qE hr
 have eC:=hr.units
 have sC:=LY.g
 have small:∀{n:Nat},n<=10000->n<sizeLine:=fun h=>Uj h (by decide)
 obtain⟨qq,hqq,ew,ek⟩:=ba.pt
 obtain⟨pk,pl⟩:=jN qq hqq
 obtain⟨qp,hq1,K9⟩:=LY.pt qq hqq
 have Tr:args.length=qq.2.length:=by rw[<-ek,Jd]
 have UI:=fo
 obtain⟨dx,w1,w2,w3,w4,w5,ho,g1,g2,g3,g4,g5⟩:=UI
 obtain⟨pd,ad,rfl,sq,al,hT⟩:=mv g1 (show fK (GU (aH Fo.b1))=aH Fo.b1 from rfl)
 have bn:(dP Fo.b1).length=Fo.b1.length:=by unfold dP;rw[Jd]
 have l1:Fo.b1.length=11:=fr.g.l1
 have nd:(Fo.b1.map (·.1)).Nodup:=fr.g.n1.nodup_iff.mpr bX
 have hx:wd∈Fo.b1.map (·.1):=fr.g.n1.mem_iff.mpr (by rw[ew];exact pk)
 refine⟨_,(af (aA (i:=2) fE.nd rfl (Or.inl rfl) (gr (aa (bI hu (bf (rN K rfl) rfl cn (by rfl) (aa (jY K (pv 0) rfl) ae)) (bA (gW K) (pv 1) ah (fun _ _=>rfl)) (fun _ _=>rfl)) ae)))
  (af (fH PassesOwn.leaving rfl (xZ K rfl T.n_zip (aa (Gi K w (bW rfl sC) (bA (gW K) (pv 1) ah (fun _ _=>rfl)) (fun _ _=>rfl)) (aa (dQ (Ks K) (pv 1) (dM ah) gG) ae))) (tupK K 2 rfl (aY (aQ (i:=3) fE.nd rfl (Or.inl rfl)) (aY (aQ (i:=4) fE.nd rfl (Or.inl rfl)) cY))) (ag (mi (tU K PySem.F.plainAttrs_list PySem.F.slot_list_append PySem.F.type_list_append sF (pv 2) (aa (DR (E':=E) (wW.mono (by first|decide|exact Je _|omega)) hr rfl (fun _ _ _ z=>z) (aa (pv 0) (aa (pv 3) (aa (pv 4) ae)))) ae)))))
  (ag (av (tU K PySem.F.plainAttrs_str PySem.F.slot_str_join PySem.F.type_str_join (yF K) au (aa (pv 2) ae)))))),?_⟩
 refine⟨_,rfl,m,CF,dx,_,_,rfl,ho,MF.c,MF.n1,rfl,pd,ad,dP Fo.b1,rfl,sq,by rw[bn];exact al,by rw[bn,l1];decide,hT,fun dd H1 n1 =>?_⟩
 rw[dR nd] at n1
 have gd:dI H1 dd (.str wd) (some (.str (aW Fo.b1 wd))):=by
  rw[<-fg hx]
  exact dI.k (k := .inr wd) n1.at
 refine⟨_,rfl,.inr (.inl ⟨p,_,0,.str wd,rfl,rfl,n1.same.cQ hp,fM (Int.le_refl 0) rfl,dd,_,rfl,gd,by show 1<=sizeLine;decide,fun l H2 n2=>gn ?_⟩)⟩
 have s2:=n1.same.trans n2.same
 have Vf:∀{a:Addr} {o:HO},H a=some o->a≠l:=fun h z=>by rw[z] at h;have:=s2 _ _ h;have:=n2.nn;rw[n1.same _ _ h] at this;cases this
 dsimp only
 refine gH (t:=Kt _ _ _) (fun σ H'=>∃(x3 x4:Option V) (ts:List Str),σ=[some (.ref m),some (.ref p),some (.ref l),x3,x4]/\ar H H'/\cq Fo args=some ts/\H' l=some (.lst ((aW Fo.b1 wd::ts).map V.str))) (fun Nx nx =>?_) ?_
 ·refine⟨_,rfl,.inr (.inl ⟨p,_,0,.str wd,rfl,rfl,s2.cQ hp,fM (Int.le_refl 0) rfl,aP,qq.1,.ref qp,.ref qp,rfl,by rw[ew],LY.cd,hq1,rfl,?_⟩)⟩
  refine⟨_,rfl,1,rfl,p,_,rfl,s2.cQ hp,?_,fun p5 H5 n5 =>?_⟩
  ·rintro⟨z,_⟩
   have:HT.cK (V.str wd::args.map Arg.v).length 0 (some 1)=1:=by
    show HT.cK _ 0 (some ((1:Nat):Int))=1
    rw[HT.iW,Jt]
    omega
   rw[this] at z
   exact absurd z (by decide)
  rw[show(1:Int)=((1:Nat):Int) from rfl,uW] at n5
  have n5:gY H2 p5 (.tup (args.map Arg.v)) H5:=n5
  have q5:lW true K H5 qp (qq.2.map V.str):=K9 H5
  have q6:lW true K H5 p5 (args.map Arg.v):=bF.of n5.at
  refine⟨true,true,qp,p5,rfl,⟨_,q5⟩,⟨_,q6⟩,?_⟩
  have Gh:=n5.same _ _ n2.at
  have l5:l≠p5:=fun z=>by have:=n5.nn;rw[<-z,n2.at] at this;cases this
  refine wx (N:=args.length) (fun i σ H'=>∃(x3 x4:Option V) (ts:List Str),σ=[some (.ref m),some (.ref p),some (.ref l),x3,x4]/\ar H H'/\(H' p5=some (.tup (args.map Arg.v)))/\cq Fo (args.take i)=some ts/\H' l=some (.lst ((aW Fo.b1 wd::ts).map V.str))) ⟨_,_,[],rfl,s2.trans n5.same,n5.at,rfl,Gh⟩ ?_ ?_
  ·rintro i σ H6 hi ⟨x3,x4,ts,rfl,s6,h56,e6,K0⟩
   have gk:(qq.2.map V.str)[i]? = some (.str args[i].kind):=by
    rw[<-ek,Jk,Jk,Jc hi];rfl
   have gv:(args.map Arg.v)[i]? = some args[i].v:=by rw[Jk,Jc hi];rfl
   have r5:lW true K H6 qp (qq.2.map V.str):=K9 H6
   have r6:lW true K H6 p5 (args.map Arg.v):=bF.of h56
   refine⟨⟨_,_,_,_,r5,r6,gk,gv⟩,?_⟩
   rintro x' H7 ⟨T',rfl,hN⟩
   have n7:=hN _ _ _ _ r5 r6 gk gv
   refine⟨T',_,rfl,bF.of n7.at,rfl,_,_,rfl,_,_,rfl,rfl,?_⟩
   have s7:=s6.trans n7.same
   have N9:=n7.same _ _ K0
   have mem:=Ul hi
   have tl:ts.length<=100:=by
    have:=(kC fr (fun a ha=>ba.ok a (List.mem_of_mem_take ha)) e6).1
    rw[Uo] at this
    omega
   refine⟨_,rfl,.inl ⟨rfl,_,bq.of N9⟩,_,rfl,_,rfl,_,rfl,m,Fo,args[i],rfl,gB.same fo s7,fr,ba.ok _ mem,?_⟩
   cases ea:fN Fo args[i] with
   | none=>
    have:eG Fo wd args=none:=by unfold eG;rw[kI ea mem];rfl
    rw[this] at q
    exact BO.same q s7
   | some x=>
    refine fun H8 s8=>⟨l,_,_,rfl,rfl,s8 _ _ N9,small (by simp only[Jd,Jt];omega),fun H9 c9 =>?_⟩
    have e9:cq Fo (args.take (i+1))=some (ts++[x]):=by
     rw[U6 hi,qx,e6,ea];rfl
    refine⟨_,_,ts++[x],rfl,fun a o e =>?_,?_,e9,?_⟩
    ·rw[c9.ne (Vf e)]
     exact(s7.trans s8) _ _ e
    ·rw[c9.ne (Ne.symm l5)]
     exact s8 _ _ (n7.same _ _ h56)
    ·rw[c9.at]
     simp only[Jy,J7,List.map_nil,List.cons_append]
  ·rintro σ H6 ⟨x3,x4,ts,rfl,s6,h56,e6,K0⟩
   rw[We] at e6
   have r5:lW true K H6 qp (qq.2.map V.str):=K9 H6
   have r6:lW true K H6 p5 (args.map Arg.v):=bF.of h56
   exact⟨⟨_,_,r5,r6,.inr (by rw[Jd];exact Je _)⟩,nx _ _ ⟨_,_,ts,rfl,s6,e6,K0⟩⟩
 rintro σ H3 ⟨x3,x4,ts,rfl,s3,e3,vt⟩
 have ep:eG Fo wd args=some (Txt.join "" (aW Fo.b1 wd::ts)):=by unfold eG;rw[e3];rfl
 rw[ep] at q
 obtain⟨tl,tsum⟩:=kC fr ba.ok e3
 have c1:=fr.c1 wd
 refine⟨rfl,_,rfl,_,l,aW Fo.b1 wd::ts,rfl,rfl,bq.of vt,?_,q H3 s3⟩
 rw[Jy,Ys]
 show(aW Fo.b1 wd).length+(ts.map fun x=>x.length).sum+_*0<=16777216
 omega
end
noncomputable def pG (w:Str):Bool:=(["farjump", "farzero"]:List Str).contains w
theorem qJ (n i:Nat):cW n (i+1)=(⟨#[48+n / 2^i%2]⟩:Str)++cW n i:=by
 refine fB ?_
 rw[aE]
 show l6 (i+1) n=[48+n / 2^i%2]++l6 i n
 rw[<-gb,<-gb,List.range_succ,J7,List.reverse_append]
 rfl
def sf:Sp:=fun vs H Q _=>∃w:Str,vs=[.str w]/\∀H',ar H H'->Q (.bl (pG w)) H'
section
variable {P:Program}{w:World}{K:Ja}{mg:Str->Option Value}{base:Heap}{f:Addr}{fd:FuncData}
theorem eP:aB ["_law_many", "_law_found", "_law_k"] ["_law_many"] (ak (top iy)):=⟨rfl,rfl,rfl,by decide +kernel,rfl,by decide +kernel,by decide +kernel⟩
theorem Gy (F:bU K "_law_power" "_law_power" (top iy) f fd)(T:Nm mg):bh P w K mg base fw 1 f fd ["_law_many"] lM:=by
 refine F.ok eP (fun vs H Q E h =>?_) (fun cH A outer s H vs Q E hr h =>?_)
 ·obtain⟨n,rfl,_⟩:=h
  rfl
 obtain⟨n,rfl,n1,q⟩:=h
 refine⟨_,(af (aA (i:=1) eP.nd rfl (Or.inl rfl) ah)
  (af (fH PassesOwn.never rfl (eR rfl T.n_range (aa (pv 0) ae)) (aQ (i:=2) eP.nd rfl (Or.inl rfl)) (ag (aA (i:=1) eP.nd rfl (Or.inl rfl) (aD lZ ah (pv 1)))))
  (ag (av (pv 1))))),?_⟩
 refine⟨_,rfl,n,rfl,by omega,by omega,?_⟩
 refine eQ (lo:=0) (n:=n) (fun i σ H'=>∃x2,σ=[some (.int (n:Nat)),some (.int (2^i)),x2]/\H'=H) ⟨_,rfl,rfl⟩ ?_ ?_
 ·rintro i σ H2 hi ⟨x2,rfl,rfl⟩
  refine⟨_,rfl,.inl ⟨_,_,rfl,rfl,.inl ⟨by decide,by decide⟩,some (.int (0+i)),?_,rfl⟩⟩
  rw[Int.pow_succ,Int.mul_comm]
  rfl
 ·rintro σ H2 ⟨x2,rfl,rfl⟩
  exact⟨_,rfl,q⟩
theorem cx:aB ["_law_number", "_law_many", "_law_found", "_law_k"] ["_law_number", "_law_many"] (ak (top fI)):=⟨rfl,rfl,rfl,by decide +kernel,rfl,by decide +kernel,by decide +kernel⟩
theorem FX (F:bU K "_law_figures" "_law_figures" (top fI) f fd)(T:Nm mg):bh P w K mg base fw 1 f fd ["_law_number", "_law_many"] mD:=by
 refine F.ok cx (fun vs H Q E h =>?_) (fun cH A outer s H vs Q E hr h =>?_)
 ·obtain⟨n,k,rfl,_⟩:=h
  rfl
 obtain⟨n,k,rfl,hk,q⟩:=h
 refine⟨_,(af (aA (i:=2) cx.nd rfl (Or.inl rfl) au)
  (af (fH PassesOwn.never rfl (eR rfl T.n_range (aa (pv 1) ae)) (aQ (i:=3) cx.nd rfl (Or.inl rfl)) (af (aA (i:=2) cx.nd rfl (Or.inl rfl) (aD cI (bf kh rfl T.n_str (by rfl) (aa (aD ig (pv 0) ah) ae)) (pv 2)))
  (ag (aA (i:=0) cx.nd rfl (Or.inl rfl) (aD yj (pv 0) ah)))))
  (ag (av (pv 2))))),?_⟩
 refine⟨_,rfl,k,rfl,by omega,by omega,?_⟩
 refine eQ (lo:=0) (n:=k) (fun i σ H'=>∃x3,σ=[some (.int ((n / 2^i:Nat):Int)),some (.int (k:Nat)),some (.str (cW n i)),x3]/\H'=H) ⟨_,by simp;rfl,rfl⟩ ?_ ?_
 ·rintro i σ H2 hi ⟨x2,rfl,rfl⟩
  have lg:((n / 2^i%2:Nat):Int).natAbs.log2<1920:=by
   have hb:((n / 2^i%2:Nat):Int).natAbs=0∨((n / 2^i%2:Nat):Int).natAbs=1:=by omega
   rcases hb with z|z<;>rw[z]<;>decide
  have em:((n / 2^i:Nat):Int)%2=((n / 2^i%2:Nat):Int):=by omega
  refine⟨_,rfl,_,_,rfl,rfl,(by show(0:Int)<2;decide),_,rfl,by rw[em];exact lg,_,rfl,?_⟩
  rw[em,xK]
  have fl:=cM n i
  refine .inr (.inl ⟨_,_,rfl,rfl,Ji (show _<=100 by show 1+(cW n i).length<=100;omega) (by decide),?_⟩)
  have ed:((n / 2^i:Nat):Int) / 2=((n / 2^(i+1):Nat):Int):=by rw[Nat.pow_succ,<-Nat.div_div_eq_div_mul];omega
  refine⟨_,rfl,_,_,rfl,rfl,⟨by decide,by decide⟩,some (.int (0+i)),?_,rfl⟩
  rw[qJ,<-ed]
  rfl
 ·rintro σ H2 ⟨x2,rfl,rfl⟩
  exact⟨_,rfl,q _ (ar.refl _)⟩
theorem lY:aB ["_law_word"] ["_law_word"] (ak (top eU)):=⟨rfl,rfl,rfl,by decide +kernel,rfl,by decide +kernel,by decide +kernel⟩
theorem EA (F:bU K "_law_far_word" "_law_far_word" (top eU) f fd)(T:Nm mg):bh P w K mg base fw 1 f fd ["_law_word"] sf:=by
 refine F.ok lY (fun vs H Q E h =>?_) (fun cH A outer s H vs Q E hr h =>?_)
 ·obtain⟨w,rfl,_⟩:=h
  rfl
 obtain⟨wd,rfl,q⟩:=h
 refine⟨_,(ag (av (dn (MB K) (pv 0) (fh (aa au (aa au ae))) (by with_unfolding_all rfl)))),?_⟩
 refine⟨_,rfl,by show 2<=sizeLine;decide,fun p H1 n1 =>?_⟩
 refine⟨p,(["farjump", "farzero"]:List Str).map V.str,rfl,.inr (bF.of n1.at),rfl,rfl,?_⟩
 rw[if_neg Jm,sG]
 exact q H1 n1.same
end
theorem Ir {x:Str}(h:1<=x.length):sg (Txt.slice x (some 1) none)=(sg x).drop 1:=by
 rw[PyProof.Rows.slice_from_eq (b:=(x.length:Int)) (by decide) (by omega) rfl]
 show(((sg x).drop (1:Int).toNat).take ((x.length:Int)-1).toNat).toArray.toList=_
 rw[List.toList_toArray,Y3]
 ·rfl
 ·rw[Wa,<-str_len]
  show x.length-1<=_
  omega
theorem AF (n k:Nat):Txt.slice (cW n k) (some 1) none=cW n (k-1):=by
 cases k with
 | zero=>
  show Txt.slice (cW n 0) (some 1) none=cW n 0
  exact(by decide +kernel:Txt.slice (⟨#[]⟩:Str) (some 1) none=⟨#[]⟩)
 | succ k=>
  refine fB ((Ir (by rw[cM];omega)).trans ?_)
  rw[qJ]
  show((⟨#[48+n / 2^k%2]⟩:Str)++cW n k).cps.toList.drop 1=_
  rw[aE]
  rfl
theorem BM (n k:Nat):cW (n+2^k) k=cW n k:=by
 refine fB ?_
 show l6 k (n+2^k)=l6 k n
 rw[<-gb,<-gb]
 congr 1
 refine Y1 fun j hj =>?_
 have hj:=List.mem_range.mp hj
 congr 1
 have e:2^k=2^(k-j-1)*2*2^j:=by
  rw[Nat.mul_assoc,Nat.mul_comm 2,<-Nat.pow_succ,<-Nat.pow_add]
  congr 1
  omega
 rw[e,Nat.add_mul_div_right _ _ (Nat.two_pow_pos j),Nat.add_mul_mod_self_right]
theorem BQ {d:Int}{k:Nat}(h1:1<=k)(h:inD d k=true):pM d k=some (cW (d+2^k).toNat k):=by
 unfold pM
 rw[if_pos h]
 unfold inD at h
 rw[Ju,decide_eq_true_eq,decide_eq_true_eq] at h
 have p2:(2:Int)^k=2*2^(k-1):=by
  rw[show k=(k-1)+1 by omega,Int.pow_succ,Int.mul_comm];rfl
 have pp:(0:Int)<2^(k-1):=Int.pow_pos (by decide)
 by_cases c:d<0
 ·rw[if_pos c]
 ·rw[if_neg c]
  have:(d+2^k).toNat=d.toNat+2^k:=by
   have e:((2^k:Nat):Int)=2^k:=by push_cast;rfl
   omega
  rw[this,BM]
theorem JP (n s:Nat):2^s<=n↔s<cp n:=by
 unfold cp PySem.Builtin.Int.intBits
 by_cases h:n=0
 ·subst h
  have:=Nat.two_pow_pos s
  constructor
  ·intro z;omega
  ·intro z;exact absurd z (by simp)
 ·have hz:¬(((n:Nat):Int)==0)=true:=by simp;omega
  have e:((n:Nat):Int).natAbs=n:=rfl
  rw[e,if_neg hz,<-Nat.le_log2 h]
  omega
theorem join_cons (x:Str)(r:List Str):Txt.join "" (x::r)=x++Txt.join "" r:=by
 refine fB ?_
 rw[cT,aE,cT,List.flatMap_cons]
theorem Ce (x r:List Str):Txt.join "" (x++r)=Txt.join "" x++Txt.join "" r:=by
 refine fB ?_
 rw[cT,aE,cT,cT,List.flatMap_append]
theorem join_nil:Txt.join "" []=Str.empty:=rfl
theorem sv (x:Str):x++Str.empty=x:=by
 refine fB ?_
 rw[aE]
 exact Uw _
theorem sT (x y z:Str):x++y++z=x++(y++z):=by
 refine fB ?_
 rw[aE,aE,aE,aE,Y8]
theorem rH {F:Fb}:∀(xs:List Str) (r:List Arg),cq F (xs.map Arg.sp++r)=(cq F r).map fun ts=>xs.map (aW F.b2)++ts
 | [],r=>by
  show cq F r=_
  cases cq F r<;>rfl
 | x::xs,r=>by
  have ih:=rH (F:=F) xs r
  show(cq F (xs.map Arg.sp++r)).map (aW F.b2 x :: ·)=_
  rw[ih]
  cases cq F r<;>rfl
theorem eK {a:Arg}(h:a.kind = "spot"):∃x,a = .sp x:=by
 cases a<;>first|exact⟨_,rfl⟩|exact absurd h (of_decide_eq_false rfl)
theorem Ei {a:Arg}(h:a.kind = "number"):∃x,a = .nu x:=by
 cases a<;>first|exact⟨_,rfl⟩|exact absurd h (of_decide_eq_false rfl)
theorem EY {a:Arg}(h:a.kind = "many"):∃x,a = .ma x:=by
 cases a<;>first|exact⟨_,rfl⟩|exact absurd h (of_decide_eq_false rfl)
theorem x9 {a:Arg}(h:a.kind = "near"):∃x,a = .ne x:=by
 cases a<;>first|exact⟨_,rfl⟩|exact absurd h (of_decide_eq_false rfl)
theorem yM {a:Arg}(h:a.kind = "far"):∃x,a = .fa x:=by
 cases a<;>first|exact⟨_,rfl⟩|exact absurd h (of_decide_eq_false rfl)
theorem BD {α:Type}(a v: α)(ys:List α):ye (a::(ys++[v])) (-1)=some v:=by
 have l:(a::(ys++[v])).length=ys.length+2:=by rw[Jt,Jw];rfl
 unfold ye Bg
 rw[l,if_neg (by decide),if_pos (by omega),show((-1:Int)+((ys.length+2:Nat):Int)).toNat=ys.length+1 by omega]
 show(ys++[v])[ys.length]? = some v
 rw[Ux (Je _),Nat.sub_self]
 rfl
theorem Gb (a v:V)(ys:List V):ir (a::(ys++[v])) (some 1) (some (-1))=ys:=by
 have l:(a::(ys++[v])).length=ys.length+2:=by rw[Jt,Jw];rfl
 have e1:HT.cK (ys.length+2) 0 (some 1)=1:=by
  show HT.cK _ 0 (some ((1:Nat):Int))=1
  rw[HT.iW]
  omega
 have e2:HT.cK (ys.length+2) (ys.length+2) (some (-1))=ys.length+1:=by
  show(if (-1:Int)<0 then ((-1:Int)+((ys.length+2:Nat):Int)).toNat else min (-1:Int).toNat (ys.length+2))=_
  rw[if_pos (by decide)]
  omega
 unfold ir
 rw[l,e1,e2]
 show((ys++[v]).drop 0).take (ys.length+1-1)=ys
 rw[List.drop_zero,Nat.add_sub_cancel,List.take_left']
 rfl
theorem tj.sum {F:Fb}(h:tj F):∀xs:List Str,((xs.map (aW F.b2)).map fun x=>x.length).sum<=11*xs.length
 | []=>Je _
 | y::ys=>by
  have ih:=h.sum ys
  have:=h.c2 y
  rw[Jy,Jy,Ys,Jt]
  omega
theorem nC (xs:List Str):(Txt.join "" xs).length=(xs.map fun x=>x.length).sum:=by
 rw[str_len,cT,List.length_flatMap]
 rfl
noncomputable abbrev gI:List Str:=["jump", "zero", "farjump", "farzero"]
noncomputable abbrev G5:List Str:=["add", "take", "tell", "ask", "stop"]
noncomputable def jB (w:Str)(d:Int):Arg:=if pG w=true then .fa d else .ne d
theorem xq.cls {w:Str}{as:List Arg}(b:xq w as):(w = "skip" /\ ∃n,as=[.ma n])∨(w∈gI/\∃(xs:List Str) (d:Int),xs.length<=1/\as=xs.map Arg.sp++[jB w d])∨(w = "set" /\ ∃x n,as=[.sp x,.nu n])∨(w∈G5/\∃xs:List Str,xs.length<=2/\as=xs.map Arg.sp):=by
 obtain⟨q,hq,rfl,ek⟩:=b.pt
 have n0:∀{as:List Arg},as.map Arg.kind=[]->as=[]:=fun h=>List.map_eq_nil_iff.mp h
 have n1:∀{as:List Arg} {a:Str} {r:List Str},as.map Arg.kind=a::r->∃x t,as=x::t/\x.kind=a/\t.map Arg.kind=r:=fun{as a r} h=>by
  cases as with
  | nil=>cases h
  | cons x t=>rw[Jy] at h;injection h with h1 h2;exact⟨x,t,rfl,h1,h2⟩
 simp only[iV,Jr,Uk,or_false] at hq
 rcases hq with rfl|rfl|rfl|rfl|rfl|rfl|rfl|rfl|rfl|rfl|rfl
 ·obtain⟨a,t,rfl,h1,h⟩:=n1 ek
  obtain⟨c,t,rfl,h2,h⟩:=n1 h
  obtain rfl:=n0 h
  obtain⟨x,rfl⟩:=eK h1
  obtain⟨n,rfl⟩:=Ei h2
  exact .inr (.inr (.inl ⟨rfl,x,n,rfl⟩))
 ·obtain⟨a,t,rfl,h1,h⟩:=n1 ek
  obtain⟨c,t,rfl,h2,h⟩:=n1 h
  obtain rfl:=n0 h
  obtain⟨x,rfl⟩:=eK h1
  obtain⟨y,rfl⟩:=eK h2
  exact .inr (.inr (.inr ⟨by simp,[x,y],by simp,rfl⟩))
 ·obtain⟨a,t,rfl,h1,h⟩:=n1 ek
  obtain⟨c,t,rfl,h2,h⟩:=n1 h
  obtain rfl:=n0 h
  obtain⟨x,rfl⟩:=eK h1
  obtain⟨y,rfl⟩:=eK h2
  exact .inr (.inr (.inr ⟨by simp,[x,y],by simp,rfl⟩))
 ·obtain⟨a,t,rfl,h1,h⟩:=n1 ek
  obtain rfl:=n0 h
  obtain⟨x,rfl⟩:=eK h1
  exact .inr (.inr (.inr ⟨by simp,[x],by simp,rfl⟩))
 ·obtain⟨a,t,rfl,h1,h⟩:=n1 ek
  obtain rfl:=n0 h
  obtain⟨x,rfl⟩:=eK h1
  exact .inr (.inr (.inr ⟨by simp,[x],by simp,rfl⟩))
 ·obtain⟨a,t,rfl,h1,h⟩:=n1 ek
  obtain rfl:=n0 h
  obtain⟨d,rfl⟩:=x9 h1
  exact .inr (.inl ⟨by simp,[],d,by decide,rfl⟩)
 ·obtain⟨a,t,rfl,h1,h⟩:=n1 ek
  obtain⟨c,t,rfl,h2,h⟩:=n1 h
  obtain rfl:=n0 h
  obtain⟨x,rfl⟩:=eK h1
  obtain⟨d,rfl⟩:=x9 h2
  exact .inr (.inl ⟨by simp,[x],d,by simp,rfl⟩)
 ·obtain rfl:=n0 ek
  exact .inr (.inr (.inr ⟨by simp,[],by decide,rfl⟩))
 ·obtain⟨a,t,rfl,h1,h⟩:=n1 ek
  obtain rfl:=n0 h
  obtain⟨d,rfl⟩:=yM h1
  exact .inr (.inl ⟨by simp,[],d,by decide,rfl⟩)
 ·obtain⟨a,t,rfl,h1,h⟩:=n1 ek
  obtain⟨c,t,rfl,h2,h⟩:=n1 h
  obtain rfl:=n0 h
  obtain⟨x,rfl⟩:=eK h1
  obtain⟨d,rfl⟩:=yM h2
  exact .inr (.inl ⟨by simp,[x],d,by simp,rfl⟩)
 ·obtain⟨a,t,rfl,h1,h⟩:=n1 ek
  obtain rfl:=n0 h
  obtain⟨n,rfl⟩:=EY h1
  exact .inl ⟨rfl,n,rfl⟩
structure nR (K:Ja)(H:Hp)(lp:Addr)(F:Fb):Prop where
 ex:o7 fun r1 r2 r3=>bq K H lp [r1,r2,r3,.int (F.near:Nat),.int (F.dz:Nat)]/\aN K H [aH F.b1,aH F.b2,aH F.b3] [r1,r2,r3]
theorem nR.same {K:Ja}{H H':Hp}{lp:Addr}{F:Fb}(h:nR K H lp F)(s:ar H H'):nR K H' lp F:=by
 obtain⟨r1,r2,r3,h1,h2⟩:=h.ex
 exact⟨r1,r2,r3,s.seq h1,h2.same s⟩
def HJ (K:Ja):Sp:=fun vs H Q _=>yf fun(lp p:Addr) (F:Fb) (w:Str) (as:List Arg)=>vs=[.ref lp,.ref p]/\nR K H lp F/\tj F/\xq w as/\bF K H p (.str w::as.map Arg.v)/\∀H',ar H H'->Q (B0 (eG F w as)) H'
theorem sP {K:Ja}{H:Hp}{bk:List (Str×Str)}{v:V}(h:Den K H (aH bk) v):∃(p:Addr) (as:List Addr),v = .ref p/\bq K H p (as.map V.ref)/\as.length=(dP bk).length/\∀(j:Nat) b (kv:Key×V),as[j]? = some b->(dP bk)[j]? = some kv->bF K H b [kV kv.1,kv.2]:=by
 unfold aH Den at h
 obtain⟨a,us,rfl,hS,hd⟩:=h
 obtain⟨as,rfl,al,hT⟩:=rY hd
 exact⟨a,as,rfl,hS,by unfold dP;rw[Jd];exact al,hT⟩
theorem qZ (bk:List (Str×Str)):(dP bk).length=bk.length:=by unfold dP;rw[Jd]
section
variable {P:Program}{w:World}{K:Ja}{mg:Str->Option Value}{base:Heap}{f:Addr}{fd:FuncData}
theorem bL:aB ["_law_parts_here", "_law_bare", "_law_kinds_here", "_law_spots", "_law_word", "_law_text", "_law_many", "_law_half", "_law_size"] ["_law_parts_here", "_law_bare"] (ak (top kT)):=⟨rfl,rfl,rfl,by decide +kernel,rfl,by decide +kernel,by decide +kernel⟩
theorem Ln (F:bU K "_law_put" "_law_put" (top kT) f fd)(T:Nm mg)(cn:mg "dict" = none)(ik:Fn P w K mg base 1 "_law_sizes" [] (lS bp))(fL:Fn P w K mg base 1 "_law_figures" ["_law_number", "_law_many"] mD)(dW:Fn P w K mg base 1 "_law_power" ["_law_many"] lM)(eV:Fn P w K mg base 1 "_law_far_word" ["_law_word"] sf):bh P w K mg base fw 2 f fd ["_law_parts_here", "_law_bare"] (HJ K):=by
 refine F.ok bL (fun vs H Q E h =>?_) (fun cH A outer s H vs Q E hr h =>?_)
 ·obtain⟨lp,p,Fo,wd,as,rfl,_⟩:=h
  rfl
 obtain⟨lp,p,Fo,wd,args,rfl,hP,fr,ba,hp,q⟩:=h
 have hu:=qE hr
 have eC:=hr.units
 have small:∀{n:Nat},n<=10000->n<=sizeLine:=fun h=>Ji h (by decide)
 obtain⟨r1,r2,r3,hl,hD⟩:=hP.ex
 have l1:Fo.b1.length=11:=fr.g.l1
 have l2:Fo.b2.length=4:=fr.g.l2
 have l3:Fo.b3.length=9:=fr.g.l3
 have Xa:(Fo.b1.map (·.1)).Nodup:=fr.g.n1.nodup_iff.mpr bX
 have VW:(Fo.b2.map (·.1)).Nodup:=fr.n2.nodup_iff.mpr KC.nd
 have WG:(Fo.b3.map (·.1)).Nodup:=fr.n3.nodup_iff.mpr JB.nd
 obtain⟨qq,hqq,ew,ek⟩:=ba.pt
 have OE:wd∈Fo.b1.map (·.1):=fr.g.n1.mem_iff.mpr (by rw[ew];exact(jN qq hqq).1)
 refine⟨_,(af (xo (fh (aa (bf (yu K rfl) rfl cn (by rfl) (aa (bA (gW K) (pv 0) ah (fun _ _=>rfl)) ae)) (aa (bf (yu K rfl) rfl cn (by rfl) (aa (bA (gW K) (pv 0) ah (fun _ _=>rfl)) ae)) ae))) (tupK K 2 rfl (aY (aQ (i:=2) bL.nd rfl (Or.inl rfl)) (aY (aQ (i:=3) bL.nd rfl (Or.inr rfl)) cY))))
  (af (aA (i:=4) bL.nd rfl (Or.inl rfl) (bA (gW K) (pv 1) ah (fun _ _=>rfl)))
  (af (aA (i:=5) bL.nd rfl (Or.inl rfl) (bI hu (pv 2) (pv 4) (fun _ _=>rfl)))
  (af (bt (aI (o9 K eC) (pv 4) au (aM _)) (ag (av (aD cI (aD cI (pv 5) (aG (fL.mono (by decide)) hr rfl (aa (bA (gW K) (pv 1) ah (fun _ _=>rfl)) (aa ah ae)))) (aD Nw au (bA (gW K) (pv 1) ah (fun _ _=>rfl)))))) aF)
  (af (bt (aI (MB K) (pv 4) (fh (aa au (aa au (aa au (aa au ae))))) (by with_unfolding_all rfl)) (af (aA (i:=6) bL.nd rfl (Or.inl rfl) (bA (gW K) (pv 0) (aD cI ah (bf p8 rfl T.n_int (by rfl) (aa (aG (eV.mono (by decide)) hr rfl (aa (pv 4) ae)) ae))) (fun _ _=>rfl)))
  (af (aA (i:=7) bL.nd rfl (Or.inl rfl) (aG (dW.mono (by decide)) hr rfl (aa (aD et (pv 6) ah) ae)))
  (af (bt (PW.pt (je (aI lF (bA (gW K) (pv 1) (oN jo ah) (fun _ _=>rfl)) (aD et ah (pv 7)) (aM _)) (iP (aI GJ (bA (gW K) (pv 1) (oN jo ah) (fun _ _=>rfl)) (pv 7) (aM _))))) (ag (av cS)) aF)
  (ag (av (aD cI (aD cI (pv 5) (tU K PySem.F.plainAttrs_str PySem.F.slot_str_join PySem.F.type_str_join (yF K) au (aa (gc rfl (eO (Nc:=["_law_spot"]) (Fc:=["_law_spots"]) (js:=[3])) (mj K (dQ (Ks K) (pv 1) (dM ah) (dM (oN jo ah)))) (cP (i:=0) (n:=1) (by decide)) (fun _ _ _ _ _=>(aQ (i:=0) (Bi ["_law_spot", "_law_spots"]) rfl (Or.inl rfl))) (fun _ _ _ _ _=>fC) (fun _ _ _ _ _=>(bI hu (pv 1) (pv 0) (fun _ _=>rfl)))) ae))) (aG (fL.mono (by decide)) hr rfl (aa (aD cI (bA (gW K) (pv 1) (oN jo ah) (fun _ _=>rfl)) (aD lZ ah (pv 7))) (aa (pv 6) ae))))))))) aF)
  (af (bt (aI (o9 K eC) (pv 4) au (aM _)) (af (aA (i:=8) bL.nd rfl (Or.inl rfl) ah)
  (af (oG PassesOwn.never (aI nL (aG (dW.mono (by decide)) hr rfl (aa (pv 8) ae)) (bA (gW K) (pv 1) ah (fun _ _=>rfl)) (aM _)) (ag (aA (i:=8) bL.nd rfl (Or.inl rfl) (aD cI (pv 8) ah))))
  (af (aA (i:=5) bL.nd rfl (Or.inl rfl) (aD cI (aD cI (pv 5) (bI hu (pv 3) (bA (gW K) (pv 1) ah (fun _ _=>rfl)) (fun _ _=>rfl))) (bI hu (bf (yu K rfl) rfl cn (by rfl) (aa (bA (gW K) (pv 0) ah (fun _ _=>rfl)) ae)) (bA (gW K) (rg (ik.mono (by first|decide|exact Je _|omega)) hr rfl) (pv 8) (fun _ _=>rfl)) (fun _ _=>rfl))))
  (ag (av (aD cI (pv 5) (aG (fL.mono (by decide)) hr rfl (aa (bA (gW K) (pv 1) ah (fun _ _=>rfl)) (aa (ao (zW rfl) rfl T.n_max (by rfl) (aa ah (aa (aD et (pv 8) ah) ae))) ae))))))))) aF)
  (ag (av (aD cI (pv 5) (tU K PySem.F.plainAttrs_str PySem.F.slot_str_join PySem.F.type_str_join (yF K) au (aa (gc rfl (eO (Nc:=["_law_spot"]) (Fc:=["_law_spots"]) (js:=[3])) (mj K (dQ (Ks K) (pv 1) (dM ah) gG)) (cP (i:=0) (n:=1) (by decide)) (fun _ _ _ _ _=>(aQ (i:=0) (Bi ["_law_spot", "_law_spots"]) rfl (Or.inl rfl))) (fun _ _ _ _ _=>fC) (fun _ _ _ _ _=>(bI hu (pv 1) (pv 0) (fun _ _=>rfl)))) ae))))))))))),?_⟩
 obtain⟨a1,as1,rfl,sq1,al1,G9⟩:=sP (jF (j:=0) hD rfl rfl)
 refine⟨_,rfl,.inl ⟨lp,_,0,.ref a1,rfl,rfl,hl,rfl,a1,as1,dP Fo.b1,rfl,sq1,al1,by rw[qZ,l1];decide,G9,fun d1 H1 n1 =>?_⟩⟩
 rw[dR Xa] at n1
 obtain⟨a2,as2,rfl,sq2,Tr,hT2⟩:=sP ((jF (j:=1) hD rfl rfl).same n1.same)
 refine⟨_,rfl,.inl ⟨lp,_,1,.ref a2,rfl,rfl,n1.same.seq hl,rfl,a2,as2,dP Fo.b2,rfl,sq2,Tr,by rw[qZ,l2];decide,hT2,fun d2 H2 n2 =>?_⟩⟩
 rw[dR VW] at n2
 refine⟨by show 2<=sizeLine;decide,fun t3 H3 n3=>⟨t3,_,rfl,bF.of n3.at,rfl,_,_,rfl,_,_,rfl,rfl,?_⟩⟩
 have s3:=n1.same.trans (n2.same.trans n3.same)
 have h1:=n3.same _ _ (n2.same _ _ n1.at)
 have h2:=n3.same _ _ n2.at
 have Vr:dI H3 d1 (.str wd) (some (.str (aW Fo.b1 wd))):=by
  rw[<-fg OE]
  exact dI.k (k := .inr wd) h1
 have TX:∀{Hx:Hp} {x:Str},ar H3 Hx->x∈bM->dI Hx d2 (.str x) (some (.str (aW Fo.b2 x))):=fun s hx=>by
  rw[<-fg (fr.n2.mem_iff.mpr hx)]
  exact dI.k (k := .inr _) (s _ _ h2)
 have Ih:=s3.cQ hp
 have c1:=fr.c1 wd
 refine⟨_,rfl,.inr (.inl ⟨p,_,0,.str wd,rfl,rfl,Ih,fM (Int.le_refl 0) rfl,gn ?_⟩)⟩
 refine⟨_,rfl,_,rfl,d1,_,rfl,Vr,gn ?_⟩
 rcases ba.cls with ⟨rfl,n,rfl⟩|⟨hw,xs,d,xl,rfl⟩|⟨rfl,x,n,rfl⟩|⟨hw,xs,xl,rfl⟩
 ·-- skip
  refine⟨_,rfl,.inl ⟨rfl,_,rfl,pB ?_⟩⟩
  have hn:n<=7:=ba.ok _ (J0.mpr rfl)
  have ml:∀n,n<=7->(Txt.mul (Str.ofString "0") ((n:Nat):Int)).length<=10:=by decide +kernel
  have ml:=ml n hn
  have fl:=cM n 3
  refine⟨_,rfl,_,rfl,.inr (.inl ⟨p,_,1,.int (n:Nat),rfl,rfl,Ih,rfl,n,3,rfl,by decide,fun H4 s4 =>?_⟩)⟩
  refine .inr (.inl ⟨_,_,rfl,rfl,small (by omega),?_⟩)
  refine⟨_,rfl,.inr (.inl ⟨p,_,1,.int (n:Nat),rfl,rfl,s4.cQ Ih,rfl,.inr ⟨_,_,rfl,rfl,lR (by decide) (by omega) (by omega),?_⟩⟩)⟩
  refine .inr (.inl ⟨_,_,rfl,rfl,small (by rw[PySem.strLen_append];omega),?_⟩)
  have q:=q H4 (s3.trans s4)
  have e:eG Fo "skip" [.ma n]=some (aW Fo.b1 "skip" ++ cW n 3++Txt.mul (Str.ofString "0") (n:Nat)):=by
   show some (Txt.join "" [aW Fo.b1 "skip",cW n 3++Txt.mul (Str.ofString "0") (n:Nat)])=_
   rw[join_cons,join_cons,join_nil,sv,sT]
  rw[e] at q
  exact q
 ·-- jumps
  have O1:∀w∈gI,(w == "skip")=false/\gI.contains w=true:=by decide +kernel
  obtain⟨k1,k2⟩:=O1 _ hw
  refine⟨_,rfl,.inl ⟨rfl,_,rfl,eF ?_ k1⟩⟩
  dsimp only[bZ]
  refine⟨_,rfl,by show 4<=sizeLine;decide,fun t4 H4 n4=>⟨t4,gI.map V.str,rfl,.inr (bF.of n4.at),rfl,?_,_,rfl,DU ?_ k2⟩⟩
  ·rfl
  obtain⟨kk,ekk⟩:∃kk:Nat,kk=if pG wd=true then Fo.dz else Fo.near:=⟨_,rfl⟩
  have nr:=fr.nr
  have ff:=fr.fr
  have kb:2<=kk/\kk<=16:=by rw[ekk];split<;>omega
  have s4:=s3.trans n4.same
  refine⟨_,rfl,_,rfl,wd,rfl,fun H5 s5 =>.inr ⟨pG wd,rfl,.inl ⟨_,_,rfl,rfl,.inl ⟨lp,_,_,.int (kk:Nat),rfl,rfl,(s4.trans s5).seq hl,?_,gn ?_⟩⟩⟩⟩
  ·rw[ekk]
   cases pG wd<;>rfl
  refine⟨_,rfl,_,_,rfl,rfl,kk-1,?_,by omega,gn ?_⟩
  ·show[V.int ((kk:Int)-1)]=[V.int ((kk-1:Nat):Int)]
   rw[show(kk:Int)-1=((kk-1:Nat):Int) by omega]
  have Qv:=s5 _ _ (n4.same _ _ h2)
  have s5:=s4.trans s5
  have dk:d.natAbs<=1000000:=by
   have:=ba.ok (jB wd d) (Jx _ (J0.mpr rfl))
   unfold jB at this
   split at this<;>exact this
  have ev:(jB wd d).v = .int d:=by unfold jB;split<;>rfl
  have eL:(xs.map Arg.sp++[jB wd d]).map Arg.v=xs.map V.str++[.int d]:=by rw[J7,Yn,Jy,ev];rfl
  have Oo:=s5.cQ hp
  rw[eL] at Oo
  have aL:=BD (V.str wd) (V.int d) (xs.map V.str)
  have q0:inD d kk=false->∀H',ar H H'->Q .non H':=fun c H' s'=>by
   have q:=q H' s'
   have e:eG Fo wd (xs.map Arg.sp++[jB wd d])=none:=by
    have ea:fN Fo (jB wd d)=none:=by
     have:fN Fo (jB wd d)=pM d kk:=by
      rw[ekk]
      unfold jB
      cases pG wd<;>rfl
     rw[this]
     unfold pM
     rw[c];rfl
    unfold eG
    rw[kI ea (Jx _ (J0.mpr rfl))];rfl
   rw[e] at q
   exact q
  refine⟨_,rfl,_,rfl,.inr (.inl ⟨p,_,-1,.int d,rfl,rfl,Oo,aL,_,rfl,_,_,rfl,rfl,_,_,rfl,rfl,_,rfl,?_⟩)⟩
  refine fG (fun c=>bJ (q0 ?_ _ s5)) (fun c =>?_)
  ·have c:d<0-2^(kk-1):=of_decide_eq_true c
   unfold inD
   rw[decide_eq_false (by omega),Yk]
  have Xr:¬d<0-2^(kk-1):=fun z=>c (decide_eq_true z)
  refine⟨_,rfl,_,rfl,.inr (.inl ⟨p,_,-1,.int d,rfl,rfl,Oo,aL,_,rfl,_,_,rfl,rfl,_,rfl,?_⟩)⟩
  refine fG (fun c=>q0 ?_ _ s5) (fun c =>?_)
  ·have c:2^(kk-1)<=d:=of_decide_eq_true c
   unfold inD
   rw[decide_eq_false (p:=d<2^(kk-1)) (by omega),Bool.and_false]
  have Xn:¬ 2^(kk-1)<=d:=fun z=>c (decide_eq_true z)
  have cin:inD d kk=true:=by
   unfold inD
   rw[decide_eq_true (by omega),decide_eq_true (by omega)];rfl
  dsimp only[bZ]
  refine⟨_,rfl,rfl,_,rfl,1,rfl,_,rfl,-1,rfl,p,_,rfl,Oo,?_,fun p6 H6 n6 =>?_⟩
  ·rintro⟨z,_⟩
   have:HT.cK (V.str wd::(xs.map V.str++[V.int d])).length 0 (some 1)=1:=by
    show HT.cK _ 0 (some ((1:Nat):Int))=1
    rw[HT.iW,Jt]
    omega
   rw[this] at z
   exact absurd z (by decide)
  rw[Gb] at n6
  have s6:=s5.trans n6.same
  refine⟨p6,rfl,⟨_,bF.of n6.at⟩,?_⟩
  refine eJ (N:=xs.length) (fun i ys H'=>H'=H6/\ys=((xs.take i).map (aW Fo.b2)).map V.str) ⟨rfl,rfl⟩ ?_ ?_
  ·rintro i ys H7 Ny hi ⟨rfl,rfl⟩ ny
   have hv:(xs.map V.str)[i]? = some (.str xs[i]):=by rw[Jk,Jc hi];rfl
   refine⟨⟨_,_,bF.of n6.at,hv⟩,Uj (show _<=100 by rw[Jd,Jd,Uo];omega) (by decide),?_⟩
   rintro x' H8 ⟨rfl,hy⟩
   have e:=hy _ (bF.of n6.at)
   rw[hv] at e;cases e
   have Sv:xs[i]∈bM:=ba.ok (.sp xs[i]) (Yj _ (Y0 (Ul hi)))
   have T5:dI H8 d2 (.str xs[i]) (some (.str (aW Fo.b2 xs[i]))):=by
    rw[<-fg (fr.n2.mem_iff.mpr Sv)]
    refine dI.k (k := .inr _) (n6.same _ _ ?_)
    exact Qv
   refine gn ⟨_,rfl,_,rfl,d2,_,rfl,T5,ny _ _ ⟨rfl,?_⟩⟩
   rw[qA hi,J7,J7];rfl
  ·rintro ys H7 ⟨rfl,rfl⟩
   rw[We]
   refine⟨⟨_,bF.of n6.at,by rw[Jd];exact Je _⟩,fun pv hpv =>?_⟩
   have jl:=fr.sum xs
   refine⟨_,pv,xs.map (aW Fo.b2),rfl,rfl,bq.of ay,?_,?_⟩
   ·show((xs.map (aW Fo.b2)).map fun x=>x.length).sum+_*0<=16777216
    omega
   have WY:=nC (xs.map (aW Fo.b2))
   refine .inr (.inl ⟨_,_,rfl,rfl,small (by omega),?_⟩)
   have s7:=s6.trans (bQ hpv (.lst ((xs.map (aW Fo.b2)).map V.str)))
   have SX:=s7.cQ hp
   rw[eL] at SX
   have p2:(2:Int)^kk=2*2^(kk-1):=by
    rw[show kk=(kk-1)+1 by omega,Int.pow_succ,Int.mul_comm];rfl
   have pp:(0:Int)<2^(kk-1):=Int.pow_pos (by decide)
   refine⟨_,rfl,_,rfl,.inr (.inl ⟨p,_,-1,.int d,rfl,rfl,SX,aL,_,rfl,.inl ⟨_,_,rfl,rfl,.inl ⟨by decide,by decide⟩,.inl ⟨_,_,rfl,rfl,_,rfl,(d+2^kk).toNat,kk,?_,by omega,fun H8 s8 =>?_⟩⟩⟩)⟩
   ·show[V.int (d+2*2^(kk-1)),V.int (kk:Nat)]=_
    rw[Y2 (by omega),p2]
   have fl:=cM (d+2^kk).toNat kk
   refine .inr (.inl ⟨_,_,rfl,rfl,small (by rw[PySem.strLen_append];omega),?_⟩)
   have q:=q H8 (s7.trans s8)
   have e:eG Fo wd (xs.map Arg.sp++[jB wd d])=some (aW Fo.b1 wd++Txt.join "" (xs.map (aW Fo.b2))++cW (d+2^kk).toNat kk):=by
    have ea:fN Fo (jB wd d)=some (cW (d+2^kk).toNat kk):=by
     rw[<-BQ (by omega) cin,ekk]
     unfold jB
     cases pG wd<;>rfl
    unfold eG
    rw[rH]
    have:cq Fo [jB wd d]=some [cW (d+2^kk).toNat kk]:=by
     show(match fN Fo (jB wd d) with|none=>none|some x=>(some []).map (x :: ·))=_
     rw[ea];rfl
    rw[this]
    show some (Txt.join "" (aW Fo.b1 wd::(xs.map (aW Fo.b2)++[cW (d+2^kk).toNat kk])))=_
    rw[join_cons,Ce,join_cons,join_nil,sv,sT]
   rw[e] at q
   exact q
 ·-- set
  refine⟨_,rfl,.inl ⟨rfl,_,rfl,eF ?_⟩⟩
  dsimp only[bZ]
  refine⟨_,rfl,by show 4<=sizeLine;decide,fun t4 H4 n4=>⟨t4,gI.map V.str,rfl,.inr (bF.of n4.at),rfl,rfl,_,rfl,DP ?_⟩⟩
  dsimp only[bZ]
  refine⟨_,rfl,.inl ⟨rfl,_,rfl,pB ?_⟩⟩
  have hx:x∈bM:=ba.ok _ Js
  have hn:n<=255:=ba.ok _ (Jo _ Js)
  have hb:=vK hn
  have c2:=fr.c2 x
  obtain⟨z,hz⟩:∃z,bp[cp n]? = some z:=⟨_,Jc (show cp n<9 by omega)⟩
  have ez:bp.getD (cp n) Str.empty=z:=by rw[Ym,hz];rfl
  have c3:=fr.c3 z
  have W3:z∈Fo.b3.map (·.1):=fr.n3.mem_iff.mpr (Jz hz)
  refine gn ?_
  dsimp only
  refine gH (t:=oM _ _) (fun σ H' =>σ=[some (.ref lp),some (.ref p),some (.ref d1),some (.ref d2),some (.str "set"),some (.str (aW Fo.b1 "set")),none,none,some (.int (cp n:Nat))]/\H'=H4) (fun Nx nx =>?_) ?_
  ·refine rG (fun m σ H'=>∃k:Nat,m=cp n-k/\k<=cp n /\ σ=[some (.ref lp),some (.ref p),some (.ref d1),some (.ref d2),some (.str "set"),some (.str (aW Fo.b1 "set")),none,none,some (.int (k:Nat))]/\H'=H4) ⟨_,0,rfl,Uz _,rfl,rfl⟩ ?_
   rintro m σ H5 ⟨k,rfl,hk,rfl,rfl⟩
   refine⟨_,rfl,k,rfl,by omega,?_⟩
   refine⟨_,rfl,.inr (.inl ⟨p,_,2,.int (n:Nat),rfl,rfl,n4.same.cQ Ih,rfl,_,_,rfl,rfl,_,rfl,?_⟩)⟩
   have e2:(2:Int)^k<=(n:Nat)↔k<cp n:=by
    rw[<-JP]
    have:(2:Int)^k=((2^k:Nat):Int):=by push_cast;rfl
    omega
   refine fG (fun c =>?_) (fun c =>?_)
   ·have c:=e2.mp (of_decide_eq_true c)
    refine⟨fun σ' H'=>∃m',m'<cp n-k/\_,fun _ _ h=>h,?_⟩
    exact⟨_,rfl,.inl ⟨_,_,rfl,rfl,cp n-(k+1),by omega,k+1,rfl,by omega,rfl,rfl⟩⟩
   ·have c:¬k<cp n:=fun y=>c (decide_eq_true (e2.mpr y))
    have:k=cp n:=by omega
    subst this
    exact nx _ _ ⟨rfl,rfl⟩
  rintro σ H5 ⟨rfl,rfl⟩
  have s4:=s3.trans n4.same
  have UR:=n4.same.cQ Ih
  refine⟨_,rfl,_,rfl,_,rfl,.inr (.inl ⟨p,_,1,.str x,rfl,rfl,UR,rfl,d2,_,rfl,TX n4.same hx,?_⟩)⟩
  refine .inr (.inl ⟨_,_,rfl,rfl,small (by omega),?_⟩)
  obtain⟨a3,as3,rfl,sq3,al3,hT3⟩:=sP ((jF (j:=2) hD rfl rfl).same s4)
  refine⟨_,rfl,.inl ⟨lp,_,2,.ref a3,rfl,rfl,s4.seq hl,rfl,a3,as3,dP Fo.b3,rfl,sq3,al3,by rw[qZ,l3];decide,hT3,fun d3 H6 n6 =>?_⟩⟩
  rw[dR WG] at n6
  refine⟨rfl,fun ps H7 n7=>⟨_,rfl,.inl ⟨ps,_,_,.str z,rfl,rfl,bq.of n7.at,kq (by rw[Jk];show(bp[cp n]?).map V.str=_;rw[hz];rfl),d3,_,rfl,by rw[<-fg W3];exact dI.k (k := .inr z) (n7.same _ _ n6.at),?_⟩⟩⟩
  refine .inr (.inl ⟨_,_,rfl,rfl,small (by rw[PySem.strLen_append];omega),gn ?_⟩)
  have s7:=s4.trans (n6.same.trans n7.same)
  have em:(if ((cp n:Nat):Int)-1>0 then ((cp n:Nat):Int)-1 else 0)=((cp n-1:Nat):Int):=by split<;>omega
  refine⟨_,rfl,_,rfl,.inr (.inl ⟨p,_,2,.int (n:Nat),rfl,rfl,s7.cQ hp,rfl,_,rfl,_,_,rfl,rfl,0,_,rfl,n,cp n-1,(by show[V.int ((n:Nat):Int),V.int (if ((cp n:Nat):Int)-1>0 then ((cp n:Nat):Int)-1 else 0)]=_;rw[em]),by omega,fun H8 s8 =>?_⟩)⟩
  have fl:=cM n (cp n-1)
  refine .inr (.inl ⟨_,_,rfl,rfl,small (by rw[PySem.strLen_append,PySem.strLen_append];omega),?_⟩)
  have q:=q H8 (s7.trans s8)
  have e:eG Fo "set" [.sp x,.nu n]=some (aW Fo.b1 "set" ++ aW Fo.b2 x++aW Fo.b3 z++cW n (cp n-1)):=by
   show some (Txt.join "" [aW Fo.b1 "set",aW Fo.b2 x,aW Fo.b3 (bp.getD (cp n) Str.empty)++Txt.slice (cW n (cp n)) (some 1) none])=_
   rw[join_cons,join_cons,join_cons,join_nil,sv,ez,AF,sT,sT]
  rw[e] at q
  exact q
 ·-- the others
  have O1:∀w∈G5,(w == "skip")=false/\gI.contains w=false/\(w == "set")=false:=by decide +kernel
  obtain⟨k1,k2,k3⟩:=O1 _ hw
  refine⟨_,rfl,.inl ⟨rfl,_,rfl,eF ?_ k1⟩⟩
  dsimp only[bZ]
  refine⟨_,rfl,by show 4<=sizeLine;decide,fun t4 H4 n4=>⟨t4,gI.map V.str,rfl,.inr (bF.of n4.at),rfl,?_,_,rfl,DP ?_ k2⟩⟩
  ·rfl
  dsimp only[bZ]
  refine⟨_,rfl,.inl ⟨rfl,_,rfl,eF ?_ k3⟩⟩
  dsimp only[bZ]
  have s4:=s3.trans n4.same
  refine⟨_,rfl,rfl,_,rfl,1,rfl,p,_,rfl,s4.cQ hp,?_,fun p5 H5 n5 =>?_⟩
  ·rintro⟨z,_⟩
   have:HT.cK (V.str wd::(xs.map Arg.sp).map Arg.v).length 0 (some 1)=1:=by
    show HT.cK _ 0 (some ((1:Nat):Int))=1
    rw[HT.iW,Jt]
    omega
   rw[this] at z
   exact absurd z (by decide)
  rw[show(1:Int)=((1:Nat):Int) from rfl,uW] at n5
  have e5:(V.str wd::(xs.map Arg.sp).map Arg.v).drop 1=xs.map V.str:=by rw[List.drop_succ_cons,List.drop_zero,Yn];rfl
  rw[e5] at n5
  have s5:=s4.trans n5.same
  refine⟨p5,rfl,⟨_,bF.of n5.at⟩,?_⟩
  refine eJ (N:=xs.length) (fun i ys H'=>H'=H5/\ys=((xs.take i).map (aW Fo.b2)).map V.str) ⟨rfl,rfl⟩ ?_ ?_
  ·rintro i ys H6 Ny hi ⟨rfl,rfl⟩ ny
   have hv:(xs.map V.str)[i]? = some (.str xs[i]):=by rw[Jk,Jc hi];rfl
   refine⟨⟨_,_,bF.of n5.at,hv⟩,Uj (show _<=100 by rw[Jd,Jd,Uo];omega) (by decide),?_⟩
   rintro x' H7 ⟨rfl,hy⟩
   have e:=hy _ (bF.of n5.at)
   rw[hv] at e;cases e
   have Sv:xs[i]∈bM:=ba.ok (.sp xs[i]) (Y0 (Ul hi))
   refine gn ⟨_,rfl,_,rfl,d2,_,rfl,TX (n4.same.trans n5.same) Sv,ny _ _ ⟨rfl,?_⟩⟩
   rw[qA hi,J7,J7];rfl
  ·rintro ys H6 ⟨rfl,rfl⟩
   rw[We]
   refine⟨⟨_,bF.of n5.at,by rw[Jd];exact Je _⟩,fun pv hpv =>?_⟩
   have jl:=fr.sum xs
   refine⟨_,pv,xs.map (aW Fo.b2),rfl,rfl,bq.of ay,?_,?_⟩
   ·show((xs.map (aW Fo.b2)).map fun x=>x.length).sum+_*0<=16777216
    omega
   have WY:=nC (xs.map (aW Fo.b2))
   refine .inr (.inl ⟨_,_,rfl,rfl,small (by omega),?_⟩)
   have q:=q _ (s5.trans (bQ hpv (.lst ((xs.map (aW Fo.b2)).map V.str))))
   have e:eG Fo wd (xs.map Arg.sp)=some (aW Fo.b1 wd++Txt.join "" (xs.map (aW Fo.b2))):=by
    have:=rH (F:=Fo) xs []
    rw[Uw] at this
    unfold eG
    rw[this]
    show some (Txt.join "" (aW Fo.b1 wd::(xs.map (aW Fo.b2)++[])))=_
    rw[Uw,join_cons]
   rw[e] at q
   exact q
end
def Km (K:Ja):Sp:=fun vs H Q _=>D0 fun(b c:Addr) (t:Int) (lp:Addr) (F:Fb) (z:Nat)=>vs=[.ref b,.ref lp,.int (z:Nat)]/\z<=1/\Bx H b c t/\0<=t/\t<90000000/\nR K (fY H b c) lp F/\tj F /\
 ∀(p:Addr) (w:Str) (as:List Arg) (H':Hp) (t':Int),xq w as->H' p=some (.tup (.str w::as.map Arg.v))->p≠b->p≠c->Step b c H H' t t' 10->Q (.ref p) H'
theorem yb {r:Int}(h0:0<=r)(h1:r<4):∃c,ye (Str.ofString "abcd").cps.toList r=some c/\(⟨#[c]⟩:Str)∈bM:=by
 have:r=0∨r=1∨r=2∨r=3:=by omega
 rcases this with rfl|rfl|rfl|rfl
 ·exact⟨97,by decide +kernel,by decide +kernel⟩
 ·exact⟨98,by decide +kernel,by decide +kernel⟩
 ·exact⟨99,by decide +kernel,by decide +kernel⟩
 ·exact⟨100,by decide +kernel,by decide +kernel⟩
theorem CW:∀w∈ax,w = "set" ∨ w∈(["add", "take"]:List Str)∨w∈(["tell", "ask"]:List Str)∨w = "stop" ∨ w = "skip" ∨ w∈gI:=by decide +kernel
section
variable {P:Program}{w:World}{K:Ja}{mg:Str->Option Value}{base:Heap}{f:Addr}{fd:FuncData}
theorem bG:aB ["_law_state", "_law_parts_here", "_law_beyond", "_law_word", "_law_one", "_law_other", "_law_half", "_law_some", "_law_distance"] ["_law_state", "_law_parts_here", "_law_beyond"] (ak (top eB)):=⟨rfl,rfl,rfl,by decide +kernel,rfl,by decide +kernel,by decide +kernel⟩
theorem E2 (F:bU K "_law_some_bare" "_law_some_bare" (top eB) f fd)(T:Nm mg)(iK:Fn P w K mg base 1 "_law_kinds" [] (lS ax))(aO:Fn P w K mg base 1 "_law_take" ["_law_state", "_law_many"] A7)(dW:Fn P w K mg base 1 "_law_power" ["_law_many"] lM)(eV:Fn P w K mg base 1 "_law_far_word" ["_law_word"] sf):bh P w K mg base fw 2 f fd ["_law_state", "_law_parts_here", "_law_beyond"] (Km K):=by
 refine F.ok bG (fun vs H Q E h =>?_) (fun cH A outer s H vs Q E hr h =>?_)
 ·obtain⟨b,c,t,lp,Fo,z,rfl,_⟩:=h
  rfl
 obtain⟨b,c,t,lp,Fo,z,rfl,z1,bx,t0,t1,hP,fr,q⟩:=h
 have eC:=hr.units
 have nr:=fr.nr
 have ff:=fr.fr
 refine⟨_,(af (aA (i:=3) bG.nd rfl (Or.inl rfl) (bA (gW K) (rg (iK.mono (by first|decide|exact Je _|omega)) hr rfl) (aG (aO.mono (by decide)) hr rfl (aa (pv 0) (aa ah ae))) (fun _ _=>rfl)))
  (af (JX (i:=4) (j:=5) rfl bG.nd rfl rfl (by decide) rfl rfl (aa (bA (gW K) au (aG (aO.mono (by decide)) hr rfl (aa (pv 0) (aa ah ae))) (fun _ _=>rfl)) (aa (bA (gW K) au (aG (aO.mono (by decide)) hr rfl (aa (pv 0) (aa ah ae))) (fun _ _=>rfl)) ae)) rfl)
  (af (bt (aI (o9 K eC) (pv 3) au (aM _)) (ag (av (fh (aa (pv 3) (aa (pv 4) (aa (bA (gW K) (gr (aa (aG (aO.mono (by decide)) hr rfl (aa (pv 0) (aa ah ae))) (aa (aD et (aG (dW.mono (by decide)) hr rfl (aa (aG (aO.mono (by decide)) hr rfl (aa (pv 0) (aa ah ae))) ae)) ah) (aa ah ae)))) (aG (aO.mono (by decide)) hr rfl (aa (pv 0) (aa ah ae))) (fun _ _=>rfl)) ae)))))) aF)
  (af (bt (aI (MB K) (pv 3) (fh (aa au (aa au ae))) (by with_unfolding_all rfl)) (ag (av (fh (aa (pv 3) (aa (pv 4) (aa (pv 5) ae)))))) aF)
  (af (bt (aI (MB K) (pv 3) (fh (aa au (aa au ae))) (by with_unfolding_all rfl)) (ag (av (fh (aa (pv 3) (aa (pv 4) ae))))) aF)
  (af (bt (aI (o9 K eC) (pv 3) au (aM _)) (ag (av (fh (aa (pv 3) ae)))) aF)
  (af (bt (aI (o9 K eC) (pv 3) au (aM _)) (ag (av (fh (aa (pv 3) (aa (aG (aO.mono (by decide)) hr rfl (aa (pv 0) (aa ah ae))) ae))))) aF)
  (af (aA (i:=6) bG.nd rfl (Or.inl rfl) (aG (dW.mono (by decide)) hr rfl (aa (aD et (bA (gW K) (pv 1) (aD cI ah (bf p8 rfl T.n_int (by rfl) (aa (aG (eV.mono (by decide)) hr rfl (aa (pv 3) ae)) ae))) (fun _ _=>rfl)) ah) ae)))
  (af (aA (i:=7) bG.nd rfl (Or.inl rfl) (gr (aa (aD et (aG (aO.mono (by decide)) hr rfl (aa (pv 0) (aa (aD lZ ah (pv 6)) ae))) (pv 6)) (aa (aD et ah (pv 6)) (aa (aD et (pv 6) ah) (aa ah (aa (oN jo ah) (aa (aD lZ (pv 6) (pv 2)) (aa (aD lZ (aD et (aD et ah (pv 6)) ah) (pv 2)) ae)))))))))
  (af (aA (i:=8) bG.nd rfl (Or.inl rfl) (bA (gW K) (pv 7) (aG (aO.mono (by decide)) hr rfl (aa (pv 0) (aa ah ae))) (fun _ _=>rfl)))
  (ag (av (fX (aI (MB K) (pv 3) (fh (aa au (aa au ae))) (by with_unfolding_all rfl)) (fh (aa (pv 3) (aa (pv 8) ae))) (fh (aa (pv 3) (aa (pv 4) (aa (pv 8) ae))))))))))))))))),?_⟩
 refine kZ (te:=_) (fun v H'=>∃(wd:Str) (t':Int),v = .str wd/\wd∈ax/\Step b c H H' t t' 1) (fun Qn qn =>?_) ?_
 ·refine⟨rfl,fun pk H1 n1=>⟨_,rfl,b,c,t,11,rfl,bx.same n1.same,t0,by omega,by decide,by decide,fun r H2 r0 r1 iO =>?_⟩⟩
  obtain⟨pb,pc⟩:=bx.aK n1.nn
  have Hq:=iO.old n1.at pb pc
  have QP:r.toNat<ax.length:=by show r.toNat<11;omega
  have hw:ax[r.toNat]? = some ax[r.toNat]:=Jc QP
  refine .inl ⟨pk,_,r,.str ax[r.toNat],rfl,rfl,bq.of Hq,fM r0 (by rw[Jk,hw];rfl),qn _ _ ⟨_,_,rfl,Ul _,((Step.same bx n1.same).trans iO).more (by omega)⟩⟩
 rintro v H1 ⟨wd,t1',rfl,hwd,oX⟩
 have lo1:=oX.le
 have S3:=oX.ub
 refine gn ?_
 refine⟨_,rfl,b,c,t1',4,rfl,oX.bx,by omega,by omega,by decide,by decide,fun r2 H2 r20 r21 iO =>?_⟩
 obtain⟨c2,e2,hx⟩:=yb r20 r21
 refine .inr (.inr ⟨_,_,c2,rfl,rfl,by decide,e2,?_⟩)
 refine⟨_,rfl,b,c,_,4,rfl,iO.bx,by omega,by omega,by decide,by decide,fun r3 H3 r30 r31 dw =>?_⟩
 obtain⟨c3,e3,hy⟩:=yb r30 r31
 refine .inr (.inr ⟨_,_,c3,rfl,rfl,by decide,e3,_,_,rfl,gn ?_⟩)
 have dw:=oX.trans (iO.trans dw)
 have Ou:=dw.le
 have N7:=dw.ub
 clear oX iO lo1 S3 r20 r21 r30 r31 e2 e3
 generalize (⟨#[c2]⟩:Str)=x at hx ⊢
 generalize (⟨#[c3]⟩:Str)=y at hy ⊢
 generalize t1'+1+1=t3 at dw Ou N7
 rcases CW wd hwd with rfl|hw|hw|rfl|rfl|hw
 ·-- set
  refine⟨_,rfl,.inl ⟨rfl,_,rfl,pB ?_⟩⟩
  refine⟨_,rfl,_,rfl,_,rfl,b,c,_,256,rfl,dw.bx,by omega,by omega,by decide,by decide,fun r4 H4 r40 r41 gz =>?_⟩
  refine⟨_,rfl,b,c,_,9,rfl,gz.bx,by omega,by omega,by decide,by decide,fun r5 H5 r50 r51 cj =>?_⟩
  have cj:=dw.trans (gz.trans cj)
  refine⟨r5.toNat,by rw[Y2 r50];rfl,by omega,_,_,rfl,rfl,by show 3<=sizeLine;decide,fun l H6 n6 =>?_⟩
  obtain⟨lb,lc⟩:=cj.bx.aK n6.nn
  have jf:=cj.cX n6
  refine⟨_,rfl,b,c,_,3,rfl,jf.bx,by omega,by omega,by decide,by decide,fun r7 H7 r70 r71 iZ =>?_⟩
  have N9:=iZ.old n6.at lb lc
  have iZ:=jf.trans iZ
  have p9:2^r5.toNat<=2^8:=Nat.pow_le_pow_right (by decide) (by omega)
  have e9:(2:Int)^r5.toNat=((2^r5.toNat:Nat):Int):=by push_cast;rfl
  have p0:0<2^r5.toNat:=Nat.two_pow_pos _
  obtain⟨n,hn,en⟩:∃n:Nat,n<=255/\([V.int r4,V.int (2^r5.toNat-1),V.int 0]:List V)[r7.toNat]? = some (.int (n:Nat)):=by
   have:r7=0∨r7=1∨r7=2:=by omega
   rcases this with rfl|rfl|rfl
   ·exact⟨r4.toNat,by omega,by rw[Y2 r40];rfl⟩
   ·refine⟨2^r5.toNat-1,by omega,?_⟩
    rw[e9,show((2^r5.toNat:Nat):Int)-1=((2^r5.toNat-1:Nat):Int) by omega];rfl
   ·exact⟨0,by decide,rfl⟩
  refine .inl ⟨l,_,r7,.int (n:Nat),rfl,rfl,bq.of N9,fM r70 en,by show 3<=sizeLine;decide,fun p H8 n8 =>?_⟩
  have gX:=iZ.cX n8
  refine q p "set" [.sp x,.nu n] _ _ ⟨⟨_,Js,rfl,rfl⟩,fun a ha =>?_⟩ n8.at (iZ.bx.aK n8.nn).1 (iZ.bx.aK n8.nn).2 (gX.more (by omega))
  simp only[Jr,Uk,or_false] at ha
  rcases ha with rfl|rfl
  ·exact hx
  ·exact hn
 ·-- add,take
  have ns:(wd == "set")=false:=(by decide +kernel:∀w∈(["add", "take"]:List Str),(w == "set")=false) _ hw
  have nc:(["add", "take"]:List Str).contains wd=true:=(by decide +kernel:∀w∈(["add", "take"]:List Str),(["add", "take"]:List Str).contains w=true) _ hw
  refine⟨_,rfl,.inl ⟨rfl,_,rfl,eF ?_ ns⟩⟩
  refine⟨_,rfl,by show 2<=sizeLine;decide,fun t4 H4 n4=>⟨t4,(["add", "take"]:List Str).map V.str,rfl,.inr (bF.of n4.at),rfl,rfl,_,rfl,DU ?_ nc⟩⟩
  refine⟨_,rfl,_,rfl,_,rfl,by show 3<=sizeLine;decide,fun p H8 n8 =>?_⟩
  have gz:=dw.cX n4
  have gX:=gz.cX n8
  refine q p wd [.sp x,.sp y] _ _ ⟨?_,fun a ha =>?_⟩ n8.at (gz.bx.aK n8.nn).1 (gz.bx.aK n8.nn).2 (gX.more (by omega))
  ·simp only[Jr,Uk,or_false] at hw
   rcases hw with rfl|rfl
   ·exact⟨("add",["spot", "spot"]),by simp,rfl,rfl⟩
   ·exact⟨("take",["spot", "spot"]),by simp,rfl,rfl⟩
  ·simp only[Jr,Uk,or_false] at ha
   rcases ha with rfl|rfl
   ·exact hx
   ·exact hy
 ·-- tell,ask
  have ns:(wd == "set")=false:=(by decide +kernel:∀w∈(["tell", "ask"]:List Str),(w == "set")=false) _ hw
  have na:(["add", "take"]:List Str).contains wd=false:=(by decide +kernel:∀w∈(["tell", "ask"]:List Str),(["add", "take"]:List Str).contains w=false) _ hw
  have nc:(["tell", "ask"]:List Str).contains wd=true:=(by decide +kernel:∀w∈(["tell", "ask"]:List Str),(["tell", "ask"]:List Str).contains w=true) _ hw
  refine⟨_,rfl,.inl ⟨rfl,_,rfl,eF ?_ ns⟩⟩
  refine⟨_,rfl,by show 2<=sizeLine;decide,fun t4 H4 n4=>⟨t4,(["add", "take"]:List Str).map V.str,rfl,.inr (bF.of n4.at),rfl,rfl,_,rfl,DP ?_ na⟩⟩
  refine⟨_,rfl,by show 2<=sizeLine;decide,fun t5 H5 n5=>⟨t5,(["tell", "ask"]:List Str).map V.str,rfl,.inr (bF.of n5.at),rfl,rfl,_,rfl,DU ?_ nc⟩⟩
  refine⟨_,rfl,_,rfl,by show 2<=sizeLine;decide,fun p H8 n8 =>?_⟩
  have cj:=(dw.cX n4).cX n5
  have gX:=cj.cX n8
  refine q p wd [.sp x] _ _ ⟨?_,fun a ha =>?_⟩ n8.at (cj.bx.aK n8.nn).1 (cj.bx.aK n8.nn).2 (gX.more (by omega))
  ·simp only[Jr,Uk,or_false] at hw
   rcases hw with rfl|rfl
   ·exact⟨("tell",["spot"]),by simp,rfl,rfl⟩
   ·exact⟨("ask",["spot"]),by simp,rfl,rfl⟩
  ·rw[J0.mp ha]
   exact hx
 ·-- stop
  refine⟨_,rfl,.inl ⟨rfl,_,rfl,eF ?_⟩⟩
  refine⟨_,rfl,by show 2<=sizeLine;decide,fun t4 H4 n4=>⟨t4,(["add", "take"]:List Str).map V.str,rfl,.inr (bF.of n4.at),rfl,rfl,_,rfl,DP ?_⟩⟩
  refine⟨_,rfl,by show 2<=sizeLine;decide,fun t5 H5 n5=>⟨t5,(["tell", "ask"]:List Str).map V.str,rfl,.inr (bF.of n5.at),rfl,rfl,_,rfl,DP ?_⟩⟩
  refine⟨_,rfl,.inl ⟨rfl,_,rfl,pB ?_⟩⟩
  refine⟨_,rfl,by show 1<=sizeLine;decide,fun p H8 n8 =>?_⟩
  have cj:=(dw.cX n4).cX n5
  have gX:=cj.cX n8
  exact q p "stop" [] _ _ ⟨⟨("stop",[]),by simp,rfl,rfl⟩,fun a ha=>nomatch ha⟩ n8.at (cj.bx.aK n8.nn).1 (cj.bx.aK n8.nn).2 (gX.more (by omega))
 ·-- skip
  refine⟨_,rfl,.inl ⟨rfl,_,rfl,eF ?_⟩⟩
  refine⟨_,rfl,by show 2<=sizeLine;decide,fun t4 H4 n4=>⟨t4,(["add", "take"]:List Str).map V.str,rfl,.inr (bF.of n4.at),rfl,rfl,_,rfl,DP ?_⟩⟩
  refine⟨_,rfl,by show 2<=sizeLine;decide,fun t5 H5 n5=>⟨t5,(["tell", "ask"]:List Str).map V.str,rfl,.inr (bF.of n5.at),rfl,rfl,_,rfl,DP ?_⟩⟩
  refine⟨_,rfl,.inl ⟨rfl,_,rfl,eF ?_⟩⟩
  have cj:=(dw.cX n4).cX n5
  refine⟨_,rfl,.inl ⟨rfl,_,rfl,pB ?_⟩⟩
  refine⟨_,rfl,_,rfl,b,c,_,8,rfl,cj.bx,by omega,by omega,by decide,by decide,fun r7 H7 r70 r71 iZ =>?_⟩
  have iZ:=cj.trans iZ
  refine⟨by show 2<=sizeLine;decide,fun p H8 n8 =>?_⟩
  have gX:=iZ.cX n8
  refine q p "skip" [.ma r7.toNat] _ _ ⟨⟨("skip",["many"]),by simp,rfl,rfl⟩,fun a ha =>?_⟩ ?_ (iZ.bx.aK n8.nn).1 (iZ.bx.aK n8.nn).2 (gX.more (by omega))
  ·rw[J0.mp ha]
   show r7.toNat<=7
   omega
  ·show H8 p=some (.tup [.str "skip",.int (r7.toNat:Nat)])
   rw[Y2 r70]
   exact n8.at
 ·-- jumps
  have ns:∀w∈gI,(w == "set")=false/\(["add", "take"]:List Str).contains w=false/\(["tell", "ask"]:List Str).contains w=false/\(w == "stop")=false/\(w == "skip")=false:=by decide +kernel
  obtain⟨k1,k2,k3,k4,k5⟩:=ns _ hw
  refine⟨_,rfl,.inl ⟨rfl,_,rfl,eF ?_ k1⟩⟩
  refine⟨_,rfl,by show 2<=sizeLine;decide,fun t4 H4 n4=>⟨t4,(["add", "take"]:List Str).map V.str,rfl,.inr (bF.of n4.at),rfl,rfl,_,rfl,DP ?_ k2⟩⟩
  refine⟨_,rfl,by show 2<=sizeLine;decide,fun t5 H5 n5=>⟨t5,(["tell", "ask"]:List Str).map V.str,rfl,.inr (bF.of n5.at),rfl,rfl,_,rfl,DP ?_ k3⟩⟩
  refine⟨_,rfl,.inl ⟨rfl,_,rfl,eF ?_ k4⟩⟩
  refine⟨_,rfl,.inl ⟨rfl,_,rfl,eF ?_ k5⟩⟩
  have cj:=(dw.cX n4).cX n5
  obtain⟨kk,ekk⟩:∃kk:Nat,kk=if pG wd=true then Fo.dz else Fo.near:=⟨_,rfl⟩
  have kb:2<=kk/\kk<=16:=by rw[ekk];split<;>omega
  obtain⟨r1,r2,r3,hl,_⟩:=(hP.same cj.sm).ex
  have hl:=Hv.seq hl
  refine⟨_,rfl,_,rfl,wd,rfl,fun H6 s6 =>.inr ⟨pG wd,rfl,.inl ⟨_,_,rfl,rfl,.inl ⟨lp,_,_,.int (kk:Nat),rfl,rfl,s6.seq hl,?_,?_⟩⟩⟩⟩
  ·rw[ekk]
   cases pG wd<;>rfl
  have jf:=cj.trans (Step.same cj.bx s6)
  refine⟨_,_,rfl,rfl,kk-1,?_,by omega,gn ?_⟩
  ·show[V.int ((kk:Int)-1)]=[V.int ((kk-1:Nat):Int)]
   rw[show(kk:Int)-1=((kk-1:Nat):Int) by omega]
  have NC:(2:Int)^(kk-1)<=32768:=by
   have:2^(kk-1)<=2^15:=Nat.pow_le_pow_right (by decide) (by omega)
   have e:(2:Int)^(kk-1)=((2^(kk-1):Nat):Int):=by push_cast;rfl
   omega
  have h1:(0:Int)<2^(kk-1):=Int.pow_pos (by decide)
  generalize (2:Int)^(kk-1)=hf at NC h1 ⊢
  have Wl:=jf.le
  have V2:=jf.ub
  refine⟨_,rfl,_,rfl,.inl ⟨_,_,rfl,rfl,.inl ⟨by decide,by decide⟩,b,c,_,2*hf,rfl,jf.bx,by omega,by omega,by omega,by omega,fun r7 H7 r70 r71 iZ =>?_⟩⟩
  have iZ:=jf.trans iZ
  refine⟨_,rfl,_,_,rfl,rfl,_,rfl,_,_,rfl,rfl,_,rfl,_,_,rfl,rfl,_,rfl,_,rfl,_,rfl,.inl ⟨_,_,rfl,rfl,.inl ⟨by omega,by omega⟩,?_⟩⟩
  refine⟨_,rfl,_,_,rfl,rfl,_,_,rfl,rfl,_,rfl,.inl ⟨_,_,rfl,rfl,.inl ⟨by omega,by omega⟩,by show 7<=sizeLine;decide,fun l H8 n8=>gn ?_⟩⟩
  obtain⟨lb,lc⟩:=iZ.bx.aK n8.nn
  have gX:=iZ.cX n8
  have UT:=gX.ub
  have W7:=gX.le
  refine⟨_,rfl,_,rfl,b,c,_,7,rfl,gX.bx,by omega,by omega,by decide,by decide,fun r9 H9 r90 r91 jS =>?_⟩
  have Pa:=jS.old n8.at lb lc
  have jS:=gX.trans jS
  have hz:z=0∨z=1:=by omega
  obtain⟨d,hd,ed⟩:∃d:Int,d.natAbs<=1000000/\([V.int (r7-hf),V.int (0-hf),V.int (hf-1),V.int 0,V.int (-1),V.int (hf*(z:Nat)),V.int ((0-hf-1)*(z:Nat))]:List V)[r9.toNat]? = some (.int d):=by
   have:r9=0∨r9=1∨r9=2∨r9=3∨r9=4∨r9=5∨r9=6:=by omega
   rcases this with rfl|rfl|rfl|rfl|rfl|rfl|rfl
   ·exact⟨_,by omega,rfl⟩
   ·exact⟨_,by omega,rfl⟩
   ·exact⟨_,by omega,rfl⟩
   ·exact⟨_,by decide,rfl⟩
   ·exact⟨_,by decide,rfl⟩
   ·exact⟨_,by rcases hz with rfl|rfl<;>omega,rfl⟩
   ·exact⟨_,by rcases hz with rfl|rfl<;>omega,rfl⟩
  refine .inl ⟨l,_,r9,.int d,rfl,rfl,bq.of Pa,fM r90 ed,gn ?_⟩
  have fin:∀{p:Addr} {H0 H':Hp} {as:List Arg},Step b c H H0 t (t3+1+1) 8->gY H0 p (.tup (.str wd::as.map Arg.v)) H'->(∃q∈iV,wd=q.1/\as.map Arg.kind=q.2)->(∀a∈as,a.ok)->Q (.ref p) H':=fun s n h1 h2=>q _ wd _ _ _ ⟨h1,h2⟩ n.at (s.bx.aK n.nn).1 (s.bx.aK n.nn).2 ((s.cX n).more (by omega))
  have jS:=jS.more (M:=8) (by omega)
  clear ns k1 k2 k3 k4 k5
  refine⟨_,rfl,by show 2<=sizeLine;decide,fun t10 H10 n10=>⟨t10,(["jump", "farjump"]:List Str).map V.str,rfl,.inr (bF.of n10.at),rfl,rfl,_,rfl,?_⟩⟩
  have jk:=jS.cX n10
  simp only[Jr,Uk,or_false] at hw
  rcases hw with rfl|rfl|rfl|rfl
  ·refine DU ⟨_,rfl,_,rfl,by show 2<=sizeLine;decide,fun p H11 n11=>fin (as:=[.ne d]) jk n11 ⟨("jump",["near"]),by simp,rfl,rfl⟩ fun a ha =>?_⟩
   rw[J0.mp ha];exact hd
  ·refine DP ⟨_,rfl,_,rfl,_,rfl,by show 3<=sizeLine;decide,fun p H11 n11=>fin (as:=[.sp x,.ne d]) jk n11 ⟨("zero",["spot", "near"]),by simp,rfl,rfl⟩ fun a ha =>?_⟩
   simp only[Jr,Uk,or_false] at ha
   rcases ha with rfl|rfl
   ·exact hx
   ·exact hd
  ·refine DU ⟨_,rfl,_,rfl,by show 2<=sizeLine;decide,fun p H11 n11=>fin (as:=[.fa d]) jk n11 ⟨("farjump",["far"]),by simp,rfl,rfl⟩ fun a ha =>?_⟩
   rw[J0.mp ha];exact hd
  ·refine DP ⟨_,rfl,_,rfl,_,rfl,by show 3<=sizeLine;decide,fun p H11 n11=>fin (as:=[.sp x,.fa d]) jk n11 ⟨("farzero",["spot", "far"]),by simp,rfl,rfl⟩ fun a ha =>?_⟩
   simp only[Jr,Uk,or_false] at ha
   rcases ha with rfl|rfl
   ·exact hx
   ·exact hd
end
noncomputable def Ee:Option Str->PyData
 | some x =>.str x
 | none =>.tuple [.str "far",.int 0]
theorem j1.same {K:Ja}{CF:Addr}{H H':Hp}{m:Addr}{F:Fb}(h:j1 K CF H m F)(s:ar H H'):j1 K CF H' m F:=gB.same h s
def sQ (K:Ja)(C:Addr):Sp:=fun vs H Q _=>∃(e dx:Addr),vs=[.ref e]/\H e=some (kB e (.ref C) (some dx))/\H dx=some (.xd [("row",.int 0)])/\∀v H',ar H H'->Den K H' (.tuple [.str "far",.int 0]) v->Q v H'
def oy (K:Ja)(CF:Addr):Sp:=fun vs H Q _=>yf fun(m p:Addr) (F:Fb) (w:Str) (as:List Arg)=>vs=[.ref m,.ref p]/\j1 K CF H m F/\tj F/\xq w as/\bF K H p (.str w::as.map Arg.v)/\∀v H',ar H H'->Den K H' (Ee (eG F w as)) v->Q v H'
section
variable {P:Program}{w:World}{K:Ja}{mg:Str->Option Value}{base:Heap}{f:Addr}{fd:FuncData}{C CF cO c1 c2 c3 c4 c5 c6 c7 gi:Addr}{Qc:FuncData}
theorem da:aB ["_law_caught", "_law_told_here", "_law_word"] ["_law_caught"] (ak (top iH)):=⟨rfl,rfl,rfl,by decide +kernel,rfl,by decide +kernel,by decide +kernel⟩
theorem C3 (F:bU K "_law_class" "_law_class" (top iH) f fd)(T:Nm mg)(gQ:mg "ValueError" = none)(dC:mg "OddError" = some (.ref cO))(gf:mg "TooFar" = some (.ref C))(ly:mg "BadText" = some (.ref c1))(oV:mg "BadRow" = some (.ref c2))(mN:mg "NoName" = some (.ref c3))(lC:mg "NoPlace" = some (.ref c4))(jt:mg "NoTarget" = some (.ref c5))(fZ:mg "NoForm" = some (.ref c6))(lx:mg "TooFull" = some (.ref c7))
  (O:iC K C) (S:ja K C "row") (kO:∀D∈[c1,c2,c3,c4,c5,c6,c7],Ub K (.ref C) (.ref D)=some false) (kV:Ub K (.ref C) (.type "ValueError")=some true) (kD:Ub K (.ref C) (.ref cO)=some true) :
  bh P w K mg base fw 1 f fd ["_law_caught"] (sQ K C):=by
 refine F.ok da (fun vs H Q E h =>?_) (fun cH A outer s H vs Q E hr h =>?_)
 ·obtain⟨e,dx,rfl,_⟩:=h
  rfl
 obtain⟨e,dx,rfl,h0,DY,q⟩:=h
 have eC:=hr.units
 have kk:∀{D:Addr},D∈[c1,c2,c3,c4,c5,c6,c7]->Ub K (.ref C) (.ref D)=some false:=fun h=>kO _ h
 refine⟨_,(af (aA (i:=1) da.nd rfl (Or.inl rfl) (gr (aa (ao (pA K) rfl T.n_isinstance (by rfl) (aa (pv 0) (aa (bW rfl lx) ae))) (aa (ao (pA K) rfl T.n_isinstance (by rfl) (aa (pv 0) (aa (bW rfl lC) ae))) (aa (ao (pA K) rfl T.n_isinstance (by rfl) (aa (pv 0) (aa (bW rfl mN) ae))) ae)))))
  (af (aA (i:=1) da.nd rfl (Or.inl rfl) (aD cI (pv 1) (gr (aa (ao (pA K) rfl T.n_isinstance (by rfl) (aa (pv 0) (aa (bW rfl ly) ae))) (aa (ao (pA K) rfl T.n_isinstance (by rfl) (aa (pv 0) (aa (bW rfl fZ) ae))) (aa (ao (pA K) rfl T.n_isinstance (by rfl) (aa (pv 0) (aa (bW rfl gf) ae))) ae))))))
  (af (aA (i:=1) da.nd rfl (Or.inl rfl) (aD cI (pv 1) (gr (aa (ao (pA K) rfl T.n_isinstance (by rfl) (aa (pv 0) (aa (bW rfl jt) ae))) (aa (ao (pA K) rfl T.n_isinstance (by rfl) (aa (pv 0) (aa (bW rfl oV) ae))) ae)))))
  (af (bt (PW.pt (je (aI (Kk K eC) (tU K PySem.F.plainAttrs_list PySem.F.slot_list_count PySem.F.type_list_count Ia (pv 1) (aa j5 ae)) ah (aM _)) (je (cR (bR (ao (pA K) rfl T.n_isinstance (by rfl) (aa (pv 0) (aa (bW rfl dC) ae))))) (iP (cR (bR (ao (pA K) rfl T.n_isinstance (by rfl) (aa (pv 0) (aa (bC rfl gQ (by rfl) (v := .ty "ValueError") rfl) ae))))))))) (ag (av (fh (aa au (aa cS ae))))) aF)
  (af (aA (i:=2) da.nd rfl (Or.inl rfl) (bA (gW K) (tU K PySem.F.plainAttrs_str PySem.F.slot_str_split PySem.F.type_str_split vG au (aa au ae)) (tU K PySem.F.plainAttrs_list PySem.F.slot_list_index PySem.F.type_list_index JL (pv 1) (aa j5 ae)) (fun _ _=>rfl)))
  (af (bt (aI (o9 K eC) (pv 2) au (aM _)) (ag (av (fh (aa (pv 2) (aa (nW K (pv 0)) ae))))) aF)
  (af (bt (aI (o9 K eC) (pv 2) au (aM _)) (ag (av (fh (aa (pv 2) (aa (nW K (pv 0)) ae))))) aF)
  (ag (av (fh (aa (pv 2) (aa (fX (aI (o9 K eC) (pv 2) au (aM _)) (nW K (pv 0)) cS) ae)))))))))))),?_⟩
 refine⟨_,rfl,e,C,some dx,_,_,false,rfl,h0,O,rfl,kk (by simp),_,rfl,e,C,some dx,_,_,false,rfl,h0,O,rfl,kk (by simp),_,rfl,e,C,some dx,_,_,false,rfl,h0,O,rfl,kk (by simp),by show 3<=sizeLine;decide,fun l1 H2 n2=>gn ?_⟩
 have h2:=n2.same _ _ h0
 refine⟨_,rfl,_,rfl,e,C,some dx,_,_,false,rfl,h2,O,rfl,kk (by simp),_,rfl,e,C,some dx,_,_,false,rfl,h2,O,rfl,kk (by simp),_,rfl,e,C,some dx,_,_,true,rfl,h2,O,rfl,Bw,by show 3<=sizeLine;decide,fun l2 H3 n3 =>?_⟩
 have h3:=n3.same _ _ h2
 refine .inr (.inr ⟨l1,l2,_,_,rfl,rfl,n3.same _ _ n2.at,n3.at,by show 6<=sizeLine;decide,fun l3 H4 n4=>gn ?_⟩)
 have h4:=n4.same _ _ h3
 refine⟨_,rfl,_,rfl,e,C,some dx,_,_,false,rfl,h4,O,rfl,kk (by simp),_,rfl,e,C,some dx,_,_,false,rfl,h4,O,rfl,kk (by simp),by show 2<=sizeLine;decide,fun l4 H5 n5 =>?_⟩
 have h5:=n5.same _ _ h4
 refine .inr (.inr ⟨l3,l4,_,_,rfl,rfl,n5.same _ _ n4.at,n5.at,by show 8<=sizeLine;decide,fun l5 H6 n6=>gn ?_⟩)
 have h6:=n6.same _ _ h5
 have s6:ar H H6:=n2.same.trans (n3.same.trans (n4.same.trans (n5.same.trans n6.same)))
 have WS:=s6 _ _ DY
 refine⟨_,rfl,.inl ⟨rfl,_,bq.of n6.at⟩,l5,[false,false,false,false,false,true,false,false],rfl,rfl,n6.at,.inl ⟨rfl,_,rfl,bD ?_⟩⟩
 refine⟨_,rfl,e,C,some dx,_,_,true,rfl,h6,O,rfl,kD,_,rfl,bD ⟨_,rfl,e,C,some dx,_,_,true,rfl,h6,O,rfl,kV,_,rfl,bD ?_⟩⟩
 dsimp only[bZ]
 have GI:Txt.split (Str.ofString "full place name text form far target row") (Str.ofString " ")=(["full", "place", "name", "text", "form", "far", "target", "row"]:List Str):=by decide +kernel
 have sl:(Str.ofString " ").length≠0:=by decide +kernel
 refine⟨rfl,_,_,rfl,rfl,sl,by decide +kernel,by rw[GI];decide,fun p H7 n7 =>?_⟩
 rw[GI] at n7
 refine⟨_,rfl,.inl ⟨rfl,_,bq.of (n7.same _ _ n6.at)⟩,l5,[false,false,false,false,false,true,false,false],5,rfl,rfl,n7.same _ _ n6.at,rfl,fun m hm =>?_,?_⟩
 ·match m,hm with
  | 0,_=>exact fun z=>nomatch z
  | 1,_=>exact fun z=>nomatch z
  | 2,_=>exact fun z=>nomatch z
  | 3,_=>exact fun z=>nomatch z
  | 4,_=>exact fun z=>nomatch z
 refine .inl ⟨p,_,_,.str "far",rfl,rfl,bq.of n7.at,rfl,gn ?_⟩
 have h7:=n7.same _ _ h6
 have UU:=n7.same _ _ WS
 refine⟨_,rfl,.inl ⟨rfl,_,rfl,eF ?_⟩⟩
 refine⟨_,rfl,.inl ⟨rfl,_,rfl,eF ?_⟩⟩
 refine⟨_,rfl,_,rfl,.inl ⟨rfl,_,rfl,pB ?_⟩⟩
 refine⟨_,rfl,e,C,dx,_,.int 0,rfl,h7,UU,rfl,O,S,.inl ⟨_,rfl⟩,by show 2<=sizeLine;decide,fun tq H8 n8=>q _ H8 (s6.trans (n7.same.trans n8.same)) ?_⟩
 exact DQ n8.at (di AY (di Fw uc))
theorem cV:aB ["_law_form_here", "_law_bare", "_law_found", "_law_caught", "error"] ["_law_form_here", "_law_bare"] (ak (top jD)):=⟨rfl,rfl,rfl,by decide +kernel,rfl,by decide +kernel,by decide +kernel⟩
theorem An (F:bU K "_law_told" "_law_told" (top jD) f fd)(T:Nm mg)(dC:mg "OddError" = some (.ref cO))(PJ:PySem.W.exmOne K (.ref C) (.ref cO)=some true)(wk:xD P w K mg base 5 "put_bare" ["form", "bare"] (Ka K CF C))(ud:Fn P w K mg base 1 "_law_class" ["_law_caught"] (sQ K C)):
  bh P w K mg base fw 6 f fd ["_law_form_here", "_law_bare"] (oy K CF):=by
 refine F.ok cV (fun vs H Q E h =>?_) (fun cH A outer s H vs Q E hr h =>?_)
 ·obtain⟨m,p,Fo,wd,as,rfl,_⟩:=h
  rfl
 obtain⟨m,p,Fo,wd,as,rfl,fo,fr,ba,hp,q⟩:=h
 have eC:=hr.units
 refine⟨_,(af (xo (fh (aa cS (aa cS ae))) (tupK K 2 rfl (aY (aQ (i:=2) cV.nd rfl (Or.inl rfl)) (aY (aQ (i:=3) cV.nd rfl (Or.inl rfl)) cY))))
  (af (FQ (j:=4) rfl rfl cV.nd rfl rfl rfl dC (fun _ _ _=>(ag (aA (i:=2) cV.nd rfl (Or.inl rfl) (Ij (wk.mono (by first|decide|exact Je _|omega)) hr rfl (aa (pv 0) (aa (pv 1) ae)))))) (fun _=>(ag (aA (i:=3) cV.nd rfl (Or.inl rfl) (pv 4)))))
  (ag (av (fX (aI Dh (pv 3) cS (aM _)) (pv 2) (aG (ud.mono (by decide)) hr rfl (aa (pv 3) ae))))))),?_⟩
 refine⟨by show 2<=sizeLine;decide,fun t0 H0 n0=>⟨t0,_,rfl,bF.of n0.at,rfl,_,_,rfl,_,_,rfl,rfl,?_⟩⟩
 dsimp only
 have Dw:=n0.same.cQ hp
 have UK:=fo.same n0.same
 refine gH (t:=GS _ _ _ _ _) (fun σ H'=>(∃x:Str,σ=[some (.ref m),some (.ref p),some (.str x),some .non,none]/\eG Fo wd as=some x/\ar H0 H')∨(∃(e dx:Addr),σ=[some (.ref m),some (.ref p),some .non,some (.ref e),none]/\eG Fo wd as=none/\ar H0 H'/\H' e=some (kB e (.ref C) (some dx))/\H' dx=some (.xd [("row",.int 0)]))) (fun Nx nx =>?_) ?_
 ·refine⟨fun cls d H'=>∃(dx:Addr),cls = .ref C/\d=some dx/\eG Fo wd as=none/\ar H0 H'/\H' dx=some (.xd [("row",.int 0)]),?_,?_⟩
  ·refine⟨rfl,_,rfl,_,rfl,m,p,Fo,wd,as,rfl,UK,fr,ba,Dw,?_⟩
   cases ep:eG Fo wd as with
   | some x=>exact fun H' s'=>gn (nx _ _ (.inl ⟨x,rfl,ep,s'⟩))
   | none=>exact fun ex H' s' hx=>⟨ex,rfl,rfl,rfl,s',hx⟩
  ·rintro cls d H' ⟨dx,rfl,rfl,hb,sm,hx⟩
   refine⟨PJ,fun e he =>?_⟩
   have DY:upd H' e (kB e (.ref C) (some dx)) dx=some (.xd [("row",.int 0)]):=by rw[aj (aw hx he)];exact hx
   exact⟨_,rfl,gn (nx _ _ (.inr ⟨e,dx,rfl,hb,sm.trans (bQ he _),ay,DY⟩))⟩
 ·rintro σ H1 (⟨x,rfl,he,s1⟩|⟨e,dx,rfl,he,s1,h0,DY⟩)
  ·refine⟨_,rfl,.inl ⟨rfl,_,rfl,bJ ?_⟩⟩
   refine⟨_,rfl,q _ H1 (n0.same.trans s1) ?_⟩
   rw[he]
   exact AY
  ·refine⟨_,rfl,.inl ⟨rfl,_,rfl,bD ?_⟩⟩
   refine⟨_,rfl,e,dx,rfl,h0,DY,fun v H' s2 hd=>q _ H' (n0.same.trans (s1.trans s2)) ?_⟩
   rw[he]
   exact hd
end
noncomputable def Co:Value->Str
 | .str x _=>x
 | _ => "?"
theorem qF {Pm:Params}{P:Program}{w:World}:∀{l:List DictEntry},PySem.W.KeysLit Pm l->Pairs (PySem.strKind P w) l (l.map fun e=>(Co e.key,e.val))
 | [],_ =>.nil
 | e::l,h=>by
  obtain⟨⟨x,t,e1,_⟩,h2⟩:=h
  refine .cons ?_ rfl (qF h2)
  show(PySem.strKind P w).is (Co e.key) e.key=true
  rw[e1]
  exact PySem.strKind_is P w x t
theorem vi {l:List DictEntry}:(l.map fun e=>(Co e.key,e.val)).map (·.1)=l.map fun e=>Co e.key:=by rw[Yn];rfl
def yk (K:Ja):Sp:=fun vs H Q _=>∃(a:Addr) (ns:List Int),vs=[.ref a]/\bq K H a (ns.map V.int)/\ns.length<=63/\∀H',Q (.bl true) H'
theorem A0 {K:Ja}{H:Hp}{nz sD qW:List (Str×Str)}{near dz:Int}{v1 v2 v3 v4 v5:V}(g:Good3 nz sD qW near dz)(h:aN K H [aH nz,aH sD,aH qW,.int near,.int dz] [v1,v2,v3,v4,v5]):tI K H v1 v2 v3 v4 v5 (aH nz) (aH sD) (aH qW) (.int near) (.int dz):=by
 have at':∀(i:Nat) d v,([aH nz,aH sD,aH qW,.int near,.int dz]:List PyData)[i]? = some d->([v1,v2,v3,v4,v5]:List V)[i]? = some v->Den K H d v:=fun i d v e1 e2=>jF h e1 e2
 have ft:∀{bk:List (Str×Str)},(∀q∈bk,jR q.1=true/\jR q.2=true/\q.1.length<=8/\q.2.length<=11)->bk.length<=11->G8 (aH bk):=fun{bk} sh hl=>
  G8.of (w:=243) (dp:=2) (((xS (w:=22) fun q hq=>by obtain⟨a,b,c,d⟩:=sh q hq;exact⟨a,b,by omega⟩).mono (by omega) (Je _)).list) (by decide) (by decide) (by show(bk.map fm).length<=60;rw[Jd];omega)
 have h1:=g.l1
 have h2:=g.l2
 have h3:=g.l3
 exact⟨at' 0 _ _ rfl rfl,at' 1 _ _ rfl rfl,at' 2 _ _ rfl rfl,at' 3 _ _ rfl rfl,at' 4 _ _ rfl rfl,ft (fun q hq=>g.sz q (.inl hq)) (by omega),ft (fun q hq=>g.sz q (.inr (.inl hq))) (by omega),ft (fun q hq=>g.sz q (.inr (.inr hq))) (by omega)⟩
theorem wA (bk:List (Str×Str)):K8 (GU (aH bk))=true:=by
 show xE (bk.map fm)=true
 induction bk with
 | nil=>rfl
 | cons q bk ih=>
  show(K8 (fm q)&&xE (bk.map fm))=true
  rw[ih]
  rfl
theorem Aa {K:Ja}{CF:Addr}{H:Hp}{b c m:Addr}{t:Int}{F:Fb}(bx:Bx H b c t)(mb:m≠b)(mc:m≠c)(h:j1 K CF H m F):j1 K CF (fY H b c) m F:=by
 obtain⟨dx,w1,w2,w3,w4,w5,e,h1,h2,h3,h4,h5⟩:=h
 exact⟨dx,w1,w2,w3,w4,w5,by rw[cJ mb mc];exact e,Den.hide bx (wA F.b1) h1,Den.hide bx (wA F.b2) h2,Den.hide bx (wA F.b3) h3,Den.hide bx rfl h4,Den.hide bx rfl h5⟩
theorem Kg {F:Fb}(fr:tj F){w:Str}{as:List Arg}(b:xq w as):(Ee (eG F w as)).depth<8/\(Ee (eG F w as)).weight<=1000000:=by
 unfold eG
 cases e:cq F as with
 | none=>
  show(PyData.tuple [.str "far",.int 0]).depth<8/\(PyData.tuple [.str "far",.int 0]).weight<=1000000
  exact⟨by decide +kernel,by decide +kernel⟩
 | some ts=>
  obtain⟨tl,tsum⟩:=kC fr b.ok e
  obtain⟨q,hq,_,ek⟩:=b.pt
  have al:=(jN q hq).2
  rw[<-ek,Jd] at al
  have jl:=nC (aW F.b1 w::ts)
  rw[Jy,Ys] at jl
  have c1:=fr.c1 w
  show(PyData.str (Txt.join "" (aW F.b1 w::ts))).depth<8/\(PyData.str (Txt.join "" (aW F.b1 w::ts))).weight<=1000000
  have c:(Txt.join "" (aW F.b1 w::ts)).cps.size=(Txt.join "" (aW F.b1 w::ts)).length:=rfl
  simp only[PyData.weight,PyData.depth,c]
  omega
section
variable {P:Program}{w:World}{K:Ja}{mg:Str->Option Value}{base:Heap}{f:Addr}{fd:FuncData}{C CF:Addr}
theorem gK:aB ["_law_script", "_law_state", "_law_turn", "_law_parts_here", "_law_form_here", "_law_more", "_law_bare", "_law_due"] ["_law_script"] (ak (top gj)):=⟨rfl,rfl,rfl,by decide +kernel,rfl,by decide +kernel,by decide +kernel⟩
theorem JH (F:bU K "law" "law" (top gj) f fd)(T:Nm mg)(uh:Fn P w K mg base 1 "_law_begin" ["_law_script"] (rQ K))(vb:Fn P w K mg base 4 "_law_parts" ["_law_state"] (Dk K))(wG:Fn P w K mg base 9 "_law_form" ["_law_parts_here"] (CL K CF))(lT:Fn P w K mg base 2 "_law_some_bare" ["_law_state", "_law_parts_here", "_law_beyond"] (Km K))(zk:Fn P w K mg base 2 "_law_put" ["_law_parts_here", "_law_bare"] (HJ K))(oH:Fn P w K mg base 6 "_law_told" ["_law_form_here", "_law_bare"] (oy K CF))(gM:Fn P w K mg base 8 "_law_same" ["_law_found", "_law_due"] (rV K 8)):
  bh P w K mg base fw 10 f fd ["_law_script"] (yk K):=by
 refine F.ok gK (fun vs H Q E h =>?_) (fun cH A outer s H vs Q E hr h =>?_)
 ·obtain⟨a,ns,rfl,_⟩:=h
  rfl
 obtain⟨a,ns,rfl,hS,hlen,q⟩:=h
 have eC:=hr.units
 refine⟨_,(af (aA (i:=1) gK.nd rfl (Or.inl rfl) (aG (uh.mono (by decide)) hr rfl (aa (pv 0) ae)))
  (af (fH PassesOwn.never rfl (eR rfl T.n_range (aa ah ae)) (aQ (i:=2) gK.nd rfl (Or.inl rfl)) (af (aA (i:=3) gK.nd rfl (Or.inl rfl) (aG (vb.mono (by decide)) hr rfl (aa (pv 1) ae)))
  (af (aA (i:=4) gK.nd rfl (Or.inl rfl) (aG (wG.mono (by decide)) hr rfl (aa (pv 3) ae)))
  (ag (fH PassesOwn.never rfl (eR rfl T.n_range (aa ah ae)) (aQ (i:=5) gK.nd rfl (Or.inl rfl)) (af (aA (i:=6) gK.nd rfl (Or.inl rfl) (aG (lT.mono (by decide)) hr rfl (aa (pv 1) (aa (pv 3) (aa ah ae)))))
  (af (aA (i:=7) gK.nd rfl (Or.inl rfl) (aG (zk.mono (by decide)) hr rfl (aa (pv 3) (aa (pv 6) ae))))
  (af (aA (i:=7) gK.nd rfl (Or.inl rfl) (fX (aI Dh (pv 7) cS (aM _)) (fh (aa au (aa ah ae))) (pv 7)))
  (ag (bt (PW.pt (je (cR (bR (aG (gM.mono (by decide)) hr rfl (aa (aG (oH.mono (by decide)) hr rfl (aa (pv 4) (aa (pv 6) ae))) (aa (pv 7) ae))))) (iP (cR (bR (aG (gM.mono (by decide)) hr rfl (aa (aG (oH.mono (by decide)) hr rfl (aa (pv 4) (aa (pv 6) ae))) (aa (pv 7) ae)))))))) (ag (av j5)) aF))))))))))
  (ag (av j5)))),?_⟩
 refine⟨_,rfl,a,ns,rfl,hS,hlen,fun b c H1 wJ hb hc sm1 =>?_⟩
 refine gn ?_
 dsimp only
 refine⟨3,rfl,by decide,by decide,?_⟩
 refine eQ (lo:=0) (n:=3) (fun i σ H'=>∃(t':Int) (x2 x3 x4 x5 x6 x7:Option V),σ=[some (.ref a),some (.ref b),x2,x3,x4,x5,x6,x7]/\Step b c H1 H' 0 t' (10000*i)) ⟨0,_,_,_,_,_,_,rfl,(Step.refl wJ).more (by omega)⟩ ?_ ?_
 ·rintro i σ H2 hi ⟨t2,x2,x3,x4,x5,x6,x7,rfl,iO⟩
  have Xk:=iO.ub
  have Xq:=iO.le
  refine⟨_,rfl,b,c,t2,rfl,iO.bx,by omega,by omega,fun l r1 r2 r3 nz sD qW near dz H3 t3 gd3 hl0 pI hD dw=>gn ?_⟩
  obtain⟨lb,lc⟩:=iO.bx.aK hl0
  have vt:fY H3 b c l=some (.lst [r1,r2,r3,.int near,.int dz]):=by rw[cJ lb lc];exact pI
  have Ti:aN K (fY H3 b c) [aH nz,aH sD,aH qW,.int near,.int dz] [r1,r2,r3,.int near,.int dz]:=di (jF (j:=0) hD rfl rfl) (di (jF (j:=1) hD rfl rfl) (di (jF (j:=2) hD rfl rfl) (di Fw (di Fw uc))))
  have dw:=iO.trans dw
  have fv:=A0 gd3 Ti
  refine⟨_,rfl,l,r1,r2,r3,.int near,.int dz,_,_,_,_,_,rfl,bq.of pI,⟨fv.e1.same fk,fv.e2.same fk,fv.e3.same fk,fv.e4.same fk,fv.e5.same fk,fv.f1,fv.f2,fv.f3⟩,gd3.why,fun m H4 s4 hm0 fo=>gn ?_⟩
  obtain⟨mb,mc⟩:=dw.bx.aK hm0
  have gz:=dw.trans (Step.same dw.bx s4)
  obtain⟨fr,en,ef⟩:=gd3.Wu
  rw[en,ef] at vt fo
  generalize hF:(⟨nz,sD,qW,near.toNat,dz.toNat⟩:Fb)=Fo at fr
  have fo:j1 K CF H4 m Fo:=by rw[<-hF];exact fo
  have fo:=Aa gz.bx mb mc fo
  have hP:nR K (fY H4 b c) l Fo:=by
   refine nR.same ?_ (ar.fY (b:=b) (c:=c) s4)
   rw[<-hF]
   exact⟨r1,r2,r3,bq.of vt,hD⟩
  clear hF fv gd3 en ef hD Ti vt pI
  have S2:=gz.ub
  have S9:=gz.le
  refine⟨20,rfl,by decide,by decide,?_⟩
  refine eQ (lo:=0) (n:=20) (fun j σ H'=>∃(t':Int) (x5 x6 x7:Option V),σ=[some (.ref a),some (.ref b),some (.int (0+i)),some (.ref l),some (.ref m),x5,x6,x7]/\Step b c H4 H' t3 t' (10*j)) ⟨t3,_,_,_,rfl,(Step.refl gz.bx).more (by omega)⟩ ?_ ?_
  ·rintro j σ H5 hj ⟨t5,x5,x6,x7,rfl,cj⟩
   have Tq:=cj.ub
   have SG:=cj.le
   refine⟨_,rfl,_,rfl,b,c,t5,l,Fo,1,rfl,by decide,cj.bx,by omega,by omega,hP.same cj.sm,fr,fun p wd as H6 t6 ba hp pb pc jf=>gn ?_⟩
   have jf:=cj.trans jf
   have VT:=(hP.same jf.sm).same fk
   have TC:=(fo.same jf.sm).same fk
   have hp:=bF.of (K:=K) hp
   refine⟨_,rfl,_,rfl,l,p,Fo,wd,as,rfl,VT,fr,ba,hp,fun H7 s7=>gn ?_⟩
   obtain⟨dk1,dk2⟩:=Kg fr ba
   dsimp only
   refine kZ (te:=QT _ _ _) (fun v H'=>ar H7 H'/\Den K H' (Ee (eG Fo wd as)) v) (fun Qn qn =>?_) ?_
   ·cases ep:eG Fo wd as with
    | none=>
     refine⟨_,rfl,.inl ⟨rfl,_,rfl,bJ ?_⟩⟩
     exact⟨by show 2<=sizeLine;decide,fun T H' n=>qn _ _ ⟨n.same,by rw[ep];exact DQ n.at (di AY (di Fw uc))⟩⟩
    | some x=>
     refine⟨_,rfl,.inl ⟨rfl,_,rfl,bD ?_⟩⟩
     exact⟨_,rfl,qn _ _ ⟨ar.refl _,by rw[ep];exact AY⟩⟩
   rintro v H8 ⟨s8,d8⟩
   have Mn:=s7.trans s8
   refine gn ?_
   refine⟨_,rfl,_,rfl,m,p,Fo,wd,as,rfl,TC.same Mn,fr,ba,Mn.cQ hp,fun u H9 s9 d9=>⟨_,rfl,u,v,_,rfl,d9,d8.same s9,dk1,dk2,fun H10 E1 =>?_⟩⟩
   have E1:=s9.trans E1
   refine⟨_,rfl,bD ?_⟩
   refine⟨_,rfl,_,rfl,m,p,Fo,wd,as,rfl,(TC.same Mn).same E1,fr,ba,E1.cQ (Mn.cQ hp),fun u2 H11 s11 d11=>⟨_,rfl,u2,v,_,rfl,d11,d8.same (E1.trans s11),dk1,dk2,fun H12 yK =>?_⟩⟩
   have yK:=s11.trans yK
   refine⟨_,rfl,bD ?_⟩
   exact⟨_,_,_,_,rfl,(jf.trans (Step.same jf.bx (Mn.trans (E1.trans yK)))).more (by omega)⟩
  ·rintro σ H5 ⟨t5,x5,x6,x7,rfl,cj⟩
   exact⟨_,_,_,_,_,_,_,rfl,(gz.trans cj).more (by omega)⟩
 ·rintro σ H2 ⟨t2,x2,x3,x4,x5,x6,x7,rfl,iO⟩
  exact q H2
end
theorem cf {α:Type}{P:List α->Prop}(h:P []):∀us:List α,us.length=0->P us:=fun us e=>Yw e▸h
theorem bb {α:Type}{P:List α->Prop}{n:Nat}(h:∀a (us:List α),us.length=n->P (a::us))(us:List α)(e:us.length=n+1):P us:=by
 cases us with|nil=>cases e|cons a us=>exact h a us (Nat.succ.inj e)
theorem all_mk {l:PySem.W.OpenLaw}{w:World}{K:Ja}{h:Heap}{mg:Str->Option Value}{fa f1 f2 f3 f4 f5 f6 f7 f8 f9 O0 Q9 Pr Pg QN Rc JW RO QC Q0 Sw OW Q6 O8 QM Sx Qh P8 RM RZ Qz R8 Px RL Qj Rl:Addr}(X:K.In h)(G:h.Ns mainGlobals mg)(Vx:mg "law" = some (.ref fa))
  {Vt:FuncData}
  {UP:FuncData}
  {Ws:FuncData}
  {UQ:FuncData}
  {WM:FuncData}
  {VY:FuncData}
  {Wi:FuncData}
  {V8:FuncData}
  {UD:FuncData}
  {O9:FuncData}
  {RI:FuncData}
  {Ql:FuncData}
  {Rw:FuncData}
  {Sd:FuncData}
  {RQ:FuncData}
  {RT:FuncData}
  {RA:FuncData}
  {P0:FuncData}
  {RV:FuncData}
  {PK:FuncData}
  {RS:FuncData}
  {QU:FuncData}
  {O2:FuncData}
  {Rv:FuncData}
  {QJ:FuncData}
  {PL:FuncData}
  {Qk:FuncData}
  {RJ:FuncData}
  {Q3:FuncData}
  {RY:FuncData}
  {Ph:FuncData}
  {Q2:FuncData}
  {Pu:FuncData}
  {QK:FuncData}
  {R5 Me:Option Addr} {RC:Array (Option Value)} {Sj N1 ML Ml Kn Mf:Value}
  {cz:Addr}
  {uT:Addr}
  {qi:Addr}
  {cc:Addr}
  {tV:Addr}
  {qy:Addr}
  {oU:Addr}
  {aV:Addr}
  {qt:Addr}
  {bP:Addr}
  {Rx:Tok}
  {Sz:Tok}
  {Qq:Tok}
  {My:Tok}
  {LR:Tok}
  {Lx:Tok}
  {PQ:Tok}
  {aS:Addr} {SW:List Value} {Wn:Nat} {W5:Array (Option Value)}
  {aZ:Addr} {Tw:List Value} {Xb:Nat} {UL:Array (Option Value)}
  {aJ:Addr} {SZ:List Value} {Vd:Nat} {WI:Array (Option Value)}
  {aP:Addr} {PB:Array DictEntry} {Wk:Nat}
  {Hb:Addr} {B6:List Value} {JV:Nat} {Kw:Array (Option Value)}
  {G4:Addr} {Cm:List Value} {Hu:Nat} {Kd:Array (Option Value)}
  {BJ:Addr} {yE:List Value} {EV:Nat} {EK:Array (Option Value)}
  {Dy:Addr} {yn:List Value} {FT:Nat} {Gq:Array (Option Value)}
  {GP:Addr} {BG:List Value} {HN:Nat} {IP:Array (Option Value)}
  {CC:Addr} {xN:List Value} {ER:Nat} {Eu:Array (Option Value)}
  {DI:Addr} {yz:List Value} {ES:Nat} {FL:Array (Option Value)}
  {C6:Addr} {xW:List Value} {GF:Nat} {EC:Array (Option Value)}
  {qu:Addr} {mP:List Value} {vP:Nat} {wZ:Array (Option Value)}
  {qC:Addr} {mT:List Value} {xJ:Nat} {wC:Array (Option Value)}
  {DL:Addr} {yC:List Value} {GB:Nat} {Eg:Array (Option Value)}
  {vQ:Addr} {tx wa:Str} {tG:List Value} {vg:Bool} {tF:List Str} {tw:List Value} {uA:Bool} {u7:Option Bool} {uR:Option Addr} {uV tK u6 ve ue:Option Value}
  {Cn:Addr} {zI CS:Str} {AR:List Value} {Ax:List Str} {zO:List Value} {AK:Bool} {Aj:Option Bool} {zq:Option Addr} {AX zD Ah A3 Ak:Option Value}
  {kA:Addr} {zh Ay:Option Addr} {AO:Array (Option Value)} {zf zJ AL ql y8:Value}
  {CG:Addr} {zB CD:Str} {zy:List Value} {zb:List Str} {zZ:List Value} {AJ:Bool} {Al:Option Bool} {zA:Option Addr} {zF Ai AM yX zS:Option Value}
  {jV:Addr} {Bf zQ:Option Addr} {Az:Array (Option Value)} {Av za Be pU zL:Value}
  {mQ:Addr} {FP:Value} {Ep FH:Option Addr} {FZ:Array (Option Value)} {FI FR E4 yo EF:Value}
  (a1:Jg K mainGlobals "made_of" = some (some (.ref f1))) (F1:bU K "made_of" "made_of" (top lD) f1 Vt)
  (a2:Jg K mainGlobals "is_name" = some (some (.ref f2))) (F2:bU K "is_name" "is_name" (top lh) f2 UP)
  (a3:Jg K mainGlobals "is_code" = some (some (.ref f3))) (F3:bU K "is_code" "is_code" (top kS) f3 Ws)
  (a4:Jg K mainGlobals "rest_of" = some (some (.ref f4))) (F4:bU K "rest_of" "rest_of" (top lE) f4 UQ)
  (a5:Jg K mainGlobals "is_number" = some (some (.ref f5))) (F5:bU K "is_number" "is_number" (top iu) f5 WM)
  (a6:Jg K mainGlobals "is_entry" = some (some (.ref f6))) (F6:bU K "is_entry" "is_entry" (top jP) f6 VY)
  (a7:Jg K mainGlobals "is_book" = some (some (.ref f7))) (F7:bU K "is_book" "is_book" (top kU) f7 Wi)
  (a8:Jg K mainGlobals "clash" = some (some (.ref f8))) (F8:bU K "clash" "clash" (top sN) f8 V8)
  (a9:Jg K mainGlobals "free" = some (some (.ref f9))) (F9:bU K "free" "free" (top xb) f9 UD)
  (Qd:Jg K mainGlobals "is_free_book_of" = some (some (.ref O0))) (N2:bU K "is_free_book_of" "is_free_book_of" (top dq) O0 O9)
  (RX:Jg K mainGlobals "far_is_shorter" = some (some (.ref Q9))) (LS:bU K "far_is_shorter" "far_is_shorter" (top dE) Q9 RI)
  (PX:Jg K mainGlobals "first_wrong" = some (some (.ref Pr))) (Mi:bU K "first_wrong" "first_wrong" (top fF) Pr Ql)
  (PH:Jg K mainGlobals "two_to" = some (some (.ref Pg))) (Lv:bU K "two_to" "two_to" (top nh) Pg Rw)
  (Sn:Jg K mainGlobals "figures_of" = some (some (.ref QN))) (LX:bU K "figures_of" "figures_of" (top gA) QN Sd)
  (QX:Jg K mainGlobals "is_reached" = some (some (.ref Rc))) (LC:bU K "is_reached" "is_reached" (top gw) Rc RQ)
  (Q1:Jg K mainGlobals "put_distance" = some (some (.ref JW))) (L9:bU K "put_distance" "put_distance" (top fe) JW RT)
  (Pw:Jg K mainGlobals "put_part" = some (some (.ref RO))) (Lo:bU K "put_part" "put_part" (top jQ) RO RA)
  (QW:Jg K mainGlobals "put_bare" = some (some (.ref QC))) (Nq:bU K "put_bare" "put_bare" (top jM) QC P0)
  (Qe:Jg K mainGlobals "_law_begin" = some (some (.ref Q0))) (L3:bU K "_law_begin" "_law_begin" (top hV) Q0 RV)
  (QI:Jg K mainGlobals "_law_take" = some (some (.ref Sw))) (Lg:bU K "_law_take" "_law_take" (top jE) Sw PK)
  (Ot:Jg K mainGlobals "_law_same" = some (some (.ref OW))) (Ma:bU K "_law_same" "_law_same" (top ju) OW RS)
  (Rp:Jg K mainGlobals "_law_mixed" = some (some (.ref Q6))) (M0:bU K "_law_mixed" "_law_mixed" (top ie) Q6 QU)
  (Sr:Jg K mainGlobals "_law_codes" = some (some (.ref O8))) (N3:bU K "_law_codes" "_law_codes" (top iI) O8 O2)
  (Ro:Jg K mainGlobals "_law_kinds" = some (some (.ref QM))) (NT:bU K "_law_kinds" "_law_kinds" (top iG) QM Rv)
  (QO:Jg K mainGlobals "_law_sizes" = some (some (.ref Sx))) (NL:bU K "_law_sizes" "_law_sizes" (top iD) Sx QJ)
  (Rh:Jg K mainGlobals "_law_parts" = some (some (.ref Qh))) (M3:bU K "_law_parts" "_law_parts" (top iw) Qh PL)
  (Rr:Jg K mainGlobals "_law_form" = some (some (.ref P8))) (NS:bU K "_law_form" "_law_form" (top jj) P8 Qk)
  (PM:Jg K mainGlobals "_law_figures" = some (some (.ref RM))) (LP:bU K "_law_figures" "_law_figures" (top fI) RM RJ)
  (Qt:Jg K mainGlobals "_law_power" = some (some (.ref RZ))) (LH:bU K "_law_power" "_law_power" (top iy) RZ Q3)
  (R0:Jg K mainGlobals "_law_far_word" = some (some (.ref Qz))) (Mm:bU K "_law_far_word" "_law_far_word" (top eU) Qz RY)
  (Pj:Jg K mainGlobals "_law_put" = some (some (.ref R8))) (Lb:bU K "_law_put" "_law_put" (top kT) R8 Ph)
  (P4:Jg K mainGlobals "_law_some_bare" = some (some (.ref Px))) (L4:bU K "_law_some_bare" "_law_some_bare" (top eB) Px Q2)
  (Pq:Jg K mainGlobals "_law_class" = some (some (.ref RL))) (Nf:bU K "_law_class" "_law_class" (top iH) RL Pu)
  (Ra:Jg K mainGlobals "_law_told" = some (some (.ref Qj))) (L8:bU K "_law_told" "_law_told" (top jD) Qj QK)
  (Py:Jg K mainGlobals "law" = some (some (.ref Rl))) (QB:K.lookup Rl=some ⟨Sj,R5,.func (Yr "law" "law" (dv (top gj)) (cB (top gj)) (ak (top gj)) .none N1 ML Ml Me Kn Mf),RC⟩) (QH:Y9 K Kn "law" = true) (RG:Ur K (.ref Rl)=true)
  (ia:Jg K mainGlobals "OddError" = some (some (.ref cz)))
  (kM:Jg K mainGlobals "BadRow" = some (some (.ref uT)))
  (jJ:Jg K mainGlobals "BadText" = some (some (.ref qi)))
  (kR:Jg K mainGlobals "NoForm" = some (some (.ref cc)))
  (kK:Jg K mainGlobals "NoName" = some (some (.ref tV)))
  (jK:Jg K mainGlobals "NoPlace" = some (some (.ref qy)))
  (iJ:Jg K mainGlobals "NoTarget" = some (some (.ref oU)))
  (lz:Jg K mainGlobals "TooFar" = some (some (.ref aV)))
  (jA:Jg K mainGlobals "TooFull" = some (some (.ref qt)))
  (rn:Jg K mainGlobals "Form" = some (some (.ref bP)))
  (Th:Ub K (.ref aV) (.ref qi)=some false)
  (TN:Ub K (.ref aV) (.ref uT)=some false)
  (Tl:Ub K (.ref aV) (.ref tV)=some false)
  (T4:Ub K (.ref aV) (.ref qy)=some false)
  (SH:Ub K (.ref aV) (.ref oU)=some false)
  (Tb:Ub K (.ref aV) (.ref cc)=some false)
  (Tc:Ub K (.ref aV) (.ref qt)=some false)
  (Tx:Ub K (.ref aV) (.type "ValueError")=some true)
  (S7:Ub K (.ref aV) (.ref cz)=some true)
  (Qs:iC K aV)
  (QZ:PySem.W.exmOne K (.ref aV) (.ref cz)=some true)
  (Rk:Jg K mainGlobals "LONGEST_NAME" = some (some (.int 8 Rx)))
  (Qp:Jg K mainGlobals "SMALL_LETTERS" = some (some (.str qU Sz)))
  (Sf:Jg K mainGlobals "SIGNS" = some (some (.str nX Qq)))
  (OI:Jg K mainGlobals "LEAST_NEAR" = some (some (.int 2 My)))
  (OG:Jg K mainGlobals "MOST_NEAR" = some (some (.int 8 LR)))
  (Og:Jg K mainGlobals "MOST_FAR" = some (some (.int 16 Lx)))
  (Ru:Jg K mainGlobals "SKIP_FIGURES" = some (some (.int 3 PQ)))
  (QE:Jg K mainGlobals "SPOT_NAMES" = some (some (.ref aS)))
  (PV:K.lookup aS=some ⟨.type "tuple",none,.seq SW.toArray Wn,W5⟩)
  (R6:Vals [V.str "a",V.str "b",V.str "c",V.str "d"] SW)
  (OC:Jg K mainGlobals "SIZE_NAMES" = some (some (.ref aZ)))
  (OL:K.lookup aZ=some ⟨.type "tuple",none,.seq Tw.toArray Xb,UL⟩)
  (N6:Vals [V.str "none",V.str "one",V.str "two",V.str "three",V.str "four",V.str "five",V.str "six",V.str "seven",V.str "eight"] Tw)
  (Sb:Jg K mainGlobals "JUMPS" = some (some (.ref aJ)))
  (P7:K.lookup aJ=some ⟨.type "tuple",none,.seq SZ.toArray Vd,WI⟩)
  (Pn:Vals [V.str "jump",V.str "zero"] SZ)
  (Ox:Jg K mainGlobals "PARTS" = some (some (.ref aP)))
  (OB:K.lookup aP=some ⟨.type "dict",none,.dict PB Wk,#[]⟩)
  (MU:PySem.W.KeysLit w.params PB.toList)
  (OM:PB.toList.map (fun e=>Co e.key)=ax)
  (RR:(aP==sysModules)=false)
  (rX:Jg K aP "set" = some (some (.ref Hb)))
  (v8:K.lookup Hb=some ⟨.type "tuple",none,.seq B6.toArray JV,Kw⟩)
  (vZ:Vals [V.str "spot",V.str "number"] B6)
  (sL:Jg K aP "add" = some (some (.ref G4)))
  (wH:K.lookup G4=some ⟨.type "tuple",none,.seq Cm.toArray Hu,Kd⟩)
  (xG:Vals [V.str "spot",V.str "spot"] Cm)
  (mE:Jg K aP "take" = some (some (.ref BJ)))
  (rS:K.lookup BJ=some ⟨.type "tuple",none,.seq yE.toArray EV,EK⟩)
  (sJ:Vals [V.str "spot",V.str "spot"] yE)
  (oJ:Jg K aP "tell" = some (some (.ref Dy)))
  (rq:K.lookup Dy=some ⟨.type "tuple",none,.seq yn.toArray FT,Gq⟩)
  (rp:Vals [V.str "spot"] yn)
  (rm:Jg K aP "ask" = some (some (.ref GP)))
  (wX:K.lookup GP=some ⟨.type "tuple",none,.seq BG.toArray HN,IP⟩)
  (wR:Vals [V.str "spot"] BG)
  (nN:Jg K aP "jump" = some (some (.ref CC)))
  (sI:K.lookup CC=some ⟨.type "tuple",none,.seq xN.toArray ER,Eu⟩)
  (si:Vals [V.str "near"] xN)
  (mX:Jg K aP "zero" = some (some (.ref DI)))
  (rD:K.lookup DI=some ⟨.type "tuple",none,.seq yz.toArray ES,FL⟩)
  (sU:Vals [V.str "spot",V.str "near"] yz)
  (oE:Jg K aP "stop" = some (some (.ref C6)))
  (rO:K.lookup C6=some ⟨.type "tuple",none,.seq xW.toArray GF,EC⟩)
  (rh:Vals [] xW)
  (ib:Jg K aP "farjump" = some (some (.ref qu)))
  (jx:K.lookup qu=some ⟨.type "tuple",none,.seq mP.toArray vP,wZ⟩)
  (jz:Vals [V.str "far"] mP)
  (iM:Jg K aP "farzero" = some (some (.ref qC)))
  (jO:K.lookup qC=some ⟨.type "tuple",none,.seq mT.toArray xJ,wC⟩)
  (jL:Vals [V.str "spot",V.str "far"] mT)
  (oC:Jg K aP "skip" = some (some (.ref DL)))
  (sR:K.lookup DL=some ⟨.type "tuple",none,.seq yC.toArray GB,Eg⟩)
  (qX:Vals [V.str "many"] yC)
  (iU:K.lookup cz=some (excClassObj tx wa cz vQ tG ([.type "ValueError",.type "Exception",.type "BaseException",.type "object"]) vg tF tw uA u7 uR uV tK u6 ve ue "ValueError.__new__"))
  (iX:PySem.W.excIn K cz [.type "ValueError",.type "Exception",.type "BaseException",.type "object"] "ValueError.__new__" = true)
  (mr:K.lookup cc=some (excClassObj zI CS cc Cn AR (.ref cz::[.type "ValueError",.type "Exception",.type "BaseException",.type "object"]) true Ax zO AK Aj zq AX zD Ah A3 Ak "ValueError.__new__"))
  (mJ:Ur K (.ref cc)=true)
  (kW:Ue K (.ref cc) "__init__" = some (some (.ref kA)))
  (kr:K.lookup kA=some ⟨.type "function",zh,.func (Yr "__init__" "NoForm.__init__" (dv (inClass (top fR) 0)) (cB (inClass (top fR) 0)) (ak (inClass (top fR) 0)) .none zf zJ AL Ay ql y8),AO⟩)
  (oQ:Y9 K ql "NoForm.__init__" = true)
  (nO:Ur K (.ref kA)=true)
  (m5:Ue K (.ref cc) "__setattr__" = some (some (.builtin "object.__setattr__")))
  (nK:Ue K (.ref cc) "why" = some none)
  (og:PySem.W.mroIn K cc (.type "object")=some true)
  (l8:K.lookup aV=some (excClassObj zB CD aV CG zy (.ref cz::[.type "ValueError",.type "Exception",.type "BaseException",.type "object"]) true zb zZ AJ Al zA zF Ai AM yX zS "ValueError.__new__"))
  (mI:Ur K (.ref aV)=true)
  (kQ:Ue K (.ref aV) "__init__" = some (some (.ref jV)))
  (jT:K.lookup jV=some ⟨.type "function",Bf,.func (Yr "__init__" "TooFar.__init__" (dv (inClass (top fW) 0)) (cB (inClass (top fW) 0)) (ak (inClass (top fW) 0)) .none Av za Be zQ pU zL),Az⟩)
  (nE:Y9 K pU "TooFar.__init__" = true)
  (mK:Ur K (.ref jV)=true)
  (ox:Ue K (.ref aV) "__setattr__" = some (some (.builtin "object.__setattr__")))
  (oA:Ue K (.ref aV) "row" = some none)
  (mS:PySem.W.mroIn K aV (.type "object")=some true)
  (Ik:PySem.W.plainGet K bP Str.empty=true)
  (I0:PySem.W.hasDictIn K bP=true)
  (Ko:PySem.W.plainOver K bP=true)
  (JS:Ue K (.ref bP) "__setattr__" = some (some (.builtin "object.__setattr__")))
  (JR:PySem.W.makesIn K bP=true)
  (HF:Ur K (.ref bP)=true)
  (jC:Ue K (.ref bP) "kinds" = some none)
  (jh:Ue K (.ref bP) "spots" = some none)
  (jg:Ue K (.ref bP) "sizes" = some none)
  (kP:Ue K (.ref bP) "near" = some none)
  (mL:Ue K (.ref bP) "far" = some none)
  (sV:Ue K (.ref bP) "__init__" = some (some (.ref mQ)))
  (qT:K.lookup mQ=some ⟨FP,Ep,.func (Yr "__init__" "Form.__init__" (dv (inClass (top la) 0)) (cB (inClass (top la) 0)) (ak (inClass (top la) 0)) .none FI FR E4 FH yo EF),FZ⟩)
  (rF:Y9 K yo "Form.__init__" = true)
  (rZ:Ur K (.ref mQ)=true)
  (sr:PySem.W.isFn K (.ref mQ)=true)
  (y0:Jg K mainGlobals "sorted" = some none)
  (y1:Jg K mainGlobals "dict" = some none)
  (y2:Jg K mainGlobals "ValueError" = some none)
  (z0:Jg K mainGlobals "len" = some none) (z1:Jg K mainGlobals "range" = some none) (z2:Jg K mainGlobals "max" = some none) (z3:Jg K mainGlobals "min" = some none) (z4:Jg K mainGlobals "sum" = some none) (z5:Jg K mainGlobals "all" = some none) (z6:Jg K mainGlobals "any" = some none) (z7:Jg K mainGlobals "list" = some none) (z8:Jg K mainGlobals "tuple" = some none) (z9:Jg K mainGlobals "int" = some none) (O5:Jg K mainGlobals "str" = some none) (Pe:Jg K mainGlobals "bool" = some none) (O3:Jg K mainGlobals "zip" = some none) (Rm:Jg K mainGlobals "enumerate" = some none) (Pp:Jg K mainGlobals "isinstance" = some none) (Q4:Jg K mainGlobals "divmod" = some none) :
  ∃fd:FuncData,(∀(s:Shared) (v:Value),BindsTo s fd ⟨[v],[]⟩ [("_law_script",v)])/\∀base:Heap,K.In base->base.Ns mainGlobals mg->bh l.prog w K mg base fw 10 fa fd ["_law_script"] (yk K):=by
 have e:=Vx.symm.trans (Jh X G Py)
 cases e
 have T:Nm mg:=⟨Ua X G z0,Ua X G z1,Ua X G z2,Ua X G z3,Ua X G z4,Ua X G z5,Ua X G z6,Ua X G z7,Ua X G z8,Ua X G z9,Ua X G O5,Ua X G Pe,Ua X G O3,Ua X G Rm,Ua X G Pp,Ua X G Q4⟩
 have kd:=Ua X G y0
 have cn:=Ua X G y1
 have gQ:=Ua X G y2
 have eY:=Jh X G Rk
 have d7:=Jh X G Qp
 have sx:=Jh X G Sf
 have kj:=Jh X G OI
 have lI:=Jh X G OG
 have mF:=Jh X G Og
 have eX:=Jh X G Ru
 have sy:=Jh X G Sb
 have hJ:∀H,bF K H aJ [V.str "jump",V.str "zero"]:=cU P7 Pn (by decide)
 have Xg:Mo K l.prog w mg aP aS aZ My LR Lx:=⟨Jh X G Ox,Jh X G QE,Jh X G OC,⟨_,_,_,⟨OB,MU,qF MU,by rw[vi,OM];decide +kernel,RR⟩,vi.trans OM⟩,cU PV R6 (by decide),cU OL N6 (by decide),Jh X G OI,Jh X G OG,Jh X G Og⟩
 have Bu:ja K cc "why":=tT mr m5 nK og
 have nJ:IB K cc kA:=⟨⟨_,_,_,_,_,_,_,_,_,_,_,_,_,_,_,_,mr,tH iU iX⟩,kW,⟨_,kr,rfl⟩,mJ⟩
 have qD:=aU (st:=inClass (top fR) 0) kr oQ nO
 have mR:=qD.binds (ps:=["self", "why"]) fun _ _ _ _ _ _=>bb fun _=>bb fun _=>cf rfl
 have uq:ja K aV "row":=tT l8 ox oA mS
 have mO:IB K aV jV:=⟨⟨_,_,_,_,_,_,_,_,_,_,_,_,_,_,_,_,l8,tH iU iX⟩,kQ,⟨_,jT,rfl⟩,mI⟩
 have qa:=aU (st:=inClass (top fW) 0) jT nE mK
 have om:=qa.binds (ps:=["self", "row"]) fun _ _ _ _ _ _=>bb fun _=>bb fun _=>cf rfl
 have xR:=aU (st:=inClass (top la) 0) qT rF rZ
 have JY:=xR.binds (ps:=["self", "kinds", "spots", "sizes", "near", "far"]) fun _ _ _ _ _ _=>bb fun _=>bb fun _=>bb fun _=>bb fun _=>bb fun _=>bb fun _=>cf rfl
 have MF:Fh K bP:=⟨⟨Ik,I0,Ko,JS⟩,jC,jh,jg,kP,mL⟩
 have WO:Mk K bP mQ:=⟨JR,sV,sr,HF⟩
 have de:=Jh X G OC
 have hZ:∀H,bF K H aZ (bp.map V.str):=cU OL N6 (by decide)
 have LY:Lm K w mg aP:=⟨Jh X G Ox,⟨_,_,OB,MU⟩,fun q hq=>by
  simp only[iV,Jr,Uk,or_false] at hq
  rcases hq with rfl|rfl|rfl|rfl|rfl|rfl|rfl|rfl|rfl|rfl|rfl
  ·exact⟨_,rX,cU (xs:=[V.str "spot",V.str "number"]) v8 vZ (by decide)⟩
  ·exact⟨_,sL,cU (xs:=[V.str "spot",V.str "spot"]) wH xG (by decide)⟩
  ·exact⟨_,mE,cU (xs:=[V.str "spot",V.str "spot"]) rS sJ (by decide)⟩
  ·exact⟨_,oJ,cU (xs:=[V.str "spot"]) rq rp (by decide)⟩
  ·exact⟨_,rm,cU (xs:=[V.str "spot"]) wX wR (by decide)⟩
  ·exact⟨_,nN,cU (xs:=[V.str "near"]) sI si (by decide)⟩
  ·exact⟨_,mX,cU (xs:=[V.str "spot",V.str "near"]) rD sU (by decide)⟩
  ·exact⟨_,oE,cU (xs:=[]) rO rh (by decide)⟩
  ·exact⟨_,ib,cU (xs:=[V.str "far"]) jx jz (by decide)⟩
  ·exact⟨_,iM,cU (xs:=[V.str "spot",V.str "far"]) jO jL (by decide)⟩
  ·exact⟨_,oC,cU (xs:=[V.str "many"]) sR qX (by decide)⟩⟩
 have dC:=Jh X G ia
 have oV:=Jh X G kM
 have ly:=Jh X G jJ
 have fZ:=Jh X G kR
 have mN:=Jh X G kK
 have lC:=Jh X G jK
 have jt:=Jh X G iJ
 have gf:=Jh X G lz
 have lx:=Jh X G jA
 have wV:=Jh X G rn
 have k1:=F1.kp
 have b1:=F1.binds (ps:=["text", "signs"]) fun _ _ _ _ _ _=>bb fun _=>bb fun _=>cf rfl
 have k2:=F2.kp
 have b2:=F2.binds (ps:=["thing"]) fun _ _ _ _ _ _=>bb fun _=>cf rfl
 have k3:=F3.kp
 have b3:=F3.binds (ps:=["thing"]) fun _ _ _ _ _ _=>bb fun _=>cf rfl
 have k4:=F4.kp
 have b4:=F4.binds (ps:=["one", "other"]) fun _ _ _ _ _ _=>bb fun _=>bb fun _=>cf rfl
 have k5:=F5.kp
 have b5:=F5.binds (ps:=["thing"]) fun _ _ _ _ _ _=>bb fun _=>cf rfl
 have k6:=F6.kp
 have b6:=F6.binds (ps:=["thing"]) fun _ _ _ _ _ _=>bb fun _=>cf rfl
 have k7:=F7.kp
 have b7:=F7.binds (ps:=["thing"]) fun _ _ _ _ _ _=>bb fun _=>cf rfl
 have k8:=F8.kp
 have b8:=F8.binds (ps:=["book"]) fun _ _ _ _ _ _=>bb fun _=>cf rfl
 have k9:=F9.kp
 have b9:=F9.binds (ps:=["book"]) fun _ _ _ _ _ _=>bb fun _=>cf rfl
 have M7:=N2.kp
 have W9:=N2.binds (ps:=["thing", "names"]) fun _ _ _ _ _ _=>bb fun _=>bb fun _=>cf rfl
 have WR:=LS.kp
 have VR:=LS.binds (ps:=["kinds", "near", "far"]) fun _ _ _ _ _ _=>bb fun _=>bb fun _=>bb fun _=>cf rfl
 have UO:=Mi.kp
 have Wj:=Mi.binds (ps:=["kinds", "spots", "sizes", "near", "far"]) fun _ _ _ _ _ _=>bb fun _=>bb fun _=>bb fun _=>bb fun _=>bb fun _=>cf rfl
 have zY:=Lv.kp
 have Wy:=Lv.binds (ps:=["power"]) fun _ _ _ _ _ _=>bb fun _=>cf rfl
 have V1:=LX.kp
 have WX:=LX.binds (ps:=["number", "many"]) fun _ _ _ _ _ _=>bb fun _=>bb fun _=>cf rfl
 have VJ:=LC.kp
 have VI:=LC.binds (ps:=["distance", "figures"]) fun _ _ _ _ _ _=>bb fun _=>bb fun _=>cf rfl
 have Wo:=L9.kp
 have Vz:=L9.binds (ps:=["distance", "figures"]) fun _ _ _ _ _ _=>bb fun _=>bb fun _=>cf rfl
 have Wm:=Lo.kp
 have US:=Lo.binds (ps:=["form", "part", "value"]) fun _ _ _ _ _ _=>bb fun _=>bb fun _=>bb fun _=>cf rfl
 have Wq:=Nq.kp
 have W2:=Nq.binds (ps:=["form", "bare"]) fun _ _ _ _ _ _=>bb fun _=>bb fun _=>cf rfl
 have Ve:=L3.kp
 have Va:=L3.binds (ps:=["_law_script"]) fun _ _ _ _ _ _=>bb fun _=>cf rfl
 have Vy:=Lg.kp
 have VC:=Lg.binds (ps:=["_law_state", "_law_many"]) fun _ _ _ _ _ _=>bb fun _=>bb fun _=>cf rfl
 have SJ:=Ma.kp
 have Tt:=Ma.binds (ps:=["_law_found", "_law_due"]) fun _ _ _ _ _ _=>bb fun _=>bb fun _=>cf rfl
 have T7:=M0.kp
 have VO:=M0.binds (ps:=["_law_state", "_law_some"]) fun _ _ _ _ _ _=>bb fun _=>bb fun _=>cf rfl
 have WZ:=N3.kp
 have VN:=N3.binds (ps:=["_law_state", "_law_many", "_law_most"]) fun _ _ _ _ _ _=>bb fun _=>bb fun _=>bb fun _=>cf rfl
 have WJ:=NT.kp
 have VD:=NT.binds (ps:=[]) fun _ _ _ _ _ _=>cf rfl
 have WB:=NL.kp
 have UG:=NL.binds (ps:=[]) fun _ _ _ _ _ _=>cf rfl
 have Vo:=M3.kp
 have Vk:=M3.binds (ps:=["_law_state"]) fun _ _ _ _ _ _=>bb fun _=>cf rfl
 have Xe:=NS.kp
 have Vh:=NS.binds (ps:=["_law_parts_here"]) fun _ _ _ _ _ _=>bb fun _=>cf rfl
 have VB:=LP.kp
 have Xi:=LP.binds (ps:=["_law_number", "_law_many"]) fun _ _ _ _ _ _=>bb fun _=>bb fun _=>cf rfl
 have UW:=LH.kp
 have VU:=LH.binds (ps:=["_law_many"]) fun _ _ _ _ _ _=>bb fun _=>cf rfl
 have VE:=Mm.kp
 have Wt:=Mm.binds (ps:=["_law_word"]) fun _ _ _ _ _ _=>bb fun _=>cf rfl
 have Vm:=Lb.kp
 have VP:=Lb.binds (ps:=["_law_parts_here", "_law_bare"]) fun _ _ _ _ _ _=>bb fun _=>bb fun _=>cf rfl
 have VG:=L4.kp
 have UX:=L4.binds (ps:=["_law_state", "_law_parts_here", "_law_beyond"]) fun _ _ _ _ _ _=>bb fun _=>bb fun _=>bb fun _=>cf rfl
 have VZ:=Nf.kp
 have Vc:=Nf.binds (ps:=["_law_caught"]) fun _ _ _ _ _ _=>bb fun _=>cf rfl
 have UB:=L8.kp
 have UJ:=L8.binds (ps:=["_law_form_here", "_law_bare"]) fun _ _ _ _ _ _=>bb fun _=>bb fun _=>cf rfl
 have Vg:=aU (st:=top gj) QB QH RG
 refine⟨Yr "law" "law" (dv (top gj)) (cB (top gj)) (ak (top gj)) .none N1 ML Ml Me Kn Mf,fun s v =>.of_eq rfl,fun base hB hG =>?_⟩
 have nI:=pE (P:=l.prog) (w:=w) (mg:=mg) (base:=base) qD Bu
 have oW:=pq (P:=l.prog) (w:=w) (mg:=mg) (base:=base) qa uq
 have GW:Fn l.prog w K mg base 1 "made_of" ["text", "signs"] (qV):=⟨f1,_,FC F1 T,b1,k1,Jh X G a1⟩
 have R4:Fn l.prog w K mg base 2 "is_name" ["thing"] (kc K cC):=⟨f2,_,zw F2 T eY d7 GW,b2,k2,Jh X G a2⟩
 have R1:Fn l.prog w K mg base 2 "is_code" ["thing"] (kc K bN):=⟨f3,_,AQ F3 T sx GW,b3,k3,Jh X G a3⟩
 have Mr:Fn l.prog w K mg base 1 "rest_of" ["one", "other"] (rA):=⟨f4,_,Gp F4 T,b4,k4,Jh X G a4⟩
 have Pk:Fn l.prog w K mg base 1 "is_number" ["thing"] (vA K):=⟨f5,_,CY F5 T,b5,k5,Jh X G a5⟩
 have O4:Fn l.prog w K mg base 3 "is_entry" ["thing"] (kc K bj):=⟨f6,_,vR F6 T R4 R1,b6,k6,Jh X G a6⟩
 have Sm:Fn l.prog w K mg base 4 "is_book" ["thing"] (oP K):=⟨f7,_,yY F7 T O4,b7,k7,Jh X G a7⟩
 have V7:Fn l.prog w K mg base 2 "clash" ["book"] (qM K):=⟨f8,_,Nz F8 T Mr,b8,k8,Jh X G a8⟩
 have T6:Fn l.prog w K mg base 3 "free" ["book"] (vz K):=⟨f9,_,FE F9 T V7,b9,k9,Jh X G a9⟩
 have Sy:Fn l.prog w K mg base 5 "is_free_book_of" ["thing", "names"] (B3 K):=⟨O0,_,HG N2 T kd Sm T6,W9,M7,Jh X G Qd⟩
 have RD:Fn l.prog w K mg base 1 "far_is_shorter" ["kinds", "near", "far"] (CP K):=⟨Q9,_,Iw LS T cn sy hJ,VR,WR,Jh X G RX⟩
 have VX:Fn l.prog w K mg base 6 "first_wrong" ["kinds", "spots", "sizes", "near", "far"] (Kc K):=⟨Pr,_,MT Mi T Xg Sy Pk RD,Wj,UO,Jh X G PX⟩
 have Ly:Fn l.prog w K mg base 1 "two_to" ["power"] (lM):=⟨Pg,_,IE Lv T,Wy,zY,Jh X G PH⟩
 have MN:Fn l.prog w K mg base 1 "figures_of" ["number", "many"] (mD):=⟨QN,_,HV LX T,WX,V1,Jh X G Sn⟩
 have WU:Fn l.prog w K mg base 2 "is_reached" ["distance", "figures"] (Hs):=⟨Rc,_,LZ LC T Ly,VI,VJ,Jh X G QX⟩
 have Vn:xD l.prog w K mg base 3 "put_distance" ["distance", "figures"] (HI aV):=⟨JW,_,Lh L9 T gf mO oW om WU Ly MN,Vz,Wo,Jh X G Q1⟩
 have VM:xD l.prog w K mg base 4 "put_part" ["form", "part", "value"] (Kr K bP aV):=⟨RO,_,Nu Lo T MF cn de hZ eX MN Vn,US,Wm,Jh X G Pw⟩
 have T9:xD l.prog w K mg base 5 "put_bare" ["form", "bare"] (Ka K bP aV):=⟨QC,_,L5 Nq T MF cn LY VM,W2,Wq,Jh X G QW⟩
 have HM:Fn l.prog w K mg base 1 "_law_begin" ["_law_script"] (rQ K):=⟨Q0,_,CV L3 T,Va,Ve,Jh X G Qe⟩
 have Nb:Fn l.prog w K mg base 1 "_law_take" ["_law_state", "_law_many"] (vW):=⟨Sw,_,FO Lg T,VC,Vy,Jh X G QI⟩
 have OT:Fn l.prog w K mg base 1 "_law_take" ["_law_state", "_law_many"] (A7):=Fn.imp Nb (fun _ _ _ _ h=>Go h)
 have NI:∀n:Nat,Fn l.prog w K mg base (n+0) "_law_same" ["_law_found", "_law_due"] (rV K n):=fun n=>by
  induction n with
  | zero=>exact⟨OW,_,⟨fun vs H Q E h=>absurd h (by rintro⟨_,_,_,_,_,_,z,_⟩;exact absurd z (Nat.not_lt_zero _)),fun A outer s H args us vs Q E _ _ _ _ h=>absurd h (by rintro⟨_,_,_,_,_,_,z,_⟩;exact absurd z (Nat.not_lt_zero _))⟩,Tt,SJ,Jh X G Ot⟩
  | succ n ih=>exact⟨OW,_,Fg Ma T ih,Tt,SJ,Jh X G Ot⟩
 have MM:Fn l.prog w K mg base 2 "_law_mixed" ["_law_state", "_law_some"] (xV K):=⟨Q6,_,B1 M0 T OT,VO,T7,Jh X G Rp⟩
 have Ps:Fn l.prog w K mg base 3 "_law_codes" ["_law_state", "_law_many", "_law_most"] (Ct):=⟨O8,_,Kb N3 T OT MM,VN,WZ,Jh X G Sr⟩
 have Cy:Fn l.prog w K mg base 1 "_law_kinds" [] (lS ax):=⟨QM,_,Cf NT T,VD,WJ,Jh X G Ro⟩
 have CZ:Fn l.prog w K mg base 1 "_law_sizes" [] (lS bp):=⟨Sx,_,B4 NL T,UG,WB,Jh X G QO⟩
 have Rt:Fn l.prog w K mg base 4 "_law_parts" ["_law_state"] (Dk K):=⟨Qh,_,Dz M3 T cn Cy CZ OT MM Ps,Vk,Vo,Jh X G Rh⟩
 have VH:xD l.prog w K mg base 9 "_law_form" ["_law_parts_here"] (IA K bP cc):=⟨P8,_,MI NS T WO wV (Mw (P:=l.prog) (w:=w) (mg:=mg) (base:=base) xR T MF fZ nJ nI mR VX) JY,Vh,Xe,Jh X G Rr⟩
 have Pl:Fn l.prog w K mg base 9 "_law_form" ["_law_parts_here"] (CL K bP):=xD.calm VH (fun _ _ _ _ h=>JD h)
 have LW:Fn l.prog w K mg base 1 "_law_figures" ["_law_number", "_law_many"] (mD):=⟨RM,_,FX LP T,Xi,VB,Jh X G PM⟩
 have GO:Fn l.prog w K mg base 1 "_law_power" ["_law_many"] (lM):=⟨RZ,_,Gy LH T,VU,UW,Jh X G Qt⟩
 have Nh:Fn l.prog w K mg base 1 "_law_far_word" ["_law_word"] (sf):=⟨Qz,_,EA Mm T,Wt,VE,Jh X G R0⟩
 have WK:Fn l.prog w K mg base 2 "_law_put" ["_law_parts_here", "_law_bare"] (HJ K):=⟨R8,_,Ln Lb T cn CZ LW GO Nh,VP,Vm,Jh X G Pj⟩
 have UY:Fn l.prog w K mg base 2 "_law_some_bare" ["_law_state", "_law_parts_here", "_law_beyond"] (Km K):=⟨Px,_,E2 L4 T Cy OT GO Nh,UX,VG,Jh X G P4⟩
 have QD:Fn l.prog w K mg base 1 "_law_class" ["_law_caught"] (sQ K aV):=⟨RL,_,C3 Nf T gQ dC gf ly oV mN lC jt fZ lx Qs uq (fun D hD=>by simp at hD;rcases hD with rfl|rfl|rfl|rfl|rfl|rfl|rfl<;>assumption) (by assumption) (by assumption),Vc,VZ,Jh X G Pq⟩
 have MH:Fn l.prog w K mg base 6 "_law_told" ["_law_form_here", "_law_bare"] (oy K bP):=⟨Qj,_,An L8 T dC QZ T9 QD,UJ,UB,Jh X G Ra⟩
 exact JH Vg T HM Rt Pl UY WK MH (NI 8)
theorem walk {l:PySem.W.OpenLaw}{q:Program}{loose:List Str}{XP:(Str->Option Value)->Heap->Prop}{YP:World->Heap->Prop}{d:DefRec}{K:Params->Ja}(hn:l.most=some 63)(MR:d.params.defaults=[])
  (hY:∀(w:World) (h:Heap),YP w h->(K w.params).In h)
  (F:∀(w:World) (mg:Str->Option Value) (fa:Addr) (h:Heap),(K w.params).In h->h.Ns mainGlobals mg->mg d.name=some (.ref fa) ->
   ∃fd:FuncData,(∀(s:Shared) (u:Value),BindsTo s fd ⟨[u],[]⟩ [("_law_script",u)])/\∀base:Heap,(K w.params).In base->base.Ns mainGlobals mg->bh l.prog w (K w.params) mg base fw 10 fa fd ["_law_script"] (yk (K w.params))) :
  PySem.W.WalkO q loose XP YP l.row.toRowW d [] (fun f vs=>PySem.call f vs):=
 L2.Fj (n:=63) (k:=10) (x := "_law_script") (CX:=fun _=>fw) (sp:=fun w=>yk (K w.params)) hn (by decide) MR ⟨rfl,by decide,by decide,rfl⟩ hY F (fun _ _ a ns hl _ hS=>⟨a,ns,rfl,hS,hl,fun _=>rfl⟩) fun _ _ _ _ _ z=>z
end Z
open PySem PySem.W PyProof.Rows L2
set_option maxRecDepth 100000 in
set_option maxHeartbeats 0 in
theorem PySem.Challenge.cw_oddlong_k30_bare_rows_written_holds : PySem.Challenge.rw_oddlong_k30_bare_rows_written.Holds := by
  refine Z.EH ?hw ?hc
  (case hw => w_witness2)
  k_fill
  refine Z.walk (l := PySem.Challenge.rw_oddlong_k30_bare_rows_written) rfl rfl (fun w h Y => Y) ?F
  case F =>
    intro w mg fa h KX G hmg
    refine' Z.all_mk KX G hmg ?a1 ?F1 ?a2 ?F2 ?a3 ?F3 ?a4 ?F4 ?a5 ?F5 ?a6 ?F6 ?a7 ?F7 ?a8 ?F8 ?a9 ?F9 ?Qd ?N2 ?RX ?LS ?PX ?Mi ?PH ?Lv ?Sn ?LX ?QX ?LC ?Q1 ?L9 ?Pw ?Lo ?QW ?Nq ?Qe ?L3 ?QI ?Lg ?Ot ?Ma ?Rp ?M0 ?Sr ?N3 ?Ro ?NT ?QO ?NL ?Rh ?M3 ?Rr ?NS ?PM ?LP ?Qt ?LH ?R0 ?Mm ?Pj ?Lb ?P4 ?L4 ?Pq ?Nf ?Ra ?L8 ?Py ?QB ?QH ?RG ?ia ?kM ?jJ ?kR ?kK ?jK ?iJ ?lz ?jA ?rn ?Th ?TN ?Tl ?T4 ?SH ?Tb ?Tc ?Tx ?S7 ?Qs ?QZ ?Rk ?Qp ?Sf ?OI ?OG ?Og ?Ru ?QE ?PV ?R6 ?OC ?OL ?N6 ?Sb ?P7 ?Pn ?Ox ?OB ?MU ?OM ?RR ?rX ?v8 ?vZ ?sL ?wH ?xG ?mE ?rS ?sJ ?oJ ?rq ?rp ?rm ?wX ?wR ?nN ?sI ?si ?mX ?rD ?sU ?oE ?rO ?rh ?ib ?jx ?jz ?iM ?jO ?jL ?oC ?sR ?qX ?iU ?iX ?mr ?mJ ?kW ?kr ?oQ ?nO ?m5 ?nK ?og ?l8 ?mI ?kQ ?jT ?nE ?mK ?ox ?oA ?mS ?Ik ?I0 ?Ko ?JS ?JR ?HF ?jC ?jh ?jg ?kP ?mL ?sV ?qT ?rF ?rZ ?sr ?y0 ?y1 ?y2 ?z0 ?z1 ?z2 ?z3 ?z4 ?z5 ?z6 ?z7 ?z8 ?z9 ?O5 ?Pe ?O3 ?Rm ?Pp ?Q4
    (case a1 => k_is); (case F1 => (refine' aU ?l ?c ?k; (case l => k_is); (case c => k_is); (case k => k_is))); (case a2 => k_is); (case F2 => (refine' aU ?l ?c ?k; (case l => k_is); (case c => k_is); (case k => k_is))); (case a3 => k_is); (case F3 => (refine' aU ?l ?c ?k; (case l => k_is); (case c => k_is); (case k => k_is))); (case a4 => k_is); (case F4 => (refine' aU ?l ?c ?k; (case l => k_is); (case c => k_is); (case k => k_is)))
    (case a5 => k_is); (case F5 => (refine' aU ?l ?c ?k; (case l => k_is); (case c => k_is); (case k => k_is))); (case a6 => k_is); (case F6 => (refine' aU ?l ?c ?k; (case l => k_is); (case c => k_is); (case k => k_is))); (case a7 => k_is); (case F7 => (refine' aU ?l ?c ?k; (case l => k_is); (case c => k_is); (case k => k_is))); (case a8 => k_is); (case F8 => (refine' aU ?l ?c ?k; (case l => k_is); (case c => k_is); (case k => k_is)))
    (case a9 => k_is); (case F9 => (refine' aU ?l ?c ?k; (case l => k_is); (case c => k_is); (case k => k_is))); (case Qd => k_is); (case N2 => (refine' aU ?l ?c ?k; (case l => k_is); (case c => k_is); (case k => k_is))); (case RX => k_is); (case LS => (refine' aU ?l ?c ?k; (case l => k_is); (case c => k_is); (case k => k_is))); (case PX => k_is); (case Mi => (refine' aU ?l ?c ?k; (case l => k_is); (case c => k_is); (case k => k_is)))
    (case PH => k_is); (case Lv => (refine' aU ?l ?c ?k; (case l => k_is); (case c => k_is); (case k => k_is))); (case Sn => k_is); (case LX => (refine' aU ?l ?c ?k; (case l => k_is); (case c => k_is); (case k => k_is))); (case QX => k_is); (case LC => (refine' aU ?l ?c ?k; (case l => k_is); (case c => k_is); (case k => k_is))); (case Q1 => k_is); (case L9 => (refine' aU ?l ?c ?k; (case l => k_is); (case c => k_is); (case k => k_is)))
    (case Pw => k_is); (case Lo => (refine' aU ?l ?c ?k; (case l => k_is); (case c => k_is); (case k => k_is))); (case QW => k_is); (case Nq => (refine' aU ?l ?c ?k; (case l => k_is); (case c => k_is); (case k => k_is))); (case Qe => k_is); (case L3 => (refine' aU ?l ?c ?k; (case l => k_is); (case c => k_is); (case k => k_is))); (case QI => k_is); (case Lg => (refine' aU ?l ?c ?k; (case l => k_is); (case c => k_is); (case k => k_is)))
    (case Ot => k_is); (case Ma => (refine' aU ?l ?c ?k; (case l => k_is); (case c => k_is); (case k => k_is))); (case Rp => k_is); (case M0 => (refine' aU ?l ?c ?k; (case l => k_is); (case c => k_is); (case k => k_is))); (case Sr => k_is); (case N3 => (refine' aU ?l ?c ?k; (case l => k_is); (case c => k_is); (case k => k_is))); (case Ro => k_is); (case NT => (refine' aU ?l ?c ?k; (case l => k_is); (case c => k_is); (case k => k_is)))
    (case QO => k_is); (case NL => (refine' aU ?l ?c ?k; (case l => k_is); (case c => k_is); (case k => k_is))); (case Rh => k_is); (case M3 => (refine' aU ?l ?c ?k; (case l => k_is); (case c => k_is); (case k => k_is))); (case Rr => k_is); (case NS => (refine' aU ?l ?c ?k; (case l => k_is); (case c => k_is); (case k => k_is))); (case PM => k_is); (case LP => (refine' aU ?l ?c ?k; (case l => k_is); (case c => k_is); (case k => k_is)))
    (case Qt => k_is); (case LH => (refine' aU ?l ?c ?k; (case l => k_is); (case c => k_is); (case k => k_is))); (case R0 => k_is); (case Mm => (refine' aU ?l ?c ?k; (case l => k_is); (case c => k_is); (case k => k_is))); (case Pj => k_is); (case Lb => (refine' aU ?l ?c ?k; (case l => k_is); (case c => k_is); (case k => k_is))); (case P4 => k_is); (case L4 => (refine' aU ?l ?c ?k; (case l => k_is); (case c => k_is); (case k => k_is)))
    (case Pq => k_is); (case Nf => (refine' aU ?l ?c ?k; (case l => k_is); (case c => k_is); (case k => k_is))); (case Ra => k_is); (case L8 => (refine' aU ?l ?c ?k; (case l => k_is); (case c => k_is); (case k => k_is))); (case Py => k_is); (case QB => k_is); (case QH => k_is); (case RG => k_is)
    (case ia => k_is); (case kM => k_is); (case jJ => k_is); (case kR => k_is); (case kK => k_is); (case jK => k_is); (case iJ => k_is); (case lz => k_is)
    (case jA => k_is); (case rn => k_is); (case Th => exact fA (by k_is) (by k_is) (by k_is) rfl); (case TN => exact fA (by k_is) (by k_is) (by k_is) rfl); (case Tl => exact fA (by k_is) (by k_is) (by k_is) rfl); (case T4 => exact fA (by k_is) (by k_is) (by k_is) rfl); (case SH => exact fA (by k_is) (by k_is) (by k_is) rfl); (case Tb => exact fA (by k_is) (by k_is) (by k_is) rfl)
    (case Tc => exact fA (by k_is) (by k_is) (by k_is) rfl); (case Tx => exact JF (by decide +kernel) (by k_is)); (case S7 => exact fA (by k_is) (by k_is) (by k_is) rfl); (case Qs => exact ⟨Cu (by k_is), by k_is, by k_is, by k_is, by k_is, by k_is, by k_is, by k_is⟩); (case QZ => exact E3 (by k_is) (by k_is) (by k_is) (by k_is)); (case Rk => k_is); (case Qp => k_is); (case Sf => k_is)
    (case OI => k_is); (case OG => k_is); (case Og => k_is); (case Ru => k_is); (case QE => k_is); (case PV => k_is); (case R6 => repeat (first | exact Paired.nil | refine Paired.cons ⟨_, rfl⟩ ?_)); (case OC => k_is)
    (case OL => k_is); (case N6 => repeat (first | exact Paired.nil | refine Paired.cons ⟨_, rfl⟩ ?_)); (case Sb => k_is); (case P7 => k_is); (case Pn => repeat (first | exact Paired.nil | refine Paired.cons ⟨_, rfl⟩ ?_)); (case Ox => k_is); (case OB => k_is); (case MU => repeat (first | exact trivial | refine ⟨⟨_, _, rfl, rfl⟩, ?_⟩))
    (case OM => rfl); (case RR => decide); (case rX => k_is); (case v8 => k_is); (case vZ => repeat (first | exact Paired.nil | refine Paired.cons ⟨_, rfl⟩ ?_)); (case sL => k_is); (case wH => k_is); (case xG => repeat (first | exact Paired.nil | refine Paired.cons ⟨_, rfl⟩ ?_))
    (case mE => k_is); (case rS => k_is); (case sJ => repeat (first | exact Paired.nil | refine Paired.cons ⟨_, rfl⟩ ?_)); (case oJ => k_is); (case rq => k_is); (case rp => repeat (first | exact Paired.nil | refine Paired.cons ⟨_, rfl⟩ ?_)); (case rm => k_is); (case wX => k_is)
    (case wR => repeat (first | exact Paired.nil | refine Paired.cons ⟨_, rfl⟩ ?_)); (case nN => k_is); (case sI => k_is); (case si => repeat (first | exact Paired.nil | refine Paired.cons ⟨_, rfl⟩ ?_)); (case mX => k_is); (case rD => k_is); (case sU => repeat (first | exact Paired.nil | refine Paired.cons ⟨_, rfl⟩ ?_)); (case oE => k_is)
    (case rO => k_is); (case rh => repeat (first | exact Paired.nil | refine Paired.cons ⟨_, rfl⟩ ?_)); (case ib => k_is); (case jx => k_is); (case jz => repeat (first | exact Paired.nil | refine Paired.cons ⟨_, rfl⟩ ?_)); (case iM => k_is); (case jO => k_is); (case jL => repeat (first | exact Paired.nil | refine Paired.cons ⟨_, rfl⟩ ?_))
    (case oC => k_is); (case sR => k_is); (case qX => repeat (first | exact Paired.nil | refine Paired.cons ⟨_, rfl⟩ ?_)); (case iU => k_is); (case iX => k_exc); (case mr => k_is); (case mJ => k_is); (case kW => k_is)
    (case kr => k_is); (case oQ => k_is); (case nO => k_is); (case m5 => k_is); (case nK => k_is); (case og => k_is); (case l8 => k_is); (case mI => k_is)
    (case kQ => k_is); (case jT => k_is); (case nE => k_is); (case mK => k_is); (case ox => k_is); (case oA => k_is); (case mS => k_is); (case Ik => k_is)
    (case I0 => k_is); (case Ko => k_is); (case JS => k_is); (case JR => k_is); (case HF => k_is); (case jC => k_is); (case jh => k_is); (case jg => k_is)
    (case kP => k_is); (case mL => k_is); (case sV => k_is); (case qT => k_is); (case rF => k_is); (case rZ => k_is); (case sr => k_is); (case y0 => k_is)
    (case y1 => k_is); (case y2 => k_is); (case z0 => k_is); (case z1 => k_is); (case z2 => k_is); (case z3 => k_is); (case z4 => k_is); (case z5 => k_is)
    (case z6 => k_is); (case z7 => k_is); (case z8 => k_is); (case z9 => k_is); (case O5 => k_is); (case Pe => k_is); (case O3 => k_is); (case Rm => k_is)
    (case Pp => k_is); (case Q4 => k_is)
