import PyProof.Rows.All
import KE.KSortTup
import KE.KDictOf
import KE.KIntText
import KE.KFromBytes
import KE.KTryMore
import KE.KItemsList
import KE.KRevIter
import KE.KMinKey
import ObjForm.ListNI
import Wide.Line
import OpenK.KOwn
import OpenK.KWalk
import OpenK.KLine
import Lean
import PySem.Challenge.RW_oddlong_k31_bare_rows_read
local macro_rules | `(∅) => `(by decide +kernel)
local macro_rules | `(⋯) => `(by lia)
set_option Elab.async false
set_option linter.all false
set_option maxRecDepth 100000
open PySem.W renaming Frag → Ja, kitOne → Ud, kia_one → U5, keepIn → Yc, findIn → Yr, emptyDict → Y3, instObj → Y5, fnOf → Wf
open PySem.Heap renaming get?_push_of_some → Jb, lt_size → Jf, get?_push_size → Jh, get?_update_self → J2, get?_update_other → J3, size_push → Uc, SameBut → U4
open List renaming getElem?_eq_getElem → Jc, length_map → Jd, getElem?_eq_some_iff → Ji, mem_cons_of_mem → Jj, getElem?_map → Jk, mem_cons_self → Jm, length_cons → Jn, mem_append_right → Jo, replicate → Jp, mem_cons → Jq, length_append → Jt, mem_singleton → Ju, size_toArray → Jv, mem_of_getElem? → Jy, map_cons → Jz, map_append → J0, mem_iff_getElem? → J4, length_take → J6, mem_append → Ub, getElem_mem → Ug, mem_map_of_mem → Ui, length_drop → Uj, not_mem_nil → Uk, lookup_cons → Um, pairwise_iff_getElem → Uo, mem_append_left → Us, length_replicate → Ut, append_nil → Uu, take_of_length_le → Uv, mem_map → Ux, eq_nil_of_length_eq_zero → Uy, getElem?_append_right → U0, all_eq_true → U1, getElem?_append_left → U3, nodup_cons → U6, Perm → U7, getElem?_set_ne → Yb, mem_iff_getElem → Yd, isPrefixOf_iff_prefix → Ye, getElem?_set_self → Yi, take_length → Yj, length_nil → Yk, length_zip → Yl, map_map → Ym, getElem?_replicate → Yn, mem_of_mem_drop → Yo, length_eq_zero_iff → Yp, sum_cons → Yq, getD_eq_getElem?_getD → Ys, take_succ_eq_append_getElem → Yt, eraseIdx_eq_take_drop_succ → Yv, getElem?_zip_eq_some → Yw, getElem_map → Yy, pairwise_append → Y0, mem_of_mem_take → Y2, append_assoc → Y4, filterMap_cons → Y6, map_congr_left → Y7, any_cons → Y8, length_set → Wa, lookup → Wc
open Nat renaming le_refl → Je, le_trans → Jg, ne_of_lt → Jl, lt_of_lt_of_le → Jw, lt_of_le_of_lt → J7, le_add_right → Ua, lt_irrefl → Uh, ne_of_gt → Ul, zero_le → Uq, le_of_lt → Yh, le_succ → Yu, pow_le_pow_right → Y1, not_lt_zero → Wb, lt_succ_self → Wd, succ_le_succ → We, lt_trans → Wg
open Bool renaming false_ne_true → Jr, and_eq_true → Js, eq_false_iff → U8, true_and → Yg, false_eq_true → Yx, false_and → Yz, eq_iff_iff → Y9
open Array renaming getElem?_eq_getElem → Jx, length_toList → Ue, getElem?_eq_none → Ur, getElem?_toList → Uz, getElem?_eq_some_iff → U2, all_eq_true_iff_forall_mem → U9
open Int renaming toNat_natCast → Uw
open Array renaming size_push → QaX, toList_push → Qa3, eq_empty_of_size_eq_zero → Qdh, getElem?_push_size → Qen, getElem?_push_lt → QeB
open Bind renaming bind → QaO
open Bool renaming or_false → QcU, not_true → Qey
open Classical renaming propDecidable → Qau, byContradiction → Qdo
open False renaming elim → ZS
open ForInStep renaming yield → QbV
open Int renaming emod_lt_of_pos → Qa1, emod_nonneg → Qbu, toNat_of_nonneg → Qbx, pow_succ → Qdd, fmod_eq_emod_of_nonneg → Qek, fdiv_eq_ediv_of_nonneg → Qel, mul_comm → Qe6
open List renaming all_cons → QaW, of_mem_zip → QaY, pairwise_singleton → Qa0, prefix_or_prefix_of_prefix → Qbd, getElem?_toArray → Qbf, range → Qbg, toList_toArray → Qbt, prefix_append → QbE, drop_eq_getElem_cons → QbP, length_range → QbT, prefix_refl → Qb6, isEmpty_nil → Qb7, range_succ_eq_map → Qcf, map_nil → Qcg, length_singleton → Qcr, length_filter_le → Qcs, length_eraseIdx → QcC, takeWhile_cons → QcK, replicate_succ → QcL, length_take_le → QcM, pairwise_map → Qc7, filter_cons → Qdl, drop_length → Qdm, cons_append → Qdn, map_id → Qdu, length → Qdv, forIn_cons → QdA, dropLast_concat_getLast → QdB, drop_zero → Qd3, length_erase_of_mem → Qev, getElem?_take_of_lt → Qew, pairwise_lt_range → QeF, not_of_lt_findIdx → QeG, length_pos_of_mem → QeH, drop_of_length_le → QeI, any_map → QeJ, getElem?_eq_none → Qe4, replicate_succ' → Qfg, perm_cons_erase → Qfh
open List.Pairwise renaming sublist → QbL, nil → Qd4
open Nat renaming lt_succ_of_lt → Qa9, le_of_eq → QbB, succ_pos → Qco, pow_succ → Qcp, add_lt_add_left → QcS, lt_trichotomy → Qdc, two_pow_pos → QdN, zero_add → QeZ, mul_succ → Qe0, mul_comm → Qe1, le_total → Qe2, div_div_eq_div_mul → Qe3
open Nat.succ renaming inj → QcJ
open Ne renaming symm → Zx
open Option renaming map_map → Qaj, isSome_some → Qff
open Option.some renaming inj → Zk
open Or renaming inl → YY
open Prod renaming ext → Qbo
open Prod.mk renaming inj → ZR
open PyProof renaming noPylong_small → Qei
open PyProof.Rows renaming callWith_type1 → Zl, sortedS → Z3, envOfC → Qa6, seqObj → Qbr, AllBare → Qch, toString_length_le → Qcw, slot_tuple_getitem → Qcx, slice_from_eq → QcV, slice_closes → Qc1, IntsAre → Qc8, assignInOrder_cons → Qds, risingS → Qdz, zipApart_new → QdD
open PySem renaming wpAny_bind → be, wpAny_pure → tz, Value → Fk, Addr → Gc, sizeLine → KE, Shared → Wp, model → YW, wpAny → YX, Program → YZ, PyData → Za, World → Zb, FuncData → Zc, wpAny_setField_rec → Zd, starEach → Ze, wpAny_holding → Zf, wpAny_field → Zg, wpAny_callSpecial?_slot → Zj, wpAny_call_entry → Zm, strLen_append → Zn, wpAny_seqItems → Zq, Around → Zs, compareOp → Zv, Expr → ZA, wpAny_isInstance → ZC, codeAny_builtin → ZD, mainGlobals → ZE, wpAny_setState_of → ZI, wpAny_newObj_type → ZJ, wpAny_Call_Name_kw → ZK, eval → ZM, wpAny_attempt → ZN, bootBuiltins → ZO, rawInt → ZT, plainId_quiet → ZU, wpAny_typeOf → ZV, codeAny → ZW, wpAny_raiseNew_none → Z4, wpAny_updateSeq → Z5, binaryOp → Z6, wpAny_mono → Z9, wpAny_askSetting → Qaa, wpAny_standAt → Qab, codeAny_call_builtin → Qac, wpAny_truthy_bool → Qaf, foldedSetIterable → Qag, wpAny_rule → Qah, wpAny_ite_split → Qai, wpAny_nextOf_list_item → Qal, IsPair → Qam, wpAny_ite → Qan, typeLookup → Qar, isSubtype_stop → Qas, mem_of_lookup → Qaw, sysModules → Qax, wpAny_typeNameOfWhole_itemiter → QaA, KeyKind → QaB, call_meets → QaH, wpAny_passesOwn → QaJ, attributeBase → QaK, pyNext → QaM, builtinLookup_eq_fast → QaN, wpAny_updateSeq_pair → QaQ, excClassObj → QaR, backTo → QaS, Scope → QaT, Result → QaU, wpAny_letGo → Qba, wpAny_getItem_str_slice → Qbb, wpAny_pyIter_list → Qbh, wpAny_newTuple → Qbi, wpAny_loadPart_at → Qbj, wpAny_isOneOf_itemiter → Qbk, codeAny_mono → Qbm, NameKind → Qbn, wpAny_call → Qbq, assignEach → Qbs, wpAny_onRaise → Qbv, sliceBounds → Qby, ZipApart → Qbz, SetTable → QbA, wpAny_specialOf → QbG, wpAny_execs_nil → QbH, typeLookup_type → QbI, letOwnedTupleGo → QbJ, wpAny_dictSet_pairs → QbM, cLine → QbN, Stmt → QbR, noteFrame → QbU, wpAny_setField → QbW, tupleKind_room_in1 → QbX, merged → QbY, callType_codes → QbZ, sizeLine_eq → Qcc, wpAny_comprehension_free → Qci, strLen_append → Qcj, behindInMarks → Qck, wpAny_pyIter_zip → Qct, pickOrder → Qcu, DictEntry → Qcz, typeIs_str → QcE, post_val_or_str → QcH, strKind → QcI, wpAny_notOrdered_dict → QcN, wpAny_nextOf_list_end → QcO, wpAny_newFunctionEnv → QcY, wpAny_fieldsOf → QcZ, relayAll → Qc0, tupleKind → Qc3, swapsWith → Qc4, getItem → Qc5, wpAny_pyIter_tuple → Qdp, wpAny_load → Qdq, stored → Qdr, fits_of_scanBound → QdF, compPost → QdG, call → QdJ, Spec → QdK, GenState → QdO, plainObj_wpAny_Assign_Attribute → QdU, wpAny_eqBool_str → Qd7, scanBound → Qd8, pyIter → Qd9, noFill_tuple_add → Qeb, kt_code_dict_new → Qec, IsPart → Qej, unsupported → Qeo, subscripted → Qep, keywordEach → Qeq, theTreesLotGoes → Qez, Within → QeA, valueAt → QeC, callerA → QeD, Keyword → QeK, BindsTo → QeL, wpAny_tryCatch → QeN, wpAny_loadPart → QeO, setsByText → QeP, raiseAttrError → QeQ, field → QeR, bindArgs → QeS, assign → QeT, Paired → QeY, IsZip → Qe5
open PySem.Around renaming under_plainId → QeM
open PySem.Builtin.Frozenset renaming addrOf → QcG
open PySem.Builtin.Int renaming intBits → Qa8
open PySem.Builtin.List renaming listSameRef → Z2, listExtendWith → Z8, listLengthHint → Qay, listTooLong → Qc9
open PySem.Builtin.Slice renaming slicePlaces → QaD, sliceAdjust → QcX
open PySem.Builtin.SmallTypes renaming nextOf → QcA
open PySem.Builtin.Str renaming strSliceIndices → QaI, strSub → Qcq
open PySem.Calls renaming spliced_cons → Qak, spliced_nil → QaG, callWith_builtin → Qca, Name_function_global → QdT, call_function_entry → Qd6, evalArgs_plain → Qe8
open PySem.Code renaming quiet_builtin → QbF
open PySem.F renaming plainAttrs_str → Zz, slot_zip_next → ZH, plainAttrs_list → ZQ, plain_extend_loop → Z1, args_zip_next_1 → Qav, entry_zip_next → Qaz, slot_dict_itemiterator_next → QaC, entry_extend_loop → QaL, slot_tuple_iterator_next → QaP, type_str_join → Qa4, slot_str_join → Qa5, type_str_split → Qb0, slot_str_split → Qb1, slot_dict_get → Qb8, kt_typeCall_dict_1 → QcT, args_tuple_add_2 → Qde, args_str_split_2 → Qdf, args_dict_init_2 → Qdg, type_str_startswith → Qdi, slot_str_startswith → Qdj, entry_tuple_add → Qdw, entry_str_split → Qdx, entry_dict_init → Qdy, args_dict_itemiterator_next_1 → QdC, type_list_append → QdL, slot_list_append → QdM, slot_tuple_add → QdP, slot_str_split → QdQ, kt_called_dict → QdR, entry_dict_itemiterator_next → QdS, type_list_index → QdW, slot_list_index → QdX, slot_dict_items → QdY, plain_list_iadd → QdZ, plainAttrs_dict → Qd0, args_dict_get_3 → Qd1, entry_dict_get → Qeh, args_tuple_iterator_next_1 → Qem, entry_tuple_iterator_next → Qex
open PySem.Heap renaming get?_none_of_le → QcD, MadeExcOf → Qd5
open PySem.Heap.DictOf renaming new → QbQ
open PySem.Heap.Ns1 renaming of_empty → Qe7
open PySem.Manifest renaming find? → Qce
open PySem.NameKind renaming free → ZX, cell → QbD
open PySem.Obj renaming mapSeq → ZF, mapFields → QaF, data_mapFields → QbK, isFreed_of_fields → Qcy, putSet → Qc2
open PySem.Paired renaming length → Qd2
open PySem.PassesOwn renaming never → Zw
open PySem.PyData renaming weightAll → Zu, weight → ZB, eqv → ZP, canLay0 → ZZ, eqvAll → Qae, depthAll → Qao, depth → Qap, canLayAll0 → Qaq, str → Qbc, tuple → Qbp, int → Qb5, shownAll → Qb9, shown → QcW, showable → Qdk, showableAll → Qfe
open PySem.PyData.list renaming inj → QcR
open PySem.SeqAt renaming shaped → Zy
open PySem.SeqAt.EqAt renaming bool_bool → Qb2, str_str → Qes, str_int → Qet, int_str → Qeu
open PySem.SetTable renaming below → ZG, grown → QaE, has → QdV, orStandIn → QeE
open PySem.SetTable.below renaming go → QdI
open PySem.SetTable.probe renaming go → Qcd
open PySem.Shared renaming TypeIs → ZY
open PySem.Str renaming ofString → W1, empty → Zt
open PySem.Txt renaming slice → Zi, join → Qad, mul → QaZ, split → Qa2, startswith → Qa7, slice_le → Qcl, stripChars → Qed, contains → QeV
open PySem.Value renaming ref → Zh, type → Z0, bool → Qat, none → Qbe, str → Qbw, isInt_shape → QbO, int → QcB, isStrOf_shape → QcF, float → QeU
open PySem.W renaming callWith_K → QaV, looks_findIn → Qbl, plainGet → QbS, makesIn → Qb3, KeysLit → Qb4, topFrom → Qcb, lookIn → Qcm, codeIn → Qcn, plainGet_of → Qcv, kitx_list → QcP, hasDictIn → QcQ, takerIn → Qda, OpenLaw → Qdb, clsIn → QdH, nsIn → Qea, nsIn → Qee, isFn → Qef, cellsFrom_some → Qeg, hideAll_get → Qer, kitx_tuple → QeX, plainOver → Qe9, kitx_none → Qfa, kitx_dict → Qfb, kitx_bool → Qfc, kdx_alive → Qfd
open PySem.W.Fast renaming te14364793385576792824 → Zo, te14082659384304107361 → Zp, te4187177175401517315 → Zr
open PySem.W.OpenLaw renaming row → Qc6
open PySem.W.OpenRow renaming toRowW → Qdt
open PySem.pickOrder renaming go → QdE
open Sum renaming inr → Z7, inl → QeW
open Sum.inr renaming inj → QbC
open True renaming intro → ZL
noncomputable section
namespace L2
set_option genSizeOf false
set_option genInjectivity false
inductive fG {α0 α1:Type}(P: α0 -> α1->Prop):Prop|mk (x0: α0) (x1: α1) (h:P x0 x1):fG P
inductive oG {α0 α1 α2:Type}(P: α0 -> α1 -> α2->Prop):Prop|mk (x0: α0) (x1: α1) (x2: α2) (h:P x0 x1 x2):oG P
inductive lW {α0 α1 α2 α3:Type}(P: α0 -> α1 -> α2 -> α3->Prop):Prop|mk (x0: α0) (x1: α1) (x2: α2) (x3: α3) (h:P x0 x1 x2 x3):lW P
inductive vY {α0 α1 α2 α3 α4:Type}(P: α0 -> α1 -> α2 -> α3 -> α4->Prop):Prop|mk (x0: α0) (x1: α1) (x2: α2) (x3: α3) (x4: α4) (h:P x0 x1 x2 x3 x4):vY P
inductive Dx {α0 α1 α2 α3 α4 α5:Type}(P: α0 -> α1 -> α2 -> α3 -> α4 -> α5->Prop):Prop|mk (x0: α0) (x1: α1) (x2: α2) (x3: α3) (x4: α4) (x5: α5) (h:P x0 x1 x2 x3 x4 x5):Dx P
set_option genSizeOf true
set_option genInjectivity true
class aj (P:Prop) (F:outParam (Prop->Prop)):Prop where
 el:P->∀G:Prop,F G->G
def aj.go {P:Prop}{F:Prop->Prop}[i:aj P F]{G:Prop}(k:F G):P->G:=fun h=>i.el h G k
instance (priority:=low) elimBase {P:Prop}:aj P (fun G=>P->G):=⟨fun h _ k=>k h⟩
instance Sv {α:Sort u} {P: α->Prop} {F: α->Prop->Prop} [h:∀x,aj (P x) (F x)]:aj (∃x,P x) (fun G=>∀x,F x G):=⟨fun⟨x,hx⟩ G k=>(h x).el hx G (k x)⟩
instance Qd {A B:Prop} {F:Prop->Prop} [h:aj B F]:aj (A/\B) (fun G=>A->F G):=⟨fun⟨a,b⟩ G k=>h.el b G (k a)⟩
instance QJ {α0 α1:Type} {P: α0 -> α1->Prop} {F: α0 -> α1->Prop->Prop} [i:∀x0 x1,aj (P x0 x1) (F x0 x1)]:aj (fG P) (fun G=>∀x0 x1,F x0 x1 G):=⟨fun⟨x0,x1,h⟩ G k=>(i x0 x1).el h G (k x0 x1)⟩
instance QL {α0 α1 α2:Type} {P: α0 -> α1 -> α2->Prop} {F: α0 -> α1 -> α2->Prop->Prop} [i:∀x0 x1 x2,aj (P x0 x1 x2) (F x0 x1 x2)]:aj (oG P) (fun G=>∀x0 x1 x2,F x0 x1 x2 G):=⟨fun⟨x0,x1,x2,h⟩ G k=>(i x0 x1 x2).el h G (k x0 x1 x2)⟩
instance QC {α0 α1 α2 α3:Type} {P: α0 -> α1 -> α2 -> α3->Prop} {F: α0 -> α1 -> α2 -> α3->Prop->Prop} [i:∀x0 x1 x2 x3,aj (P x0 x1 x2 x3) (F x0 x1 x2 x3)]:aj (lW P) (fun G=>∀x0 x1 x2 x3,F x0 x1 x2 x3 G):=⟨fun⟨x0,x1,x2,x3,h⟩ G k=>(i x0 x1 x2 x3).el h G (k x0 x1 x2 x3)⟩
instance QO {α0 α1 α2 α3 α4:Type} {P: α0 -> α1 -> α2 -> α3 -> α4->Prop} {F: α0 -> α1 -> α2 -> α3 -> α4->Prop->Prop} [i:∀x0 x1 x2 x3 x4,aj (P x0 x1 x2 x3 x4) (F x0 x1 x2 x3 x4)]:aj (vY P) (fun G=>∀x0 x1 x2 x3 x4,F x0 x1 x2 x3 x4 G):=⟨fun⟨x0,x1,x2,x3,x4,h⟩ G k=>(i x0 x1 x2 x3 x4).el h G (k x0 x1 x2 x3 x4)⟩
instance Qt {α0 α1 α2 α3 α4 α5:Type} {P: α0 -> α1 -> α2 -> α3 -> α4 -> α5->Prop} {F: α0 -> α1 -> α2 -> α3 -> α4 -> α5->Prop->Prop} [i:∀x0 x1 x2 x3 x4 x5,aj (P x0 x1 x2 x3 x4 x5) (F x0 x1 x2 x3 x4 x5)]:aj (Dx P) (fun G=>∀x0 x1 x2 x3 x4 x5,F x0 x1 x2 x3 x4 x5 G):=⟨fun⟨x0,x1,x2,x3,x4,x5,h⟩ G k=>(i x0 x1 x2 x3 x4 x5).el h G (k x0 x1 x2 x3 x4 x5)⟩
open PySem PySem.Spec PyProof.Rows
abbrev Key:=Sum Int Str
def rA:Key->Fk->Bool
 | .inl k,v=>Value.isInt k v
 | .inr x,v=>Value.isStrOf x v
def SV (w:Zb):Key->Int
 | .inl k=>hashInt k
 | .inr x=>hashStr w x
def cj:∀{k:Key} {v:Fk},rA k v=true->(∃i t,k=QeW i/\v=QcB i t)\/(∃x t,k=Z7 x/\v=Qbw x t)
 | .inl i,v,h=>by
  obtain⟨t,e⟩:=QbO h;exact .inl ⟨i,t,rfl,e⟩
 | .inr x,v,h=>by
  obtain⟨t,e⟩:=QcF h;exact .inr ⟨x,t,rfl,e⟩
def Bm (i:Int)(t:Tok):rA (.inl i) (.int i t)=true:=by simp[rA,Value.isInt]
def Cu (x:Str)(t:Tok):rA (.inr x) (.str x t)=true:=by simp[rA,Value.isStrOf]
def LB (a b:Int):decide ((QeW a:Key)=QeW b)=(a==b):=by grind
def LJ (a b:Str):decide ((Z7 a:Key)=Z7 b)=decide (a=b):=by simp
def Mb (a:Int)(b:Str):decide ((QeW a:Key)=Z7 b)=false:=decide_eq_false (nofun)
def LL (a:Str)(b:Int):decide ((Z7 a:Key)=QeW b)=false:=decide_eq_false (nofun)
def bC (prog:YZ)(w:Zb):QaB prog w Key where
 is:=rA
 hash:=SV w
 inj:=fun v a b ha hb=>by
  rcases cj ha with ⟨i,t,rfl,rfl⟩|⟨x,t,rfl,rfl⟩
  ·rcases cj hb with ⟨j,u,rfl,e⟩|⟨y,u,rfl,e⟩
   ·injection e with e1 _;rw[e1]
   ·exact nomatch e
  ·rcases cj hb with ⟨j,u,rfl,e⟩|⟨y,u,rfl,e⟩
   ·exact nomatch e
   ·injection e with e1 _;rw[e1]
 byValue:=fun k v h=>by
  rcases cj h with ⟨i,t,rfl,rfl⟩|⟨x,t,rfl,rfl⟩<;>rfl
 pyHash:=fun hv h=>by
  rcases cj hv with ⟨i,t,rfl,rfl⟩|⟨x,t,rfl,rfl⟩
  ·exact wpAny_pyHash_int h
  ·exact wpAny_pyHash_str h
 eqBool:=fun hu hv h=>by
  rcases cj hu with ⟨i,t,rfl,rfl⟩|⟨x,t,rfl,rfl⟩
  ·rcases cj hv with ⟨j,u,rfl,rfl⟩|⟨y,u,rfl,rfl⟩
   ·rw[LB] at h;exact wpAny_eqBool_int h
   ·rw[Mb] at h;exact Qeu i t y u _ _ _ _ h
  ·rcases cj hv with ⟨j,u,rfl,rfl⟩|⟨y,u,rfl,rfl⟩
   ·rw[LL] at h;exact Qet x t j u _ _ _ _ h
   ·rw[LJ] at h;exact Qd7 h
 «strs»:=fun k x t v h=>by
  rcases cj h with ⟨i,u,rfl,e⟩|⟨y,u,rfl,e⟩
  ·exact nomatch e
  ·injection e with e1 _
   subst e1;cases v<;>rfl
def wB (prog:YZ)(w:Zb)(i:Int)(t:Tok):(bC prog w).is (.inl i) (.int i t)=true:=Bm i t
def uY (prog:YZ)(w:Zb)(x:Str)(t:Tok):(bC prog w).is (.inr x) (.str x t)=true:=Cu x t
inductive V where
 | non|bl (b:Bool)|int (i:Int)|str (x:Str)|byt (b:Array UInt8)|flt (b:UInt64)|ref (a:Gc)|ty (n:String)
 deriving DecidableEq
def RelV:V->Fk->Prop
 | .non,u=>u=Qbe
 | .bl b,u=>u=Qat b
 | .int i,u=>∃t,u=QcB i t
 | .str x,u=>∃t,u=Qbw x t
 | .byt b,u=>∃t,u=Value.bytes b t
 | .flt b,u=>∃t,u=QeU b t
 | .ref a,u=>u=Zh a
 | .ty n,u=>u=Z0 n
abbrev Vals:List V->List Fk->Prop:=QeY RelV
def Vals.length (r:Vals xs us):xs.length=us.length:=Qd2 r
def Vals.get:∀{xs:List V} {us:List Fk} {i:Nat} {x:V},Vals xs us->xs[i]? = some x->∃u,us[i]? = some u/\RelV x u
 | _,_,_,_,.nil,e=>by simp at e
 | _,_,0,_,.cons r _,e=>by simp at e;subst e;exact⟨_,rfl,r⟩
 | _,_,i+1,x,.cons _ t,e=>by
  obtain⟨u,h1,h2⟩:=Vals.get t (by simpa using e);exact⟨u,by simpa using h1,h2⟩
def Vals.set (r:RelV x u):∀{xs:List V} {us:List Fk} i,Vals xs us->Vals (xs.set i x) (us.set i u)
 | _,_,_,.nil =>.nil
 | _,_,0,.cons _ t =>.cons r t
 | _,_,i+1,.cons q t =>.cons q (Vals.set r i t)
def Vals.append {us ws:List Fk}(h:Vals xs us)(s:Vals ys ws):Vals (xs++ys) (us++ws):=by
 induction h with
 | nil=>exact s
 | cons r t ih=>exact .cons r ih
def Vals.take:∀{xs:List V} {us:List Fk} n,Vals xs us->Vals (xs.take n) (us.take n)
 | _,_,0,_ =>.nil
 | _,_,_+1,.nil =>.nil
 | _,_,n+1,.cons r t =>.cons r (Vals.take n t)
def Vals.drop:∀{xs:List V} {us:List Fk} n,Vals xs us->Vals (xs.drop n) (us.drop n)
 | _,_,0,r=>r
 | _,_,_+1,.nil =>.nil
 | _,_,n+1,.cons _ t=>Vals.drop n t
def iW:Option V->Option Fk->Prop
 | some v,some u=>RelV v u
 | none,none=>True
 | _,_=>False
def KV:List (κ×V)->List (κ×Fk)->Prop:=QeY fun p q=>p.1=q.1/\RelV p.2 q.2
def kV:Key->V
 | .inl i =>.int i
 | .inr x =>.str x
inductive HO where
 | lst (xs:List V)
 | tup (xs:List V)
 | dK (kvs:List (Key×V))|dT (kvs:List (List Key×V))
 | set (S:Int->Bool) (n:Nat)
 | ins (C dx:Gc) (fs:List (Str×V))
 | own (x:Gc)
 | xd (fs:List (Str×V))
 | met (f x:Gc)
 | rng (lo hi:Int)
 | frz (o:Obj) (u:HO)
 | tbl (ps:Array Fk)
 | ext (φ:Heap->Prop)
abbrev Hp:=Gc->Option HO
def upd (H:Hp)(a:Gc)(o:HO):Hp:=fun b=>if b=a then some o else H b
def av:upd H a o a=some o:=by unfold upd;rw[if_pos rfl]
def au {a b:Gc}{o:HO}(h:b≠a):upd H a o b=H b:=by unfold upd;rw[if_neg h]
def zo:upd (upd H a o) a u=upd H a u:=by
 funext b;unfold upd;split<;>rfl
def vE {H:Hp}{a b:Gc}{o u:HO}(h:H a=some o)(h':H b=some u)(d:o≠u):a≠b:=by grind
def aH {H:Hp}{a b:Gc}{o:HO}(h:H a=some o)(h':H b=none):a≠b:=by grind
def tH (h:Heap)(a:Gc)(items:Array Fk):Prop:=∃o,h.get? a=some o/\o.dict=none/\o.cls = .type "tuple" /\ ∃n,o.data = .seq items n
def tH.is:tH h a items->IsTup h a items:=fun⟨o,e,_,r⟩=>⟨o,e,r⟩
def tH.new (h:Heap)(items:Array Fk):tH (h.push { cls := .type "tuple",data := .seq items }) h.objs.size items:=⟨_,Jh _ rfl,rfl,rfl,_,rfl⟩
section
variable (P:YZ)(w:Zb)
def bt (H:Hp)(h:Heap)(a:Gc):HO->Prop
 | .lst xs=>xs.length<=KE/\fG fun aF n=>Vals xs aF/\h.get? a=some { cls := .type "list",data := .seq aF.toArray n }
 | .tup xs=>xs.length<=KE/\∃aF,Vals xs aF/\tH h a aF.toArray
 | .dK kvs=>kvs.length<=KE/\(a==Qax)=false/\∃vs,KV kvs vs/\h.DictOf (bC P w) a vs
 | .dT kvs=>kvs.length<=KE/\(a==Qax)=false/\∃xs,
   QeY (fun p q=>p.1=q.1/\H q.2.1=some (.tup (p.1.map kV))/\RelV p.2 q.2.2) kvs xs /\
   oG fun o es ep=>h.get? a=some o/\o.ExactDict/\o.data = .dict es ep/\es.toList=xs.map (entryOfKey (Qc3 (bC P w)))/\(xs.map (·.1)).Nodup
 | .set S n=>h.SetOf (intKind P w) a S n
 | .ins C dx fs=>H dx=some (.own a)/\fs.length<=1000/\dx≠a/\h.get? a=some (Y5 C dx) /\
   ∃mA,h.Ns1 dx mA/\(∀f,iW (fs.lookup f) (mA f))/\QeA mA (fs.map (·.1))
 | .own _=>∃o,h.get? a=some o
 | .xd fs=>∃mA,h.Ns1 a mA/\∀f,iW (fs.lookup f) (mA f)
 | .rng lo hi=>oG fun t u v=>h.get? a=some { cls := .type "range",data := .fields #[.int lo t,.int hi u,.int 1 v] }
 | .frz o u=>h.get? a=some o/\bt H h a u
 | .tbl ps=>h.get? a=some { cls := .none,data := .fields ps }
 | .met f x=>h.get? a=some (PySem.W.methodObj (.ref f) (.ref x))
 | .ext φ => φ h/\(∃o,h.get? a=some o)/\∀h1 h2, φ h1->(∀o,h1.get? a=some o->h2.get? a=some o) -> φ h2
def jr (H:Hp)(h:Heap):Prop:=∀a o,H a=some o->bt P w H h a o
end
section
variable {P:YZ}{w:Zb}{H H':Hp}{h h':Heap}{a:Gc}{o:HO}
def bt.lt (x:bt P w H h a o):a<h.objs.size:=by
 cases o with
 | lst xs=>obtain⟨_,_,_,_,e⟩:=x;exact Jf e
 | tup xs=>obtain⟨_,_,_,p⟩:=x;exact p.is.lt
 | dK kvs=>obtain⟨_,_,_,_,o,_,_,e,_⟩:=x;exact Jf e
 | dT kvs=>obtain⟨_,_,_,_,o,_,_,e,_⟩:=x;exact Jf e
 | set S n=>obtain⟨o,_,_,_,e,_⟩:=x;exact Jf e
 | ins C dx fs=>obtain⟨_,_,_,e,_⟩:=x;exact Jf e
 | own y=>obtain⟨_,e⟩:=x;exact Jf e
 | xd fs=>obtain⟨_,⟨_,_,_,e,_⟩,_⟩:=x;exact Jf e
 | rng lo hi=>obtain⟨_,_,_,e⟩:=x;exact Jf e
 | frz ob u=>obtain⟨e,_⟩:=x;exact Jf e
 | tbl ps=>exact Jf (show h.get? a=some _ from x)
 | met f y=>exact Jf (show h.get? a=some _ from x)
 | ext φ=>obtain⟨_,⟨_,e⟩,_⟩:=x;exact Jf e
def Paired.N9 {l₁:List α}{l₂:List β}(h:QeY F l₁ l₂)(f:∀a b,F a b->G a b):QeY G l₁ l₂:=by
 induction h with
 | nil=>exact .nil
 | cons r t ih=>exact .cons (f _ _ r) ih
def bt.gW (x:bt P w H h a o)(k:∀b u,(b=a\/H b=some (.own a))->h.get? b=some u->h'.get? b=some u)
  (ho:∀b,H b=some (.own a)->H' b=some (.own a)) (ht:∀b xs,H b=some (.tup xs)->H' b=some (.tup xs)):bt P w H' h' a o:=by
 induction o with
 | lst xs=>obtain⟨z,aF,n,r,e⟩:=x;exact⟨z,aF,n,r,k _ _ (.inl rfl) e⟩
 | tup xs=>obtain⟨z,aF,r,ob,e,c⟩:=x;exact⟨z,aF,r,ob,k _ _ (.inl rfl) e,c⟩
 | dK kvs=>obtain⟨z,y,vs,r,ob,es,ep,e,c⟩:=x;exact⟨z,y,vs,r,ob,es,ep,k _ _ (.inl rfl) e,c⟩
 | dT kvs=>
  obtain⟨z,y,xs,r,ob,es,ep,e,c⟩:=x;exact⟨z,y,xs,Paired.N9 r fun p q z=>⟨z.1,ht _ _ z.2.1,z.2.2⟩,ob,es,ep,k _ _ (.inl rfl) e,c⟩
 | set S n=>obtain⟨ob,es,ep,t,e,c⟩:=x;exact⟨ob,es,ep,t,k _ _ (.inl rfl) e,c⟩
 | ins C dx fs=>
  obtain⟨d,z,ne,e,mA,⟨od,es,ep,e2,c⟩,r⟩:=x;exact⟨ho _ d,z,ne,k _ _ (.inl rfl) e,mA,⟨od,es,ep,k _ _ (.inr d) e2,c⟩,r⟩
 | own y=>obtain⟨ob,e⟩:=x;exact⟨ob,k _ _ (.inl rfl) e⟩
 | xd fs=>obtain⟨mA,⟨od,es,ep,e,c⟩,r⟩:=x;exact⟨mA,⟨od,es,ep,k _ _ (.inl rfl) e,c⟩,r⟩
 | rng lo hi=>obtain⟨t,u,v,e⟩:=x;exact⟨t,u,v,k _ _ (.inl rfl) e⟩
 | frz ob u ih=>obtain⟨e,q⟩:=x;exact⟨k _ _ (.inl rfl) e,ih q⟩
 | tbl ps=>
  have e:=x;exact k a _ (.inl rfl) e
 | met f y=>
  have e:=x;exact k a _ (.inl rfl) e
 | ext φ=>obtain⟨p,⟨o,e⟩,st⟩:=x;exact⟨st _ _ p fun o q=>k _ _ (.inl rfl) q,⟨o,k _ _ (.inl rfl) e⟩,st⟩
def jr.lt (x:jr P w H h)(e:H a=some o):a<h.objs.size:=(x a o e).lt
def jr.fresh (x:jr P w H h)(e:h.objs.size<=a):H a=none:=by
 cases q:H a with
 | none=>rfl
 | some u=>exact absurd (Jw (x.lt q) e) (Uh _)
def jr.kept (x:jr P w H h)(k:∀b u,h.get? b=some u->h'.get? b=some u):jr P w H h':=fun a o e=>
 (x a o e).gW (fun b u _ q=>k b u q) (fun _ q=>q) fun _ _ q=>q
def jr.laid (x:jr P w H h)(k:∀b u,h.get? b=some u->h'.get? b=some u)(hp:h.objs.size<=a)(new:bt P w (upd H a o) h' a o):jr P w (upd H a o) h':=fun b u e=>by
 have hn:=x.fresh hp
 by_cases hb:b=a
 ·subst hb;rw[av] at e;cases e;exact new
 ·rw[au hb] at e;exact(x b u e).gW (fun c v _ q=>k c v q) (fun c q=>by rw[au (aH q hn)];exact q) fun c xs q=>by rw[au (aH q hn)];exact q
end
def Rd (H:Hp)(a:Gc)(u:HO):Prop:=H a=some u\/∃o,H a=some (.frz o u)
def Rd.ok {H:Hp}{h:Heap}{a:Gc}{u:HO}(r:Rd H a u)(x:jr P w H h):bt P w H h a u:=by
 rcases r with r|⟨o,r⟩
 ·exact x a u r
 ·obtain⟨_,q⟩:=x a _ r;exact q
def PB:Option HO->Prop
 | some (.lst _)=>True
 | some (.dK _)=>True
 | some (.dT _)=>True
 | some (.set _ _)=>True
 | some (.ins _ _ _)=>True
 | some (.ext _)=>True
 | _=>False
section
variable {P:YZ}{w:Zb}{H:Hp}{h h':Heap}{x e:Gc}{o':HO}
def jr.write (ok:jr P w H h)(mu:PB (H x))(he:e=x\/H e=some (.own x))(k:∀b u,b≠e->h.get? b=some u->h'.get? b=some u)(MX:∃u,h'.get? e=some u)
  (new:bt P w (upd H x o') h' x o'):jr P w (upd H x o') h':=fun b u q=>by
 have PH:∀c y,H c=some (.own y)->c≠x:=fun c y r z=>by subst z;rw[r] at mu;exact mu
 by_cases hb:b=x
 ·subst hb;rw[av] at q;cases q;exact new
 ·rw[au hb] at q
  by_cases hbe:b=e
  ·have q':H b=some (.own x):=by
    rcases he with z|z
    ·exact absurd (hbe.trans z) hb
    ·rw[hbe];exact z
   rw[q] at q';cases q';obtain⟨v,hv⟩:=MX;exact⟨v,by rw[hbe];exact hv⟩
  ·refine(ok b u q).gW (fun c v hc r=>k c v ?_ r) (fun c r=>by rw[au (PH c b r)];exact r) fun c xs r=>by rw[au ((fun c xs r z=>by subst z;rw[r] at mu;exact mu) c xs r)];exact r
   rcases hc with rfl|hc
   ·exact hbe
   ·rintro rfl
    rcases he with z|z
    ·exact PH c b hc z
    ·rw[hc] at z;cases z;exact hb rfl
end
structure Un (fs ex:List Gc)(H H':Hp)(h h':Heap):Prop where
 keep:∀b o,h.get? b=some o->H b=none->b∉fs->b∉ex->h'.get? b=some o
 slot:∀b o,h.get? b=some o->H b=none->b∈fs->b∉ex->∃sl,h'.get? b=some { o with slots:=sl }
 free:∀b o,h.get? b=some o->H b=none->b∉ex->H' b=none
 there:∀b o,h.get? b=some o->b∉ex->∃o',h'.get? b=some o'
 jC:∀b xs,H b=some (.tup xs)->H' b=some (.tup xs)
 jw:∀b o u,H b=some (.frz o u)->H' b=some (.frz o u)
 kr:∀b ps,H b=some (.tbl ps)->∃more,H' b=some (.tbl (ps++more))
section
variable {fs VL ex YV:List Gc}{H H1 H2:Hp}{h h1 h2 h':Heap}{a x e:Gc}{o:HO}
def Un.any (u:Un fs ex H H1 h h1){b:Gc}{ob:Obj}(q:h.get? b=some ob)(n:H b=none)(hx:b∉ex):∃sl,h1.get? b=some { ob with slots:=sl }:=by
 by_cases hb:b∈fs
 ·exact u.slot b ob q n hb hx
 ·exact⟨ob.slots,u.keep b ob q n hb hx⟩
def Un.kept (k:∀b u,h.get? b=some u->h'.get? b=some u):Un fs ex H H h h':=
 ⟨fun b ob q _ _ _=>k b ob q,fun b ob q _ _ _=>⟨ob.slots,k b ob q⟩,fun _ _ _ n _=>n,fun b ob q _=>⟨ob,k b ob q⟩,fun _ _ q=>q,fun _ _ _ q=>q,fun _ ps q=>⟨#[],by rw[q];simp⟩⟩
def Un.refl:Un fs ex H H h h:=Un.kept fun _ _ q=>q
def Un.laid (k:∀b u,h.get? b=some u->h'.get? b=some u)(hp:h.objs.size<=a)(hn:H a=none):Un fs ex H (upd H a o) h h' where
 keep:=fun b u q _ _ _=>k b u q
 slot:=fun b u q _ _ _=>⟨u.slots,k b u q⟩
 free:=fun b u q n _=>by rw[au (Jl (Jw (Jf q) hp))];exact n
 there:=fun b u q _=>⟨u,k b u q⟩
 jC:=fun b xs q=>by rw[au (aH q hn)];exact q
 jw:=fun b u xs q=>by rw[au (aH q hn)];exact q
 kr:=fun b ps q=>⟨#[],by rw[au (aH q hn),q];simp⟩
def Un.write (mu:PB (H x))(he:e=x\/H e=some (.own x))(k:∀b u,b≠e->h.get? b=some u->h'.get? b=some u)(MX:∃u,h'.get? e=some u):Un fs ex H (upd H x o) h h':=by
 have hx:∀b,H b=none->b≠x:=fun b n z=>by subst z;rw[n] at mu;exact mu
 have hb:∀b,H b=none->b≠e:=fun b n z=>by
  subst z
  rcases he with r|r
  ·exact hx b n r
  ·rw[n] at r;cases r
 have hm:∀b u,H b=some u->¬PB (some u)->b≠x:=fun b u q nm z=>by subst z;rw[q] at mu;exact nm mu
 refine⟨fun b u q n _ _=>k b u (hb b n) q,fun b u q n _ _=>⟨u.slots,k b u (hb b n) q⟩,fun b u q n _=>by rw[au (hx b n)];exact n,fun b u q _ =>?_,
  fun b xs q=>by rw[au (hm b _ q fun z=>z)];exact q,fun b u xs q=>by rw[au (hm b _ q fun z=>z)];exact q,fun b ps q=>⟨#[],by rw[au (hm b _ q fun z=>z),q];simp⟩⟩
 by_cases hbe:b=e
 ·subst hbe;exact MX
 ·exact⟨u,k b u hbe q⟩
end
def M0 (h:Heap)(H:Hp):List Gc:=(Qbg h.objs.size).filter fun a=>(H a).isSome
def Cy (h:Heap)(H:Hp):Heap:=PySem.W.hideAll h (M0 h H)
def Bu (h:Heap)(H:Hp):(Cy h H).objs.size=h.objs.size:=PySem.W.hideAll_size _ _
def ED {H:Hp}{b:Gc}{o:Obj}(e:h.get? b=some o)(n:H b=none):(Cy h H).get? b=some o:=
 PySem.W.hideAll_get _ e fun hm=>by
  have q:=(List.mem_filter.mp hm).2;rw[n] at q;simp at q
def GV (e:(Cy h H).get? b=some o):h.get? b=some o/\H b=none:=by
 have e':=PySem.W.of_hideAll (M0 h H) e;refine⟨e',?_⟩;cases q:H b with
 | none=>rfl
 | some x=>
  have z:(Cy h H).get? b=none:=PySem.W.hideAll_none (M0 h H) (List.mem_filter.mpr ⟨List.mem_range.mpr (Jf e'),by simp[q]⟩);rw[z] at e;cases e
structure Mod (K:Ja)(mg:Str->Option Fk)(base:Heap):Prop where
 xc:K.In base
 glob:base.Ns ZE mg
 blt:∃mb,base.Ns builtinsNs mb/\∀x:Str,x ≠ "__name__" -> mb x=ZO x
 nolimit:base.NoLimit
structure Cx where
 prog:YZ
 w:Zb
 K:Ja
 mg:Str->Option Fk
 base:Heap
 A:Zs
 N:List Str
 s₀:Wp
 H₀:Hp
 env:Env
 outer:List Env
 stack:List Env
 ex:List Gc
 fn:Str->Bool
 calm:Bool
 pn:List (Gc×Obj)
 xe:Fk->Wp->Prop
def kJ (l:List Env):List Gc:=l.filterMap (·.frame)
abbrev Cx.fs (X:Cx):List Gc:=kJ X.outer
def Ow (sc:QaT)(x:Str):Prop:=sc.names.lookup x=some .local\/sc.names.lookup x=some .cell\/sc.names.lookup x=some .free
def Loc (sc:QaT)(x:Str):Prop:=sc.names.lookup x=some .local\/sc.names.lookup x=some .cell
def Look (env:Env)(h:Heap)(m:Str->Option Fk)(x:Str)(u:Fk):Prop:=
 (env.kindOf x=some .local/\m x=some u)\/((env.kindOf x=some .cell\/env.kindOf x=some .free)/\∃c,env.cells.lookup x=some c/\h.IsCell c (some u))
structure Cx.Ok (X:Cx):Prop where
 mod:Mod X.K X.mg X.base
 kind:X.env.scope.kind = .function
 glob:X.env.globals=ZE
 blt:X.env.builtins=builtinsNs
 above:X.s₀.heap.objs.size<=X.env.locals
 inj:∀x y c,X.env.cells.lookup x=some c->X.env.cells.lookup y=some c->x=y
 has:∀x,(X.env.kindOf x=some .cell\/X.env.kindOf x=some .free)->∃c,X.env.cells.lookup x=some c
 cab:∀x c,X.fn x=true->X.env.cells.lookup x=some c->X.s₀.heap.objs.size<=c
 hd:X.calm=true->X.A.handled=none
 frames:X.A.frames=some X.stack
 stk:X.stack=X.outer\/(X.stack=X.env::X.outer/\X.env.frame=some X.env.locals)
 exf:∀b∈X.ex,b≠X.env.locals/\∀x c,X.env.cells.lookup x=some c->c≠b
 bs:∀b o,X.base.get? b=some o->X.s₀.heap.get? b=some o/\X.H₀ b=none
 bsz:X.base.objs.size<=X.s₀.heap.objs.size
 noex:∀b o,X.base.get? b=some o->b∉X.ex
 exfs:∀b∈X.ex,b∉X.fs
 ko:X.s₀.heap.FunFrames X.base X.outer
 frf:∀b∈X.fs,X.H₀ b=none
structure Inv (X:Cx)(pins:List (Gc×Obj))(σ:List (Option V))(H:Hp)(s:Wp):Prop where
 ok:X.Ok
 os:s.os=X.s₀.os
 bare:Qch s.gens
 base:Un X.fs X.ex X.H₀ H X.s₀.heap s.heap
 loc:∃m,s.heap.Ns X.env.locals m/\∀(i:Nat) (x:Str) (v:V),X.N[i]? = some x -> σ[i]? = some (some v)->Ow X.env.scope x->∃u,RelV v u/\Look X.env s.heap m x u
 cell:∀x c,X.env.cells.lookup x=some c->∃v,s.heap.IsCell c v
 free:H X.env.locals=none
 freeC:∀x c,X.env.cells.lookup x=some c->H c=none
 pin:∀p∈X.pn++pins,s.heap.get? p.1=some p.2/\H p.1=none/\p.1≠X.env.locals/\p.1∉X.fs/\∀v,p.2.data ≠ .cell v
 bq:jr X.prog X.w H s.heap
 len: σ.length=X.N.length
section
variable {X:Cx}{pins:List (Gc×Obj)}{σ:List (Option V)}{H H':Hp}{s:Wp}{h':Heap}
def Cx.Ok.Ro (ok:X.Ok){b:Gc}{o:Obj}(e:X.base.get? b=some o):b∉X.fs:=fun hb=>by
 have:=(ok.ko.mem hb).1;rw[e] at this;cases this
def Inv.bs (I:Inv X pins σ H s):∀b o,X.base.get? b=some o->s.heap.get? b=some o/\H b=none:=fun b o e=>
 ⟨I.base.keep b o (I.ok.bs b o e).1 (I.ok.bs b o e).2 (I.ok.Ro e) (I.ok.noex b o e),I.base.free b o (I.ok.bs b o e).1 (I.ok.bs b o e).2 (I.ok.noex b o e)⟩
def Inv.bk (I:Inv X pins σ H s):∀b o,X.base.get? b=some o->s.heap.get? b=some o:=fun b o e=>(I.bs b o e).1
def Inv.mod (I:Inv X pins σ H s):Mod X.K X.mg X.base:=I.ok.mod
def Inv.iQ (I:Inv X pins σ H s):X.K.In s.heap:=I.ok.mod.xc.keeps I.bk
def Inv.lt (I:Inv X pins σ H s):X.env.locals<s.heap.objs.size:=let ⟨_,hn,_⟩:=I.loc;hn.lt
def Inv.sz (I:Inv X pins σ H s):X.s₀.heap.objs.size<=s.heap.objs.size:=Jg I.ok.above (Yh I.lt)
def Inv.Oa (I:Inv X pins σ H s){a:Gc}(h:s.heap.objs.size<=a):a∉X.fs:=fun hb=>by
 obtain⟨_,o,ho,_⟩:=I.ok.ko.mem hb;exact absurd (Jw (Jf ho) (Jg I.sz h)) (Uh _)
def Inv.Hn (I:Inv X pins σ H s):∀x c,X.env.cells.lookup x=some c->c≠X.env.locals:=fun x c e z=>by
 obtain⟨v,o,ho,hd⟩:=I.cell x c e;obtain⟨m,⟨o',es,ep,vt,Au,_⟩,_⟩:=I.loc;rw[z,vt] at ho;cases ho;rw[Au] at hd;cases hd
def Inv.ko (I:Inv X pins σ H s):s.heap.FunFrames X.base X.outer:=by
 have all:∀l,(∀b∈kJ l,b∈X.fs)->X.s₀.heap.FunFrames X.base l->s.heap.FunFrames X.base l:=by
  intro l
  induction l with
  | nil=>intro _ _;trivial
  | cons env r ih=>
   intro hs hl;obtain⟨hk,⟨L,o,hf,hn,ho,hd⟩,hr⟩:=hl;have hL:=hs L (by unfold kJ;rw[Y6,hf];exact Jm);obtain⟨sl,e⟩:=I.base.slot L o ho (I.ok.frf L hL) hL fun z=>I.ok.exfs L z hL;exact⟨hk,⟨L,_,hf,hn,e,hd⟩,ih (fun b hb=>hs b (by unfold kJ;rw[Y6,hf];exact Jj _ hb)) hr⟩
 exact all X.outer (fun _ hb=>hb) I.ok.ko
def Inv.stack (I:Inv X pins σ H s):s.heap.FunFrames X.base X.stack:=by
 rcases I.ok.stk with e|⟨e,hf⟩
 ·rw[e];exact I.ko
 ·rw[e];obtain⟨m,hn,_⟩:=I.loc;exact .cons (by rw[I.ok.kind];decide) hf hn (QcD (Jg I.ok.bsz I.ok.above)) I.ko
def Inv.uc (I:Inv X pins σ H s):∀b∈kJ X.stack,b∈X.env.locals::X.fs:=fun b hb=>by
 rcases I.ok.stk with e|⟨e,hf⟩
 ·rw[e] at hb;exact Jj _ hb
 ·rw[e] at hb;unfold kJ at hb;rw[Y6,hf] at hb;exact hb
def Inv.tw (I:Inv X pins σ H s):∀b∈kJ X.stack,H b=none:=fun b hb=>by
 rcases Jq.mp (I.uc b hb) with e|hb
 ·rw[e];exact I.free
 ·obtain⟨_,o,ho,_⟩:=I.ok.ko.mem hb;exact I.base.free b o ho (I.ok.frf b hb) fun z=>I.ok.exfs b z hb
def Inv.step {d':Drawn}{ch:List Gc}(I:Inv X pins σ H s)
  (sI:∀b∈ch,(b∈X.ex\/X.s₀.heap.objs.size<=b)/\b≠X.env.locals/\(∀x c,X.env.cells.lookup x=some c->c≠b)/\∀p∈X.pn++pins,p.1≠b)
  (keep:∀b o,b≠X.env.locals->b∉X.fs->b∉ch->s.heap.get? b=some o->H b=none->h'.get? b=some o)
  (slot:∀b o,b≠X.env.locals->b∈X.fs->b∉ch->s.heap.get? b=some o->H b=none->∃sl,h'.get? b=some { o with slots:=sl }) (free:∀b o,b∉ch->s.heap.get? b=some o->H b=none->H' b=none)
  (there:∀b o,b∉ch->s.heap.get? b=some o->∃o',h'.get? b=some o')
  (jC:∀b xs,H b=some (.tup xs)->H' b=some (.tup xs)) (jw:∀b o u,H b=some (.frz o u)->H' b=some (.frz o u)) (kr:∀b ps,H b=some (.tbl ps)->∃more,H' b=some (.tbl (ps++more)))
  (ns:∀m,s.heap.Ns X.env.locals m->h'.Ns X.env.locals m) (bq:jr X.prog X.w H' h') (hg:Qch g') :
  Inv X pins σ H' { s with heap:=h',gens:=g',drawn:=d',toks:=t' }:=by
 have UY:∀b o,X.s₀.heap.get? b=some o->b≠X.env.locals:=fun b o e=>Jl (Jw (Jf e) I.ok.above);have Qx:∀b o,X.s₀.heap.get? b=some o->b∉X.ex->b∉ch:=fun b o e hx hb=>by
  rcases(sI b hb).1 with z|z
  ·exact hx z
  ·exact absurd (Jw (Jf e) z) (Uh _)
 have cellK:∀x c,X.env.cells.lookup x=some c->∀v,s.heap.IsCell c v->h'.IsCell c v:=fun x c e v ⟨o,ho,hd⟩=>by
  have I0:=fun z=>(sI c z).2.2.1 x c e rfl
  by_cases hc:c∈X.fs
  ·obtain⟨sl,q⟩:=slot c o (I.Hn x c e) hc I0 ho (I.freeC x c e);exact⟨_,q,hd⟩
  ·exact⟨o,keep c o (I.Hn x c e) hc I0 ho (I.freeC x c e),hd⟩
 refine⟨I.ok,I.os,hg,⟨fun b o e n hb hx =>?_,fun b o e n hb hx =>?_,fun b o e n hx =>?_,fun b o e hx =>?_,fun b xs e=>jC b xs (I.base.jC b xs e),fun b o xs e=>jw b o xs (I.base.jw b o xs e),fun b ps e =>?_⟩,?_,fun x c e =>?_,?_,fun x c e =>?_,fun p hp =>?_,bq,I.len⟩
 ·exact keep b o (UY b o e) hb (Qx b o e hx) (I.base.keep b o e n hb hx) (I.base.free b o e n hx)
 ·obtain⟨sl,e1⟩:=I.base.slot b o e n hb hx;obtain⟨sl',e2⟩:=slot b _ (UY b o e) hb (Qx b o e hx) e1 (I.base.free b o e n hx);exact⟨sl',e2⟩
 ·obtain⟨o',e1⟩:=I.base.there b o e hx;exact free b o' (Qx b o e hx) e1 (I.base.free b o e n hx)
 ·obtain⟨o',e1⟩:=I.base.there b o e hx;exact there b o' (Qx b o e hx) e1
 ·obtain⟨m1,e1⟩:=I.base.kr b ps e;obtain⟨m2,e2⟩:=kr b _ e1;exact⟨m1++m2,by rw[e2,Array.append_assoc]⟩
 ·obtain⟨m,hn,hl⟩:=I.loc;refine⟨m,ns m hn,fun i x v e1 e2 e3 =>?_⟩;obtain⟨u,r,l⟩:=hl i x v e1 e2 e3;refine⟨u,r,?_⟩
  rcases l with l|⟨k,c,e,z⟩
  ·exact .inl l
  ·exact .inr ⟨k,c,e,cellK x c e _ z⟩
 ·obtain⟨v,z⟩:=I.cell x c e;exact⟨v,cellK x c e v z⟩
 ·obtain⟨m,⟨o,_,_,ho,_⟩,_⟩:=I.loc;exact free _ o (fun z=>(sI _ z).2.1 rfl) ho I.free
 ·obtain⟨v,o,ho,hd⟩:=I.cell x c e;exact free c o (fun z=>(sI c z).2.2.1 x c e rfl) ho (I.freeC x c e)
 ·obtain⟨e,n,ne,nf,d⟩:=I.pin p hp;have I0:=fun z=>(sI p.1 z).2.2.2 p hp rfl;exact⟨keep p.1 p.2 ne nf I0 e n,free p.1 p.2 I0 e n,ne,nf,d⟩
def Inv.un (I:Inv X pins σ H s)(u:Un X.fs [] H H' s.heap h')(bq:jr X.prog X.w H' h'):Inv X pins σ H' { s with heap:=h',toks:=t' }:=by
 obtain⟨m,⟨o,es,ep,ho,r⟩,_⟩:=id I.loc;obtain⟨sl,hL⟩:=u.any ho I.free (by simp);exact I.step (ch:=[]) (fun _ z=>nomatch z) (fun b o _ hb _ e n=>u.keep b o e n hb (by simp)) (fun b o _ hb _ e n=>u.slot b o e n hb (by simp)) (fun b o _ e n=>u.free b o e n (by simp)) (fun b o _ e=>u.there b o e (by simp)) u.jC u.jw u.kr (fun m' hm=>by
  obtain⟨o',CY,ep',vt,r'⟩:=hm;rw[ho] at vt;cases vt;exact⟨_,CY,ep',hL,r'⟩) bq I.bare
def Inv.call {d':Drawn}{ch:List Gc}(I:Inv X pins σ H s)(u:Un (kJ X.stack) ch H H' s.heap h')(bq:jr X.prog X.w H' h')(hg:Qch g')
  (sI:∀b∈ch,(b∈X.ex\/X.s₀.heap.objs.size<=b)/\b≠X.env.locals/\(∀x c,X.env.cells.lookup x=some c->c≠b)/\∀p∈X.pn++pins,p.1≠b) :
  Inv X pins σ H' { s with heap:=h',gens:=g',drawn:=d',toks:=t' }:=by
 obtain⟨m,⟨o,es,ep,ho,r⟩,_⟩:=id I.loc;obtain⟨sl,hL⟩:=u.any ho I.free fun z=>(sI _ z).2.1 rfl;exact I.step sI (fun b o hL hb hc e n=>u.keep b o e n (fun z=>(Jq.mp (I.uc b z)).elim hL hb) hc) (fun b o _ _ hc e n=>u.any e n hc) (fun b o hc e n=>u.free b o e n hc) (fun b o hc e=>u.there b o e hc) u.jC u.jw u.kr (fun m' hm=>by
  obtain⟨o',CY,ep',vt,r'⟩:=hm;rw[ho] at vt;cases vt;exact⟨_,CY,ep',hL,r'⟩) bq hg
def Inv.turned {it:Gc}(I:Inv X pins σ H s)(k:∀b o,b≠it->s.heap.get? b=some o->h'.get? b=some o)(hn:H it=none)(hL:it≠X.env.locals)
  (h1:it∈X.ex\/X.s₀.heap.objs.size<=it) (h2:∀x c,X.env.cells.lookup x=some c->c≠it) (h3:∀p∈X.pn++pins,p.1≠it):Inv X pins σ H { s with heap:=h',toks:=t' }:=by
 have TF:∀b u,H b=some u->b≠it:=fun b u e z=>by rw[z,hn] at e;cases e
 refine I.step (ch:=[it]) (fun b hb =>?_) (fun b o _ _ hc e _=>k b o (fun z=>hc (by simp[z])) e) (fun b o _ _ hc e _=>⟨o.slots,k b o (fun z=>hc (by simp[z])) e⟩) (fun _ _ _ _ n=>n)
  (fun b o hc e=>⟨o,k b o (fun z=>hc (by simp[z])) e⟩) (fun _ _ e=>e) (fun _ _ _ e=>e) (fun b ps e=>⟨#[],by rw[e];simp⟩) (fun m hm =>?_) (fun b u e =>?_) I.bare
 ·have e:b=it:=by simpa using hb
  subst e;exact⟨h1,hL,h2,h3⟩
 ·obtain⟨o,es,ep,ho,r⟩:=hm;exact⟨o,es,ep,k _ o (Zx hL) ho,r⟩
 ·refine(I.bq b u e).gW (fun c v hc q=>k c v ?_ q) (fun _ q=>q) fun _ _ q=>q
  rcases hc with z|z
  ·rw[z];exact TF b u e
  ·exact TF c _ z
def Inv.tok (I:Inv X pins σ H s)(t:Nat):Inv X pins σ H { s with toks:=t }:=I.un Un.refl I.bq
def Inv.kept (I:Inv X pins σ H s)(k:∀b u,s.heap.get? b=some u->h'.get? b=some u):Inv X pins σ H { s with heap:=h',toks:=t' }:=I.un (Un.kept k) (I.bq.kept k)
def Inv.laid {a:Gc}{o:HO}{t':Nat}(I:Inv X pins σ H s)(k:∀b u,s.heap.get? b=some u->h'.get? b=some u)(hp:s.heap.objs.size<=a)(new:bt X.prog X.w (upd H a o) h' a o):
  Inv X pins σ (upd H a o) { s with heap:=h',toks:=t' }:=I.un (Un.laid k hp (I.bq.fresh hp)) (I.bq.laid k hp new)
def Inv.write (I:Inv X pins σ H s)(mu:PB (H x))(he:e=x\/H e=some (.own x))(k:∀b u,b≠e->s.heap.get? b=some u->h'.get? b=some u)(MX:∃u,h'.get? e=some u)
  (new:bt X.prog X.w (upd H x o) h' x o):Inv X pins σ (upd H x o) { s with heap:=h',toks:=t' }:=I.un (Un.write mu he k MX) (I.bq.write mu he k MX new)
def Inv.weak (I:Inv X pins σ H s)(hl: σ'.length = σ.length)(w:∀(i:Nat) v,σ'[i]? = some (some v) -> σ[i]? = some (some v)):Inv X pins σ' H s:=
 ⟨I.ok,I.os,I.bare,I.base,let ⟨m,hn,Iw⟩:=I.loc; ⟨m,hn,fun i x v e1 e2 e3=>Iw i x v e1 (w i v e2) e3⟩,I.cell,I.free,I.freeC,I.pin,I.bq,hl.trans I.len⟩
def Inv.oK (I:Inv X pins σ H s)(h:∀p∈nV,s.heap.get? p.1=some p.2/\H p.1=none/\p.1≠X.env.locals/\p.1∉X.fs/\∀v,p.2.data ≠ .cell v):Inv X nV σ H s:=
 ⟨I.ok,I.os,I.bare,I.base,I.loc,I.cell,I.free,I.freeC,fun p hp=>(Ub.mp hp).elim (fun z=>I.pin p (Us _ z)) (h p),I.bq,I.len⟩
def pF {N:List Str}(hN:N.Nodup){i j:Nat}{x:Str}(a:N[i]? = some x)(b:N[j]? = some x):i=j:=by
 obtain⟨h1,e1⟩:=Ji.mp a;obtain⟨h2,e2⟩:=Ji.mp b;exact(List.getElem_inj hN).mp (e1.trans e2.symm)
def rT {i:Nat}{x:Str}{v:V}{u:Fk}{Q:Unit->Wp->Prop}(I:Inv X pins σ H s)(hN:X.N.Nodup)(hi:X.N[i]? = some x)(hx:Loc X.env.scope x)(r:RelV v u)
  (h:∀s',Inv X pins (σ.set i (some v)) H s'->(∃a,U4 a s.heap s'.heap/\(a=X.env.locals\/X.env.cells.lookup x=some a))->Q () s') (hf:X.fn x=true\/X.env.scope.names.lookup x=some .local:=by first|exact .inl rfl|exact .inr rfl|assumption):YX M A (storeName X.env x u) Q E s:=by
 obtain⟨m,hn,hl⟩:=id I.loc;have TM:i < σ.length:=by rw[I.len];exact(Ji.mp hi).1
 have Hn:=I.Hn;have tracked:∀{a:Gc} {h':Heap},(∃o,s.heap.get? a=some o/\H a=none)->U4 a s.heap h'->jr X.prog X.w H h':=fun{a h'} ha hs b ob e=>by
  obtain⟨_,_,zi⟩:=ha;refine(I.bq b ob e).gW (fun c w' hc q=>(hs.2 c ?_).trans q) (fun _ q=>q) fun _ _ q=>q;rintro rfl
  rcases hc with rfl|hc
  ·rw[zi] at e;cases e
  ·rw[zi] at hc;cases hc
 rcases hx with hk|hk
 ·refine wpAny_storeName_local hk hn (fun h' hn' hs =>?_) (by rw[I.ok.kind];rfl);obtain⟨oL,_,_,hoL,_⟩:=id hn;refine h _ ⟨I.ok,I.os,I.bare,⟨fun b o e n hb hx =>?_,fun b o e n hb hx =>?_,I.base.free,fun b o e hx =>?_,I.base.jC,I.base.jw,I.base.kr⟩,⟨_,hn',fun j y v' e1 e2 e3 =>?_⟩,fun y c e =>?_,I.free,I.freeC,fun p hp =>?_,tracked ⟨oL,hoL,I.free⟩ hs,by simpa using I.len⟩ ⟨_,hs,.inl rfl⟩
  ·exact(hs.2 b (Jl (Jw (Jf e) I.ok.above))).trans (I.base.keep b o e n hb hx)
  ·obtain⟨sl,e1⟩:=I.base.slot b o e n hb hx;exact⟨sl,(hs.2 b (Jl (Jw (Jf e) I.ok.above))).trans e1⟩
  ·obtain⟨o',e1⟩:=I.base.there b o e hx;exact⟨o',(hs.2 b (Jl (Jw (Jf e) I.ok.above))).trans e1⟩
  ·by_cases hj:j=i
   ·subst hj;rw[hi] at e1;cases e1;rw[Yi TM] at e2;cases e2;exact⟨u,r,.inl ⟨hk,by simp⟩⟩
   ·rw[Yb (Zx hj)] at e2;obtain⟨u',r',q⟩:=hl j y v' e1 e2 e3;refine⟨u',r',?_⟩
    rcases q with ⟨k,e⟩|⟨k,c,e,z⟩
    ·refine .inl ⟨k,?_⟩;have:y≠x:=fun e=>hj (pF hN e1 (e▸hi));simp[this,e]
    ·exact .inr ⟨k,c,e,z.sameBut hs (Hn y c e)⟩
  ·obtain⟨w',z⟩:=I.cell y c e;exact⟨w',z.sameBut hs (Hn y c e)⟩
  ·obtain⟨e,n,ne,nf,d⟩:=I.pin p hp;exact⟨(hs.2 p.1 ne).trans e,n,ne,nf,d⟩
 ·have SK:X.fn x=true:=by
   rcases hf with z|z
   ·exact z
   ·rw[z] at hk;cases hk
  obtain⟨c,hc⟩:=I.ok.has x (.inl hk);obtain⟨w',z⟩:=I.cell x c hc;refine wpAny_storeName_cell I.ok.kind hk hc z (fun h' hc' hs =>?_);obtain⟨oc,hoc,hocd⟩:=id z;refine h { s with heap:=h' } ⟨I.ok,I.os,I.bare,⟨fun b o e n hb hx =>?_,fun b o e n hb hx =>?_,I.base.free,fun b o e hx =>?_,I.base.jC,I.base.jw,I.base.kr⟩,⟨m,hn.sameBut hs (Zx (Hn x c hc)),fun j y v' e1 e2 e3 =>?_⟩,fun y c' e =>?_,I.free,I.freeC,fun p hp =>?_,tracked ⟨oc,hoc,I.freeC x c hc⟩ hs,by simpa using I.len⟩ ⟨c,hs,.inr hc⟩
  ·exact(hs.2 b (Jl (Jw (Jf e) (I.ok.cab x c SK hc)))).trans (I.base.keep b o e n hb hx)
  ·obtain⟨sl,e1⟩:=I.base.slot b o e n hb hx;exact⟨sl,(hs.2 b (Jl (Jw (Jf e) (I.ok.cab x c SK hc)))).trans e1⟩
  ·obtain⟨o',e1⟩:=I.base.there b o e hx;exact⟨o',(hs.2 b (Jl (Jw (Jf e) (I.ok.cab x c SK hc)))).trans e1⟩
  ·by_cases hj:j=i
   ·subst hj;rw[hi] at e1;cases e1;rw[Yi TM] at e2;cases e2;exact⟨u,r,.inr ⟨.inl hk,c,hc,hc'⟩⟩
   ·rw[Yb (Zx hj)] at e2;obtain⟨u',r',q⟩:=hl j y v' e1 e2 e3;refine⟨u',r',?_⟩
    rcases q with q|⟨k,c',e,z'⟩
    ·exact .inl q
    ·refine .inr ⟨k,c',e,z'.sameBut hs ?_⟩;rintro rfl;exact hj (pF hN e1 (I.ok.inj _ _ _ e hc▸hi))
  ·by_cases Nd:c'=c
   ·subst Nd;exact⟨_,hc'⟩
   ·obtain⟨w2,z2⟩:=I.cell y c' e;exact⟨w2,z2.sameBut hs Nd⟩
  ·obtain⟨e,n,ne,nf,d⟩:=I.pin p hp;refine⟨(hs.2 p.1 ?_).trans e,n,ne,nf,d⟩;intro q;rw[q,hoc] at e;exact d w' (by rw[<-(Zk e)];exact hocd)
def iO {i:Nat}{x:Str}{v:V}{u:Fk}{Q:Unit->Wp->Prop}(I:Inv X pins σ H s)(hN:X.N.Nodup)(hi:X.N[i]? = some x)(hx:Loc X.env.scope x)(r:RelV v u)
  (h:∀s',Inv X pins (σ.set i (some v)) H s'->Q () s') (hf:X.fn x=true\/X.env.scope.names.lookup x=some .local:=by first|exact .inl rfl|exact .inr rfl|assumption):YX M A (storeName X.env x u) Q E s:=
 rT I hN hi hx r (fun s' I' _=>h s' I') hf
def Inv.Ag {ch:List Gc}(I:Inv X pins σ H s)(ho:s'.os=s.os)(u:Un (kJ X.stack) ch H H' s.heap s'.heap)(bq:jr X.prog X.w H' s'.heap)(hg:Qch s'.gens)
  (sI:∀b∈ch,(b∈X.ex\/X.s₀.heap.objs.size<=b)/\b≠X.env.locals/\(∀x c,X.env.cells.lookup x=some c->c≠b)/\∀p∈X.pn++pins,p.1≠b):Inv X pins σ H' s':=by
 obtain⟨h',g',d',t',o'⟩:=s';subst ho;exact I.call u bq hg sI
end
abbrev XK:=Fk->Option Gc->Hp->Prop
abbrev St:=List (Option V)
abbrev VK:=V->Hp->Prop
abbrev TE:=St->Hp->VK->Prop
abbrev TT:=St->Hp->(Bool->Hp->Prop)->Prop
abbrev TA:=St->Hp->(List V->Hp->Prop)->Prop
structure Ends where
 nx:St->Hp->Prop
 rt:VK
 bk:St->Hp->Prop:=fun _ _=>False
 ct:St->Hp->Prop:=fun _ _=>False
abbrev TS:=Ends->St->Hp->Prop
def EP (X:Cx)(pins:List (Gc×Obj))(σ:St)(Q:VK)(u:Fk)(s':Wp):Prop:=fG fun v H'=>Inv X pins σ H' s'/\RelV v u/\Q v H'
def TP (X:Cx)(pins:List (Gc×Obj))(σ:St)(Q:Bool->Hp->Prop)(b:Bool)(s':Wp):Prop:=∃H',Inv X pins σ H' s'/\Q b H'
def AP (X:Cx)(pins:List (Gc×Obj))(σ:St)(Q:List V->Hp->Prop)(us:List Fk)(s':Wp):Prop:=fG fun vs H'=>Inv X pins σ H' s'/\Vals vs us/\Q vs H'
instance R5 {X:Cx} {pins:List (Gc×Obj)} {σ:St} {Q:VK} {u:Fk} {s':Wp}:aj (EP X pins σ Q u s') (fun G=>∀v H',Inv X pins σ H' s'->RelV v u->Q v H'->G):=⟨fun⟨v,H',a,b,c⟩ _ k=>k v H' a b c⟩
instance RO {X:Cx} {pins:List (Gc×Obj)} {σ:St} {Q:Bool->Hp->Prop} {b:Bool} {s':Wp}:aj (TP X pins σ Q b s') (fun G=>∀H',Inv X pins σ H' s'->Q b H'->G):=⟨fun⟨H',a,c⟩ _ k=>k H' a c⟩
instance Q1 {X:Cx} {pins:List (Gc×Obj)} {σ:St} {Q:List V->Hp->Prop} {us:List Fk} {s':Wp}:aj (AP X pins σ Q us s') (fun G=>∀vs H',Inv X pins σ H' s'->Vals vs us->Q vs H'->G):=⟨fun⟨v,H',a,b,c⟩ _ k=>k v H' a b c⟩
def SP (X:Cx)(pins:List (Gc×Obj))(D:Ends)(f:Flow)(s':Wp):Prop:=
 match f with
 | .next=>fG fun σ' H'=>Inv X pins σ' H' s'/\D.nx σ' H'
 | .brk=>fG fun σ' H'=>Inv X pins σ' H' s'/\D.bk σ' H'
 | .cont=>fG fun σ' H'=>Inv X pins σ' H' s'/\D.ct σ' H'
 | .ret u=>oG fun v σ' H'=>Inv X pins σ' H' s'/\RelV v u/\D.rt v H'
def PE (X:Cx)(e:ZA)(t:TE):Prop:=
 ∀ ⦃pins:List (Gc×Obj)⦄ (s:Wp) (σ:St) (H:Hp) (Q:VK),Inv X pins σ H s->t σ H Q->YX (YW X.prog X.w) X.A (ZM e X.env) (EP X pins σ Q) X.xe s
def PT (X:Cx)(e:ZA)(t:TT):Prop:=
 ∀ ⦃pins:List (Gc×Obj)⦄ (s:Wp) (σ:St) (H:Hp) (Q:Bool->Hp->Prop),Inv X pins σ H s->t σ H Q->YX (YW X.prog X.w) X.A (isTrue e X.env (ZM e X.env)) (TP X pins σ Q) X.xe s
def PW (X:Cx)(e:ZA)(t:TT):Prop:=
 ∀ ⦃whole:Sem Fk⦄ ⦃pins:List (Gc×Obj)⦄ (s:Wp) (σ:St) (H:Hp) (Q:Bool->Hp->Prop),Inv X pins σ H s->t σ H Q->YX (YW X.prog X.w) X.A (isTrue e X.env whole) (TP X pins σ Q) X.xe s
def PW.pt (h:PW X e t):PT X e t:=fun pins s σ H Q I q=>h s σ H Q I q
def PA (X:Cx)(es:List ZA)(t:TA):Prop:=
 ∀ ⦃pos:Pos⦄ ⦃pins:List (Gc×Obj)⦄ (s:Wp) (σ:St) (H:Hp) (Q:List V->Hp->Prop),Inv X pins σ H s->t σ H Q->YX (YW X.prog X.w) X.A (spliced (QaS pos (Ze es X.env))) (AP X pins σ Q) X.xe s
def PS (X:Cx)(st:QbR)(t:TS):Prop:=
 ∀ ⦃pins:List (Gc×Obj)⦄ (s:Wp) (σ:St) (H:Hp) (D:Ends),Inv X pins σ H s->t D σ H->YX (YW X.prog X.w) X.A (exec st X.env) (SP X pins D) X.xe s
def xb (X:Cx)(st:List QbR)(t:TS):Prop:=
 ∀ ⦃pins:List (Gc×Obj)⦄ (s:Wp) (σ:St) (H:Hp) (D:Ends),Inv X pins σ H s->t D σ H->YX (YW X.prog X.w) X.A (execs st X.env) (SP X pins D) X.xe s
def bb {M:Model}{A:Zs}{E:Fk->Wp->Prop}{s:Wp}(h:YX M A t Q E s)(hQ:∀a s,Q a s->Q' a s):YX M A t Q' E s:=Z9 h hQ fun _ _ x=>x
section
variable {X:Cx}
def GP (i:Nat):TE:=fun σ H Q=>∃v,σ[i]? = some (some v)/\Q v H
def tC (v:V):TE:=fun _ H Q=>Q v H
def Km {pos:Pos}(hN:X.N[i]? = some x)(hv:Ow X.env.scope x)(hd:(x==("__debug__" : Str))=false:=by decide)(yn:(x==("__classdict__" : Str))=false:=by decide):PE X (.Name x pos) (GP i):=by
 intro pins s σ H Q I h;obtain⟨v,e,h⟩:=h;obtain⟨m,hn,hl⟩:=I.loc;obtain⟨u,r,l⟩:=hl i x v hN e hv;have fin:EP X pins σ Q u s:=⟨v,H,I,r,h⟩
 rcases l with ⟨hk,hm⟩|⟨hk,c,hc,hcell⟩
 ·exact wpAny_Name (wpAny_loadName_local I.ok.kind hk hn hm fin) hd
 ·rcases hk with hk|hk
  ·exact wpAny_Name (wpAny_loadName_cell I.ok.kind hk hc hcell fin) hd
  ·exact wpAny_Name (wpAny_loadName_free I.ok.kind hk hc hcell fin yn) hd
def ah:PE X (.Constant (.int i) j pos) (tC (.int i)):=fun _ _ _ H _ I h=>wpAny_Constant_int ⟨.int i,H,I.tok _,⟨_,rfl⟩,h⟩
def kE:PE X (.Constant (.bool b) j pos) (tC (.bl b)):=fun _ _ _ H _ I h=>Constant_bool ⟨.bl b,H,I,rfl,h⟩
def a9:PE X (.Constant .none j pos) (tC .non):=fun _ _ _ H _ I h=>Constant_none ⟨.non,H,I,rfl,h⟩
def aq:PE X (.Constant (.str x) j pos) (tC (.str x)):=fun _ _ _ H _ I h=>Calls.Constant_str ⟨.str x,H,I.tok _,⟨_,rfl⟩,h⟩
def Gl (X:Cx)(x:Str):Prop:=X.env.kindOf x=some .globalImplicit
def iT {pins:List (Gc×Obj)}{s:Wp}{σ:St}{H:Hp}{x:Str}{u:Fk}{pos:Pos}{Q:Fk->Wp->Prop}(I:Inv X pins σ H s)(hg:Gl X x)(hm:X.mg x=some u)(h:Q u s)
  (hd:(x==("__debug__" : Str))=false:=by decide):YX (YW X.prog X.w) X.A (ZM (.Name x pos) X.env) Q E s:=
 QdT I.ok.kind hg (Calls.loadGlobal_global (by rw[I.ok.glob];exact I.mod.glob.keeps I.bk) hm h) hd
def eZ {E:Fk->Wp->Prop}{pins:List (Gc×Obj)}{s:Wp}{σ:St}{H:Hp}{x:Str}{u:Fk}{pos:Pos}{Q:Fk->Wp->Prop}(I:Inv X pins σ H s)(hg:Gl X x)(hm:X.mg x=none)(hv:ZO x=some u)(h:Q u s)
  (hn:x ≠ "__name__":=by decide) (hd:(x==("__debug__" : Str))=false:=by decide):YX (YW X.prog X.w) X.A (ZM (.Name x pos) X.env) Q E s:=by
 obtain⟨mb,h1,h2⟩:=I.mod.blt;exact QdT I.ok.kind hg (Calls.loadGlobal_builtin (by rw[I.ok.glob];exact I.mod.glob.keeps I.bk) hm (by rw[I.ok.blt];exact h1.keeps I.bk) ((h2 x hn).trans hv) h) hd
def uw {u:Fk}{pos:Pos}(hg:Gl X x)(hm:X.mg x=some u)(r:RelV v u)(hd:(x==("__debug__" : Str))=false:=by decide):PE X (.Name x pos) (tC v):=
 fun _ _ _ H _ I h=>iT I hg hm ⟨v,H,I,r,h⟩ hd
def bI {u:Fk}{pos:Pos}(hg:Gl X x)(hm:X.mg x=none)(hv:ZO x=some u)(r:RelV v u)(hn:x ≠ "__name__":=by decide)(hd:(x==("__debug__" : Str))=false:=by decide):PE X (.Name x pos) (tC v):=
 fun _ _ _ H _ I h=>eZ I hg hm hv ⟨v,H,I,r,h⟩ hn hd
variable {a b:ZA}{ta tb:TE}{pos:Pos}
def PC (X:Cx)(op:CmpOp)(a b:ZA)(t:TE):Prop:=
 ∀ ⦃pins:List (Gc×Obj)⦄ (s:Wp) (σ:St) (H:Hp) (Q:VK),Inv X pins σ H s->t σ H Q ->
  YX (YW X.prog X.w) X.A (ZM a X.env) (fun v s₁=>YX (YW X.prog X.w) X.A (ZM b X.env) (fun u s₂=>YX (YW X.prog X.w) X.A (Zv op v u) (EP X pins σ Q) X.xe s₂) X.xe s₁) X.xe s
def tB (t:TE):TT:=fun σ H Q=>t σ H fun x H1=>∃c,x = .bl c/\Q c H1
def KO (h:PC X op a b t)(h1:Qck op b=false:=by first|exact nobehind _ rfl rfl|rfl):PT X (.Compare a [op] [b] pos) (tB t):=by
 refine fun pins s σ H Q I hw=>wpAny_isTrue_Compare1 (bb (h s σ H _ I hw) fun v s1 h1=>bb h1 fun u s2 h2=>bb h2 fun c s3 hz_=>aj.el hz_ _ fun x H1 I1 r1 q1 =>?_) h1;obtain⟨d,rfl,q⟩:=q1;cases r1;exact Qaf ⟨H1,I1,q⟩
def cI (h:PE X e t)(he:∀whole,isTrue e X.env whole=(do let v <-whole;standAt e.pos;holding [v] (truthy v)):=by intro _;rfl):PT X e (tB t):=by
 refine fun pins s σ H Q I hw=>isTrue_plain (bb (h s σ H _ I hw) fun v s1 hz_=>aj.el hz_ _ fun x H1 I1 r1 q1 =>?_) (he _);obtain⟨d,rfl,q⟩:=q1;cases r1;exact Qaf ⟨H1,I1,q⟩
variable {tA TB:TT}{rest:List ZA}
def X5 (t u:TT):TT:=fun σ H Q=>t σ H fun c H1=>if c=true then Q true H1 else u σ H1 Q
def SA (t:TT):TT:=fun σ H Q=>t σ H fun c H1=>Q (!c) H1
def hW (ha:PT X a tA):PW X (.BoolOp .Or [a] pos) tA:=by
 refine fun wh pins s σ H Q I h=>isTrue_or (bb (ha s σ H Q I h) fun c s1 e =>?_);cases c with
 | false=>exact isTrue_or_nil e
 | true=>exact e
def ju (ha:PT X a tA)(hb:PW X (.BoolOp .Or (b::rest) pos) TB):PW X (.BoolOp .Or (a::b::rest) pos) (X5 tA TB):=by
 refine fun wh pins s σ H Q I h=>isTrue_or (bb (ha s σ H _ I h) fun c s1 hz_=>aj.el hz_ _ ?_);rintro H1 I1 q1;cases c with
 | true=>exact⟨H1,I1,q1⟩
 | false=>exact hb s1 σ H1 Q I1 q1
def eJ (ha:PT X a tA):PT X (.UnaryOp .Not a pos) (SA tA):=
 fun pins s σ H Q I h=>isTrue_not (ha s σ H (fun c H1=>Q (!c) H1) I h)
def Nv (ta tb:TE):TE:=fun σ H Q=>ta σ H fun x H1=>∃c,x = .bl c/\if c=true then tb σ H1 Q else Q (.bl false) H1
def Oj (ta:TE):TE:=fun σ H Q=>ta σ H fun x H1=>∃c,x = .bl c/\Q (.bl (!c)) H1
def lr {t:TE}(h:PE X a t):PE X (.BoolOp op [a] pos) t:=fun pins s σ H Q I hw=>BoolOp_one (h s σ H Q I hw)
def fY (ha:PE X a ta)(hb:PE X (.BoolOp .And (b::rest) pos) tb):PE X (.BoolOp .And (a::b::rest) pos) (Nv ta tb):=by
 refine fun pins s σ H Q I h=>BoolOp_and (bb (ha s σ H _ I h) fun v s1 hz_=>aj.el hz_ _ ?_);rintro x H1 I1 r1 q1;obtain⟨c,rfl,q1⟩:=q1;cases r1;refine Qaf ?_;cases c with
 | true=>exact hb s1 σ H1 Q I1 q1
 | false=>exact⟨.bl false,H1,I1,rfl,q1⟩
def Du (ha:PE X a ta):PE X (.UnaryOp .Not a pos) (Oj ta):=by
 refine fun pins s σ H Q I h=>UnaryOp_ (bb (ha s σ H _ I h) fun v s1 hz_=>aj.el hz_ _ ?_);rintro x H1 I1 r1 q1;obtain⟨c,rfl,q1⟩:=q1;cases r1;exact not_of (Qaf ⟨.bl (!c),H1,I1,rfl,q1⟩)
def Nu (t:TT)(ta tb:TE):TE:=fun σ H Q=>t σ H fun c H1=>if c=true then ta σ H1 Q else tb σ H1 Q
def dg (hc:PT X c tA)(ha:PE X a ta)(hb:PE X b tb):PE X (.IfExp c a b pos) (Nu tA ta tb):=by
 refine fun pins s σ H Q I h=>wpAny_IfExp (bb (hc s σ H _ I h) fun d s1 hz_=>aj.el hz_ _ ?_);rintro H1 I1 q1;cases d with
 | true=>exact ha s1 σ H1 Q I1 q1
 | false=>exact hb s1 σ H1 Q I1 q1
end
def bg (K:Ja)(H:Hp)(a:Gc)(xs:List V):Prop:=
 Rd H a (.lst xs) \/
  oG fun o aF n=>K.lookup a=some o/\o.cls = .type "list" /\ o.dict=none/\o.data = .seq aF n/\aF.size<=KE/\Vals xs aF.toList
def aY (K:Ja)(H:Hp)(a:Gc)(xs:List V):Prop:=
 Rd H a (.tup xs) \/
  oG fun o aF n=>K.lookup a=some o/\o.cls = .type "tuple" /\ o.dict=none/\o.data = .seq aF n/\aF.size<=KE/\Vals xs aF.toList
def Su:Fk->Option V
 | .none=>some .non
 | .bool b=>some (.bl b)
 | .int i _=>some (.int i)
 | .str x _=>some (.str x)
 | .bytes b _=>some (.byt b)
 | .float b _=>some (.flt b)
 | .ref a=>some (.ref a)
 | .type n=>some (.ty n)
 | _=>none
def RelV.abs (r:RelV x u):Su u=some x:=by
 cases x with
 | non=>cases r;rfl
 | bl _=>cases r;rfl
 | int _=>obtain⟨t,rfl⟩:=r;rfl
 | str _=>obtain⟨t,rfl⟩:=r;rfl
 | byt _=>obtain⟨t,rfl⟩:=r;rfl
 | flt _=>obtain⟨t,rfl⟩:=r;rfl
 | ref _=>cases r;rfl
 | ty _=>cases r;rfl
def RelV.inj {u:Fk}(r:RelV x u)(q:RelV y u):x=y:=Zk (r.abs.symm.trans q.abs)
def Vals.inj {us:List Fk}(h:Vals xs us)(h':Vals ys us):xs=ys:=by
 induction h generalizing ys with
 | nil=>cases h';rfl
 | cons r t ih=>cases h' with|cons r' t'=>rw[RelV.inj r r',ih t']
section
variable {X:Cx}{pins:List (Gc×Obj)}{σ:St}{H:Hp}{s:Wp}{a:Gc}{xs ys:List V}
def bg.of {K:Ja}(h:H a=some (.lst xs)):bg K H a xs := .inl (.inl h)
def aY.of {K:Ja}(h:H a=some (.tup xs)):aY K H a xs := .inl (.inl h)
def Inv.list (I:Inv X pins σ H s)(h:bg X.K H a xs):∃aF,Vals xs aF/\PlainL s.heap a aF.toArray/\xs.length<=KE:=by
 rcases h with h|⟨o,aF,n,hk,hc,hd,hs,hz,r⟩
 ·obtain⟨z,aF,n,r,e⟩:=h.ok I.bq;exact⟨aF,r,⟨_,n,e,rfl,rfl,rfl⟩,z⟩
 ·refine⟨aF.toList,r,⟨o,n,I.iQ a o hk,hc,hd,by simpa using hs⟩,?_⟩;have e:=r.length;simp only[Ue] at e;lia
def Inv.tuple (I:Inv X pins σ H s)(h:aY X.K H a xs):∃aF,Vals xs aF/\IsTup s.heap a aF.toArray/\xs.length<=KE:=by
 rcases h with h|⟨o,aF,n,hk,hc,hd,hs,hz,r⟩
 ·obtain⟨z,aF,r,p⟩:=h.ok I.bq;exact⟨aF,r,p.is,z⟩
 ·refine⟨aF.toList,r,⟨o,I.iQ a o hk,hc,n,by simpa using hs⟩,?_⟩;have e:=r.length;simp only[Ue] at e;lia
def Inv.mJ (I:Inv X pins σ H s)(h:aY X.K H a xs):∃aF,Vals xs aF/\tH s.heap a aF.toArray/\xs.length<=KE:=by
 rcases h with h|⟨o,aF,n,hk,hc,hd,hs,hz,r⟩
 ·obtain⟨z,aF,r,p⟩:=h.ok I.bq;exact⟨aF,r,p,z⟩
 ·refine⟨aF.toList,r,⟨o,I.iQ a o hk,hd,hc,n,by simpa using hs⟩,?_⟩;have e:=r.length;simp only[Ue] at e;lia
def Inv.qf (I:Inv X pins σ H s)(h:bg X.K H a xs)(h':bg X.K H a ys):xs=ys:=by
 obtain⟨aF,r,⟨o,n,e,_,_,d⟩,_⟩:=I.list h;obtain⟨its',r',⟨o',n',e',_,_,d'⟩,_⟩:=I.list h';rw[e] at e';cases e';rw[d] at d'
 injection d' with d1 _
 have:aF=its':=by simpa using congrArg Array.toList d1
 subst this;exact r.inj r'
def Inv.rJ (I:Inv X pins σ H s)(h:aY X.K H a xs)(h':aY X.K H a ys):xs=ys:=by
 obtain⟨aF,r,⟨o,e,_,n,d⟩,_⟩:=I.tuple h;obtain⟨its',r',⟨o',e',_,n',d'⟩,_⟩:=I.tuple h';rw[e] at e';cases e';rw[d] at d'
 injection d' with d1 _
 have:aF=its':=by simpa using congrArg Array.toList d1
 subst this;exact r.inj r'
end
abbrev Cx.qM (X:Cx)(E:Fk->Wp->Prop):Cx:={ X with xe:=E }
abbrev Cx.Qc (X:Cx):Cx:=X.qM fun _ _=>False
def Cx.Ok.qM {X:Cx}(ok:X.Ok)(E:Fk->Wp->Prop):(X.qM E).Ok:=
 ⟨ok.mod,ok.kind,ok.glob,ok.blt,ok.above,ok.inj,ok.has,ok.cab,ok.hd,ok.frames,ok.stk,ok.exf,ok.bs,ok.bsz,ok.noex,ok.exfs,ok.ko,ok.frf⟩
def Cx.Ok.jQ {X:Cx}{E:Fk->Wp->Prop}(ok:(X.qM E).Ok):X.Ok:=
 ⟨ok.mod,ok.kind,ok.glob,ok.blt,ok.above,ok.inj,ok.has,ok.cab,ok.hd,ok.frames,ok.stk,ok.exf,ok.bs,ok.bsz,ok.noex,ok.exfs,ok.ko,ok.frf⟩
section
variable {X:Cx}{pins:List (Gc×Obj)}{σ:St}{H:Hp}{s:Wp}{E:Fk->Wp->Prop}
def Inv.qM (I:Inv X pins σ H s)(E:Fk->Wp->Prop):Inv (X.qM E) pins σ H s:=⟨I.ok.qM E,I.os,I.bare,I.base,I.loc,I.cell,I.free,I.freeC,I.pin,I.bq,I.len⟩
def Inv.jQ (I:Inv (X.qM E) pins σ H s):Inv X pins σ H s:=⟨I.ok.jQ,I.os,I.bare,I.base,I.loc,I.cell,I.free,I.freeC,I.pin,I.bq,I.len⟩
def SP.jQ (h:SP (X.qM E) pins D f s'):SP X pins D f s':=by
 cases f with
 | next=>obtain⟨σ',H',I,q⟩:=h;exact⟨σ',H',I.jQ,q⟩
 | brk=>obtain⟨σ',H',I,q⟩:=h;exact⟨σ',H',I.jQ,q⟩
 | cont=>obtain⟨σ',H',I,q⟩:=h;exact⟨σ',H',I.jQ,q⟩
 | ret u=>obtain⟨v,σ',H',I,r,q⟩:=h;exact⟨v,σ',H',I.jQ,r,q⟩
def xb.Qc {st:List QbR}{t:TS}(h:xb X.Qc st t):xb X st t:=fun pins s σ H D I hw=>
 Z9 (h s σ H D (I.qM _) hw) (fun _ _ q=>q.jQ) fun _ _ z=>ZS z
end
section
variable {X:Cx}{st:QbR}{rest:List QbR}{t u:TS}{e:ZA}{te:TE}{pos:Pos}
def bZ:TS:=fun D σ H=>D.nx σ H
def DA (t u:TS):TS:=fun D σ H=>t { D with nx:=u D } σ H
def aB:xb X [] bZ:=fun _ _ σ H _ I h=>QbH ⟨σ,H,I,h⟩
def af (h1:PS X st t)(h2:xb X rest u):xb X (st::rest) (DA t u):=by
 refine fun pins s σ H D I h=>wpAny_execs_cons (bb (h1 s σ H { D with nx:=u D } I h) fun f s1 q =>?_);cases f with
 | next=>
  obtain⟨σ',H',I',q⟩:=q;exact h2 s1 σ' H' D I' q
 | ret v=>exact q
 | brk=>exact q
 | cont=>exact q
def ag (h1:PS X st t):xb X [st] t:=by
 refine fun pins s σ H D I h=>wpAny_execs_cons (bb (h1 s σ H D I h) fun f s1 q =>?_);cases f with
 | next=>exact QbH q
 | ret v=>exact q
 | brk=>exact q
 | cont=>exact q
def Inv.quiet {σ:St}{H:Hp}{s:Wp}(I:Inv X pins σ H s):interactive X.env=false:=by simp[interactive,I.ok.kind]
def NK (te:TE):TS:=fun D σ H=>te σ H fun _ H1=>D.nx σ H1
def tG (he:PE X e te)(hs:Qc4 e none pos.line X.env=pure false:=by rfl):PS X (.Expr e pos) (NK te):=
 fun pins s σ H D I h=>wpAny_Expr_any (bb (he s σ H _ I h) fun v s1 hz_=>aj.el hz_ _ fun x H1 I1 r1 q1=>⟨σ,H1,I1,q1⟩) I.quiet hs
def RQ (te:TE):TS:=fun D σ H=>te σ H D.rt
def ao (he:PE X e te):PS X (.Return (some e) pos) (RQ te):=
 fun pins s σ H D I h=>wpAny_Return_some (bb (he s σ H _ I h) fun v s1 hz_=>aj.el hz_ _ fun x H1 I1 r1 q1=>⟨x,σ,H1,I1,r1,q1⟩)
def Ij (c:TT)(t u:TS):TS:=fun D σ H=>c σ H fun b H1=>if b=true then t D σ H1 else u D σ H1
def aV {tc:TT}(hc:PT X c tc)(ha:xb X a t)(hb:xb X b u):PS X (.If c a b pos) (Ij tc t u):=by
 refine fun pins s σ H D I h=>wpAny_If (bb (hc s σ H _ I h) fun d s1 hz_=>aj.el hz_ _ ?_);rintro H1 I1 q1;cases d with
 | true=>exact ha s1 σ H1 D I1 q1
 | false=>exact hb s1 σ H1 D I1 q1
end
abbrev TG:=V->St->Hp->(St->Hp->Prop)->Prop
abbrev CS:=List V->St->Hp->(St->Hp->Prop)->Prop
def PG (X:Cx)(target:ZA)(t:TG):Prop:=
 ∀ ⦃pins:List (Gc×Obj)⦄ (s:Wp) (σ:St) (H:Hp) (v:V) (u:Fk) (Q:St->Hp->Prop),Inv X pins σ H s->RelV v u->t v σ H Q ->
  YX (YW X.prog X.w) X.A (QeT target X.env u) (fun _ s'=>fG fun σ' H'=>Inv X pins σ' H' s'/\Q σ' H') X.xe s
def Po (X:Cx)(ts:List ZA)(t:CS):Prop:=
 ∀ ⦃pins:List (Gc×Obj)⦄ (s:Wp) (σ:St) (H:Hp) (vs:List V) (us:List Fk) (Q:St->Hp->Prop),Inv X pins σ H s->Vals vs us->t vs σ H Q ->
  YX (YW X.prog X.w) X.A (assignInOrder ((Qbs ts X.env).map (·.2)) us) (fun _ s'=>fG fun σ' H'=>Inv X pins σ' H' s'/\Q σ' H') X.xe s
abbrev Ly:=V->V->V->Hp->(Hp->Prop)->Prop
def Ob (X:Cx)(t:Ly):Prop:=
 ∀ ⦃pins:List (Gc×Obj)⦄ (s:Wp) (σ:St) (H:Hp) (o i v:V) (ov iv u:Fk) (Q:Hp->Prop),Inv X pins σ H s->RelV o ov->RelV i iv->RelV v u->t o i v H Q ->
  YX (YW X.prog X.w) X.A (setItem ov iv u) (fun _ s'=>∃H',Inv X pins σ H' s'/\Q H') X.xe s
abbrev RS:=V->V->Hp->VK->Prop
def RX (X:Cx)(op:Operator)(t:RS):Prop:=
 ∀ ⦃pins:List (Gc×Obj)⦄ (s:Wp) (σ:St) (H:Hp) (x y:V) (v u:Fk) (Q:VK),Inv X pins σ H s->RelV x v->RelV y u->t x y H Q ->
  YX (YW X.prog X.w) X.A (inplaceOp op v u) (EP X pins σ Q) X.xe s
section
variable {X:Cx}{pos:Pos}
def rV (i:Nat):TG:=fun v σ H Q=>Q (σ.set i (some v)) H
def aI (hN:X.N.Nodup)(hi:X.N[i]? = some x)(hx:Loc X.env.scope x)(hf:X.fn x=true\/X.env.scope.names.lookup x=some .local:=by first|exact .inl rfl|exact .inr rfl|assumption):PG X (.Name x pos) (rV i):=
 fun pins s σ H v u Q I r h=>wpAny_assign_Name (iO I hN hi hx r (fun s' I'=>⟨_,H,I',h⟩) hf)
def LQ:CS:=fun vs σ H Q=>vs=[]/\Q σ H
def Fu (t:TG)(u:CS):CS:=fun vs σ H Q=>fG fun v r=>vs=v::r/\t v σ H fun σ' H'=>u r σ' H' Q
def bH:Po X [] LQ:=by
 intro pins s σ H vs us Q I r h;obtain⟨e,h⟩:=h;subst e;cases r;exact assignInOrder_nil ⟨σ,H,I,h⟩
def aN {t:TG}{u:CS}(h1:PG X e t)(h2:Po X es u)
  (hs:(Qbs (e::es) X.env).map (·.2)=QeT e X.env::(Qbs es X.env).map (·.2):=by rfl):Po X (e::es) (Fu t u):=by
 intro pins s σ H vs us Q I r h;obtain⟨v,vr,e1,h⟩:=h;subst e1;cases r with
 | cons r rr=>
  rw[hs];refine Qds (bb (h1 s σ H _ _ _ I r h) fun _ s1 hz_=>aj.el hz_ _ ?_);rintro σ1 H1 I1 q1;exact h2 s1 σ1 H1 _ _ Q I1 rr q1
def Kk (K:Ja)(n:Nat)(t:CS):TG:=fun v σ H Q=>fG fun a xs=>v = .ref a/\aY K H a xs/\xs.length=n/\t xs σ H Q
def K1 {k:Nat}{t:CS}{n:Nat}(hc:X.calm=true)(h:Po X es t)
  (hn:(Qbs es X.env).length=n:=by rfl) (lA:(Qbs es X.env).findIdx? (·.1)=none:=by rfl):PG X (.Tuple es k pos) (Kk X.K n t):=by
 intro pins s σ H v u Q I r hw;obtain⟨a,xs,e1,hq,hl,hw⟩:=hw;subst e1;cases r;obtain⟨aF,rv,ht,hz⟩:=I.tuple hq;refine assign_Tuple_tuple (I.ok.hd hc) ht (by simp[hn,<-hl,rv.length]) lA fun h' hx =>?_;have I1:Inv X pins σ H { s with heap:=h' }:=I.kept fun b o e=>hx b o (Jl (Jf e)) e;exact h _ σ H xs _ Q I1 (by simpa using rv) hw
def Q4 (to ti:TE)(t:Ly):TG:=fun v σ H Q=>to σ H fun o H1=>ti σ H1 fun i H2=>t o i v H2 fun H3=>Q σ H3
def KH {to ti:TE}{t:Ly}(ho:PE X o to)(hi:PE X i ti)(hs:Ob X t)
  (ha:∀v,QeT (.Subscript o i pos) X.env v=(do
   let ov <-holding [v] (ZM o X.env)
   let iv <-holding [v,ov] (ZM i X.env)
   standAt pos
   holding [v,ov,iv] (setItem ov iv v)
   release [v,ov,iv] []):=by intro _;rfl):PG X (.Subscript o i pos) (Q4 to ti t):=by
 refine fun pins s σ H v u Q I r h=>be (Zf (bb (ho s σ H _ I h) fun ov s1 hz_=>aj.el hz_ _ ?_));rintro x H1 I1 r1 q1;refine be (Zf (bb (hi s1 σ H1 _ I1 q1) fun iv s2 hz_=>aj.el hz_ _ ?_));rintro y H2 I2 r2 q2;refine be (Qab (be (Zf (bb (hs s2 σ H2 x y v ov iv u _ I2 r1 r2 r q2) fun _ s3 hz_=>aj.el hz_ _ ?_))));rintro H3 I3 q3;exact wpAny_release ⟨σ,H3,I3,q3⟩
def GK (te:TE)(g:TG):TS:=fun D σ H=>te σ H fun x H1=>g x σ H1 D.nx
def ia {tg e:ZA}{te:TE}{g:TG}(he:PE X e te)(hg:PG X tg g)(hs:swapsWithSole [tg] e pos.line X.env=pure false:=by rfl)(hw:swappedStores [tg] e X.env=pure none:=by rfl)
  (h1:(Qbs [tg] X.env).map (·.2)=[QeT tg X.env]:=by rfl):PS X (.Assign [tg] e pos) (GK te g):=by
 refine fun pins s σ H D I h=>wpAny_Assign_stores (bb (he s σ H _ I h) fun v s1 hz_=>aj.el hz_ _ fun x H1 I1 r1 q1 =>?_) hs hw;rw[h1];exact bb (hg s1 σ H1 x v _ I1 r1 q1) fun _ s2 q=>q
def ay (hN:X.N.Nodup)(hi:X.N[i]? = some x)(hx:Loc X.env.scope x)(he:PE X e te)(hs:Qc4 e (some (.Name x pos')) pos.line X.env=pure false:=by rfl)(hf:X.fn x=true\/X.env.scope.names.lookup x=some .local:=by first|exact .inl rfl|exact .inr rfl|assumption):
  PS X (.Assign [.Name x pos'] e pos) (GK te (rV i)):=
 fun pins s σ H D I h=>wpAny_Assign_Name (bb (he s σ H _ I h) fun v s1 hz_=>aj.el hz_ _ fun y H1 I1 r1 q1=>(iO I1 hN hi hx r1 (fun s2 I2=>⟨_,H1,I2,q1⟩) hf)) hs
def NV (i j:Nat)(ta:TA):TS:=fun D σ H=>ta σ H fun vs H1=>fG fun v w=>vs=[v,w]/\D.nx ((σ.set i (some v)).set j (some w)) H1
def yV {x y:Str}{a b:ZA}{ta:TA}{px py pt:Pos}{kt k2 pt2}(hc:X.calm=true)(hN:X.N.Nodup)(hi:X.N[i]? = some x)(hj:X.N[j]? = some y)(vo:i≠j)
  (hx:X.env.scope.names.lookup x=some .local) (hy:X.env.scope.names.lookup y=some .local) (ha:PA X [a,b] ta)
  (hw:swappedStores [.Tuple [.Name x px,.Name y py] kt pt] (.Tuple [a,b] k2 pt2) X.env=pure (some [x,y]))
  (hs:swapsWithSole [.Tuple [.Name x px,.Name y py] kt pt] (.Tuple [a,b] k2 pt2) pos.line X.env=pure false:=by rfl) :
  PS X (.Assign [.Tuple [.Name x px,.Name y py] kt pt] (.Tuple [a,b] k2 pt2) pos) (NV i j ta):=by
 refine fun pins s σ H D I h=>be (Qab (be (tz (be (Tuple_ (bb (ha s σ H _ I h) fun us s1 hz_=>aj.el hz_ _ ?_))))));rintro vs H1 I1 r1 q1;obtain⟨v,w,e1,q1⟩:=q1;subst e1;obtain⟨u1,u2,rfl,rv,rw'⟩:∃u1 u2,us=[u1,u2]/\RelV v u1/\RelV w u2:=by
  cases r1 with
  | cons p q=>
   cases q with
   | cons p' q'=>
    cases q';exact⟨_,_,rfl,p,p'⟩
 refine ZJ ?_ (by show 2<=KE;decide);have I2:Inv X pins σ H1 { s1 with heap:=s1.heap.push { cls := .type "tuple",data := .seq [u1,u2].toArray } }:=I1.kept fun b o e=>Jb _ e;rw[hw];refine be (tz (be (Qah (be (unpackItems_tuple (items := #[u1,u2]) (I.ok.hd hc) (IsTup.new s1.heap _) fun h' mQ=>be (Qds (wpAny_bindName (iO (I2.kept (t':=s1.toks) fun b o e=>mQ b o (Jl (Jf e)) e) hN hj (.inl hy) rw' (fun s2 I4=>(Qds (wpAny_bindName (iO I4 hN hi (.inl hx) rv (fun s3 I5=>assignInOrder_nil (tz ?_)) (.inr hx))))) (.inr hy)))))))));rw[List.set_comm _ _ (Zx vo)] at I5;exact⟨_,H1,I5,q1⟩
def Rp (i:Nat)(te:TE)(ti:RS):TS:=fun D σ H=>∃x,σ[i]? = some (some x)/\te σ H fun y H1=>ti x y H1 fun z H2=>D.nx (σ.set i (some z)) H2
def DG (hN:X.N.Nodup)(hi:X.N[i]? = some x)(hx:Loc X.env.scope x)(he:PE X e te)(ho:RX X op ti)(hf:X.fn x=true\/X.env.scope.names.lookup x=some .local:=by first|exact .inl rfl|exact .inr rfl|assumption):
  PS X (.AugAssign (.Name x pos') op e pos) (Rp i te ti):=by
 intro pins s σ H D I h;obtain⟨v,e1,h⟩:=h;obtain⟨m,hn,hl⟩:=I.loc;obtain⟨u,r,l⟩:=hl i x v hi e1 (by rcases hx with k|k;exact .inl k;exact .inr (.inl k));refine wpAny_AugAssign_Name ?_;have go:YX (YW X.prog X.w) X.A (ZM e X.env) (fun w s₂=>YX (YW X.prog X.w) X.A (inplaceOp op u w) (fun r s₃=>YX (YW X.prog X.w) X.A (storeName X.env x r) (fun _=>SP X pins D .next) X.xe s₃) X.xe s₂) X.xe s:=by
  refine bb (he s σ H _ I h) fun w s1 hz_=>aj.el hz_ _ ?_;rintro y H1 I1 r1 q1;refine bb (ho s1 σ H1 v y u w _ I1 r r1 q1) fun z s2 hz_=>aj.el hz_ _ ?_;rintro zv H2 I2 r2 q2;exact iO I2 hN hi hx r2 (fun s3 I3=>⟨_,H2,I3,q2⟩) hf
 rcases l with ⟨hk,hm⟩|⟨hk,c,hc,hcell⟩
 ·exact wpAny_loadName_local I.ok.kind hk hn hm go
 ·rcases hk with hk|hk
  ·exact wpAny_loadName_cell I.ok.kind hk hc hcell go
  ·rcases hx with k|k
   ·have:X.env.scope.names.lookup x=some .free:=hk;rw[k] at this;cases this
   ·have:X.env.scope.names.lookup x=some .free:=hk;rw[k] at this;cases this
def TU (f:Int->Int->Int):RS:=fun x y H Q=>fG fun i j=>x = .int i/\y = .int j/\Q (.int (f i j)) H
def Mr:RX X .Add (TU fun i j=>i+j):=by
 intro pins s σ H x y v u Q I r1 r2 h;obtain⟨i,j,e1,e2,q⟩:=h;subst e1;subst e2;obtain⟨t,rfl⟩:=r1;obtain⟨t',rfl⟩:=r2;exact iadd_int ⟨.int _,H,I.tok _,⟨_,rfl⟩,q⟩
def La:RX X .Sub (TU fun i j=>i-j):=by
 intro pins s σ H x y v u Q I r1 r2 h;obtain⟨i,j,e1,e2,q⟩:=h;subst e1;subst e2;obtain⟨t,rfl⟩:=r1;obtain⟨t',rfl⟩:=r2;exact isub_int ⟨.int _,H,I.tok _,⟨_,rfl⟩,q⟩
end
section
variable {X:Cx}{pos:Pos}
def pC (c:TT)(tb:TS):TS:=fun D σ H=>∃W:Nat->St->Hp->Prop,(∃m,W m σ H)/\∀m σ H,W m σ H ->
 c σ H fun b H1=>if b=true then ∃N,(∀ σ' H',N σ' H'->∃m',m'<m/\W m' σ' H')/\tb { D with nx:=N,ct:=N,bk:=D.nx } σ H1 else D.nx σ H1
def pT {tc:TT}{tb:TS}(hp:PassesOwn (YW X.prog X.w) X.A X.env X.xe)(hc:PT X c tc)(hb:xb X body tb):PS X (.While c body [] pos) (pC tc tb):=by
 intro pins s σ H D I h;obtain⟨W,⟨m0,w0⟩,turn⟩:=h;refine wpAny_While (codeAny_whileLoop (fun n s'=>∃ σ' H',Inv X pins σ' H' s'/\W n σ' H') ?_ m0 ⟨σ,H,I,w0⟩);rintro n s1 ⟨σ1,H1,I1,w1⟩;refine QaJ hp (bb (hc s1 σ1 H1 _ I1 (turn n σ1 H1 w1)) fun b s2 hz_=>aj.el hz_ _ ?_);rintro H2 I2 q2;cases b with
 | true=>
  obtain⟨N,hN,q2⟩:=q2;refine QaJ hp (bb (hb s2 σ1 H2 _ I2 q2) fun f s3 q3 =>?_);cases f with
  | next=>
   obtain⟨σ3,H3,I3,n3⟩:=q3;obtain⟨m',hm,w3⟩:=hN σ3 H3 n3;exact⟨m',hm,σ3,H3,I3,w3⟩
  | cont=>
   obtain⟨σ3,H3,I3,n3⟩:=q3;obtain⟨m',hm,w3⟩:=hN σ3 H3 n3;exact⟨m',hm,σ3,H3,I3,w3⟩
  | brk=>exact q3
  | ret v=>exact q3
 | false=>
  exact QbH ⟨σ1,H2,I2,q2⟩
end
structure It where
 go:Nat->Hp->Prop
 yld:Nat->Hp->V->Hp->Prop
 stop:Nat->Hp->Prop
def gz (X:Cx)(pins:List (Gc×Obj))(H:Hp)(b:Gc):Prop:=
 H b=none/\b≠X.env.locals/\b∉X.fs/\(b∈X.ex\/X.s₀.heap.objs.size<=b)/\(∀x c,X.env.cells.lookup x=some c->c≠b)/\∀p∈X.pn++pins,p.1≠b
def Inv.fu {σ:St}{H H':Hp}{s:Wp}{b:Gc}(I:Inv X pins σ H s)(hb:s.heap.objs.size<=b)(hn:H' b=none):gz X pins H' b:=by
 refine⟨hn,Ul (Jw I.lt hb),I.Oa hb,.inr (Jg I.sz hb),fun x c e z =>?_,fun p hp z =>?_⟩
 ·obtain⟨v,q⟩:=I.cell x c e;exact absurd (Jw q.lt (by rw[z];exact hb)) (Uh _)
 ·exact absurd (Jw (Jf (I.pin p hp).1) (by rw[z];exact hb)) (Uh _)
structure Turn (P:YZ)(w:Zb)(K:Ja)(tg:ZA)(J:It)(fp:List Gc)(it:Gc)(tn:Nat->Heap->Prop):Prop where
 mem:it∈fp
 obj:∀i h,tn i h->∀b∈fp,∃o,h.get? b=some o/\∀v,o.data ≠ .cell v
 keep:∀i h h',tn i h->(∀b∈fp,∀o,h.get? b=some o->h'.get? b=some o)->tn i h'
 item:∀(X:Cx),X.prog=P->X.w=w->X.K=K->X.calm=true->∀(i:Nat) (pins:List (Gc×Obj)) (s:Wp) (σ:St) (H:Hp) (E:Fk->Wp->Prop),Inv X pins σ H s->(∀b∈fp,gz X pins H b)->tn i s.heap->J.go i H ->
  YX (YW P w) X.A (QaM (.ref it)) (fun r s1=>∃u,r=some u /\
   YX (YW P w) X.A (QbJ tg (.ref it) u) (fun _ s2=>∃x H',Inv X pins σ H' s2/\RelV x u/\J.yld i H x H'/\tn (i+1) s2.heap/\∀b∈fp,H' b=none) E s1) E s
 done:∀(X:Cx),X.prog=P->X.w=w->X.K=K->X.calm=true->∀(i:Nat) (pins:List (Gc×Obj)) (s:Wp) (σ:St) (H:Hp) (E:Fk->Wp->Prop),Inv X pins σ H s->(∀b∈fp,gz X pins H b)->tn i s.heap->J.stop i H ->
  YX (YW P w) X.A (QaM (.ref it)) (fun r s1=>r=none/\Inv X pins σ H s1) E s
 self:∀(A:Zs) (i:Nat) (s:Wp) (Q:Fk->Wp->Prop) (E:Fk->Wp->Prop),tn i s.heap->Q (.ref it) s->YX (YW P w) A (Qd9 (.ref it)) Q E s
abbrev TI:=St->Hp->(It->Hp->Prop)->Prop
def T2 (X:Cx)(pins:List (Gc×Obj))(σ:St)(tg:ZA)(R:It->Hp->Prop)(ND:Fk)(s2:Wp):Prop:=
 vY fun it fp tn J H'=>ND = .ref it/\Inv X pins σ H' s2/\Turn X.prog X.w X.K tg J fp it tn/\tn 0 s2.heap/\(∀b∈fp,gz X pins H' b)/\R J H'
def PI (X:Cx)(tg iter:ZA)(wi:TI):Prop:=
 ∀ ⦃pins:List (Gc×Obj)⦄ (s:Wp) (σ:St) (H:Hp) (R:It->Hp->Prop),Inv X pins σ H s->wi σ H R ->
  YX (YW X.prog X.w) X.A (ZM iter X.env) (fun v s1=>YX (YW X.prog X.w) X.A (Qd9 v) (T2 X pins σ tg R) X.xe s1) X.xe s
def Ap {s:Wp}{tg:ZA}{it:Gc}{u:Fk}{o:Obj}{n:String}{vs:Array Fk}{Q:Unit->Wp->Prop}(ho:s.heap.get? it=some o)(hc:o.cls = .type n)(hd:o.data = .fields vs)
  (hn:["enumerate", "zip", "dict_itemiterator", "dict_reverseitemiterator", "odict_iterator", "itertools.zip_longest", "itertools.pairwise"].contains n=false) (hQ:Q () s):YX M A (QbJ tg (.ref it) u) Q E s:=by
 cases tg<;>first
  | exact tz hQ
  | (cases u<;>first
    | exact tz hQ
    | (refine be (Qdq ho ?_)
       rw[hc,hd];show YX M A (if (["enumerate", "zip", "dict_itemiterator", "dict_reverseitemiterator", "odict_iterator", "itertools.zip_longest", "itertools.pairwise"].contains n&&vs[0]? == some (ZT _))=true then _ else _) Q E s;rw[if_neg (by intro h;rw[hn,Yz] at h;cases h)];exact tz hQ))
def P0 (K:Ja)(a:Gc):It:=
 ⟨fun i H=>fG fun xs x=>bg K H a xs/\xs[i]? = some x,fun i H x H'=>H'=H/\∀xs,bg K H a xs->xs[i]? = some x,fun i H=>∃xs,bg K H a xs/\xs.length<=i⟩
def UX (K:Ja)(a:Gc):It:=
 ⟨fun i H=>fG fun xs x=>aY K H a xs/\xs[i]? = some x,fun i H x H'=>H'=H/\∀xs,aY K H a xs->xs[i]? = some x,fun i H=>∃xs,aY K H a xs/\xs.length<=i⟩
def MW (lo:Int)(n:Nat):It:=⟨fun i _=>i<n,fun i H x H'=>H'=H/\x = .int (lo+i),fun i _=>n<=i⟩
def CC {K:Ja}{tg:ZA}(a it:Gc):Turn P w K tg (P0 K a) [it] it (fun i h=>h.IsListIter it a i) where
 mem:=by simp
 obj:=fun i h st b hb=>by
  have e:b=it:=by simpa using hb
  subst e;obtain⟨o,e,c,d⟩:=st;exact⟨o,e,fun v z=>by rw[d] at z;cases z⟩
 keep:=fun i h h' st k=>st.at fun o e=>k it (by simp) o e
 item:=by
  intro X hP hw hK hc i pins s σ H E I hf st hg;subst hP hw hK;obtain⟨xs,x,hq,hx⟩:=hg;obtain⟨aF,rv,p,hz⟩:=I.list hq;obtain⟨u,hu,ru⟩:=rv.get hx;obtain⟨f0,f1,f2,f3,f4,f5⟩:=hf it (by simp);refine wpAny_pyNext_list_item st p.isList (by simpa using hu) fun h' st' sb =>?_;have I1:Inv X pins σ H { s with heap:=h' }:=I.turned (fun b o hb e=>(sb.2 b hb).trans e) f0 f1 f3 f4 f5;obtain⟨o,e,c,d⟩:=id st';exact⟨u,rfl,Ap e c d rfl ⟨x,H,I1,ru,⟨rfl,fun ys hy=>by rw[I.qf hy hq];exact hx⟩,st',fun b hb=>(hf b hb).1⟩⟩
 done:=by
  intro X hP hw hK hc i pins s σ H E I hf st hg;subst hP hw hK;obtain⟨xs,hq,hx⟩:=hg;obtain⟨aF,rv,p,hz⟩:=I.list hq;obtain⟨f0,f1,f2,f3,f4,f5⟩:=hf it (by simp);have hl:=rv.length;exact wpAny_pyNext_list_end (I.ok.hd hc) st p.isList (by simp;lia) fun h' eb=>⟨rfl,I.turned (fun b o hb e=>eb b o hb e) f0 f1 f3 f4 f5⟩
 self:=fun _ _ _ _ _ st h=>wpAny_pyIter_listiter st h
def y8 {K:Ja}{tg:ZA}(a it:Gc):Turn P w K tg (UX K a) [it] it (fun i h=>h.IsTupleIter it a i) where
 mem:=by simp
 obj:=fun i h st b hb=>by
  have e:b=it:=by simpa using hb
  subst e;obtain⟨o,e,c,d⟩:=st;exact⟨o,e,fun v z=>by rw[d] at z;cases z⟩
 keep:=fun i h h' st k=>st.at fun o e=>k it (by simp) o e
 item:=by
  intro X hP hw hK hc i pins s σ H E I hf st hg;subst hP hw hK;obtain⟨xs,x,hq,hx⟩:=hg;obtain⟨aF,rv,p,hz⟩:=I.tuple hq;obtain⟨u,hu,ru⟩:=rv.get hx;obtain⟨f0,f1,f2,f3,f4,f5⟩:=hf it (by simp);refine wpAny_pyNext_tuple_item st (show s.heap.IsTuple a aF.toArray from p) (by simpa using hu) fun h' st' sb =>?_;have I1:Inv X pins σ H { s with heap:=h' }:=I.turned (fun b o hb e=>(sb.2 b hb).trans e) f0 f1 f3 f4 f5;obtain⟨o,e,c,d⟩:=id st';exact⟨u,rfl,Ap e c d rfl ⟨x,H,I1,ru,⟨rfl,fun ys hy=>by rw[I.rJ hy hq];exact hx⟩,st',fun b hb=>(hf b hb).1⟩⟩
 done:=by
  intro X hP hw hK hc i pins s σ H E I hf st hg;subst hP hw hK;obtain⟨xs,hq,hx⟩:=hg;obtain⟨aF,rv,p,hz⟩:=I.tuple hq;obtain⟨f0,f1,f2,f3,f4,f5⟩:=hf it (by simp);have hl:=rv.length;exact wpAny_pyNext_tuple_end (I.ok.hd hc) st (show s.heap.IsTuple a aF.toArray from p) (by simp;lia) fun h' eb=>⟨rfl,I.turned (fun b o hb e=>eb b o hb e) f0 f1 f3 f4 f5⟩
 self:=fun _ _ _ _ _ st h=>wpAny_pyIter_tupleiter st h
def yI {K:Ja}{tg:ZA}(it:Gc)(lo:Int)(n:Nat):Turn P w K tg (MW lo n) [it] it (fun i h=>IsRangeIter h it (lo+(i:Nat)*1) ((n:Int)-(i:Nat)) 1) where
 mem:=by simp
 obj:=fun i h st b hb=>by
  have e:b=it:=by simpa using hb
  subst e;exact⟨_,st,fun v z=>by
   cases z⟩
 keep:=fun i h h' st k=>k it (by simp) _ st
 item:=by
  intro X hP hw hK hc i pins s σ H E I hf st hg;subst hP hw hK;obtain⟨f0,f1,f2,f3,f4,f5⟩:=hf it (by simp);refine(Walks.range (prog:=X.prog) (w:=X.w) (I.ok.hd hc) it lo 1 n).item i s _ _ hg st fun v h' tk hv st' kk =>?_;obtain⟨t,rfl⟩:=hv;have I1:Inv X pins σ H { s with heap:=h',toks:=tk }:=I.turned (fun b o hb e=>kk b o (by simpa using hb) e) f0 f1 f3 f4 f5;refine⟨_,rfl,Ap st' rfl rfl rfl ⟨.int (lo+i),H,I1,⟨t,?_⟩,⟨rfl,rfl⟩,st',fun b hb=>(hf b hb).1⟩⟩;rw[Int.mul_one]
 done:=by
  intro X hP hw hK hc i pins s σ H E I hf st hg;obtain⟨f0,f1,f2,f3,f4,f5⟩:=hf it (by simp);exact wpAny_pyNext_range_end (I.ok.hd hc) st (by have:n<=i:=hg;lia) fun h' eb=>⟨rfl,I.turned (fun b o hb e=>eb b o hb e) f0 f1 f3 f4 f5⟩
 self:=fun _ _ _ _ _ st h=>wpAny_pyIter_rangeiter st h
section
variable {X:Cx}{tg:ZA}
def JA (K:Ja)(tl:TE):TI:=fun σ H R=>tl σ H fun x H1=>∃a,x = .ref a/\(∃xs,bg K H1 a xs)/\R (P0 K a) H1
def Oh (K:Ja)(tl:TE):TI:=fun σ H R=>tl σ H fun x H1=>∃a,x = .ref a/\(∃xs,aY K H1 a xs)/\R (UX K a) H1
def Hj (hl:PE X l tl):PI X tg l (JA X.K tl):=by
 refine fun pins s σ H R I h=>bb (hl s σ H _ I h) fun v s1 hz_=>aj.el hz_ _ ?_;rintro x H1 I1 r1 q1;obtain⟨a,e,⟨xs,hq⟩,q⟩:=q1;subst e;cases r1;obtain⟨aF,rv,p,hz⟩:=I1.list hq;refine Qbh p.isList ⟨s1.heap.objs.size,[s1.heap.objs.size],_,_,H1,rfl,I1.kept fun b o e=>Jb _ e,CC a _,⟨_,Jh _ rfl,rfl,rfl⟩,fun b hb =>?_,q⟩;have e:b=s1.heap.objs.size:=by simpa using hb
 subst e;exact I1.fu (Je _) (I1.bq.fresh (Je _))
def Lk (hl:PE X l tl):PI X tg l (Oh X.K tl):=by
 refine fun pins s σ H R I h=>bb (hl s σ H _ I h) fun v s1 hz_=>aj.el hz_ _ ?_;rintro x H1 I1 r1 q1;obtain⟨a,e,⟨xs,hq⟩,q⟩:=q1;subst e;cases r1;obtain⟨aF,rv,p,hz⟩:=I1.tuple hq;refine Qdp (show s1.heap.IsTuple a aF.toArray from p) ⟨s1.heap.objs.size,[s1.heap.objs.size],_,_,H1,rfl,I1.kept fun b o e=>Jb _ e,y8 a _,⟨_,Jh _ rfl,rfl,rfl⟩,fun b hb =>?_,q⟩;have e:b=s1.heap.objs.size:=by simpa using hb
 subst e;exact I1.fu (Je _) (I1.bq.fresh (Je _))
def Dw {σ:St}{H:Hp}{s:Wp}{R:It->Hp->Prop}{E:Fk->Wp->Prop}{lo hi:Int}{t u v:Tok}{tk:Nat}(I:Inv X pins σ H s)(h1: -(2^62)<=lo)(h2:lo<2^62)(h3: -(2^62)<=hi)(h4:hi<2^62)
  (q:R (MW lo (hi-lo).toNat) H):YX (YW X.prog X.w) X.A (Qd9 (.ref s.heap.objs.size)) (T2 X pins σ tg R) E { s with heap:=s.heap.push { cls := .type "range",data := .fields #[.int lo t,.int hi u,.int 1 v] },toks:=tk }:=by
 refine wpAny_pyIter_range (IsRange.new ..) (small_one h1 h2 h3 h4) ?_;have I1:Inv X pins σ H { s with heap:=s.heap.push { cls := .type "range",data := .fields #[.int lo t,.int hi u,.int 1 v] },toks:=tk }:=I.kept fun b o e=>Jb _ e;refine⟨(s.heap.push { cls := .type "range",data := .fields #[.int lo t,.int hi u,.int 1 v] }).objs.size,[(s.heap.push { cls := .type "range",data := .fields #[.int lo t,.int hi u,.int 1 v] }).objs.size],_,_,H,rfl,
  I1.kept fun b o e=>Jb _ e,yI _ lo (hi-lo).toNat,?_,fun b hb =>?_,q⟩
 ·have e1:lo+((0:Nat):Int)*1=lo:=by simp
  have e2:(((hi-lo).toNat:Nat):Int)-((0:Nat):Int)=Builtin.Range.rangeSize lo hi 1:=by rw[rangeSize_one];split<;>lia
  rw[e1,e2];exact Jh _ rfl
 ·have e:b=(s.heap.push { cls := .type "range",data := .fields #[.int lo t,.int hi u,.int 1 v] }).objs.size:=by simpa using hb
  subst e;exact I1.fu (Je _) (I1.bq.fresh (Je _))
def NT (ta:TA):TI:=fun σ H R=>ta σ H fun vs H1=>∃j,vs=[.int j] /\ -(2^62)<=j/\j<2^62/\R (MW 0 j.toNat) H1
def eg (hg:Gl X "range")(hm:X.mg "range" = none)(ha:PA X [a] ta)(hs:Ze [a] X.env=[(false,ZM a X.env)]:=by rfl):PI X tg (.Call (.Name "range" p) [a] [] pos) (NT ta):=by
 refine fun pins s σ H R I h=>Call_ (eZ I hg hm boot_range (Zl (bb (ha s σ H _ I h) fun us s1 hz_=>aj.el hz_ _ fun vs H1 I1 r1 q1 =>?_) hs rfl));obtain⟨j,e,q1,q2,q⟩:=q1;subst e;cases r1 with
 | cons r rr=>
  cases rr;obtain⟨t,rfl⟩:=r;exact call_range_1 (Dw I1 ⋯ ⋯ q1 q2 (by simpa using q))
def BR (wi:TI)(g:TG)(tb:TS):TS:=fun D σ H=>wi σ H fun J H1=>∃W:Nat->Nat->St->Hp->Prop,(∃m,W 0 m σ H1)/\∀i m σ H,W i m σ H ->
 (J.stop i H/\D.nx σ H)\/(J.go i H/\∃N,(∀ σ' H',N σ' H'->∃m',m'<m/\W (i+1) m' σ' H')/\∀x H',J.yld i H x H'->g x σ H' fun σ2 H2=>tb { D with nx:=N,ct:=N,bk:=D.nx } σ2 H2)
def hV (fp:List Gc)(h:Heap):List (Gc×Obj):=fp.filterMap fun b=>(h.get? b).map fun o=>(b,o)
def dj {b:Gc}{o:Obj}(hb:b∈fp)(e:h.get? b=some o):(b,o)∈hV fp h:=List.mem_filterMap.mpr ⟨b,hb,by rw[e];rfl⟩
def rZ (hp:p∈hV fp h):p.1∈fp/\h.get? p.1=some p.2:=by
 obtain⟨b,hb,e⟩:=List.mem_filterMap.mp hp;cases q:h.get? b with
 | none=>rw[q] at e;cases e
 | some o=>
  rw[q] at e;have e':=Zk e;subst e';exact⟨hb,q⟩
def Inv.pinned {σ:St}{H:Hp}{s:Wp}{fp:List Gc}(I:Inv X pins σ H s)(hf:∀b∈fp,gz X pins H b)(ho:∀b∈fp,∃o,s.heap.get? b=some o/\∀v,o.data ≠ .cell v):Inv X (pins++hV fp s.heap) σ H s:=
 I.oK fun p hp=>(Ub.mp hp).elim (fun z=>I.pin p (Jo _ z)) fun z=>by
  obtain⟨hb,e⟩:=rZ z;obtain⟨f0,f1,f2,_⟩:=hf p.1 hb;obtain⟨o,e',d⟩:=ho p.1 hb;rw[e] at e';cases e';exact⟨e,f0,f1,f2,d⟩
def Inv.eO {σ:St}{H:Hp}{s:Wp}(I:Inv X (pins++pl) σ H s):Inv X pins σ H s:=I.oK fun p hp=>I.pin p (Jo _ (Us _ hp))
def fe {wi:TI}{g:TG}{tb:TS}{pos:Pos}(hp:PassesOwn (YW X.prog X.w) X.A X.env X.xe)(hc:X.calm=true)(hi:PI X tg iter wi)(hg:PG X tg g)(hb:xb X body tb)
  (hs:∀x,Qag iter X.env x=pure x:=by intro _;rfl):PS X (.For tg iter body [] pos) (BR wi g tb):=by
 refine fun pins s σ H D I h=>wpAny_For (bb (hi s σ H _ I h) fun v s1 h1=>bb h1 fun ND s2 h2 =>?_) hs;obtain⟨it,fp,tn,J,H2,e,I2,T,fB,f2,W,⟨m0,w0⟩,turn⟩:=h2;subst e;have kL:∀{H':Hp},(∀b∈fp,H' b=none)->∀b∈fp,gz X pins H' b:=fun hn b hb=>⟨hn b hb,(f2 b hb).2⟩
 refine codeAny_forLoop_any (fun n s'=>∃i σ' H',Inv X pins σ' H' s'/\tn i s'.heap/\(∀b∈fp,H' b=none)/\W i n σ' H') ?_ m0 ⟨0,σ,H2,I2,fB,fun b hb=>(f2 b hb).1,w0⟩;rintro n s3 ⟨i,σ3,H3,I3,dZ,fr3,w3⟩
 rcases turn i n σ3 H3 w3 with ⟨stop,qn⟩|⟨go,N,hN,step⟩
 ·refine QaJ hp (bb (T.done X rfl rfl rfl hc i pins s3 σ3 H3 X.xe I3 (kL fr3) dZ stop) fun r s4 hz_ =>?_);refine aj.el hz_ _ ?_;rintro hr I4;subst hr;exact QbH ⟨σ3,H3,I4,qn⟩
 ·refine QaJ hp (bb (T.item X rfl rfl rfl hc i pins s3 σ3 H3 X.xe I3 (kL fr3) dZ go) fun r s4 hz_ =>?_);refine aj.el hz_ _ ?_;rintro u hr h4;subst hr;refine QaJ hp (bb h4 fun _ s5 hz_=>aj.el hz_ _ fun x H5 I5 r5 y5 cu fr5=>QaJ hp (bb (hg s5 σ3 H5 x u _ (I5.pinned (kL fr5) (T.obj _ _ cu)) r5 (step x H5 y5)) fun _ s6 hz_=>aj.el hz_ _ ?_));rintro σ6 H6 I6 q6;refine QaJ hp (bb (hb s6 σ6 H6 _ I6 q6) fun f s7 q7 =>?_);have again:∀{σ7:St} {H7:Hp},Inv X (pins++hV fp s5.heap) σ7 H7 s7->N σ7 H7->∃m,m<n/\∃i σ' H',Inv X pins σ' H' s7/\tn i s7.heap/\(∀b∈fp,H' b=none)/\W i m σ' H':=fun{σ7 H7} I7 n7=>by
   obtain⟨m',hm,w7⟩:=hN σ7 H7 n7;refine⟨m',hm,i+1,σ7,H7,I7.eO,T.keep _ _ _ cu fun b hb o e=>(I7.pin (b,o) (Jo _ (Jo _ (dj hb e)))).1,fun b hb =>?_,w7⟩;obtain⟨o,e,d⟩:=T.obj _ _ cu b hb;exact(I7.pin (b,o) (Jo _ (Jo _ (dj hb e)))).2.1
  cases f with
  | next=>obtain⟨σ7,H7,I7,n7⟩:=q7;exact again I7 n7
  | cont=>obtain⟨σ7,H7,I7,n7⟩:=q7;exact again I7 n7
  | brk=>obtain⟨σ7,H7,I7,q7⟩:=q7;exact⟨σ7,H7,I7.eO,q7⟩
  | ret v=>obtain⟨x7,σ7,H7,I7,r7,q7⟩:=q7;exact⟨x7,σ7,H7,I7.eO,r7,q7⟩
end
def FL {K:Ja}{a:Gc}{xs:List V}{g:TG}{tb:TS}{D:Ends}{σ:St}{H:Hp}(Pv:Nat->St->Hp->Prop)(h0:Pv 0 σ H)(hl:∀i σ H,i<=xs.length->Pv i σ H->bg K H a xs)
  (hs:∀i x σ H,xs[i]? = some x->Pv i σ H->g x σ H fun σ2 H2=>tb { D with nx:=Pv (i+1),ct:=Pv (i+1),bk:=D.nx } σ2 H2) (hd:∀ σ H,Pv xs.length σ H->D.nx σ H) :
  ∃W:Nat->Nat->St->Hp->Prop,(∃m,W 0 m σ H)/\∀i m σ H,W i m σ H ->
   ((P0 K a).stop i H/\D.nx σ H)\/((P0 K a).go i H/\∃N,(∀ σ' H',N σ' H'->∃m',m'<m/\W (i+1) m' σ' H')/\∀x H',(P0 K a).yld i H x H'->g x σ H' fun σ2 H2=>tb { D with nx:=N,ct:=N,bk:=D.nx } σ2 H2):=by
 refine⟨fun i m σ H=>m=xs.length-i/\i<=xs.length/\Pv i σ H,⟨xs.length,by simp,Uq _,h0⟩,?_⟩;rintro i m σ H ⟨rfl,hi,p⟩;have q:=hl i σ H hi p
 by_cases jv:i<xs.length
 ·refine .inr ⟨⟨xs,xs[i],q,by simp[]⟩,Pv (i+1),fun σ' H' p'=>⟨xs.length-(i+1),⋯,rfl,jv,p'⟩,fun x H' y =>?_⟩;obtain⟨e,y⟩:=y;subst e;exact hs i x σ _ (y xs q) p
 ·have e:i=xs.length:=by lia
  subst e;exact .inl ⟨⟨xs,q,Je _⟩,hd σ H p⟩
def km {lo:Int}{n:Nat}{g:TG}{tb:TS}{D:Ends}{σ:St}{H:Hp}(Pv:Nat->St->Hp->Prop)(h0:Pv 0 σ H)
  (hs:∀i σ H,i<n->Pv i σ H->g (.int (lo+i)) σ H fun σ2 H2=>tb { D with nx:=Pv (i+1),ct:=Pv (i+1),bk:=D.nx } σ2 H2) (hd:∀ σ H,Pv n σ H->D.nx σ H) :
  ∃W:Nat->Nat->St->Hp->Prop,(∃m,W 0 m σ H)/\∀i m σ H,W i m σ H ->
   ((MW lo n).stop i H/\D.nx σ H)\/((MW lo n).go i H/\∃N,(∀ σ' H',N σ' H'->∃m',m'<m/\W (i+1) m' σ' H')/\∀x H',(MW lo n).yld i H x H'->g x σ H' fun σ2 H2=>tb { D with nx:=N,ct:=N,bk:=D.nx } σ2 H2):=by
 refine⟨fun i m σ H=>m=n-i/\i<=n/\Pv i σ H,⟨n,by simp,Uq _,h0⟩,?_⟩;rintro i m σ H ⟨rfl,hi,p⟩
 by_cases jv:i<n
 ·refine .inr ⟨jv,Pv (i+1),fun σ' H' p'=>⟨n-(i+1),⋯,rfl,jv,p'⟩,fun x H' y =>?_⟩;obtain⟨e,y⟩:=y;subst e y;exact hs i σ _ jv p
 ·have e:i=n:=by lia
  subst e;exact .inl ⟨Je _,hd σ H p⟩
abbrev R2:=V->V->Hp->VK->Prop
def eW (X:Cx)(f:Fk->Fk->Sem Fk)(r:R2):Prop:=
 ∀ ⦃pins:List (Gc×Obj)⦄ (s:Wp) (σ:St) (H:Hp) (x y:V) (v u:Fk) (Q:VK),Inv X pins σ H s->RelV x v->RelV y u->r x y H Q ->
  YX (YW X.prog X.w) X.A (f v u) (EP X pins σ Q) X.xe s
def RB (X:Cx)(f:Fk->Sem Fk)(r:V->Hp->VK->Prop):Prop:=
 ∀ ⦃pins:List (Gc×Obj)⦄ (s:Wp) (σ:St) (H:Hp) (x:V) (v:Fk) (Q:VK),Inv X pins σ H s->RelV x v->r x H Q ->
  YX (YW X.prog X.w) X.A (f v) (EP X pins σ Q) X.xe s
def bF (X:Cx)(f:Fk)(r:List V->Hp->VK->Prop):Prop:=
 ∀ ⦃pins:List (Gc×Obj)⦄ (s:Wp) (σ:St) (H:Hp) (xs:List V) (us:List Fk) (Q:VK),Inv X pins σ H s->Vals xs us->r xs H Q ->
  YX (YW X.prog X.w) X.A (call f us) (EP X pins σ Q) X.xe s
def M9 (r:R2)(ta tb:TE):TE:=fun σ H Q=>ta σ H fun x H1=>tb σ H1 fun y H2=>r x y H2 Q
def Xm (r:V->Hp->VK->Prop)(ta:TE):TE:=fun σ H Q=>ta σ H fun x H1=>r x H1 Q
def rI (C:Int->Int->Prop)(g:Int->Int->V):R2:=fun x y H Q=>fG fun i j=>x = .int i/\y = .int j/\C i j/\Q (g i j) H
def IE (g:Int->Int->V):R2:=fun x y H Q=>fG fun i j=>x = .int i/\y = .int j/\Q (g i j) H
def rU (g:Int->V):V->Hp->VK->Prop:=fun x H Q=>∃i,x = .int i/\Q (g i) H
section
variable {X:Cx}{a b c:ZA}{ta tb tc:TE}{pos:Pos}
def Kp (ha:PE X a ta)(hb:PE X b tb){pins:List (Gc×Obj)}{s:Wp}{σ:St}{H:Hp}{R:V->V->Hp->Prop}(I:Inv X pins σ H s)
  (h:ta σ H fun x H1=>tb σ H1 fun y H2=>R x y H2) {Q:Fk->Wp->Prop} {f:Fk->Fk->Sem Fk}
  (hf:∀v u s2 x y H2,Inv X pins σ H2 s2->RelV x v->RelV y u->R x y H2->YX (YW X.prog X.w) X.A (f v u) Q X.xe s2) :
  YX (YW X.prog X.w) X.A (ZM a X.env) (fun v s₁=>YX (YW X.prog X.w) X.A (ZM b X.env) (fun u s₂=>YX (YW X.prog X.w) X.A (f v u) Q X.xe s₂) X.xe s₁) X.xe s:=by
 refine bb (ha s σ H _ I h) fun v s1 hz_=>aj.el hz_ _ ?_;rintro x H1 I1 r1 q1;refine bb (hb s1 σ H1 _ I1 q1) fun u s2 hz_=>aj.el hz_ _ ?_;rintro y H2 I2 r2 q2;exact hf v u s2 x y H2 I2 r1 r2 q2
def aw (ho:eW X (Z6 op) r)(ha:PE X a ta)(hb:PE X b tb):PE X (.BinOp a op b pos) (M9 r ta tb):=
 fun pins s σ H Q I h=>wpAny_BinOp (Kp ha hb I h fun v u s2 x y H2 I2 rx ry q=>ho s2 σ H2 x y v u Q I2 rx ry q)
def wY (ho:RB X (unaryOp op) r)(ha:PE X a ta):PE X (.UnaryOp op a pos) (Xm r ta):=
 fun pins s σ H Q I h=>UnaryOp_ (bb (ha s σ H _ I h) fun v s1 hz_=>aj.el hz_ _ fun x H1 I1 r1 q1=>ho s1 σ H1 x v Q I1 r1 q1)
def QR {C:Int->Int->Prop}{g:Int->Int->Int}
  (rule:∀i j t u s Q E,C i j->Q (.int (g i j) s.toks) { s with toks:=s.toks+1 } -> YX (YW X.prog X.w) X.A (f (.int i t) (.int j u)) Q E s) :
  eW X f (rI C fun i j =>.int (g i j)):=by
 intro pins s σ H x y v u Q I rx ry h;obtain⟨i,j,rfl,rfl,hc,q⟩:=h;obtain⟨t,rfl⟩:=rx;obtain⟨t',rfl⟩:=ry;exact rule i j t t' s _ _ hc ⟨.int (g i j),H,I.tok _,⟨_,rfl⟩,q⟩
def OZ {g:Int->Int->Int}
  (rule:∀i j t u s Q E,Q (.int (g i j) s.toks) { s with toks:=s.toks+1 } -> YX (YW X.prog X.w) X.A (f (.int i t) (.int j u)) Q E s) :
  eW X f (IE fun i j =>.int (g i j)):=by
 intro pins s σ H x y v u Q I rx ry h;obtain⟨i,j,rfl,rfl,q⟩:=h;obtain⟨t,rfl⟩:=rx;obtain⟨t',rfl⟩:=ry;exact rule i j t t' s _ _ ⟨.int (g i j),H,I.tok _,⟨_,rfl⟩,q⟩
def Hu {g:Int->Int->Bool}
  (rule:∀i j t u s Q E,Q (.bool (g i j)) s->YX (YW X.prog X.w) X.A (f (.int i t) (.int j u)) Q E s) :
  eW X f (IE fun i j =>.bl (g i j)):=by
 intro pins s σ H x y v u Q I rx ry h;obtain⟨i,j,rfl,rfl,q⟩:=h;obtain⟨t,rfl⟩:=rx;obtain⟨t',rfl⟩:=ry;exact rule i j t t' s _ _ ⟨.bl (g i j),H,I,rfl,q⟩
def L0 (i j:Int):Prop:=0<j/\j<1073741824
def RA (i j:Int):Prop:=0<=j/\j<=1000000/\i.natAbs<2^64
def xX (i j:Int):Prop:=(-(2^64)<i/\i<2^64)\/(-(2^64)<j/\j<2^64)
def xX.ok (h:xX i j):IntMulOk i j:=by
 rcases h with ⟨h1,h2⟩|⟨h1,h2⟩
 ·exact .of_left (intBits_le_64 h1 h2)
 ·exact .of_right (intBits_le_64 h1 h2)
def Ld:eW X (Z6 .Add) (IE fun i j =>.int (i+j)):=OZ fun _ _ _ _ _ _ _ q=>add_int q
def dG:eW X (Z6 .Sub) (IE fun i j =>.int (i-j)):=OZ fun _ _ _ _ _ _ _ q=>sub_int q
def KA:eW X (Z6 .Mult) (rI xX fun i j =>.int (i*j)):=QR fun _ _ _ _ _ _ _ hc q=>mul_int q hc.ok
def AH:eW X (Z6 .FloorDiv) (rI L0 fun i j =>.int (i / j)):=QR fun i j _ _ _ _ _ hc q=>by
 have h1:=hc.1;have h2:=hc.2;exact floordiv_int ⋯ (by rw[Qel i ⋯];exact q) (.inl (Qei ⋯))
def j3:eW X (Z6 .Mod) (rI (fun _ j=>0<j) fun i j =>.int (i%j)):=QR fun i j _ _ _ _ _ hc q=>by
 exact mod_int' ⋯ (by rw[Qek i ⋯];exact q)
def KR:eW X (Z6 .Pow) (rI RA fun i j =>.int (i^j.toNat)):=QR fun _ _ _ _ _ _ _ hc q=>pow_int_small hc.1 hc.2.1 hc.2.2 q
def YC {g:Int->Int}
  (rule:∀i t s Q E,Q (.int (g i) s.toks) { s with toks:=s.toks+1 } -> YX (YW X.prog X.w) X.A (f (.int i t)) Q E s) :
  RB X f (rU fun i =>.int (g i)):=by
 intro pins s σ H x v Q I rx h;obtain⟨i,rfl,q⟩:=h;obtain⟨t,rfl⟩:=rx;exact rule i t s _ _ ⟨.int (g i),H,I.tok _,⟨_,rfl⟩,q⟩
def pN:RB X (unaryOp .USub) (rU fun i =>.int (-i)):=YC fun _ _ _ _ _ q=>neg_int q
end
def O6:V->V->Bool
 | .non,.non=>true | .non,.int _=>true | .int _,.non=>true | .non,.bl _=>true | .bl _,.non=>true | .non,.str _=>true | .str _,.non=>true
 | .int _,.int _=>true | .bl _,.bl _=>true | .str _,.str _=>true | .byt _,.byt _=>true
 | .int _,.str _=>true | .str _,.int _=>true | .bl _,.str _=>true | .str _,.bl _=>true
 | _,_=>false
def Qb:R2:=fun x y H Q=>O6 x y=true/\Q (.bl (decide (x=y))) H
def Sm:R2:=fun x y H Q=>O6 x y=true/\Q (.bl (!decide (x=y))) H
def zq:decide (V.int i=V.int j)=(i==j):=by
 rw[Y9];simp
def Dl:decide (V.bl i=V.bl j)=(i==j):=by
 rw[Y9];simp
def zO:decide (V.str i=V.str j)=(i==j):=by
 rw[Y9];simp
def AA:decide (V.byt i=V.byt j)=(i.toList==j.toList):=by
 rw[Y9];cases i;cases j;simp
section
variable {X:Cx}{a b c:ZA}{ta tb tc:TE}{pos:Pos}
def bf {σ:St}{H:Hp}{s:Wp}{Q:VK}{k k':Bool}(I:Inv X pins σ H s)(q:Q (.bl k) H)(e:k=k'):EP X pins σ Q (.bool k') s:=by
 subst e;exact⟨.bl k,H,I,rfl,q⟩
def Qa:eW X (Zv .Eq) Qb:=by
 intro pins s σ H x y v u Q I rx ry h;obtain⟨hs,q⟩:=h;cases x with
 | non=>
  cases rx;cases y with
  | non=>cases ry;exact PySem.EqNone.eq_none_none (bf I q (by simp))
  | bl j=>cases ry;exact PySem.EqNone.eq_none_bool (bf I q (by simp))
  | int j=>obtain⟨t',rfl⟩:=ry;exact PySem.EqNone.eq_none_int (bf I q (by simp))
  | str j=>obtain⟨t',rfl⟩:=ry;exact PySem.EqNone.eq_none_str (bf I q (by simp))
  | _=>exact absurd (show false=true from hs) Jr
 | bl i=>
  cases rx;cases y with
  | non=>cases ry;exact PySem.EqNone.eq_bool_none (bf I q (by simp))
  | bl j=>cases ry;exact eq_bool (bf I q Dl)
  | str j=>obtain⟨t',rfl⟩:=ry;exact PySem.EqMixed.eq_bool_str (bf I q (by simp))
  | _=>exact absurd (show false=true from hs) Jr
 | int i=>
  obtain⟨t,rfl⟩:=rx;cases y with
  | non=>cases ry;exact PySem.EqNone.eq_int_none (bf I q (by simp))
  | int j=>obtain⟨t',rfl⟩:=ry;exact eq_int (bf I q zq)
  | str j=>obtain⟨t',rfl⟩:=ry;exact PySem.EqMixed.eq_int_str (bf I q (by simp))
  | _=>exact absurd (show false=true from hs) Jr
 | str i=>
  obtain⟨t,rfl⟩:=rx;cases y with
  | non=>cases ry;exact PySem.EqNone.eq_str_none (bf I q (by simp))
  | bl j=>cases ry;exact PySem.EqMixed.eq_str_bool (bf I q (by simp))
  | int j=>obtain⟨t',rfl⟩:=ry;exact PySem.EqMixed.eq_str_int (bf I q (by simp))
  | str j=>obtain⟨t',rfl⟩:=ry;exact eq_str (bf I q zO)
  | _=>exact absurd (show false=true from hs) Jr
 | byt i=>
  obtain⟨t,rfl⟩:=rx;cases y with
  | byt j=>obtain⟨t',rfl⟩:=ry;exact PySem.W.eq_bytes (bf I q AA)
  | _=>exact absurd (show false=true from hs) Jr
 | _=>cases y<;>exact absurd (show false=true from hs) Jr
def Pb:eW X (Zv .NotEq) Sm:=by
 intro pins s σ H x y v u Q I rx ry h;obtain⟨hs,q⟩:=h;cases x with
 | non=>
  cases rx;cases y with
  | non=>cases ry;exact PySem.EqNone.ne_none_none (bf I q (by simp))
  | bl j=>cases ry;exact PySem.EqNone.ne_none_bool (bf I q (by simp))
  | int j=>obtain⟨t',rfl⟩:=ry;exact PySem.EqNone.ne_none_int (bf I q (by simp))
  | str j=>obtain⟨t',rfl⟩:=ry;exact PySem.EqNone.ne_none_str (bf I q (by simp))
  | _=>exact absurd (show false=true from hs) Jr
 | bl i=>
  cases rx;cases y with
  | non=>cases ry;exact PySem.EqNone.ne_bool_none (bf I q (by simp))
  | bl j=>cases ry;exact ne_bool (bf I q (congrArg not Dl))
  | str j=>obtain⟨t',rfl⟩:=ry;exact PySem.EqMixed.ne_bool_str (bf I q (by simp))
  | _=>exact absurd (show false=true from hs) Jr
 | int i=>
  obtain⟨t,rfl⟩:=rx;cases y with
  | non=>cases ry;exact PySem.EqNone.ne_int_none (bf I q (by simp))
  | int j=>obtain⟨t',rfl⟩:=ry;exact ne_int (bf I q (congrArg not zq))
  | str j=>obtain⟨t',rfl⟩:=ry;exact PySem.EqMixed.ne_int_str (bf I q (by simp))
  | _=>exact absurd (show false=true from hs) Jr
 | str i=>
  obtain⟨t,rfl⟩:=rx;cases y with
  | non=>cases ry;exact PySem.EqNone.ne_str_none (bf I q (by simp))
  | bl j=>cases ry;exact PySem.EqMixed.ne_str_bool (bf I q (by simp))
  | int j=>obtain⟨t',rfl⟩:=ry;exact PySem.EqMixed.ne_str_int (bf I q (by simp))
  | str j=>obtain⟨t',rfl⟩:=ry;exact ne_str (bf I q (congrArg not zO))
  | _=>exact absurd (show false=true from hs) Jr
 | byt i=>
  obtain⟨t,rfl⟩:=rx;cases y with
  | byt j=>obtain⟨t',rfl⟩:=ry;exact PySem.W.ne_bytes (bf I q (congrArg not AA))
  | _=>exact absurd (show false=true from hs) Jr
 | _=>cases y<;>exact absurd (show false=true from hs) Jr
def sH:eW X (Zv .Lt) (IE fun i j =>.bl (decide (i<j))):=Hu fun _ _ _ _ _ _ _ q=>lt_int q
def oU:eW X (Zv .LtE) (IE fun i j =>.bl (decide (i<=j))):=Hu fun _ _ _ _ _ _ _ q=>le_int q
def Aq:eW X (Zv .Gt) (IE fun i j =>.bl (decide (j<i))):=Hu fun _ _ _ _ _ _ _ q=>gt_int q
def zJ:eW X (Zv .GtE) (IE fun i j =>.bl (decide (j<=i))):=Hu fun _ _ _ _ _ _ _ q=>ge_int q
def L1:eW X (Zv .Is) (fun x y H Q=>y = .non/\Q (.bl (decide (x = .non))) H):=by
 intro pins s σ H x y v u Q I rx ry h;obtain⟨rfl,q⟩:=h;cases ry;refine is_none_gen (bf I q ?_);cases x<;>first
  | (cases rx;rfl)
  | (obtain⟨t,rfl⟩:=rx;rfl)
def HP:eW X (Zv .IsNot) (fun x y H Q=>y = .non/\Q (.bl (!decide (x = .non))) H):=by
 intro pins s σ H x y v u Q I rx ry h;obtain⟨rfl,q⟩:=h;cases ry;refine isnot_none_gen (bf I q ?_);cases x<;>first
  | (cases rx;rfl)
  | (obtain⟨t,rfl⟩:=rx;rfl)
def eW.or (h:eW X f r)(h':eW X f r'):eW X f (fun x y H Q=>r x y H Q\/r' x y H Q):=by
 intro pins s σ H x y v u Q I rx ry q
 rcases q with q|q
 ·exact h s σ H x y v u Q I rx ry q
 ·exact h' s σ H x y v u Q I rx ry q
def aE (b:ZA){op:CmpOp}(h:op ≠ .In:=by decide)(h2:op ≠ .NotIn:=by decide):Qck op b=false:=by
 have e1:(op==CmpOp.In)=false:=by cases op<;>first|rfl|exact absurd rfl h
 have e2:(op==CmpOp.NotIn)=false:=by cases op<;>first|rfl|exact absurd rfl h2
 cases b<;>simp[Qck,e1,e2]
def cT (ho:eW X (Zv op) r)(ha:PE X a ta)(hb:PE X b tb)(hm:Qck op b=false):PE X (.Compare a [op] [b] pos) (M9 r ta tb):=
 fun pins s σ H Q I h=>wpAny_Compare1 (Kp ha hb I h fun v u s2 x y H2 I2 rx ry q=>ho s2 σ H2 x y v u Q I2 rx ry q) hm
def JR (t:TE):TT:=fun σ H Q=>t σ H fun x H'=>∃k,x = .bl k/\Q k H'
def ax (ho:eW X (Zv op) r)(ha:PE X a ta)(hb:PE X b tb)(hm:Qck op b=false):PT X (.Compare a [op] [b] pos) (JR (M9 r ta tb)):=by
 refine fun pins s σ H Q I h=>wpAny_isTrue_Compare1 (bb (ha s σ H _ I h) fun v s1 hz_=>aj.el hz_ _ fun x H1 I1 r1 q1=>bb (hb s1 σ H1 _ I1 q1) fun u s2 ⟨y,H2,I2,r2,q2⟩=>
  bb (ho s2 σ H2 x y v u _ I2 r1 r2 q2) fun c s3 ⟨z,H3,I3,r3,k,e,q3⟩=>?_) hm
 subst e;cases r3;exact Qaf ⟨H3,I3,q3⟩
def Dp (r r':R2)(ta tb tc:TE):TE:=fun σ H Q=>ta σ H fun x H1=>tb σ H1 fun y H2=>r x y H2 fun z H3=>∃k,z = .bl k /\
 (if k=true then tc σ H3 fun w' H4=>r' y w' H4 Q else Q (.bl false) H3)
def Ee {r r':R2}(ho:eW X (Zv op) r)(vt:eW X (Zv op') r')(ha:PE X a ta)(hb:PE X b tb)(hc:PE X c tc)
  (hm:lastMarks [op,op'] [b,c]=false:=by with_unfolding_all rfl):PE X (.Compare a [op,op'] [b,c] pos) (Dp r r' ta tb tc):=by
 refine fun pins s σ H Q I h=>Compare_chain (bb (ha s σ H _ I h) fun v s1 hz_=>aj.el hz_ _ fun x H1 I1 r1 q1=>chain_link (bb (hb s1 σ H1 _ I1 q1) fun u s2 ⟨y,H2,I2,r2,q2⟩=>
  bb (ho s2 σ H2 x y v u _ I2 r1 r2 q2) fun d s3 ⟨z,H3,I3,r3,k,e,q3⟩=>?_)) hm
 subst e;cases r3;refine Qaf ?_;cases k with
 | false=>exact ite_ff ⟨.bl false,H3,I3,rfl,q3⟩
 | true=>exact ite_tt (chain_last (bb (hc s3 σ H3 _ I3 q3) fun w' s4 hz_=>aj.el hz_ _ fun z' H4 I4 r4 q4=>vt s4 σ H4 y z' u w' Q I4 r2 r4 q4))
def v8 {r r':R2}(ho:eW X (Zv op) r)(vt:eW X (Zv op') r')(ha:PE X a ta)(hb:PE X b tb)(hc:PE X c tc)
  (hm:lastMarks [op,op'] [b,c]=false:=by with_unfolding_all rfl):PT X (.Compare a [op,op'] [b,c] pos) (JR (Dp r r' ta tb tc)):=by
 refine fun pins s σ H Q I h=>isTrue_chain (bb (ha s σ H _ I h) fun v s1 hz_=>aj.el hz_ _ fun x H1 I1 r1 q1=>test_link (bb (hb s1 σ H1 _ I1 q1) fun u s2 ⟨y,H2,I2,r2,q2⟩=>
  bb (ho s2 σ H2 x y v u _ I2 r1 r2 q2) fun d s3 ⟨z,H3,I3,r3,k,e,q3⟩=>?_)) hm
 subst e;cases r3;refine Qaf ?_;cases k with
 | false=>
  obtain⟨k',e',q'⟩:=q3;cases e';exact ite_ff ⟨H3,I3,q'⟩
 | true=>
  refine ite_tt (test_last (bb (hc s3 σ H3 _ I3 q3) fun w' s4 hz_=>aj.el hz_ _ fun z' H4 I4 r4 q4=>bb (vt s4 σ H4 y z' u w' _ I4 r2 r4 q4) fun d' s5 hz_=>aj.el hz_ _ ?_));rintro z2 H5 I5 r5 ⟨k2,e2,q5⟩;subst e2;cases r5;exact Qaf ⟨H5,I5,q5⟩
def mK:(KE:Nat)<2^63:=by rw[Qcc];decide
def y6:eW X (Z6 .Add) (fun x y H Q=>∃i j,x = .str i/\y = .str j/\i.length+j.length<=KE/\Q (.str (i++j)) H):=by
 intro pins s σ H x y v u Q I rx ry h;obtain⟨i,j,rfl,rfl,hz,q⟩:=h;obtain⟨t,rfl⟩:=rx;obtain⟨t',rfl⟩:=ry;exact add_str (fun t' tk=>⟨.str (i++j),H,I.tok _,⟨_,rfl⟩,q⟩) hz
def vals1 (r:Vals [x] us):∃u,us=[u]/\RelV x u:=by
 cases r with
 | cons r1 r2=>cases r2;exact⟨_,rfl,r1⟩
def vals2 (r:Vals [x,y] us):∃u w',us=[u,w']/\RelV x u/\RelV y w':=by
 cases r with
 | cons r1 r2=>
  cases r2 with
  | cons r3 r4=>cases r4;exact⟨_,_,rfl,r1,r3⟩
def sy (hc:X.calm=true):bF X (.builtin "max") (fun xs H Q=>∃i j,xs=[.int i,.int j]/\Q (.int (if j>i then j else i)) H):=by
 intro pins s σ H xs us Q I r h;obtain⟨i,j,rfl,q⟩:=h;obtain⟨u,w',rfl,⟨t,rfl⟩,⟨t',rfl⟩⟩:=vals2 r;refine max_two_ints (I.ok.hd hc) fun h' tk k=>⟨_,H,I.kept k,?_,q⟩
 by_cases hj:j>i
 ·rw[if_pos hj,if_pos hj];exact⟨_,rfl⟩
 ·rw[if_neg hj,if_neg hj];exact⟨_,rfl⟩
def gr:bF X (.type "int") (fun xs H Q=>(∃i,xs=[.int i]/\Q (.int i) H)\/∃k,xs=[.bl k]/\Q (.int (if k then 1 else 0)) H):=by
 intro pins s σ H xs us Q I r h
 rcases h with ⟨i,rfl,q⟩|⟨k,rfl,q⟩
 ·obtain⟨u,rfl,t,rfl⟩:=vals1 r;exact call_int_int ⟨.int i,H,I,⟨_,rfl⟩,q⟩
 ·obtain⟨u,rfl,r1⟩:=vals1 r;cases r1;exact call_int_bool ⟨.int (if k then 1 else 0),H,I.tok _,⟨_,rfl⟩,q⟩
def uL:bF X (.type "str") (fun xs H Q=>∃i,xs=[.int i]/\i.natAbs.log2<1920/\Q (.str (toString i)) H):=by
 intro pins s σ H xs us Q I r h;obtain⟨i,rfl,hz,q⟩:=h;obtain⟨u,rfl,t,rfl⟩:=vals1 r;exact PySem.P.str_of_int hz ⟨.str _,H,I.tok _,⟨_,rfl⟩,q⟩
def KI (K:Ja)(x:V)(H:Hp)(n:Nat):Prop:=
 match x with
 | .str y=>y.length<=KE/\n=y.length
 | .byt y=>y.size<=KE/\n=y.size
 | .ref p=>(∃xs,bg K H p xs/\n=xs.length)\/∃xs,aY K H p xs/\n=xs.length
 | _=>False
def EJ:bF X (.builtin "len") (fun xs H Q=>∃x n,xs=[x]/\KI X.K x H n/\Q (.int n) H):=by
 intro pins s σ H xs us Q I r h;obtain⟨x,n,rfl,e,q⟩:=h;obtain⟨u,rfl,rx⟩:=vals1 r;have hs:=Qcc;cases x with
 | str y=>
  obtain⟨t,rfl⟩:=rx;obtain⟨hy,e'⟩:y.length<=KE/\n=y.length:=e;subst e';exact len_str ⋯ ⟨.int _,H,I.tok _,⟨_,rfl⟩,q⟩
 | byt y=>
  obtain⟨t,rfl⟩:=rx;obtain⟨hy,e'⟩:y.size<=KE/\n=y.size:=e;subst e';exact PySem.W.len_bytes ⋯ ⟨.int _,H,I.tok _,⟨_,rfl⟩,q⟩
 | ref p=>
  cases rx;have e':=e
  rcases e' with ⟨xs,hx,e'⟩|⟨xs,hx,e'⟩
  ·subst e';obtain⟨aF,r',pl,hz⟩:=I.list hx;have hlen:=r'.length;exact Calls.call_len_list pl.isList (by simp only[Jv];lia) ⟨.int xs.length,H,I.tok _,⟨_,by simp only[Jv];rw[hlen]⟩,q⟩
  ·subst e';obtain⟨aF,r',pl,hz⟩:=I.tuple hx;have hlen:=r'.length;exact len_tuple pl (by simp only[Jv];lia) ⟨.int xs.length,H,I.tok _,⟨_,by simp only[Jv];rw[hlen]⟩,q⟩
 | _=>exact(show False from e).elim
def vM:bF X (.builtin "divmod") (fun xs H Q=>∃i j,xs=[.int i,.int j]/\L0 i j/\∀p,H p=none->Q (.ref p) (upd H p (.tup [.int (i / j),.int (i%j)]))):=by
 intro pins s σ H xs us Q I r h;obtain⟨i,j,rfl,⟨h1,h2⟩,q⟩:=h;obtain⟨u,w',rfl,⟨t,rfl⟩,⟨t',rfl⟩⟩:=vals2 r;refine divmod_int ⋯ ?_ (.inl (Qei ⋯));rw[Qel i ⋯,Qek i ⋯];refine⟨.ref s.heap.objs.size,_,?_,rfl,q _ (I.bq.fresh (Je _))⟩;refine I.laid (fun b o e=>Jb _ e) (Je _) ⟨by simp only[Jn,Yk];rw[Qcc];decide,[.int (i / j) s.toks,.int (i%j) (s.toks+1)],.cons ⟨_,rfl⟩ (.cons ⟨_,rfl⟩ .nil),?_⟩;exact⟨_,Jh s.heap rfl,rfl,rfl,0,rfl⟩
end
structure xQ (h:Heap)(x dx C:Gc)(mA:Str->Option Fk):Prop where
 obj:h.get? x=some (Y5 C dx)
 ns:h.Ns1 dx mA
 ne:dx≠x
def sj {h:Heap}{dx:Gc}{mA:Str->Option Fk}(n:h.Ns1 dx mA):∃od,h.get? dx=some od/\∀name,Qcm name od=some (mA name):=by
 obtain⟨o,es,ep,ho,hd,hk,_,hm⟩:=n;refine⟨o,ho,fun name =>?_⟩;have e:=hm name;unfold nsFind findBy at e;rw[<-Array.find?_toList] at e;unfold Qcm;rw[hd];dsimp only
 split
 ·rename_i y q;rw[q] at e;exact congrArg some e
 ·rename_i q;rw[q] at e;have a:es.toList.any (·.refKey)=false:=by
   rw[List.any_eq_false];intro y hy;obtain⟨z,t,hkey⟩:=hk y (Array.mem_toList_iff.mp hy);simp[DictEntry.refKey,hkey]
  rw[if_neg (by rw[a];exact Jr)];exact congrArg some e
def xQ.look (I:xQ h x dx C mA):∃od,PySem.W.InstAt h x (Y5 C dx) C (some od)/\∀name,Qcm name od=some (mA name):=
 let ⟨od,ho,hl⟩:=sj I.ns
 ⟨od,⟨I.obj,rfl,rfl,ho⟩,hl⟩
section
variable {prog:YZ}{w:Zb}{A:Zs}{E:Fk->Wp->Prop}{s:Wp}{K:Ja}{x dx C f:Gc}{mA:Str->Option Fk}{name:Str}{v:Fk}
def get_map {Q:Fk->Wp->Prop}(X:K.In s.heap)(I:xQ s.heap x dx C mA)(hg:QbS K C name=true)(hh:QcQ K C=true)
  (ha:Yr K (.ref C) name=some none) (hv:mA name=some v) (QN:PySem.W.handedIn v=true) (h:Q v { s with toks:=s.toks+1 }) :
  YX (YW prog w) A (getAttr (.ref x) name expr) Q E s:=by
 obtain⟨od,J,hl⟩:=I.look;exact PySem.W.get_value X J (Qcv hg).1 (PySem.W.findObj_own hh ha rfl (by rw[hl,hv])) QN h
def EV {Q:Fk×List Fk->Wp->Prop}(X:K.In s.heap)(I:xQ s.heap x dx C mA)(hg:QbS K C name=true)
  (hf:Yr K (.ref C) name=some (some (.ref f))) (ht:Qef K (.ref f)=true) (hv:mA name=none) (h:Q (.ref f,[.ref x]) s) :
  YX (YW prog w) A (getMethod (.ref x) name pl) Q E s:=by
 obtain⟨od,J,hl⟩:=I.look;exact PySem.W.method_fn X J (Qcv hg).1 (Qcv hg).2 hf (beq_iff_eq.mp ht) (by show(Qcm name od).map (·.isSome)=some false;rw[hl,hv];rfl) h
def HN (X:K.In s.heap)(I:xQ s.heap x dx C mA)
  (hs:Yr K (.ref C) "__setattr__" = some (some (.builtin "object.__setattr__"))) (hp:Qe9 K C=true) (ht:Qda K C name=some none) (hh:QcQ K C=true)
  (hw:QeA mA ns) (hsz:ns.length<=KE)
  (h:∀h',xQ h' x dx C (fun y=>if y=name then some v else mA y)->U4 dx s.heap h'->Q () { s with heap:=h',toks:=s.toks+2 }) :
  YX (YW prog w) A (setAttr (.ref x) name v) Q E s:=by
 obtain⟨od,J,hl⟩:=I.look;refine PySem.W.set_plain X J hs (PySem.W.osa_open X J hp ht fun b =>?_);obtain⟨cd,hc,Au⟩:=PySem.W.any_some hh;refine be (tz (be (be (QeO I.obj (be (PySem.W.Looks.here (PySem.W.looks_clsIn X hc) ?_))))));rw[Au];refine tz (be (tz (be (wpAny_nsSet1 I.ns fun h' xJ AG =>?_))));obtain⟨oD,esD,epD,hoD,hdD,hcD⟩:=xJ.count (PySem.Within.cons name v hw);exact be (wpAny_lookBehind hoD (by rw[hdD];exact pastItsLine_dict (Jg hcD (by rw[Jn];lia))) (tz (h _ ⟨(AG.2 _ (Zx I.ne)).trans I.obj,xJ,I.ne⟩ AG)))
def Dc {vs:List Fk}{kw:List (Str×Fk)}(X:K.In s.heap)(hm:Qb3 K C=true)
  (hi:Yr K (.ref C) "__init__" = some (some (.ref f))) (hf:PySem.W.typeIn K (.ref f)=some (.type "function"))
  (h:ZW (YW prog w) (A.under (.builtin "type.__call__" ⟨.ref C::vs,kw⟩)) (.call (.ref f) ⟨.ref (s.heap.objs.size+1)::vs,kw⟩) (PySem.W.InitBack (s.heap.objs.size+1) R)
   { s with heap:=(s.heap.push Y3).push (Y5 C s.heap.objs.size) }) :
  ZW (YW prog w) A (.call (.ref C) ⟨vs,kw⟩) R s:=by
 obtain⟨hh,g,d,t,os⟩:=s;exact PySem.W.make_core (PySem.W.makes_of X hm) (PySem.W.looks_findIn X hi) (fun self=>PySem.W.bind_fn X self hf) (.inl rfl) h
end
def jD (f:Str)(v:V):List (Str×V)->List (Str×V)
 | []=>[(f,v)]
 | (g,x)::r=>if g=f then (g,v)::r else (g,x)::jD f v r
def nQ (f g:Str)(v:V):∀fs,(jD f v fs).lookup g=if g=f then some v else fs.lookup g
 | []=>by
  show Wc g [(f,v)]=_
  by_cases h:g=f
  ·have hb:=beq_iff_eq.mpr h;simp only[Wc,hb,if_pos h]
  ·have hb:=beq_eq_false_iff_ne.mpr h;simp only[Wc,hb,if_neg h]
 | (k,x)::r=>by
  rw[show jD f v ((k,x)::r)=(if k=f then (k,v)::r else (k,x)::jD f v r) from rfl]
  by_cases hk:k=f
  ·rw[if_pos hk]
   by_cases h:g=k
   ·have hb:=beq_iff_eq.mpr h;simp only[Wc,hb,if_pos (h.trans hk)]
   ·have hb:=beq_eq_false_iff_ne.mpr h;simp only[Wc,hb,if_neg (fun e:g=f=>h (e.trans hk.symm))]
  ·rw[if_neg hk]
   by_cases h:g=k
   ·have hb:=beq_iff_eq.mpr h;simp only[Wc,hb,if_neg (fun e:g=f=>hk (h.symm.trans e))]
   ·have hb:=beq_eq_false_iff_ne.mpr h;simp only[Wc,hb];exact nQ f g v r
def mN (f:Str)(v:V):∀fs,f∈(jD f v fs).map (·.1)/\∀g,g∈fs.map (·.1)->g∈(jD f v fs).map (·.1)
 | []=>⟨by simp[jD],fun g h=>by simp at h⟩
 | (k,x)::r=>by
  obtain⟨i1,i2⟩:=mN f v r;rw[show jD f v ((k,x)::r)=(if k=f then (k,v)::r else (k,x)::jD f v r) from rfl]
  by_cases hk:k=f
  ·rw[if_pos hk];subst hk;exact⟨by simp,fun g h=>by simpa using h⟩
  ·rw[if_neg hk];refine⟨?_,fun g h =>?_⟩
   ·rw[Jz];exact Jj _ i1
   ·rw[Jz] at h ⊢
    rcases Jq.mp h with e|e
    ·exact Jq.mpr (.inl e)
    ·exact Jj _ (i2 g e)
def nM (f:Str)(v:V):∀fs,(jD f v fs).length<=fs.length+1
 | []=>by simp[jD]
 | (k,x)::r=>by
  have ih:=nM f v r;rw[show jD f v ((k,x)::r)=(if k=f then (k,v)::r else (k,x)::jD f v r) from rfl]
  by_cases hk:k=f
  ·rw[if_pos hk,Jn,Jn];lia
  ·rw[if_neg hk,Jn,Jn];lia
def iW.sX (r:iW (some v) o):∃u,o=some u/\RelV v u:=by
 cases o with
 | none=>exact(show False from r).elim
 | some u=>exact⟨u,rfl,r⟩
def iW.none_of (r:iW none o):o=none:=by
 cases o with
 | none=>rfl
 | some u=>exact(show False from r).elim
def BI (r:RelV v u):PySem.W.handedIn u=true:=by
 cases v with
 | non=>cases (show u=Qbe from r);rfl
 | bl b=>cases (show u=Qat b from r);rfl
 | int i=>obtain⟨t,e⟩:=(show ∃t,u=QcB i t from r);cases e;rfl
 | str x=>obtain⟨t,e⟩:=(show ∃t,u=Qbw x t from r);cases e;rfl
 | byt b=>obtain⟨t,e⟩:=(show ∃t,u=Value.bytes b t from r);cases e;rfl
 | flt b=>obtain⟨t,e⟩:=(show ∃t,u=QeU b t from r);cases e;rfl
 | ref a=>cases (show u=Zh a from r);rfl
 | ty n=>cases (show u=Z0 n from r);rfl
section
variable {P:YZ}{w:Zb}{H H':Hp}{h h':Heap}{a C dx:Gc}{fs VL:List (Str×V)}
def ox (bq:jr P w H h)(e:H a=some (.ins C dx fs)):∃mA,xQ h a dx C mA/\(∀f,iW (fs.lookup f) (mA f))/\QeA mA (fs.map (·.1))/\fs.length<=1000/\H dx=some (.own a):=by
 obtain⟨d,z,ne,ob,mA,n,r,q⟩:=(show bt P w H h a (.ins C dx fs) from bq a _ e)
 exact⟨mA,⟨ob,n,ne⟩,r,q,z,d⟩
end
structure Ad (K:Ja)(C:Gc):Prop where
 pg:QbS K C Zt=true
 hd:QcQ K C=true
 po:Qe9 K C=true
 sa:Yr K (.ref C) "__setattr__" = some (some (.builtin "object.__setattr__"))
def Ad.get {K:Ja}{C:Gc}(c:Ad K C)(f:Str):QbS K C f=true:=c.pg
def cR (K:Ja)(C:Gc)(f:Str):Prop:=Yr K (.ref C) f=some none
def cR.Nz {K:Ja}{C:Gc}{f:Str}(n:cR K C f):Qda K C f=some none:=by
 unfold Qda;rw[show Yr K (.ref C) f=some none from n]
 rfl
structure B9 (K:Ja)(C:Gc)(m:Str)(f:Gc):Prop where
 at_:Yr K (.ref C) m=some (some (.ref f))
 fn:Qef K (.ref f)=true
 kp:Yc K (.ref f)=true
section
variable {X:Cx}{pins:List (Gc×Obj)}{σ:St}{H:Hp}{s:Wp}{a C dx:Gc}{fs:List (Str×V)}{f:Str}{v:V}{A:Zs}{E:Fk->Wp->Prop}
def xi {Q:Fk->Wp->Prop}(I:Inv X pins σ H s)(e:H a=some (.ins C dx fs))(c:Ad X.K C)(n:cR X.K C f)(l:fs.lookup f=some v)
  (h:∀u s',Inv X pins σ H s'->RelV v u->Q u s'):YX (YW X.prog X.w) A (getAttr (.ref a) f b) Q E s:=by
 obtain⟨mA,O,r,_,_,_⟩:=ox I.bq e;obtain⟨u,hu,ru⟩:=iW.sX (by rw[<-l];exact r f);exact get_map I.iQ O (c.get f) c.hd n hu (BI ru) (h u _ (I.tok _) ru)
def xo {Q:Fk×List Fk->Wp->Prop}(I:Inv X pins σ H s)(e:H a=some (.ins C dx fs))(c:Ad X.K C)(k:B9 X.K C m g)(l:fs.lookup m=none)
  (h:Q (.ref g,[.ref a]) s):YX (YW X.prog X.w) A (getMethod (.ref a) m pl) Q E s:=by
 obtain⟨mA,O,r,_,_,_⟩:=ox I.bq e;exact EV I.iQ O (c.get m) k.at_ k.fn (iW.none_of (by rw[<-l];exact r m)) h
def yx (I:Inv X pins σ H s)(e:H a=some (.ins C dx fs))(c:Ad X.K C)(n:cR X.K C f)(hl:fs.length<1000)(ry:RelV y u)
  (h:∀s',Inv X pins σ (upd H a (.ins C dx (jD f y fs))) s'->Q () s'):YX (YW X.prog X.w) A (setAttr (.ref a) f u) Q E s:=by
 obtain⟨mA,O,r,wi,_,ho⟩:=ox I.bq e;refine HN I.iQ O c.sa c.po n.Nz c.hd wi (by rw[Jd,Qcc];lia) fun h' O' sb=>h _ (I.write (by rw[e];exact ZL) (.inr ho) (fun b q hb z=>(sb.2 b hb).trans z) (let ⟨o,_,_,e',_⟩:=O'.ns; ⟨o,e'⟩) ⟨by rw[au O.ne];exact ho,?_,O.ne,O'.obj,_,O'.ns,fun g =>?_,fun g hg =>?_⟩)
 ·have:=nM f y fs;lia
 ·show iW ((jD f y fs).lookup g) (if g=f then some u else mA g);rw[nQ]
  by_cases q:g=f
  ·rw[if_pos q,if_pos q];exact ry
  ·rw[if_neg q,if_neg q];exact r g
 ·by_cases q:g=f
  ·rw[q];exact(mN f y fs).1
  ·refine(mN f y fs).2 g (wi g fun z=>hg ?_);show(if g=f then some u else mA g)=none;rw[if_neg q];exact z
def Inv.made (I:Inv X pins σ H s):Inv X pins σ (upd (upd H s.heap.objs.size (.own (s.heap.objs.size+1))) (s.heap.objs.size+1) (.ins C s.heap.objs.size []))
  { s with heap:=(s.heap.push Y3).push (Y5 C s.heap.objs.size) }:=by
 have e1:(s.heap.push Y3).get? s.heap.objs.size=some Y3:=Jh s.heap rfl;have e2:((s.heap.push Y3).push (Y5 C s.heap.objs.size)).get? (s.heap.objs.size+1)=some (Y5 C s.heap.objs.size):=by
  have:=Jh (s.heap.push Y3) (o:=Y5 C s.heap.objs.size) rfl;rwa[Uc] at this
 refine(I.laid (o := .own (s.heap.objs.size+1)) (t':=s.toks) (fun b u q=>Jb _ q) (Je _) ⟨_,e1⟩).laid (fun b u q=>Jb _ q) (QbB (Uc _ _)) ?_;have ne:s.heap.objs.size≠s.heap.objs.size+1:=Jl (Wd _);refine⟨by rw[au ne,av],Uq _,ne,e2,fun _=>none,(Qe7 ⟨Y3,#[],_,e1,rfl,(fun e he=>absurd he (by simp)),fun _=>rfl⟩).at fun o q=>Jb _ q,fun _=>ZL,fun y hy=>absurd rfl hy⟩
def zX {env:Env}{e:ZA}{f:Str}{pos:Pos}{s:Wp}{Q:Fk->Wp->Prop}(hb:QaK e f env (ZM e env)=ZM e env)
  (h:YX (YW prog w) A (ZM e env) (fun o s₁=>YX (YW prog w) A (getAttr o f true) Q E s₁) E s):YX (YW prog w) A (ZM (.Attribute e f pos) env) Q E s:=
 Attribute_any_ h (by rw[arm_eval_Attribute,hb])
end
def Ot (K:Ja)(ta:TE)(f:Str):TE:=fun σ H Q=>ta σ H fun x H1=>vY fun a C dx fs v=>x = .ref a/\H1 a=some (.ins C dx fs)/\Ad K C/\cR K C f/\fs.lookup f=some v/\Q v H1
def KZ (K:Ja)(ta tv:TE)(f:Str):TS:=fun D σ H=>tv σ H fun y H1=>ta σ H1 fun x H2=>lW fun a C dx fs=>x = .ref a/\H2 a=some (.ins C dx fs)/\Ad K C/\cR K C f/\fs.length<1000 /\
 D.nx σ (upd H2 a (.ins C dx (jD f y fs)))
section
variable {X:Cx}{o e value:ZA}{f:Str}{pos pos' Q2:Pos}{ta tv:TE}
def KM (he:PE X e ta)(hb:QaK e f X.env (ZM e X.env)=ZM e X.env):PE X (.Attribute e f pos) (Ot X.K ta f):=by
 refine fun pins s σ H Q I h=>zX hb (bb (he s σ H _ I h) fun u s1 hz_=>aj.el hz_ _ ?_);rintro x H1 I1 rx ⟨a,C,dx,fs,v,ex,ea,c,n,l,q⟩;subst ex;obtain rfl:u=Zh a:=rx;exact xi I1 ea c n l fun u' s2 I2 ru=>⟨v,H1,I2,ru,q⟩
def iy (ha:PE X o ta)(hv:PE X value tv)(hs:Qc4 value (some (.Attribute o f pos')) pos.line X.env=pure false):PS X (.Assign [.Attribute o f pos'] value pos) (KZ X.K ta tv f):=by
 refine fun pins s σ H D I h=>QdU (bb (hv s σ H _ I h) fun u s1 ⟨y,H1,I1,ry,q⟩=>bb (ha s1 σ H1 _ I1 q) fun ov s2 ⟨x,H2,I2,rx,a,C,dx,fs,ex,ea,c,n,l,q2⟩=>?_) hs;subst ex;obtain rfl:ov=Zh a:=rx;exact yx I2 ea c n l ry fun s3 I3=>⟨σ,_,I3,q2⟩
end
section
variable {X:Cx}{pins:List (Gc×Obj)}{σ:St}{H:Hp}{s:Wp}{A:Zs}{E:Fk->Wp->Prop}{Q:Fk->Wp->Prop}{c:Fk}{b:Bool}
inductive lM (K:Ja)(H:Hp):V->Fk->Prop where
 | non:lM K H .non (.type "NoneType")
 | bl (x:Bool):lM K H (.bl x) (.type "bool")
 | int (i:Int):lM K H (.int i) (.type "int")
 | str (x:Str):lM K H (.str x) (.type "str")
 | flt (x:UInt64):lM K H (.flt x) (.type "float")
 | lst {a:Gc} {xs:List V} (e:H a=some (.lst xs)):lM K H (.ref a) (.type "list")
 | frz {a:Gc} {o:Obj} {xs:List V} (e:H a=some (.frz o (.lst xs))):lM K H (.ref a) (.type "list")
 | tup {a:Gc} {xs:List V} (e:H a=some (.tup xs)):lM K H (.ref a) (.type "tuple")
 | dK {a:Gc} {kvs:List (Key×V)} (e:H a=some (.dK kvs)):lM K H (.ref a) (.type "dict")
 | dT {a:Gc} {kvs:List (List Key×V)} (e:H a=some (.dT kvs)):lM K H (.ref a) (.type "dict")
 | ins {a C dx:Gc} {fs:List (Str×V)} (e:H a=some (.ins C dx fs)) (cl:Ad K C) (ha:Yr K (.ref C) "__class__" = some (some (.builtin "object.__class__")))
   (hn:PySem.W.specialIn K (.builtin "object.__class__") "__get__" = some (some (.builtin "getset_descriptor.__get__"))) (vC:PySem.W.takesIn K (.builtin "object.__class__")=some true)
   (hm:PySem.W.mroIn K C (.type "object")=some true):lM K H (.ref a) (.ref C)
def Bl (I:Inv X pins σ H s)(rx:RelV x u)(ty:lM X.K H x t)(e:Ud X.K t c=some b)(h:∀tk,Q (.bool b) { s with toks:=tk }):
  YX (YW X.prog X.w) A (call (.builtin "isinstance") [u,c]) Q E s:=by
 cases ty with
 | non=>cases (show u=Qbe from rx);exact U5 Qfa I.iQ ZL e (nofun) h
 | bl y=>cases (show u=Qat y from rx);exact U5 Qfc I.iQ ZL e (nofun) h
 | int i=>obtain⟨t,q⟩:=(show ∃t,u=QcB i t from rx);cases q;exact U5 PySem.W.kitx_int I.iQ ZL e (nofun) h
 | str y=>obtain⟨t,q⟩:=(show ∃t,u=Qbw y t from rx);cases q;exact U5 PySem.W.kitx_str I.iQ ZL e (nofun) h
 | flt y=>obtain⟨t,q⟩:=(show ∃t,u=QeU y t from rx);cases q;exact U5 PySem.W.kitx_float I.iQ ZL e (nofun) h
 | @lst a xs ea=>
  cases (show u=Zh a from rx);obtain⟨_,_,n,_,h1⟩:=(show bt X.prog X.w H s.heap a (.lst xs) from I.bq a _ ea)
  exact U5 QcP I.iQ ⟨_,h1,rfl⟩ e (nofun) h
 | @frz a ob xs ea=>
  cases (show u=Zh a from rx);obtain⟨_,_,_,n,_,h1⟩:=(show bt X.prog X.w H s.heap a (.frz ob (.lst xs)) from I.bq a _ ea)
  exact U5 QcP I.iQ ⟨_,h1,rfl⟩ e (nofun) h
 | @tup a xs ea=>
  cases (show u=Zh a from rx);obtain⟨_,_,_,p⟩:=(show bt X.prog X.w H s.heap a (.tup xs) from I.bq a _ ea)
  obtain⟨o,h1,_,h2,_⟩:=p;exact U5 QeX I.iQ ⟨o,h1,h2⟩ e (nofun) h
 | @dK a kvs ea=>
  cases (show u=Zh a from rx);obtain⟨_,_,vs,_,p⟩:=(show bt X.prog X.w H s.heap a (.dK kvs) from I.bq a _ ea)
  obtain⟨o,es,ep,h1,h2,_⟩:=p;exact U5 Qfb I.iQ ⟨o,h1,h2.1⟩ e (nofun) h
 | @dT a kvs ea=>
  cases (show u=Zh a from rx);obtain⟨_,_,xs,_,o,es,ep,h1,h2,_⟩:=(show bt X.prog X.w H s.heap a (.dT kvs) from I.bq a _ ea)
  exact U5 Qfb I.iQ ⟨o,h1,h2.1⟩ e (nofun) h
 | @ins a C dx fs ea cl ha hn vC hm=>
  cases (show u=Zh a from rx);obtain⟨mA,O,_⟩:=ox I.bq ea;obtain⟨od,J,_⟩:=O.look;exact U5 (PySem.W.kitx_own (cl.get _) cl.hd ha hn vC hm) I.iQ J e (nofun) h
end
structure dw (k:Nat)(A:Zs):Prop where
 hd:A.handled=none
 dp:A.depth+3*k+5<recursionLimit
 un:A.units+16*k+200<QbN
 gd:A.guards=some []
def dw.mono {j k:Nat}{A:Zs}(r:dw k A)(h:j<=k):dw j A:=⟨r.hd,by have:=r.dp;lia,by have:=r.un;lia,r.gd⟩
def dw.deeper (r:dw (k+1) A)(env:Env):dw k (A.deeper env):=
 ⟨r.hd,by have:=r.dp;show A.depth+1+3*k+5<_;lia,by have:=r.un;show A.units+3+16*k+200<_;lia,r.gd⟩
def xt {A:Zs}{C:Gc}{us:List Fk}{kw:List (Str×Fk)}:(A.under (.builtin "type.__call__" ⟨.ref C::us,kw⟩)).depth=A.depth+1:=rfl
def xD {A:Zs}{C:Gc}{us:List Fk}{kw:List (Str×Fk)}:(A.under (.builtin "type.__call__" ⟨.ref C::us,kw⟩)).units=A.units+1:=rfl
def wL {A:Zs}{C:Gc}{us:List Fk}{kw:List (Str×Fk)}:(A.under (.builtin "type.__call__" ⟨.ref C::us,kw⟩)).guards=A.guards:=rfl
def dw.make (r:dw (k+1) A)(C:Gc)(us:List Fk)(kw:List (Str×Fk)):dw k (A.under (.builtin "type.__call__" ⟨.ref C::us,kw⟩)):=
 ⟨r.hd,by have:=r.dp;rw[xt];lia,by have:=r.un;rw[xD];lia,by rw[wL];exact r.gd⟩
def dw.depth (r:dw k A):A.depth<recursionLimit:=by have:=r.dp;lia
def dw.units (r:dw k A):A.units+64<QbN:=by have:=r.un;lia
def Cm:TA:=fun _ H Q=>Q [] H
def Al (ta:TE)(tr:TA):TA:=fun σ H Q=>ta σ H fun x H1=>tr σ H1 fun xs H2=>Q (x::xs) H2
section
variable {X:Cx}{e:ZA}{es:List ZA}{te:TE}{t:TA}{pos:Pos}
def ae:PA X [] Cm:=fun _ _ _ _ H Q I h=>QaG ⟨[],H,I,.nil,h⟩
def aa (ha:PE X e te)(hr:PA X es t)(hs:Ze (e::es) X.env=(false,ZM e X.env)::Ze es X.env:=by rfl):PA X (e::es) (Al te t):=by
 intro pos pins s σ H Q I h;rw[hs];refine Qak (bb (ha s σ H _ I h) fun u s1 hz_=>aj.el hz_ _ ?_);rintro x H1 I1 r1 q1;exact bb (hr s1 σ H1 _ I1 q1) fun us s2 hz_=>aj.el hz_ _ fun xs H2 I2 r2 q2=>⟨x::xs,H2,I2,.cons r1 r2,q2⟩
def ON (t:TA):TE:=fun σ H Q=>t σ H fun xs H1=>xs.length<=KE/\∀p,H1 p=none->Q (.ref p) (upd H1 p (.tup xs))
def N2 (t:TA):TE:=fun σ H Q=>t σ H fun xs H1=>xs.length<=KE/\∀p,H1 p=none->Q (.ref p) (upd H1 p (.lst xs))
def DW (h:PA X es t):PE X (.Tuple es x1 pos) (ON t):=by
 refine fun pins s σ H Q I hq=>wpAny_Tuple_spliced (bb (h s σ H _ I hq) fun us s1 ⟨xs,H1,I1,r,z,q⟩=>⟨by rw[<-r.length];exact z,⟨.ref s1.heap.objs.size,upd H1 s1.heap.objs.size (.tup xs),I1.laid (fun b u e=>Jb _ e) (Je _) ?_,rfl,q _ (I1.bq.fresh (Je _))⟩⟩);exact⟨z,us,r,⟨_,Jh _ rfl,rfl,rfl,_,rfl⟩⟩
def Lb (h:PA X es t):PE X (.List es pos) (N2 t):=by
 refine fun pins s σ H Q I hq=>wpAny_List_spliced (bb (h s σ H _ I hq) fun us s1 ⟨xs,H1,I1,r,z,q⟩=>⟨by rw[<-r.length];exact z,⟨.ref s1.heap.objs.size,upd H1 s1.heap.objs.size (.lst xs),I1.laid (fun b u e=>Jb _ e) (Je _) ?_,rfl,q _ (I1.bq.fresh (Je _))⟩⟩);exact⟨z,us,0,r,Jh _ rfl⟩
end
abbrev Sp:=List V->Hp->VK->XK->Prop
abbrev F4:=List Env->Hp->Wp->XK->Fk->Wp->Prop
structure BU (P:YZ)(w:Zb)(K:Ja)(mg:Str->Option Fk)(base:Heap)(A:Zs)(outer:List Env)(s:Wp)(H:Hp):Prop where
 frames:A.frames=some outer
 mod:Mod K mg base
 bs:∀b o,base.get? b=some o->s.heap.get? b=some o/\H b=none
 bsz:base.objs.size<=s.heap.objs.size
 ko:s.heap.FunFrames base outer
 frf:∀b∈kJ outer,H b=none
 bq:jr P w H s.heap
 bare:Qch s.gens
def CE (outer:List Env)(P:YZ)(w:Zb)(H:Hp)(s:Wp)(Q:VK)(u:Fk)(s':Wp):Prop:=
 fG fun v H'=>s'.os=s.os/\Qch s'.gens/\Un (kJ outer) [] H H' s.heap s'.heap/\jr P w H' s'.heap/\RelV v u/\Q v H'
def CR (CX:F4)(outer:List Env)(P:YZ)(w:Zb)(H:Hp)(s:Wp)(Q:VK)(E:XK)(r:QaU)(s':Wp):Prop:=
 match r with
 | .ok (.ret u)=>CE outer P w H s Q u s'
 | .ok _=>False
 | .error e=>CX outer H s E e s'
structure aW (P:YZ)(w:Zb)(K:Ja)(mg:Str->Option Fk)(base:Heap)(CX:F4)(k:Nat)(f:Gc)(fd:Zc)(ps:List Str)(sp:Sp):Prop where
 len:∀vs H Q E,sp vs H Q E->vs.length=ps.length
 run:∀(A:Zs) (outer:List Env) (s:Wp) (H:Hp) (args:Args) (us:List Fk) (vs:List V) (Q:VK) (E:XK),dw k A->BU P w K mg base A outer s H->QeL s fd args (ps.zip us)->Vals vs us->sp vs H Q E ->
  ZW (YW P w) A (.call (.ref f) args) (CR CX outer P w H s Q E) s
def aW.mono {K:Ja}{mg:Str->Option Fk}{base:Heap}{CX:F4}{j k:Nat}{f:Gc}{fd:Zc}{ps:List Str}{sp:Sp}(F:aW P w K mg base CX j f fd ps sp)(h:j<=k):
  aW P w K mg base CX k f fd ps sp:=⟨F.len,fun A outer s H args us vs Q E hr=>F.run A outer s H args us vs Q E (hr.mono h)⟩
def aW.imp {K:Ja}{mg:Str->Option Fk}{base:Heap}{CX:F4}{k:Nat}{f:Gc}{fd:Zc}{ps:List Str}{sp sp':Sp}(F:aW P w K mg base CX k f fd ps sp)
  (h:∀vs H Q E,sp' vs H Q E->sp vs H Q E):aW P w K mg base CX k f fd ps sp':=
 ⟨fun vs H Q E q=>F.len vs H Q E (h _ _ _ _ q),fun A outer s H args us vs Q E hr he hb hv hs=>F.run A outer s H args us vs Q E hr he hb hv (h _ _ _ _ hs)⟩
def BU.make {K:Ja}{mg:Str->Option Fk}{base:Heap}{A:Zs}{outer:List Env}{s:Wp}{H:Hp}(e:BU P w K mg base A outer s H)(C:Gc)(us:List Fk)(kw:List (Str×Fk)):
  BU P w K mg base (A.under (.builtin "type.__call__" ⟨.ref C::us,kw⟩)) outer s H:=⟨by first|exact e.frames|(simpa [Around.under,Code.envs,Code.isFrame,pushEnvs] using e.frames),e.mod,e.bs,e.bsz,e.ko,e.frf,e.bq,e.bare⟩
section
variable {X:Cx}{pins:List (Gc×Obj)}{σ:St}{H:Hp}{s s':Wp}
def Inv.Gi (I:Inv X pins σ H s):BU X.prog X.w X.K X.mg X.base X.A X.stack s H:=
 ⟨I.ok.frames,I.ok.mod,I.bs,Jg I.ok.bsz I.sz,I.stack,I.tw,I.bq,I.bare⟩
def Inv.after (I:Inv X pins σ H s)(h:CE X.stack X.prog X.w H s Q u s'):EP X pins σ Q u s':=by
 obtain⟨v,H',os,bare,un,bq,r,q⟩:=h;obtain⟨hh,g,d,t,os'⟩:=s';obtain rfl:os'=s.os:=os;exact⟨v,H',I.call un bq bare (fun b z=>absurd z (by simp)),r,q⟩
end
def Ax (sp:Sp)(rN:List V)(E:XK)(t:TA):TE:=fun σ H Q=>t σ H fun vs H1=>sp (vs++rN) H1 Q E
def NZ (C:Gc)(m:Str)(sp:Sp)(rN:List V)(E:XK)(ta:TE)(t:TA):TE:=fun σ H Q=>ta σ H fun x H1=>oG fun a dx fs=>x = .ref a/\H1 a=some (.ins C dx fs)/\fs.lookup m=none /\
 t σ H1 fun vs H2=>sp (x::(vs++rN)) H2 Q E
def Og (C:Gc)(sp:Sp)(rN:List V)(E:XK)(t:TA):TE:=fun σ H Q=>t σ H fun vs H1=>∀x dx,H1 x=none->H1 dx=none->dx≠x ->
 sp (.ref x::(vs++rN)) (upd (upd H1 dx (.own x)) x (.ins C dx [])) (fun v H2=>v = .non/\Q (.ref x) H2) E
def Binds (K:Ja)(fd:Zc)(ps:List Str)(ds:List Fk):Prop:=
 ∀s us,K.In s.heap->(us++ds).length=ps.length->QeL s fd ⟨us,[]⟩ (ps.zip (us++ds))
def Binds.all {K:Ja}{fd:Zc}{ps:List Str}(h:∀us,us.length=ps.length->QeS fd ⟨us,[]⟩=pure (ps.zip us)):Binds K fd ps []:=fun s us _ hl=>by
 rw[Uu] at hl ⊢;exact .of_eq (h us hl)
def Passes (CX:F4)(X:Cx)(E:XK):Prop:=∀pins (σ:St) (H:Hp) (s:Wp) (e:Fk) (s':Wp),Inv X pins σ H s->CX X.stack H s E e s'->X.xe e s'
section
variable {X:Cx}{CX:F4}{k:Nat}{f C:Gc}{fd:Zc}{ps:List Str}{sp:Sp}{rN:List V}{ds:List Fk}{E:XK}{x m:Str}{p pos apos:Pos}{e o:ZA}{es:List ZA}{ta:TE}{t:TA}
def yt {σ:St}{H:Hp}{s:Wp}{Q:VK}{us:List Fk}{vs:List V}(F:aW X.prog X.w X.K X.mg X.base CX k f fd ps sp)(hr:dw k X.A)(hb:Binds X.K fd ps ds)(hd:Vals rN ds)(hx:Passes CX X E)
  (I:Inv X pins σ H s) (r:Vals vs us) (h:sp (vs++rN) H Q E):YX (YW X.prog X.w) X.A (call (.ref f) us) (EP X pins σ Q) X.xe s:=by
 have r2:=r.append hd;refine Qbq (Qbm (F.run X.A X.stack s H ⟨us,[]⟩ (us++ds) (vs++rN) Q E hr I.Gi (hb s us I.iQ (by rw[<-r2.length];exact F.len _ _ _ _ h)) r2 h) fun r s' hq =>?_);cases r with
 | error e=>exact hx pins σ H s e s' I hq
 | ok fl=>
  cases fl with
  | ret u=>exact I.after hq
  | next=>exact ZS hq
  | brk=>exact ZS hq
  | cont=>exact ZS hq
def Hd (F:aW X.prog X.w X.K X.mg X.base CX k f fd ps sp)(hr:dw k X.A)(hg:Gl X x)(hm:X.mg x=some (.ref f))(hk:Yc X.K (.ref f)=true)(hb:Binds X.K fd ps ds)(hd:Vals rN ds)(hx:Passes CX X E)
  (ha:PA X (e::es) t) (qW:(x==("__debug__" : Str))=false:=by decide) (he:Ze (e::es) X.env=(false,ZM e X.env)::Ze es X.env:=by rfl) (nY:(QaS pos (Ze es X.env)).any (·.1)=false:=by rfl) :
  PE X (.Call (.Name x p) (e::es) [] pos) (Ax sp rN E t):=
 fun pins s σ H Q I h=>ZK (iT I hg hm (QaV I.ok.mod.xc hk (bb (ha s σ H _ I h) fun us s1 hz_=>aj.el hz_ _ fun vs H1 I1 r q=>⟨I1.iQ,(yt F hr hb hd hx I1 r q)⟩) he nY) qW)
def C9 (F:aW X.prog X.w X.K X.mg X.base CX k f fd ps sp)(hr:dw k X.A)(hg:Gl X x)(hm:X.mg x=some (.ref f))(hk:Yc X.K (.ref f)=true)(hb:Binds X.K fd ps ds)(hd:Vals rN ds)(hx:Passes CX X E)
  (qW:(x==("__debug__" : Str))=false:=by decide):PE X (.Call (.Name x p) [] [] pos) (Ax sp rN E Cm):=
 fun pins s σ H Q I h=>ZK (iT I hg hm (PySem.W.callWith_K0 I.iQ hk (yt F hr hb hd hx I .nil h)) qW)
def uo {pl:Sem Bool}(he:PE X o ta)(c:Ad X.K C)(hm:B9 X.K C m f)(F:aW X.prog X.w X.K X.mg X.base CX k f fd ps sp)(hr:dw k X.A)(hb:Binds X.K fd ps ds)(hd:Vals rN ds)(hx:Passes CX X E)(ha:PA X (e::es) t)
  (lA:Ze (e::es) X.env=(false,ZM e X.env)::Ze es X.env:=by rfl) (nY:(QaS pos (Ze es X.env)).any (·.1)=false:=by rfl)
  (ht:ZM (.Call (.Attribute o m apos) (e::es) [] pos) X.env=(do
   let ov <-ZM o X.env
   standAt apos.atName
   let (f,first) <-holding [ov] (getMethod ov m pl)
   callWith pos f first (QaS pos (Ze (e::es) X.env)) (backToKw pos (Qeq [] X.env))):=by rfl) :
  PE X (.Call (.Attribute o m apos) (e::es) [] pos) (NZ C m sp rN E ta t):=by
 refine fun pins s σ H Q I h=>PySem.W.methodCall_KW (bb (he s σ H _ I h) fun u s1 ⟨x,H1,I1,rx,a,dx,fs,ex,ea,l,q⟩=>?_) ht;subst ex;obtain rfl:u=Zh a:=rx;exact xo I1 ea c hm l (QaV I.ok.mod.xc hm.kp (bb (ha s1 σ H1 _ I1 q) fun us s2 hz_=>aj.el hz_ _ fun vs H2 I2 r q2=>⟨I2.iQ,(yt (vs := .ref a::vs) F hr hb hd hx I2 (.cons rfl r) q2)⟩) lA nY)
structure Mk (K:Ja)(C f:Gc):Prop where
 makes:Qb3 K C=true
 init:Yr K (.ref C) "__init__" = some (some (.ref f))
 fn:Qef K (.ref f)=true
 kp:Yc K (.ref C)=true
def Fj {σ:St}{H:Hp}{s:Wp}{Q:VK}{us:List Fk}{vs:List V}(M:Mk X.K C f)(F:aW X.prog X.w X.K X.mg X.base CX k f fd ps sp)(hr:dw (k+1) X.A)(hb:Binds X.K fd ps ds)(hd:Vals rN ds)
  (hx:Passes CX X E) (I:Inv X pins σ H s) (r:Vals vs us)
  (h:∀x dx,H x=none->H dx=none->dx≠x->sp (.ref x::(vs++rN)) (upd (upd H dx (.own x)) x (.ins C dx [])) (fun v H2=>v = .non/\Q (.ref x) H2) E) :
  YX (YW X.prog X.w) X.A (call (.ref C) us) (EP X pins σ Q) X.xe s:=by
 have hq:=h (s.heap.objs.size+1) s.heap.objs.size (I.bq.fresh (Yu _)) (I.bq.fresh (Je _)) (Jl (Wd _));have I2:=Inv.made (C:=C) I;have r2:Vals (V.ref (s.heap.objs.size+1)::(vs++rN)) (Zh (s.heap.objs.size+1)::(us++ds)) := .cons rfl (r.append hd);have hl:(Zh (s.heap.objs.size+1)::us++ds).length=ps.length:=by
  have e:=r2.length;rw[F.len _ _ _ _ hq] at e;exact e.symm
 refine Qbq (Dc I.iQ M.makes M.init (beq_iff_eq.mp M.fn) (Qbm (F.run _ X.stack _ _ ⟨Zh (s.heap.objs.size+1)::us,[]⟩ (Zh (s.heap.objs.size+1)::(us++ds)) _ _ E (hr.make C us [])
  (I2.Gi.make C us []) (hb _ (Zh (s.heap.objs.size+1)::us) I2.iQ hl) r2 hq) fun r s' hq' =>?_))
 cases r with
 | error e=>exact hx pins σ _ _ e s' I2 hq'
 | ok fl=>
  cases fl with
  | ret u=>
   obtain⟨v,H',I3,rv,ev,q3⟩:=I2.after hq';subst ev;exact⟨rv,⟨V.ref (s.heap.objs.size+1),H',I3,rfl,q3⟩⟩
  | next=>exact ZS hq'
  | brk=>exact ZS hq'
  | cont=>exact ZS hq'
def zw (M:Mk X.K C f)(F:aW X.prog X.w X.K X.mg X.base CX k f fd ps sp)(hr:dw (k+1) X.A)(hg:Gl X x)(hm:X.mg x=some (.ref C))(hb:Binds X.K fd ps ds)(hd:Vals rN ds)(hx:Passes CX X E)
  (ha:PA X (e::es) t) (qW:(x==("__debug__" : Str))=false:=by decide) (he:Ze (e::es) X.env=(false,ZM e X.env)::Ze es X.env:=by rfl) (nY:(QaS pos (Ze es X.env)).any (·.1)=false:=by rfl) :
  PE X (.Call (.Name x p) (e::es) [] pos) (Og C sp rN E t):=
 fun pins s σ H Q I h=>ZK (iT I hg hm (QaV I.ok.mod.xc M.kp (bb (ha s σ H _ I h) fun us s1 hz_=>aj.el hz_ _ fun vs H1 I1 r q=>⟨I1.iQ,(Fj M F hr hb hd hx I1 r q)⟩) he nY) qW)
end
structure aG (N P:List Str)(sc:QaT):Prop where
 kind:sc.kind = .function
 co:sc.isCoroutine=false
 gen:sc.isGenerator=false
 nd:N.Nodup
 pre:N.take P.length=P
 par:∀x∈P,sc.names.lookup x=some .local\/sc.names.lookup x=some .cell
 nofree:∀y∈sc.names,y.2 ≠ .free
def rR {kindOf:Str->Option Qbn}{x:Str}:∀{binds:List (Str×Fk)} {m:Str->Option Fk},(∀v,(x,v)∉binds)->bindL kindOf binds m x=m x
 | [],_,_=>rfl
 | (n,v)::r,m,h=>by
  unfold bindL;rw[rR fun w hw=>h w (Jj _ hw)]
  split
  ·have:x≠n:=by rintro rfl;exact h v Jm
   simp[this]
  ·rfl
def sD {kindOf:Str->Option Qbn}{x:Str}:∀{binds:List (Str×Fk)} {m:Str->Option Fk},(∀v,(x,v)∉binds)->bindC kindOf binds m x=m x
 | [],_,_=>rfl
 | (n,v)::r,m,h=>by
  unfold bindC;rw[sD fun w hw=>h w (Jj _ hw)]
  split
  ·rfl
  ·have:x≠n:=by rintro rfl;exact h v Jm
   simp[this]
def sv {kindOf:Str->Option Qbn}{x:Str}{v:Fk}:∀{P:List Str} {vs:List Fk} {i:Nat} {m:Str->Option Fk},P.Nodup->P[i]? = some x->vs[i]? = some v->kindOf x=some .local ->
  bindL kindOf (P.zip vs) m x=some v
 | [],_,_,_,_,h,_,_=>by simp at h
 | _::_,[],_,_,_,_,h,_=>by simp at h
 | p::P,w::vs,0,m,nd,h1,h2,hk=>by
  simp at h1 h2;subst h1;subst h2;show bindL kindOf ((p,w)::P.zip vs) m p=_;unfold bindL;rw[rR fun v hv=>(U6.mp nd).1 (QaY hv).1,if_pos hk];simp
 | p::P,w::vs,i+1,m,nd,h1,h2,hk=>by
  show bindL kindOf ((p,w)::P.zip vs) m x=_;exact sv (U6.mp nd).2 (by simpa using h1) (by simpa using h2) hk
def rg {kindOf:Str->Option Qbn}{x:Str}{v:Fk}:∀{P:List Str} {vs:List Fk} {i:Nat} {m:Str->Option Fk},P.Nodup->P[i]? = some x->vs[i]? = some v->kindOf x≠some .local ->
  bindC kindOf (P.zip vs) m x=some v
 | [],_,_,_,_,h,_,_=>by simp at h
 | _::_,[],_,_,_,_,h,_=>by simp at h
 | p::P,w::vs,0,m,nd,h1,h2,hk=>by
  simp at h1 h2;subst h1;subst h2;show bindC kindOf ((p,w)::P.zip vs) m p=_;unfold bindC;rw[sD fun v hv=>(U6.mp nd).1 (QaY hv).1,if_neg hk];simp
 | p::P,w::vs,i+1,m,nd,h1,h2,hk=>by
  show bindC kindOf ((p,w)::P.zip vs) m x=_;exact rg (U6.mp nd).2 (by simpa using h1) (by simpa using h2) hk
def start (N:List Str)(vs:List V):St:=vs.map some++Jp (N.length-vs.length) none
def oo (CX:F4)(P:YZ)(w:Zb)(K:Ja)(mg:Str->Option Fk)(base:Heap)(N:List Str)(qual:Str)(scope:QaT)(f:Gc)(cd:Fk)(A:Zs)(outer:List Env)(s:Wp)(H:Hp)(E:XK):Cx where
 prog:=P
 w:=w
 K:=K
 mg:=mg
 base:=base
 A:=A.deeper (Qa6 qual scope s.heap.objs.size f cd)
 N:=N
 s₀:=s
 H₀:=H
 env:=Qa6 qual scope s.heap.objs.size f cd
 outer:=outer
 stack:=Qa6 qual scope s.heap.objs.size f cd::outer
 ex:=[]
 calm:=true
 fn:=fun _=>true
 pn:=[]
 xe:=fun e s'=>YX (YW P w) (A.deeper (Qa6 qual scope s.heap.objs.size f cd)) (leaving (Qa6 qual scope s.heap.objs.size f cd) e) (fun _ s''=>CX outer H s E e s'') (fun e' s''=>CX outer H s E e' s'') s'
def vK {sc:QaT}{n:Nat}{x:Str}(h:sc.names.lookup x=some .cell):∃c,(cellsFrom n sc.names []).lookup x=some c:=
 Option.isSome_iff_exists.mp (Qeg sc.names n [] (.inl h))
def Bp {P:YZ}{w:Zb}{K:Ja}{mg:Str->Option Fk}{base:Heap}{N ps:List Str}{qual:Str}{scope:QaT}{f:Gc}{cd:Fk}{A:Zs}{outer:List Env}{s s1:Wp}{H:Hp}{E:XK}{us:List Fk}{vs:List V}
  (S:aG N ps scope) (hd:A.handled=none) (e0:BU P w K mg base A outer s H) (hl:vs.length=ps.length) (r:Vals vs us)
  (x:InCallC s s.heap.objs.size (bindL (Qa6 qual scope s.heap.objs.size f cd).kindOf (ps.zip us) fun _=>none) (cellsFrom (s.heap.objs.size+1) scope.names []) (bindC (Qa6 qual scope s.heap.objs.size f cd).kindOf (ps.zip us) fun _=>none) s1) :
  Inv (oo CX P w K mg base N qual scope f cd A outer s H E) [] (start N vs) H s1:=by
 have nY:ps.length<=N.length:=by have:=congrArg Qdv S.pre;rw[J6] at this;lia
 obtain⟨h1,tk,rfl,hk⟩:=x.done;have Oy:∀b,b∉(oo CX P w K mg base N qual scope f cd A outer s H E).ex:=fun b z=>absurd (show b∈([]:List Gc) from z) (by simp);refine⟨⟨e0.mod,S.kind,rfl,rfl,Je _,fun y z c h1 h2 =>?_,fun y hy =>?_,fun y c _ h =>?_,fun _=>hd,Around.frames_deeper e0.frames,.inr ⟨rfl,rfl⟩,fun b z=>absurd z (Oy b),e0.bs,e0.bsz,fun b _ _=>Oy b,fun b z=>absurd z (Oy b),e0.ko,e0.frf⟩,
  rfl,e0.bare,Un.kept hk,⟨_,x.toInCall.ns,fun i y v h1 h2 h3 =>?_⟩,fun y c h=>⟨_,x.cell y c h⟩,e0.bq.fresh (Je _),fun y c h =>?_,fun p hp=>absurd (show p∈([]:List (Gc×Obj)) from hp) (by simp),e0.bq.kept hk,?_⟩
 ·exact name_of_addr x.apart (Qaw h1) (Qaw h2)
 ·have hy:=hy
  rcases hy with hy|hy
  ·exact vK hy
  ·exact absurd rfl (S.nofree _ (Qaw hy))
 ·exact Yh (x.above y c (Qaw h))
 ·have hi:i<vs.length:=by
   unfold start at h2
   by_cases hi:i<vs.length
   ·exact hi
   ·rw[U0 (by simpa using hi)] at h2;rw[Yn] at h2
    split at h2<;>cases h2
  have ha:vs[i]? = some v:=by
   unfold start at h2;rw[U3 (by simpa using hi),Jk] at h2;cases e:vs[i]? with
   | none=>rw[e] at h2;cases h2
   | some a=>rw[e] at h2;cases h2;rfl
  obtain⟨u,hu,rv⟩:=r.get ha;have hp:ps[i]? = some y:=by
   rw[<-S.pre,Qew ⋯];exact h1
  have T8:ps.Nodup:=by rw[<-S.pre];exact S.nd.sublist (List.take_sublist _ _)
  refine⟨u,rv,?_⟩
  rcases S.par y (Jy hp) with k|k
  ·exact .inl ⟨k,sv T8 hp hu k⟩
  ·obtain⟨c,e⟩:=vK k;refine .inr ⟨.inl k,c,e,?_⟩;have q:=x.cell y c e;rw[rg T8 hp hu (by show scope.names.lookup y≠_;rw[k];decide)] at q;exact q
 ·exact e0.bq.fresh (Yh (x.above y c (Qaw h)))
 ·unfold start;show _=N.length;rw[Jt,Jd,Ut];lia
def IB {K:Ja}{mg:Str->Option Fk}{base:Heap}{k:Nat}{f:Gc}{name qual:Str}{params:Arguments}{body:List QbR}{scope:QaT}{dV kV doc pm bS ct oc:Fk}{an od:Option Gc}
  {wO:Array (Option Fk)} {N ps:List Str} {sp:Sp} (lk:K.lookup f=some ⟨oc,od,.func (Wf name qual params body scope dV kV doc pm an bS ct),wO⟩) (yn:Qcn K bS qual=true) (S:aG N ps scope)
  (len:∀vs H Q E,sp vs H Q E->vs.length=ps.length)
  (vU:∀A outer s H vs Q E,dw k (A.deeper (Qa6 qual scope s.heap.objs.size f bS))->sp vs H Q E ->
   ∃t,xb (oo CX P w K mg base N qual scope f bS A outer s H E) body t/\t { nx:=fun _ H'=>Q .non H',rt:=Q } (start N vs) H) :
  aW P w K mg base CX (k+1) f (Wf name qual params body scope dV kV doc pm an bS ct) ps sp:=by
 refine⟨len,fun A outer s H args us vs Q E hr e0 hb r vz =>?_⟩;have KX:=e0.mod.xc.keeps fun b o e=>(e0.bs b o e).1;have OQ:∀y∈ps.zip us,scope.names.lookup y.1=some .local\/(scope.names.lookup y.1=some .cell/\((cellsFrom (s.heap.objs.size+1) scope.names []).lookup y.1).isSome=true):=fun⟨n,v⟩ hy=>by
  rcases S.par n (QaY hy).1 with q|q
  ·exact .inl q
  ·exact .inr ⟨q,Qeg _ _ _ (.inl q)⟩
 refine codeAny_call_function hr.depth (KX _ _ lk) rfl S.co S.gen rfl (PySem.W.codeRec_of KX yn) (hb _ _ _ _ (wpAny_newFunctionEnv_cells S.kind OQ fun env he s1 x =>?_));subst he;refine⟨(e0.mod.nolimit.keeps fun b o e=>(e0.bs b o e).1).keeps x.toInCall.keep,codeAny_func ?_⟩;obtain⟨t,ht,hq⟩:=vU A outer s H vs Q E (hr.deeper _) vz;refine Z9 (ht s1 (start N vs) H _ (Bp S hr.hd e0 (len _ _ _ _ vz) r x) hq) (fun fl s' hs =>?_) fun e s' hs=>hs;have fin:∀{σ':St} {H':Hp} {v:V} {u:Fk},Inv (oo CX P w K mg base N qual scope f bS A outer s H E) [] σ' H' s'->RelV v u->Q v H'->CE outer P w H s Q u s':=
  fun{σ' H' v u} J rv q=>⟨v,H',J.os,J.bare,J.base,J.bq,rv,q⟩
 cases fl with
 | ret u=>
  obtain⟨v,σ',H',J,rv,q⟩:=hs;exact fin J rv q
 | next=>
  obtain⟨σ',H',J,q⟩:=hs;exact fin (v:=V.non) J rfl q
 | brk=>
  obtain⟨_,_,_,q⟩:=hs;exact ZS q
 | cont=>
  obtain⟨_,_,_,q⟩:=hs;exact ZS q
section
variable {X:Cx}{x:Str}{p pos:Pos}{e:ZA}{es:List ZA}{t:TA}{id T:String}{r:List V->Hp->VK->Prop}
def Nt (r:List V->Hp->VK->Prop)(t:TA):TE:=fun σ H Q=>t σ H fun vs H1=>r vs H1 Q
def ak (hc:bF X (.builtin id) r)(hg:Gl X x)(hm:X.mg x=none)(hv:ZO x=some (.builtin id))(ha:PA X (e::es) t)(hn:x ≠ "__name__":=by decide)(qW:(x==("__debug__" : Str))=false:=by decide)
  (he:Ze (e::es) X.env=(false,ZM e X.env)::Ze es X.env:=by rfl) (nY:(QaS pos (Ze es X.env)).any (·.1)=false:=by rfl):PE X (.Call (.Name x p) (e::es) [] pos) (Nt r t):=
 fun pins s σ H Q I h=>ZK (eZ I hg hm hv (PyProof.Rows.callWith_builtin1 (bb (ha s σ H _ I h) fun us s1 hz_=>aj.el hz_ _ fun vs H1 I1 r1 q1=>hc s1 σ H1 vs us Q I1 r1 q1) he nY) hn qW)
def aX (hc:bF X (.type T) r)(hg:Gl X x)(hm:X.mg x=none)(hv:ZO x=some (.type T))(ha:PA X (e::es) t)(hn:x ≠ "__name__":=by decide)(qW:(x==("__debug__" : Str))=false:=by decide)
  (he:Ze (e::es) X.env=(false,ZM e X.env)::Ze es X.env:=by rfl) (nY:(QaS pos (Ze es X.env)).any (·.1)=false:=by rfl):PE X (.Call (.Name x p) (e::es) [] pos) (Nt r t):=
 fun pins s σ H Q I h=>ZK (eZ I hg hm hv (Zl (bb (ha s σ H _ I h) fun us s1 hz_=>aj.el hz_ _ fun vs H1 I1 r1 q1=>hc s1 σ H1 vs us Q I1 r1 q1) he nY) hn qW)
end
section
variable {κ:Type}[DecidableEq κ]
def gf (kvs:List (κ×V))(k: κ):Option V:=(kvs.find? fun kv=>decide (kv.1=k)).map (·.2)
def putK (kvs:List (κ×V))(k: κ)(v:V):List (κ×V):=
 if (kvs.any fun kv=>decide (kv.1=k))=true then kvs.map (fun kv=>if kv.1=k then (kv.1,v) else kv) else kvs++[(k,v)]
def eN {k: κ}(e:p.1=k):gf (p::r) k=some p.2:=by simp[gf,e]
def dQ {k: κ}(e:¬p.1=k):gf (p::r) k=gf r k:=by simp[gf,e]
def l8 (k: κ):∀kvs,(kvs.any fun kv=>decide (kv.1=k))=(gf kvs k).isSome
 | []=>rfl
 | p::r=>by
  rw[Y8]
  by_cases e:p.1=k
  ·simp only[eN e,decide_eq_true e,Bool.true_or,Qff]
  ·rw[dQ e,decide_eq_false e,Bool.false_or];exact l8 k r
def rD (k j: κ)(y:V):∀kvs,gf kvs k=none->gf (kvs++[(k,y)]) j=if j=k then some y else gf kvs j
 | [],_=>by
  by_cases e:k=j
  ·rw[if_pos e.symm];exact eN e
  ·rw[if_neg (fun z=>e z.symm)];exact dQ e
 | p::r,hn=>by
  rw[Qdn];have hk:¬p.1=k:=fun z=>by rw[eN z] at hn;cases hn
  rw[dQ hk] at hn
  by_cases e:p.1=j
  ·rw[eN e,eN e,if_neg (fun z=>hk (e.trans z))]
  ·rw[dQ e,dQ e,(rD k j y r hn)]
def hM (kvs:List (κ×V))(k: κ)(v:V):(putK kvs k v).length<=kvs.length+1:=by
 unfold putK
 split
 ·rw[Jd];lia
 ·rw[Jt,Jn,Yk];lia
def wX {k: κ}(v:V)(h:gf kvs k=none):putK kvs k v=kvs++[(k,v)]:=by
 unfold putK;rw[l8,h];exact if_neg ∅
def iW.nD (r:iW o u):o.isSome=u.isSome:=by
 cases o with
 | none=>cases u with
  | none=>rfl
  | some _=>exact(show False from r).elim
 | some _=>cases u with
  | none=>exact(show False from r).elim
  | some _=>rfl
def iW.getD (r:iW o u)(rd:RelV d d'):RelV (o.getD d) (u.getD d'):=by
 cases o with
 | none=>cases u with
  | none=>exact rd
  | some _=>exact(show False from r).elim
 | some _=>cases u with
  | none=>exact(show False from r).elim
  | some _=>exact r
def KV.val (r:KV kvs vs)(k: κ):iW (gf kvs k) (QeC vs k):=by
 induction r with
 | nil=>exact ZL
 | @cons p q ps qs h t ih=>
  obtain⟨h1,h2⟩:=h
  by_cases e:p.1=k
  ·have e':=h1.symm.trans e;have b:QeC (q::qs) k=some q.2:=by simp[QeC,e']
   rw[eN e,b];exact h2
  ·have e':¬q.1=k:=fun z=>e (h1.trans z);have b:QeC (q::qs) k=QeC qs k:=by simp[QeC,e']
   rw[dQ e,b];exact ih
def KV.any (r:KV kvs vs)(k: κ):(kvs.any fun kv=>decide (kv.1=k))=vs.any fun kv=>decide (kv.1=k):=by
 induction r with
 | nil=>rfl
 | cons h t ih=>rw[Y8,Y8,ih,h.1]
def KV.LC (r:KV kvs vs)(k: κ){y:V}{u:Fk}(ry:RelV y u):
  KV (kvs.map fun kv=>if kv.1=k then (kv.1,y) else kv) (vs.map fun kv=>if kv.1=k then (kv.1,u) else kv):=by
 induction r with
 | nil=>exact .nil
 | @cons p q ps qs h t ih=>
  rw[Jz,Jz];refine .cons ?_ ih;obtain⟨h1,h2⟩:=h
  by_cases e:p.1=k
  ·rw[if_pos e,if_pos (h1.symm.trans e)];exact⟨h1,ry⟩
  ·rw[if_neg e,if_neg (fun z=>e (h1.trans z))];exact⟨h1,h2⟩
def KV.put (r:KV kvs vs)(k: κ){y:V}{u:Fk}(ry:RelV y u):KV (putK kvs k y) (Qdr vs k u):=by
 unfold putK Qdr;rw[r.any k]
 by_cases e:(vs.any fun kv=>decide (kv.1=k))=true
 ·rw[if_pos e,if_pos e];exact r.LC k ry
 ·rw[if_neg e,if_neg e];exact Paired.snoc r ⟨rfl,ry⟩
def KV.length {vs:List (κ×Fk)}(r:KV kvs vs):kvs.length=vs.length:=Qd2 r
end
def lR {k:Key}{u:Fk}(r:RelV (kV k) u):(bC P w).is k u=true:=by
 cases k with
 | inl i=>obtain⟨t,e⟩:=(show ∃t,u=QcB i t from r);subst e;exact wB P w i t
 | inr x=>obtain⟨t,e⟩:=(show ∃t,u=Qbw x t from r);subst e;exact uY P w x t
def rS:∀{ks:List Key} {us:List Fk},Vals (ks.map kV) us->ItemsAre (bC P w) ks us
 | [],_,r=>by rw[Qcg] at r;cases r;exact .nil
 | k::ks,_,r=>by
  cases r with
  | cons h t=>exact .cons (lR h) (rS t)
abbrev KT (H:Hp):List (List Key×V)->List (List Key×Gc×Fk)->Prop:=QeY fun p q=>p.1=q.1/\H q.2.1=some (.tup (p.1.map kV))/\RelV p.2 q.2.2
def KT.val (r:KT H kvs xs)(k:List Key):iW (gf kvs k) ((atKey xs k).map (·.2)):=by
 induction r with
 | nil=>exact ZL
 | @cons p q ps qs h t ih=>
  obtain⟨h1,_,h2⟩:=h
  by_cases e:p.1=k
  ·have e':=h1.symm.trans e;have b:atKey (q::qs) k=some q.2:=by simp[atKey,e']
   rw[eN e,b];exact h2
  ·have e':¬q.1=k:=fun z=>e (h1.trans z);have b:atKey (q::qs) k=atKey qs k:=by simp[atKey,e']
   rw[dQ e,b];exact ih
def KT.LC (r:KT H kvs xs)(k:List Key){y:V}{u:Fk}(ry:RelV y u):
  KT H (kvs.map fun kv=>if kv.1=k then (kv.1,y) else kv) (xs.map (putAt k u)):=by
 induction r with
 | nil=>exact .nil
 | @cons p q ps qs h t ih=>
  rw[Jz,Jz];refine .cons ?_ ih;obtain⟨h1,h2,h3⟩:=h;unfold putAt
  by_cases e:p.1=k
  ·rw[if_pos e,if_pos (h1.symm.trans e)];exact⟨h1,h2,ry⟩
  ·rw[if_neg e,if_neg (fun z=>e (h1.trans z))];exact⟨h1,h2,h3⟩
def KT.put (r:KT H kvs xs)(k:List Key){b:Gc}{y:V}{u:Fk}(hb:H b=some (.tup (k.map kV)))(ry:RelV y u):
  KT H (putK kvs k y) (storedH xs k b u):=by
 have e:(kvs.any fun kv=>decide (kv.1=k))=(atKey xs k).isSome:=by
  rw[l8,(r.val k).nD,Option.isSome_map]
 unfold putK storedH;rw[e]
 by_cases q:(atKey xs k).isSome=true
 ·rw[if_pos q,if_pos q];exact r.LC k ry
 ·rw[if_neg q,if_neg q];exact Paired.snoc r ⟨rfl,hb,ry⟩
def KT.keeps {kvs:List (List Key×V)}{xs:List (List Key×Gc×Fk)}(r:KT H kvs xs)(ht:∀b ys,H b=some (.tup ys)->H' b=some (.tup ys)):KT H' kvs xs:=
 Paired.N9 r fun _ _ z=>⟨z.1,ht _ _ z.2.1,z.2.2⟩
section
variable {P:YZ}{w:Zb}{H:Hp}{h:Heap}{a:Gc}
def ID (ok:jr P w H h)(e:Rd H a u):bt P w H h a u:=e.ok ok
def rF (ok:jr P w H h)(e:Rd H a (.dK kvs)):kvs.length<=KE/\(a==Qax)=false/\∃vs,KV kvs vs/\h.DictOf (bC P w) a vs:=
 show bt P w H h a (.dK kvs) from ID ok e
def Aa (ok:jr P w H h)(e:H a=some (.dK kvs)):kvs.length<=KE/\(a==Qax)=false/\∃vs,KV kvs vs/\h.DictOf (bC P w) a vs:=rF ok (.inl e)
def ql (ok:jr P w H h)(e:H a=some (.tup (ks.map kV))):(Qc3 (bC P w)).is h ks a:=by
 obtain⟨_,aF,r,o,h1,_,h2,n,h3⟩:=(show bt P w H h a (.tup (ks.map kV)) from ok a _ e)
 exact⟨o,aF.toArray,n,h1,h2,h3,by simpa using rS r⟩
def sL (ok:jr P w H h)(e:Rd H a (.dT kvs)):kvs.length<=KE/\(a==Qax)=false /\
  ∃xs,KT H kvs xs/\h.DictOfH (Qc3 (bC P w)) a xs:=by
 obtain⟨z,y,xs,r,o,es,ep,h1,h2,h3,h4,h5⟩:=(show bt P w H h a (.dT kvs) from ID ok e)
 refine⟨z,y,xs,r,o,es,ep,h1,h2,h3,h4,fun x hx =>?_,h5⟩;have all:∀{l:List (List Key×V)} {m:List (List Key×Gc×Fk)},KT H l m->∀x∈m,(Qc3 (bC P w)).is h x.1 x.2.1:=by
  intro l m q
  induction q with
  | nil=>intro x hx;exact nomatch hx
  | @cons p q ps qs hq t ih=>
   intro x hx
   rcases Jq.mp hx with e|hx
   ·subst e;exact ql ok (by rw[<-hq.1];exact hq.2.1)
   ·exact ih x hx
 exact all r x hx
def PR (ok:jr P w H h)(e:H a=some (.dT kvs)):kvs.length<=KE/\(a==Qax)=false /\
  ∃xs,KT H kvs xs/\h.DictOfH (Qc3 (bC P w)) a xs:=sL ok (.inl e)
end
def eV (H:Hp)(a:Gc)(y:V)(r:Option V):Prop:=
 (fG fun kvs k=>Rd H a (.dK kvs)/\y=kV k/\r=gf kvs k)\/oG fun kvs k b=>Rd H a (.dT kvs)/\y = .ref b/\H b=some (.tup (k.map kV))/\r=gf kvs k
def qH (H:Hp)(a:Gc)(y v:V)(H':Hp):Prop:=
 (fG fun kvs k=>H a=some (.dK kvs)/\y=kV k/\kvs.length<KE/\H'=upd H a (.dK (putK kvs k v))) \/
 oG fun kvs k b=>H a=some (.dT kvs)/\y = .ref b/\H b=some (.tup (k.map kV))/\kvs.length<KE/\H'=upd H a (.dT (putK kvs k v))
def eV.k {k:Key}(e:H a=some (.dK kvs)):eV H a (kV k) (gf kvs k) := .inl ⟨kvs,k,.inl e,rfl,rfl⟩
def qH.k {k:Key}{v:V}(e:H a=some (.dK kvs))(hl:kvs.length<KE):qH H a (kV k) v (upd H a (.dK (putK kvs k v))) := .inl ⟨kvs,k,e,rfl,hl,rfl⟩
section
variable {X:Cx}{pins:List (Gc×Obj)}{σ:St}{H:Hp}{s:Wp}{a:Gc}{y v:V}{u r:Fk}{o:Option V}{A:Zs}{E:Fk->Wp->Prop}
def Inv.big (I:Inv X pins σ H s):Qax<s.heap.objs.size:=
 Wg ∅ ((I.mod.glob.keeps I.bk).lt)
def Cn (hu:A.units+1<QbN)(I:Inv X pins σ H s)(g:eV H a y (some v))(ry:RelV y u)(h:∀w' s',Inv X pins σ H s'->RelV v w'->Q w' s'):
  YX (YW X.prog X.w) A (Qc5 (.ref a) u) Q E s:=by
 rcases g with ⟨kvs,k,e,ey,l⟩|⟨kvs,k,b,e,ey,eb,l⟩
 ·subst ey;obtain⟨z,hd,vs,rel,dd⟩:=rF I.bq e;obtain⟨w',hw,rw'⟩:=iW.sX (by rw[l];exact rel.val k);exact wpAny_getItem_of (lR ry) dd.mapOf hw (h w' _ (I.tok _) rw')
 ·subst ey;cases (show u=Zh b from ry);obtain⟨z,hd,xs,rel,dd⟩:=sL I.bq e;obtain⟨w',hw,rw'⟩:=iW.sX (by rw[l];exact rel.val k);obtain⟨p,hp,FN⟩:=Option.map_eq_some_iff.mp hw;refine wpAny_getItem_heap (QbX hu) (ql I.bq eb) dd hp ?_;rw[FN];exact h w' _ (I.tok _) rw'
def RM (hu:A.units+1<QbN)(I:Inv X pins σ H s)(g:eV H a y o)(ry:RelV y u)(h:∀s',Inv X pins σ H s'->Q (.bool o.isSome) s'):
  YX (YW X.prog X.w) A (Zv .In u (.ref a)) Q E s:=by
 rcases g with ⟨kvs,k,e,ey,l⟩|⟨kvs,k,b,e,ey,eb,l⟩
 ·subst ey;obtain⟨z,hd,vs,rel,dd⟩:=rF I.bq e;refine wpAny_in_of (lR ry) hd dd.mapOf ?_;rw[<-(rel.val k).nD,<-l];exact h _ (I.tok _)
 ·subst ey;cases (show u=Zh b from ry);obtain⟨z,hd,xs,rel,dd⟩:=sL I.bq e;refine wpAny_in_heap (QbX hu) (ql I.bq eb) hd dd ?_;have q:=(rel.val k).nD;rw[Option.isSome_map] at q;rw[<-q,<-l];exact h _ (I.tok _)
def lJ {ob:HO}(I:Inv X pins σ H s)(mu:PB (H a))(hs:U4 a s.heap h')(he:∃q,h'.get? a=some q)(new:bt X.prog X.w (upd H a ob) h' a ob):
  Inv X pins σ (upd H a ob) { s with heap:=h',toks:=t' }:=
 I.write mu (.inl rfl) (fun b q hb z=>(hs.2 b hb).trans z) he new
def yJ {kvs:List (Key×V)}{vs:List (Key×Fk)}(z:kvs.length<=KE)(hd:(a==Qax)=false)(rel:KV kvs vs)(dd:h'.DictOf (bC P w) a vs):
  bt P w H' h' a (.dK kvs):=⟨z,hd,vs,rel,dd⟩
def AM (hu:A.units+1<QbN)(I:Inv X pins σ H s)(g:qH H a y v H')(ry:RelV y u)(rv:RelV v r)(h:∀s',Inv X pins σ H' s'->Q () s'):
  YX (YW X.prog X.w) A (setItem (.ref a) u r) Q E s:=by
 rcases g with ⟨kvs,k,e,ey,l,eH⟩|⟨kvs,k,b,e,ey,eb,l,eH⟩
 ·subst ey eH;obtain⟨z,hd,vs,rel,dd⟩:=Aa I.bq e;have hz:vs.length<=KE:=by rw[<-rel.length];exact z
  have hl:(putK kvs k v).length<=KE:=by have:=hM kvs k v;lia
  exact wpAny_setItem_pairs (lR ry) dd fun h' CU hs=>h _ (lJ I (by rw[e];exact ZL) hs (let ⟨q,_,_,hq,_⟩:=CU; ⟨q,hq⟩) (yJ hl hd (rel.put k rv) CU))
 ·subst ey eH;cases (show u=Zh b from ry);obtain⟨z,hd,xs,rel,dd⟩:=PR I.bq e;have hz:xs.length<=KE:=by rw[<-Qd2 rel];exact z
  have hl:(putK kvs k v).length<=KE:=by have:=hM kvs k v;lia
  refine wpAny_setItem_heap (QbX hu) (ql I.bq eb) dd fun h' CU hs=>h _ ?_;obtain⟨q,es,ep,hq,h2,h3,h4,_,h5⟩:=CU;refine lJ I (by rw[e];exact ZL) hs ⟨q,hq⟩ ⟨hl,hd,_,(rel.put k eb rv).keeps fun c ys ec =>?_,q,es,ep,hq,h2,h3,h4,h5⟩;rw[au (vE ec e (nofun))];exact ec
end
def LM (i:ZA):Prop:=∀ov iv,Qep i false ov iv=operate [ov,iv] (Qc5 ov iv)
def zr {env:Env}{value slice:ZA}{pos:Pos}{T id:String}{Q:Fk->Wp->Prop}
  (hl:Qar (.type T) "__getitem__" = pure (some (.builtin id))) (hs:LM slice)
  (h:YX (YW prog w) A (ZM value env) (fun o s₁=>YX (YW prog w) A (ZM slice env) (fun i s₂=>s₂.TypeIs o T/\YX (YW prog w) A (Qc5 o i) Q E s₂) E s₁) E s) :
  YX (YW prog w) A (ZM (.Subscript value slice pos) env) Q E s:=by
 refine Subscript_ (Z9 h (fun o s₁ h₁=>Z9 h₁ (fun i s₂ h₂ =>?_) fun _ _ x=>x) fun _ _ x=>x);obtain⟨hT,h₂⟩:=h₂;refine be (be (QbG hT hl ?_));have fin:YX (YW prog w) A (Qep slice false o i) (fun r s₃=>YX (YW prog w) A (letTemporaryGo value o r >>= fun _=>pure r) Q E s₃) E s₂:=by
  rw[hs o i];exact wpAny_operating (Z9 h₂ (fun r s₃ h₃=>be (wpAny_letTemporaryGo (tz h₃))) fun _ _ x=>x)
 first
  | exact tz (be fin)
  | exact be (tz (be fin))
  | exact be fin
def vS {σ:St}{H:Hp}{s:Wp}{a:Gc}{y:V}{o:Option V}(I:Inv X pins σ H s)(g:eV H a y o):s.TypeIs (.ref a) "dict":=by
 rcases g with ⟨kvs,k,e,_,_⟩|⟨kvs,k,b,e,_,_,_⟩
 ·obtain⟨_,_,vs,_,dd⟩:=rF I.bq e;exact dd.typeIs
 ·obtain⟨_,_,xs,_,dd⟩:=sL I.bq e;exact dd.typeIs
def JI (td ty:TE):TE:=fun σ H Q=>td σ H fun x H1=>ty σ H1 fun y H2=>fG fun a v=>x = .ref a/\eV H2 a y (some v)/\Q v H2
def RJ (ty td:TE):TE:=fun σ H Q=>ty σ H fun y H1=>td σ H1 fun x H2=>fG fun a o=>x = .ref a/\eV H2 a y o/\Q (.bl o.isSome) H2
def OY (td ty tv:TE):TS:=fun D σ H=>tv σ H fun v H1=>td σ H1 fun x H2=>ty σ H2 fun y H3=>fG fun a H4=>x = .ref a/\qH H3 a y v H4/\D.nx σ H4
section
variable {X:Cx}{o i e value:ZA}{pos pos' Q2:Pos}{td ty tv:TE}
def bP (hu:X.A.units+1<QbN)(ho:PE X o td)(hi:PE X i ty)(hs:LM i):PE X (.Subscript o i pos) (JI td ty):=by
 refine fun pins s σ H Q I h=>zr PySem.F.slot_dict_getitem.lookup hs (bb (ho s σ H _ I h) fun u s1 hz_=>aj.el hz_ _ fun x H1 I1 rx q1=>bb (hi s1 σ H1 _ I1 q1) fun iv s2 hz_=>aj.el hz_ _ ?_);rintro y H2 I2 ry ⟨a,v,ex,g,q2⟩;subst ex;obtain rfl:u=Zh a:=rx;exact⟨vS I2 g,Cn hu I2 g ry fun w' s3 I3 rw'=>⟨v,H2,I3,rw',q2⟩⟩
def Kr (hu:X.A.units+1<QbN)(hi:PE X i ty)(ho:PE X o td):PC X .In i o (RJ ty td):=by
 refine fun pins s σ H Q I h=>bb (hi s σ H _ I h) fun iv s1 hz_=>aj.el hz_ _ fun y H1 I1 ry q1=>bb (ho s1 σ H1 _ I1 q1) fun u s2 hz_=>aj.el hz_ _ ?_;rintro x H2 I2 rx ⟨a,ov,ex,g,q2⟩;subst ex;obtain rfl:u=Zh a:=rx;exact RM hu I2 g ry fun s3 I3=>⟨.bl ov.isSome,H2,I3,rfl,q2⟩
def ua (hu:X.A.units+1<QbN)(ho:PE X o td)(hi:PE X i ty)(hv:PE X value tv)(hs:Qc4 value (some (.Subscript o i pos')) pos.line X.env=pure false):
  PS X (.Assign [.Subscript o i pos'] value pos) (OY td ty tv):=by
 refine fun pins s σ H D I h=>wpAny_Assign_Subscript (bb (hv s σ H _ I h) fun r s1 ⟨v,H1,I1,rv,q1⟩=>bb (ho s1 σ H1 _ I1 q1) fun u s2 ⟨x,H2,I2,rx,q2⟩=>bb (hi s2 σ H2 _ I2 q2) fun iv s3 ⟨y,H3,I3,ry,a,H4,ex,g,q3⟩=>?_) hs;subst ex;obtain rfl:u=Zh a:=rx;exact AM hu I3 g ry rv fun s4 I4=>⟨σ,H4,I4,q3⟩
end
def vi (h:Heap)(hb:Qax<h.objs.size):bt P w H (h.push { cls := .type "dict",data := .dict #[] }) h.objs.size (.dK []):=
 ⟨Uq _,beq_eq_false_iff_ne.mpr (Zx (Jl hb)),[],.nil,QbQ h⟩
def oV:List (TE×TE)->St->Hp->(List (V×V)->Hp->Prop)->Prop
 | [],_,H,Q=>Q [] H
 | (tk,tv)::r,σ,H,Q=>tk σ H fun x H1=>tv σ H1 fun y H2=>oV r σ H2 fun ps H3=>Q ((x,y)::ps) H3
abbrev VV:List (V×V)->List (Fk×Fk)->Prop:=QeY fun p q=>RelV p.1 q.1/\RelV p.2 q.2
def NQ (X:Cx)(pos:Pos)(keys:List (Option ZA))(values:List ZA)(ya:List (TE×TE)):Prop:=
 ∀ ⦃pins:List (Gc×Obj)⦄ (s:Wp) (σ:St) (H:Hp) (Q:List (V×V)->Hp->Prop),Inv X pins σ H s->oV ya σ H Q ->
  YX (YW X.prog X.w) X.A (evalPairs (pairTrees keys values X.env pos)) (fun vs s'=>fG fun ps H'=>Inv X pins σ H' s'/\VV ps vs/\Q ps H') X.xe s
def zI:NQ X pos [] [] []:=fun pins s σ H Q I h=>pairTrees_nil_walk ⟨[],H,I,.nil,h⟩
def gL {k v:ZA}{ks:List (Option ZA)}{vs:List ZA}{tk tv:TE}{ya:List (TE×TE)}(hk:PE X k tk)(hv:PE X v tv)(hr:NQ X pos ks vs ya):
  NQ X pos (some k::ks) (v::vs) ((tk,tv)::ya):=fun pins s σ H Q I h=>
 pairTrees_cons_walk (bb (hk s σ H _ I h) fun u s1 hz_=>aj.el hz_ _ fun x H1 I1 rx q1=>bb (hv s1 σ H1 _ I1 q1) fun w2 s2 ⟨y,H2,I2,ry,q2⟩=>
  bb (hr s2 σ H2 _ I2 q2) fun ws s3 hz_=>aj.el hz_ _ fun ps H3 I3 rel q3=>⟨(x,y)::ps,H3,I3,.cons ⟨rx,ry⟩ rel,q3⟩)
def cB (kvs more:List (Key×V)):List (Key×V):=more.foldl (fun acc kv=>putK acc kv.1 kv.2) kvs
def KV.merge:∀{more:List (Key×V)} {rs:List (Key×Fk)} {kvs:List (Key×V)} {vs:List (Key×Fk)},KV more rs->KV kvs vs->KV (cB kvs more) (QbY vs rs):=by
 intro more rs kvs vs r
 induction r generalizing kvs vs with
 | nil=>intro q;exact q
 | @cons p q ps qs h t ih=>
  intro r0;have e:KV (putK kvs p.1 p.2) (Qdr vs q.1 q.2):=by
   have:=r0.put p.1 h.2;rw[<-h.1];exact this
  exact ih e
def dP:∀more kvs,(cB kvs more).length<=kvs.length+more.length
 | [],kvs=>by show kvs.length<=kvs.length+0;lia
 | p::r,kvs=>by
  have h1:=dP r (putK kvs p.1 p.2);have h2:=hM kvs p.1 p.2;show(cB (putK kvs p.1 p.2) r).length<=_;rw[Jn];lia
def pP:∀{kvs:List (Key×V)} {ws:List (Fk×Fk)},VV (kvs.map fun kv=>(kV kv.1,kv.2)) ws->∃rs,Carries (bC P w) ws rs/\KV kvs rs
 | [],_,r=>by rw[Qcg] at r;cases r;exact⟨[],ZL,.nil⟩
 | p::kvs,_,r=>by
  cases r with
  | @cons a b as bs h t=>
   obtain⟨rs,c,q⟩:=pP t;obtain⟨b1,b2⟩:=b;exact⟨(p.1,b2)::rs,⟨lR h.1,rfl,c⟩,.cons ⟨rfl,h.2⟩ q⟩
def F3 (ya:List (TE×TE)):TE:=fun σ H Q=>∀p,H p=none->oV ya σ (upd H p (.dK [])) fun ps H2=>H2 p=some (.dK [])/\∃kvs,ps=kvs.map (fun kv=>(kV kv.1,kv.2))/\kvs.length<=15/\Q (.ref p) (upd H2 p (.dK (cB [] kvs)))
def Hi (h:NQ X pos keys values ya)(jH:keys.all (·.isSome)=true)(hl:keys.length=values.length)(h0:keys≠[])
  (N0:keys.length<=15):PE X (.Dict keys values pos) (F3 ya):=by
 refine fun pins s σ H Q I q=>wpAny_Dict_walk (knd:=bC X.prog X.w) jH hl h0 N0 (bb (h _ σ _ _ (I.laid (t':=s.toks) (fun _ _ q=>Jb _ q) (Je _) (vi s.heap I.big)) (q _ (I.bq.fresh (Je s.heap.objs.size)))) fun ws s2 hz_=>aj.el hz_ _ fun ps H2 I2 rel e kvs ep lk q2 =>?_);subst ep;obtain⟨rs,c,rk⟩:=pP rel;obtain⟨z,hd,vs0,r0,dd⟩:=Aa I2.bq e;cases r0;refine⟨rs,c,dd,fun h' CU hs=>⟨.ref s.heap.objs.size,_,?_,rfl,q2⟩⟩;have hz:(cB [] kvs).length<=KE:=by
  have h1:=dP kvs [];rw[Yk] at h1;rw[Qcc];lia
 exact lJ I2 (by rw[e];exact ZL) hs (let ⟨q,_,_,hq,_⟩:=CU; ⟨q,hq⟩) (yJ hz hd (rk.merge .nil) CU)
structure M2 (X:Cx)(o:ZA)(m:Str)(apos:Pos)(e f:ZA)(eF:Pos):Prop where
 base:QaK o m X.env (ZM o X.env)=ZM o X.env
 wQ:((QaS eF (Ze [e,f] X.env)).all (fun x => !x.1)&&(backToKw eF (Qeq [] X.env)).all (fun x=>x.1.isSome)
  && decide (([e,f]:List ZA).length+([]:List QeK).length+(if ([]:List QeK).isEmpty then 0 else 1)<30))=true
 line:(apos.endLine==eF.line)=true
 trees:QaS eF (Ze [e,f] X.env)=[(false,ZM e X.env),(false,ZM f X.env)]
def UG (H:Hp)(a:Gc):Prop:=(∃kvs,Rd H a (.dK kvs))\/∃kvs,Rd H a (.dT kvs)
def Lu {σ:St}{H:Hp}{s:Wp}{a:Gc}(I:Inv X pins σ H s)(d:UG H a):
  s.TypeIs (.ref a) "dict" /\ (∀b,Zh a = .ref b->∃ob,s.heap.get? b=some ob/\ob.dict=none)/\(a==Qax)=false:=by
 rcases d with ⟨kvs,e⟩|⟨kvs,e⟩
 ·obtain⟨_,hd,vs,_,dd⟩:=rF I.bq e;refine⟨dd.typeIs,fun b q =>?_,hd⟩;cases q;obtain⟨ob,_,_,h1,h2,_⟩:=dd;exact⟨ob,h1,h2.2.1⟩
 ·obtain⟨_,hd,xs,_,dd⟩:=sL I.bq e;refine⟨dd.typeIs,fun b q =>?_,hd⟩;cases q;obtain⟨ob,_,_,h1,h2,_⟩:=dd;exact⟨ob,h1,h2.2.1⟩
section
variable {X:Cx}{pins:List (Gc×Obj)}{σ:St}{H:Hp}{s:Wp}{a:Gc}{y d:V}{u r:Fk}{o:Option V}{A:Zs}{E:Fk->Wp->Prop}
def Mv (hu:A.units+1<QbN)(I:Inv X pins σ H s)(g:eV H a y o)(ry:RelV y u)(rd:RelV d r)(h:∀w' s',Inv X pins σ H s'->RelV (o.getD d) w'->Q w' s'):
  YX (YW X.prog X.w) A (call (.builtin "dict.get") [.ref a,u,r]) Q E s:=by
 rcases g with ⟨kvs,k,e,ey,l⟩|⟨kvs,k,b,e,ey,eb,l⟩
 ·subst ey;obtain⟨z,hd,vs,rel,dd⟩:=rF I.bq e;refine call_meetsIn Qb8 dd.typeIs Qeh (Qd1 _ _ _) (meets_dict_get_default (bC X.prog X.w) a (lR ry) hd r) ⟨_,dd.mapOf,h _ _ (I.tok _) ?_⟩;rw[l];exact(rel.val k).getD rd
 ·subst ey;cases (show u=Zh b from ry);obtain⟨z,hd,xs,rel,dd⟩:=sL I.bq e;refine call_meetsIn Qb8 dd.typeIs Qeh (Qd1 _ _ _) (meetsH_dict_get_default (Qc3 (bC X.prog X.w)) a b hd r) ⟨QbX hu,k,xs,ql I.bq eb,dd,h _ _ (I.tok _) ?_⟩;rw[l];exact(rel.val k).getD rd
end
def Lc (td ty tx:TE):TE:=fun σ H Q=>td σ H fun x H1=>∃a,x = .ref a/\UG H1 a/\ty σ H1 fun y H2=>tx σ H2 fun z H3=>∃o,eV H3 a y o/\Q (o.getD z) H3
section
variable {X:Cx}{o e f:ZA}{apos eF:Pos}{td ty tx:TE}
def Ef (hu:X.A.units+1<QbN)(ho:PE X o td)(he:PE X e ty)(hf:PE X f tx)(m:M2 X o "get" apos e f eF):PE X (.Call (.Attribute o "get" apos) [e,f] [] eF) (Lc td ty tx):=by
 refine fun pins s σ H Q I h=>wpAny_Call_method m.base m.wQ m.line Qd0 Qb8 PySem.F.type_dict_get (bb (ho s σ H _ I h) fun u s1 hz_=>aj.el hz_ _ ?_);rintro x H1 I1 rx ⟨a,ex,d,q1⟩;subst ex;obtain rfl:u=Zh a:=rx;obtain⟨t1,t2,_⟩:=Lu I1 d;refine⟨t1,t2,?_⟩;rw[m.trees];refine Qca rfl (Qe8 (Qak (bb (he s1 σ H1 _ I1 q1) fun iv s2 ⟨y,H2,I2,ry,q2⟩=>
  Qak (bb (hf s2 σ H2 _ I2 q2) fun fv s3 ⟨z,H3,I3,rz,ov,g,q3⟩=>QaG ?_))))
 exact Mv hu I3 g ry rz fun w' s4 I4 rw'=>⟨_,H3,I4,rw',q3⟩
end
end L2
namespace HT
open PySem PyProof.Rows
section
variable {prog:YZ}{w:Zb}{A:Zs}{E:Fk->Wp->Prop}{s:Wp}
def eQ (n d:Nat):Option Int->Nat
 | none=>d
 | some v=>if v<0 then (v+(n:Int)).toNat else min v.toNat n
def uZ (n d:Nat):eQ n d none=d:=rfl
def lS (n d k:Nat):eQ n d (some (k:Int))=min k n:=rfl
def Am (v:Int)(n d:Nat):(if v<0 then max (v+(n:Int)) 0 else min v (n:Int))=((eQ n d (some v):Nat):Int):=by
 show(if v<0 then max (v+(n:Int)) 0 else min v (n:Int))=(((if v<0 then (v+(n:Int)).toNat else min v.toNat n):Nat):Int)
 by_cases hv:v<0
 ·simp only[if_pos hv];lia
 ·simp only[if_neg hv];lia
def xk (lo hi:Option Int)(n:Nat):QcX lo hi 1 (n:Int)=(((eQ n 0 lo:Nat):Int),((eQ n n hi:Nat):Int)):=by
 refine Qbo ?_ ?_
 ·cases lo with
  | none=>rfl
  | some v=>exact Am v n 0
 ·cases hi with
  | none=>rfl
  | some v=>exact Am v n n
def yj (i j:Nat):QaD (i:Int) (j:Int) 1=j-i:=by
 unfold QaD
 split<;>lia
def pJ (p:Qej v o)(h:Q o s):YX (YW prog w) A (Builtin.Slice.slicePartIndex v) Q E s:=by
 cases p with
 | none=>exact slicePart_none h
 | int i t=>exact slicePart_int h
def mM {lo hi:Option Int}{n:Nat}{Q:Int×Int×Nat->Wp->Prop}(hs:s.heap.IsSliceOf sl vl vu .none)(pl:Qej vl lo)(pu:Qej vu hi)
  (h:Q (((eQ n 0 lo:Nat):Int),1,eQ n n hi-eQ n 0 lo) s):YX (YW prog w) A (Builtin.Slice.sliceApplied (.ref sl) (pure (n:Int))) Q E s:=by
 obtain⟨os,hos,CT,hds⟩:=id hs;refine be (be (Zg hos hds rfl (be (Zg hos hds rfl (be (Zg hos hds rfl (tz (be (slicePart_none (be (pJ pl (be (pJ pu (be (tz ?_)))))))))))))));show YX _ _ (match QcX lo hi 1 (n:Int) with|(lo,hi)=>pure (lo,(1:Int),QaD lo hi 1)) _ _ s;rw[xk lo hi n];show YX _ _ (pure (((eQ n 0 lo:Nat):Int),(1:Int),QaD ((eQ n 0 lo:Nat):Int) ((eQ n n hi:Nat):Int) 1)) _ _ s;rw[yj];exact tz h
def C4 (xs:Array Fk)(i k:Nat):((Qbg k).filterMap fun(m:Nat)=>xs[((i:Int)+(m:Int)*1).toNat]?).toArray=((xs.toList.drop i).take k).toArray:=by
 have e:(fun(m:Nat)=>xs[((i:Int)+(m:Int)*1).toNat]?)=fun m=>xs[i+m]?:=by
  funext m
  have:((i:Int)+(m:Int)*1).toNat=i+m:=by lia
  rw[this]
 rw[e];have:=pick_run xs i k;rw[List.filterMap_map] at this;have e2:((fun x=>xs[x]?)∘fun x=>i+x)=fun m=>xs[i+m]?:=rfl;rw[e2] at this;rw[this]
def lN {items:Array Fk}{vl vu:Fk}{lo hi:Option Int}{Q:Fk->Wp->Prop}(ht:IsTup s.heap t items)(hs:s.heap.IsSliceOf sl vl vu .none)(pl:Qej vl lo)(pu:Qej vu hi)
  (hw:¬(eQ items.size 0 lo=0/\eQ items.size items.size hi=items.size))
  (h:Q (.ref s.heap.objs.size) { s with heap:=s.heap.push { cls := .type "tuple",data := .seq ((items.toList.drop (eQ items.size 0 lo)).take (eQ items.size items.size hi-eQ items.size 0 lo)).toArray } })
  (hsz:items.size<=KE):YX (YW prog w) A (Qc5 (.ref t) (.ref sl)) Q E s:=by
 have ze:sizeOk (.seq ((items.toList.drop (eQ items.size 0 lo)).take (eQ items.size items.size hi-eQ items.size 0 lo)).toArray):=by
  show((items.toList.drop (eQ items.size 0 lo)).take (eQ items.size items.size hi-eQ items.size 0 lo)).toArray.size<=KE;rw[Jv,J6,Uj,Ue];lia
 obtain⟨os,hos,CT,hds⟩:=id hs;unfold Qc5
 try with_reducible refine Zf ?_
 first|refine be (tz ?_)|skip
 refine be (wpAny_sequenceKey ht.typeIs rfl (be (Zj ht.typeIs Qcx
  (Zm Qcx ht.typeIs entry_tuple_getitem ?_ (args_tuple_getitem _ _)))))
 show YX _ _ (Builtin.Tuple.tupleItemsOf (.ref t) >>= _) _ _ s;refine be (tupleItemsOf_ ht (be (ZV ⟨os,hos,CT⟩ (be (mM hs pl pu ?_)))));have C0:¬((((eQ items.size 0 lo:Nat):Int)==0&&(1:Int)==1&&(eQ items.size items.size hi-eQ items.size 0 lo)==items.size)=true):=by
  intro q;rw[Js,Js] at q;have q1:=eq_of_beq q.1.1;have q2:=eq_of_beq q.2;exact hw ⟨⋯,⋯⟩
 show YX _ _ (if (((eQ items.size 0 lo:Nat):Int)==0&&(1:Int)==1&&(eQ items.size items.size hi-eQ items.size 0 lo)==items.size)=true then _ else _) _ _ s;rw[if_neg C0,C4]
 first
  | exact be (ZJ (tz ⟨_,rfl,tz h⟩) ze)
  | exact be (ZJ (be (tz (tz ⟨_,rfl,tz h⟩))) ze)
  | exact be (be (ZJ (tz (tz ⟨_,rfl,tz h⟩)) ze))
  | exact be (be (ZJ (tz ⟨_,rfl,tz h⟩) ze))
end
end HT
namespace L2
open PySem PySem.Spec PyProof.Rows
abbrev TO:=St->Hp->(Option Int->Hp->Prop)->Prop
def PO (X:Cx)(e:Option ZA)(t:TO):Prop:=
 ∀ ⦃pins:List (Gc×Obj)⦄ (s:Wp) (σ:St) (H:Hp) (Q:Option Int->Hp->Prop),Inv X pins σ H s->t σ H Q ->
  YX (YW X.prog X.w) X.A (evalPart e X.env) (fun u s'=>fG fun o H'=>Inv X pins σ H' s'/\Qej u o/\Q o H') X.xe s
def GR:TO:=fun _ H Q=>Q none H
def OA (t:TE):TO:=fun σ H Q=>t σ H fun x H1=>∃i,x = .int i/\Q (some i) H1
section
variable {X:Cx}{e:ZA}{te:TE}{lo hi:Option ZA}{tl th:TO}{pos p2:Pos}
def iV:PO X none GR:=
 fun pins s σ H Q I h=>tz ⟨none,H,I,.none,h⟩
def bz (h:PE X e te):PO X (some e) (OA te):=by
 refine fun pins s σ H Q I hw=>bb (h s σ H _ I hw) fun u s1 hz_=>aj.el hz_ _ ?_;rintro x H1 I1 r1 q1;obtain⟨i,rfl,q⟩:=q1;obtain⟨t,rfl⟩:=r1;exact⟨some i,H1,I1,.int i t,q⟩
def CO (X:Cx)(r:V->Option Int->Option Int->Hp->VK->Prop):Prop:=
 ∀ ⦃pins:List (Gc×Obj)⦄ (s:Wp) (σ:St) (H:Hp) (x:V) (v vl vu:Fk) (lo hi:Option Int) (sl:Gc) (Q:VK),Inv X pins σ H s->RelV x v->s.heap.IsSliceOf sl vl vu .none->Qej vl lo->Qej vu hi->r x lo hi H Q ->
  fG fun T id=>Qar (.type T) "__getitem__" = pure (some (.builtin id))/\s.TypeIs v T/\YX (YW X.prog X.w) X.A (Qc5 v (.ref sl)) (EP X pins σ Q) X.xe s
def CO.or (h:CO X r)(h':CO X r'):CO X (fun x lo hi H Q=>r x lo hi H Q\/r' x lo hi H Q):=by
 intro pins s σ H x v vl vu lo hi sl Q I rx hs pl pu q
 rcases q with q|q
 ·exact h s σ H x v vl vu lo hi sl Q I rx hs pl pu q
 ·exact h' s σ H x v vl vu lo hi sl Q I rx hs pl pu q
def Xy (r:V->Option Int->Option Int->Hp->VK->Prop)(te:TE)(tl th:TO):TE:=fun σ H Q=>te σ H fun x H1=>tl σ H1 fun l H2=>th σ H2 fun u H3=>r x l u H3 Q
def bL (hr:CO X r)(he:PE X e te)(hl:PO X lo tl)(hu:PO X hi th):PE X (.Subscript e (.Slice lo hi none p2) pos) (Xy r te tl th):=by
 refine fun pins s σ H Q I h=>Subscript_ (bb (he s σ H _ I h) fun v s1 hz_=>aj.el hz_ _ ?_);rintro x H1 I1 r1 q1;refine wpAny_Slice (bb (hl s1 σ H1 _ I1 q1) fun vl s2 hz_=>aj.el hz_ _ fun l H2 I2 pl q2=>bb (hu s2 σ H2 _ I2 q2) fun vu s3 hz_=>aj.el hz_ _ ?_);rintro u H3 I3 pu q3;refine tz ?_;have I4:Inv X pins σ H3 { s3 with heap:=s3.heap.push { cls := .type "slice",data := .fields #[vl,vu,.none] } }:=I3.kept fun b ob q=>Jb _ q;obtain⟨T,id,hT,ht,hg⟩:=hr { s3 with heap:=s3.heap.push { cls := .type "slice",data := .fields #[vl,vu,.none] } } σ H3 x v vl vu l u s3.heap.objs.size Q I4 r1 (Heap.IsSliceOf.new ..) pl pu q3;exact tail_any ht hT hg (by with_unfolding_all rfl)
def lq (xs:List V)(lo hi:Option Int):List V:=(xs.drop (HT.eQ xs.length 0 lo)).take (HT.eQ xs.length xs.length hi-HT.eQ xs.length 0 lo)
def nL (xs:List V)(lo hi:Option Int):(lq xs lo hi).length<=xs.length:=by
 unfold lq;rw[J6,Uj];lia
def SU (K:Ja):V->Option Int->Option Int->Hp->VK->Prop:=fun x lo hi H Q=>fG fun a xs=>x = .ref a/\aY K H a xs /\
 ¬(HT.eQ xs.length 0 lo=0/\HT.eQ xs.length xs.length hi=xs.length)/\∀p,H p=none->Q (.ref p) (upd H p (.tup (lq xs lo hi)))
def LX:CO X (SU X.K):=by
 intro pins s σ H x v vl vu lo hi sl Q I rx hs pl pu h;obtain⟨a,xs,rfl,hx,hw,q⟩:=h;cases rx;obtain⟨aF,r,ht,hz⟩:=I.tuple hx;have hlen:aF.toArray.size=xs.length:=by rw[Jv];exact r.length.symm
 refine⟨"tuple",_,PyProof.Rows.slot_tuple_getitem.lookup,ht.typeIs,(HT.lN ht hs pl pu (by rw[hlen];exact hw) ?_ (by rw[hlen];exact hz))⟩;rw[hlen];refine⟨.ref s.heap.objs.size,_,I.laid (fun b ob q=>Jb _ q) (Je _) ?_,rfl,q _ (I.bq.fresh (Je _))⟩;exact⟨Jg (nL xs lo hi) hz,_,(r.drop (HT.eQ xs.length 0 lo)).take (HT.eQ xs.length xs.length hi-HT.eQ xs.length 0 lo),tH.new _ _⟩
end
def CW (n:Nat)(i:Int):Option Nat:=if 0<=i then (if i<n then some i.toNat else none) else if -(n:Int)<=i then some (i+n).toNat else none
def vp {α:Type}(xs:List α)(i:Int):Option α:=(CW xs.length i).bind fun j=>xs[j]?
def tM (h:CW n i=some j):seqIndex? i n=some j/\j<n /\ -(n:Int)<=i/\i<n:=by
 unfold CW at h
 by_cases h0:0<=i
 ·rw[if_pos h0] at h
  by_cases h1:i<n
  ·rw[if_pos h1] at h;have e:=Zk h;exact⟨by rw[seqIndex_of h0 h1,e],⋯,⋯,h1⟩
  ·rw[if_neg h1] at h;cases h
 ·rw[if_neg h0] at h
  by_cases h1: -(n:Int)<=i
  ·rw[if_pos h1] at h;have e:=Zk h;exact⟨by rw[seqIndex_neg ⋯ h1,e],⋯,h1,⋯⟩
  ·rw[if_neg h1] at h;cases h
def oA (h:vp xs i=some v):∃j,seqIndex? i xs.length=some j/\xs[j]? = some v/\j<xs.length /\ -(xs.length:Int)<=i/\i<xs.length:=by
 unfold vp at h;cases e:CW xs.length i with
 | none=>rw[e] at h;cases h
 | some j=>
  rw[e] at h;obtain⟨h1,h2,h3,h4⟩:=tM e;exact⟨j,h1,h,h2,h3,h4⟩
def oq {j:Nat}{v: α}(h:xs[j]? = some v):vp xs (j:Int)=some v:=by
 have hj:=(Ji.mp h).1;have e:CW xs.length (j:Int)=some j:=by
  unfold CW;rw[if_pos ⋯,if_pos ⋯];simp
 unfold vp;rw[e];exact h
def G8 (b:ZA):Prop:=∀o i,Qep b false o i=operate [o,i] (Qc5 o i)
def Ge (X:Cx)(r:R2):Prop:=
 ∀ ⦃value slice:ZA⦄ ⦃pins:List (Gc×Obj)⦄ (s:Wp) (σ:St) (H:Hp) (x y:V) (v u:Fk) (Q:VK),Inv X pins σ H s->RelV x v->RelV y u->r x y H Q ->
  Qep slice false v u=operate [v,u] (Qc5 v u)->YX (YW X.prog X.w) X.A (subscriptTail value slice v u) (EP X pins σ Q) X.xe s
def KC (X:Cx)(id:String)(r:V->List V->Hp->VK->Prop):Prop:=
 ∀ ⦃pins:List (Gc×Obj)⦄ (s:Wp) (σ:St) (H:Hp) (x:V) (xs:List V) (v:Fk) (us:List Fk) (Q:VK),Inv X pins σ H s->RelV x v->Vals xs us->r x xs H Q ->
  YX (YW X.prog X.w) X.A (call (.builtin id) (v::us)) (EP X pins σ Q) X.xe s
section
variable {X:Cx}{a b:ZA}{ta tb:TE}{pos:Pos}
def Ge.or (h:Ge X r)(h':Ge X r'):Ge X (fun x y H Q=>r x y H Q\/r' x y H Q):=by
 intro value slice pins s σ H x y v u Q I rx ry q hs
 rcases q with q|q
 ·exact h s σ H x y v u Q I rx ry q hs
 ·exact h' s σ H x y v u Q I rx ry q hs
def aU (hr:Ge X r)(ha:PE X a ta)(hb:PE X b tb)(hs:G8 b):PE X (.Subscript a b pos) (M9 r ta tb):=
 fun pins s σ H Q I h=>Subscript_ (Kp ha hb I h fun v u s2 x y H2 I2 rx ry q=>hr s2 σ H2 x y v u Q I2 rx ry q (hs _ _))
def OP (K:Ja):R2:=fun x y H Q=>lW fun p xs i v=>x = .ref p/\y = .int i/\bg K H p xs/\vp xs i=some v/\Q v H
def O0 (K:Ja):R2:=fun x y H Q=>lW fun p xs i v=>x = .ref p/\y = .int i/\aY K H p xs/\vp xs i=some v/\Q v H
def OV:R2:=fun x y H Q=>oG fun z i c=>x = .str z/\y = .int i/\z.length<=KE/\vp z.cps.toList i=some c/\Q (.str ⟨#[c]⟩) H
def HW:Ge X (OP X.K):=by
 intro value slice pins s σ H x y v u Q I rx ry h hs;obtain⟨p,xs,i,z,rfl,rfl,hq,he,q⟩:=h;cases rx;obtain⟨t,rfl⟩:=ry;obtain⟨aF,r,pl,hz⟩:=I.list hq;obtain⟨j,h1,h2,h3,h4,h5⟩:=oA he;obtain⟨w,ew,rw'⟩:=r.get h2;have hl:=r.length;have hn:=mK;have fin:EP X pins σ Q w s:=⟨z,H,I,rw',q⟩
 by_cases h0:0<=i
 ·have hj:i.toNat=j:=by
   rw[seqIndex_of h0 h5] at h1;exact Zk h1
  exact item_listR pl.isList h0 ⋯ (by rw[hj];simpa using ew) fin hs
 ·have hj:(i+(aF.toArray.size:Int)).toNat=j:=by
   rw[seqIndex_neg ⋯ h4] at h1;rw[Jv,<-hl];exact Zk h1
  exact subscriptTail_builtinR pl.isList.typeIs slot_list_getitem.lookup
   (wpAny_getItem_list_neg pl.isList ⋯ (by rw[Jv]<;>lia) ⋯ (by rw[hj];simpa using ew) ⟨rfl,fin⟩) hs
def MJ:Ge X (O0 X.K):=by
 intro value slice pins s σ H x y v u Q I rx ry h hs;obtain⟨p,xs,i,z,rfl,rfl,hq,he,q⟩:=h;cases rx;obtain⟨t,rfl⟩:=ry;obtain⟨aF,r,pl,hz⟩:=I.tuple hq;obtain⟨j,h1,h2,h3,h4,h5⟩:=oA he;obtain⟨w,ew,rw'⟩:=r.get h2;have hn:=mK;exact subscriptTail_builtinR pl.typeIs slot_tuple_getitem.lookup
  (getItem_tuple pl ⋯ ⋯ (by rw[Jv,<-r.length];exact h1) (by simpa using ew) ⟨rfl,⟨z,H,I,rw',q⟩⟩) hs
def Kf:Ge X OV:=by
 intro value slice pins s σ H x y v u Q I rx ry h hs;obtain⟨z,i,c,rfl,rfl,hz,he,q⟩:=h;obtain⟨t,rfl⟩:=rx;obtain⟨t',rfl⟩:=ry;obtain⟨j,h1,h2,h3,h4,h5⟩:=oA he;have hl:z.cps.toList.length=z.length:=by simp[Str.length]
 rw[hl] at h1 h4 h5;have hn:=mK;exact tail_any (QcE s z t) slot_str_getitem.lookup (getItem_str (by
  rw[(decide_eq_false ⋯),(decide_eq_false ⋯),QcU]) (by rw[h1];simpa using h2) ⟨.str ⟨#[c]⟩,H,I.tok _,⟨_,rfl⟩,q⟩) hs
def SY (K:Ja):R2:=fun x y H Q=>OP K x y H Q\/O0 K x y H Q\/OV x y H Q
def KN:Ge X (SY X.K):=HW.or (MJ.or Kf)
def yu (aF:List Fk)(n j:Nat)(u:Fk):ZF (·.setIfInBounds j u) { cls := .type "list",data := .seq aF.toArray n } = { cls := .type "list",data := .seq (aF.set j u).toArray n }:=by
 simp[ZF]
def Inv.lst {σ:St}{H:Hp}{s:Wp}{p:Gc}{xs:List V}(I:Inv X pins σ H s)(h:H p=some (.lst xs)):
  ∃aF n,Vals xs aF/\s.heap.get? p=some { cls := .type "list",data := .seq aF.toArray n } /\ xs.length<=KE:=by
 obtain⟨z,aF,n,r,e⟩:=I.bq p _ h;exact⟨aF,n,r,e,z⟩
def Inv.LI {σ:St}{H:Hp}{s:Wp}{p:Gc}{xs ys:List V}{aF its':List Fk}{n n':Nat}{f:Obj->Obj}(I:Inv X pins σ H s)(h:H p=some (.lst xs))
  (ho:s.heap.get? p=some { cls := .type "list",data := .seq aF.toArray n }) (hf:f { cls := .type "list",data := .seq aF.toArray n } = { cls := .type "list",data := .seq its'.toArray n' }) (r:Vals ys its') (hz:ys.length<=KE) (t:Nat) :
  Inv X pins σ (upd H p (.lst ys)) { s with heap:=s.heap.update p f,toks:=t }:=by
 have e:(s.heap.update p f).get? p=some { cls := .type "list",data := .seq its'.toArray n' }:=by
  rw[J2 f ho (by rw[hf]<;>rfl),hf]
 refine I.write (by rw[h];trivial) (.inl rfl) (fun b u hb q=>(J3 _ _ (Zx hb)).trans q) ⟨_,e⟩ ?_;exact⟨hz,its',n',r,e⟩
def NF:V->V->V->Hp->(Hp->Prop)->Prop:=fun o i v H Q=>lW fun p xs k j=>o = .ref p/\i = .int k/\H p=some (.lst xs)/\CW xs.length k=some j/\Q (upd H p (.lst (xs.set j v)))
def set_list:Ob X NF:=by
 intro pins s σ H o i v ov iv u Q I ro ri rv h;obtain⟨p,xs,k,j,rfl,rfl,hp,hj,q⟩:=h;cases ro;obtain⟨t,rfl⟩:=ri;obtain⟨aF,n,r,ho,hz⟩:=I.lst hp;obtain⟨h1,h2,h3,h4⟩:=tM hj;have hl:=r.length;have hn:=mK;have I':Inv X pins σ (upd H p (.lst (xs.set j v))) { s with heap:=s.heap.update p (ZF (·.setIfInBounds j u)) }:=
  I.LI hp ho (yu aF n j u) (r.set rv j) (by rw[Wa];exact hz) s.toks
 by_cases h0:0<=k
 ·have hk:k.toNat=j:=by
   rw[seqIndex_of h0 h4] at h1;exact Zk h1
  exact PySem.W.ki_setAt ho h0 ⋯ (by rw[Jv,<-hl];exact h4) (by rw[hk];exact⟨_,I',q⟩)
 ·have hk:(k+(aF.toArray.size:Int)).toNat=j:=by
   rw[seqIndex_neg ⋯ h3] at h1;rw[Jv,<-hl];exact Zk h1
  exact PySem.W.ki_setBack ho ⋯ (by rw[Jv,<-hl];exact h3) ⋯ (by rw[hk];exact⟨_,I',q⟩)
def uq (lo hi:Option Int)(n:Nat):(Qby lo hi none n).1=((HT.eQ n 0 lo:Nat):Int)/\(Qby lo hi none n).2.1=((HT.eQ n n hi:Nat):Int)/\(Qby lo hi none n).2.2=1:=by
 refine⟨?_,?_,rfl⟩
 ·cases lo with
  | none=>simp[Qby,HT.eQ]
  | some i=>
   simp only[Qby,HT.eQ,Option.getD_none,if_true]
   by_cases h:i<0
   ·simp only[h,if_true]<;>lia
   ·simp only[h,if_false]<;>lia
 ·cases hi with
  | none=>simp[Qby,HT.eQ]
  | some i=>
   simp only[Qby,HT.eQ,Option.getD_none,if_true]
   by_cases h:i<0
   ·simp only[h,if_true]<;>lia
   ·simp only[h,if_false]<;>lia
def qS (aF:List Fk)(lo hi:Option Int):slicePick aF.toArray lo hi none=((aF.drop (HT.eQ aF.length 0 lo)).take (HT.eQ aF.length aF.length hi-HT.eQ aF.length 0 lo)).toArray:=by
 obtain⟨h1,h2,h3⟩:=uq lo hi aF.toArray.size;unfold slicePick;rw[h1,h2,h3];simp only[sliceRange_one,pick_run,Jv]<;>rfl
def L3 (K:Ja):V->Option Int->Option Int->Hp->VK->Prop:=fun x lo hi H Q=>fG fun a xs=>x = .ref a/\bg K H a xs/\∀p,H p=none->Q (.ref p) (upd H p (.lst (lq xs lo hi)))
def Hl:CO X (L3 X.K):=by
 intro pins s σ H x v vl vu lo hi sl Q I rx hs pl pu h;obtain⟨a,xs,rfl,hx,q⟩:=h;cases rx;obtain⟨aF,r,ht,hz⟩:=I.list hx;have hlen:=r.length;refine⟨"list",_,slot_list_getitem.lookup,ht.isList.typeIs,(wpAny_getItem_list_slice ht.isList hs pl pu .none (by simp) ?_ (by rw[Jv]<;>lia))⟩;rw[qS,<-hlen];refine⟨.ref s.heap.objs.size,_,I.laid (fun b ob q=>Jb _ q) (Je _) ?_,rfl,q _ (I.bq.fresh (Je _))⟩;exact⟨Jg (nL xs lo hi) hz,_,0,(r.drop (HT.eQ xs.length 0 lo)).take (HT.eQ xs.length xs.length hi-HT.eQ xs.length 0 lo),Jh _ rfl⟩
def nK:V->Bool
 | .non=>true
 | .bl _=>true
 | .int _=>true
 | .str _=>true
 | _=>false
def HZ:V->V->Bool
 | .non,.non=>true
 | .bl a,.bl b=>a==b
 | .bl a,.int b=>(if a then 1 else 0)==b
 | .int a,.bl b=>a==(if b then 1 else 0)
 | .int a,.int b=>a==b
 | .str a,.str b=>a==b
 | _,_=>false
def K2 {y x:V}{u v:Fk}(ry:RelV y u)(rx:RelV x v)(fy:nK y=true)(fx:nK x=true):SeqAt.EqAt A s u v (HZ y x):=by
 cases y with
 | non=>
  cases ry;cases x with
  | non=>cases rx;exact SeqAt.EqAt.same _
  | bl b=>cases rx;exact SeqAt.EqAt.none_bool b
  | int b=>obtain⟨t,rfl⟩:=rx;exact SeqAt.EqAt.none_int b t
  | str b=>obtain⟨t,rfl⟩:=rx;exact SeqAt.EqAt.none_str b t
  | _=>exact absurd (show false=true from fx) Jr
 | bl a=>
  cases ry;cases x with
  | non=>cases rx;exact SeqAt.EqAt.bool_none a
  | bl b=>cases rx;exact Qb2 a b
  | int b=>obtain⟨t,rfl⟩:=rx;exact SeqAt.EqAt.bool_int a b t
  | str b=>obtain⟨t,rfl⟩:=rx;exact SeqAt.EqAt.bool_str a b t
  | _=>exact absurd (show false=true from fx) Jr
 | int a=>
  obtain⟨t',rfl⟩:=ry;cases x with
  | non=>cases rx;exact SeqAt.EqAt.int_none a t'
  | bl b=>cases rx;exact SeqAt.EqAt.int_bool a t' b
  | int b=>obtain⟨t,rfl⟩:=rx;exact SeqAt.EqAt.int_int a t' b t
  | str b=>obtain⟨t,rfl⟩:=rx;exact Qeu a t' b t
  | _=>exact absurd (show false=true from fx) Jr
 | str a=>
  obtain⟨t',rfl⟩:=ry;cases x with
  | non=>cases rx;exact SeqAt.EqAt.str_none a t'
  | bl b=>cases rx;exact SeqAt.EqAt.str_bool a t' b
  | int b=>obtain⟨t,rfl⟩:=rx;exact Qet a t' b t
  | str b=>obtain⟨t,rfl⟩:=rx;exact Qes a t' b t
  | _=>exact absurd (show false=true from fx) Jr
 | _=>exact absurd (show false=true from fy) Jr
def x9 (x:V)(u:Fk):Bool:=match u with
 | .none=>HZ .non x
 | .bool b=>HZ (.bl b) x
 | .int i _=>HZ (.int i) x
 | .str z _=>HZ (.str z) x
 | _=>false
def Fa {x y:V}{u:Fk}(r:RelV y u)(f:nK y=true):x9 x u=HZ y x:=by
 cases y with
 | non=>cases r;rfl
 | bl b=>cases r;rfl
 | int i=>obtain⟨t,rfl⟩:=r;rfl
 | str z=>obtain⟨t,rfl⟩:=r;rfl
 | _=>exact absurd (show false=true from f) Jr
def lQ:∀{xs:List V} {us:List Fk},Vals xs us->xs.all nK=true->us.any (x9 x)=xs.any fun y=>HZ y x
 | _,_,.nil,_=>rfl
 | y::xs,u::us,.cons r t,f=>by
  rw[QaW,Js] at f;rw[Y8,Y8,Fa r f.1,lQ t f.2]
def jR {x:V}{v:Fk}(rx:RelV x v)(fx:nK x=true):∀{xs:List V} {us:List Fk},Vals xs us->xs.all nK=true->∀u∈us,SeqAt.EqAt A s u v (x9 x u)
 | _,_,.nil,_=>fun u hu=>by cases hu
 | y::xs,u::us,.cons r t,f=>fun u' hu=>by
  rw[QaW,Js] at f
  rcases Jq.mp hu with rfl|hu
  ·rw[Fa r f.1];exact K2 r rx f.1 fx
  ·exact jR rx fx t f.2 u' hu
def IW (x:V)(xs:List V):Bool:=xs.any fun y=>HZ y x
def Qf (K:Ja)(neg:Bool):R2:=fun x y H Q=>fG fun p xs=>y = .ref p/\(bg K H p xs\/aY K H p xs)/\nK x=true/\xs.all nK=true/\Q (.bl (if neg then !IW x xs else IW x xs)) H
def B0:eW X (Zv .In) (Qf X.K false):=by
 intro pins s σ H x y v u Q I rx ry h;obtain⟨p,xs,rfl,hq,fx,fs,q⟩:=h;cases ry
 rcases hq with hq|hq
 ·obtain⟨aF,r,pl,hz⟩:=I.list hq;refine SeqAt.in_listAt (x9 x) pl.isList (fun w hw=>jR rx fx r fs w (by simpa using hw)) ⟨.bl _,H,I,rfl,?_⟩;rw[show aF.toArray.any (x9 x)=aF.any (x9 x) by simp,lQ r fs];exact q
 ·obtain⟨aF,r,pl,hz⟩:=I.tuple hq;refine SeqAt.in_tupleAt (x9 x) pl (fun w hw=>jR rx fx r fs w (by simpa using hw)) ⟨.bl _,H,I,rfl,?_⟩;rw[show aF.toArray.any (x9 x)=aF.any (x9 x) by simp,lQ r fs];exact q
def tm:eW X (Zv .NotIn) (Qf X.K true):=by
 intro pins s σ H x y v u Q I rx ry h;obtain⟨p,xs,rfl,hq,fx,fs,q⟩:=h;cases ry
 rcases hq with hq|hq
 ·obtain⟨aF,r,pl,hz⟩:=I.list hq;refine SeqAt.notIn_listAt (x9 x) pl.isList (fun w hw=>jR rx fx r fs w (by simpa using hw)) ⟨.bl _,H,I,rfl,?_⟩;rw[show aF.toArray.any (x9 x)=aF.any (x9 x) by simp,lQ r fs];exact q
 ·obtain⟨aF,r,pl,hz⟩:=I.tuple hq;refine SeqAt.notIn_tupleAt (x9 x) pl (fun w hw=>jR rx fx r fs w (by simpa using hw)) ⟨.bl _,H,I,rfl,?_⟩;rw[show aF.toArray.any (x9 x)=aF.any (x9 x) by simp,lQ r fs];exact q
def bF.or (h:bF X f r)(h':bF X f r'):bF X f (fun xs H Q=>r xs H Q\/r' xs H Q):=by
 intro pins s σ H xs us Q I rs q
 rcases q with q|q
 ·exact h s σ H xs us Q I rs q
 ·exact h' s σ H xs us Q I rs q
def tf:bF X (.type "list") (fun xs H Q=>∃p ys,xs=[.ref p]/\(bg X.K H p ys\/aY X.K H p ys)/\∀l,H l=none->Q (.ref l) (upd H l (.lst ys))):=by
 intro pins s σ H xs us Q I r h;obtain⟨p,ys,rfl,hq,q⟩:=h;obtain⟨u,rfl,rx⟩:=vals1 r;cases rx;have fin:∀aF,Vals ys aF->ys.length<=KE->∀h' c',(∀b o',s.heap.get? b=some o'->h'.get? b=some o') ->
   h'.get? s.heap.objs.size=some { cls := .type "list",dict:=none,data := .seq aF.toArray c',slots := #[] } -> EP X pins σ Q (.ref s.heap.objs.size) { s with heap:=h' }:=fun aF r' hz h' c' kp e=>
  ⟨.ref s.heap.objs.size,_,I.laid kp (Je _) (show bt X.prog X.w _ h' _ (.lst ys) from⟨hz,aF,c',r',e⟩),rfl,q _ (I.bq.fresh (Je _))⟩
 rcases hq with hq|hq
 ·obtain⟨aF,r',pl,hz⟩:=I.list hq;have hlen:=r'.length;obtain⟨o,ho,hc,n,hd⟩:=pl.isList;exact call_list_seq p (.inl rfl) ho hc hd (fun h' c' kp e=>fin aF r' hz h' c' kp e) (by simp only[Jv]<;>lia)
 ·obtain⟨aF,r',pl,hz⟩:=I.tuple hq;have hlen:=r'.length;obtain⟨o,ho,hc,n,hd⟩:=pl;exact call_list_seq p (.inr rfl) ho hc hd (fun h' c' kp e=>fin aF r' hz h' c' kp e) (by simp only[Jv]<;>lia)
def qI:bF X (.type "tuple") (fun xs H Q=>∃p ys,xs=[.ref p]/\((bg X.K H p ys/\∀l,H l=none->Q (.ref l) (upd H l (.tup ys)))\/(aY X.K H p ys/\Q (.ref p) H))):=by
 intro pins s σ H xs us Q I r h;obtain⟨p,ys,rfl,h⟩:=h;obtain⟨u,rfl,rx⟩:=vals1 r;cases rx
 rcases h with ⟨hq,q⟩|⟨hq,q⟩
 ·obtain⟨aF,r',pl,hz⟩:=I.list hq;have hlen:=r'.length;refine call_tuple_list pl.isList (fun h' kp =>?_) (by simp only[Jv]<;>lia);have I1:Inv X pins σ H { s with heap:=h' }:=I.kept kp;have I2:Inv X pins σ (upd H h'.objs.size (.tup ys)) { s with heap:=h'.push { cls := .type "tuple",data := .seq aF.toArray } }:=
   I1.laid (fun b o e=>Jb _ e) (Je _) (show bt X.prog X.w _ _ _ (.tup ys) from⟨hz,aF,r',tH.new _ _⟩)
  exact⟨.ref h'.objs.size,_,I2,rfl,q _ (I1.bq.fresh (Je _))⟩
 ·obtain⟨aF,r',pl,hz⟩:=I.tuple hq;exact call_tuple_same pl ⟨.ref p,H,I,rfl,q⟩
def Qy (K:Ja)(T:String)(x:V)(H:Hp):Prop:=match x with
 | .str _=>T = "str"
 | .int _=>T = "int"
 | .ref p=>(T = "list" /\ ∃xs,bg K H p xs)\/(T = "tuple" /\ ∃o,K.lookup p=some o/\o.cls = .type "tuple" /\ o.dict=none) \/
   (T = "dict" /\ ((∃kvs,H p=some (.dK kvs))\/∃kvs,H p=some (.dT kvs)))\/(T = "set" /\ fG fun S n=>H p=some (.set S n))
 | _=>False
def EF {σ:St}{H:Hp}{s:Wp}{T:String}{x:V}{v:Fk}(I:Inv X pins σ H s)(r:RelV x v)(ty:Qy X.K T x H):
  s.TypeIs v T/\∀a,v = .ref a->∃ob,s.heap.get? a=some ob/\ob.dict=none:=by
 cases x with
 | str z=>
  obtain⟨t,rfl⟩:=r;cases (show T = "str" from ty);exact⟨QcE s z t,fun _ e=>nomatch e⟩
 | int i=>
  obtain⟨t,rfl⟩:=r;cases (show T = "int" from ty);exact⟨typeIs_int s i t,fun _ e=>nomatch e⟩
 | ref p=>
  cases r
  rcases ty with ⟨rfl,xs,hq⟩|⟨rfl,o,hk,hc,hd⟩|⟨rfl,hk⟩|⟨rfl,S,n,hk⟩
  ·obtain⟨aF,_,pl,_⟩:=I.list hq;refine⟨pl.isList.typeIs,fun a e =>?_⟩;cases e;obtain⟨o,n,e,c,hd,_⟩:=pl;exact⟨o,e,hd⟩
  ·refine⟨⟨o,I.iQ p o hk,hc⟩,fun a e =>?_⟩;cases e;exact⟨o,I.iQ _ o hk,hd⟩
  ·have z:∃o,s.heap.get? p=some o/\o.ExactDict:=by
    rcases hk with ⟨kvs,hk⟩|⟨kvs,hk⟩
    ·obtain⟨_,_,_,_,o,_,_,e,ex,_⟩:=I.bq p _ hk;exact⟨o,e,ex⟩
    ·obtain⟨_,_,_,_,o,_,_,e,ex,_⟩:=I.bq p _ hk;exact⟨o,e,ex⟩
   obtain⟨o,e,ex⟩:=z;refine⟨⟨o,e,ex.1⟩,fun a e2 =>?_⟩;cases e2;exact⟨o,e,ex.2.1⟩
  ·obtain⟨o,_,_,_,e,ex,_⟩:=I.bq p _ hk;refine⟨⟨o,e,ex.1⟩,fun a e2 =>?_⟩;cases e2;exact⟨o,e,ex.2.1⟩
 | _=>exact ZS ty
def S3 (K:Ja)(T:String)(r:V->List V->Hp->VK->Prop)(to:TE)(t:TA):TE:=fun σ H Q=>to σ H fun x H1=>Qy K T x H1/\t σ H1 fun xs H2=>r x xs H2 Q
variable {o e:ZA}{es:List ZA}{to:TE}{t:TA}{name:Str}{apos eF:Pos}{T id:String}{r:V->List V->Hp->VK->Prop}
def NJ (pa:PlainAttrs T)(slot:Slot T name id)(RZ:typeOf (.builtin id)=pure (.type "method_descriptor"))(hm:KC X id r)(ho:PE X o to)(ha:PA X (e::es) t)
  (wo:QaK o name X.env (ZM o X.env)=ZM o X.env:=by rfl)
  (Cd:((QaS eF (Ze (e::es) X.env)).all (fun x => !x.1)&&(backToKw eF (Qeq [] X.env)).all (fun x=>x.1.isSome)
   && decide ((e::es).length+([]:List QeK).length+(if ([]:List QeK).isEmpty then 0 else 1)<30))=true:=by rfl)
  (vW:(apos.endLine==eF.line)=true:=by rfl) (hs:Ze (e::es) X.env=(false,ZM e X.env)::Ze es X.env:=by rfl) (yy:(QaS eF (Ze es X.env)).any (·.1)=false:=by rfl) :
  PE X (.Call (.Attribute o name apos) (e::es) [] eF) (S3 X.K T r to t):=by
 refine fun pins s σ H Q I h=>wpAny_Call_method_late wo Cd vW rfl (bb (ho s σ H _ I h) fun v s1 hz_=>aj.el hz_ _ ?_);rintro x H1 I1 r1 ⟨ty,q1⟩;obtain⟨h1,h2⟩:=EF I1 r1 ty;refine⟨T,id,pa,slot,RZ,h1,h2,?_⟩;have hA:=ha (pos:=eF) s1 σ H1 _ I1 q1;rw[hs] at hA ⊢;exact Qca (by show(false||(QaS eF (Ze es X.env)).any (·.1))=false;rw[yy]<;>rfl) (Qe8 (bb hA fun us s2 hz_=>aj.el hz_ _ fun vs H2 I2 r2 q2=>hm s2 σ H2 x vs v us Q I2 r1 r2 q2))
end
def HD (X:Cx)(id:String)(r:V->List V->Hp->VK->Prop):Prop:=
 ∀ ⦃pins:List (Gc×Obj)⦄ (s:Wp) (σ:St) (H:Hp) (x:V) (xs:List V) (v:Fk) (us:List Fk) (Q:VK),Inv X pins σ H s->RelV x v->Vals xs us->r x xs H Q ->
  YX (YW X.prog X.w) X.A (call (.builtin id) (v::us)) (EP X pins σ Q) X.xe s
def Vals.hd (h:Vals (x::xs) us):∃u r,us=u::r/\RelV x u/\Vals xs r:=by
 cases h with|cons a b=>exact⟨_,_,rfl,a,b⟩
def Vals.one (h:Vals [x] us):∃u,us=[u]/\RelV x u:=by
 obtain⟨u,r,rfl,a,h⟩:=h.hd;cases h;exact⟨_,rfl,a⟩
def Vals.two (h:Vals [x,y] us):∃u v,us=[u,v]/\RelV x u/\RelV y v:=by
 obtain⟨u,r,rfl,a,h⟩:=h.hd;obtain⟨v,rfl,b⟩:=h.one;exact⟨_,_,rfl,a,b⟩
def Vals.eraseIdx:∀{xs:List V} {us:List Fk} i,Vals xs us->Vals (xs.eraseIdx i) (us.eraseIdx i)
 | _,_,_,.nil =>.nil
 | _,_,0,.cons _ t=>t
 | _,_,i+1,.cons r t =>.cons r (Vals.eraseIdx i t)
def Vals.rep (h:Vals xs us):∀k,Vals (Jp k xs).flatten (Jp k us).flatten
 | 0 =>.nil
 | k+1=>by
  exact Vals.append h (Vals.rep h k)
def rC {α:Type}:∀(l:List α) i,(l.eraseIdx i).length<=l.length
 | [],_=>Je _
 | _::_,0=>Yu _
 | _::r,i+1=>We (rC r i)
def foldl_rep (aF:List Fk):∀k acc,
  List.foldl (fun x1 x2=>x1++x2) acc.toArray (Jp k aF.toArray)=(acc++(Jp k aF).flatten).toArray
 | 0,acc=>by simp
 | k+1,acc=>by
  have e:acc.toArray++aF.toArray=(acc++aF).toArray:=by simp
  have e2:(acc++aF)++(Jp k aF).flatten=acc++(Jp (k+1) aF).flatten:=by
   rw[QcL,List.flatten_cons,Y4]
  rw[<-e2,<-foldl_rep aF k (acc++aF),<-e,QcL,List.foldl_cons]
section
variable {X:Cx}{pins:List (Gc×Obj)}{σ:St}{H:Hp}{s:Wp}{l b:Gc}{xs ys zs:List V}
def Inv.KJ {aF its':List Fk}{n:Nat}{f:Array Fk->Array Fk}{t':Nat}(I:Inv X pins σ H s)(hH:H l=some (.lst xs))
  (e:s.heap.get? l=some { cls := .type "list",data := .seq aF.toArray n }) (hf:f aF.toArray=its'.toArray) (hv:Vals ys its') (hz:ys.length<=KE) :
  Inv X pins σ (upd H l (.lst ys)) { s with heap:=s.heap.update l (ZF f),toks:=t' }:=by
 have q:=PySem.IsL.update e f;rw[hf] at q;refine I.write (by rw[hH];exact trivial) (.inl rfl) (fun b' u hb hu=>(J3 s.heap (ZF f) (Zx hb)).trans hu) ⟨_,q⟩ ?_;exact⟨hz,its',_,hv,q⟩
def Inv.O5 (I:Inv X pins σ H s)(hv:Vals ys aF)(hz:ys.length<=KE):
  Inv X pins σ (upd H s.heap.objs.size (.lst ys)) { s with heap:=s.heap.push { cls := .type "list",data := .seq aF.toArray },toks:=t' }:=
 I.laid (fun _ _ q=>Jb _ q) (Je _) ⟨hz,aF,0,hv,Jh _ rfl⟩
def Inv.fresh (I:Inv X pins σ H s):H s.heap.objs.size=none:=I.bq.fresh (Je _)
def Inv.tS (I:Inv X pins σ H s)(hH:H l=some (.lst xs)):xs.length<=KE/\∃aF n,Vals xs aF/\xs.length=aF.length/\s.heap.get? l=some { cls := .type "list",data := .seq aF.toArray n }:=by
 obtain⟨z,aF,n,r,e⟩:=I.bq l _ hH;exact⟨z,aF,n,r,r.length,e⟩
def Fm (h:n<=KE):Qc9 n=false:=
 decide_eq_false ⋯
end
section
variable {X:Cx}
def Gh:V->List V->Hp->VK->Prop:=fun x vs H Q=>oG fun l xs y=>x = .ref l/\vs=[y]/\H l=some (.lst xs)/\xs.length<KE/\Q .non (upd H l (.lst (xs++[y])))
def Bb:HD X "list.append" Gh:=by
 intro pins s σ H x vs v us Q I rx rv h;obtain⟨l,xs,y,rfl,rfl,hH,hz,q⟩:=h;cases rx;obtain⟨u,rfl,ru⟩:=rv.one;obtain⟨z,aF,n,r,hl,e⟩:=I.tS hH;refine QaH F.slot_list_append ⟨_,e,rfl⟩ F.entry_list_append (F.args_list_append_2 _ _) (PySem.list_append l aF.toArray n u (by rw[Jv];lia)) ⟨e,⟨.non,_,I.KJ hH e (by simp) (r.append (.cons ru .nil)) ?_,rfl,q⟩⟩;rw[Jt,Qcr];lia
def LF:V->List V->Hp->VK->Prop:=fun x vs H Q=>vY fun l xs i k y=>x = .ref l/\vs=[.int i]/\H l=some (.lst xs) /\ -(2^63)<=i/\i<2^63/\seqIndex? i xs.length=some k/\xs[k]? = some y/\Q y (upd H l (.lst (xs.eraseIdx k)))
def FH:HD X "list.pop" LF:=by
 intro pins s σ H x vs v us Q I rx rv h;obtain⟨l,xs,i,k,y,rfl,rfl,hH,h1,h2,hk,hy,q⟩:=h;cases rx;obtain⟨u,rfl,ru⟩:=rv.one;obtain⟨t,rfl⟩:=ru;obtain⟨z,aF,n,r,hl,e⟩:=I.tS hH;obtain⟨w,hw,rw'⟩:=r.get hy;refine QaH F.slot_list_pop ⟨_,e,rfl⟩ F.entry_list_pop (F.args_list_pop_2 _ _)
  (MeetsSeq.list_pop_at l aF.toArray n i t k w (fitsIndex_both h1 h2) (by rw[Jv,<-hl];exact hk) (by rw[<-Uz];exact hw) (by rw[Jv];lia)) ⟨e,?_⟩
 refine⟨y,_,I.KJ hH e ?_ (r.eraseIdx k) ?_,rw',q⟩
 ·show aF.toArray.eraseIdxIfInBounds k=(aF.eraseIdx k).toArray;rw[List.eraseIdxIfInBounds_toArray]
 ·have:=rC xs k;lia
def PK:R2:=fun x y H Q=>lW fun l b xs zs=>x = .ref l/\y = .ref b/\H l=some (.lst xs)/\H b=some (.lst zs)/\xs.length+zs.length<=KE/\∀p,H p=none->Q (.ref p) (upd H p (.lst (xs++zs)))
def Lp:eW X (Z6 .Add) PK:=by
 intro pins s σ H x y v u Q I rx ry h;obtain⟨l,b,xs,zs,rfl,rfl,hH,hB,hz,q⟩:=h;cases rx;cases ry;obtain⟨z,aF,n,r,hl,e⟩:=I.tS hH;obtain⟨z2,its2,n2,r2,CQ,e2⟩:=I.tS hB;refine PySem.P.add_list e e2 ?_ (by rw[Jv,Jv];lia);have ea:aF.toArray++its2.toArray=(aF++its2).toArray:=by simp
 rw[ea];exact⟨.ref _,_,I.O5 (r.append r2) (by rw[Jt];lia),rfl,q _ I.fresh⟩
def OM:R2:=fun x y H Q=>oG fun l k xs=>x = .ref l/\y = .int k/\H l=some (.lst xs) /\ -(2^63)<=k/\k<2^63/\xs.length*k.toNat<=KE /\
 ∀p,H p=none->Q (.ref p) (upd H p (.lst (Jp k.toNat xs).flatten))
def Hk {α:Type}(xs:List α)(k:Nat):(Jp k xs).flatten.length=k*xs.length:=by simp
def K3:eW X (Z6 .Mult) OM:=by
 intro pins s σ H x y v u Q I rx ry h;obtain⟨l,k,xs,rfl,rfl,hH,h1,h2,hz,q⟩:=h;cases rx;obtain⟨t,rfl⟩:=ry;obtain⟨z,aF,n,r,hl,e⟩:=I.tS hH;have hlen:aF.toArray.size*k.toNat<=KE:=by rw[Jv,<-hl];exact hz
 have QZ:¬aF.toArray.size*k.toNat>(2^63-1) / 8:=by
  have:(KE:Nat)<=(2^63-1) / 8:=∅;lia
 have R8:¬(!Builtin.List.listFitsIndex k)=true:=by
  rw[fitsIndex_both h1 h2];exact Jr
 have Oi:¬Qc9 (aF.toArray.size*k.toNat)=true:=by
  rw[Fm hlen];exact Jr
 have Sq:List.foldl (fun x1 x2=>x1++x2) #[] (Jp (if aF.toArray.isEmpty=true then 0 else k.toNat) aF.toArray)=(Jp k.toNat aF).flatten.toArray:=by
  have f0:∀m,List.foldl (fun x1 x2=>x1++x2) #[] (Jp m aF.toArray)=(Jp m aF).flatten.toArray:=fun m=>by
   have:=foldl_rep aF m [];exact this
  rw[f0];cases aF with
  | nil=>simp
  | cons a r'=>rw[if_neg (by simp)]
 refine wpAny_binaryOp_repeat_ref rfl ⟨_,e,rfl⟩ (fun s'=>typeIs_int s' k t) noFill_list_mul F.fills_int_mul F.slot_int_rmul repeat_list F.slot_int_index.lookup
  (QaH F.slot_int_rmul (typeIs_int s k t) F.entry_int_rmul (F.args_int_rmul_2 _ _) (int___rmul___int_list k t l aF.toArray n)
   ⟨e,rfl,⟨_,e,rfl⟩,QaH F.slot_list_mul ⟨_,e,rfl⟩ F.entry_list_mul (F.args_list_mul_2 _ _) (AutoListH.list___mul___list_int_3 l aF.toArray n k t R8 QZ Oi) ⟨e,?_⟩⟩)
 rw[Sq];exact⟨.ref _,_,I.O5 (r.rep k.toNat) (by rw[Hk,Qe1];exact hz),rfl,q _ I.fresh⟩
end
section
variable {prog:YZ}{w:Zb}{A:Zs}{E:Fk->Wp->Prop}{s:Wp}
set_option maxRecDepth 100000 in
end
end L2
namespace Att
open PySem PySem.W PySem.Calls PyProof.Rows
def oh:∀ns vs,WellAll P h vs (ns.map WData.int)->Qc8 vs ns:=by
 intro ns
 induction ns with
 | nil=>
  intro vs w;cases w;exact .nil
 | cons n ns ih=>
  intro vs w;cases w with
  | cons a b=>
   cases a;exact .cons _ _ (ih _ b)
def AZ {l:OpenLaw}{n:Nat}(hn:l.most=some n){P:Params}{h:Heap}{args:List WData}{vals:List Fk}
  (sV:l.row.toRowW.claim.pre args=true) (Ru:WellAll P h vals args) :
  ∃a vs ns,vals=[Zh a]/\args=[WData.list (ns.map WData.int)]/\h.get? a=some { cls := .type "list",data := .seq vs.toArray } /\ Qc8 vs ns/\ns.length<=n:=by
 obtain⟨d,r,rfl,h1,h2⟩:=hasAllW_cons ((pre_splitW sV).1);obtain rfl:=hasAllW_nil h2;obtain⟨xs,rfl,h3⟩:=hasW_list h1;obtain⟨ns,rfl⟩:=items_int h3;have hlen:ns.length<=n:=by
  have h4:(WTm.not (.lt (.lit (.int (n:Int))) (.len (.arg 0)))).holds [] { args:=[.list (ns.map .int)] } = true:=by
   have h4:=(holds_andW ((pre_splitW sV).2)).1;rw[hn] at h4;exact h4
  have h5:=condW_of h4 (w_not (w_lt w_lit (w_len_list (w_arg rfl))));refine Nat.le_of_not_lt fun q =>?_
  first
   | (rw[decide_eq_true q'] at h5;exact absurd h5 rfl)
   | (simp at h5;lia)
 cases Ru with
 | cons w1 w2=>
  cases w2;cases w1 with
  | list ho jH=>exact⟨_,_,ns,rfl,rfl,ho,oh ns _ jH,hlen⟩
def Be (l:OpenLaw)(args:List WData):l.row.toRowW.claim.post args (.bool true) args=true:=
 postW_of
  (show WShape.has [] (.bool true) .bool=true by first|rfl|decide|simp[ WShape.armsAll])
  (show(WTm.eq .res (.lit (.bool true))).value [] { args:=args,res:=some (.bool true),after:=args } = some (.bool (true==true)) from w_eq_bool (w_res rfl) w_lit) rfl
def uU {l:OpenLaw}{n:Nat}{q:YZ}{loose:List Str}{XP:(Str->Option Fk)->Heap->Prop}{YP:Zb->Heap->Prop}{d:DefRec}
  (hn:l.most=some n) (NR:d.params.defaults=[])
  (call:∀w s₀ s₁ mg mb fa o pm cd doc a vs ns,
   Ground q loose [] XP w s₀ mg mb s₁.heap->YP w s₁.heap ->
   s₁.heap.get? fa=some o->o.data = .func (docDef d.name d.params d.body d.scope pm cd doc)->s₁.heap.CodeRec cd d.name->mg d.name=some (.ref fa) ->
   s₁.heap.get? a=some { cls := .type "list",data := .seq vs.toArray } -> Qc8 vs ns->ns.length<=n->s₁.gens = #[] ->
   ZW (YW l.prog w) QeD (.call (.ref fa) ⟨[.ref a],[]⟩) (fun r s'=>r = .ok (.ret (.bool true))/\OldK s₁.heap s'.heap/\s'.os=s₁.os/\Qch s'.gens) s₁) :
  WalkO q loose XP YP l.row.toRowW d [] (fun f vs=>QdJ f vs):=by
 intro w s₀ s₁ mg mb G Y fa o pm cd doc dV kV ho hd yn hD hmg hg args vals as sV hlay hrd Ru Gu;obtain rfl:dV = .none:=Dflts.none hD NR;obtain rfl:kV = .none:=Dflts.noKw hD;obtain⟨a,vs,ns,rfl,rfl,hobj,hints,hlen⟩:=AZ hn sV Ru;refine enter_call (Qbm (call w s₀ s₁ mg mb fa o pm cd doc a vs ns G Y ho (fd_plain hd) yn hmg hobj hints hlen hg) fun r s' hq =>?_);obtain⟨rfl,h2,h3,h4⟩:=hq;exact⟨.inl ⟨.bool true,.bool true,[],rfl,fun _=>rfl,.bool true,Be l _,fun _=>⟨Qd4,fun _ hm=>(nomatch hm)⟩⟩,h2,h3,h4⟩
end Att
namespace L2
open PySem PySem.Spec PyProof.Rows
def B6 (h:Qc8 vs ns):Vals (ns.map V.int) vs:=by
 induction h with
 | nil=>exact .nil
 | cons n t h ih=>exact .cons ⟨t,rfl⟩ ih
def Kt (H:Hp):Prop:=∀b,H b=none\/fG fun o xs=>H b=some (.frz o (.lst xs))
def Eb {K:Ja}{mg mb:Str->Option Fk}{CX:F4}{k:Nat}{fa a:Gc}{fd:Zc}{x:Str}{sp:Sp}{s₁:Wp}{vs:List Fk}{ns:List Int}
  (KX:K.In s₁.heap) (BZ:s₁.heap.Ns ZE mg) (hb:s₁.heap.Ns builtinsNs mb) (XI:∀x:Str,x ≠ "__name__" -> mb x=ZO x) (Rn:s₁.heap.NoLimit) (hg:s₁.gens = #[])
  (ha:s₁.heap.get? a=some { cls := .type "list",data := .seq vs.toArray }) (hi:Qc8 vs ns) (hl:ns.length<=KE) (hr:dw k QeD)
  (F:∀base,K.In base->base.Ns ZE mg->aW P w K mg base CX k fa fd [x] sp) (Nl:∀(s:Wp) (u:Fk),QeL s fd ⟨[u],[]⟩ [(x,u)])
  (vz:∀H,Kt H->bg K H a (ns.map V.int)->sp [.ref a] H (fun v _=>v = .bl true) fun _ _ _=>False)
  (Sb:∀H e s',CX [] H s₁ (fun _ _ _=>False) e s'->False) :
  ZW (YW P w) QeD (.call (.ref fa) ⟨[.ref a],[]⟩) (fun r s'=>r = .ok (.ret (.bool true))/\OldK s₁.heap s'.heap/\s'.os=s₁.os/\Qch s'.gens) s₁:=by
 have rv:=B6 hi;have core:∀H,Kt H->bg K H a (ns.map V.int)->jr P w H s₁.heap->(∀b,H b≠none->b=a)->(H a≠none->K.lookup a=none) ->
   ZW (YW P w) QeD (.call (.ref fa) ⟨[.ref a],[]⟩) (fun r s'=>r = .ok (.ret (.bool true))/\OldK s₁.heap s'.heap/\s'.os=s₁.os/\Qch s'.gens) s₁:=by
  intro H hO hS bq hA hK;have zE:∀{b:Gc} {o:Obj},s₁.heap.get? b=some o->H b=none->(Cy s₁.heap H).get? b=some o:=fun e n=>ED e n;have Oy:∀{b:Gc} {o:Obj} {es:Array Qcz} {ep:Nat},s₁.heap.get? b=some o->o.data = .dict es ep->H b=none:=fun{b o es ep} e d=>by
   cases q:H b with
   | none=>rfl
   | some u=>
    have e':=hA b (by rw[q];simp);subst e';rw[ha] at e;cases e;cases d
  have QB:∀{b:Gc} {m:Str->Option Fk},s₁.heap.Ns b m->(Cy s₁.heap H).Ns b m:=fun{b m} ⟨o,es,ep,e,d,r⟩=>⟨o,es,ep,zE e (Oy e d),d,r⟩
  have UW:=fun b o e=>zE (KX b o e) (by
   cases q:H b with
   | none=>rfl
   | some u=>
    have e':=hA b (by rw[q];simp);subst e';rw[hK (by rw[q];simp)] at e;cases e)
  refine Qbm ((F _ UW (QB BZ)).run QeD [] s₁ H ⟨[.ref a],[]⟩ [.ref a] [.ref a] _ _ hr (⟨rfl,(⟨UW,QB BZ,⟨mb,QB hb,XI⟩,let ⟨mc,h1,h2⟩:=Rn; ⟨mc,QB h1,h2⟩⟩),fun b o e=>GV e,QbB (Bu _ _),trivial,fun b hb=>absurd (show b∈([]:List Gc) from hb) (by simp),bq,.of_eq hg⟩) (Nl s₁ (.ref a)) (.cons rfl .nil) (vz H hO hS)) fun r s' h =>?_;cases r with
  | error e=>exact(Sb H e s' h).elim
  | ok fl=>
   cases fl with
   | next=>exact ZS h
   | brk=>exact ZS h
   | cont=>exact ZS h
   | ret u=>
    obtain⟨v,H',os,bare,un,hok',r',q⟩:=h;subst q;obtain rfl:u=Qat true:=r';refine⟨rfl,OldK.of_keep fun b o e =>?_,os,bare⟩;cases q:H b with
    | none=>exact un.keep b o e q (by intro z;exact absurd (show b∈([]:List Gc) from z) (by simp)) (by simp)
    | some u=>
     rcases hO b with z|⟨ob,xs,z⟩
     ·rw[q] at z;cases z
     ·have z2:=un.jw b ob _ z;obtain⟨e1,_⟩:=bq b _ z;obtain⟨e2,_⟩:=hok' b _ z2;rw[e] at e1;cases e1;exact e2
 cases hk:K.lookup a with
 | some o=>
  have e:=KX a o hk;rw[ha] at e;cases e;refine core (fun _=>none) (fun _ =>.inl rfl) (.inr ⟨_,vs.toArray,_,hk,rfl,rfl,rfl,by rw[Jv,hi.length];exact hl,by simpa using rv⟩) (fun b u z=>by have z':=z;cases z') (fun b z=>absurd rfl z) fun z=>absurd rfl z
 | none=>
  refine core (fun b=>if b=a then some (.frz { cls := .type "list",data := .seq vs.toArray } (.lst (ns.map V.int))) else none) (fun b =>?_) (.inl (.inr ⟨{ cls := .type "list",data := .seq vs.toArray },if_pos rfl⟩)) (fun b u z =>?_) (fun b z =>?_) fun _=>hk
  ·by_cases hb:b=a
   ·exact .inr ⟨_,_,if_pos hb⟩
   ·exact .inl (if_neg hb)
  ·by_cases hb:b=a
   ·have z':=(if_pos hb).symm.trans z;cases z';subst hb;exact⟨ha,by rw[Jd];exact hl,vs,_,rv,ha⟩
   ·have z':=(if_neg hb).symm.trans z;cases z'
  ·by_cases hb:b=a
   ·exact hb
   ·exact absurd (if_neg hb) z
def Hc {l:Qdb}{n k:Nat}{q:YZ}{loose:List Str}{XP:(Str->Option Fk)->Heap->Prop}{YP:Zb->Heap->Prop}{d:DefRec}{K:Params->Ja}{CX:Zb->F4}{sp:Zb->Sp}{x:Str}
  (hn:l.most=some n) (xJ:n<=KE) (NR:d.params.defaults=[]) (hr:dw k QeD)
  (hY:∀(w:Zb) (h:Heap),YP w h->(K w.params).In h)
  (F:∀w mg fa h,(K w.params).In h->h.Ns ZE mg->mg d.name=some (.ref fa) ->
   ∃fd,(∀s u,QeL s fd ⟨[u],[]⟩ [(x,u)]) /\
    ∀base,(K w.params).In base->base.Ns ZE mg->aW l.prog w (K w.params) mg base (CX w) k fa fd [x] (sp w))
  (vz:∀(w:Zb) (H:Hp) (a:Gc) (ns:List Int),ns.length<=n->Kt H->bg (K w.params) H a (ns.map V.int)->sp w [.ref a] H (fun v _=>v = .bl true) fun _ _ _=>False)
  (Sb:∀(w:Zb) (H:Hp) (s:Wp) (e:Fk) (s':Wp),CX w [] H s (fun _ _ _=>False) e s'->False) :
  PySem.W.WalkO q loose XP YP l.row.toRowW d [] (fun f vs=>QdJ f vs):=by
 refine Att.uU hn NR fun w s₀ s₁ mg mb fa o pm cd doc a vs ns G Y ho hd yn hmg hobj hints hlen hg =>?_;have KX:=hY w _ Y;obtain⟨fd,hb,hF⟩:=F w mg fa _ KX G.T.g hmg;exact Eb KX G.T.g G.T.b G.T.builtins G.T.nolimit hg hobj hints (Jg hlen xJ) hr hF hb (fun H hO hS=>vz w H a ns hlen hO hS) fun H e s'=>Sb w H s₁ e s'
def inClass (s:QbR)(j:Nat):QbR:=match s with
 | .ClassDef _ _ _ body _ _ _ _ _ _ _=>body.getD j (.Pass ⟨0,0,0,0⟩)
 | _ =>.Pass ⟨0,0,0,0⟩
def cn (s:QbR):Arguments:=match s with
 | .FunctionDef _ a _ _ _ _ _ _ _ _=>a
 | _=>{ posonlyargs:=[],args:=[],vararg:=none,kwonlyargs:=[],kw_defaults:=[],kwarg:=none,defaults:=[] }
def bN (s:QbR):List QbR:=match s with
 | .FunctionDef _ _ b _ _ _ _ _ _ _=>b
 | _=>[]
def ai (s:QbR):QaT:=match s with
 | .FunctionDef _ _ _ _ _ _ sc _ _ _=>sc
 | _=>{ kind := .function,names:=[],isGenerator:=false,isCoroutine:=false }
abbrev dI:F4:=fun _ _ _ _ _ _=>False
abbrev E0:XK:=fun _ _ _=>False
def rL:Passes dI X E0:=fun _ _ _ _ _ _ _ h=>h.elim
structure dM (K:Ja)(x qual:Str)(st:QbR)(f:Gc)(fd:Zc):Prop where
 ex:∃(oc:Fk) (od:Option Gc) (kV doc pm:Fk) (an:Option Gc) (bS ct:Fk) (wO:Array (Option Fk)),
  fd=Wf x qual (cn st) (bN st) (ai st) .none kV doc pm an bS ct/\K.lookup f=some ⟨oc,od,.func fd,wO⟩/\Qcn K bS qual=true
 kp:Yc K (.ref f)=true
section
variable {P:YZ}{w:Zb}{K:Ja}{mg:Str->Option Fk}{base:Heap}
def dM.ok {st:QbR}{f:Gc}{fd:Zc}{N ps:List Str}{k:Nat}{sp:Sp}(F:dM K x qual st f fd)(S:aG N ps (ai st))(len:∀vs H Q E,sp vs H Q E->vs.length=ps.length)
  (vU:∀bS A outer s H vs Q E,dw k (A.deeper (Qa6 qual (ai st) s.heap.objs.size f bS))->sp vs H Q E ->
   ∃t,xb (oo dI P w K mg base N qual (ai st) f bS A outer s H E).Qc (bN st) t/\t { nx:=fun _ H'=>Q .non H',rt:=Q } (start N vs) H):aW P w K mg base dI (k+1) f fd ps sp:=by
 obtain⟨oc,od,kV,doc,pm,an,bS,ct,wO,rfl,lk,yn⟩:=F.ex;refine IB lk yn S len fun A outer s H vs Q E hr vz =>?_;obtain⟨t,h,q⟩:=vU bS A outer s H vs Q E hr vz;exact⟨t,h.Qc,q⟩
def dM.binds {st:QbR}{f:Gc}{fd:Zc}{ps:List Str}(F:dM K x qual st f fd)
  (h:∀kV doc pm an bS ct us,us.length=ps.length->QeS (Wf x qual (cn st) (bN st) (ai st) .none kV doc pm an bS ct) ⟨us,[]⟩=pure (ps.zip us)):Binds K fd ps []:=by
 obtain⟨oc,od,kV,doc,pm,an,bS,ct,wO,rfl,lk,yn⟩:=F.ex;exact .all (h kV doc pm an bS ct)
def tW {st:QbR}{f:Gc}{oc:Fk}{od an:Option Gc}{wO:Array (Option Fk)}{kV doc pm bS ct:Fk}(l:K.lookup f=some ⟨oc,od,.func (Wf x qual (cn st) (bN st) (ai st) .none kV doc pm an bS ct),wO⟩)
  (c:Qcn K bS qual=true) (k:Yc K (.ref f)=true):dM K x qual st f (Wf x qual (cn st) (bN st) (ai st) .none kV doc pm an bS ct):=⟨⟨oc,od,kV,doc,pm,an,bS,ct,wO,rfl,l,c⟩,k⟩
end
def jF {k:Nat}(hr:dw k A):A.units+1<QbN:=J7 (Nat.add_le_add_left (by decide:1<=64) _) hr.units
section
variable {X:Cx}
def pv (i:Nat){x:Str}{pos:Pos}(hN:X.N[i]? = some x:=by rfl)(hv:Ow X.env.scope x:=by first|exact YY rfl|exact Or.inr (YY rfl)|exact Or.inr (Or.inr rfl))(hd:(x==("__debug__" : Str))=false:=by decide)
  (yn:(x==("__classdict__" : Str))=false:=by decide):PE X (.Name x pos) (GP i):=Km hN hv hd yn
end
def bj {A B:Prop}(h:B):if false=true then A else B:=by grind
def bA {A B:Prop}(h:A):if true=true then A else B:=
 h
def fq {c A B:Prop}[Decidable c](h1:c->A)(h2:¬c->B):if c then A else B:=by grind
def ar (H H':Hp):Prop:=∀b o,H b=some o->H' b=some o
def ar.refl (H:Hp):ar H H:=fun _ _ h=>h
def ar.trans (a:ar H H1)(b:ar H1 H2):ar H H2:=fun c o h=>b c o (a c o h)
def ar.free (e:ar H H'){l:Gc}(h:H' l=Option.none):H l=Option.none:=by
 cases q:H l with
 | none=>rfl
 | some o=>
  rw[e l o q] at h;cases h
def ar.seq {K:Ja}{H H':Hp}{a:Gc}{xs:List V}(e:ar H H')(h:bg K H a xs):bg K H' a xs:=by
 rcases h with (h|⟨o,h⟩)|h
 ·exact .inl (.inl (e _ _ h))
 ·exact .inl (.inr ⟨o,e _ _ h⟩)
 ·exact .inr h
end L2
namespace Z
open PySem L2
def top (i:Nat):QbR:=PySem.Challenge.pw_oddlong_k31_bare_rows_read.main.body.getD i (.Pass ⟨0,0,0,0⟩)
abbrev Ko:Nat:=1
abbrev MS:Nat:=2
abbrev MT:Nat:=3
abbrev PL:Nat:=4
abbrev mF:Nat:=5
abbrev pf:Nat:=6
abbrev P9:Nat:=7
abbrev MK:Nat:=8
abbrev OE:Nat:=9
abbrev mT:Nat:=18
abbrev mD:Nat:=19
abbrev mR:Nat:=20
abbrev qD:Nat:=21
abbrev jJ:Nat:=22
abbrev nC:Nat:=23
abbrev jG:Nat:=24
abbrev ka:Nat:=26
abbrev mO:Nat:=27
abbrev mW:Nat:=30
abbrev cL:Nat:=31
abbrev jX:Nat:=32
abbrev gM:Nat:=33
abbrev kc:Nat:=34
abbrev fQ:Nat:=35
abbrev mL:Nat:=37
abbrev k6:Nat:=38
abbrev xZ:Nat:=39
abbrev ue:Nat:=40
abbrev zd:Nat:=45
abbrev hU:Nat:=46
abbrev eR:Nat:=47
abbrev fj:Nat:=48
abbrev j8:Nat:=50
abbrev ly:Nat:=51
abbrev lB:Nat:=52
abbrev jI:Nat:=53
abbrev jL:Nat:=54
abbrev jP:Nat:=55
abbrev jS:Nat:=56
abbrev jV:Nat:=57
abbrev kU:Nat:=58
abbrev ie:Nat:=59
abbrev j9:Nat:=60
abbrev gR:Nat:=61
abbrev mP:Nat:=62
abbrev fW:Nat:=63
abbrev jU:Nat:=64
abbrev gU:Nat:=65
abbrev fO:Nat:=66
abbrev eM:Nat:=67
abbrev gA:Nat:=68
abbrev ib:Nat:=69
abbrev iz:Nat:=70
abbrev oS:Nat:=71
abbrev kZ:Nat:=72
abbrev kI:Nat:=73
abbrev iH:Nat:=74
end Z
set_option maxHeartbeats 0
namespace Z
open PySem PySem.W PySem.Calls PyProof.Rows L2
def Pp (s:QbR):Pos:=match s with
 | .FunctionDef _ _ _ _ _ _ _ _ _ p=>p
 | _=>default
@[reducible] noncomputable def hs (s:String) (t:Nat):Fk := .str (.ofString s) t
@[reducible] noncomputable def hy (P:Params) (s:String) (t:Nat) (v:Fk):Qcz:=⟨PyData.keyHash P (.ofString s),.str (.ofString s) t,v⟩
@[reducible] noncomputable def ht (xs:Array Fk):Obj:=⟨.type "tuple",none,.seq xs 0,#[]⟩
@[reducible] noncomputable def hf (n q:String) (s:QbR) (m:Fk) (c:Gc):Obj:=⟨.type "function",none,.func (fnOf (.ofString n) (.ofString q) (cn s) (bN s) (ai s) .none .none .none m none (.ref c) .none),#[]⟩
@[reducible] noncomputable def hc (n:String) (t1:Nat) (q:String) (t2 t3:Nat) (i1 i2 i3:Int) (r1:Gc) (b:Bool) (i4:Int) (r2 r3 r4 r5:Gc) (i5 i6:Int) (t4:Nat):Obj:=⟨.type "code",none,.fields #[.str (.ofString n) t1,.str (.ofString q) t2,.str (.ofString "/claim/cut.py") t3,.int i1 0,.int i2 0,.int 0 0,.int 0 0,.int i3 0,.ref r1,.bool b,.int i4 0,.ref r2,.none,.ref r3,.ref r4,.ref r5,.int i5 0,.int i6 0,.str (.ofString "/claim/cut.py") t4],#[]⟩
def RP:Params->Frag:=fun P=>
 (nat_lit 3,⟨(.type "dict"),none,(.dict #[hy P "__name__" 165 (hs "law_oddlong_k31_bare_rows_read" 759),hy P "__doc__" 166 .none,hy P "__package__" 167 .none,hy P "__loader__" 168 (.builtin "__main__.__loader__#opaque"),hy P "__spec__" 169 .none,hy P "__annotations__" 170 (.ref 6),hy P "__builtins__" 171 (.ref 4),hy P "__file__" 173 (hs "/claim/cut.py" 172),hy P "__cached__" 174 .none,hy P "OddError" 206 (.ref 24),hy P "TooFull" 222 (.ref 37),hy P "NoPlace" 238 (.ref 49),hy P "NoName" 263 (.ref 68),hy P "BadText" 288 (.ref 87),hy P "NoForm" 313 (.ref 106),hy P "TooFar" 338 (.ref 125),hy P "NoTarget" 363 (.ref 144),hy P "BadRow" 388 (.ref 163),hy P "SIGNS" 392 (hs "01" 391),hy P "SMALL_LETTERS" 394 (hs "abcdefghijklmnopqrstuvwxyz" 393),hy P "LONGEST_NAME" 396 (.int 8 395),hy P "SPOT_NAMES" 401 (.ref 166),hy P "SIZE_NAMES" 411 (.ref 167),hy P "JUMPS" 414 (.ref 168),hy P "PARTS" 452 (.ref 169),hy P "made_of" 460 (.ref 187),hy P "is_name" 467 (.ref 194),hy P "is_code" 474 (.ref 201),hy P "two_to" 483 (.ref 208),hy P "number_of" 492 (.ref 215),hy P "rest_of" 500 (.ref 222),hy P "is_number" 507 (.ref 229),hy P "lookup_of" 515 (.ref 234),hy P "code_at" 527 (.ref 241),hy P "SKIP_FIGURES" 531 (.int 3 530),hy P "bare_at" 542 (.ref 248),hy P "Reader" 611 (.ref 286),hy P "name_from" 623 (.ref 297),hy P "figures_from" 634 (.ref 304),hy P "many_from" 644 (.ref 311),hy P "distance_from" 655 (.ref 318),hy P "is_book" 663 (.ref 323),hy P "is_entry" 670 (.ref 330),hy P "free" 677 (.ref 337),hy P "clash" 689 (.ref 344),hy P "LEAST_NEAR" 693 (.int 2 692),hy P "MOST_NEAR" 695 (.int 8 694),hy P "MOST_FAR" 697 (.int 16 696),hy P "Form" 735 (.ref 361),hy P "first_wrong" 746 (.ref 372),hy P "is_free_book_of" 752 (.ref 377),hy P "far_is_shorter" 758 (.ref 382),hy P "_law_begin" 768 (.ref 389),hy P "_law_take" 782 (.ref 396),hy P "_law_same" 788 (.ref 401),hy P "_law_mixed" 798 (.ref 408),hy P "_law_codes" 804 (.ref 413),hy P "_law_kinds" 810 (.ref 420),hy P "_law_sizes" 816 (.ref 427),hy P "_law_parts" 831 (.ref 434),hy P "_law_form" 838 (.ref 441),hy P "_law_figures" 848 (.ref 448),hy P "_law_power" 857 (.ref 455),hy P "_law_far_word" 864 (.ref 462),hy P "_law_put" 870 (.ref 467),hy P "_law_some_bare" 885 (.ref 474),hy P "_law_class" 894 (.ref 481),hy P "_law_names_at" 900 (.ref 486),hy P "_law_number_by" 909 (.ref 493),hy P "_law_far_figures" 921 (.ref 500),hy P "_law_spots_at" 934 (.ref 507),hy P "_law_size_at" 946 (.ref 514),hy P "_law_skip_at" 956 (.ref 521),hy P "_law_at" 971 (.ref 528),hy P "_law_text" 977 (.ref 533),hy P "_law_told" 989 (.ref 540),hy P "law" 1003 (.ref 547)] 77),#[]⟩) ::
 (nat_lit 23,⟨(.type "dict"),none,(.dict #[hy P "__module__" 196 (hs "oddlong.errors" 187),hy P "__firstlineno__" 200 (.int 2 199),hy P "__static_attributes__" 201 (.ref 22),hy P "__weakref__" 203 (.ref 25),hy P "__doc__" 204 .none] 3),#[]⟩) ::
 (nat_lit 24,⟨(.type "type"),none,(.cls ⟨(.ofString "OddError"),[(.type "ValueError")],[(.ref 24),(.type "ValueError"),(.type "Exception"),(.type "BaseException"),(.type "object")],23,(.ofString "OddError"),true,[],[(.ref 37),(.ref 49),(.ref 68),(.ref 87),(.ref 106),(.ref 125),(.ref 144),(.ref 163)],false,none,false⟩),#[(some (.ref 15)),none,(some (hs "OddError" 189)),(some (hs "OddError" 197)),(some (.builtin "ValueError.__new__")),(some (.bool true))]⟩) ::
 (nat_lit 37,⟨(.type "type"),none,(.cls ⟨(.ofString "TooFull"),[(.ref 24)],[(.ref 37),(.ref 24),(.type "ValueError"),(.type "Exception"),(.type "BaseException"),(.type "object")],36,(.ofString "TooFull"),true,[],[],false,none,false⟩),#[(some (.ref 28)),none,(some (hs "TooFull" 207)),(some (hs "TooFull" 215)),(some (.builtin "ValueError.__new__")),(some (.bool true))]⟩) ::
 (nat_lit 49,⟨(.type "type"),none,(.cls ⟨(.ofString "NoPlace"),[(.ref 24)],[(.ref 49),(.ref 24),(.type "ValueError"),(.type "Exception"),(.type "BaseException"),(.type "object")],48,(.ofString "NoPlace"),true,[],[],false,none,false⟩),#[(some (.ref 40)),none,(some (hs "NoPlace" 223)),(some (hs "NoPlace" 231)),(some (.builtin "ValueError.__new__")),(some (.bool true))]⟩) ::
 (nat_lit 68,⟨(.type "type"),none,(.cls ⟨(.ofString "NoName"),[(.ref 24)],[(.ref 68),(.ref 24),(.type "ValueError"),(.type "Exception"),(.type "BaseException"),(.type "object")],67,(.ofString "NoName"),true,[],[],false,none,false⟩),#[(some (.ref 52)),none,(some (hs "NoName" 239)),(some (hs "NoName" 247)),(some (.builtin "ValueError.__new__")),(some (.bool true))]⟩) ::
 (nat_lit 83,hc "__init__" 276 "BadText.__init__" 277 278 14 2 3 78 true 181 79 80 81 82 281 14 282) ::
 (nat_lit 84,hf "__init__" "BadText.__init__" (inClass (top 5) 0) (hs "oddlong.errors" 187) 83) ::
 (nat_lit 86,⟨(.type "dict"),none,(.dict #[hy P "__module__" 271 (hs "oddlong.errors" 187),hy P "__firstlineno__" 275 (.int 12 274),hy P "__init__" 283 (.ref 84),hy P "__static_attributes__" 285 (.ref 85),hy P "__doc__" 286 .none] 2),#[]⟩) ::
 (nat_lit 87,⟨(.type "type"),none,(.cls ⟨(.ofString "BadText"),[(.ref 24)],[(.ref 87),(.ref 24),(.type "ValueError"),(.type "Exception"),(.type "BaseException"),(.type "object")],86,(.ofString "BadText"),true,[],[],false,none,false⟩),#[(some (.ref 71)),none,(some (hs "BadText" 264)),(some (hs "BadText" 272)),(some (.builtin "ValueError.__new__")),(some (.bool true))]⟩) ::
 (nat_lit 102,hc "__init__" 301 "NoForm.__init__" 302 303 18 2 3 97 true 181 98 99 100 101 306 18 307) ::
 (nat_lit 103,hf "__init__" "NoForm.__init__" (inClass (top 6) 0) (hs "oddlong.errors" 187) 102) ::
 (nat_lit 105,⟨(.type "dict"),none,(.dict #[hy P "__module__" 296 (hs "oddlong.errors" 187),hy P "__firstlineno__" 300 (.int 16 299),hy P "__init__" 308 (.ref 103),hy P "__static_attributes__" 310 (.ref 104),hy P "__doc__" 311 .none] 2),#[]⟩) ::
 (nat_lit 106,⟨(.type "type"),none,(.cls ⟨(.ofString "NoForm"),[(.ref 24)],[(.ref 106),(.ref 24),(.type "ValueError"),(.type "Exception"),(.type "BaseException"),(.type "object")],105,(.ofString "NoForm"),true,[],[],false,none,false⟩),#[(some (.ref 90)),none,(some (hs "NoForm" 289)),(some (hs "NoForm" 297)),(some (.builtin "ValueError.__new__")),(some (.bool true))]⟩) ::
 (nat_lit 125,⟨(.type "type"),none,(.cls ⟨(.ofString "TooFar"),[(.ref 24)],[(.ref 125),(.ref 24),(.type "ValueError"),(.type "Exception"),(.type "BaseException"),(.type "object")],124,(.ofString "TooFar"),true,[],[],false,none,false⟩),#[(some (.ref 109)),none,(some (hs "TooFar" 314)),(some (hs "TooFar" 322)),(some (.builtin "ValueError.__new__")),(some (.bool true))]⟩) ::
 (nat_lit 144,⟨(.type "type"),none,(.cls ⟨(.ofString "NoTarget"),[(.ref 24)],[(.ref 144),(.ref 24),(.type "ValueError"),(.type "Exception"),(.type "BaseException"),(.type "object")],143,(.ofString "NoTarget"),true,[],[],false,none,false⟩),#[(some (.ref 128)),none,(some (hs "NoTarget" 339)),(some (hs "NoTarget" 347)),(some (.builtin "ValueError.__new__")),(some (.bool true))]⟩) ::
 (nat_lit 163,⟨(.type "type"),none,(.cls ⟨(.ofString "BadRow"),[(.ref 24)],[(.ref 163),(.ref 24),(.type "ValueError"),(.type "Exception"),(.type "BaseException"),(.type "object")],162,(.ofString "BadRow"),true,[],[],false,none,false⟩),#[(some (.ref 147)),none,(some (hs "BadRow" 364)),(some (hs "BadRow" 372)),(some (.builtin "ValueError.__new__")),(some (.bool true))]⟩) ::
 (nat_lit 166,ht #[(hs "a" 397),(hs "b" 398),(hs "c" 399),(hs "d" 400)]) ::
 (nat_lit 167,ht #[(hs "none" 402),(hs "one" 403),(hs "two" 404),(hs "three" 405),(hs "four" 406),(hs "five" 407),(hs "six" 408),(hs "seven" 409),(hs "eight" 410)]) ::
 (nat_lit 168,ht #[(hs "jump" 412),(hs "zero" 413)]) ::
 (nat_lit 169,⟨(.type "dict"),none,(.dict #[hy P "set" 415 (.ref 170),hy P "add" 418 (.ref 171),hy P "take" 421 (.ref 172),hy P "tell" 424 (.ref 173),hy P "ask" 426 (.ref 174),hy P "jump" 428 (.ref 175),hy P "zero" 430 (.ref 176),hy P "stop" 433 (.ref 177),hy P "farjump" 434 (.ref 178),hy P "farzero" 436 (.ref 179),hy P "skip" 439 (.ref 180)] 11),#[]⟩) ::
 (nat_lit 170,ht #[(hs "spot" 416),(hs "number" 417)]) ::
 (nat_lit 171,ht #[(hs "spot" 419),(hs "spot" 420)]) ::
 (nat_lit 172,ht #[(hs "spot" 422),(hs "spot" 423)]) ::
 (nat_lit 173,ht #[(hs "spot" 425)]) ::
 (nat_lit 174,ht #[(hs "spot" 427)]) ::
 (nat_lit 175,ht #[(hs "near" 429)]) ::
 (nat_lit 176,ht #[(hs "spot" 431),(hs "near" 432)]) ::
 (nat_lit 177,ht #[]) ::
 (nat_lit 178,ht #[(hs "far" 435)]) ::
 (nat_lit 179,ht #[(hs "spot" 437),(hs "far" 438)]) ::
 (nat_lit 180,ht #[(hs "many" 440)]) ::
 (nat_lit 186,hc "made_of" 453 "made_of" 454 455 40 2 3 181 true 181 182 183 184 185 458 40 459) ::
 (nat_lit 187,hf "made_of" "made_of" (top 18) (hs "oddlong.shared" 389) 186) ::
 (nat_lit 193,hc "is_name" 461 "is_name" 462 463 42 1 3 188 true 181 189 190 191 192 465 42 466) ::
 (nat_lit 194,hf "is_name" "is_name" (top 19) (hs "oddlong.shared" 389) 193) ::
 (nat_lit 200,hc "is_code" 468 "is_code" 469 470 44 1 3 195 true 181 196 197 198 199 472 44 473) ::
 (nat_lit 201,hf "is_code" "is_code" (top 20) (hs "oddlong.shared" 389) 200) ::
 (nat_lit 207,hc "two_to" 475 "two_to" 476 477 46 1 3 202 true 181 203 204 205 206 481 46 482) ::
 (nat_lit 208,hf "two_to" "two_to" (top 21) (hs "oddlong.shared" 389) 207) ::
 (nat_lit 214,hc "number_of" 484 "number_of" 485 486 51 1 3 209 true 181 210 211 212 213 490 51 491) ::
 (nat_lit 215,hf "number_of" "number_of" (top 22) (hs "oddlong.shared" 389) 214) ::
 (nat_lit 221,hc "rest_of" 493 "rest_of" 494 495 56 2 3 216 true 181 217 218 219 220 498 56 499) ::
 (nat_lit 222,hf "rest_of" "rest_of" (top 23) (hs "oddlong.shared" 389) 221) ::
 (nat_lit 228,hc "is_number" 501 "is_number" 502 503 62 1 3 223 true 181 224 225 226 227 505 62 506) ::
 (nat_lit 229,hf "is_number" "is_number" (top 24) (hs "oddlong.shared" 389) 228) ::
 (nat_lit 233,⟨(.type "code"),none,(.fields #[(hs "lookup_of" 510),(hs "lookup_of" 511),(hs "/claim/cut.py" 512),(.int 65 0),(.int 1 0),(.int 0 0),(.int 0 0),(.int 3 0),(.ref 230),(.bool true),(.int 181 0),(.ref 231),.none,.none,.none,(.ref 232),(.int 513 0),(.int 65 0),(hs "/claim/cut.py" 514)]),#[]⟩) ::
 (nat_lit 234,hf "lookup_of" "lookup_of" (top 26) (hs "oddlong.texts" 508) 233) ::
 (nat_lit 240,hc "code_at" 516 "code_at" 517 518 67 4 3 235 true 181 236 237 238 239 525 67 526) ::
 (nat_lit 241,hf "code_at" "code_at" (top 27) (hs "oddlong.texts" 508) 240) ::
 (nat_lit 247,hc "bare_at" 532 "bare_at" 533 534 75 3 3 242 true 181 243 244 245 246 540 75 541) ::
 (nat_lit 248,hf "bare_at" "bare_at" (top 30) (hs "oddlong.bare" 528) 247) ::
 (nat_lit 261,hc "__init__" 555 "Reader.__init__" 556 557 82 2 3 256 true 181 257 258 259 260 560 82 561) ::
 (nat_lit 262,hf "__init__" "Reader.__init__" (inClass (top 31) 0) (hs "oddlong.bare" 528) 261) ::
 (nat_lit 268,hc "bare_from" 563 "Reader.bare_from" 564 565 89 3 3 263 true 181 264 265 266 267 574 89 575) ::
 (nat_lit 269,hf "bare_from" "Reader.bare_from" (inClass (top 31) 1) (hs "oddlong.bare" 528) 268) ::
 (nat_lit 275,hc "part_from" 577 "Reader.part_from" 578 579 101 4 3 270 true 181 271 272 273 274 584 101 585) ::
 (nat_lit 276,hf "part_from" "Reader.part_from" (inClass (top 31) 2) (hs "oddlong.bare" 528) 275) ::
 (nat_lit 282,hc "number_from" 587 "Reader.number_from" 588 589 110 3 3 277 true 181 278 279 280 281 596 110 597) ::
 (nat_lit 283,hf "number_from" "Reader.number_from" (inClass (top 31) 3) (hs "oddlong.bare" 528) 282) ::
 (nat_lit 285,⟨(.type "dict"),none,(.dict #[hy P "__module__" 550 (hs "oddlong.bare" 528),hy P "__firstlineno__" 554 (.int 80 553),hy P "__init__" 562 (.ref 262),hy P "bare_from" 576 (.ref 269),hy P "part_from" 586 (.ref 276),hy P "number_from" 598 (.ref 283),hy P "__static_attributes__" 604 (.ref 284),hy P "__dict__" 606 (.ref 287),hy P "__weakref__" 608 (.ref 288),hy P "__doc__" 609 .none] 4),#[]⟩) ::
 (nat_lit 286,⟨(.type "type"),none,(.cls ⟨(.ofString "Reader"),[(.type "object")],[(.ref 286),(.type "object")],285,(.ofString "Reader"),true,[],[],false,none,false⟩),#[none,none,(some (hs "Reader" 543)),(some (hs "Reader" 551)),(some (.builtin "object.__new__")),(some (.bool true))]⟩) ::
 (nat_lit 296,hc "name_from" 612 "name_from" 613 614 118 3 3 291 true 181 292 293 294 295 621 118 622) ::
 (nat_lit 297,hf "name_from" "name_from" (top 32) (hs "oddlong.bare" 528) 296) ::
 (nat_lit 303,hc "figures_from" 624 "figures_from" 625 626 124 4 3 298 true 181 299 300 301 302 632 124 633) ::
 (nat_lit 304,hf "figures_from" "figures_from" (top 33) (hs "oddlong.bare" 528) 303) ::
 (nat_lit 310,hc "many_from" 635 "many_from" 636 637 129 2 3 305 true 181 306 307 308 309 642 129 643) ::
 (nat_lit 311,hf "many_from" "many_from" (top 34) (hs "oddlong.bare" 528) 310) ::
 (nat_lit 317,hc "distance_from" 645 "distance_from" 646 647 134 3 3 312 true 181 313 314 315 316 653 134 654) ::
 (nat_lit 318,hf "distance_from" "distance_from" (top 35) (hs "oddlong.bare" 528) 317) ::
 (nat_lit 322,⟨(.type "code"),none,(.fields #[(hs "is_book" 658),(hs "is_book" 659),(hs "/claim/cut.py" 660),(.int 142 0),(.int 1 0),(.int 0 0),(.int 0 0),(.int 3 0),(.ref 319),(.bool true),(.int 181 0),(.ref 320),.none,.none,.none,(.ref 321),(.int 661 0),(.int 142 0),(hs "/claim/cut.py" 662)]),#[]⟩) ::
 (nat_lit 323,hf "is_book" "is_book" (top 37) (hs "oddlong.books" 656) 322) ::
 (nat_lit 329,hc "is_entry" 664 "is_entry" 665 666 148 1 3 324 true 181 325 326 327 328 668 148 669) ::
 (nat_lit 330,hf "is_entry" "is_entry" (top 38) (hs "oddlong.books" 656) 329) ::
 (nat_lit 336,hc "free" 671 "free" 672 673 150 1 3 331 true 181 332 333 334 335 675 150 676) ::
 (nat_lit 337,hf "free" "free" (top 39) (hs "oddlong.books" 656) 336) ::
 (nat_lit 343,hc "clash" 678 "clash" 679 680 152 1 3 338 true 181 339 340 341 342 687 152 688) ::
 (nat_lit 344,hf "clash" "clash" (top 40) (hs "oddlong.books" 656) 343) ::
 (nat_lit 357,hc "__init__" 710 "Form.__init__" 711 712 164 6 3 352 true 181 353 354 355 356 720 164 721) ::
 (nat_lit 358,hf "__init__" "Form.__init__" (inClass (top 45) 0) (hs "oddlong.forms" 690) 357) ::
 (nat_lit 360,⟨(.type "dict"),none,(.dict #[hy P "__module__" 705 (hs "oddlong.forms" 690),hy P "__firstlineno__" 709 (.int 162 708),hy P "__init__" 722 (.ref 358),hy P "__static_attributes__" 728 (.ref 359),hy P "__dict__" 730 (.ref 362),hy P "__weakref__" 732 (.ref 363),hy P "__doc__" 733 .none] 4),#[]⟩) ::
 (nat_lit 361,⟨(.type "type"),none,(.cls ⟨(.ofString "Form"),[(.type "object")],[(.ref 361),(.type "object")],360,(.ofString "Form"),true,[],[],false,none,false⟩),#[none,none,(some (hs "Form" 698)),(some (hs "Form" 706)),(some (.builtin "object.__new__")),(some (.bool true))]⟩) ::
 (nat_lit 371,hc "first_wrong" 736 "first_wrong" 737 738 173 5 3 366 true 181 367 368 369 370 744 173 745) ::
 (nat_lit 372,hf "first_wrong" "first_wrong" (top 46) (hs "oddlong.forms" 690) 371) ::
 (nat_lit 376,⟨(.type "code"),none,(.fields #[(hs "is_free_book_of" 747),(hs "is_free_book_of" 748),(hs "/claim/cut.py" 749),(.int 185 0),(.int 2 0),(.int 0 0),(.int 0 0),(.int 3 0),(.ref 373),(.bool true),(.int 181 0),(.ref 374),.none,.none,.none,(.ref 375),(.int 750 0),(.int 185 0),(hs "/claim/cut.py" 751)]),#[]⟩) ::
 (nat_lit 377,hf "is_free_book_of" "is_free_book_of" (top 47) (hs "oddlong.forms" 690) 376) ::
 (nat_lit 381,⟨(.type "code"),none,(.fields #[(hs "far_is_shorter" 753),(hs "far_is_shorter" 754),(hs "/claim/cut.py" 755),(.int 190 0),(.int 3 0),(.int 0 0),(.int 0 0),(.int 3 0),(.ref 378),(.bool true),(.int 181 0),(.ref 379),.none,.none,.none,(.ref 380),(.int 756 0),(.int 190 0),(hs "/claim/cut.py" 757)]),#[]⟩) ::
 (nat_lit 382,hf "far_is_shorter" "far_is_shorter" (top 48) (hs "oddlong.forms" 690) 381) ::
 (nat_lit 388,hc "_law_begin" 761 "_law_begin" 762 763 194 1 3 383 true 181 384 385 386 387 766 194 767) ::
 (nat_lit 389,hf "_law_begin" "_law_begin" (top 50) (hs "law_oddlong_k31_bare_rows_read" 759) 388) ::
 (nat_lit 395,hc "_law_take" 769 "_law_take" 770 771 199 2 3 390 true 181 391 392 393 394 780 199 781) ::
 (nat_lit 396,hf "_law_take" "_law_take" (top 51) (hs "law_oddlong_k31_bare_rows_read" 759) 395) ::
 (nat_lit 400,⟨(.type "code"),none,(.fields #[(hs "_law_same" 783),(hs "_law_same" 784),(hs "/claim/cut.py" 785),(.int 211 0),(.int 2 0),(.int 0 0),(.int 0 0),(.int 3 0),(.ref 397),(.bool true),(.int 181 0),(.ref 398),.none,.none,.none,(.ref 399),(.int 786 0),(.int 211 0),(hs "/claim/cut.py" 787)]),#[]⟩) ::
 (nat_lit 401,hf "_law_same" "_law_same" (top 52) (hs "law_oddlong_k31_bare_rows_read" 759) 400) ::
 (nat_lit 407,hc "_law_mixed" 789 "_law_mixed" 790 791 225 2 3 402 true 181 403 404 405 406 796 225 797) ::
 (nat_lit 408,hf "_law_mixed" "_law_mixed" (top 53) (hs "law_oddlong_k31_bare_rows_read" 759) 407) ::
 (nat_lit 412,⟨(.type "code"),none,(.fields #[(hs "_law_codes" 799),(hs "_law_codes" 800),(hs "/claim/cut.py" 801),(.int 231 0),(.int 3 0),(.int 0 0),(.int 0 0),(.int 3 0),(.ref 409),(.bool true),(.int 181 0),(.ref 410),.none,.none,.none,(.ref 411),(.int 802 0),(.int 231 0),(hs "/claim/cut.py" 803)]),#[]⟩) ::
 (nat_lit 413,hf "_law_codes" "_law_codes" (top 54) (hs "law_oddlong_k31_bare_rows_read" 759) 412) ::
 (nat_lit 419,hc "_law_kinds" 805 "_law_kinds" 806 807 241 0 3 414 true 181 415 416 417 418 808 241 809) ::
 (nat_lit 420,hf "_law_kinds" "_law_kinds" (top 55) (hs "law_oddlong_k31_bare_rows_read" 759) 419) ::
 (nat_lit 426,hc "_law_sizes" 811 "_law_sizes" 812 813 243 0 3 421 true 181 422 423 424 425 814 243 815) ::
 (nat_lit 427,hf "_law_sizes" "_law_sizes" (top 56) (hs "law_oddlong_k31_bare_rows_read" 759) 426) ::
 (nat_lit 433,hc "_law_parts" 817 "_law_parts" 818 819 245 1 3 428 true 181 429 430 431 432 829 245 830) ::
 (nat_lit 434,hf "_law_parts" "_law_parts" (top 57) (hs "law_oddlong_k31_bare_rows_read" 759) 433) ::
 (nat_lit 440,hc "_law_form" 832 "_law_form" 833 834 257 1 3 435 true 181 436 437 438 439 836 257 837) ::
 (nat_lit 441,hf "_law_form" "_law_form" (top 58) (hs "law_oddlong_k31_bare_rows_read" 759) 440) ::
 (nat_lit 447,hc "_law_figures" 839 "_law_figures" 840 841 259 2 3 442 true 181 443 444 445 446 846 259 847) ::
 (nat_lit 448,hf "_law_figures" "_law_figures" (top 59) (hs "law_oddlong_k31_bare_rows_read" 759) 447) ::
 (nat_lit 454,hc "_law_power" 849 "_law_power" 850 851 265 1 3 449 true 181 450 451 452 453 855 265 856) ::
 (nat_lit 455,hf "_law_power" "_law_power" (top 60) (hs "law_oddlong_k31_bare_rows_read" 759) 454) ::
 (nat_lit 461,hc "_law_far_word" 858 "_law_far_word" 859 860 270 1 3 456 true 181 457 458 459 460 862 270 863) ::
 (nat_lit 462,hf "_law_far_word" "_law_far_word" (top 61) (hs "law_oddlong_k31_bare_rows_read" 759) 461) ::
 (nat_lit 466,⟨(.type "code"),none,(.fields #[(hs "_law_put" 865),(hs "_law_put" 866),(hs "/claim/cut.py" 867),(.int 272 0),(.int 2 0),(.int 0 0),(.int 0 0),(.int 3 0),(.ref 463),(.bool true),(.int 181 0),(.ref 464),.none,.none,.none,(.ref 465),(.int 868 0),(.int 272 0),(hs "/claim/cut.py" 869)]),#[]⟩) ::
 (nat_lit 467,hf "_law_put" "_law_put" (top 62) (hs "law_oddlong_k31_bare_rows_read" 759) 466) ::
 (nat_lit 473,hc "_law_some_bare" 871 "_law_some_bare" 872 873 291 3 3 468 true 181 469 470 471 472 883 291 884) ::
 (nat_lit 474,hf "_law_some_bare" "_law_some_bare" (top 63) (hs "law_oddlong_k31_bare_rows_read" 759) 473) ::
 (nat_lit 480,hc "_law_class" 886 "_law_class" 887 888 308 1 3 475 true 181 476 477 478 479 892 308 893) ::
 (nat_lit 481,hf "_law_class" "_law_class" (top 64) (hs "law_oddlong_k31_bare_rows_read" 759) 480) ::
 (nat_lit 485,⟨(.type "code"),none,(.fields #[(hs "_law_names_at" 895),(hs "_law_names_at" 896),(hs "/claim/cut.py" 897),(.int 320 0),(.int 3 0),(.int 0 0),(.int 0 0),(.int 3 0),(.ref 482),(.bool true),(.int 181 0),(.ref 483),.none,.none,.none,(.ref 484),(.int 898 0),(.int 320 0),(hs "/claim/cut.py" 899)]),#[]⟩) ::
 (nat_lit 486,hf "_law_names_at" "_law_names_at" (top 65) (hs "law_oddlong_k31_bare_rows_read" 759) 485) ::
 (nat_lit 492,hc "_law_number_by" 901 "_law_number_by" 902 903 322 1 3 487 true 181 488 489 490 491 907 322 908) ::
 (nat_lit 493,hf "_law_number_by" "_law_number_by" (top 66) (hs "law_oddlong_k31_bare_rows_read" 759) 492) ::
 (nat_lit 499,hc "_law_far_figures" 910 "_law_far_figures" 911 912 327 4 3 494 true 181 495 496 497 498 919 327 920) ::
 (nat_lit 500,hf "_law_far_figures" "_law_far_figures" (top 67) (hs "law_oddlong_k31_bare_rows_read" 759) 499) ::
 (nat_lit 506,hc "_law_spots_at" 922 "_law_spots_at" 923 924 333 4 3 501 true 181 502 503 504 505 932 333 933) ::
 (nat_lit 507,hf "_law_spots_at" "_law_spots_at" (top 68) (hs "law_oddlong_k31_bare_rows_read" 759) 506) ::
 (nat_lit 513,hc "_law_size_at" 935 "_law_size_at" 936 937 342 3 3 508 true 181 509 510 511 512 944 342 945) ::
 (nat_lit 514,hf "_law_size_at" "_law_size_at" (top 69) (hs "law_oddlong_k31_bare_rows_read" 759) 513) ::
 (nat_lit 520,hc "_law_skip_at" 947 "_law_skip_at" 948 949 352 2 3 515 true 181 516 517 518 519 954 352 955) ::
 (nat_lit 521,hf "_law_skip_at" "_law_skip_at" (top 70) (hs "law_oddlong_k31_bare_rows_read" 759) 520) ::
 (nat_lit 527,hc "_law_at" 957 "_law_at" 958 959 356 3 3 522 true 181 523 524 525 526 969 356 970) ::
 (nat_lit 528,hf "_law_at" "_law_at" (top 71) (hs "law_oddlong_k31_bare_rows_read" 759) 527) ::
 (nat_lit 532,⟨(.type "code"),none,(.fields #[(hs "_law_text" 972),(hs "_law_text" 973),(hs "/claim/cut.py" 974),(.int 373 0),(.int 2 0),(.int 0 0),(.int 0 0),(.int 3 0),(.ref 529),(.bool true),(.int 181 0),(.ref 530),.none,.none,.none,(.ref 531),(.int 975 0),(.int 373 0),(hs "/claim/cut.py" 976)]),#[]⟩) ::
 (nat_lit 533,hf "_law_text" "_law_text" (top 72) (hs "law_oddlong_k31_bare_rows_read" 759) 532) ::
 (nat_lit 539,hc "_law_told" 978 "_law_told" 979 980 383 3 3 534 true 181 535 536 537 538 987 383 988) ::
 (nat_lit 540,hf "_law_told" "_law_told" (top 73) (hs "law_oddlong_k31_bare_rows_read" 759) 539) ::
 (nat_lit 546,hc "law" 990 "law" 991 992 390 1 3 541 true 181 542 543 544 545 1001 390 1002) ::
 (nat_lit 547,hf "law" "law" (top 74) (hs "law_oddlong_k31_bare_rows_read" 759) 546)::[]
def Te:List Gc:=3::23::24::37::49::68::83::84::86::87::102::103::105::106::125::144::163::166::167::168::169::170::171::172::173::174::175::176::177::178::179::180::186::187::193::194::200::201::207::208::214::215::221::222::228::229::233::234::240::241::247::248::261::262::268::269::275::276::282::283::285::286::296::297::303::304::310::311::317::318::322::323::329::330::336::337::343::344::357::358::360::361::371::372::376::377::381::382::388::389::395::396::400::401::407::408::412::413::419::420::426::427::433::434::440::441::447::448::454::455::461::462::466::467::473::474::480::481::485::486::492::493::499::500::506::507::513::514::520::521::527::528::532::533::539::540::546::547::[]
def Ce:YZ:=view PySem.Challenge.pw_oddlong_k31_bare_rows_read [1,2,3,4,5,6,7,8,9,11,12,13,14,15,16,17,18,19,20,21,22,23,24,26,27,29,30,31,32,33,34,35,37,38,39,40,42,43,44,45,46,47,48,50,51,52,53,54,55,56,57,58,59,60,61,62,63,64,65,66,67,68,69,70,71,72,73,74]
def MD:List Str:=[.ofString "PARTS"]
def LW:∀P,Te=(RP P).map (·.1):=fun _=>by kernel_rfl
abbrev IC:Hook:=kHook RP Te LW
abbrev UU:Wp->Bool:=fun s=>xlAt Ce [] s&&recOk (RowW.records (Qdt (Qc6 PySem.Challenge.rw_oddlong_k31_bare_rows_read))) s
def Gn {p q:YZ}{loose:List Str}{Xt:Wp->Bool}{α:Type}{Yf:Wp -> α}{Ya:Zb -> α}{N:Nat}{g0:Bool}(e:opening p=plainProg p.main.scope.names)(hN:Nat.ble 600 N=true)(f:∀s,fenceModules? p s=some s)
  (h:∀w:Zb,(fun os=>(Qcb treeTable p w N ⟨boot_heap w.params,Array.mk [],boot_drawn,boot_toks,os⟩).map fun s=>(openSeen q loose (importedModules p.main.body) Xt g0 s,Yf s))=fun _=>some (openGood q loose,Ya w)):LeftO p q loose Xt Yf Ya N g0:=fun w=>by
 obtain⟨⟨hp,gs,d,k,os⟩,e1,e2⟩:=Option.map_eq_some_iff.mp (boot_open e hN f w);obtain⟨rfl,rfl,rfl,rfl⟩:hp=boot_heap w.params/\gs=Array.mk []/\d=boot_drawn/\k=boot_toks:=by simpa using e2
 unfold openEnds;rw[e1];exact congrFun (h w) os
def Im:OpenLaw.wellSaid PySem.Challenge.rw_oddlong_k31_bare_rows_read=true:=by
 rw[PySem.W.Fast.te9446332074065402090]
 kernel_rfl
abbrev AD (w:Zb)(os:OsState):Option Wp:=Qcb treeTable PySem.Challenge.pw_oddlong_k31_bare_rows_read w 9004 ⟨boot_heap w.params,Array.mk [],boot_drawn,boot_toks,os⟩
abbrev uM (s:Wp):=openSeen Ce MD (importedModules PySem.Challenge.pw_oddlong_k31_bare_rows_read.main.body) UU true s
abbrev Bh (w:Zb):Prop:=(fun os=>(AD (w) os).map fun s=>((uM s).1,(uM s).2.1,(uM s).2.2.2.2.2.2.1,(uM s).2.2.2.2.2.2.2.2))=fun _=>some (expectedOf Ce,bltViewBooted,plainGoodD Ce MD,clsGoodW Ce MD)
def Bk (w:Zb):Bh (w.withFollow "special-get-raises" false):=by
 unfold Bh AD uM Qcb;rw[Zp,Zo,Zr]
 kernel_rfl
def E4 (w:Zb):Bh (w.withFollow "special-get-raises" true):=by
 unfold Bh AD uM Qcb;rw[Zp,Zo,Zr]
 kernel_rfl
def O9 (w:Zb):Bh w:=byRow2 "special-get-raises" (P:=Bh) Bk E4 w
abbrev BC (w:Zb):Prop:=(fun os=>(AD (w) os).map fun s=>((uM s).2.2.1,(uM s).2.2.2.1))=fun _=>some (true,true)
def B8 (w:Zb):BC (w.withFollow "special-get-raises" false):=by
 unfold BC AD uM Qcb;rw[Zp,Zo,Zr]
 kernel_rfl
def ET (w:Zb):BC (w.withFollow "special-get-raises" true):=by
 unfold BC AD uM Qcb;rw[Zp,Zo,Zr]
 kernel_rfl
def Ol (w:Zb):BC w:=byRow2 "special-get-raises" (P:=BC) B8 ET w
abbrev BE (w:Zb):Prop:=(fun os=>(AD (w) os).map fun s=>((uM s).2.2.2.2.1,(uM s).2.2.2.2.2.1))=fun _=>some (pinGoodD (drecsOf Ce),plainGoodE Ce (looseW Ce MD))
def BA (w:Zb):BE (w.withFollow "special-get-raises" false):=by
 unfold BE AD uM Qcb;rw[Zp,Zo,Zr]
 kernel_rfl
def C8 (w:Zb):BE (w.withFollow "special-get-raises" true):=by
 unfold BE AD uM Qcb;rw[Zp,Zo,Zr]
 kernel_rfl
def Nq (w:Zb):BE w:=byRow2 "special-get-raises" (P:=BE) BA C8 w
abbrev Bw (w:Zb):Prop:=(fun os=>(AD (w) os).map fun s=>((uM s).2.2.2.2.2.2.2.1,Hook.obs IC s))=fun _=>some (wideGood Ce,Hook.val IC (w))
def AQ (w:Zb):Bw (w.withFollow "special-get-raises" false):=by
 unfold Bw AD uM Qcb;rw[Zp,Zo,Zr]
 kernel_rfl
def En (w:Zb):Bw (w.withFollow "special-get-raises" true):=by
 unfold Bw AD uM Qcb;rw[Zp,Zo,Zr]
 kernel_rfl
def OU (w:Zb):Bw w:=byRow2 "special-get-raises" (P:=Bw) AQ En w
def Kv {S A1 A2 A3 A4 A5 A6 A7 A8 A9 B:Type}{x:Option S}{f:S->A1×A2×A3×A4×A5×A6×A7×A8×A9}{o:S->B}{c1:A1}{c2:A2}{c3:A3}{c4:A4}{c5:A5}{c6:A6}{c7:A7}{c8:A8}{c9:A9}{b:B}
  (h:∀s,x=some s->(f s,o s)=((c1,c2,c3,c4,c5,c6,c7,c8,c9),b)) (h0:x=none->False):x.map (fun s=>(f s,o s))=some ((c1,c2,c3,c4,c5,c6,c7,c8,c9),b):=by
 cases x with
 | none=>exact(h0 rfl).elim
 | some s=>exact congrArg some (h s rfl)
def MA (w:Zb):(fun os=>(AD w os).map fun s=>(uM s,Hook.obs IC s))=fun _=>some (openGood Ce MD,Hook.val IC w):=by
 funext os
 have e0:=congrFun (O9 w) os;have e1:=congrFun (Ol w) os;have e2:=congrFun (Nq w) os;have e3:=congrFun (OU w) os;refine Kv (fun s hs =>?_) fun hs =>?_
 ·generalize AD w os=x at hs e0 e1 e2 e3;subst hs;replace e0:=Zk e0;replace e1:=Zk e1;replace e2:=Zk e2;replace e3:=Zk e3;refine Qbo ?_ (ZR e3).2;exact Qbo ((ZR e0).1) (Qbo ((ZR (ZR e0).2).1) (Qbo ((ZR e1).1) (Qbo ((ZR e1).2) (Qbo ((ZR e2).1) (Qbo ((ZR e2).2) (Qbo ((ZR (ZR (ZR e0).2).2).1) (Qbo ((ZR e3).1) ((ZR (ZR (ZR e0).2).2).2))))))))
 ·rw[hs] at e0;cases e0
def GA:LeftO PySem.Challenge.pw_oddlong_k31_bare_rows_read Ce MD UU (Hook.obs IC) (Hook.val IC) 9004 true:=Gn rfl rfl (fun _=>rfl) MA
def T5:DefRec:=⟨.ofString "law",cn (top iH),bN (top iH),ai (top iH),Pp (top iH)⟩
def GO (hw:RowW.promised (Qdt (Qc6 PySem.Challenge.rw_oddlong_k31_bare_rows_read)))(h:WalkO Ce MD (XL Ce []) (InK RP) (Qdt (Qc6 PySem.Challenge.rw_oddlong_k31_bare_rows_read)) T5 [] fun f vs=>QdJ f vs):OpenLaw.Holds PySem.Challenge.rw_oddlong_k31_bare_rows_read:=
 holds_law Im fun sd=>holds_open (r:=Qc6 PySem.Challenge.rw_oddlong_k31_bare_rows_read) (d:=T5) (kwd:=[]) GA (Hook.of IC) (Hook.keeps IC) (fun s e=>xl_of s (Bool.and_eq_true_iff.mp e).1) XL.keeps (by kernel_rfl) (by kernel_rfl) (by kernel_rfl) (fun s e=>recFacts_of (Bool.and_eq_true_iff.mp e).2) rfl sd ∅ ⟨rfl,rfl,rfl,rfl,rfl,∅⟩ hw h
end Z
set_option maxHeartbeats 4000000
namespace L2
open PySem PySem.Spec PyProof.Rows
abbrev m6:Fk->Wp->Prop:=fun _ _=>False
def cH {Q: α->Wp->Prop}{E:Fk->Wp->Prop}{s:Wp}(h:YX M A t Q m6 s):YX M A t Q E s:=
 Z9 h (fun _ _ q=>q) fun _ _ z=>z.elim
def ck {a b:Gc}{n:Nat}(h:a<n)(h':n<=b):a≠b:=by grind
def lL {a b:Gc}{n:Nat}(h:a<n)(h':n<=b):b≠a:=fun e=>ck h h' e.symm
def ll (env:Env):∀(names:List (Str×Qbn)) (acc:List (Str×Gc)),
  (∀y∈names,y.2 = .free->∃c,env.cells.lookup y.1=some c)->(∀n c,acc.lookup n=some c->env.cells.lookup n=some c) ->
  ∃cl,(forIn names acc fun x cs=>(if (x.2==ZX)=true then do
    let a <-cellOf env x.1
    pure (QbV ((x.1,a)::cs)) else pure (QbV cs):Sem (ForInStep (List (Str×Gc)))))=pure cl /\
   (∀n c,cl.lookup n=some c->env.cells.lookup n=some c)/\(∀n c,acc.lookup n=some c->∃c',cl.lookup n=some c')/\∀y∈names,y.2 = .free->∃c,cl.lookup y.1=some c
 | [],acc,_,h2=>⟨acc,rfl,h2,fun _ c h=>⟨c,h⟩,fun _ h=>nomatch h⟩
 | (n,k)::r,acc,h1,h2=>by
  have hr:=fun y hy=>h1 y (Jj _ hy)
  by_cases hk:k = .free
  ·subst hk;obtain⟨c,hc⟩:=h1 (n,.free) Jm rfl;obtain⟨cl,e,p1,p2,p3⟩:=ll env r ((n,c)::acc) hr (fun m d hm=>by
    rw[Um] at hm
    by_cases q:m==n
    ·rw[q] at hm;have:m=n:=by simpa using q
     subst this;cases hm;exact hc
    ·have q':(m==n)=false:=by simpa using q
     rw[q'] at hm;exact h2 m d hm)
   refine⟨cl,?_,p1,fun m d hm =>?_,fun y hy hf =>?_⟩
   ·rw[QdA];rw[<-e];unfold cellOf;rw[hc]
    rfl
   ·by_cases q:m=n
    ·subst q;exact p2 m c (by rw[Um];simp)
    ·exact p2 m d (by rw[Um];simp -iota only [beq_eq_false_iff_ne.mpr q];exact hm)
   ·rcases Jq.mp hy with rfl|hy
    ·exact p2 n c (by rw[Um];simp)
    ·exact p3 y hy hf
  ·refine aj.el (ll env r acc hr h2) _ ?_;rintro cl e p1 p2 p3;refine⟨cl,?_,p1,p2,fun y hy hf =>?_⟩
   ·rw[QdA,<-e];have hb:(k==ZX)=false:=by simpa using hk
    simp -iota only [hb,if_false]
    rfl
   ·rcases Jq.mp hy with rfl|hy
    ·exact absurd hf hk
    ·exact p3 y hy hf
def kM (h:∀y∈scope.names,y.2 = .free->∃c,env.cells.lookup y.1=some c):
  ∃cl,closureFor scope env=pure cl/\(∀n c,cl.lookup n=some c->env.cells.lookup n=some c)/\∀y∈scope.names,y.2 = .free->∃c,cl.lookup y.1=some c:=by
 obtain⟨cl,e,p1,_,p3⟩:=ll env scope.names [] h (fun n c h=>by simp at h);refine⟨cl,(Eq.trans ?_ (congrArg (fun m=>m >>= fun cs=>(pure cs:Sem _)) e)),p1,p3⟩
 rfl
def ow (ifs:List ZA)(env:Env):Sem Bool:=forIn ifs true fun c r=>if r=true then do let ok <-isTrue c env (ZM c env);pure (QbV ok) else pure (QbV r)
section
variable {prog:YZ}{w:Zb}{A:Zs}{R:QaU->Wp->Prop}{s:Wp}
def ye {elt target iter:ZA}{ifs:List ZA}{scope:QaT}{pos:Pos}{it acc:Fk}{env:Env}(I:Nat->Wp->Prop)
  (turn:∀n s,I n s->YX (YW prog w) A (QaM it) (fun r s1=>match r with
   | none=>R (.ok .next) s1
   | some v=>YX (YW prog w) A (QbJ target it v) (fun _ s1'=>YX (YW prog w) A (QeT target env v) (fun _ s2=>
     YX (YW prog w) A (ow ifs env) (fun ok s3=>
      if ok=true then YX (YW prog w) A (ZM elt env) (fun x s4=>
       YX (YW prog w) A (call (.builtin "list.append") [acc,x]) (fun _ s5=>∃m,m<n/\I m s5) m6 s4) m6 s3
      else ∃m,m<n/\I m s3) m6 s2) m6 s1') m6 s1) m6 s)
  (n:Nat) (h:I n s):ZW (YW prog w) A (.compLoop (.ListComp elt [⟨target,iter,ifs,0⟩] scope pos) 0 it acc env) R s:=by
 refine codeAny_loop rfl I (fun n s hI=>(show YX _ A (Sem.onRaise (compTurn (.ListComp elt [⟨target,iter,ifs,0⟩] scope pos) 0 it acc env) (fun x=>do QbU x env;Qez x)) _ _ s from wpAny_noted (be (Qab (be (cH (bb (turn n s hI) fun r s1 h1 =>?_))))))) n h;cases r with
 | none=>exact tz h1
 | some v=>
  refine be (cH (bb h1 fun _ s1' JZ=>be (cH (bb JZ fun _ s2 h2=>be (cH (bb h2 fun ok s3 h3 =>?_))))));cases ok with
  | false=>exact tz ⟨rfl,h3⟩
  | true=>exact be (be (cH (bb h3 fun x s4 h4=>be (cH (bb h4 fun _ s5 h5=>tz (tz ⟨rfl,h5⟩))))))
end
def jr.adopt (x:jr P w H h)(hn:H a=none)(new:bt P w (upd H a o) h a o):jr P w (upd H a o) h:=fun b u e=>by
 by_cases hb:b=a
 ·subst hb;rw[av] at e;cases e;exact new
 ·rw[au hb] at e;exact(x b u e).gW (fun c v _ q=>q) (fun c q=>by rw[au (aH q hn)];exact q) fun c xs q=>by rw[au (aH q hn)];exact q
structure gI (X:Cx)(scope:QaT)(Nc Fc:List Str)(js:List Nat):Prop where
 kind:scope.kind = .function
 nocell:∀y∈scope.names,y.2 ≠ .cell
 names:∀y∈scope.names,y.2 = .local->scope.names.lookup y.1=some .local
 free:∀y∈scope.names,y.2 = .free->X.env.kindOf y.1=some .cell\/X.env.kindOf y.1=some .free
 frees:∀(k:Nat) (x:Str),Fc[k]? = some x->scope.names.lookup x=some .free/\∃j,js[k]? = some j/\X.N[j]? = some x
 lens:js.length=Fc.length
def eB (σ:St)(js:List Nat):St:=js.map fun j=>(σ[j]?).join
def lI (X:Cx)(Nc Fc:List Str)(scope:QaT)(cl:List (Str×Gc))(C:Gc)(s:Wp)(H:Hp)(fp:List Gc):Cx:=
 { X with N:=Nc++Fc,s₀:=s,H₀:=H,env:=compEnvC scope cl C X.env,outer:=X.stack,stack:=X.stack,ex:=fp,fn:=fun _=>false,pn:=[],xe:=m6 }
def jc {env:Env}:∀{names:List (Str×Qbn)} {x:Str} {k:Qbn},(names.map fun(n,k)=>if (k==ZX&&env.scope.kind == .function&&env.kindOf n==some .cell) then (n,QbD) else (n,k)).lookup x=some k ->
  names.lookup x=some k\/(k = .cell/\names.lookup x=some .free)
 | [],_,_,h=>by simp at h
 | (n,k0)::r,x,k,h=>by
  rw[Jz] at h;dsimp only at h
  by_cases hx:x=n
  ·subst hx
   by_cases hc:(k0==ZX&&env.scope.kind == .function&&env.kindOf x==some .cell)=true
   ·rw[if_pos hc] at h;simp -iota only [Um,beq_self_eq_true] at h;have hk:k0 = .free:=by
     have:=(Js _ _).mp ((Js _ _).mp hc).1;simpa using this.1
    subst hk;cases h;exact .inr ⟨rfl,by simp only[Um,beq_self_eq_true]⟩
   ·rw[if_neg hc] at h;simp -iota only [Um,beq_self_eq_true] at h ⊢;exact .inl h
  ·have hb:=beq_eq_false_iff_ne.mpr hx;have e:=h;have e2:Wc x (r.map fun(n,k)=>if (k==ZX&&env.scope.kind == .function&&env.kindOf n==some .cell) then (n,QbD) else (n,k))=some k:=by
    by_cases hc:(k0==ZX&&env.scope.kind == .function&&env.kindOf n==some .cell)=true
    ·rw[if_pos hc] at e;simp -iota only [Um,hb] at e;exact e
    ·rw[if_neg hc] at e;simp -iota only [Um,hb] at e;exact e
   simp -iota only [Um,hb];exact(@jc env r x k) e2
def fU {env:Env}:∀{names:List (Str×Qbn)} {x:Str},names.lookup x=some .free ->
  (names.map fun(n,k)=>if (k==ZX&&env.scope.kind == .function&&env.kindOf n==some .cell) then (n,QbD) else (n,k)).lookup x=some .cell \/
  (names.map fun(n,k)=>if (k==ZX&&env.scope.kind == .function&&env.kindOf n==some .cell) then (n,QbD) else (n,k)).lookup x=some .free
 | [],_,h=>by simp at h
 | (n,k0)::r,x,h=>by
  have ih := @fU env r x;rw[Jz];dsimp only
  by_cases hx:x=n
  ·subst hx;simp -iota only [Um,beq_self_eq_true] at h;cases h
   by_cases hc:(ZX==ZX&&env.scope.kind == .function&&env.kindOf x==some .cell)=true
   ·rw[if_pos hc];left;simp only[Um,beq_self_eq_true]
   ·rw[if_neg hc];right;simp only[Um,beq_self_eq_true]
  ·have hb:=beq_eq_false_iff_ne.mpr hx;simp -iota only [Um,hb] at h
   by_cases hc:(k0==ZX&&env.scope.kind == .function&&env.kindOf n==some .cell)=true
   ·rw[if_pos hc];simp -iota only [Um,hb];exact ih h
   ·rw[if_neg hc];simp -iota only [Um,hb];exact ih h
def cA:∀{l:List (Str×Qbn)} {x:Str} {k:Qbn},l.lookup x=some k->(x,k)∈l:=fun h=>Qaw h
section
variable {X:Cx}{pins:List (Gc×Obj)}{σ:St}{H:Hp}{s:Wp}{scope:QaT}{Nc Fc:List Str}{js:List Nat}{cl:List (Str×Gc)}{C D:Gc}{fp:List Gc}
def u6:(lI X Nc Fc scope cl C s H fp).env.kindOf x=(scope.names.map fun(n,k)=>if (k==ZX&&X.env.scope.kind == .function&&X.env.kindOf n==some .cell) then (n,QbD) else (n,k)).lookup x:=rfl
def qe (I:Inv X pins σ H s)(c:gI X scope Nc Fc js)(d7:∀n c,cl.lookup n=some c->X.env.cells.lookup n=some c)(kq:∀y∈scope.names,y.2 = .free->∃c,cl.lookup y.1=some c)
  (hC:s.heap.objs.size<=C) (hf:∀b∈fp,gz X pins H b) (ho:∀b∈fp,∃o,s.heap.get? b=some o):(lI X Nc Fc scope cl C s H fp).Ok where
 mod:=I.ok.mod
 kind:=c.kind
 glob:=I.ok.glob
 blt:=I.ok.blt
 above:=hC
 inj:=fun x y a h1 h2=>I.ok.inj x y a (d7 _ _ h1) (d7 _ _ h2)
 has:=fun x hx=>by
  have key:scope.names.lookup x=some .free:=by
   rcases hx with h|h
   ·rcases jc h with q|⟨_,q⟩
    ·exact absurd rfl (c.nocell _ (cA q))
    ·exact q
   ·rcases jc h with q|⟨q,_⟩
    ·exact q
    ·cases q
  exact kq _ (cA key) rfl
 cab:=fun _ _ h=>nomatch h
 hd:=I.ok.hd
 frames:=I.ok.frames
 stk := .inl rfl
 exf:=fun b hb=>⟨fun z=>by
   obtain⟨o,e⟩:=ho b hb;exact ck (Jf e) hC z,fun x a e z=>(hf b hb).2.2.2.2.1 x a (d7 _ _ e) z⟩
 bs:=fun b o e=>I.bs b o e
 bsz:=Jg I.ok.bsz I.sz
 noex:=fun b o e hb=>by
  rcases(hf b hb).2.2.2.1 with z|z
  ·exact I.ok.noex b o e z
  ·exact absurd (Jw (Jf (I.ok.bs b o e).1) z) (Uh _)
 exfs:=fun b hb z=>by
  rcases Jq.mp (I.uc b z) with q|q
  ·exact(hf b hb).2.1 q
  ·exact(hf b hb).2.2.1 q
 ko:=I.stack
 frf:=I.tw
def GN (I:Inv X pins σ H s)(c:gI X scope Nc Fc js)(d7:∀n c,cl.lookup n=some c->X.env.cells.lookup n=some c)(kq:∀y∈scope.names,y.2 = .free->∃c,cl.lookup y.1=some c)
  (hC:s.heap.objs.size<=C) (hD:s.heap.objs.size<=D) (MQ:D≠C) (hf:∀b∈fp,gz X pins H b) (ho:∀b∈fp,∃o,s.heap.get? b=some o) {h1:Heap} {t1:Nat} {m:Str->Option Fk} {ob:Obj}
  (hk:∀b o,s.heap.get? b=some o->h1.get? b=some o) (hm:h1.Ns C m) (SM:h1.get? D=some ob) (VM:∀v,ob.data ≠ .cell v) :
  Inv (lI X Nc Fc scope cl C s H fp) [(D,ob)] (Jp Nc.length none++eB σ js) H { s with heap:=h1,toks:=t1 }:=by
 refine⟨qe I c d7 kq hC hf ho,rfl,I.bare,Un.kept hk,⟨m,hm,fun i x v e1 e2 e3 =>?_⟩,fun x a e =>?_,I.bq.fresh hC,fun x a e=>I.freeC x a (d7 x a e),fun p hp =>?_,I.bq.kept hk,?_⟩
 ·have e1:(Nc++Fc)[i]? = some x:=e1
  by_cases hi:i<Nc.length
  ·rw[U3 (by simpa using hi),Yn] at e2
   split at e2<;>cases e2
  ·rw[U0 ⋯] at e1;rw[U0 (by rw[Ut];lia),Ut] at e2;refine aj.el (c.frees _ _ e1) _ ?_;rintro vk j hj hN;have hv: σ[j]? = some (some v):=by
    unfold eB at e2;rw[Jk,hj] at e2;have e2:some ((σ[j]?).join)=some (some v):=e2;cases q: σ[j]? with
    | none=>rw[q] at e2;cases e2
    | some z=>rw[q] at e2;cases e2;rfl
   have kx:=c.free _ (cA vk) rfl;refine aj.el (I.loc) _ ?_;rintro m0 hn0 hl0;have RL:Ow X.env.scope x:=by
    rcases kx with k|k
    ·exact .inr (.inl k)
    ·exact .inr (.inr k)
   refine aj.el (hl0 j x v hN hv RL) _ ?_;rintro u ru lk;refine⟨u,ru,.inr ⟨?_,?_⟩⟩
   ·rw[u6];exact fU vk
   ·obtain⟨a,ha⟩:=kq _ (cA vk) rfl;refine⟨a,ha,?_⟩
    rcases lk with ⟨k,_⟩|⟨_,a',ha',hcell⟩
    ·rcases kx with q|q<;>(rw[k] at q;cases q)
    ·have e:=d7 _ _ ha;rw[ha'] at e;cases e;exact hcell.keeps hk
 ·obtain⟨v,z⟩:=I.cell x a (d7 x a e);exact⟨v,z.keeps hk⟩
 ·have hp:p=(D,ob):=by
   have:p∈[(D,ob)]:=hp;simpa using this
  subst hp;refine⟨SM,I.bq.fresh hD,MQ,fun z =>?_,VM⟩
  rcases Jq.mp (I.uc D z) with q|q
  ·exact lL I.lt hD q
  ·exact I.Oa hD q
 ·show(Jp Nc.length none++eB σ js).length=(Nc++Fc).length;unfold eB;rw[Jt,Jt,Ut,Jd,c.lens]
end
def GI (X:Cx)(ifs:List ZA)(t:TT):Prop:=
 ∀ ⦃pins:List (Gc×Obj)⦄ (s:Wp) (σ:St) (H:Hp) (Q:Bool->Hp->Prop),Inv X pins σ H s->t σ H Q->YX (YW X.prog X.w) X.A (ow ifs X.env) (TP X pins σ Q) X.xe s
def Pc:TT:=fun _ H Q=>Q true H
def dU:GI X [] Pc:=fun _ _ _ H _ I h=>wpAny_tests_nil ⟨H,I,h⟩
def Aw (h:PT X c t):GI X [c] t:=fun pins s σ H Q I hw=>wpAny_tests_one (h s σ H Q I hw)
def zP (J:It)(n:Nat)(js:List Nat)(g:TG)(tc:TT)(te:TE)(σ:St)(H1:Hp)(fin:List V->Hp->Prop):Prop:=
 ∃W:Nat->Nat->List V->Hp->Prop,(∃m,W 0 m [] H1)/\∀i m ys H,W i m ys H ->
  (J.stop i H/\fin ys H) \/
  (J.go i H/\ys.length<KE/\∀x H',J.yld i H x H'->g x (Jp n none++eB σ js) H' fun σ2 H2=>tc σ2 H2 fun b H3=>
   if b=true then te σ2 H3 fun y H4=>∃m',m'<m/\W (i+1) m' (ys++[y]) H4 else ∃m',m'<m/\W (i+1) m' ys H3)
def Fe (wi:TI)(n:Nat)(js:List Nat)(g:TG)(tc:TT)(te:TE):TE:=fun σ H Q=>wi σ H fun J H1=>
 zP J n js g tc te σ H1 fun ys H2=>∀p,H2 p=none->Q (.ref p) (upd H2 p (.lst ys))
def Gk (n:Nat)(g:TG):Prop:=∀x σ H Q,g x σ H Q->g x σ H fun σ' H'=>Q σ' H'/\(∀j,n<=j -> σ'[j]? = σ[j]?) /\ σ'.length = σ.length
def QX (n:Nat)(g:CS):Prop:=∀x σ H Q,g x σ H Q->g x σ H fun σ' H'=>Q σ' H'/\(∀j,n<=j -> σ'[j]? = σ[j]?) /\ σ'.length = σ.length
def bG {n i:Nat}(h:i<n:=by decide):Gk n (rV i):=fun x σ H Q q=>⟨q,fun j hj=>Yb ⋯,Wa⟩
def kj:QX n LQ:=fun x σ H Q q=>⟨q.1,q.2,fun _ _=>rfl,rfl⟩
def cP (h1:Gk n t)(h2:QX n u)(mt:∀x σ H Q Q',(∀a b,Q a b->Q' a b)->t x σ H Q->t x σ H Q')(mu:∀x σ H Q Q',(∀a b,Q a b->Q' a b)->u x σ H Q->u x σ H Q'):QX n (Fu t u):=fun x σ H Q q=>by
 obtain⟨v,r,e,q⟩:=q;refine⟨v,r,e,mt _ _ _ _ _ (fun σ1 H1 z=>(aj.el (z) _ ?_)) (h1 _ _ _ _ q)⟩;rintro z k1 l1;exact mu _ _ _ _ _ (fun σ2 H2 ⟨z2,k2,l2⟩=>⟨z2,fun j hj=>(k2 j hj).trans (k1 j hj),l2.trans l1⟩) (h2 _ _ _ _ z)
def nB {K:Ja}{n m:Nat}{t:CS}(h:QX n t):Gk n (Kk K m t):=fun x σ H Q q=>by
 obtain⟨a,xs,e,h1,h2,q⟩:=q;exact⟨a,xs,e,h1,h2,h _ _ _ _ q⟩
def rW {elt tg iter:ZA}{ifs:List ZA}{scope:QaT}{pos:Pos}{Nc Fc:List Str}{js:List Nat}{wi:TI}{g:TG}{tc:TT}{te:TE}{use:Option (Fk->Sem Unit)}{QV:Fk->Wp->Prop}
  (fZ:X.calm=true) (c:gI X scope Nc Fc js) (hi:PI X tg iter wi)
  (hg:∀cl C s H fp,PG (lI X Nc Fc scope cl C s H fp) tg g) (AK:∀cl C s H fp,GI (lI X Nc Fc scope cl C s H fp) ifs tc) (DH:∀cl C s H fp,PE (lI X Nc Fc scope cl C s H fp) elt te) (gk:Gk Nc.length g)
  {pins:List (Gc×Obj)} {s:Wp} {σ:St} {H:Hp} {fin:List V->Hp->Prop} (I:Inv X pins σ H s)
  (h:wi σ H fun J H1=>zP J Nc.length js g tc te σ H1 fin)
  (behind:∀C D m ys H2 s2,Inv X pins σ (upd H2 D (.lst ys)) s2->s2.heap.Ns C m->gz X pins (upd H2 D (.lst ys)) C->H2 D=none->fin ys H2->QdG (YW X.prog X.w) X.A X.xe use QV (.ref D) C (.ok .next) s2)
  (hs:∀x,Qag iter X.env x=pure x) :
  YX (YW X.prog X.w) X.A (comprehension (.ListComp elt [⟨tg,iter,ifs,0⟩] scope pos) scope X.env (firstIterPos [⟨tg,iter,ifs,0⟩] pos) (newList []) false (ZM iter X.env) use) QV X.xe s:=by
 obtain⟨cl,hclos,d7,kq⟩:=kM fun y hy hf=>I.ok.has y.1 (c.free y hy hf);refine Qci rfl hs hclos c.kind c.names (bb (hi s σ H _ I h) fun v s1 h1=>bb h1 fun ND s2 h2 =>?_);obtain⟨it,fp,tn,J,H2,e,I2,T,fB,f2,W,⟨m0,w0⟩,turn⟩:=h2;subst e;refine ZJ (QcY c.nocell (by intro y hy;simp at hy) (fun h1 hns1 hsb1 =>?_) c.kind);generalize hG:s2.heap.push { cls := .type "list",dict:=none,data := .seq ([]:List Fk).toArray } = G at hns1 hsb1 ⊢;have hC:G.objs.size=s2.heap.objs.size+1:=by rw[<-hG,Uc]
 have MQ:s2.heap.objs.size≠G.objs.size:=by rw[hC];exact Jl (Wd _)
 have hle:s2.heap.objs.size<=G.objs.size:=by rw[hC];exact Yu _
 have old:=fun b o e=>
  hsb1.extBut b o (ck (Jf e) hle) (Jb _ (hG▸Jb _ e))
 have ic:h1.PlainList s2.heap.objs.size #[]:=⟨_,hsb1.extBut _ _ MQ (Jb _ (hG▸Jh _ rfl))⟩
 obtain⟨n0,ic⟩:=ic;have fo:∀b∈fp,∃o,s2.heap.get? b=some o:=fun b hb=>let ⟨o,e,_⟩:=T.obj 0 _ fB b hb; ⟨o,e⟩;have qV:=fun b hb=>let ⟨o,e⟩:=fo b hb;Jf e
 let Xc:Cx:=lI X Nc Fc scope cl G.objs.size s2 H2 fp
 let D:Gc:=s2.heap.objs.size
 have kL:∀{pl:List (Gc×Obj)} {H':Hp},(∀p∈pl,p.1=D)->(∀b∈fp,H' b=none)->∀b∈fp,gz Xc pl H' b:=fun{pl H'} hp hn b hb=>by
  refine⟨hn b hb,?_,?_,.inl hb,fun x a e =>?_,fun p hq =>?_⟩
  ·exact ck (qV b hb) hle
  ·exact(qe I2 c d7 kq hle f2 fo).exfs b hb
  ·exact(f2 b hb).2.2.2.2.1 x a (d7 _ _ e)
  ·have q:p∈([]:List (Gc×Obj))++pl:=hq;rw[hp p (by simpa using q)];exact lL (qV b hb) (Je _)
 have loop:∀t1,ZW (YW X.prog X.w) X.A (.compLoop (.ListComp elt [⟨tg,iter,ifs,0⟩] scope pos) 0 (.ref it) (.ref s2.heap.objs.size) (compEnvC scope cl G.objs.size X.env))
   (QdG (YW X.prog X.w) X.A X.xe use QV (.ref s2.heap.objs.size) G.objs.size) { s2 with heap:=h1,toks:=t1 }:=by
  refine fun t1=>ye (fun n s'=>∃i ys H' aF k,Inv Xc [(D,{ cls := .type "list",data := .seq aF k })] (Jp Nc.length none++eB σ js) H' s'/\Vals ys aF.toList/\ys.length<=KE/\tn i s'.heap/\(∀b∈fp,H' b=none)/\W i n ys H') ?_ m0
   ⟨0,[],H2,#[],n0,GN I2 c d7 kq hle (Je _) MQ f2 fo old hns1 ic (fun _ z=>nomatch z),.nil,Uq _,T.keep _ _ _ fB (fun b hb o e=>old b o e),fun b hb=>(f2 b hb).1,w0⟩
  refine fun n s3 hz_=>aj.el hz_ _ ?_;rintro i ys H3 aF k I3 rv hz dZ fr3 w3;have EZ:∀p∈[(D,({ cls := .type "list",data := .seq aF k }:Obj))],p.1=D:=fun p hp=>congrArg Prod.fst (Ju.mp hp)
  rcases turn i n ys H3 w3 with ⟨stop,qn⟩|⟨go,jv,step⟩
  ·refine bb (T.done Xc rfl rfl rfl fZ i _ s3 _ H3 m6 I3 (kL EZ fr3) dZ stop) fun r s4 hz_ =>?_;refine aj.el hz_ _ ?_;rintro hr I4;subst hr;obtain⟨hDo,hDn,hDne,hDfs,_⟩:=I4.pin (D,_) (Jo _ Jm);refine aj.el (I4.loc) _ ?_;rintro mC hmC _;have u:=I4.base;have L6:=I2.bq.fresh (Je _);have u':Un (kJ X.stack) fp H2 (upd H3 D (.lst ys)) s2.heap s4.heap:=
    ⟨u.keep,u.slot,fun b o e n hx=>by rw[au ((fun b o e=>Jl (Jf e)) b o e)];exact u.free b o e n hx,u.there,
      fun b xs e=>by rw[au (aH e L6)];exact u.jC b xs e,fun b o xs e=>by rw[au (aH e L6)];exact u.jw b o xs e,
      fun b ps e=>by rw[au (aH e L6)];exact u.kr b ps e⟩
   have sI:∀b∈fp,(b∈X.ex\/X.s₀.heap.objs.size<=b)/\b≠X.env.locals/\(∀x c,X.env.cells.lookup x=some c->c≠b)/\∀p∈X.pn++pins,p.1≠b:=fun b hb=>
    ⟨(f2 b hb).2.2.2.1,(f2 b hb).2.1,(f2 b hb).2.2.2.2.1,(f2 b hb).2.2.2.2.2⟩
   refine behind G.objs.size D mC ys H3 s4 (I2.Ag I4.os u' (I4.bq.adopt hDn ⟨hz,aF.toList,k,rv,by simpa using hDo⟩) I4.bare sI) hmC (I2.fu hle ?_) hDn qn;rw[au (Zx MQ)];exact I4.free
  ·refine bb (T.item Xc rfl rfl rfl fZ i _ s3 _ H3 m6 I3 (kL EZ fr3) dZ go) fun r s4 hz_ =>?_;refine aj.el hz_ _ ?_;rintro u hr h4;subst hr;refine bb h4 fun _ s5 hz_=>aj.el hz_ _ ?_;rintro x H5 I5 r5 y5 cu fr5;refine bb (hg cl G.objs.size s2 H2 fp s5 _ H5 x u _ (I5.pinned (kL EZ fr5) (T.obj _ _ cu)) r5 (gk _ _ _ _ (step x H5 y5))) fun _ s6 hz_=>aj.el hz_ _ ?_;rintro σ6 H6 I6 q6 kσ kl;refine bb (AK cl G.objs.size s2 H2 fp s6 σ6 H6 _ I6 q6) fun b s7 hz_=>aj.el hz_ _ ?_;rintro H7 I7 q7;have later:∀{σ':St} {H':Hp} {s':Wp},Inv Xc ([(D,({ cls := .type "list",data := .seq aF k }:Obj))]++hV fp s5.heap) σ' H' s'->tn (i+1) s'.heap/\∀b∈fp,H' b=none:=fun{σ' H' s'} Iz=>by
    refine⟨T.keep _ _ _ cu fun b hb o e=>(Iz.pin (b,o) (Jo _ (Jo _ (dj hb e)))).1,fun b hb=>aj.el (T.obj _ _ cu b hb) _ ?_⟩;rintro o e d;exact(Iz.pin (b,o) (Jo _ (Jo _ (dj hb e)))).2.1
   have back:∀{pl:List (Gc×Obj)} {H':Hp} {s':Wp},Inv Xc pl σ6 H' s'->Inv Xc pl (Jp Nc.length none++eB σ js) H' s':=fun{pl H' s'} Iz=>by
    refine Iz.weak (by rw[<-kl]) fun j v hj =>?_
    by_cases hn:j<Nc.length
    ·rw[U3 (by simpa using hn),Yn] at hj
     split at hj<;>cases hj
    ·rw[kσ j ⋯];exact hj
   cases b with
   | false=>
    rw[if_neg Jr] at q7 ⊢;refine aj.el (q7) _ ?_;rintro m' va w7;obtain⟨l1,l2⟩:=later I7;exact⟨m',va,i+1,ys,H7,aF,k,back I7.eO,rv,hz,l1,l2,w7⟩
   | true=>
    refine bb (DH cl G.objs.size s2 H2 fp s7 σ6 H7 _ I7 q7) fun yv s8 hz_=>aj.el hz_ _ ?_;rintro y H8 I8 r8 q8;refine aj.el (q8) _ ?_;rintro m' va w8;obtain⟨hDo,hDn,hDne,hDfs,_⟩:=I8.pin (D,_) (Jo _ (Us _ Jm));obtain⟨l1,l2⟩:=later I8;have hits:aF.size=ys.length:=by
     have e1:=rv.length;simp -iota only [Ue] at e1;lia
    refine wpAny_list_append_plain ⟨k,hDo⟩ fun h9 RI hs9 =>?_;obtain⟨k9,hD9⟩:=RI;have SI:∀p∈hV fp s5.heap,p.1≠D:=fun p hp=>by
     obtain⟨hb,_⟩:=rZ hp;exact ck (qV _ hb) (Je _)
    have I9:Inv Xc (hV fp s5.heap) σ6 H8 { s8 with heap:=h9,toks:=s8.toks }:=(I8.oK fun p hp=>I8.pin p (Jo _ (Jo _ hp))).turned (fun b o hb e=>hs9.extBut b o hb e) hDn MQ (.inr (Je _))
     (fun x a e z=>by
      obtain⟨v,q⟩:=I2.cell x a (d7 _ _ e);exact ck q.lt (Je _) z) (fun p hp=>SI p (by
       have hp:p∈([]:List (Gc×Obj))++hV fp s5.heap:=hp;simpa using hp))
    obtain⟨lH,fr9⟩:tn (i+1) h9/\∀b∈fp,H8 b=none:=by
     exact⟨T.keep _ _ _ l1 fun b hb o e=>hs9.extBut b o (ck (qV _ hb) (Je _)) e,l2⟩
    refine⟨m',va,i+1,ys++[y],H8,aF.push yv,k9,back (I9.oK fun p hp =>?_),?_,?_,lH,fr9,w8⟩
    ·cases Ju.mp hp;exact⟨hD9,hDn,hDne,hDfs,fun _ z=>nomatch z⟩
    ·rw[Qa3];exact rv.append (.cons r8 .nil)
    ·rw[Jt,Qcr];lia
 exact codeAny_compStart_list (loop _) (T.self _ 0 _ _ _ (T.keep _ _ _ fB fun b hb o e=>old b o e) (loop _))
def fH {elt tg iter:ZA}{ifs:List ZA}{scope:QaT}{pos:Pos}{Nc Fc:List Str}{js:List Nat}{wi:TI}{g:TG}{tc:TT}{te:TE}
  (fZ:X.calm=true) (c:gI X scope Nc Fc js) (hi:PI X tg iter wi) (gk:Gk Nc.length g)
  (hg:∀cl C s H fp,PG (lI X Nc Fc scope cl C s H fp) tg g) (AK:∀cl C s H fp,GI (lI X Nc Fc scope cl C s H fp) ifs tc) (DH:∀cl C s H fp,PE (lI X Nc Fc scope cl C s H fp) elt te)
  (hs:∀x,Qag iter X.env x=pure x:=by intro _;rfl) :
  PE X (.ListComp elt [⟨tg,iter,ifs,0⟩] scope pos) (Fe wi Nc.length js g tc te):=
 fun pins s σ H Q I h=>rW fZ c hi hg AK DH gk I h (fun C D m ys H2 s2 I2 hm hC hD q=>⟨m,hm,fun h' hs'=>⟨.ref D,_,I2.turned (fun b o hb e=>hs'.extBut b o hb e) hC.1 (hC.2.1) hC.2.2.2.1 hC.2.2.2.2.1 hC.2.2.2.2.2,rfl,q D hD⟩⟩) hs
def kR {i:Nat}{y:Str}{elt tg iter:ZA}{ifs:List ZA}{scope:QaT}{pos pos' py:Pos}{Nc Fc:List Str}{js:List Nat}{wi:TI}{g:TG}{tc:TT}{te:TE}(hN:X.N.Nodup)(hy:X.N[i]? = some y)(hl:Loc X.env.scope y)
  (fZ:X.calm=true) (c:gI X scope Nc Fc js) (hi:PI X tg iter wi) (gk:Gk Nc.length g)
  (hg:∀cl C s H fp,PG (lI X Nc Fc scope cl C s H fp) tg g) (AK:∀cl C s H fp,GI (lI X Nc Fc scope cl C s H fp) ifs tc) (DH:∀cl C s H fp,PE (lI X Nc Fc scope cl C s H fp) elt te)
  (X4:Qc4 (.ListComp elt [⟨tg,iter,ifs,0⟩] scope pos) (some (.Name y py)) pos'.line X.env=pure true:=by rfl)
  (hs:∀x,Qag iter X.env x=pure x:=by intro _;rfl)
  (hf:X.fn y=true\/X.env.scope.names.lookup y=some .local:=by first|exact .inl rfl|exact .inr rfl|assumption) :
  PS X (.Assign [.Name y py] (.ListComp elt [⟨tg,iter,ifs,0⟩] scope pos) pos') (GK (Fe wi Nc.length js g tc te) (rV i)):=by
 intro pins s σ H E I h;rw[exec_Assign_Name_used _ _ _ _ X4];refine be (Qab (be (be (bb (rW fZ c hi hg AK DH gk I h (fun C D m ys H2 s2 I2 hm hC hD q=>(wpAny_assign_Name (rT I2 hN hy hl (v := .ref D) rfl (fun s3 I3 ⟨a,hsa,ha⟩=>?_) hf))) hs) fun _ s' hq=>tz (tz hq)))));have xA:C≠a:=by
  rcases ha with e|e
  ·rw[e];exact hC.2.1
  ·exact fun z=>hC.2.2.2.2.1 _ _ e z.symm
 exact⟨m,hm.at' fun o e=>hsa.extBut _ o xA e,fun h' hs'=>⟨_,_,I3.turned (fun b o hb e=>hs'.extBut b o hb e) hC.1 hC.2.1 hC.2.2.2.1 hC.2.2.2.2.1 hC.2.2.2.2.2,q D hD⟩⟩
section
variable {X:Cx}{pins:List (Gc×Obj)}{σ:St}{H:Hp}{s:Wp}{p:Gc}{ys:List V}
def rB (hh:A.handled=none)(I:Inv X pins σ H s)(hq:bg X.K H p ys){R:Fk->Wp->Prop}{E:Fk->Wp->Prop}
  (h:∀aF it s2,Vals ys aF->aF.length<=KE ->
   Walks X.prog X.w A it [it,p] [it] aF.toArray.size (fun i v=>aF.toArray[i]? = some v) (fun i h=>h.IsListIter it p i/\h.IsList p aF.toArray)->(s2.heap.IsListIter it p 0/\s2.heap.IsList p aF.toArray)->(∀b∈[it,p],b<s2.heap.objs.size) ->
   (∀h' tk,(∀b o,b∉[it]->s2.heap.get? b=some o->h'.get? b=some o)->Inv X pins σ H { s2 with heap:=h',toks:=tk })->R (.ref it) s2) :
  YX (YW X.prog X.w) A (Qd9 (.ref p)) R E s:=by
 obtain⟨aF,rv,pl,hz⟩:=I.list hq;have hl:=pl.isList;have hp:p<s.heap.objs.size:=by obtain⟨o,e,_⟩:=hl;exact Jf e
 refine Qbh hl (h aF s.heap.objs.size _ rv (by have:=rv.length;lia) (Walks.list hh _ p (Jl hp) aF.toArray) ⟨⟨_,Jh _ rfl,rfl,rfl⟩,hl.push _⟩ (fun b hb =>?_) fun h' tk hk =>?_)
 ·show b<(s.heap.push _).objs.size;rw[Uc]
  rcases Jq.mp hb with rfl|hb
  ·exact Wd _
  ·rw[Ju.mp hb];exact Qa9 hp
 ·exact I.kept fun b o e=>hk b o (fun z=>ck (Jf e) (Je _) (Ju.mp z)) (Jb _ e)
def i9 (r:Vals ys aF){i:Nat}{v:Fk}(e:aF.toArray[i]? = some v):∃y,ys[i]? = some y/\RelV y v:=by
 have e':aF[i]? = some v:=by simpa using e
 have hi:=(Ji.mp e').1;have hl:=r.length;obtain⟨u,h1,h2⟩:=r.get (i:=i) (x:=ys[i]'⋯) (by simp);rw[e'] at h1;cases h1;exact⟨_,by simp,h2⟩
def Bn (bs:List Bool):(Qbg bs.length).all (fun i=>bs.getD i false)=bs.all id:=by
 induction bs with
 | nil=>rfl
 | cons b r ih=>
  rw[Jn,Qcf,QaW,List.all_map,QaW,<-ih]
  rfl
def Ck (bs:List Bool):(Qbg bs.length).any (fun i=>bs.getD i false)=bs.any id:=by
 induction bs with
 | nil=>rfl
 | cons b r ih=>
  rw[Jn,Qcf,Y8,QeJ,Y8,<-ih]
  rfl
def vh {bs:List Bool}{aF:List Fk}(r:Vals (bs.map V.bl) aF):TruthOf X.prog X.w A (fun i v=>aF.toArray[i]? = some v) (fun i=>bs.getD i false):=by
 intro i v s Q E e hQ;obtain⟨y,h1,h2⟩:=i9 r e;rw[Jk] at h1;cases q:bs[i]? with
 | none=>rw[q] at h1;cases h1
 | some b=>
  rw[q] at h1;cases h1;cases h2;have:bs.getD i false=b:=by simp[ q]
  have hQ:Q (bs.getD i false) s:=hQ;rw[this] at hQ;exact tz hQ
def wI (hc:X.calm=true):bF X (.builtin "all") (fun xs H Q=>∃(p:Gc) (bs:List Bool),xs=[.ref p]/\bg X.K H p (bs.map V.bl)/\Q (.bl (bs.all id)) H):=by
 intro pins s σ H xs us Q I r h;obtain⟨p,bs,rfl,hq,q⟩:=h;obtain⟨u,rfl,ru⟩:=vals1 r;cases ru;refine call_all_walk (rB (A:=X.A.in1) (I.ok.hd hc) I hq fun aF it s2 rv hz W st jv hI=>⟨it,_,_,_,_,_,fun i=>bs.getD i false,rfl,W,st,vh rv,fun h' tk hk =>?_⟩);have hl:aF.toArray.size=bs.length:=by have:=rv.length;simp at this ⊢;lia
 rw[hl,Bn];exact⟨.bl _,H,hI h' tk hk,rfl,q⟩
def wD (hc:X.calm=true):bF X (.builtin "any") (fun xs H Q=>∃(p:Gc) (bs:List Bool),xs=[.ref p]/\bg X.K H p (bs.map V.bl)/\Q (.bl (bs.any id)) H):=by
 intro pins s σ H xs us Q I r h;obtain⟨p,bs,rfl,hq,q⟩:=h;obtain⟨u,rfl,ru⟩:=vals1 r;cases ru;refine call_any_walk (rB (A:=X.A.in1) (I.ok.hd hc) I hq fun aF it s2 rv hz W st jv hI=>⟨it,_,_,_,_,_,fun i=>bs.getD i false,rfl,W,st,vh rv,fun h' tk hk =>?_⟩);have hl:aF.toArray.size=bs.length:=by have:=rv.length;simp at this ⊢;lia
 rw[hl,Ck];exact⟨.bl _,H,hI h' tk hk,rfl,q⟩
def Nr (K:Ja)(hc:X.calm=true)(hK:X.K=K:=by rfl):bF X (.builtin "all") (fun xs H Q=>∃(p:Gc) (bs:List Bool),xs=[.ref p]/\bg K H p (bs.map V.bl)/\Q (.bl (bs.all id)) H):=by subst hK;exact wI hc
def SD (K:Ja)(hc:X.calm=true)(hK:X.K=K:=by rfl):bF X (.builtin "any") (fun xs H Q=>∃(p:Gc) (bs:List Bool),xs=[.ref p]/\bg K H p (bs.map V.bl)/\Q (.bl (bs.any id)) H):=by subst hK;exact wD hc
def kF:KC X "str.startswith" (fun x vs H Q=>∃a b,x = .str a/\vs=[.str b]/\Q (.bl (Qa7 a b)) H):=by
 intro pins s σ H x vs v us Q I rx rv h;obtain⟨a,b,rfl,rfl,q⟩:=h;obtain⟨t,rfl⟩:=rx;obtain⟨u,rfl,t',rfl⟩:=rv.one;exact SC.startswith ⟨.bl _,H,I,rfl,q⟩
def BM:KC X "str.strip" (fun x vs H Q=>∃a b,x = .str a/\vs=[.str b]/\a.length<=KE/\Q (.str (Qed a b)) H):=by
 intro pins s σ H x vs v us Q I rx rv h;obtain⟨a,b,rfl,rfl,hz,q⟩:=h;obtain⟨t,rfl⟩:=rx;obtain⟨u,rfl,t',rfl⟩:=rv.one;exact SC.stripChars (fun t' k=>⟨.str _,H,I.tok _,⟨_,rfl⟩,q⟩) hz
def F2:∀{xs:List Str} {aF:List Fk},Vals (xs.map V.str) aF->StrsAre aF xs:=by
 intro xs aF r
 induction xs generalizing aF with
 | nil=>cases r;exact StrsAre.nil
 | cons x xs ih=>
  cases r with
  | cons r1 r2=>
   obtain⟨t,rfl⟩:=r1;exact StrsAre.cons x t (ih r2)
def Ia:KC X "str.join" (fun x vs H Q=>∃sep p xs,x = .str sep/\vs=[.ref p]/\bg X.K H p (xs.map V.str)/\(xs.map (·.length)).sum+xs.length*sep.length<=16777216/\Q (.str (Qad sep xs)) H):=by
 intro pins s σ H x vs v us Q I rx rv h;obtain⟨sep,p,xs,rfl,rfl,hq,hz,q⟩:=h;obtain⟨t,rfl⟩:=rx;obtain⟨u,rfl,ru⟩:=rv.one;cases ru;obtain⟨aF,r',pl,_⟩:=I.list hq;exact join_list pl.isList (F2 r') hz fun t' k=>⟨.str _,H,I.tok _,⟨_,rfl⟩,q⟩
end
mutual
def Den (K:Ja)(H:Hp):Za->V->Prop
 | .none,v=>v = .non
 | .bool b,v=>v = .bl b
 | .int i,v=>v = .int i
 | .str x,v=>v = .str x
 | .list ds,v=>fG fun a vs=>v = .ref a/\bg K H a vs/\a8 K H ds vs
 | .tuple ds,v=>fG fun a vs=>v = .ref a/\aY K H a vs/\a8 K H ds vs
 | .dict _,_=>False
def a8 (K:Ja)(H:Hp):List Za->List V->Prop
 | [],vs=>vs=[]
 | d::ds,vs=>fG fun v r=>vs=v::r/\Den K H d v/\a8 K H ds r
end
def ar.bO {K:Ja}{H H':Hp}{a:Gc}{xs:List V}(e:ar H H')(h:aY K H a xs):aY K H' a xs:=by
 rcases h with (h|⟨o,h⟩)|h
 ·exact .inl (.inl (e _ _ h))
 ·exact .inl (.inr ⟨o,e _ _ h⟩)
 ·exact .inr h
mutual
def Den.same {K:Ja}{H H':Hp}(e:ar H H'):∀{d:Za} {v:V},Den K H d v->Den K H' d v
 | .none,_,h=>by unfold Den at h ⊢;exact h
 | .bool _,_,h=>by unfold Den at h ⊢;exact h
 | .int _,_,h=>by unfold Den at h ⊢;exact h
 | .str _,_,h=>by unfold Den at h ⊢;exact h
 | .list ds,_,h=>by
  unfold Den at h ⊢;obtain⟨a,vs,h1,h2,h3⟩:=h;exact⟨a,vs,h1,e.seq h2,a8.same e h3⟩
 | .tuple ds,_,h=>by
  unfold Den at h ⊢;obtain⟨a,vs,h1,h2,h3⟩:=h;exact⟨a,vs,h1,e.bO h2,a8.same e h3⟩
 | .dict _,_,h=>by unfold Den at h;exact h.elim
def a8.same {K:Ja}{H H':Hp}(e:ar H H'):∀{ds:List Za} {vs:List V},a8 K H ds vs->a8 K H' ds vs
 | [],_,h=>by unfold a8 at h ⊢;exact h
 | d::ds,_,h=>by
  obtain⟨v,r,h1,h2,h3⟩:=h;exact⟨v,r,h1,Den.same e h2,a8.same e h3⟩
end
mutual
def Den.reads {X:Cx}{pins:List (Gc×Obj)}{σ:St}{H:Hp}{s:Wp}(I:Inv X pins σ H s):∀{d:Za} {v:V} {u:Fk},Den X.K H d v->RelV v u->∃as,Reads s.heap u d as
 | .none,_,_,h,r=>by unfold Den at h;subst h;cases r;exact⟨_,.none⟩
 | .bool _,_,_,h,r=>by unfold Den at h;subst h;cases r;exact⟨_,.bool _⟩
 | .int _,_,_,h,r=>by unfold Den at h;subst h;obtain⟨t,rfl⟩:=r;exact⟨_,.int _ _⟩
 | .str _,_,_,h,r=>by unfold Den at h;subst h;obtain⟨t,rfl⟩:=r;exact⟨_,.str _ _⟩
 | .list ds,_,_,h,r=>by
  unfold Den at h;obtain⟨a,vs,rfl,h2,h3⟩:=h;cases r;obtain⟨aF,rv,⟨o,n,e1,e2,_,e4⟩,_⟩:=I.list h2;obtain⟨as,q⟩:=a8.reads I h3 rv;exact⟨_,.list e1 e2 e4 (by simpa using q)⟩
 | .tuple ds,_,_,h,r=>by
  unfold Den at h;obtain⟨a,vs,rfl,h2,h3⟩:=h;cases r;obtain⟨aF,rv,⟨o,e1,e2,n,e4⟩,_⟩:=I.tuple h2;obtain⟨as,q⟩:=a8.reads I h3 rv;exact⟨_,.tuple e1 e2 e4 (by simpa using q)⟩
 | .dict _,_,_,h,_=>by unfold Den at h;exact h.elim
def a8.reads {σ:St}{H:Hp}{s:Wp}(I:Inv X pins σ H s):∀{ds:List Za} {vs:List V} {us:List Fk},a8 X.K H ds vs->Vals vs us->∃as,ReadsAll s.heap us ds as
 | [],_,_,h,r=>by unfold a8 at h;subst h;cases r;exact⟨_,.nil⟩
 | d::ds,_,_,h,r=>by
  obtain⟨v,q,rfl,h2,h3⟩:=h;cases r with
  | cons r1 r2=>
   obtain⟨as,q1⟩:=Den.reads I h2 r1;obtain⟨bs,q2⟩:=a8.reads I h3 r2;exact⟨_,.cons q1 q2⟩
end
section
variable {X:Cx}
open PySem.SeqAt in
def Le (hu:X.A.units+64<QbN):eW X (Zv .Eq) (fun x y H Q=>∃d e,Den X.K H d x/\Den X.K H e y/\shaped d=true/\shaped e=true/\Q (.bl (ZP d e)) H):=by
 intro pins s σ H x y v u Q I rx ry h;obtain⟨d,e,hd,he,sd,se,q⟩:=h;obtain⟨as,r1⟩:=hd.reads I rx;obtain⟨bs,r2⟩:=he.reads I ry;exact eq_dataH r1 r2 sd se hu ⟨.bl _,H,I,rfl,q⟩
open PySem.SeqAt in
def MI (hu:X.A.units+64<QbN):eW X (Zv .NotEq) (fun x y H Q=>∃d e,Den X.K H d x/\Den X.K H e y/\shaped d=true/\shaped e=true/\Q (.bl (!PyData.eqv d e)) H):=by
 intro pins s σ H x y v u Q I rx ry h;obtain⟨d,e,hd,he,sd,se,q⟩:=h;obtain⟨as,r1⟩:=hd.reads I rx;obtain⟨bs,r2⟩:=he.reads I ry;exact ne_dataH r1 r2 sd se hu ⟨.bl _,H,I,rfl,q⟩
def Ki:eW X (Zv .Is) (fun x y H Q=>∃a b,x = .bl a/\y = .bl b/\Q (.bl (decide (a=b))) H):=by
 intro pins s σ H x y v u Q I rx ry h;obtain⟨a,b,rfl,rfl,q⟩:=h;cases rx;cases ry;refine wpAny_is_plain rfl (bf I q ?_);cases a<;>cases b<;>rfl
def Cb:eW X (Zv .IsNot) (fun x y H Q=>∃a b,x = .bl a/\y = .bl b/\Q (.bl (!decide (a=b))) H):=by
 intro pins s σ H x y v u Q I rx ry h;obtain⟨a,b,rfl,rfl,q⟩:=h;cases rx;cases ry;refine wpAny_isNot_plain rfl (bf I q ?_);cases a<;>cases b<;>rfl
def EA:bF X (.builtin "isinstance") (fun xs H Q=>∃x T t b,xs=[x,.ty T]/\lM X.K H x t/\Ud X.K t (.type T)=some b/\Q (.bl b) H):=by
 intro pins s σ H xs us Q I r h;obtain⟨x,T,t,b,rfl,ty,e,q⟩:=h;obtain⟨u,w',rfl,r1,r2⟩:=vals2 r;cases r2;exact Bl I r1 ty e fun tk=>⟨.bl b,H,I.tok _,rfl,q⟩
def Li:CO X (fun x lo hi H Q=>∃z,x = .str z/\z.length<=KE/\Q (.str (Zi z lo hi)) H):=by
 intro pins s σ H x v vl vu lo hi sl Q I rx hs pl pu q;obtain⟨z,rfl,hz,q⟩:=q;obtain⟨t,rfl⟩:=rx;refine⟨"str",_,F.slot_str_getitem.lookup,QcE _ _ _,?_⟩;have fin:∀t' k,EP X pins σ Q (.str (Zi z lo hi) t') { s with toks:=k }:=fun t' k=>⟨.str _,H,I.tok _,⟨_,rfl⟩,q⟩
 cases pl with
 | none=>
  cases pu with
  | none=>exact Qbb (l:=none) (u:=none) (st:=none) hs rfl (QcH ⟨Jg (Qcl z _ _) hz,fin⟩)
  | int j uj=>exact Qbb (l:=none) (u:=some (j,uj)) (st:=none) hs rfl (QcH ⟨Jg (Qcl z _ _) hz,fin⟩)
 | int i ui=>
  cases pu with
  | none=>exact Qbb (l:=some (i,ui)) (u:=none) (st:=none) hs rfl (QcH ⟨Jg (Qcl z _ _) hz,fin⟩)
  | int j uj=>exact Qbb (l:=some (i,ui)) (u:=some (j,uj)) (st:=none) hs rfl (QcH ⟨Jg (Qcl z _ _) hz,fin⟩)
end
section
variable {X:Cx}{pins:List (Gc×Obj)}{σ:St}{H:Hp}{s:Wp}{h':Heap}
def Inv.iter {ch:List Gc}(I:Inv X pins σ H s)(hf:∀b∈ch,gz X pins H b)(keep:∀b o,b∉ch->s.heap.get? b=some o->h'.get? b=some o):Inv X pins σ H { s with heap:=h',toks:=t' }:=by
 have I0:∀b u,H b=some u->b∉ch:=fun b u e z=>by rw[(hf b z).1] at e;cases e
 refine I.step (fun b hb=>⟨(hf b hb).2.2.2.1,(hf b hb).2.1,(hf b hb).2.2.2.2.1,(hf b hb).2.2.2.2.2⟩) (fun b o _ _ hc e _=>keep b o hc e) (fun b o _ _ hc e _=>⟨o.slots,keep b o hc e⟩)
  (fun _ _ _ _ n=>n) (fun b o hc e=>⟨o,keep b o hc e⟩) (fun _ _ e=>e) (fun _ _ _ e=>e) (fun b ps e=>⟨#[],by rw[e];simp⟩) (fun m hm=>hm.at' fun o e=>keep _ o (fun z=>(hf _ z).2.1 rfl) e) (fun b u e =>?_) I.bare
 refine(I.bq b u e).gW (fun c v hc q=>keep c v ?_ q) (fun _ q=>q) fun _ _ q=>q
 rcases hc with z|z
 ·rw[z];exact I0 b u e
 ·exact I0 c _ z
def Inv.adopt (I:Inv X pins σ H s)(hT:gz X pins H T)(hex:X.s₀.heap.objs.size<=T)(new:bt X.prog X.w (upd H T o) s.heap T o):Inv X pins σ (upd H T o) s:=
 ⟨I.ok,I.os,I.bare,⟨I.base.keep,I.base.slot,fun b ob e n hx=>by rw[au (ck (Jf e) hex)];exact I.base.free b ob e n hx,I.base.there,
   fun b xs e=>by rw[au (aH (I.base.jC b xs e) hT.1)];exact I.base.jC b xs e,fun b ob xs e=>by rw[au (aH (I.base.jw b ob xs e) hT.1)];exact I.base.jw b ob xs e,
   fun b ps e=>by
    obtain⟨m,q⟩:=I.base.kr b ps e;exact⟨m,by rw[au (aH q hT.1)];exact q⟩⟩,
  I.loc,I.cell,by rw[au (Zx hT.2.1)];exact I.free,fun x c e=>by rw[au (hT.2.2.2.2.1 x c e)];exact I.freeC x c e,
  fun p hp=>by
   refine aj.el (I.pin p hp) _ ?_;rintro a b c d f;exact⟨a,by rw[au (hT.2.2.2.2.2 p hp)];exact b,c,d,f⟩,I.bq.adopt hT.1 new,I.len⟩
end
def pG {i:Nat}{x:V}(r:Vals xs aF)(e:xs[i]? = some x):∃u,aF.toArray[i]? = some u/\RelV x u:=by
 refine aj.el (r.get e) _ ?_;rintro u h1 h2;exact⟨u,by simpa using h1,h2⟩
def T9 (K:Ja)(a:Gc):It:=
 ⟨fun i H=>fG fun xs x=>bg K H a xs/\xs[i]? = some x,
   fun i H v H'=>∃T,v = .ref T/\H T=none/\∀xs x,bg K H a xs->xs[i]? = some x->H'=upd H T (.tup [.int i,x]),
   fun i H=>∃xs,bg K H a xs/\xs.length<=i⟩
def BW {K:Ja}{elts:List ZA}{k:Nat}{tp:Pos}(e it l:Gc)(L9:e≠it)(hle:l≠e)(YS:l≠it):
  Turn P w K (.Tuple elts k tp) (T9 K l) [e,it] e (fun i h=>(∃old,IsEnum h e it i old)/\h.IsListIter it l i) where
 mem:=by simp
 obj:=fun i h st b hb=>by
  obtain⟨⟨_,h1⟩,⟨o4,h4,_,d4⟩⟩:=st;simp at hb
  rcases hb with rfl|rfl
  ·exact⟨_,h1,fun _ z=>nomatch z⟩
  ·exact⟨_,h4,fun v q=>by rw[d4] at q;cases q⟩
 keep:=fun i h h' st hk=>by
  obtain⟨⟨a,h1⟩,h4⟩:=st;exact⟨⟨a,hk e (by simp) _ h1⟩,h4.at fun o e=>hk it (by simp) o e⟩
 item:=fun X hP hw hK hc i pins s σ H E I hf st go=>by
  subst hP hw hK;obtain⟨⟨old,he⟩,h1⟩:=st;obtain⟨xs,x,q1,e1⟩:=go;obtain⟨its1,r1,p1,_⟩:=I.list q1;obtain⟨u1,g1,ru1⟩:=pG r1 e1;refine wpAny_pyNext_enum_item he h1 p1.isList g1 L9 fun h' a1 a3 a5 a6 a7=>⟨_,rfl,(wpAny_letOwnedTupleGo_enum a1 fun h'' b1 b2 =>?_)⟩
  have kp:∀c o,c∉[e,it]->s.heap.get? c=some o->h''.get? c=some o:=fun c o hc z=>by
   simp only[Jq,Uk,or_false,not_or] at hc;exact b2.extBut c o hc.1 (a7 c o hc.1 hc.2 z)
  have I1:Inv X pins σ H { s with heap:=h'',toks:=s.toks+1 }:=I.iter hf kp;have fT:=I.fu (Je _) (I.bq.fresh (Je _));refine⟨.ref s.heap.objs.size,_,(I1.adopt (o := .tup [.int i,x]) fT I.sz ⟨by show 2<=KE;decide,[.int i s.toks,u1],.cons ⟨_,rfl⟩ (.cons ru1 .nil),⟨_,(b2.extBut _ _ (lL (Jf he) (Je _)) a5),rfl,rfl,_,rfl⟩⟩),rfl,⟨_,rfl,fT.1,fun xs' x' q1' e1' =>?_⟩,⟨⟨_,by
   have z:(((i+1:Nat):Int))=(i:Int)+1:=by lia
   rw[z];exact b1⟩,a3.extBut b2.extBut (Zx L9)⟩,fun c hc =>?_⟩
  ·rw[I.qf q1' q1] at e1';rw[e1] at e1';cases e1';rfl
  ·have CT:c<s.heap.objs.size:=by
    simp at hc;obtain⟨_,h1,_⟩:=h1
    rcases hc with rfl|rfl
    ·exact Jf he
    ·exact Jf h1
   rw[au (ck CT (Je _))];exact(hf c hc).1
 done:=fun X hP hw hK hc i pins s σ H E I hf st stop=>by
  subst hP hw hK;obtain⟨⟨old,he⟩,h1⟩:=st;obtain⟨xs,q1,e⟩:=stop;obtain⟨its1,r1,p1,_⟩:=I.list q1;have VY:=r1.length;exact wpAny_pyNext_enum_end (I.ok.hd hc) he h1 p1.isList (by simp;lia) fun h' kp=>⟨rfl,(I.iter (ch:=[it]) (fun c hc=>hf c (by simp at hc ⊢;simp[hc])) fun c o hc z=>kp c o (fun q=>hc (by simp[q])) z)⟩
 self:=fun A i s Q E st hQ=>by
  obtain⟨⟨old,he⟩,_⟩:=st;exact wpAny_pyIter_enum he hQ
section
variable {X:Cx}
def O1 (K:Ja)(ta:TA):TI:=fun σ H R=>ta σ H fun vs H1=>∃a,vs=[.ref a]/\(∃xs,bg K H1 a xs)/\R (T9 K a) H1
def G9 {elts:List ZA}{k:Nat}{tp:Pos}{a:ZA}{ta:TA}{p pos:Pos}(hg:Gl X "enumerate")(hm:X.mg "enumerate" = none)(ha:PA X [a] ta)(hb:ZO "enumerate" = some (.type "enumerate"):=by first|rfl|decide)(hs:Ze [a] X.env=[(false,ZM a X.env)]:=by rfl):
  PI X (.Tuple elts k tp) (.Call (.Name "enumerate" p) [a] [] pos) (O1 X.K ta):=by
 refine fun pins s σ H R I h=>Call_ (eZ I hg hm hb (Zl (bb (ha s σ H _ I h) fun us s1 hz_=>aj.el hz_ _ fun vs H1 I1 r1 q1 =>?_) hs rfl));obtain⟨l1,e,⟨xs,q1⟩,q⟩:=q1;subst e;obtain⟨u,rfl,ru⟩:=vals1 r1;cases ru;obtain⟨its1,rv1,p1,_⟩:=I1.list q1;have a1:l1<s1.heap.objs.size:=by obtain⟨_,e,_⟩:=p1.isList;exact Jf e
 refine call_enumerate_list p1.isList (fun h' he hi1 hsz hk=>wpAny_pyIter_enum he ?_);have I2:Inv X pins σ H1 { s1 with heap:=h' }:=I1.kept hk;refine⟨_,_,_,_,H1,rfl,I2,BW _ _ _ (Nat.succ_ne_self _) (Jl (Qa9 a1)) (Jl a1),⟨⟨_,he⟩,hi1⟩,fun c hc =>?_,q⟩;have CT:s1.heap.objs.size<=c:=by
  simp at hc
  rcases hc with rfl|rfl
  ·exact Ua _ _
  ·exact Je _
 exact I1.fu CT (I1.bq.fresh CT)
end
section
variable {X:Cx}
def Pj:R2:=fun x y H Q=>(fG fun i j=>x = .int i/\y = .int j/\Q (.int (i+j)) H)\/(∃i j,x = .str i/\y = .str j/\i.length+j.length<=KE/\Q (.str (i++j)) H)\/PK x y H Q
def N3:eW X (Z6 .Add) Pj:=Ld.or (y6.or Lp)
def OT:R2:=fun x y H Q=>(fG fun i j=>x = .int i/\y = .int j/\xX i j/\Q (.int (i*j)) H)\/OM x y H Q
def PY:eW X (Z6 .Mult) OT:=KA.or K3
structure Fn (P:YZ)(w:Zb)(K:Ja)(mg:Str->Option Fk)(base:Heap)(k:Nat)(x:Str)(ps:List Str)(sp:Sp):Prop where
 ex:∃f fd,aW P w K mg base dI k f fd ps sp/\Binds K fd ps []/\Yc K (.ref f)=true/\mg x=some (.ref f)
def Fn.mono {K:Ja}{mg:Str->Option Fk}{base:Heap}{j k:Nat}{x:Str}{ps:List Str}{sp:Sp}(F:Fn P w K mg base j x ps sp)(h:j<=k):Fn P w K mg base k x ps sp:=by
 refine aj.el (F.ex) _ ?_;rintro f fd a b c d;exact⟨f,fd,a.mono h,b,c,d⟩
def aA {p pos:Pos}{e:ZA}{es:List ZA}{t:TA}(F:Fn X.prog X.w X.K X.mg X.base k x ps sp)(hr:dw k X.A)(hg:Gl X x)
  (ha:PA X (e::es) t) (qW:(x==("__debug__" : Str))=false:=by decide) (he:Ze (e::es) X.env=(false,ZM e X.env)::Ze es X.env:=by rfl) (nY:(QaS pos (Ze es X.env)).any (·.1)=false:=by rfl) :
  PE X (.Call (.Name x p) (e::es) [] pos) (Ax sp [] E0 t):=by
 refine aj.el (F.ex) _ ?_;rintro f fd a b c d;exact Hd a hr hg d c b .nil rL ha qW he nY
end
def zT (pn sn:List (Str×Qbn))(N Fc:List Str)(js:List Nat):Bool:=
 sn.all (fun y=>y.2 != .cell)&&sn.all (fun y=>y.2 != .local||sn.lookup y.1==some .local)&&sn.all (fun y=>y.2 != .free||pn.lookup y.1==some .cell||pn.lookup y.1==some .free)&&js.length==Fc.length &&
 (Qbg Fc.length).all fun k=>match Fc[k]?,js[k]? with
  | some x,some j=>sn.lookup x==some .free&&N[j]? == some x
  | _,_=>false
def cS {X:Cx}{scope:QaT}{Nc Fc:List Str}{js:List Nat}(hk:scope.kind = .function:=by rfl)(h:zT X.env.scope.names scope.names X.N Fc js=true:=by rfl):gI X scope Nc Fc js:=by
 unfold zT at h;simp -iota only [Js,U1,Bool.or_eq_true,bne_iff_ne,beq_iff_eq,ne_eq] at h;obtain⟨⟨⟨⟨h1,h2⟩,h3⟩,h4⟩,h5⟩:=h;refine⟨hk,h1,fun y hy hl=>(h2 y hy).resolve_left (fun z=>z hl),fun y hy hf =>?_,fun k x hx =>?_,h4⟩
 ·rcases h3 y hy with (z|z)|z
  ·exact absurd hf z
  ·exact .inl z
  ·exact .inr z
 ·have VZ:=(Ji.mp hx).1;have q:=h5 k (List.mem_range.mpr VZ);have hj:k<js.length:=by lia
  rw[hx,Jc hj] at q;simp only[Js,beq_iff_eq] at q;exact⟨q.1,_,Jc hj,q.2⟩
section
variable {X:Cx}
def Rt (hu:X.A.units+64<QbN):eW X (Zv .Eq) (fun x y H Q=>Qb x y H Q\/(∃d e,Den X.K H d x/\Den X.K H e y/\Zy d=true/\Zy e=true/\Q (.bl (ZP d e)) H)):=Qa.or (Le hu)
def Si (hu:X.A.units+64<QbN):eW X (Zv .NotEq) (fun x y H Q=>Sm x y H Q\/(∃d e,Den X.K H d x/\Den X.K H e y/\Zy d=true/\Zy e=true/\Q (.bl (!PyData.eqv d e)) H)):=Pb.or (MI hu)
def lY:eW X (Zv .Is) (fun x y H Q=>(y = .non/\Q (.bl (decide (x = .non))) H)\/(∃a b,x = .bl a/\y = .bl b/\Q (.bl (decide (a=b))) H)):=L1.or Ki
def zL:eW X (Zv .IsNot) (fun x y H Q=>(y = .non/\Q (.bl (!decide (x = .non))) H)\/(∃a b,x = .bl a/\y = .bl b/\Q (.bl (!decide (a=b))) H)):=HP.or Cb
def Oz:CO X (fun x lo hi H Q=>L3 X.K x lo hi H Q\/(∃z,x = .str z/\z.length<=KE/\Q (.str (Zi z lo hi)) H)):=Hl.or Li
structure Nm (mg:Str->Option Fk):Prop where
 n_len:mg "len" = none
 n_range:mg "range" = none
 n_max:mg "max" = none
 n_min:mg "min" = none
 n_sum:mg "sum" = none
 n_all:mg "all" = none
 n_any:mg "any" = none
 n_list:mg "list" = none
 n_tuple:mg "tuple" = none
 n_int:mg "int" = none
 n_str:mg "str" = none
 n_bool:mg "bool" = none
 n_zip:mg "zip" = none
 n_enumerate:mg "enumerate" = none
 n_isinstance:mg "isinstance" = none
 n_divmod:mg "divmod" = none
end
def dS {n:Nat}{js:List Nat}{g:TG}{tc:TT}{te:TE}{σ:St}{H1:Hp}{fin:List V->Hp->Prop}(N:Nat)(Pv:Nat->List V->Hp->Prop)(h0:Pv 0 [] H1)
  (go:∀i ys H (Nx:List V->Hp->Prop),i<N->Pv i ys H->(∀ys' H',Pv (i+1) ys' H'->Nx ys' H')->J.go i H/\ys.length<KE /\
   ∀x H',J.yld i H x H'->g x (Jp n none++eB σ js) H' fun σ2 H2=>tc σ2 H2 fun b H3=>if b=true then te σ2 H3 fun y H4=>Nx (ys++[y]) H4 else Nx ys H3)
  (stop:∀ys H,Pv N ys H->J.stop N H/\fin ys H):zP J n js g tc te σ H1 fin:=by
 refine⟨fun i m ys H=>m=N-i/\i<=N/\Pv i ys H,⟨N,by simp,Uq _,h0⟩,(fun i m ys H hz_=>aj.el hz_ _ ?_)⟩;rintro rfl hi p
 by_cases jv:i<N
 ·exact .inr (go i ys H (fun ys' H'=>∃m',m'<N-i/\(m'=N-(i+1)/\i+1<=N/\Pv (i+1) ys' H')) jv p fun ys' H' q=>⟨_,⋯,rfl,jv,q⟩)
 ·have e:i=N:=by lia
  subst e;exact .inl (stop ys H p)
section
variable {X:Cx}(K:Ja)
def eG (hK:X.K=K:=by rfl):Ge X (SY K):=by subst hK;exact KN
def Sw (hK:X.K=K:=by rfl):CO X (fun x lo hi H Q=>L3 K x lo hi H Q\/(∃z,x = .str z/\z.length<=KE/\Q (.str (Zi z lo hi)) H)):=by subst hK;exact Oz
def eE (hK:X.K=K:=by rfl):bF X (.builtin "len") (fun xs H Q=>∃x n,xs=[x]/\KI K x H n/\Q (.int n) H):=by subst hK;exact EJ
def zV (hK:X.K=K:=by rfl):KC X "str.join" (fun x vs H Q=>∃sep p xs,x = .str sep/\vs=[.ref p]/\bg K H p (xs.map V.str)/\(xs.map (·.length)).sum+xs.length*sep.length<=16777216/\Q (.str (Qad sep xs)) H):=by subst hK;exact Ia
def JQ {tg l:ZA}{tl:TE}(hl:PE X l tl)(hK:X.K=K:=by rfl):PI X tg l (JA K tl):=by subst hK;exact Hj hl
def tupK {pos:Pos}{es:List ZA}{k:Nat}{t:CS}(n:Nat)(hc:X.calm=true)(h:Po X es t)(hn:(Qbs es X.env).length=n:=by rfl)(lA:(Qbs es X.env).findIdx? (·.1)=none:=by rfl)(hK:X.K=K:=by rfl):PG X (.Tuple es k pos) (Kk K n t):=by subst hK;exact K1 hc h hn lA
def uN {to:TE}{t:TA}{name:Str}{apos eF:Pos}{T id:String}{r:V->List V->Hp->VK->Prop}(pa:PlainAttrs T)(slot:Slot T name id)(RZ:typeOf (.builtin id)=pure (.type "method_descriptor"))(hm:KC X id r)(ho:PE X o to)(ha:PA X (e::es) t)
  (wo:QaK o name X.env (ZM o X.env)=ZM o X.env:=by rfl)
  (Cd:((QaS eF (Ze (e::es) X.env)).all (fun x => !x.1)&&(backToKw eF (Qeq [] X.env)).all (fun x=>x.1.isSome)
   && decide ((e::es).length+([]:List QeK).length+(if ([]:List QeK).isEmpty then 0 else 1)<30))=true:=by rfl)
  (vW:(apos.endLine==eF.line)=true:=by rfl) (hs:Ze (e::es) X.env=(false,ZM e X.env)::Ze es X.env:=by rfl) (yy:(QaS eF (Ze es X.env)).any (·.1)=false:=by rfl) (hK:X.K=K:=by rfl) :
  PE X (.Call (.Attribute o name apos) (e::es) [] eF) (S3 K T r to t):=by subst hK;exact NJ pa slot RZ hm ho ha wo Cd vW hs yy
def kW (hu:X.A.units+64<QbN)(hK:X.K=K:=by rfl):eW X (Zv .Eq) (fun x y H Q=>Qb x y H Q\/(∃d e,Den K H d x/\Den K H e y/\Zy d=true/\Zy e=true/\Q (.bl (ZP d e)) H)):=by subst hK;exact Rt hu
def DE (hu:X.A.units+64<QbN)(hK:X.K=K:=by rfl):eW X (Zv .NotEq) (fun x y H Q=>Sm x y H Q\/(∃d e,Den K H d x/\Den K H e y/\Zy d=true/\Zy e=true/\Q (.bl (!PyData.eqv d e)) H)):=by subst hK;exact Si hu
end
abbrev Keeps (g h:Heap)(c:Gc->Prop):Prop:=∀b o,¬c b->g.get? b=some o->h.get? b=some o
structure vA (prog:YZ)(w:Zb)(A:Zs)(it S:Gc)(T:String)(fp:Gc->Prop)(n:Nat)(P:Nat->Fk->Heap->Prop)(R:Fk->Fk->Prop)(St:Nat->Heap->Prop):Prop where
 sfp:¬fp S
 ne:it≠S
 ty:∀i h,St i h->∃o,h.get? it=some o/\o.cls = .type T
 self:∀(s:Wp) (Q:Fk->Wp->Prop) (E:Fk->Wp->Prop),St 0 s.heap->Q (.ref it) s->YX (YW prog w) A (Qd9 (.ref it)) Q E s
 item:∀i (s:Wp) (Q:Option Fk->Wp->Prop) (E:Fk->Wp->Prop),i<n->St i s.heap->S<s.heap.objs.size ->
  (∀v h' tk,Keeps s.heap h' fp->St (i+1) h'->P i v h'->(∀j u,P j u s.heap->R u v)->Q (some v) { s with heap:=h',toks:=tk })->YX (YW prog w) A (QaM (.ref it)) Q E s
 stop:∀(s:Wp) (Q:Option Fk->Wp->Prop) (E:Fk->Wp->Prop),St n s.heap->S<s.heap.objs.size->(∀h' tk,Keeps s.heap h' fp->Q none { s with heap:=h',toks:=tk })->YX (YW prog w) A (QaM (.ref it)) Q E s
 keepS:∀i h h',St i h->Keeps h h' (· = S)->St i h'
 keepP:∀j v h h',P j v h->Keeps h h' (fun b=>fp b\/b=S)->P j v h'
 nolen:Qar (.type T) "__len__" = pure none
 nohint:Qar (.type T) "__length_hint__" = pure none
 nl:(Z0 T==Z0 "list")=false
 nt:(Z0 T==Z0 "tuple")=false
structure nP (h:Heap)(S:Gc)(i:Nat)(P:Nat->Fk->Heap->Prop)(R:Fk->Fk->Prop)(acc:Array Fk)(c:Nat):Prop where
 ob:h.get? S=some { cls := .type "list",data := .seq acc c }
 sz:acc.size=i
 pw:acc.toList.Pairwise R
 all:∀(j:Nat) v,acc[j]? = some v->P j v h
abbrev qh (prog:YZ)(w:Zb)(A:Zs)(R:QaU->Wp->Prop):Fin->Wp->Prop:=fun fin s'=>match fin with
 | .done f=>R (.ok f) s'
 | .again c'=>c'.quiet=true/\ZW (YW prog w) A c' R s'
section
variable {prog:YZ}{w:Zb}{A:Zs}{it S:Gc}{T:String}{fp:Gc->Prop}{n:Nat}{P:Nat->Fk->Heap->Prop}{R:Fk->Fk->Prop}{St:Nat->Heap->Prop}
abbrev oM (g:Heap)(S:Gc)(fp:Gc->Prop)(n:Nat)(P:Nat->Fk->Heap->Prop)(R:Fk->Fk->Prop)(s:Wp)(Z:Wp->Prop):Prop:=
 ∀h' tk acc c,Keeps g h' (fun b=>fp b\/b=S)->nP h' S n P R acc c->Z { s with heap:=h',toks:=tk }
def sG (Fd:vA prog w A.in1 it S T fp n P R St)(hn:n<=KE){s:Wp}{Z:QaU->Wp->Prop}{res:Fk}{g:Heap}(fin:oM g S fp n P R s (Z (.ok (.ret res)))):
  ∀k i h tk acc c,i+k=n->St i h->nP h S i P R acc c->Keeps g h (fun b=>fp b\/b=S) ->
   ZW (YW prog w) A (.builtin "list.extend.loop" ⟨[.ref S,.ref it,res],[]⟩) Z { s with heap:=h,toks:=tk }
 | 0,i,h,tk,acc,c,hk,lA,G,kp=>by
  have e:i=n:=by lia
  subst e;exact ZD QaL (be (Fd.stop { s with heap:=h,toks:=tk } _ _ lA (Jf G.ob) fun h' tk' k'=>tz (fin h' tk' acc c (fun b o nb q=>k' b o (fun z=>nb (.inl z)) (kp b o nb q)) ⟨k' _ _ Fd.sfp G.ob,G.sz,G.pw,fun j v e=>Fd.keepP _ _ _ _ (G.all j v e) fun b o nb q=>k' b o (fun z=>nb (.inl z)) q⟩)))
 | k+1,i,h,tk,acc,c,hk,lA,G,kp=>by
  refine ZD QaL (be (Fd.item i { s with heap:=h,toks:=tk } _ _ ⋯ lA (Jf G.ob) fun v h' tk' k' st' pv rv =>?_));have Lm:=k' _ _ Fd.sfp G.ob;have other:Keeps h' (h'.update S (ZF (·.push v))) (· = S):=fun b o nb q=>(J3 _ _ (Zx nb)).trans q;have k2:Keeps h (h'.update S (ZF (·.push v))) (fun b=>fp b\/b=S):=fun b o nb q=>other b o (fun z=>nb (.inr z)) (k' b o (fun z=>nb (.inl z)) q);have sz:=G.sz;refine be (Z5 Lm rfl (tz ⟨ZU Z1 _,(sG Fd hn fin k (i+1) _ tk' (acc.push v) _ ⋯ (Fd.keepS _ _ _ st' other) ⟨J2 _ Lm rfl,by rw[QaX,sz],?_,fun j u e =>?_⟩ (fun b o nb q=>k2 b o nb (kp b o nb q)))⟩) (by rw[sz];lia) (by show(acc.push v).size<=KE+1;rw[QaX,sz];lia))
  ·rw[Qa3];refine Y0.mpr ⟨G.pw,Qa0 _ _,fun a ha b hb =>?_⟩;obtain⟨j,hj⟩:=J4.mp ha;rw[Ju.mp hb];exact rv j a (G.all j a (by simpa using hj))
  ·by_cases hj:j<i
   ·rw[QeB ⋯] at e;exact Fd.keepP _ _ _ _ (G.all j u (by rw[Jx ⋯];exact e)) k2
   ·have Ky:j=i:=by
     have:=(U2.mp e).1;rw[QaX] at this;lia
    subst Ky;have e':(acc.push v)[acc.size]? = some u:=by rw[sz];exact e
    rw[Qen] at e';cases e';exact Fd.keepP _ _ _ _ pv fun b o nb q=>other b o (fun z=>nb (.inr z)) q
def v9 (Fd:vA prog w A.in1 it S T fp n P R St)(hn:n<=KE){s:Wp}{Z:QaU->Wp->Prop}{res:Fk}{c₀:Nat}(lA:St 0 s.heap)(hS:s.heap.get? S=some { cls := .type "list",data := .seq #[] c₀ })
  (fin:oM s.heap S fp n P R s (Z (.ok (.ret res)))) :
  YX (YW prog w) A.in1 (Z8 (.ref S) (.ref it) res) (qh prog w A Z) (fun e s'=>Z (.error e) s') s:=by
 have go:∀h c tk,Keeps s.heap h (· = S)->h.get? S=some { cls := .type "list",data := .seq #[] c } -> ZW (YW prog w) A (.builtin "list.extend.loop" ⟨[.ref S,.ref it,res],[]⟩) Z { s with heap:=h,toks:=tk }:=
  fun h c tk k o=>sG Fd hn fin n 0 h tk #[] c ⋯ (Fd.keepS _ _ _ lA k) ⟨o,rfl,.nil,fun j v e=>by simp at e⟩ fun b o nb q=>k b o (fun z=>nb (.inr z)) q
 obtain⟨oi,hoi,hci⟩:=Fd.ty 0 _ lA;have hT:s.TypeIs (.ref it) T:=⟨oi,hoi,hci⟩
 have vZ:Z2 (.ref S) (.ref it)=false:=by simp[Z2,Zx Fd.ne]
 refine be (ZV hT ?_);simp only[vZ,Fd.nl,Fd.nt,if_false];refine be (Fd.self s _ _ lA ?_);have hint:∀Q,Q true s->YX (YW prog w) A.in1 (Qay (.ref it)) Q (fun e s'=>Z (.error e) s') s:=fun Q q=>by
  exact be (QbG hT Fd.nolen (Qai (fun z=>absurd z ∅) fun _=>Qai (fun z=>absurd z ∅) fun _=>be (QbG hT Fd.nohint (tz q))))
 refine be (Zf (hint _ (Qai (fun _=>(be (Qah (be ?_)))) fun _=>tz ⟨ZU Z1 _,go _ c₀ _ (fun _ _ _ q=>q) hS⟩)));have o1:=J2 (ZF (·.push Qbe)) hS rfl;refine be (Z5 hS rfl (Z5 o1 rfl (tz ⟨ZU Z1 _,go _ _ _ (fun b o nb q =>?_) (J2 (ZF (·.pop)) o1 rfl)⟩)));exact(J3 _ _ (Zx nb)).trans ((J3 _ _ (Zx nb)).trans q)
def Bg (Fd:vA prog w A.in1 it S T fp n P R St)(hn:n<=KE){s:Wp}{Z:QaU->Wp->Prop}(lA:St 0 s.heap)(hS:s.heap.get? S=some { cls := .type "list",data := .seq #[] })
  (fin:oM s.heap S fp n P R s (Z (.ok (.ret .none)))) :
  YX (YW prog w) A.in1 (Builtin.«list.__init__» ⟨[.ref S,.ref it],[]⟩) (qh prog w A Z) (fun e s'=>Z (.error e) s') s:=by
 refine be (be (Zq hS rfl (tz ?_)));have k1:Keeps s.heap (s.heap.update S (ZF (fun _=>(#[]:Array Fk)))) (· = S):=fun b o nb q=>(J3 _ _ (Zx nb)).trans q;refine be (Z5 hS rfl (be (Qba (v9 Fd hn (Fd.keepS _ _ _ lA k1) (J2 (ZF (fun _=>(#[]:Array Fk))) hS rfl) fun h' tk acc c k G =>?_))));exact fin h' tk acc c (fun b o nb q=>k b o nb (k1 b o (fun z=>nb (.inr z)) q)) G
def sf {Q:Fk->Wp->Prop}{E:Fk->Wp->Prop}(Fd:vA prog w A.in1.in1 it s.heap.objs.size T fp n P R St)(hn:n<=KE)(lA:∀o,St 0 (s.heap.push o))
  (fin:∀h' tk acc c,Keeps s.heap h' fp->nP h' s.heap.objs.size n P R acc c->Q (.ref s.heap.objs.size) { s with heap:=h',toks:=tk }) :
  YX (YW prog w) A (call (.type "list") [.ref it]) Q E s:=by
 refine QbZ (Q₁:=fun obj s₁=>obj = .ref s.heap.objs.size/\s₁={ s with heap:=s.heap.push { cls := .type "list",data := .seq #[] } }) F.called_list (F.typeCall_list_1 _) F.entry_list_init
  (code_list_new _ ⟨rfl,rfl⟩) fun obj s₁ h₁ =>?_
 obtain⟨rfl,rfl⟩:=h₁;have hS:(s.heap.push { cls := .type "list",data := .seq #[] }).get? s.heap.objs.size=some { cls := .type "list",data := .seq #[] }:=Jh _ rfl;exact⟨⟨_,hS,rfl⟩,F.args_list_init_2 _ _,Bg Fd hn (lA _) hS fun h' tk acc c k G=>⟨rfl,fin h' tk acc c (fun b o nb q=>(k b o (fun z=>z.elim nb fun z=>ck (Jf q) (Je _) z) (Jb _ q))) G⟩⟩
end
abbrev iw (h:Heap)(z TI TO a:Gc)(f:Bool):Prop:=
 h.get? z=some { cls := .type "zip",dict:=none,data := .fields #[ZT a,.bool f,.bool false,.ref TI,.ref TO],slots := #[] }
section
variable {prog:YZ}{w:Zb}{A:Zs}{E:Fk->Wp->Prop}{s:Wp}{z TI TO i1 i2 l1 l2 a:Gc}{f:Bool}{oa:Obj}
def l9 (hz:iw s.heap z TI TO a f)(ha:s.heap.get? a=some oa)
  (q:∀h,iw h z TI TO a true->U4 z s.heap h->Q false { s with heap:=h }):YX (YW prog w) A (Builtin.SmallTypes.ownedTupleIsFree (.ref z)) Q E s:=by
 refine be (Zg hz rfl rfl (be (Qfd ha (be (Zg hz rfl rfl ?_)))));cases f
 ·exact be (Zd hz (by simp) fun h e k=>tz (q h e k))
 ·exact tz (q s.heap hz (U4.refl _ _))
def tI (D:Qbz z TI TO i1 i2 l1 l2)(hz:iw s.heap z TI TO a f)(ha:s.heap.get? a=some oa)(qE:Qam s.heap TI (.ref i1) (.ref i2))
  (h1:s.heap.IsListIter i1 l1 k) (h2:s.heap.IsListIter i2 l2 k) (qR:s.heap.IsList l1 xs) (CQ:s.heap.IsList l2 ys) (hx:xs[k]? = some x) (hy:ys[k]? = some y)
  (q:∀h',iw h' z TI TO a true->h'.IsListIter i1 l1 (k+1)->h'.IsListIter i2 l2 (k+1)->Qam h' s.heap.objs.size x y->Keeps s.heap h' (fun b=>b=z\/b=i1\/b=i2)->Q (some (.ref s.heap.objs.size)) { s with heap:=h' }) :
  YX (YW prog w) A (QaM (.ref z)) Q E s:=by
 have hT:s.TypeIs (.ref z) "zip":=⟨_,hz,rfl⟩
 refine be (ZN (Zj hT ZH (Zm ZH hT Qaz ?_ (Qav _))));change YX _ _ (QaO (QeR (.ref z) 2) _) _ _ _;refine be (Zg hz rfl rfl (be (Zg hz rfl rfl (be (Zq qE rfl (be (l9 hz ha fun h0 z0 k0=>be (be (be (Zf (be (Qal (h1.extBut k0.extBut D.i1z) (qR.extBut k0.extBut D.l1z) hx fun h4 e4 k4=>tz (tz (be (be (Zf (be (Qal ((h2.extBut k0.extBut D.i2z).extBut k4.extBut D.i12.symm) ((CQ.extBut k0.extBut D.l2z).extBut k4.extBut D.l2i1) hy fun h5 e5 k5=>tz (tz (tz (be (Qbi (hsz:=by show 2<=KE;decide) (tz ⟨_,rfl,tz ?_⟩)))))))))))))))))))))));have hsz:h5.objs.size=s.heap.objs.size:=by rw[k5.1,k4.1,k0.1]
 rw[hsz];refine q (h5.push { cls := .type "tuple",data := .seq #[x,y] }) (Jb _ (k5.extBut _ _ D.i2z.symm (k4.extBut _ _ D.i1z.symm z0))) ((e4.extBut k5.extBut D.i12).at fun o e=>Jb _ e) (e5.at fun o e=>Jb _ e) (by rw[<-hsz];exact Jh _ rfl) fun b o nb e =>?_;exact Jb _ (k5.extBut _ _ (fun z=>nb (.inr (.inr z))) (k4.extBut _ _ (fun z=>nb (.inr (.inl z))) (k0.extBut _ _ (fun z=>nb (.inl z)) e)))
def tN (hh:A.handled=none)(D:Qbz z TI TO i1 i2 l1 l2)(hz:iw s.heap z TI TO a f)(ha:s.heap.get? a=some oa)(qE:Qam s.heap TI (.ref i1) (.ref i2))
  (h1:s.heap.IsListIter i1 l1 k) (h2:s.heap.IsListIter i2 l2 k) (qR:s.heap.IsList l1 xs) (CQ:s.heap.IsList l2 ys) (he:xs[k]? = none\/ys[k]? = none)
  (q:∀h',Keeps s.heap h' (fun b=>b=z\/b=i1\/b=i2)->Q none { s with heap:=h' }) :
  YX (YW prog w) A (QaM (.ref z)) Q E s:=by
 have hT:s.TypeIs (.ref z) "zip":=⟨_,hz,rfl⟩
 refine be (ZN (Zj hT ZH (Zm ZH hT Qaz ?_ (Qav _))));change YX _ _ (QaO (QeR (.ref z) 2) _) _ _ _;refine be (Zg hz rfl rfl (be (Zg hz rfl rfl (be (Zq qE rfl (be (l9 hz ha fun h0 z0 k0=>be (be (be (Zf ?_))))))))));cases hx:xs[k]? with
 | none=>
  refine be (QcO hh (h1.extBut k0.extBut D.i1z) (qR.extBut k0.extBut D.l1z) hx fun h4 e k4 oe=>aj.el (oe) _ ?_);rintro o ho hc;exact be (ZC ⟨o,ho,hc⟩ Qas (tz (q h4 fun b o nb x=>k4 _ _ (fun z=>nb (.inr (.inl z))) (k0.extBut _ _ (fun z=>nb (.inl z)) x))))
 | some x=>
  refine be (Qal (h1.extBut k0.extBut D.i1z) (qR.extBut k0.extBut D.l1z) hx fun h4 e4 k4=>tz (tz (be (be (Zf (be (QcO hh ((h2.extBut k0.extBut D.i2z).extBut k4.extBut D.i12.symm) ((CQ.extBut k0.extBut D.l2z).extBut k4.extBut D.l2i1) (he.resolve_left (by rw[hx];exact nofun)) fun h5 e k5 oe=>aj.el (oe) _ ?_)))))));rintro o ho hc;exact be (ZC ⟨o,ho,hc⟩ Qas (tz (q h5 fun b o nb x=>k5 _ _ (fun z=>nb (.inr (.inr z))) (k4.extBut _ _ (fun z=>nb (.inr (.inl z))) (k0.extBut _ _ (fun z=>nb (.inl z)) x)))))
end
structure wz (z TI TO i1 i2 l1 l2 S:Gc)(xs ys:Array Fk)(i:Nat)(h:Heap):Prop where
 ti:Qam h TI (.ref i1) (.ref i2)
 to:∃a b,Qam h TO a b
 it1:h.IsListIter i1 l1 i
 it2:h.IsListIter i2 l2 i
 a1:h.IsList l1 xs
 a2:h.IsList l2 ys
 zp:Qe5 h z TI TO .none\/0<i/\∃a f oa,iw h z TI TO a f/\h.get? a=some oa/\S<a
abbrev qr (z TO i1 i2:Gc)(b:Gc):Prop:=b=z\/b=TO\/b=i1\/b=i2
abbrev Av (S:Gc)(xs ys:Array Fk)(j:Nat)(v:Fk)(h:Heap):Prop:=oG fun a x y=>v = .ref a/\S<a/\xs[j]? = some x/\ys[j]? = some y/\Qam h a x y
abbrev j4 (u v:Fk):Prop:=∃a b,u = .ref a/\v = .ref b/\a<b
def uP {z TI TO i1 i2 l1 l2 S:Gc}{xs ys:Array Fk}(hh:A.handled=none)(D:Qbz z TI TO i1 i2 l1 l2)(b1:z<S)(b2:TI<S)(b3:TO<S)(b4:i1<S)(b5:i2<S)(b6:l1<S)(b7:l2<S):
  vA prog w A z S "zip" (qr z TO i1 i2) (min xs.size ys.size) (Av S xs ys) j4 (wz z TI TO i1 i2 l1 l2 S xs ys) where
 sfp:=fun q=>by
  rcases q with q|q|q|q<;>(rw[q] at b1 b3 b4 b5;first|exact absurd b1 (Uh _)|exact absurd b3 (Uh _)|exact absurd b4 (Uh _)|exact absurd b5 (Uh _))
 ne:=Jl b1
 ty:=fun i h st=>by
  rcases st.zp with q|⟨_,a,f,oa,q,_⟩
  ·exact⟨_,q,rfl⟩
  ·exact⟨_,q,rfl⟩
 self:=fun s Q E st q=>by
  rcases st.zp with r|⟨r,_⟩
  ·exact Qct r q
  ·exact absurd r (Uh _)
 item:=fun i s Q E hi st hS q=>by
  obtain⟨ti,⟨a,b,to⟩,it1,it2,a1,a2,zp⟩:=st;have hx:xs[i]? = some (xs[i]'⋯):=Jx ⋯;have hy:ys[i]? = some (ys[i]'⋯):=Jx ⋯;have old:∀j u,Av S xs ys j u s.heap->j4 u (.ref s.heap.objs.size):=fun j u hz_=>aj.el hz_ _ fun a x y e _ _ _ p=>⟨a,_,e,rfl,Jf p⟩
  rcases zp with r|⟨hi0,c,f,oc,r,oc',hc⟩
  ·refine wpAny_pyNext_zip_item D r ti to it1 it2 a1 a2 hx hy fun h' r1 r2 r3 r4 r5 r6 r7 =>?_;have kp:Keeps s.heap h' (qr z TO i1 i2):=fun b o nb e=>r7 b o (fun z=>nb (.inl z)) (fun z=>nb (.inr (.inl z))) (fun z=>nb (.inr (.inr (.inl z)))) (fun z=>nb (.inr (.inr (.inr z)))) e;refine q _ h' s.toks kp ⟨r7 _ _ D.TIz D.TITO D.TIi1 D.TIi2 ti,⟨_,_,r2⟩,r3,r4,a1.at fun o e=>r7 _ _ D.l1z D.l1TO D.l1i1 D.l1i2 e,a2.at fun o e=>r7 _ _ D.l2z D.l2TO D.l2i1 D.l2i2 e,.inr ⟨Qco _,_,_,_,r1,r5,hS⟩⟩ ⟨_,_,_,rfl,hS,hx,hy,r5⟩ old
  ·have ne:∀{b:Gc},b<S->c≠b:=fun hb=>Ul (Wg hb hc);refine tI D r oc' ti it1 it2 a1 a2 hx hy fun h' r1 r2 r3 r4 r5 =>?_;have kp:Keeps s.heap h' (qr z TO i1 i2):=fun b o nb e=>r5 b o (fun z=>z.elim (fun z=>nb (.inl z)) fun z=>nb (.inr (.inr z))) e;refine q _ h' s.toks kp ⟨r5 _ _ (fun z=>z.elim D.TIz fun z=>z.elim D.TIi1 D.TIi2) ti,⟨_,_,r5 _ _ (fun z=>z.elim D.TOz fun z=>z.elim D.TOi1 D.TOi2) to⟩,r2,r3,a1.at fun o e=>r5 _ _ (fun z=>z.elim D.l1z fun z=>z.elim D.l1i1 D.l1i2) e,a2.at fun o e=>r5 _ _ (fun z=>z.elim D.l2z fun z=>z.elim D.l2i1 D.l2i2) e,
    .inr ⟨Qco _,_,_,_,r1,r5 _ _ (fun z=>z.elim (ne b1) fun z=>z.elim (ne b4) (ne b5)) oc',hc⟩⟩ ⟨_,_,_,rfl,hS,hx,hy,r4⟩ old
 stop:=fun s Q E st hS q=>by
  obtain⟨ti,⟨a,b,to⟩,it1,it2,a1,a2,zp⟩:=st;have he:xs[min xs.size ys.size]? = none\/ys[min xs.size ys.size]? = none:=by
   rcases Qe2 xs.size ys.size with h|h
   ·exact .inl (Ur ⋯)
   ·exact .inr (Ur ⋯)
  rcases zp with r|⟨hi0,c,f,oc,r,oc',hc⟩
  ·exact wpAny_pyNext_zip_end hh D r ti to it1 it2 a1 a2 he fun h' k=>q h' s.toks fun b o nb e=>k b o (fun z=>nb (.inl z)) (fun z=>nb (.inr (.inl z))) (fun z=>nb (.inr (.inr (.inl z)))) (fun z=>nb (.inr (.inr (.inr z)))) e
  ·exact tN hh D r oc' ti it1 it2 a1 a2 he fun h' k=>q h' s.toks fun b o nb e=>k b o (fun z=>z.elim (fun z=>nb (.inl z)) fun z=>nb (.inr (.inr z))) e
 keepS:=fun i h h' st k=>by
  obtain⟨ti,⟨a,b,to⟩,it1,it2,a1,a2,zp⟩:=st;refine⟨k _ _ (Jl b2) ti,⟨a,b,k _ _ (Jl b3) to⟩,it1.at fun o e=>k _ o (Jl b4) e,it2.at fun o e=>k _ o (Jl b5) e,a1.at fun o e=>k _ o (Jl b6) e,a2.at fun o e=>k _ o (Jl b7) e,?_⟩
  rcases zp with r|⟨hi0,c,f,oc,r,oc',hc⟩
  ·exact .inl (k _ _ (Jl b1) r)
  ·exact .inr ⟨hi0,c,f,oc,k _ _ (Jl b1) r,k _ _ (Ul hc) oc',hc⟩
 keepP:=fun j v h h' ⟨a,x,y,e,ha,h1,h2,p⟩ k=>by
  have ne:∀{b:Gc},b<S->a≠b:=fun hb=>Ul (Wg hb ha);exact⟨a,x,y,e,ha,h1,h2,k _ _ (fun z=>z.elim (fun z=>z.elim (ne b1) fun z=>z.elim (ne b3) fun z=>z.elim (ne b4) (ne b5)) (Ul ha)) p⟩
 nolen:=by rw[QbI,QaN];kernel_rfl
 nohint:=by rw[QbI,QaN];kernel_rfl
 nl:=∅
 nt:=∅
def Inv.mz {σ:St}:∀(as:List Gc) (ps:List (List V)) {H:Hp} {s:Wp},Inv X pins σ H s->as.Nodup->as.length=ps.length->(∀a∈as,gz X pins H a/\X.s₀.heap.objs.size<=a) ->
  (∀(j:Nat) a p,as[j]? = some a->ps[j]? = some p->p.length<=KE/\∃aF,Vals p aF/\tH s.heap a aF.toArray) ->
  ∃H',Inv X pins σ H' s/\ar H H'/\(∀b,b∉as->H' b=H b)/\∀(j:Nat) a p,as[j]? = some a->ps[j]? = some p->H' a=some (.tup p)
 | [],ps,H,s,I,_,_,_,_=>⟨H,I,ar.refl H,fun _ _=>rfl,fun j a p h _=>by simp at h⟩
 | a::as,[],H,s,I,_,hl,_,_=>by simp at hl
 | a::as,p::ps,H,s,I,nd,hl,hf,ho=>by
  obtain⟨na,PZ⟩:=U6.mp nd;obtain⟨fa,sa⟩:=hf a Jm;obtain⟨hz,aF,rv,ht⟩:=ho 0 a p rfl rfl;obtain⟨H',I',sm,same,all⟩:=Inv.mz as ps (I.adopt (o := .tup p) fa sa ⟨hz,aF,rv,ht⟩) PZ (by simpa using hl) (fun b hb=>by
   obtain⟨fb,sb⟩:=hf b (Jj _ hb);exact⟨⟨by rw[au (fun e=>na (by rw[<-e];exact hb))];exact fb.1,fb.2⟩,sb⟩) (fun j b q h1 h2=>ho (j+1) b q h1 h2)
  refine⟨H',I',fun b o e=>sm b o (by rw[au (aH e fa.1)];exact e),fun b hb =>?_,fun j b q h1 h2 =>?_⟩
  ·rw[same b fun z=>hb (Jj _ z),au (fun z=>hb (by rw[z];exact Jm))]
  ·cases j with
   | zero=>
    cases h1;cases h2;rw[same a na];exact av
   | succ j=>exact all j b q h1 h2
def oJ:∀{l:List Fk},(∀v∈l,∃a,v = .ref a)->∃as:List Gc,l=as.map Zh
 | [],_=>⟨[],rfl⟩
 | v::r,h=>by
  obtain⟨a,rfl⟩:=h v Jm;obtain⟨as,rfl⟩:=oJ fun u hu=>h u (Jj _ hu);exact⟨a::as,rfl⟩
section
variable {X:Cx}
def TJ (K:Ja)(ta:TA):TE:=fun σ H Q=>ta σ H fun vs H1=>lW fun l1 l2 xs ys=>vs=[.ref l1,.ref l2]/\bg K H1 l1 xs/\bg K H1 l2 ys /\
 ∀H' p (as:List Gc),ar H1 H'->H1 p=none->H' p=some (.lst (as.map V.ref))->as.length=min xs.length ys.length ->
  (∀(j:Nat) a x y,as[j]? = some a->xs[j]? = some x->ys[j]? = some y->H1 a=none/\H' a=some (.tup [x,y]))->Q (.ref p) H'
def rY {xs ys:List V}(j:Nat)(x y:V)(hx:xs[j]? = some x)(hy:ys[j]? = some y):((xs.zip ys).map fun q=>[q.1,q.2])[j]? = some [x,y]:=by grind
def yf {p p2 pos pE:Pos}(hc:X.calm=true)(Kj:Gl X "list")(KG:X.mg "list" = none)(NL:Gl X "zip")(Ng:X.mg "zip" = none)(ha:PA X [a,b] ta)
  (ER:ZO "list" = some (.type "list"):=by first|rfl|decide) (Ov:ZO "zip" = some (.type "zip"):=by first|rfl|decide)
  (LH:Ze [.Call (.Name "zip" p2) [a,b] [] pE] X.env=[(false,ZM (.Call (.Name "zip" p2) [a,b] [] pE) X.env)]:=by rfl)
  (hs:Ze [a,b] X.env=[(false,ZM a X.env),(false,ZM b X.env)]:=by rfl) (AG:Ze [b] X.env=[(false,ZM b X.env)]:=by rfl) :
  PE X (.Call (.Name "list" p) [.Call (.Name "zip" p2) [a,b] [] pE] [] pos) (TJ X.K ta):=by
 refine fun pins s σ H Q I h=>ZK (eZ I Kj KG ER (Zl (Qak (Call_ (eZ I NL Ng Ov (Zl (bb (ha s σ H _ I h) fun us s1 hz_=>aj.el hz_ _ fun vs H1 I1 r1 q1 =>?_) (by rw[hs,AG]) (by rw[AG];rfl))))) LH rfl));obtain⟨l1,l2,xs,ys,e,q1,q2,q⟩:=q1;subst e;obtain⟨u,w',rfl,r1,r2⟩:=vals2 r1;cases r1;cases r2;obtain⟨its1,rv1,p1,hz1⟩:=I1.list q1;refine aj.el (I1.list q2) _ ?_;rintro its2 rv2 p2 hz2;have e1:=rv1.length;have e2:=rv2.length;have a1:l1<s1.heap.objs.size:=by obtain⟨_,e,_⟩:=p1.isList;exact Jf e
 have a2:l2<s1.heap.objs.size:=by obtain⟨_,e,_⟩:=p2.isList;exact Jf e
 refine call_zip_2 p1.isList p2.isList fun h' hz qE yP hi1 hi2 hsz hk=>QaG ?_;have sF:s1.heap.objs.size<=h'.objs.size:=by rw[hsz];exact Ua _ _
 have jB:∀n,n<5->s1.heap.objs.size+n<h'.objs.size:=fun n hn=>by rw[hsz];exact QcS hn _
 have zs:∀o,wz (s1.heap.objs.size+4) (s1.heap.objs.size+2) (s1.heap.objs.size+3) s1.heap.objs.size (s1.heap.objs.size+1) l1 l2 h'.objs.size its1.toArray its2.toArray 0 (h'.push o):=fun o=>
  ⟨Jb _ qE,⟨_,_,Jb _ yP⟩,hi1.at fun o e=>Jb _ e,hi2.at fun o e=>Jb _ e,(p1.isList.at fun o e=>hk _ o e).push _,(p2.isList.at fun o e=>hk _ o e).push _,.inl (Jb _ hz)⟩
 refine sf (uP (I.ok.hd hc) (QdD a1 a2) (jB 4 ∅) (jB 2 ∅) (jB 3 ∅) (jB 0 ∅) (jB 1 ∅) (Jw a1 sF) (Jw a2 sF)) (by simp;lia) zs fun h2 tk acc c Lf G =>?_;obtain⟨hS2,hsz2,hpw,jH⟩:=G;obtain⟨as,ic⟩:=oJ (l:=acc.toList) fun v hv=>by
  obtain⟨j,hj⟩:=J4.mp hv;obtain⟨a,_,_,e,_⟩:=jH j v (by simpa using hj);exact⟨a,e⟩
 have jW:∀j a,as[j]? = some a->∃x y,h'.objs.size<a/\its1.toArray[j]? = some x/\its2.toArray[j]? = some y/\Qam h2 a x y:=fun j a h=>by
  obtain⟨a',x,y,e,g⟩:=jH j (.ref a) (by
   have:acc.toList[j]? = some (.ref a):=by rw[ic,Jk,h];rfl
   simpa using this)
  cases e;exact⟨x,y,g⟩
 have above:∀a∈as,h'.objs.size<a:=fun a ha=>by
  obtain⟨j,hj⟩:=J4.mp ha;obtain⟨_,_,g,_⟩:=jW j a hj;exact g
 have old:∀b o,s1.heap.get? b=some o->h2.get? b=some o:=fun b o e=>by
  have gt:∀n,b≠s1.heap.objs.size+n:=fun n=>Jl (Jw (Jf e) (Ua _ _));exact Lf b o (fun z=>z.elim (gt 4) fun z=>z.elim (gt 3) fun z=>z.elim (gt 0) (gt 1)) (hk b o e)
 have I2:Inv X pins σ H1 { s1 with heap:=h2,toks:=tk }:=I1.kept old;have rX:=fun a ha=>Yh (J7 sF (above a ha));have nd:as.Nodup:=by
  rw[ic,Qc7] at hpw;exact hpw.imp fun hz_=>aj.el hz_ _ fun a b e1 e2 h=>by cases e1;cases e2;exact Jl h
 have fu:∀a,s1.heap.objs.size<=a->gz X pins H1 a/\X.s₀.heap.objs.size<=a:=fun a ha=>⟨I1.fu ha (I1.bq.fresh ha),Jg I1.sz ha⟩
 have CV:as.length=min xs.length ys.length:=by
  have z:acc.toList.length=as.length:=by rw[ic,Jd]
  simp at z hsz2;lia
 obtain⟨H',I',sm,same,all⟩:=I2.mz as ((xs.zip ys).map fun q=>[q.1,q.2]) nd (by rw[Jd,Yl];lia) (fun a ha=>fu a (rX a ha)) (fun j a pp h1 h2'=>by
  refine aj.el (jW j a h1) _ ?_;rintro x y _ g1 g2 g3;refine aj.el (i9 rv1 g1) _ ?_;rintro vx gx rx;refine aj.el (i9 rv2 g2) _ ?_;rintro vy gy ry;have z:=rY j vx vy gx gy;rw[z] at h2';cases h2';exact⟨by show 2<=KE;decide,[x,y],.cons rx (.cons ry .nil),⟨_,g3,rfl,rfl,_,rfl⟩⟩)
 have Fx:=fun hm=>Uh _ (above _ hm);have m8:=I1.bq.fresh sF;obtain⟨fS,sS⟩:=fu h'.objs.size sF;have I3:=I'.adopt (o := .lst (as.map V.ref)) ⟨by rw[same _ Fx];exact m8,fS.2⟩ sS ⟨by rw[Jd];lia,acc.toList,c,by
  rw[ic];clear hS2 ic all same I' sm rX nd CV Fx above jW
  induction as with
  | nil=>exact .nil
  | cons a r ih=>exact .cons rfl ih,by simpa using hS2⟩
 refine⟨.ref h'.objs.size,_,I3,rfl,q _ _ as (fun b o e =>?_) m8 av CV fun j a x y h1 h2' h3'=>⟨(fu a (rX a (Jy h1))).1.1,?_⟩⟩
 ·rw[au (aH e m8)];exact sm b o e
 ·rw[au (fun z=>Fx (by rw[<-z];exact Jy h1))];exact all j a [x,y] h1 (rY j x y h2' h3')
end
structure jg (H:Hp)(p:Gc)(o:HO)(H':Hp):Prop where
 nn:H p=none
 eq:H'=upd H p o
def jg.at {p:Gc}{o:HO}(n:jg H p o H'):H' p=some o:=by rw[n.eq];exact av
def jg.ne {p a:Gc}{o:HO}(n:jg H p o H')(h:a≠p):H' a=H a:=by rw[n.eq];exact au h
def jg.same {p:Gc}{o:HO}(n:jg H p o H'):ar H H':=fun a u e=>by rw[n.ne (aH e n.nn)];exact e
def jg.back {p a:Gc}{o:HO}(n:jg H p o H')(h:H' a=none):H a=none:=by
 cases e:H a with
 | none=>rfl
 | some u=>rw[n.same a u e] at h;cases h
structure EO (H:Hp)(p:Gc)(o:HO)(H':Hp):Prop where
 eq:H'=upd H p o
def EO.at {p:Gc}{o:HO}(n:EO H p o H'):H' p=some o:=by rw[n.eq];exact av
def EO.ne {p a:Gc}{o:HO}(n:EO H p o H')(h:a≠p):H' a=H a:=by rw[n.eq];exact au h
def sR {F:Gc->Hp->Prop}:(∀p,H p=none->F p (upd H p o)) = ∀p H',jg H p o H'->F p H':=
 propext ⟨fun h p H' n=>by rw[n.eq];exact h p n.nn,fun h p hp=>h p _ ⟨hp,rfl⟩⟩
def He {F:Hp->Prop}:F (upd H p o) = ∀H',EO H p o H'->F H':=
 propext ⟨fun h H' n=>by rw[n.eq];exact h,fun h=>h _ ⟨rfl⟩⟩
section
variable {X:Cx}{pos:Pos}{es:List ZA}{t:TA}
def JK (t:TA):TE:=fun σ H Q=>t σ H fun xs H1=>xs.length<=KE/\∀p H',jg H1 p (.tup xs) H'->Q (.ref p) H'
def IZ (t:TA):TE:=fun σ H Q=>t σ H fun xs H1=>xs.length<=KE/\∀p H',jg H1 p (.lst xs) H'->Q (.ref p) H'
def bK (h:PA X es t):PE X (.Tuple es x1 pos) (JK t):=by
 have e:JK t=ON t:=by
  funext σ H Q
  show t σ H _=t σ H _
  congr 1;funext xs H1
  exact congrArg (_ /\ ·) (sR).symm
 rw[e];exact DW h
def gE (h:PA X es t):PE X (.List es pos) (IZ t):=by
 have e:IZ t=N2 t:=by
  funext σ H Q
  show t σ H _=t σ H _
  congr 1;funext xs H1
  exact congrArg (_ /\ ·) (sR).symm
 rw[e];exact Lb h
def yW (ya:List (TE×TE)):TE:=fun σ H Q=>∀p H0,jg H p (.dK []) H0->oV ya σ H0 fun ps H2=>H2 p=some (.dK [])/\∃kvs,ps=kvs.map (fun kv=>(kV kv.1,kv.2))/\kvs.length<=15/\∀H3,EO H2 p (.dK (cB [] kvs)) H3->Q (.ref p) H3
def JO (h:NQ X pos keys values ya)(jH:keys.all (·.isSome)=true)(hl:keys.length=values.length)(h0:keys≠[])
  (N0:keys.length<=15):PE X (.Dict keys values pos) (yW ya):=by
 have e:yW ya=F3 ya:=by
  funext σ H Q
  unfold yW F3;rw[sR (F:=fun p H0=>oV ya σ H0 fun ps H2=>H2 p=some (.dK [])/\∃kvs,ps=kvs.map (fun kv=>(kV kv.1,kv.2))/\kvs.length<=15/\Q (.ref p) (upd H2 p (.dK (cB [] kvs))))];simp only[<-He]
 rw[e];exact Hi h jH hl h0 N0
end
section
variable {X:Cx}(K:Ja)
def Rf (K:Ja):V->Option Int->Option Int->Hp->VK->Prop:=fun x lo hi H Q=>(fG fun a xs=>x = .ref a/\bg K H a xs/\∀p H',jg H p (.lst (lq xs lo hi)) H'->Q (.ref p) H')\/(∃z,x = .str z/\z.length<=KE/\Q (.str (Zi z lo hi)) H)
def DK (hK:X.K=K:=by rfl):CO X (Rf K):=by
 subst hK;refine fun pins s σ H x v vl vu lo hi sl Q I rx hs pl pu q=>Oz s σ H x v vl vu lo hi sl Q I rx hs pl pu ?_
 rcases q with ⟨a,xs,e,h,q⟩|q
 ·exact .inl ⟨a,xs,e,h,fun p hp=>q p _ ⟨hp,rfl⟩⟩
 ·exact .inr q
def Fw (hK:X.K=K:=by rfl):bF X (.type "list") (fun xs H Q=>∃p ys,xs=[.ref p]/\(bg K H p ys\/aY K H p ys)/\∀l H',jg H l (.lst ys) H'->Q (.ref l) H'):=by
 subst hK;refine fun pins s σ H xs us Q I r h=>aj.el (h) _ ?_;rintro p ys e h q;exact tf s σ H xs us Q I r ⟨p,ys,e,h,fun l hl=>q l _ ⟨hl,rfl⟩⟩
def mJ (hK:X.K=K:=by rfl):bF X (.type "tuple") (fun xs H Q=>∃p ys,xs=[.ref p]/\((bg K H p ys/\∀l H',jg H l (.tup ys) H'->Q (.ref l) H')\/(aY K H p ys/\Q (.ref p) H))):=by
 subst hK;refine fun pins s σ H xs us Q I r h=>aj.el (h) _ ?_;rintro p ys e h;refine qI s σ H xs us Q I r ⟨p,ys,e,?_⟩
 rcases h with ⟨h,q⟩|h
 ·exact .inl ⟨h,fun l hl=>q l _ ⟨hl,rfl⟩⟩
 ·exact .inr h
end
section
variable {X:Cx}
def OL:R2:=fun x y H Q=>(fG fun i j=>x = .int i/\y = .int j/\Q (.int (i+j)) H)\/(∃i j,x = .str i/\y = .str j/\i.length+j.length<=KE/\Q (.str (i++j)) H) \/
 lW fun l b xs zs=>x = .ref l/\y = .ref b/\H l=some (.lst xs)/\H b=some (.lst zs)/\xs.length+zs.length<=KE/\∀p H',jg H p (.lst (xs++zs)) H'->Q (.ref p) H'
def bw:eW X (Z6 .Add) OL:=by
 refine fun pins s σ H x y v u Q I rx ry h=>N3 s σ H x y v u Q I rx ry ?_
 rcases h with h|h|⟨l,b,xs,zs,e1,e2,h1,h2,h3,q⟩
 ·exact .inl h
 ·exact .inr (.inl h)
 ·exact .inr (.inr ⟨l,b,xs,zs,e1,e2,h1,h2,h3,fun p hp=>q p _ ⟨hp,rfl⟩⟩)
def Iy:R2:=fun x y H Q=>(fG fun i j=>x = .int i/\y = .int j/\xX i j/\Q (.int (i*j)) H) \/
 oG fun l k xs=>x = .ref l/\y = .int k/\H l=some (.lst xs) /\ -(2^63)<=k/\k<2^63/\xs.length*k.toNat<=KE/\∀p H',jg H p (.lst (Jp k.toNat xs).flatten) H'->Q (.ref p) H'
def kz:eW X (Z6 .Mult) Iy:=by
 refine fun pins s σ H x y v u Q I rx ry h=>PY s σ H x y v u Q I rx ry ?_
 rcases h with h|⟨l,k,xs,e1,e2,h1,h2,h3,h4,q⟩
 ·exact .inl h
 ·exact .inr ⟨l,k,xs,e1,e2,h1,h2,h3,h4,fun p hp=>q p _ ⟨hp,rfl⟩⟩
def Ir:bF X (.builtin "divmod") (fun xs H Q=>∃i j,xs=[.int i,.int j]/\L0 i j/\∀p H',jg H p (.tup [.int (i / j),.int (i%j)]) H'->Q (.ref p) H'):=by
 refine fun pins s σ H xs us Q I r h=>aj.el (h) _ ?_;rintro i j e c q;exact vM s σ H xs us Q I r ⟨i,j,e,c,fun p hp=>q p _ ⟨hp,rfl⟩⟩
def Ae:HD X "list.append" (fun x vs H Q=>∃l xs y,x = .ref l/\vs=[y]/\H l=some (.lst xs)/\xs.length<KE/\∀H',EO H l (.lst (xs++[y])) H'->Q .non H'):=by
 refine fun pins s σ H x xs v us Q I rx rv h=>aj.el (h) _ ?_;rintro l ys y e1 e2 h1 h2 q;exact Bb s σ H x xs v us Q I rx rv ⟨l,ys,y,e1,e2,h1,h2,q _ ⟨rfl⟩⟩
def Ms:HD X "list.pop" (fun x vs H Q=>∃l xs i y,x = .ref l/\vs=[.int i]/\H l=some (.lst xs)/\0<=i/\i<2^63/\xs[i.toNat]? = some y/\∀H',EO H l (.lst (xs.eraseIdx i.toNat)) H'->Q y H'):=by
 refine fun pins s σ H x xs v us Q I rx rv h=>aj.el (h) _ ?_;rintro l ys i y e1 e2 h1 h2 h3 h4 q;refine FH s σ H x xs v us Q I rx rv ⟨l,ys,i,i.toNat,y,e1,e2,h1,⋯,h3,?_,h4,q _ ⟨rfl⟩⟩;obtain⟨j,hj,hj2,_⟩:=oA (oq h4);have:CW ys.length i=some i.toNat:=by unfold CW;rw[if_pos h2,if_pos ⋯]
 exact(tM this).1
end
def C3 {n:Nat}{js:List Nat}{g:TG}{tc:TT}{te:TE}{σ:St}{H1:Hp}{Q:V->Hp->Prop}(N:Nat)(Pv:Nat->List V->Hp->Prop)(h0:Pv 0 [] H1)
  (go:∀i ys H (Nx:List V->Hp->Prop),i<N->Pv i ys H->(∀ys' H',Pv (i+1) ys' H'->Nx ys' H')->J.go i H/\ys.length<KE /\
   ∀x H',J.yld i H x H'->g x (Jp n none++eB σ js) H' fun σ2 H2=>tc σ2 H2 fun b H3=>if b=true then te σ2 H3 fun y H4=>Nx (ys++[y]) H4 else Nx ys H3)
  (stop:∀ys H,Pv N ys H->J.stop N H/\∀p H',jg H p (.lst ys) H'->Q (.ref p) H'):zP J n js g tc te σ H1 fun ys H2=>∀p,H2 p=none->Q (.ref p) (upd H2 p (.lst ys)):=
 dS N Pv h0 go fun ys H h=>⟨(stop ys H h).1,fun p hp=>(stop ys H h).2 p _ ⟨hp,rfl⟩⟩
def gT {i:Int}{v: α}(h0:0<=i)(h:xs[i.toNat]? = some v):vp xs i=some v:=by
 have q:=oq h;have e:((i.toNat:Nat):Int)=i:=by lia
 rw[e] at q;exact q
def C1:Za->String
 | .none => "NoneType"
 | .bool _ => "bool"
 | .int _ => "int"
 | .str _ => "str"
 | .list _ => "list"
 | .tuple _ => "tuple"
 | .dict _ => "dict"
def Oc (d:Za)(T:String):Bool:=C1 d==T||(C1 d == "bool" && T == "int")
def vQ (K:Ja)(d:Za):Ud K (.type (C1 d)) (.type "bool")=some (Oc d "bool")/\Ud K (.type (C1 d)) (.type "int")=some (Oc d "int")/\Ud K (.type (C1 d)) (.type "str")=some (Oc d "str") /\
  Ud K (.type (C1 d)) (.type "list")=some (Oc d "list")/\Ud K (.type (C1 d)) (.type "tuple")=some (Oc d "tuple"):=by
 cases d<;>exact⟨rfl,rfl,rfl,rfl,rfl⟩
section
variable {X:Cx}
def zS {σ:St}{H:Hp}{s:Wp}{x:V}{u:Fk}{d:Za}(I:Inv X pins σ H s)(rx:RelV x u)(h:Den X.K H d x):∃HH,PySem.W.KitX X.K u (.type (C1 d)) HH/\HH s.heap/\u ≠ .builtin "__main__.__loader__#opaque":=by
 cases d with
 | none=>unfold Den at h;subst h;cases rx;exact⟨_,Qfa,ZL,nofun⟩
 | bool b=>unfold Den at h;subst h;cases rx;exact⟨_,Qfc,ZL,nofun⟩
 | int i=>unfold Den at h;subst h;obtain⟨t,rfl⟩:=rx;exact⟨_,PySem.W.kitx_int,ZL,nofun⟩
 | str y=>unfold Den at h;subst h;obtain⟨t,rfl⟩:=rx;exact⟨_,PySem.W.kitx_str,ZL,nofun⟩
 | list ds=>
  unfold Den at h;refine aj.el (h) _ ?_;rintro a vs rfl h2 _;cases rx;obtain⟨aF,_,⟨o,n,e1,e2,_⟩,_⟩:=I.list h2;exact⟨_,QcP,⟨o,e1,e2⟩,nofun⟩
 | tuple ds=>
  unfold Den at h;refine aj.el (h) _ ?_;rintro a vs rfl h2 _;cases rx;obtain⟨aF,_,⟨o,e1,e2,_⟩,_⟩:=I.tuple h2;exact⟨_,QeX,⟨o,e1,e2⟩,nofun⟩
 | dict _=>unfold Den at h;exact h.elim
def BO:bF X (.builtin "isinstance") (fun xs H Q=>∃x T d b,xs=[x,.ty T]/\Den X.K H d x/\Ud X.K (.type (C1 d)) (.type T)=some b/\Q (.bl b) H):=by
 refine fun pins s σ H xs us Q I r h=>aj.el (h) _ ?_;rintro x T d b rfl hd e q;refine aj.el (vals2 r) _ ?_;rintro u w' rfl r1 r2;cases r2;refine aj.el (zS I r1 hd) _ ?_;rintro HH Z hh hx;exact U5 Z I.iQ hh e hx fun tk=>⟨.bl b,H,I.tok _,rfl,q⟩
def yk:bF X (.builtin "isinstance") (fun xs H Q=>∃(x:V) (p:Gc) (Ts:List String) (d:Za) (b:Bool),xs=[x,.ref p]/\H p=some (.tup (Ts.map V.ty))/\Den X.K H d x/\PySem.W.kitAny X.K (.type (C1 d)) (Ts.map Z0)=some b/\Q (.bl b) H):=by
 refine fun pins s σ H xs us Q I r h=>aj.el (h) _ ?_;rintro x p Ts d b rfl hp hd e q;refine aj.el (vals2 r) _ ?_;rintro u w' rfl r1 r2;cases r2;refine aj.el (zS I r1 hd) _ ?_;rintro HH Z hh hx;obtain⟨hz,aF,rv,o,h1,pK,h2,n,h3⟩:=(show bt X.prog X.w H s.heap p (.tup (Ts.map V.ty)) from I.bq p _ hp)
 have ei:aF=Ts.map Z0:=by
  clear e hp h3 h2 h1 pK hz
  induction Ts generalizing aF with
  | nil=>cases rv;rfl
  | cons T Ts ih=>
   cases rv with
   | cons q1 q2=>cases q1;rw[ih _ q2];rfl
 subst ei;obtain⟨cls,dd,data,sl⟩:=o;subst h2 h3;exact PySem.W.kia_tup Z I.iQ hh h1 e hx fun tk=>⟨.bl b,H,I.tok _,rfl,q⟩
def SN (K:Ja):List V->Hp->VK->Prop:=fun xs H Q=>(∃x T d b,xs=[x,.ty T]/\Den K H d x/\Ud K (.type (C1 d)) (.type T)=some b/\Q (.bl b) H) \/
 ∃x T t b,xs=[x,.ty T]/\lM K H x t/\Ud K t (.type T)=some b/\Q (.bl b) H
def jK (K:Ja)(hK:X.K=K:=by rfl):bF X (.builtin "isinstance") (SN K):=by subst hK;exact BO.or EA
def OI (K:Ja):List V->Hp->VK->Prop:=fun xs H Q=>∃(x:V) (p:Gc) (Ts:List String) (d:Za) (b:Bool),xs=[x,.ref p]/\H p=some (.tup (Ts.map V.ty))/\Den K H d x/\PySem.W.kitAny K (.type (C1 d)) (Ts.map Z0)=some b/\Q (.bl b) H
def Om (K:Ja)(hK:X.K=K:=by rfl):bF X (.builtin "isinstance") (OI K):=by subst hK;exact yk
end
def SX (k:Bool):String:=if k then "tuple" else "list"
def Ei (k:Bool):String:=if k then "tuple_iterator" else "list_iterator"
def fF (k:Bool)(h:Heap)(a:Gc)(aF:Array Fk):Prop:=∃o,h.get? a=some o/\o.cls = .type (SX k)/\∃n,o.data = .seq aF n
def jq (k:Bool)(h:Heap)(it a:Gc)(i:Nat):Prop:=∃o,h.get? it=some o/\o.cls = .type (Ei k)/\o.data = .fields #[.ref a,.int i 0]
def fF.at {a:Gc}{aF:Array Fk}(x:fF k h a aF)(e:∀o,h.get? a=some o->h'.get? a=some o):fF k h' a aF:=let ⟨o,ho,r⟩:=x; ⟨o,e _ ho,r⟩
def jq.at {it a:Gc}{i:Nat}(x:jq k h it a i)(e:∀o,h.get? it=some o->h'.get? it=some o):jq k h' it a i:=let ⟨o,ho,r⟩:=x; ⟨o,e _ ho,r⟩
def fF.lt (x:fF k h a aF):a<h.objs.size:=let ⟨_,e,_⟩:=x;Jf e
def jq.lt (x:jq k h it a i):it<h.objs.size:=let ⟨_,e,_⟩:=x;Jf e
section
variable {prog:YZ}{w:Zb}{A:Zs}{E:Fk->Wp->Prop}{s:Wp}{k:Bool}{it a:Gc}{i:Nat}{aF:Array Fk}
def pX (h1:jq k s.heap it a i)(h2:fF k s.heap a aF)(hx:aF[i]? = some x)
  (q:∀h',jq k h' it a (i+1)->U4 it s.heap h'->Q x { s with heap:=h' }):YX (YW prog w) A (QcA (.ref it)) Q E s:=by
 cases k with
 | false=>exact Qal h1 h2 hx q
 | true=>
  obtain⟨o,ho,hc,hd⟩:=h1;obtain⟨ol,hol,_,nl,hdl⟩:=h2;have hT:s.TypeIs (.ref it) "tuple_iterator":=⟨o,ho,hc⟩
  refine be (Zj hT QaP (Zm QaP hT Qex ?_ (Qem _)));change YX _ _ (QaO (QeR (.ref it) 0) _) _ _ s;refine be (Zg ho hd rfl (be (Zg ho hd rfl (be (Zq hol hdl ?_)))));simp only[Uw,hx];refine be (QbW ho hd (by simp) (tz ⟨x,rfl,tz (q _ ⟨_,J2 _ ho (Qcy (QbK hd _)),(Obj.cls_mapFields ..).trans hc,?_⟩ (U4.update ..))⟩));rw[QbK hd];simp[ZT]
def uV (hh:A.handled=none)(h1:jq k s.heap it a i)(h2:fF k s.heap a aF)(hx:aF[i]? = none)
  (q:∀h' e,Heap.ExtBut it s.heap h'->(∃o,h'.get? e=some o/\o.cls = .type "StopIteration")->E (.ref e) { s with heap:=h' }):YX (YW prog w) A (QcA (.ref it)) Q E s:=by
 cases k with
 | false=>exact QcO hh h1 h2 hx q
 | true=>
  obtain⟨o,ho,hc,hd⟩:=h1;obtain⟨ol,hol,_,nl,hdl⟩:=h2;have hT:s.TypeIs (.ref it) "tuple_iterator":=⟨o,ho,hc⟩
  refine be (Zj hT QaP (Zm QaP hT Qex ?_ (Qem _)));change YX _ _ (QaO (QeR (.ref it) 0) _) _ _ s;refine be (Zg ho hd rfl (be (Zg ho hd rfl (be (Zq hol hdl ?_)))));simp only[Uw,hx];refine be (Qah (be (QbW ho hd (by simp) (be (be (ZJ (be (wpAny_of_eq (by first|rfl|(simp only[];rfl)) (ZJ (be (wpAny_handled ?_)) (by size_fits)))) (by size_fits)))))));rw[show A.in1.handled=none from hh];exact be (tz (wpAny_throw (q _ _ (((U4.update ..).extBut.push _).push _) ⟨_,Jh _ rfl,rfl⟩)))
end
structure vL (k1 k2:Bool)(z TI TO i1 i2 l1 l2:Gc)(i:Nat)(h:Heap):Prop where
 zp:Qe5 h z TI TO .none
 ti:Qam h TI (.ref i1) (.ref i2)
 to:∃a b,Qam h TO a b
 it1:jq k1 h i1 l1 i
 it2:jq k2 h i2 l2 i
section
variable {prog:YZ}{w:Zb}{A:Zs}{E:Fk->Wp->Prop}{s:Wp}{k1 k2:Bool}{z TI TO i1 i2 l1 l2:Gc}{i:Nat}{xs ys:Array Fk}
abbrev Ma (z TO i1 i2:Gc)(b:Gc):Prop:=b=z\/b=TO\/b=i1\/b=i2
def Bv (D:Qbz z TI TO i1 i2 l1 l2)(st:vL k1 k2 z TI TO i1 i2 l1 l2 i s.heap)(qR:fF k1 s.heap l1 xs)(CQ:fF k2 s.heap l2 ys)(hx:xs[i]? = some x)(hy:ys[i]? = some y)
  (q:∀h',Qe5 h' z TI TO (ZT s.heap.objs.size)->Qam h' TO x y->jq k1 h' i1 l1 (i+1)->jq k2 h' i2 l2 (i+1)->Qam h' s.heap.objs.size x y->Keeps s.heap h' (Ma z TO i1 i2)->Q (some (.ref s.heap.objs.size)) { s with heap:=h' }) :
  YX (YW prog w) A (QaM (.ref z)) Q E s:=by
 obtain⟨hz,qE,⟨a,b,yP⟩,h1,h2⟩:=st;have hT:s.TypeIs (.ref z) "zip":=⟨_,hz,rfl⟩
 refine be (ZN (Zj hT ZH (Zm ZH hT Qaz ?_ (Qav _))));change YX _ _ (QaO (QeR (.ref z) 2) _) _ _ _;refine be (Zg hz rfl rfl (be (Zg hz rfl rfl (be (Zq qE rfl (be (be (Zg hz rfl rfl (tz (be (Qah (be (Zg hz rfl rfl (be (Zd hz (by simp) fun g1 z1 e1=>be (be (be (Qbv (be (pX (h1.at fun o e=>e1.extBut _ _ D.i1z e) (qR.at fun o e=>e1.extBut _ _ D.l1z e) hx fun g2 it1 e2=>tz ?_))))))))))))))))))));have to2:=e2.extBut _ _ D.TOi1 (e1.extBut _ _ D.TOz yP);refine be (Zq to2 rfl (be (QaQ to2 fun g3 to3 e3=>be (Qba (tz ?_)))));have EW:Keeps s.heap g3 (fun c=>c=z\/c=i1\/c=TO):=fun c o nc e=>e3.extBut _ _ (fun q=>nc (.inr (.inr q))) (e2.extBut _ _ (fun q=>nc (.inr (.inl q))) (e1.extBut _ _ (fun q=>nc (.inl q)) e));refine be (be (Qbv (be (pX (h2.at fun o e=>EW _ _ (fun q=>q.elim D.i2z fun q=>q.elim D.i12.symm D.TOi2.symm) e) (CQ.at fun o e=>EW _ _ (fun q=>q.elim D.l2z fun q=>q.elim D.l2i1 D.l2TO) e) hy fun g4 it2 e4=>tz ?_))));have PV:=e4.extBut _ _ D.TOi2 to3;refine be (Zq PV rfl (be (QaQ PV fun g5 HI e5=>be (Qba (tz (tz ?_))))));have HI:Qam g5 TO x y:=HI;refine be (Zq HI rfl (be (Qbi ?_)));have hsz:g5.objs.size=s.heap.objs.size:=by rw[e5.1,e4.1,e3.1,e2.1,e1.1]
 have z5:=e5.extBut _ _ D.TOz.symm (e4.extBut _ _ D.i2z.symm (e3.extBut _ _ D.TOz.symm (e2.extBut _ _ D.i1z.symm z1)));have k5:Keeps s.heap g5 (Ma z TO i1 i2):=fun c o nc e=>e5.extBut _ _ (fun q=>nc (.inr (.inl q))) (e4.extBut _ _ (fun q=>nc (.inr (.inr (.inr q)))) (EW c o (fun q=>q.elim (fun q=>nc (.inl q)) fun q=>q.elim (fun q=>nc (.inr (.inr (.inl q)))) fun q=>nc (.inr (.inl q))) e));have PN:=Jf z5;refine be ?_;have z6:Qe5 (g5.push { cls := .type "tuple",data := .seq #[x,y] }) z TI TO .ellipsis:=Jb _ z5;refine be (Zd z6 (by simp) fun g7 z7 e7=>Zd z7 (by simp) fun g8 z8 e8=>tz ⟨_,rfl,tz ?_⟩);have up:∀c o,c≠z->g5.get? c=some o->g8.get? c=some o:=fun c o c1 e=>e8.extBut _ _ c1 (e7.extBut _ _ c1 (Jb _ e));have tp:=e8.extBut _ _ (Ul PN) (e7.extBut _ _ (Ul PN) (Jh _ rfl));rw[hsz] at z8 tp ⊢;exact q g8 z8 (up _ _ D.TOz HI) ((it1.at fun o e=>e5.extBut _ _ D.TOi1.symm (e4.extBut _ _ D.i12 (e3.extBut _ _ D.TOi1.symm e))).at fun o e=>up _ o D.i1z e) ((it2.at fun o e=>e5.extBut _ _ D.TOi2.symm e).at fun o e=>up _ o D.i2z e) tp fun c o nc e=>up c o (fun q=>nc (.inl q)) (k5 c o nc e)
def CD (hh:A.handled=none)(D:Qbz z TI TO i1 i2 l1 l2)(st:vL k1 k2 z TI TO i1 i2 l1 l2 i s.heap)(qR:fF k1 s.heap l1 xs)(CQ:fF k2 s.heap l2 ys)(Q8:xs[i]? = none\/ys[i]? = none)
  (q:∀h',Keeps s.heap h' (Ma z TO i1 i2)->Q none { s with heap:=h' }):YX (YW prog w) A (QaM (.ref z)) Q E s:=by
 obtain⟨hz,qE,⟨a,b,yP⟩,h1,h2⟩:=st;have hT:s.TypeIs (.ref z) "zip":=⟨_,hz,rfl⟩
 refine be (ZN (Zj hT ZH (Zm ZH hT Qaz ?_ (Qav _))));change YX _ _ (QaO (QeR (.ref z) 2) _) _ _ _;refine be (Zg hz rfl rfl (be (Zg hz rfl rfl (be (Zq qE rfl (be (be (Zg hz rfl rfl (tz (be (Qah (be (Zg hz rfl rfl (be (Zd hz (by simp) fun g1 z1 e1=>be (be (be (Qbv ?_))))))))))))))))));cases hx:xs[i]? with
 | none=>
  refine be (uV hh (h1.at fun o e=>e1.extBut _ _ D.i1z e) (qR.at fun o e=>e1.extBut _ _ D.l1z e) hx fun g2 e e2 oe=>aj.el (oe) _ ?_);rintro o ho hc;have z2:=e2 _ _ D.i1z.symm z1;have ez:e≠z:=fun q=>by subst q;rw[z2] at ho;cases ho;simp at hc
  exact Zd z2 (by simp) fun g3 _ e3=>be (ZC ⟨o,e3.extBut _ _ ez ho,hc⟩ Qas (tz (q g3 fun c o nc h=>e3.extBut _ _ (fun q=>nc (.inl q)) (e2 _ _ (fun q=>nc (.inr (.inr (.inl q)))) (e1.extBut _ _ (fun q=>nc (.inl q)) h)))))
 | some x=>
  refine be (pX (h1.at fun o e=>e1.extBut _ _ D.i1z e) (qR.at fun o e=>e1.extBut _ _ D.l1z e) hx fun g2 it1 e2=>tz ?_);have to2:=e2.extBut _ _ D.TOi1 (e1.extBut _ _ D.TOz yP);refine be (Zq to2 rfl (be (QaQ to2 fun g3 to3 e3=>be (Qba (tz ?_)))));have EW:Keeps s.heap g3 (fun c=>c=z\/c=i1\/c=TO):=fun c o nc e=>e3.extBut _ _ (fun q=>nc (.inr (.inr q))) (e2.extBut _ _ (fun q=>nc (.inr (.inl q))) (e1.extBut _ _ (fun q=>nc (.inl q)) e));refine be (be (Qbv (be (uV hh (h2.at fun o e=>EW _ _ (fun q=>q.elim D.i2z fun q=>q.elim D.i12.symm D.TOi2.symm) e) (CQ.at fun o e=>EW _ _ (fun q=>q.elim D.l2z fun q=>q.elim D.l2i1 D.l2TO) e) (Q8.resolve_left (by rw[hx];exact nofun)) fun g4 e e4 oe=>aj.el (oe) _ ?_))));rintro o ho hc;have z4:=e4 _ _ D.i2z.symm (e3.extBut _ _ D.TOz.symm (e2.extBut _ _ D.i1z.symm z1));have ez:e≠z:=fun q=>by subst q;rw[z4] at ho;cases ho;simp at hc
  exact Zd z4 (by simp) fun g5 _ e5=>be (ZC ⟨o,e5.extBut _ _ ez ho,hc⟩ Qas (tz (q g5 fun c o nc h=>e5.extBut _ _ (fun q=>nc (.inl q)) (e4 _ _ (fun q=>nc (.inr (.inr (.inr q)))) (EW c o (fun q=>q.elim (fun q=>nc (.inl q)) fun q=>q.elim (fun q=>nc (.inr (.inr (.inl q)))) fun q=>nc (.inr (.inl q))) h)))))
def uT (h:fF k s.heap a aF)(q:Q (.ref s.heap.objs.size) { s with heap:=s.heap.push { cls := .type (Ei k),data := .fields #[.ref a,.int 0 0] } }):YX (YW prog w) A (Qd9 (.ref a)) Q E s:=by
 cases k with
 | false=>exact Qbh h q
 | true=>exact Qdp h q
end
abbrev Ii (k:Bool)(a:Gc):Obj:={ cls := .type (Ei k),data := .fields #[.ref a,.int 0 0] }
abbrev Tz (k1 k2:Bool)(h:Heap)(a b:Gc):Heap:=((((h.push (Ii k1 a)).push (Ii k2 b)).push { cls := .type "tuple",data := .seq #[.ref h.objs.size,.ref (h.objs.size+1)] }).push { cls := .type "tuple",data := .seq #[.none,.none] }).push
 { cls := .type "zip",data := .fields #[.none,.bool false,.bool false,.ref (h.objs.size+2),.ref (h.objs.size+3)] }
def FQ (k1 k2:Bool)(a b:Gc)(xs ys:Array Fk):
  Meets (Builtin.«zip.__new__» ⟨[.type "zip",.ref a,.ref b],[]⟩) (fun _ R s=>fF k1 s.heap a xs/\fF k2 s.heap b ys/\R (.ok (.ret (.ref (s.heap.objs.size+4)))) { s with heap:=Tz k1 k2 s.heap a b }):=
 .of_wp fun prog w A R s h=>by
  obtain⟨hp,g,d,tk,os⟩:=s;obtain⟨qR,CQ,h⟩:=h;have d7:=sub_zip
  wp_walk using uT qR,uT (CQ.at fun o e=>Jb _ e)
  refine⟨_,rfl,?_⟩;simp only[Uc] at h ⊢;exact h
section
variable {prog:YZ}{w:Zb}{A:Zs}{E:Fk->Wp->Prop}{s:Wp}
def Cc {a b:Gc}{xs ys:Array Fk}{Q:Fk->Wp->Prop}(h1:fF k1 s.heap a xs)(h2:fF k2 s.heap b ys)
  (q:∀h',vL k1 k2 (s.heap.objs.size+4) (s.heap.objs.size+2) (s.heap.objs.size+3) s.heap.objs.size (s.heap.objs.size+1) a b 0 h'->(∀c o,s.heap.get? c=some o->h'.get? c=some o)->Q (.ref (s.heap.objs.size+4)) { s with heap:=h' }) :
  YX (YW prog w) A (call (.type "zip") [.ref a,.ref b]) Q E s:=by
 refine callType_new F.called_zip rfl (F.typeCall_zip_2 _ _) (F.newCall_zip_2 _ _) (fun obj=>F.args_object_init_3 obj _ _) F.entry_zip_new (FQ k1 k2 a b xs ys) ⟨h1,h2,?_⟩;have up:∀{h:Heap} {c:Gc} {o:Obj} p,h.get? c=some o->(h.push p).get? c=some o:=fun p e=>Jb p e;have last:∀{h:Heap} {n:Nat} {p:Obj},h.objs.size=n->p.isFreed=false->(h.push p).get? n=some p:=fun e hf=>by rw[<-e];exact Jh _ hf
 have z1:(s.heap.push (Ii k1 a)).objs.size=s.heap.objs.size+1:=Uc ..;have z2:((s.heap.push (Ii k1 a)).push (Ii k2 b)).objs.size=s.heap.objs.size+2:=by rw[Uc,z1]
 have z3:(((s.heap.push (Ii k1 a)).push (Ii k2 b)).push { cls := .type "tuple",data := .seq #[.ref s.heap.objs.size,.ref (s.heap.objs.size+1)] }).objs.size=s.heap.objs.size+3:=by rw[Uc,z2]
 have z4:((((s.heap.push (Ii k1 a)).push (Ii k2 b)).push { cls := .type "tuple",data := .seq #[.ref s.heap.objs.size,.ref (s.heap.objs.size+1)] }).push { cls := .type "tuple",data := .seq #[.none,.none] }).objs.size=s.heap.objs.size+4:=by rw[Uc,z3]
 have st:vL k1 k2 (s.heap.objs.size+4) (s.heap.objs.size+2) (s.heap.objs.size+3) s.heap.objs.size (s.heap.objs.size+1) a b 0 (Tz k1 k2 s.heap a b):=
  ⟨last z4 rfl,up _ (up _ (last z2 rfl)),⟨.none,.none,up _ (last z3 rfl)⟩,⟨_,up _ (up _ (up _ (up _ (last rfl rfl)))),rfl,rfl⟩,⟨_,up _ (up _ (up _ (last z1 rfl))),rfl,rfl⟩⟩
 exact⟨⟨_,st.zp,rfl⟩,q _ st (fun c o e=>up _ (up _ (up _ (up _ (up _ e)))))⟩
end
def uH (k:Bool)(K:Ja)(H:Hp)(a:Gc)(xs:List V):Prop:=if k=true then aY K H a xs else bg K H a xs
def Inv.Cp {σ:St}{H:Hp}{s:Wp}{k:Bool}{a:Gc}{xs:List V}(I:Inv X pins σ H s)(h:uH k X.K H a xs):∃aF,Vals xs aF/\fF k s.heap a aF.toArray/\xs.length<=KE:=by
 cases k with
 | false=>
  obtain⟨aF,r,⟨o,n,e1,e2,_,e4⟩,z⟩:=I.list h;exact⟨aF,r,⟨o,e1,e2,n,e4⟩,z⟩
 | true=>
  obtain⟨aF,r,⟨o,e1,e2,n,e4⟩,z⟩:=I.tuple h;exact⟨aF,r,⟨o,e1,e2,n,e4⟩,z⟩
def Inv.vP {σ:St}{H:Hp}{s:Wp}{k:Bool}{a:Gc}{xs ys:List V}(I:Inv X pins σ H s)(h:uH k X.K H a xs)(h':uH k X.K H a ys):xs=ys:=by
 cases k with
 | false=>exact I.qf h h'
 | true=>exact I.rJ h h'
def Pw (K:Ja)(k1 k2:Bool)(a b:Gc):It:=
 ⟨fun i H=>lW fun xs ys x y=>uH k1 K H a xs/\uH k2 K H b ys/\xs[i]? = some x/\ys[i]? = some y,
   fun i H v H'=>∃T,v = .ref T/\∀xs ys x y,uH k1 K H a xs->uH k2 K H b ys->xs[i]? = some x->ys[i]? = some y->jg H T (.tup [x,y]) H',
   fun i H=>fG fun xs ys=>uH k1 K H a xs/\uH k2 K H b ys/\(xs.length<=i\/ys.length<=i)⟩
def CJ {K:Ja}{elts:List ZA}{k:Nat}{tp:Pos}(k1 k2:Bool)(z TI TO i1 i2 l1 l2:Gc)(D:Qbz z TI TO i1 i2 l1 l2):
  Turn P w K (.Tuple elts k tp) (Pw K k1 k2 l1 l2) [z,TI,TO,i1,i2] z (vL k1 k2 z TI TO i1 i2 l1 l2) where
 mem:=by simp
 obj:=fun i h st b hb=>by
  obtain⟨h1,h2,⟨_,_,h3⟩,⟨o4,h4,_,d4⟩,⟨o5,h5,_,d5⟩⟩:=st;simp at hb
  rcases hb with rfl|rfl|rfl|rfl|rfl
  ·exact⟨_,h1,fun _ z=>nomatch z⟩
  ·exact⟨_,h2,fun _ z=>nomatch z⟩
  ·exact⟨_,h3,fun _ z=>nomatch z⟩
  ·exact⟨_,h4,fun v q=>by rw[d4] at q;cases q⟩
  ·exact⟨_,h5,fun v q=>by rw[d5] at q;cases q⟩
 keep:=fun i h h' st hk=>by
  obtain⟨h1,h2,⟨a,b,h3⟩,h4,h5⟩:=st;exact⟨hk z (by simp) _ h1,hk TI (by simp) _ h2,⟨a,b,hk TO (by simp) _ h3⟩,h4.at fun o e=>hk i1 (by simp) o e,h5.at fun o e=>hk i2 (by simp) o e⟩
 item:=fun X hP hw hK hc i pins s σ H E I hf st go=>by
  subst hP hw hK;obtain⟨xs,ys,x,y,q1,q2,e1,e2⟩:=go;refine aj.el (I.Cp q1) _ ?_;rintro its1 r1 p1 _;refine aj.el (I.Cp q2) _ ?_;rintro its2 r2 p2 _;refine aj.el (pG r1 e1) _ ?_;rintro u1 g1 ru1;refine aj.el (pG r2 e2) _ ?_;rintro u2 g2 ru2;have hz:=st.zp;have qE:=st.ti;refine Bv D st p1 p2 g1 g2 fun h' a1 a2 a3 a4 a5 a7=>⟨_,rfl,(wpAny_letOwnedTupleGo_zip a1 fun h'' b1 b2 =>?_)⟩
  have kp:∀c o,c∉[z,TO,i1,i2]->s.heap.get? c=some o->h''.get? c=some o:=fun c o hc e=>by
   simp only[Jq,Uk,or_false] at hc;exact b2.extBut c o (fun q=>hc (.inl q)) (a7 c o hc e)
  have I1:Inv X pins σ H { s with heap:=h'',toks:=s.toks }:=I.iter (fun c hc=>hf c (by simp at hc ⊢;rcases hc with q|q|q|q<;>simp[q])) kp;have fT:=I.fu (Je _) (I.bq.fresh (Je _));refine⟨.ref s.heap.objs.size,_,(I1.adopt (o := .tup [x,y]) fT I.sz ⟨by show 2<=KE;decide,[u1,u2],.cons ru1 (.cons ru2 .nil),⟨_,(b2.extBut _ _ (lL (Jf hz) (Je _)) a5),rfl,rfl,_,rfl⟩⟩),rfl,⟨_,rfl,fun xs' ys' x' y' q1' q2' e1' e2' =>?_⟩,⟨b1,b2.extBut _ _ D.TIz (a7 _ _ (fun q=>q.elim D.TIz fun q=>q.elim D.TITO fun q=>q.elim D.TIi1 D.TIi2) qE),⟨_,_,b2.extBut _ _ D.TOz a2⟩,a3.at fun o e=>b2.extBut _ _ D.i1z e,a4.at fun o e=>b2.extBut _ _ D.i2z e⟩,fun c hc =>?_⟩
  ·rw[I.vP q1' q1] at e1';rw[I.vP q2' q2] at e2';rw[e1] at e1';rw[e2] at e2';cases e1';cases e2';exact⟨fT.1,rfl⟩
  ·obtain⟨_,_,⟨_,_,yP⟩,h1,h2⟩:=st;have CT:c<s.heap.objs.size:=by
    simp at hc
    rcases hc with rfl|rfl|rfl|rfl|rfl
    ·exact Jf hz
    ·exact Jf qE
    ·exact Jf yP
    ·exact h1.lt
    ·exact h2.lt
   rw[au (ck CT (Je _))];exact(hf c hc).1
 done:=fun X hP hw hK hc i pins s σ H E I hf st stop=>by
  subst hP hw hK;obtain⟨xs,ys,q1,q2,e⟩:=stop;refine aj.el (I.Cp q1) _ ?_;rintro its1 r1 p1 _;refine aj.el (I.Cp q2) _ ?_;rintro its2 r2 p2 _;have VY:=r1.length;have YK:=r2.length;refine CD (I.ok.hd hc) D st p1 p2 ?_ fun h' kp=>⟨rfl,?_⟩
  ·rcases e with e|e
   ·exact .inl (by simp;lia)
   ·exact .inr (by simp;lia)
  ·refine I.iter (ch:=[z,TO,i1,i2]) (fun c hc=>hf c (by simp at hc ⊢;rcases hc with q|q|q|q<;>simp[q])) fun c o hc e =>?_;simp only[Jq,Uk,or_false] at hc;exact kp c o hc e
 self:=fun A i s Q E st hQ=>Qct st.zp hQ
section
variable {X:Cx}
def Pq (K:Ja)(ta:TA):TI:=fun σ H R=>ta σ H fun vs H1=>lW fun k1 k2 a b=>vs=[.ref a,.ref b]/\(∃xs,uH k1 K H1 a xs)/\(∃ys,uH k2 K H1 b ys)/\R (Pw K k1 k2 a b) H1
def GC (K:Ja){elts:List ZA}{k:Nat}{tp:Pos}{a b:ZA}{ta:TA}{p pos:Pos}(hg:Gl X "zip")(hm:X.mg "zip" = none)(ha:PA X [a,b] ta)(hb:ZO "zip" = some (.type "zip"):=by first|rfl|decide)
  (hs:Ze [a,b] X.env=[(false,ZM a X.env),(false,ZM b X.env)]:=by rfl) (AG:Ze [b] X.env=[(false,ZM b X.env)]:=by rfl) (hK:X.K=K:=by rfl) :
  PI X (.Tuple elts k tp) (.Call (.Name "zip" p) [a,b] [] pos) (Pq K ta):=by
 subst hK;refine fun pins s σ H R I h=>Call_ (eZ I hg hm hb (Zl (bb (ha s σ H _ I h) fun us s1 ⟨vs,H1,I1,r1,q1⟩=>?_) (by rw[hs,AG]) (by rw[AG];rfl)));obtain⟨k1,k2,l1,l2,e,⟨xs,q1⟩,⟨ys,q2⟩,q⟩:=q1;subst e;refine aj.el (vals2 r1) _ ?_;rintro u w' rfl r1 r2;cases r1;cases r2;refine aj.el (I1.Cp q1) _ ?_;rintro its1 rv1 p1 _;refine aj.el (I1.Cp q2) _ ?_;rintro its2 rv2 p2 _;refine Cc p1 p2 fun h' st hk=>Qct st.zp ?_;have I2:Inv X pins σ H1 { s1 with heap:=h' }:=I1.kept hk;refine⟨_,_,_,_,H1,rfl,I2,CJ k1 k2 _ _ _ _ _ _ _ (QdD p1.lt p2.lt),st,fun c hc =>?_,q⟩;have CT:s1.heap.objs.size<=c:=by
  simp at hc
  rcases hc with rfl|rfl|rfl|rfl|rfl
  ·exact Ua _ _
  ·exact Ua _ _
  ·exact Ua _ _
  ·exact Je _
  ·exact Ua _ _
 exact I1.fu CT (I1.bq.fresh CT)
end
def UJ (z:Str):It:=⟨fun i _=>i<z.cps.size,fun i H x H'=>H'=H/\∀c,z.cps[i]? = some c->x = .str ⟨#[c]⟩,fun i _=>z.cps.size<=i⟩
def Ba {K:Ja}{tg:ZA}(it:Gc)(z:Str)(t:Tok):Turn P w K tg (UJ z) [it] it (fun i h=>h.IsStrIter it "str_ascii_iterator" z t i) where
 mem:=by simp
 obj:=fun i h st b hb=>by
  have e:b=it:=by simpa using hb
  subst e;obtain⟨o,h1,h2,h3⟩:=st;exact⟨o,h1,fun v q=>by rw[h3] at q;cases q⟩
 keep:=fun i h h' st k=>by
  obtain⟨o,h1,r⟩:=st;exact⟨o,k it (by simp) o h1,r⟩
 item:=by
  intro X hP hw hK hc i pins s σ H E I hf st hg;obtain⟨f0,f1,f2,f3,f4,f5⟩:=hf it (by simp);have hg:i<z.cps.size:=hg;refine wpAny_pyNext_ascii_item st (c:=z.cps[i]) (by simp[]) fun h' st' hs' =>?_;have I1:Inv X pins σ H { s with heap:=h',toks:=s.toks+1 }:=I.turned (fun b o hb e=>hs'.extBut b o hb e) f0 f1 f3 f4 f5;obtain⟨o,h1,h2,h3⟩:=id st';refine⟨_,rfl,Ap h1 h2 h3 rfl ⟨.str ⟨#[z.cps[i]]⟩,H,I1,⟨_,rfl⟩,⟨rfl,fun c e =>?_⟩,st',fun b hb=>(hf b hb).1⟩⟩;rw[Jx hg] at e;cases e;rfl
 done:=by
  intro X hP hw hK hc i pins s σ H E I hf st hg;obtain⟨f0,f1,f2,f3,f4,f5⟩:=hf it (by simp);exact wpAny_pyNext_ascii_end (I.ok.hd hc) st (Ur hg) fun h' eb=>⟨rfl,I.turned (fun b o hb e=>eb b o hb e) f0 f1 f3 f4 f5⟩
 self:=fun _ _ _ _ _ st h=>wpAny_pyIter_striter_ascii st h
def Ry (tl:TE):TI:=fun σ H R=>tl σ H fun x H1=>∃z,x = .str z/\z.cps.all (· < 128)=true/\R (UJ z) H1
section
variable {X:Cx}{tg:ZA}
def Ao (hl:PE X l tl):PI X tg l (Ry tl):=by
 refine fun pins s σ H R I h=>bb (hl s σ H _ I h) fun v s1 hz_=>aj.el hz_ _ ?_;rintro x H1 I1 r1 q1;obtain⟨z,e,hz,q⟩:=q1;subst e;obtain⟨t,rfl⟩:=r1;refine wpAny_pyIter_ascii hz ⟨s1.heap.objs.size,[s1.heap.objs.size],_,_,H1,rfl,I1.kept fun b o e=>Jb _ e,Ba _ z t,⟨_,Jh _ rfl,rfl,rfl⟩,fun b hb =>?_,q⟩;have e:b=s1.heap.objs.size:=by simpa using hb
 subst e;exact I1.fu (Je _) (I1.bq.fresh (Je _))
def ja (K:Ja){l:ZA}{tl:TE}(hl:PE X l tl)(hK:X.K=K:=by rfl):PI X tg l (Oh K tl):=by subst hK;exact Lk hl
end
section
variable {X:Cx}(K:Ja)
def Np (hK:X.K=K:=by rfl):eW X (Zv .In) (Qf K false):=by subst hK;exact B0
def LP (hK:X.K=K:=by rfl):eW X (Zv .NotIn) (Qf K true):=by subst hK;exact tm
end
section
variable {prog:YZ}{w:Zb}{A:Zs}{R:QaU->Wp->Prop}{s:Wp}
def vn {kx vx target iter:ZA}{ifs:List ZA}{scope:QaT}{pos:Pos}{it:Fk}{D:Gc}{env:Env}(I:Nat->Wp->Prop)
  (turn:∀n s,I n s->YX (YW prog w) A (QaM it) (fun r s1=>match r with
   | none=>R (.ok .next) s1
   | some v=>YX (YW prog w) A (QbJ target it v) (fun _ s1'=>YX (YW prog w) A (QeT target env v) (fun _ s2=>
     YX (YW prog w) A (ow ifs env) (fun ok s3=>
      if ok=true then YX (YW prog w) A (ZM kx env) (fun kv s4=>YX (YW prog w) A (ZM vx env) (fun vv s5=>
       YX (YW prog w) A (dictSet D kv vv) (fun _ s6=>∃m,m<n/\I m s6) m6 s5) m6 s4) m6 s3
      else ∃m,m<n/\I m s3) m6 s2) m6 s1') m6 s1) m6 s)
  (n:Nat) (h:I n s):ZW (YW prog w) A (.compLoop (.DictComp kx vx [⟨target,iter,ifs,0⟩] scope pos) 0 it (.ref D) env) R s:=by
 refine codeAny_loop rfl I (fun n s hI=>(show YX _ A (Sem.onRaise (compTurn (.DictComp kx vx [⟨target,iter,ifs,0⟩] scope pos) 0 it (.ref D) env) (fun x=>do QbU x env;Qez x)) _ _ s from wpAny_noted (be (Qab (be (cH (bb (turn n s hI) fun r s1 h1 =>?_))))))) n h;cases r with
 | none=>exact tz h1
 | some v=>
  refine be (cH (bb h1 fun _ s1' JZ=>be (cH (bb JZ fun _ s2 h2=>be (cH (bb h2 fun ok s3 h3 =>?_))))));cases ok with
  | false=>exact tz ⟨rfl,h3⟩
  | true=>
   exact be (be (cH (bb h3 fun kv s4 h4=>be (Zf (cH (bb h4 fun vv s5 h5=>be (Qab (Zf (cH (bb h5 fun _ s6 h6=>tz ⟨rfl,h6⟩))))))))))
end
section
variable {X:Cx}{pins:List (Gc×Obj)}{σ:St}{H:Hp}{s:Wp}{a:Gc}{y v:V}{u r:Fk}{A:Zs}{E:Fk->Wp->Prop}
def BQ (I:Inv X pins σ H s)(e:H a=some (.dK kvs))(l:kvs.length<KE)(ry:RelV (kV k) u)(rv:RelV v r)
  (h:∀s',Inv X pins σ (upd H a (.dK (putK kvs k v))) s'->Q () s'):YX (YW X.prog X.w) A (dictSet a u r) Q E s:=by
 refine aj.el (Aa I.bq e) _ ?_;rintro z hd vs rel dd;have hz:vs.length<=KE:=by rw[<-rel.length];exact z
 exact QbM (lR ry) dd fun h' CU hs=>h _ (lJ I (by rw[e];exact ZL) hs (let ⟨q,_,_,hq,_⟩:=CU; ⟨q,hq⟩) (yJ (by have:=hM kvs k v;lia) hd (rel.put k rv) CU))
end
section
variable {X:Cx}{pins:List (Gc×Obj)}{σ:St}{H:Hp}{s:Wp}{scope:QaT}{Nc Fc:List Str}{js:List Nat}{cl:List (Str×Gc)}{C:Gc}{fp:List Gc}
def uS (I:Inv X pins σ H s)(c:gI X scope Nc Fc js)(d7:∀n c,cl.lookup n=some c->X.env.cells.lookup n=some c)(kq:∀y∈scope.names,y.2 = .free->∃c,cl.lookup y.1=some c)
  (hC:s.heap.objs.size<=C) (hf:∀b∈fp,gz X pins H b) (ho:∀b∈fp,∃o,s.heap.get? b=some o) {h1:Heap} {t1:Nat} {m:Str->Option Fk}
  (hk:∀b o,s.heap.get? b=some o->h1.get? b=some o) (hm:h1.Ns C m) :
  Inv (lI X Nc Fc scope cl C s H fp) [] (Jp Nc.length none++eB σ js) H { s with heap:=h1,toks:=t1 }:=by
 refine⟨qe I c d7 kq hC hf ho,rfl,I.bare,Un.kept hk,⟨m,hm,fun i x v e1 e2 e3 =>?_⟩,fun x a e =>?_,I.bq.fresh hC,fun x a e=>I.freeC x a (d7 x a e),fun p hp =>?_,I.bq.kept hk,?_⟩
 ·have e1:(Nc++Fc)[i]? = some x:=e1
  by_cases hi:i<Nc.length
  ·rw[U3 (by simpa using hi),Yn] at e2
   split at e2<;>cases e2
  ·rw[U0 ⋯] at e1;rw[U0 (by rw[Ut];lia),Ut] at e2;refine aj.el (c.frees _ _ e1) _ ?_;rintro vk j hj hN;have hv: σ[j]? = some (some v):=by
    unfold eB at e2;rw[Jk,hj] at e2;have e2:some ((σ[j]?).join)=some (some v):=e2;cases q: σ[j]? with
    | none=>rw[q] at e2;cases e2
    | some z=>rw[q] at e2;cases e2;rfl
   have kx:=c.free _ (cA vk) rfl;refine aj.el (I.loc) _ ?_;rintro m0 hn0 hl0;have RL:Ow X.env.scope x:=by
    rcases kx with k|k
    ·exact .inr (.inl k)
    ·exact .inr (.inr k)
   refine aj.el (hl0 j x v hN hv RL) _ ?_;rintro u ru lk;refine⟨u,ru,.inr ⟨?_,?_⟩⟩
   ·rw[u6];exact fU vk
   ·obtain⟨a,ha⟩:=kq _ (cA vk) rfl;refine⟨a,ha,?_⟩
    rcases lk with ⟨k,_⟩|⟨_,a',ha',hcell⟩
    ·rcases kx with q|q<;>(rw[k] at q;cases q)
    ·have e:=d7 _ _ ha;rw[ha'] at e;cases e;exact hcell.keeps hk
 ·obtain⟨v,z⟩:=I.cell x a (d7 x a e);exact⟨v,z.keeps hk⟩
 ·have hp:=hp;cases hp
 ·show(Jp Nc.length none++eB σ js).length=(Nc++Fc).length;unfold eB;rw[Jt,Jt,Ut,Jd,c.lens]
end
def Ka (J:It)(n:Nat)(js:List Nat)(g:TG)(tc:TT)(tk tv:TE)(σ:St)(D:Gc)(H1:Hp)(fin:Hp->Prop):Prop:=
 ∃W:Nat->Nat->Hp->Prop,(∃m,W 0 m H1)/\∀i m H,W i m H ->
  (J.stop i H/\fin H) \/
  (J.go i H/\∀x H',J.yld i H x H'->g x (Jp n none++eB σ js) H' fun σ2 H2=>tc σ2 H2 fun b H3=>
   if b=true then tk σ2 H3 fun y H4=>tv σ2 H4 fun z H5=>fG fun kvs k=>H5 D=some (.dK kvs)/\y=kV k/\kvs.length<KE/\∃m',m'<m/\W (i+1) m' (upd H5 D (.dK (putK kvs k z))) else ∃m',m'<m/\W (i+1) m' H3)
def KL (wi:TI)(n:Nat)(js:List Nat)(g:TG)(tc:TT)(tk tv:TE):TE:=fun σ H Q=>wi σ H fun J H1=>∀D,H1 D=none->Ka J n js g tc tk tv σ D (upd H1 D (.dK [])) fun H2=>Q (.ref D) H2
def xn {kx vx tg iter:ZA}{ifs:List ZA}{scope:QaT}{pos:Pos}{Nc Fc:List Str}{js:List Nat}{wi:TI}{g:TG}{tc:TT}{tk tv:TE}{use:Option (Fk->Sem Unit)}{QV:Fk->Wp->Prop}
  (fZ:X.calm=true) (c:gI X scope Nc Fc js) (hi:PI X tg iter wi)
  (hg:∀cl C s H fp,PG (lI X Nc Fc scope cl C s H fp) tg g) (AK:∀cl C s H fp,GI (lI X Nc Fc scope cl C s H fp) ifs tc) (vC:∀cl C s H fp,PE (lI X Nc Fc scope cl C s H fp) kx tk) (Sa:∀cl C s H fp,PE (lI X Nc Fc scope cl C s H fp) vx tv) (gk:Gk Nc.length g)
  {pins:List (Gc×Obj)} {s:Wp} {σ:St} {H:Hp} {fin:Gc->Hp->Prop} (I:Inv X pins σ H s)
  (h:wi σ H fun J H1=>∀D,H1 D=none->Ka J Nc.length js g tc tk tv σ D (upd H1 D (.dK [])) (fin D))
  (behind:∀(C D:Gc) (m:Str->Option Fk) (H2:Hp) (s2:Wp),Inv X pins σ H2 s2->s2.heap.Ns C m->gz X pins H2 C->fin D H2->QdG (YW X.prog X.w) X.A X.xe use QV (.ref D) C (.ok .next) s2)
  (hs:∀x,Qag iter X.env x=pure x) :
  YX (YW X.prog X.w) X.A (comprehension (.DictComp kx vx [⟨tg,iter,ifs,0⟩] scope pos) scope X.env (firstIterPos [⟨tg,iter,ifs,0⟩] pos) newDict false (ZM iter X.env) use) QV X.xe s:=by
 obtain⟨cl,hclos,d7,kq⟩:=kM fun y hy hf=>I.ok.has y.1 (c.free y hy hf);refine Qci rfl hs hclos c.kind c.names (bb (hi s σ H _ I h) fun v s1 h1=>bb h1 fun ND s2 h2 =>?_);obtain⟨it,fp,tn,J,H2,e,I2,T,fB,f2,all⟩:=h2;subst e;refine ZJ (QcY c.nocell (by intro y hy;simp at hy) (fun h1 hns1 hsb1 =>?_) c.kind);have Em:=I2.laid (t':=s2.toks) (fun _ _ q=>Jb _ q) (Je _) (vi s2.heap I2.big);obtain⟨W,⟨m0,w0⟩,turn⟩:=all _ (I2.bq.fresh (Je _));have Py:∀b∈fp,∃o,s2.heap.get? b=some o:=fun b hb=>let ⟨o,e,_⟩:=T.obj 0 _ fB b hb; ⟨o,e⟩;have qV:=fun b hb=>let ⟨o,e⟩:=Py b hb;Jf e;generalize hG:s2.heap.push { cls := .type "dict",dict:=none,data := .dict #[] } = G at hns1 hsb1 Em ⊢;have toG:∀b o,s2.heap.get? b=some o->G.get? b=some o:=fun b o e=>hG▸Jb _ e;have hC:G.objs.size=s2.heap.objs.size+1:=by rw[<-hG,Uc]
 have old:=fun b o e=>
  hsb1.extBut b o (ck (Jf e) (Je _)) (Jb _ e)
 let D:Gc:=s2.heap.objs.size
 let s2':Wp:={ s2 with heap:=G,toks:=s2.toks }
 let H2':Hp:=upd H2 D (.dK [])
 have MM:∀b∈fp,gz X pins H2' b:=fun b hb=>by
  obtain⟨a1,a2⟩:=f2 b hb;refine⟨?_,a2⟩;show upd H2 D (.dK []) b=none;rw[au (Jl (qV b hb))];exact a1
 have fo:∀b∈fp,∃o,s2'.heap.get? b=some o:=fun b hb=>let ⟨o,e⟩:=Py b hb; ⟨o,toG b o e⟩;have Sg:∀b∈fp,b<G.objs.size:=fun b hb=>by have:=qV b hb;rw[hC];exact Qa9 this
 let Xc:Cx:=lI X Nc Fc scope cl G.objs.size s2' H2' fp
 have kL:∀{H':Hp},(∀b∈fp,H' b=none)->∀b∈fp,gz Xc [] H' b:=fun{H'} hn b hb=>by
  refine⟨hn b hb,?_,?_,.inl hb,fun x a e =>?_,fun p hq =>?_⟩
  ·exact ck (Sg b hb) (Je _)
  ·exact(qe Em c d7 kq (Je _) MM fo).exfs b hb
  ·exact(f2 b hb).2.2.2.2.1 x a (d7 _ _ e)
  ·have q:p∈([]:List (Gc×Obj))++[]:=hq;simp at q
 have loop:∀t1,ZW (YW X.prog X.w) X.A (.compLoop (.DictComp kx vx [⟨tg,iter,ifs,0⟩] scope pos) 0 (.ref it) (.ref s2.heap.objs.size) (compEnvC scope cl G.objs.size X.env))
   (QdG (YW X.prog X.w) X.A X.xe use QV (.ref s2.heap.objs.size) G.objs.size) { s2 with heap:=h1,toks:=t1 }:=by
  refine fun t1=>vn (fun n s'=>∃i H',Inv Xc [] (Jp Nc.length none++eB σ js) H' s'/\tn i s'.heap/\(∀b∈fp,H' b=none)/\W i n H') ?_ m0
   ⟨0,H2',uS Em c d7 kq (Je _) MM fo old hns1,T.keep _ _ _ fB (fun b hb o e=>old b o (toG b o e)),fun b hb=>(MM b hb).1,w0⟩
  refine fun n s3 hz_=>aj.el hz_ _ ?_;rintro i H3 I3 dZ fr3 w3
  rcases turn i n H3 w3 with ⟨stop,qn⟩|⟨go,step⟩
  ·refine bb (T.done Xc rfl rfl rfl fZ i _ s3 _ H3 m6 I3 (kL fr3) dZ stop) fun r s4 hz_ =>?_;refine aj.el hz_ _ ?_;rintro hr I4;subst hr;refine aj.el (I4.loc) _ ?_;rintro mC hmC _;have u:=I4.base;have sI:∀b∈fp,(b∈X.ex\/X.s₀.heap.objs.size<=b)/\b≠X.env.locals/\(∀x c,X.env.cells.lookup x=some c->c≠b)/\∀p∈X.pn++pins,p.1≠b:=fun b hb=>
    ⟨(f2 b hb).2.2.2.1,(f2 b hb).2.1,(f2 b hb).2.2.2.2.1,(f2 b hb).2.2.2.2.2⟩
   exact behind G.objs.size D mC H3 s4 (Em.Ag I4.os u I4.bq I4.bare sI) hmC (Em.fu (Je _) I4.free) qn
  ·refine bb (T.item Xc rfl rfl rfl fZ i _ s3 _ H3 m6 I3 (kL fr3) dZ go) fun r s4 hz_ =>?_;refine aj.el hz_ _ ?_;rintro u hr h4;subst hr;refine bb h4 fun _ s5 hz_=>aj.el hz_ _ ?_;rintro x H5 I5 r5 y5 cu fr5;refine bb (hg cl G.objs.size s2' H2' fp s5 _ H5 x u _ (I5.pinned (kL fr5) (T.obj _ _ cu)) r5 (gk _ _ _ _ (step x H5 y5))) fun _ s6 hz_=>aj.el hz_ _ ?_;rintro σ6 H6 I6 q6 kσ kl;refine bb (AK cl G.objs.size s2' H2' fp s6 σ6 H6 _ I6 q6) fun b s7 hz_=>aj.el hz_ _ ?_;rintro H7 I7 q7;have later:∀{σ':St} {H':Hp} {s':Wp},Inv Xc ([]++hV fp s5.heap) σ' H' s'->tn (i+1) s'.heap/\∀b∈fp,H' b=none:=fun{σ' H' s'} Iz=>by
    refine⟨T.keep _ _ _ cu fun b hb o e=>(Iz.pin (b,o) (Jo _ (Jo _ (dj hb e)))).1,fun b hb=>aj.el (T.obj _ _ cu b hb) _ ?_⟩;rintro o e d;exact(Iz.pin (b,o) (Jo _ (Jo _ (dj hb e)))).2.1
   have back:∀{pl:List (Gc×Obj)} {H':Hp} {s':Wp},Inv Xc pl σ6 H' s'->Inv Xc pl (Jp Nc.length none++eB σ js) H' s':=fun{pl H' s'} Iz=>by
    refine Iz.weak (by rw[<-kl]) fun j v hj =>?_
    by_cases hn:j<Nc.length
    ·rw[U3 (by simpa using hn),Yn] at hj
     split at hj<;>cases hj
    ·rw[kσ j ⋯];exact hj
   cases b with
   | false=>
    rw[if_neg Jr] at q7 ⊢;refine aj.el (q7) _ ?_;rintro m' va w7;obtain⟨l1,l2⟩:=later I7;exact⟨m',va,i+1,H7,back I7.eO,l1,l2,w7⟩
   | true=>
    refine bb (vC cl G.objs.size s2' H2' fp s7 σ6 H7 _ I7 q7) fun yv s8 hz_=>aj.el hz_ _ ?_;rintro y H8 I8 r8 q8;refine bb (Sa cl G.objs.size s2' H2' fp s8 σ6 H8 _ I8 q8) fun zv s9 hz_=>aj.el hz_ _ ?_;rintro z H9 I9 r9 q9;refine aj.el (q9) _ ?_;rintro kvs k eD ey hl m' va w9;subst ey;refine BQ (X:=Xc) I9 eD hl r8 r9 fun s10 I10 =>?_;obtain⟨l1,l2⟩:=later I10;exact⟨m',va,i+1,_,back I10.eO,l1,l2,w9⟩
 exact codeAny_compStart_dict (loop _) (T.self _ 0 _ _ _ (T.keep _ _ _ fB fun b hb o e=>old b o (toG b o e)) (loop _))
def FY {kx vx tg iter:ZA}{ifs:List ZA}{scope:QaT}{pos:Pos}{Nc Fc:List Str}{js:List Nat}{wi:TI}{g:TG}{tc:TT}{tk tv:TE}
  (fZ:X.calm=true) (c:gI X scope Nc Fc js) (hi:PI X tg iter wi) (gk:Gk Nc.length g)
  (hg:∀cl C s H fp,PG (lI X Nc Fc scope cl C s H fp) tg g) (AK:∀cl C s H fp,GI (lI X Nc Fc scope cl C s H fp) ifs tc) (vC:∀cl C s H fp,PE (lI X Nc Fc scope cl C s H fp) kx tk) (Sa:∀cl C s H fp,PE (lI X Nc Fc scope cl C s H fp) vx tv)
  (hs:∀x,Qag iter X.env x=pure x:=by intro _;rfl) :
  PE X (.DictComp kx vx [⟨tg,iter,ifs,0⟩] scope pos) (KL wi Nc.length js g tc tk tv):=
 fun pins s σ H Q I h=>xn fZ c hi hg AK vC Sa gk I h (fun C D m H2 s2 I2 hm hC q=>⟨m,hm,fun h' hs'=>⟨.ref D,_,I2.turned (fun b o hb e=>hs'.extBut b o hb e) hC.1 (hC.2.1) hC.2.2.2.1 hC.2.2.2.2.1 hC.2.2.2.2.2,rfl,q⟩⟩) hs
def mB:∀{ns:List Int} {us:List Fk},Qc8 us ns->Vals (ns.map V.int) us
 | _,_,.nil =>.nil
 | _,_,.cons _ _ h =>.cons ⟨_,rfl⟩ (mB h)
open PySem.W
def Qr (h base:Heap)(e:Gc)(cls a0:Fk)(dx:Option Gc)(fl:Fk):Prop:=∃oe vs T oT ts,
 h.get? e=some oe/\oe.cls=cls/\oe.dict=dx/\oe.data = .fields vs/\vs[0]? = some a0/\vs[1]? = some (.ref T)/\base.get? T=none/\T≠e/\h.get? T=some oT/\oT.data = .fields ts/\ts[3]? = some fl
def pO (base:Heap)(l:List Env)(e:Gc)(cls a0:Fk)(dx:Option Gc)(h:Heap):Prop:=base.StaysIn h/\base.get? e=none/\h.FunFrames base l/\Qr h base e cls a0 dx .none
def JV (base:Heap)(l:List Env)(e:Gc)(cls a0:Fk)(dx:Option Gc)(L:Gc)(h:Heap):Prop:=base.StaysIn h/\base.get? e=none/\h.FunFrames base l/\Qr h base e cls a0 dx (ZT L)
def pO.own {l:List Env}{e:Gc}{cls a0:Fk}{dx:Option Gc}(x:pO base l e cls a0 dx h):∃o,h.get? e=some o/\o.cls=cls/\o.dict=dx/\∃vs,o.data = .fields vs:=by
 obtain⟨_,_,_,oe,vs,T,oT,ts,a1,a2,a3,a4,_⟩:=x;exact⟨oe,a1,a2,a3,vs,a4⟩
section
variable {M:Model}{A:Zs}{E:Fk->Wp->Prop}{s:Wp}{base:Heap}{env:Env}{outer:List Env}{L e:Gc}{cls a0:Fk}{dx:Option Gc}{Q:Unit->Wp->Prop}
def qg {hn:Bool}(vk:A.frames=some (env::outer))(mx:s.heap.FunFrames base (env::outer))(hf:env.frame=some L)(he:s.heap.get? e=some oe)(gW:base.StaysIn s.heap)(new:base.get? e=none)
  (hd:oe.data = .fields vs) (sz:1<vs.size) (h0:vs[0]? = some a0)
  (q:∀h',base.StaysIn h'->h'.FunFrames base (env::outer)->Qr h' base e oe.cls a0 oe.dict (ZT L)->s.heap.UpToSlots h'->Q () { s with heap:=h' }) :
  YX M A (do let a <-frameOf env;let pl <-entryPlaceOf L hn;let b <-EntryCells.newEntry head a .none (ZT L) .none pl;setField (.ref e) 1 b) Q E s:=by
 have apart:e∉(env::outer).filterMap (·.frame):=fun m=>by
  obtain⟨_,o,ho,nf⟩:=mx.mem m;rw[he] at ho;cases ho;exact nf vs hd
 refine be (wpAny_frameOf_fun vk mx hf fun h1 so=>be (wpAny_entryPlaceOf fun pl isp=>be (ZJ ?_ (isp.sizeOk5 _ _ _ _ _))));obtain⟨tr,etr⟩:∃tr:Obj,tr={ cls := .type "traceback",dict:=none,data := .fields ([head,.ref L,.none,ZT L,.none]++(if pl.isEmpty then Jp 6 Qbe else pl)).toArray }:=⟨_,rfl⟩
 rw[<-etr];have e1:=(so.2.1 e apart).trans he;have m5:base.StaysIn h1:=fun b o x=>(so.2.1 b fun m=>by rw[(mx.mem m).1] at x;cases x).trans (gW b o x);have e2:(h1.push tr).get? e=some oe:=Jb _ e1;refine QbW e2 hd sz (q _ ?_ ?_ ?_ ?_)
 all_goals have nT:=Ul (Jf e1)
 all_goals have kp:∀b o,b≠e->h1.get? b=some o->((h1.push tr).update e (QaF (·.setIfInBounds 1 (Zh h1.objs.size)))).get? b=some o:=fun b o nb x=>(J3 _ _ (Zx nb)).trans (Jb _ x)
 all_goals have nr:∀b o,s.heap.get? b=some o->(∀ws,o.data ≠ .fields ws)->b≠e:=fun b o x nf z=>(by rw[z,he] at x;cases x;exact nf vs hd)
 ·exact fun b o x=>kp b o (fun z=>by rw[z,new] at x;cases x) (m5 b o x)
 ·refine mx.of_keeps fun b o x nf =>?_;obtain⟨sl,hs⟩:=so.2.2 b o x;exact⟨_,kp b _ (nr b o x nf) hs,rfl⟩
 ·have d3:=QbK hd (·.setIfInBounds 1 (Zh h1.objs.size));refine⟨_,_,h1.objs.size,tr,_,(J2 (QaF (·.setIfInBounds 1 (Zh h1.objs.size))) e2 (Qcy d3)),Obj.cls_mapFields _ _,?_,d3,by rw[Array.getElem?_setIfInBounds_ne ∅];exact h0,by simp[sz],m5.fresh,nT,(J3 _ _ (Zx nT)).trans (Jh h1 (by rw[etr];rfl)),by rw[etr],?_⟩
  ·obtain⟨c1,c2,c3,c4⟩:=oe;cases c3<;>rfl
  ·first
    | (simp;done)
    | (rcases isp with rfl|⟨_,_,_,_,_,_,_,rfl⟩<;>simp)
 ·intro b o x nf;obtain⟨sl,hs⟩:=so.2.2 b o x;exact⟨sl,kp b _ (nr b o x nf) hs⟩
def yi (vk:A.frames=some (env::outer))(mx:s.heap.FunFrames base (env::outer))(hf:env.frame=some L)(he:s.heap.get? e=some oe)(gW:base.StaysIn s.heap)(new:base.get? e=none)
  (hd:oe.data = .fields vs) (h1:vs[1]? = some .none) (h0:vs[0]? = some a0) (q:∀h',JV base (env::outer) e oe.cls a0 oe.dict L h'->s.heap.UpToSlots h'->Q () { s with heap:=h' }):YX M A (QbU (.ref e) env) Q E s:=by
 unfold QbU;simp only[hf];exact be (Zg he hd h1 (qg vk mx hf he gW new hd (U2.mp h1).1 h0 fun h' k1 k2 k3 k4=>q h' ⟨k1,new,k2,k3⟩ k4))
def slot_set (hT:s.heap.get? T=some oT)(dT:oT.data = .fields ts)(nT:base.get? T=none)(gW:base.StaysIn s.heap){l:List Env}(mx:s.heap.FunFrames base l):
  (∀b,b≠T->(s.heap.update T (QaF (·.setIfInBounds 3 x))).get? b=s.heap.get? b)/\base.StaysIn (s.heap.update T (QaF (·.setIfInBounds 3 x)))/\(s.heap.update T (QaF (·.setIfInBounds 3 x))).FunFrames base l /\
   ∀b o,s.heap.get? b=some o->(∀ws,o.data ≠ .fields ws)->(s.heap.update T (QaF (·.setIfInBounds 3 x))).get? b=some o:=by
 have off:∀b,b≠T->(s.heap.update T (QaF (·.setIfInBounds 3 x))).get? b=s.heap.get? b:=fun b nb=>J3 _ _ (Zx nb);have kp:∀b o,s.heap.get? b=some o->(∀ws,o.data ≠ .fields ws)->(s.heap.update T (QaF (·.setIfInBounds 3 x))).get? b=some o:=fun b o z nf=>
  (off b fun w=>by rw[w,hT] at z;cases z;exact nf ts dT).trans z
 exact⟨off,fun b o z=>(off b fun w=>by rw[w,nT] at z;cases z).trans (gW b o z),mx.of_keeps fun b o z nf=>⟨o,kp b o z nf,rfl⟩,kp⟩
def Ai (vk:A.frames=some (env::outer))(hf:env.frame=some L)(sx:pO base (env::outer) e cls a0 dx s.heap)(q:∀h',JV base (env::outer) e cls a0 dx L h'->s.heap.UpToSlots h'->Q () { s with heap:=h' }):YX M A (QbU (.ref e) env) Q E s:=by
 obtain⟨gW,new,mx,oe,vs,T,oT,ts,he,rfl,rfl,hd,h0,h1,nT,ne,hT,dT,h3⟩:=sx;obtain⟨off,fB,fu2,kp⟩:=slot_set hT dT nT gW mx;unfold QbU;simp only[hf];refine be (Zg he hd h1 (be (Zg hT dT h3 (be (QbW hT dT (U2.mp h3).1 ?_)))));refine qg vk fu2 hf ((off e (Zx ne)).trans he) fB new hd (U2.mp h1).1 h0 fun h' k1 k2 k3 k4=>q h' ⟨k1,new,k2,k3⟩ fun b o z nf=>k4 b o (kp b o z nf) nf
def An (gW:base.StaysIn s.heap)(new:base.get? e=none)(mx:s.heap.FunFrames base l)(tr:Qr s.heap base e cls a0 dx fl)(q:∀h',pO base l e cls a0 dx h'->s.heap.UpToSlots h'->Q () { s with heap:=h' }):
  YX M A (setFlight (.ref e) none) Q E s:=by
 obtain⟨oe,vs,T,oT,ts,he,rfl,rfl,hd,h0,h1,nT,ne,hT,dT,h3⟩:=tr;have M6:=(U2.mp h3).1;obtain⟨off,fB,fu2,kp⟩:=slot_set hT dT nT gW mx;refine be (Zg he hd h1 ?_);have Ti:=QbK dT (·.setIfInBounds 3 ((none:Option Gc).elim Qbe fun f=>ZT f));exact QbW hT dT M6 (q _ ⟨fB,new,fu2,oe,vs,T,_,_,(off e (Zx ne)).trans he,rfl,rfl,hd,h0,h1,nT,ne,J2 _ hT (Qcy Ti),Ti,by simp[M6]⟩ fun b o z nf=>⟨o.slots,kp b o z nf⟩)
def pO.tail (x:pO base (env::outer) e cls a0 dx h):pO base outer e cls a0 dx h:=let ⟨a,b,⟨_,_,c⟩,d⟩:=x; ⟨a,b,c,d⟩
def Bi (vk:A.frames=some (env::outer))(hf:env.frame=some L)(sx:pO base (env::outer) e cls a0 dx s.heap)(q:∀h',pO base outer e cls a0 dx h'->s.heap.UpToSlots h'->Q () { s with heap:=h' }):YX M A (leaving env (.ref e)) Q E s:=
 be (Ai vk hf sx fun h1 hd up=>An hd.1 hd.2.1 hd.2.2.1 hd.2.2.2 fun h2 fly2 up2=>q h2 fly2.tail (up.trans up2))
def uC (vk:A.frames=some (env::outer))(mx:s.heap.FunFrames base (env::outer))(hf:env.frame=some L)(he:s.heap.get? e=some oe)(gW:base.StaysIn s.heap)(new:base.get? e=none)
  (hd:oe.data = .fields vs) (h1:vs[1]? = some .none) (h0:vs[0]? = some a0) (q:∀h',pO base outer e oe.cls a0 oe.dict h'->s.heap.UpToSlots h'->Q () { s with heap:=h' }):YX M A (leaving env (.ref e)) Q E s:=
 be (yi vk mx hf he gW new hd h1 h0 fun h1 hd up=>An hd.1 hd.2.1 hd.2.2.1 hd.2.2.2 fun h2 fly2 up2=>q h2 fly2.tail (up.trans up2))
end
def bt.ex (x:bt P w H h a o):∃q,h.get? a=some q:=by
 cases o with
 | lst xs=>obtain⟨_,_,_,_,e⟩:=x;exact⟨_,e⟩
 | tup xs=>obtain⟨_,_,_,_,e,_⟩:=x;exact⟨_,e⟩
 | dK kvs=>obtain⟨_,_,_,_,_,_,_,e,_⟩:=x;exact⟨_,e⟩
 | dT kvs=>obtain⟨_,_,_,_,_,_,_,e,_⟩:=x;exact⟨_,e⟩
 | set S n=>obtain⟨_,_,_,_,e,_⟩:=x;exact⟨_,e⟩
 | ins C dx fs=>exact⟨_,x.2.2.2.1⟩
 | own y=>exact x
 | xd fs=>obtain⟨_,⟨_,_,_,e,_⟩,_⟩:=x;exact⟨_,e⟩
 | rng lo hi=>obtain⟨_,_,_,e⟩:=x;exact⟨_,e⟩
 | frz ob u=>exact⟨_,x.1⟩
 | tbl ps=>exact⟨_,x⟩
 | met f y=>exact⟨_,x⟩
 | ext φ=>exact x.2.1
def jr.part {h h' B:Heap}(x:jr P w H h)(hB:B.StaysIn h)(Xs:B.StaysIn h')(jB:∀b u,H b=some u->∃o,B.get? b=some o):jr P w H h':=fun a o e=>
 (x a o e).gW (fun b u hb q=>by
  obtain⟨o',eo⟩:∃o',B.get? b=some o':=by
   rcases hb with hb|hb
   ·subst hb;exact jB _ _ e
   ·exact jB _ _ hb
  have:=hB b o' eo;rw[q] at this;cases this;exact Xs b _ eo) (fun _ q=>q) fun _ _ q=>q
def qF (H:Hp)(a:Gc):Hp:=fun b=>if b=a then none else H b
def gK:qF H a a=none:=if_pos rfl
def cV {a b:Gc}(h:b≠a):qF H a b=H b:=if_neg h
def u4 (P:YZ)(w:Zb)(base:Heap):F4:=fun outer H s E e s'=>Dx fun ea cls t B H' dx=>e = .ref ea/\s'.os=s.os/\Qch s'.gens/\Un (kJ outer) [] H H' s.heap s'.heap/\jr P w H' s'.heap /\
 base.StaysIn B/\(∀b o,s.heap.get? b=some o->b∉kJ outer->∃o',B.get? b=some o')/\(∀b u,H' b=some u->∃o',B.get? b=some o')/\pO B outer ea cls (.ref t) dx s'.heap/\E cls dx H'
def l7 {base h:Heap}:∀{l:List Env} {b:Gc},h.FunFrames base l->b∈kJ l->∃o,h.get? b=some o/\∀vs,o.data ≠ .fields vs:=fun{l b} hl hb=>by
 refine aj.el (hl.mem hb) _ ?_;rintro _ o e n;exact⟨o,e,n⟩
section
variable {P:YZ}{w:Zb}{K:Ja}{mg:Str->Option Fk}{base:Heap}{N:List Str}{qual:Str}{scope:QaT}{f:Gc}{cd:Fk}{A:Zs}{outer:List Env}{s0:Wp}{H0:Hp}{E:XK}
def xr {σ:St}{H:Hp}{s:Wp}{e t:Gc}{oe:Obj}{vs:Array Fk}
  (I:Inv (oo (u4 P w base) P w K mg base N qual scope f cd A outer s0 H0 E) pins σ H s) (he:s.heap.get? e=some oe) (new:s0.heap.get? e=none) (hd:oe.data = .fields vs) (v1:vs[1]? = some .none) (v0:vs[0]? = some (.ref t))
  (N1:H e=none\/∃ φ,H e=some (.ext φ)) (hE:E oe.cls oe.dict (qF H e)):(oo (u4 P w base) P w K mg base N qual scope f cd A outer s0 H0 E).xe (.ref e) s:=by
 let env:=Qa6 qual scope s0.heap.objs.size f cd
 let B:=hideAll s.heap (e::kJ (env::outer))
 have lA:B.StaysIn s.heap:=fun b o q=>of_hideAll _ q;have LY:s.heap.FunFrames base (env::outer):=I.stack;have RW:∀b o,s0.heap.get? b=some o->b≠s0.heap.objs.size:=fun b o q=>Jl (Jf q);have B4:∀b o,s0.heap.get? b=some o->b≠e:=fun b o q z=>by rw[z,new] at q;cases q
 have qB:=fun b hb=>by
  have:b∈(env::outer).filterMap (·.frame):=hb;exact Jq.mp this
 have V1:=fun b o q z=>by
  exact B4 b _ (I.ok.bs b o q).1 z
 have jB:∀b u,qF H e b=some u->∃o,B.get? b=some o:=fun b u q=>by
  have nb:b≠e:=fun z=>by rw[z,gK] at q;cases q
  rw[cV nb] at q;obtain⟨o,eo⟩:=(I.bq b u q).ex;refine⟨o,Qer _ eo fun z =>?_⟩
  rcases Jq.mp z with z|z
  ·exact nb z
  ·have:=I.tw b z;rw[q] at this;cases this
 have QU:base.StaysIn B:=fun b o q=>by
  refine Qer _ (I.bs b o q).1 fun z =>?_
  rcases Jq.mp z with z|z
  ·exact V1 b o q z
  ·have:=(LY.mem z).1;rw[q] at this;cases this
 have ub:Un (kJ outer) [] H0 H s0.heap s.heap:=I.base;refine uC I.ok.frames (funFrames_hide LY fun v hv a ha=>Jj _ (List.mem_filterMap.mpr ⟨v,hv,ha⟩)) rfl he lA (hideAll_none _ (Jm ..)) hd v1 v0 fun h' sx up =>?_;have hk:=fun b o ne hb q=>sx.1 b o (Qer _ q fun z=>(Jq.mp z).elim ne hb);have vD:∀b o,b∈kJ (env::outer)->s.heap.get? b=some o->∃sl,h'.get? b=some { o with slots:=sl }:=fun b o hb q=>by
  refine aj.el (l7 LY hb) _ ?_;rintro o' e' nf;rw[q] at e';cases e';exact up b o q nf
 have old:=fun b o q hb z=>(qB b z).elim (RW b o q) hb;have Ox:jr P w (qF H e) s.heap:=fun b u q=>by
  have nb:b≠e:=fun z=>by rw[z,gK] at q;cases q
  rw[cV nb] at q;refine(I.bq b u q).gW (fun _ _ _ z=>z) (fun c z =>?_) fun c xs z =>?_
  all_goals
   have nc:c≠e:=fun y=>by
    rw[y] at z
    rcases N1 with l|⟨φ,l⟩<;>(rw[l] at z;cases z)
   rw[cV nc];exact z
 have FW:∀b o,H0 b=some o->(∀ φ,H b≠some (.ext φ))->H b≠none->qF H e b=H b:=fun b o q n1 n2=>by
  refine cV fun z =>?_;rw[z] at n1 n2
  rcases N1 with l|⟨φ,l⟩
  ·exact n2 l
  ·exact n1 φ l
 refine⟨e,oe.cls,t,B,qF H e,oe.dict,rfl,I.os,I.bare,⟨?_,?_,?_,?_,?_,?_,?_⟩,Ox.part lA sx.1 jB,QU,?_,jB,sx,hE⟩
 ·exact fun b o q n hb mQ=>hk b o (B4 b o q) (old b o q hb) (ub.keep b o q n hb mQ)
 ·intro b o q n hb mQ;obtain⟨sl,e1⟩:=ub.slot b o q n hb mQ;obtain⟨sl',e2⟩:=vD b _ (by show b∈(env::outer).filterMap (·.frame);rw[Y6];exact Jj _ hb) e1;exact⟨sl',e2⟩
 ·intro b o q n mQ;rw[cV (B4 b o q)];exact ub.free b o q n mQ
 ·intro b o q mQ;obtain⟨o1,e1⟩:=ub.there b o q mQ
  by_cases hb:b∈kJ (env::outer)
  ·obtain⟨sl,e2⟩:=vD b o1 hb e1;exact⟨_,e2⟩
  ·exact⟨o1,hk b o1 (B4 b o q) hb e1⟩
 ·intro b xs q;have z:=ub.jC b xs q;rw[FW b _ q (fun φ y=>by rw[z] at y;cases y) (fun y=>by rw[z] at y;cases y)];exact z
 ·intro b o u q;have z:=ub.jw b o u q;rw[FW b _ q (fun φ y=>by rw[z] at y;cases y) (fun y=>by rw[z] at y;cases y)];exact z
 ·intro b ps q;obtain⟨m,z⟩:=ub.kr b ps q;refine⟨m,?_⟩;rw[FW b _ q (fun φ y=>by rw[z] at y;cases y) (fun y=>by rw[z] at y;cases y)];exact z
 ·intro b o q hb;obtain⟨o1,e1⟩:=ub.there b o q (by simp);exact⟨o1,Qer _ e1 fun z=>(Jq.mp z).elim (B4 b o q) (old b o q hb)⟩
def Cj (hE:∀c d H,E' c d H->E c d H):Passes (u4 P w base) (oo (u4 P w base) P w K mg base N qual scope f cd A outer s0 H0 E) E':=by
 intro pins σ H s ev s' I h
 let env:=Qa6 qual scope s0.heap.objs.size f cd
 obtain⟨e,cls,t,B,H',dx,rfl,os',bare',u1,hok',QU,hold,jB,sx,q⟩:=h;have ub:Un (kJ outer) [] H0 H s0.heap s.heap:=I.base;have RW:∀b o,s0.heap.get? b=some o->b≠s0.heap.objs.size:=fun b o q=>Jl (Jf q);have qB:=fun b hb=>by
  have:b∈(env::outer).filterMap (·.frame):=hb;exact Jq.mp this
 have d7:=fun b hb=>by
  show b∈(env::outer).filterMap (·.frame);rw[Y6];exact Jj _ hb
 have old:=fun b o q hb z=>(qB b z).elim (RW b o q) hb;refine Bi I.ok.frames rfl sx fun h' B1 up =>?_;have step:∀b o,s.heap.get? b=some o->b∉kJ (env::outer)->∀o1,s'.heap.get? b=some o1->h'.get? b=some o1:=fun b o q hb o1 e1=>by
  obtain⟨o',eo⟩:=hold b o q hb;have e2:=sx.1 b o' eo;rw[e1] at e2;cases e2;exact B1.1 b _ eo
 have vD:∀b o,b∈kJ (env::outer)->s'.heap.get? b=some o->∃sl,h'.get? b=some { o with slots:=sl }:=fun b o hb q=>by
  refine aj.el (l7 sx.2.2.1 hb) _ ?_;rintro o' e' nf;rw[q] at e';cases e';exact up b o q nf
 refine⟨e,cls,t,B,H',dx,rfl,(os'.trans I.os),bare',⟨?_,?_,?_,?_,?_,?_,?_⟩,hok'.part sx.1 B1.1 jB,QU,?_,jB,B1,hE _ _ _ q⟩
 ·intro b o q n hb mQ;have e1:=ub.keep b o q n hb mQ;have n1:=ub.free b o q n mQ;have uF:=old b o q hb;exact step b o e1 uF o (u1.keep b o e1 n1 uF (by simp))
 ·intro b o q n hb mQ;obtain⟨sl,e1⟩:=ub.slot b o q n hb mQ;have n1:=ub.free b o q n mQ;obtain⟨sl1,e2⟩:=u1.slot b _ e1 n1 (d7 b hb) (by simp);obtain⟨sl2,e3⟩:=vD b _ (d7 b hb) e2;exact⟨sl2,e3⟩
 ·intro b o q n mQ;have n1:=ub.free b o q n mQ;obtain⟨o1,e1⟩:=ub.there b o q mQ;exact u1.free b o1 e1 n1 (by simp)
 ·intro b o q mQ;obtain⟨o1,e1⟩:=ub.there b o q mQ;obtain⟨o2,e2⟩:=u1.there b o1 e1 (by simp)
  by_cases hb:b∈kJ (env::outer)
  ·obtain⟨sl,e3⟩:=vD b o2 hb e2;exact⟨_,e3⟩
  ·exact⟨o2,step b o1 e1 hb o2 e2⟩
 ·exact fun b xs q=>u1.jC b xs (ub.jC b xs q)
 ·exact fun b o u q=>u1.jw b o u (ub.jw b o u q)
 ·intro b ps q;obtain⟨m1,e1⟩:=ub.kr b ps q;obtain⟨m2,e2⟩:=u1.kr b _ e1;exact⟨m1++m2,by rw[e2,Array.append_assoc]⟩
 ·intro b o q hb;obtain⟨o1,e1⟩:=ub.there b o q (by simp);exact hold b o1 e1 (old b o q hb)
end
def Et (X:Cx)(pins:List (Gc×Obj))(σ0:St)(E':XK):Fk->Wp->Prop:=fun e s'=>oG fun nV H s=>Inv X (pins++nV) σ0 H s/\u4 X.prog X.w X.base X.stack H s E' e s'
def xB (X:Cx)(pins:List (Gc×Obj))(σ0:St)(E':XK):Cx:={ X with pn:=X.pn++pins,xe:=Et X pins σ0 E' }
def xH (X:Cx)(e:Gc):Cx:={ X with A:=X.A.mark (some (.ref e)),calm:=false,xe:=fun _ _=>False }
section
variable {X:Cx}{pins nV:List (Gc×Obj)}{σ σ0:St}{E':XK}{H:Hp}{s:Wp}
def Inv.W2 (I:Inv X pins σ H s):Inv (xB X pins σ0 E') [] σ H s:=
 ⟨⟨I.ok.mod,I.ok.kind,I.ok.glob,I.ok.blt,I.ok.above,I.ok.inj,I.ok.has,I.ok.cab,I.ok.hd,I.ok.frames,I.ok.stk,I.ok.exf,I.ok.bs,I.ok.bsz,I.ok.noex,I.ok.exfs,I.ok.ko,I.ok.frf⟩,I.os,I.bare,I.base,I.loc,I.cell,I.free,I.freeC,
  fun p hp=>I.pin p (by have hp:p∈(X.pn++pins)++[]:=hp;simpa using hp),I.bq,I.len⟩
def Inv.Ou (I:Inv (xB X pins σ0 E') nV σ H s):Inv X (pins++nV) σ H s:=
 ⟨⟨I.ok.mod,I.ok.kind,I.ok.glob,I.ok.blt,I.ok.above,I.ok.inj,I.ok.has,I.ok.cab,I.ok.hd,I.ok.frames,I.ok.stk,I.ok.exf,I.ok.bs,I.ok.bsz,I.ok.noex,I.ok.exfs,I.ok.ko,I.ok.frf⟩,I.os,I.bare,I.base,I.loc,I.cell,I.free,I.freeC,
  fun p hp=>I.pin p (by show p∈(X.pn++pins)++nV;simpa [Y4] using hp),I.bq,I.len⟩
def Inv.Vk (I:Inv X pins σ H s):Inv (xH X e) pins σ H s:=
 ⟨⟨I.ok.mod,I.ok.kind,I.ok.glob,I.ok.blt,I.ok.above,I.ok.inj,I.ok.has,I.ok.cab,fun z=>Bool.noConfusion z,I.ok.frames,I.ok.stk,I.ok.exf,I.ok.bs,I.ok.bsz,I.ok.noex,I.ok.exfs,I.ok.ko,I.ok.frf⟩,I.os,I.bare,I.base,I.loc,I.cell,I.free,I.freeC,I.pin,I.bq,I.len⟩
def Inv.Qh (k:X.Ok)(I:Inv (xH X e) pins σ H s):Inv X pins σ H s:=
 ⟨k,I.os,I.bare,I.base,I.loc,I.cell,I.free,I.freeC,I.pin,I.bq,I.len⟩
def Af (σ0:St)(sp:Sp)(E:XK)(t:TA):TE:=fun σ H Q =>σ = σ0/\t σ H fun vs H1=>sp vs H1 Q E
def Mh {p pos:Pos}(F:aW X.prog X.w X.K X.mg X.base (u4 X.prog X.w X.base) k f fd ps sp)(hr:dw k X.A)(hg:Gl X x)(hm:X.mg x=some (.ref f))
  (hk:Yc X.K (.ref f)=true) (hb:Binds X.K fd ps []) (ha:PA (xB X pins σ0 E') (e::es) t) (qW:(x==("__debug__" : Str))=false:=by decide)
  (he:Ze (e::es) X.env=(false,ZM e X.env)::Ze es X.env:=by rfl) (nY:(QaS pos (Ze es X.env)).any (·.1)=false:=by rfl) :
  PE (xB X pins σ0 E') (.Call (.Name x p) (e::es) [] pos) (Af σ0 sp E' t):=by
 intro pl s σ H Q I h;obtain⟨hσ,h⟩:=h;subst hσ;refine ZK (iT I hg hm (QaV I.ok.mod.xc hk (bb (ha s σ H _ I h) fun us s1 hz_=>aj.el hz_ _ fun vs H1 I1 r q=>⟨I1.iQ,?_⟩) he nY) qW);have J1:=I1.Ou;refine Qbq (Qbm (F.run X.A X.stack s1 H1 ⟨us,[]⟩ us vs Q E' hr J1.Gi (by simpa using(hb s1 us J1.iQ (by simpa using(by rw[<-r.length];exact F.len _ _ _ _ q)))) r q) fun r s' hq =>?_);cases r with
 | error e=>exact⟨pl,H1,s1,J1,hq⟩
 | ok fl=>
  cases fl with
  | ret u=>exact I1.after hq
  | next=>exact ZS hq
  | brk=>exact ZS hq
  | cont=>exact ZS hq
end
def Un.land {st:List Env}{H H':Hp}{h h1 h3 B:Heap}(u:Un (kJ st) [] H H' h h1)(hold:∀b o,h.get? b=some o->b∉kJ st->∃o',B.get? b=some o')(k1:B.StaysIn h1)(k3:B.StaysIn h3)(hf:h1.FunFrames B st)(up:h1.UpToSlots h3):
  Un (kJ st) [] H H' h h3:=by
 have step:∀b o,h.get? b=some o->b∉kJ st->∀o1,h1.get? b=some o1->h3.get? b=some o1:=fun b o q hb o1 e1=>by
  obtain⟨o',eo⟩:=hold b o q hb;have e2:=k1 b o' eo;rw[e1] at e2;cases e2;exact k3 b _ eo
 have sl:∀b o,b∈kJ st->h1.get? b=some o->∃l,h3.get? b=some { o with slots:=l }:=fun b o hb q=>by
  refine aj.el (l7 hf hb) _ ?_;rintro o' e' nf;rw[q] at e';cases e';exact up b o q nf
 refine⟨fun b o q n hb hx=>step b o q hb o (u.keep b o q n hb hx),fun b o q n hb hx =>?_,u.free,fun b o q hx =>?_,u.jC,u.jw,u.kr⟩
 ·obtain⟨l1,e1⟩:=u.slot b o q n hb hx;obtain⟨l2,e2⟩:=sl b _ hb e1;exact⟨l2,e2⟩
 ·obtain⟨o1,e1⟩:=u.there b o q hx
  by_cases hb:b∈kJ st
  ·obtain⟨l,e2⟩:=sl b o1 hb e1;exact⟨_,e2⟩
  ·exact⟨o1,step b o q hb o1 e1⟩
def Cg {o:Obj}(he:h.get? e=some o):Looks M h (typeOf (.ref e)) o.cls:=
 (Looks.ld he).andThen .now
section
variable {X:Cx}{L:Gc}{pins:List (Gc×Obj)}{σ:St}{H:Hp}{s:Wp}
def ke {i:Nat}{n:Str}{pos:Pos}{Q:Unit->Wp->Prop}(I:Inv X pins σ H s)(hN:X.N.Nodup)(hi:X.N[i]? = some n)(Gu:X.env.kindOf n=some .local)
  (h:∀s',Inv X pins (σ.set i none) H s'->Q () s'):YX M A (do bindName X.env n .none;unbindBehindTheSuite X.env n pos) Q E s:=by
 refine aj.el (id I.loc) _ ?_;rintro m hn hl;have hp:(X.env.scope.kind == .class||(X.env.scope.kind == .module&&X.env.locals != X.env.globals))=false:=by rw[I.ok.kind];rfl
 obtain⟨oL,_,_,hoL,_⟩:=id hn;refine wpAny_nameGoes_keeps Gu hn hp fun h' v hn' hs=>h _ ?_;have off:=fun b hb=>hs.2 b hb;have old:∀b o,X.s₀.heap.get? b=some o->b≠X.env.locals:=fun b o e=>Jl (Jw (Jf e) I.ok.above);have M0:∀b u,H b=some u->b≠X.env.locals:=fun b u e z=>by have:=I.free;rw[<-z,e] at this;cases this
 refine⟨I.ok,I.os,I.bare,⟨fun b o e n hb hx =>?_,fun b o e n hb hx =>?_,I.base.free,fun b o e hx =>?_,I.base.jC,I.base.jw,I.base.kr⟩,⟨_,hn',fun j y w e1 e2 e3 =>?_⟩,fun y c e =>?_,I.free,I.freeC,fun p hp =>?_,?_,by simpa using I.len⟩
 ·rw[off b (old b o e)];exact I.base.keep b o e n hb hx
 ·rw[off b (old b o e)];exact I.base.slot b o e n hb hx
 ·rw[off b (old b o e)];exact I.base.there b o e hx
 ·have hj:j≠i:=fun z=>by
   subst z;rw[Yi (by rw[I.len];exact(Ji.mp hi).1)] at e2;cases e2
  have hy:y≠n:=fun z=>hj (pF hN e1 (z▸hi));rw[Yb (Zx hj)] at e2;refine aj.el (hl j y w e1 e2 e3) _ ?_;rintro u ru lk;refine⟨u,ru,?_⟩
  rcases lk with ⟨k1,k2⟩|⟨k1,c,k2,k3⟩
  ·exact .inl ⟨k1,by show(if y=n then v else m y)=some u;rw[if_neg hy];exact k2⟩
  ·refine .inr ⟨k1,c,k2,?_⟩;have hc:=I.Hn y c k2;exact k3.sameBut hs hc
 ·obtain⟨w,z⟩:=I.cell y c e;exact⟨w,z.sameBut hs (I.Hn y c e)⟩
 ·refine aj.el (I.pin p hp) _ ?_;rintro p1 p2 p3 p4 p5;exact⟨by rw[off _ p3];exact p1,p2,p3,p4,p5⟩
 ·refine fun b u e=>(I.bq b u e).gW (fun c w hc q =>?_) (fun _ q=>q) fun _ _ q=>q;rw[off c (by
   rcases hc with hc|hc
   ·subst hc;exact M0 _ _ e
   ·exact M0 _ _ hc)]
  exact q
end
def OW (e:Gc)(cls:Fk):HO := .ext fun h=>∃o,h.get? e=some o/\o.cls=cls
def PM (e:Gc)(cls:Fk)(d:Gc):HO := .ext fun h=>∃o,h.get? e=some o/\o.cls=cls/\o.dict=some d/\notCls o=true
def mj (e:Gc)(cls:Fk):Option Gc->HO
 | none=>OW e cls
 | some d=>PM e cls d
def DJ {o:Obj}{cls:Fk}{dx:Option Gc}{vs:Array Fk}(h1:h.get? e=some o)(h2:o.cls=cls)(h3:o.dict=dx)(h4:o.data = .fields vs):bt P w H h e (mj e cls dx):=by
 cases dx with
 | none=>exact⟨⟨o,h1,h2⟩,⟨o,h1⟩,fun a b ⟨o,e1,r⟩ k=>⟨o,k _ e1,r⟩⟩
 | some d=>exact⟨⟨o,h1,h2,h3,by obtain⟨_,_,dt,_⟩:=o;cases h4;rfl⟩,⟨o,h1⟩,fun a b ⟨o,e1,r⟩ k=>⟨o,k _ e1,r⟩⟩
section
variable {X:Cx}{L:Gc}{pins:List (Gc×Obj)}{σ:St}{H:Hp}{s:Wp}
def Inv.yz (I:Inv X pins σ H s)(h0:H e=none)(h1:e≠X.env.locals)(h2:∀x c,X.env.cells.lookup x=some c->c≠e)(h3:∀p∈X.pn++pins,p.1≠e)(h4:∀b u,X.s₀.heap.get? b=some u->b≠e)
  (new:bt X.prog X.w (upd H e o) s.heap e o):Inv X pins σ (upd H e o) s:=by
 refine⟨I.ok,I.os,I.bare,⟨I.base.keep,I.base.slot,fun b u q n hx =>?_,I.base.there,fun b xs q =>?_,fun b u xs q =>?_,fun b ps q =>?_⟩,I.loc,I.cell,?_,fun x c q =>?_,fun p hp =>?_,I.bq.adopt h0 new,I.len⟩
 ·rw[au (h4 b u q)];exact I.base.free b u q n hx
 ·have z:=I.base.jC b xs q;rw[au (aH z h0)];exact z
 ·have z:=I.base.jw b u xs q;rw[au (aH z h0)];exact z
 ·obtain⟨m,z⟩:=I.base.kr b ps q;exact⟨m,by rw[au (aH z h0)];exact z⟩
 ·rw[au (Zx h1)];exact I.free
 ·rw[au (h2 x c q)];exact I.freeC x c q
 ·obtain⟨p1,p2,p3⟩:=I.pin p hp;exact⟨p1,by rw[au (h3 p hp)];exact p2,p3⟩
def Ends.gone (D:Ends)(j:Nat):Ends:={ nx:=fun σ H=>D.nx (σ.set j none) H,rt:=D.rt,bk:=fun σ H=>D.bk (σ.set j none) H,ct:=fun σ H=>D.ct (σ.set j none) H }
def JH (K:Ja)(C:Gc)(j:Nat)(tb:St->XK->TS)(th:TS):TS:=fun D σ H=>∃E',tb σ E' D σ H /\
 ∀cls dx H',E' cls dx H'->exmOne K cls (.ref C)=some true/\∀e,H' e=none->th (D.gone j) (σ.set j (some (.ref e))) (upd H' e (mj e cls dx))
def GG {c n:Str}{j:Nat}{C:Gc}{body IK:List QbR}{b0:QbR}{tb:St->XK->TS}{th:TS}{np hp pos:Pos}(lA:X.stack=X.env::X.outer)(Xe:X.env.frame=some L)(hN:X.N.Nodup)(hj:X.N[j]? = some n)(Gu:X.env.kindOf n=some .local)
  (hg:Gl X c) (hm:X.mg c=some (.ref C)) (hb:∀pins σ0 E',xb (xB X pins σ0 E') body (tb σ0 E')) (hh:∀e,xb (xH X e) (b0::IK) th) (hd:(c==("__debug__" : Str))=false:=by decide) (hex:X.ex=[]:=by rfl) :
  PS X (.Try body [.ExceptHandler (some (.Name c np)) (some n) (b0::IK) hp] [] [] pos) (JH X.K C j tb th):=by
 intro pins s σ H D I h;obtain⟨E',uF,hc⟩:=h;refine wpAny_Try_except (Z9 (hb pins σ E' s σ H D I.W2 uF) (fun f s1 q =>?_) fun ev s1 q =>?_)
 ·cases f with
  | next=>
   obtain⟨σ',H',J,q⟩:=q;have J:=J.Ou;rw[Uu] at J;exact QbH ⟨σ',H',J,q⟩
  | brk=>
   obtain⟨σ',H',J,q⟩:=q;have J:=J.Ou;rw[Uu] at J;exact⟨σ',H',J,q⟩
  | cont=>
   obtain⟨σ',H',J,q⟩:=q;have J:=J.Ou;rw[Uu] at J;exact⟨σ',H',J,q⟩
  | ret u=>
   obtain⟨v,σ',H',J,r,q⟩:=q;have J:=J.Ou;rw[Uu] at J;exact⟨v,σ',H',J,r,q⟩
 ·obtain⟨nV,H1,s0,J,ea,cls,t,B,H',dx,rfl,os',bare',u1,hok',QU,hold,jB,sx,q⟩:=q;obtain⟨hx,ht⟩:=hc _ _ _ q;have S1:=sx.2.1;have xx:∃oe vs,s1.heap.get? ea=some oe/\oe.data = .fields vs:=by
   refine aj.el (sx.own) _ ?_;rintro oe e1 _ _ vs e3;exact⟨oe,vs,e1,e3⟩
  have WW:ea∉kJ X.stack:=fun z=>by
   refine aj.el (l7 sx.2.2.1 z) _ ?_;rintro o e1 e2;refine aj.el (xx) _ ?_;rintro oe vs e3 e4;rw[e1] at e3;cases e3;exact e2 vs e4
  have BZ:∀b o,s0.heap.get? b=some o->b≠ea:=fun b o e z=>by
   subst z;obtain⟨o',e'⟩:=hold b o e WW;rw[S1] at e';cases e'
  have TZ:H' ea=none:=by
   cases e:H' ea with
   | none=>rfl
   | some u=>obtain⟨o',e'⟩:=jB _ _ e;rw[S1] at e';cases e'
  have B1:=sx;rw[lA] at B1;refine Ai (by rw[<-lA];exact J.ok.frames) Xe B1 fun h4 held4 up4=>An held4.1 held4.2.1 held4.2.2.1 held4.2.2.2 fun h5 fly5 up5 =>?_;have at_:=fun{h9} k9 up9=>
   (J.Ag (s':={ s1 with heap:=h9 }) os' (u1.land hold sx.1 k9 sx.2.2.1 up9) (hok'.part sx.1 k9 jB) bare' (fun b z=>absurd z (by simp))).eO
  have J5:=at_ fly5.1 (up4.trans up5);obtain⟨ob,SM,qP,_⟩:=fly5.own;refine wpAny_handleBy_cons (codeAny_handlers_test (iT J5.Vk hg hm (exm_one J5.iQ (by rw[<-qP];exact Cg SM) hx _ _ _ _ (fun b o z=>z) (codeAny_handlers_suite_as (An fly5.1 fly5.2.1 fly5.2.2.1 fly5.2.2.2 fun h6 fly6 up6=>aj.el (fly6.own) _ ?_))) hd)) (by intro z;cases z);rintro o6 ho6 hc6 M7 w6 hw6;have K6:Inv X pins σ (upd H' ea (mj ea cls dx)) { s1 with heap:=h6 }:=by
   refine(at_ fly6.1 ((up4.trans up5).trans up6)).yz TZ (fun z =>?_) (fun x k e =>?_) (fun p hp =>?_) (fun b u e =>?_) (DJ ho6 hc6 M7 hw6)
   ·obtain⟨m,⟨oL,_,_,e,_⟩,_⟩:=J.loc;exact BZ _ _ e z.symm
   ·obtain⟨v,o,e1,_⟩:=J.cell x k e;exact BZ _ _ e1
   ·exact BZ _ _ (J.pin p (by
     rcases Ub.mp hp with z|z
     ·exact Us _ z
     ·exact Jo _ (Us _ z))).1
   ·obtain⟨o',e'⟩:=J.base.there b u e (by rw[hex];simp);exact BZ _ _ e'
  refine iO (X:=xH X ea) (K6.Vk) hN hj (.inl Gu) (v := .ref ea) rfl (fun s7 K7=>(Z9 (hh ea _ _ _ (D.gone j) K7 (ht ea TZ)) (fun f s8 q8 =>?_) fun _ _ z=>ZS z)) (.inr Gu);cases f with
  | next=>obtain⟨σ',H8,J8,q8⟩:=q8;exact ke (J8.Qh J.ok) hN hj Gu fun s9 J9=>⟨_,_,J9,q8⟩
  | brk=>obtain⟨σ',H8,J8,q8⟩:=q8;exact ke (J8.Qh J.ok) hN hj Gu fun s9 J9=>⟨_,_,J9,q8⟩
  | cont=>obtain⟨σ',H8,J8,q8⟩:=q8;exact ke (J8.Qh J.ok) hN hj Gu fun s9 J9=>⟨_,_,J9,q8⟩
  | ret u=>obtain⟨v,σ',H8,J8,r,q8⟩:=q8;exact ke (J8.Qh J.ok) hN hj Gu fun s9 J9=>⟨v,_,_,J9,r,q8⟩
end
section
variable {P:YZ}{w:Zb}{K:Ja}{mg:Str->Option Fk}{base:Heap}
def dM.R9 {st:QbR}{f:Gc}{fd:Zc}{N ps:List Str}{k:Nat}{sp:Sp}(F:dM K x qual st f fd)(S:aG N ps (ai st))(len:∀vs H Q E,sp vs H Q E->vs.length=ps.length)
  (vU:∀bS A outer s H vs Q E,dw k (A.deeper (Qa6 qual (ai st) s.heap.objs.size f bS))->sp vs H Q E ->
   ∃t,xb (oo (u4 P w base) P w K mg base N qual (ai st) f bS A outer s H E) (bN st) t/\t { nx:=fun _ H'=>Q .non H',rt:=Q } (start N vs) H):aW P w K mg base (u4 P w base) (k+1) f fd ps sp:=by
 refine aj.el (F.ex) _ ?_;rintro oc od kV doc pm an bS ct wO rfl lk yn;exact IB lk yn S len fun A outer s H vs Q E hr vz=>vU bS A outer s H vs Q E hr vz
structure Gp (P:YZ)(w:Zb)(K:Ja)(mg:Str->Option Fk)(base:Heap)(k:Nat)(x:Str)(ps:List Str)(sp:Sp):Prop where
 ex:∃f fd,aW P w K mg base (u4 P w base) k f fd ps sp/\Binds K fd ps []/\Yc K (.ref f)=true/\mg x=some (.ref f)
def Gp.mono {x:Str}{ps:List Str}{sp:Sp}(F:Gp P w K mg base j x ps sp)(h:j<=k):Gp P w K mg base k x ps sp:=by
 refine aj.el (F.ex) _ ?_;rintro f fd a b c d;exact⟨f,fd,a.mono h,b,c,d⟩
def LR {k:Nat}{x:Str}{ps:List Str}{sp:Sp}{p pos:Pos}{e:ZA}{es:List ZA}{t:TA}(F:Gp X.prog X.w X.K X.mg X.base k x ps sp)(hr:dw k X.A)(hg:Gl X x)
  (ha:PA (xB X pins σ0 E') (e::es) t) (qW:(x==("__debug__" : Str))=false:=by decide) (he:Ze (e::es) X.env=(false,ZM e X.env)::Ze es X.env:=by rfl) (nY:(QaS pos (Ze es X.env)).any (·.1)=false:=by rfl) :
  PE (xB X pins σ0 E') (.Call (.Name x p) (e::es) [] pos) (Af σ0 sp E' t):=by
 refine aj.el (F.ex) _ ?_;rintro f fd a b c d;exact Mh a hr hg d c b ha qW he nY
end
def Gp.calm {P:YZ}{w:Zb}{K:Ja}{mg:Str->Option Fk}{base:Heap}{k:Nat}{x:Str}{ps:List Str}{sp sp':Sp}(F:Gp P w K mg base k x ps sp)(h:∀vs H Q E,sp' vs H Q E->sp vs H Q (fun _ _ _=>False)):Fn P w K mg base k x ps sp':=by
 refine aj.el (F.ex) _ ?_;rintro f fd a b c d;refine⟨f,fd,⟨fun vs H Q E q=>a.len _ _ _ _ (h _ _ _ _ q),fun A outer s H args us vs Q E hr he hb hv hs=>Qbm (a.run A outer s H args us vs Q _ hr he hb hv (h _ _ _ _ hs)) fun r s' q =>?_⟩,b,c,d⟩;cases r with
 | error e=>obtain⟨_,_,_,_,_,_,_,_,_,_,_,_,_,_,_,z⟩:=q;exact z
 | ok fl=>cases fl<;>exact q
open PySem.Calls Builtin Builtin.ObjectAttr Builtin.Getset_descriptor
def ExcAt (e C:Gc)(h:Heap):Prop:=∃o,h.get? e=some o/\o.cls = .ref C
structure j6 (K:Frag)(C:Gc):Prop where
 cl:(QdH K C).isSome=true
 ga:findIn K (.ref C) "__getattribute__" = some (some (.builtin "BaseException.__getattribute__"))
 gt:findIn K (.ref C) "__getattr__" = some none
 ca:findIn K (.ref C) "__class__" = some (some (.builtin "object.__class__"))
 cg:specialIn K (.builtin "object.__class__") "__get__" = some (some (.builtin "getset_descriptor.__get__"))
 ct:takesIn K (.builtin "object.__class__")=some true
 mo:mroIn K C (.type "object")=some true
 mb:mroIn K C (.type "BaseException")=some true
section
variable {K:Frag}{e C:Gc}
def iM {h:Heap}(p:ExcAt e C h):Looks M h (typeOf (.ref e)) (.ref C):=by
 obtain⟨o,h1,h2⟩:=p;exact h2▸(Looks.ld h1).andThen .now
def Dh {h:Heap}{self:Fk}(X:K.In h)(O:j6 K C):Looks M h (find self (.ref C) "__class__") (.bind (.builtin "getset_descriptor.__get__") (.builtin "object.__class__")):=by
 have d:Looks M h (dataDescriptor? (some (.builtin "object.__class__")) (some (.builtin "getset_descriptor.__get__"))) (some (.builtin "getset_descriptor.__get__",.builtin "object.__class__")):=(looks_takesIn (M:=M) X O.ct).andThen .now;exact(Qbl (M:=M) X O.ca).andThen ((looks_specialIn X O.cg).andThen (d.andThen (Looks.tag .now)))
variable {prog:YZ}{w:Zb}{A:Zs}{E:Fk->Wp->Prop}{s:Wp}
def EE (X:K.In s.heap)(O:j6 K C)(p:ExcAt e C s.heap)(h:R (.ok (.ret (.ref C))) s):
  ZW (YW prog w) A (.call (.builtin "getset_descriptor.__get__") ⟨[.builtin "object.__class__",.ref e,tp],[]⟩) R s:=by
 obtain⟨hh,g,dr,t,os⟩:=s;have T0:=iM (M:=YW prog w) p;have T1:=looks_mroIn (M:=YW prog w) X O.mo;refine Qac KF.slot_gs.plain KF.entry_gs (KF.slot_gs.check _ _ _ _ _ _ _ _ KF.type_class (KF.args_gs _ _ _) (be (tz ?_)));unfold descrGetter descrCheckInstance descrNameAndClass isInstance;simp only[KF.owner_class]
 repeat lk
 refine⟨QbF _ ∅,(ZD KF.entry_class ?_)⟩
 repeat lk
 exact h
def BP {Q:Fin->Wp->Prop}(X:K.In s.heap)(O:j6 K C)(p:ExcAt e C s.heap)(h:Q (.done (.ret (.ref C))) s):
  YX (YW prog w) A (Builtin.«object.__getattribute__» ⟨[.ref e,.str "__class__" tk],[]⟩) Q E s:=by
 obtain⟨hh,g,dr,t,os⟩:=s;exact be (tz (be (tz (be ((iM (M:=YW prog w) p).at (be ((Dh (M:=YW prog w) (self := .ref e) X O).at (be (Zf (Qbq (EE X O p (tz h))))))))))))
def sN {Q:Unit->Wp->Prop}(X:K.In s.heap)(O:j6 K C)(p:ExcAt e C s.heap)(h:Q () s):YX (YW prog w) A (checkBuiltinCall "BaseException.__getattribute__" ⟨[.ref e,nameV],[]⟩) Q E s:=by
 obtain⟨hh,g,dr,t,os⟩:=s;have T0:=iM (M:=YW prog w) p;have T1:=looks_mroIn (M:=YW prog w) X O.mb;have k1:builtinKind "BaseException.__getattribute__" = some .slot:=∅;have k2:splitId "BaseException.__getattribute__" = some ("BaseException", "__getattribute__"):=∅;simp only[checkBuiltinCall,k2]
 repeat (first|lk|wp_step)
 exact h
def EH (X:K.In s.heap)(O:j6 K C)(p:ExcAt e C s.heap)(h:Q (some (.ref C)) { s with toks:=s.toks+1 }):YX (YW prog w) A (getAttr? (.ref e) "__class__") Q E s:=by
 obtain⟨hh,g,dr,t,os⟩:=s;exact be (wpAny_mkText (be (ZN (Zf (be ((iM (M:=YW prog w) p).at (be ((Qbl (M:=YW prog w) X O.ga).at (be ((Qbl (M:=YW prog w) X O.gt).at (be (ZN (Zf (be (tz (Qbq (Qac F.attr_ValueError.ga.plain F.entry_bexc_ga (sN X O p (BP X O p (handed_on rfl (tz h)))))))))))))))))))))
def E2 (O:j6 K C):KitX K (.ref e) (.ref C) (ExcAt e C) where
 ty:=fun _ _ _ p=>iM p
 it:=fun _ _ X _=>by
  have z:=O.cl;cases q:K.lookup C with
  | none=>simp[QdH,q] at z
  | some o=>
   obtain⟨c1,c2,c3,c4⟩:=o;cases c3<;>simp[QdH,q] at z
   exact fun A Q E s k h=>be (QeO (k _ _ (X _ _ q)) (tz h))
 ne:=fun h tp dd aF n sl X htp=>U8.mpr fun z=>by
  have z:=Value.ref.inj (beq_iff_eq.mp z);subst z;have z:=O.cl;cases q:K.lookup C with
  | none=>simp[QdH,q] at z
  | some o=>
   cases ((X _ _ q).symm.trans htp);simp[QdH,q] at z
 ca:=fun X p h=>EH X O p h
def zj (h1:QdH K D=some cd)(h2:typeIn K (.ref D)=some (.type "type"))(h3:subIn K (.ref C) (.ref D)=some b)(xA:(Zh C==Zh D)=false):kitOne K (.ref C) (.ref D)=some b:=by
 unfold kitOne kitCls;rw[if_neg (by rw[xA];decide)];simp[h1,h2,h3]
def HJ (h1:subIn K (.ref D) (.type "BaseException")=some true)(h2:QdH K D=some cd)(h3:typeIn K (.ref D)=some (.type "type"))(h4:subIn K (.ref C) (.ref D)=some true):exmOne K (.ref C) (.ref D)=some true:=by
 unfold exmOne kitCls;rw[h1];simp[h2,h3,h4]
def EB (h:QdH K C=some cd):(QdH K C).isSome=true:=by rw[h];rfl
def FU:kitOne K (.ref C) (.ref C)=some true:=by
 unfold kitOne;rw[if_pos (beq_iff_eq.mpr rfl)]
def LG (h1:kitMeta T=true)(h3:subIn K (.ref C) (.type T)=some b):kitOne K (.ref C) (.type T)=some b:=by
 unfold kitOne kitCls;simp[h1,h3]
end
section
variable {X:Cx}
def cG (hg:Gl X x)(hm:X.mg x=some (.ref C))(hd:(x==("__debug__" : Str))=false:=by decide):PE X (.Name x pos) (tC (.ref C)):=uw hg hm rfl hd
def NA:V->Option Fk
 | .ref D=>some (.ref D)
 | .ty T=>some (.type T)
 | _=>none
end
section
variable {X:Cx}
def Gx:eW X (Z6 .Mult) (fun x y H Q=>∃(z:Str) (n:Int),x = .str z/\y = .int n/\MulOk z n/\Q (.str (QaZ z n)) H):=by
 intro pins s σ H x y v u Q I rx ry h;obtain⟨z,n,rfl,rfl,ok,q⟩:=h;obtain⟨t,rfl⟩:=rx;obtain⟨t',rfl⟩:=ry;exact SB.mul ok fun t' k=>⟨.str _,H,I.tok _,⟨_,rfl⟩,q⟩
def P4:R2:=fun x y H Q=>Iy x y H Q\/∃(z:Str) (n:Int),x = .str z/\y = .int n/\MulOk z n/\Q (.str (QaZ z n)) H
def Pf:eW X (Z6 .Mult) P4:=kz.or Gx
def nJ {z:Str}{n:Int}(h1:z.length<=1000)(h2:n<=1000)(h3: -1000<=n):MulOk z n:=by
 refine⟨?_,fun a _ =>?_,fun a _ =>?_⟩
 ·rw[decide_eq_false ⋯,decide_eq_false ⋯];rfl
 ·have:(1000:Int)<=(2^63-1) / n:=by
   rw[Int.le_ediv_iff_mul_le ⋯];lia
  lia
 ·have:z.length*n.toNat<=1000*1000:=Nat.mul_le_mul h1 ⋯;show decide (_>KE)=false;simp;exact Jg this ∅
end
def oneMore {K:Type}[DecidableEq K](D:List K)(k:K):List K:=if k∈D then D else D++[k]
def bV {K:Type}[DecidableEq K](ks:Nat->K):Nat->List K
 | 0=>[]
 | i+1=>oneMore (bV ks i) (ks i)
def lG {K:Type}[DecidableEq K](ks:Nat->K):∀i,(bV ks i).length<=i
 | 0=>Je _
 | i+1=>by
  have:=lG ks i;unfold bV oneMore
  split
  ·lia
  ·rw[Jt];exact We this
section
variable {prog:YZ}{w:Zb}{K:Type}[DecidableEq K]{knd:QaB prog w K}
def lV (knd:QaB prog w K)(h:Heap)(a:Gc)(D:List K):Prop:=h.SetOf knd a (fun k=>decide (k∈D)) D.length
def lV.at' {h h':Heap}{a:Gc}{D:List K}(x:lV knd h a D)(k:∀o,h.get? a=some o->h'.get? a=some o):lV knd h' a D:=by
 obtain⟨o,es,ep,t,e,r⟩:=x;exact⟨o,es,ep,t,k _ e,r⟩
variable {A:Zs}{R:QaU->Wp->Prop}{I:Gc}{fp wr:List Gc}{G:Array QdO->Array QdO->Prop}{n:Nat}{P:Nat->Fk->Prop}{St:Nat->Wp->Prop}
end
abbrev ou (led:Bool):Obj:={ cls := .type "set",dict:=none,data := .set #[] 0 (.fresh 0 0 led) }
def Up (xs:List Nat):Prop:=xs.Pairwise (· < ·)
def Up.lt {xs:Array Nat}(h:Up xs.toList){i j:Nat}(hj:j<xs.size)(vo:i<j):xs[i]<xs[j]:=by
 have:=Uo.mp h i j (by simpa using Wg vo hj) (by simpa using hj) vo;simpa using this
structure Cut (xs:Array Nat)(j p:Nat):Prop where
 le:p<=xs.size
 lo:∀i (h:i<xs.size),i<p->xs[i]<j
 hi:∀i (h:i<xs.size),p<=i->j<=xs[i]
def pR (u:Up xs.toList)(j:Nat):∀fuel lo hi,hi-lo<=fuel->lo<=hi->hi<=xs.size->(∀i h,i<lo->xs[i]<j)->(∀i h,hi<=i->j<=xs[i])->Cut xs j (QdI xs j fuel lo hi)
 | 0,lo,hi,hf,hl,hs,h1,h2=>by
  have e:lo=hi:=by lia
  subst e;exact⟨hs,h1,h2⟩
 | fuel+1,lo,hi,hf,hl,hs,h1,h2=>by
  unfold QdI
  by_cases jv:lo<hi
  ·rw[if_pos jv];have hm:(lo+hi) / 2<xs.size:=by lia
   have e:xs.getD ((lo+hi) / 2) j=xs[(lo+hi) / 2]:=by simp[ hm]
   dsimp only;rw[e]
   by_cases hc:xs[(lo+hi) / 2]<j
   ·rw[if_pos hc];refine pR u j fuel _ _ ⋯ ⋯ hs (fun i h xf =>?_) h2
    by_cases q:i=(lo+hi) / 2
    ·subst q;exact hc
    ·exact Wg (u.lt hm ⋯) hc
   ·rw[if_neg hc];refine pR u j fuel _ _ ⋯ ⋯ ⋯ h1 (fun i h xf =>?_)
    by_cases q:i=(lo+hi) / 2
    ·subst q;lia
    ·have:=u.lt h (show(lo+hi) / 2<i by lia);lia
  ·rw[if_neg jv];have e:lo=hi:=by lia
   subst e;exact⟨hs,h1,h2⟩
def iP (u:Up xs.toList)(j:Nat):Cut xs j (ZG xs j):=
 pR u j _ _ _ ⋯ (Uq _) (Je _) (fun i h z=>absurd z (Wb _)) fun i h z=>absurd h ⋯
def Cut.next {xs:Array Nat}{p i:Nat}(u:Up xs.toList)(h:i<xs.size)(c:Cut xs (xs[i]+1) p):p=i+1:=by
 have h1:¬p<i+1:=fun z=>by have:=c.hi i h ⋯;lia
 have h2:¬i+1<p:=fun z=>by
  have hs:i+1<xs.size:=by have:=c.le;lia
  have a:=c.lo (i+1) hs z;have b:=u.lt hs (Wd i);lia
 lia
def dE (t:QbA):Prop:=t.dummies = #[]/\Up t.place.toList
def yb:dE (SetTable.fresh a b led):=⟨rfl,Qd4⟩
def jh (t:QbA)(n:Nat):dE (t.standIn n):=⟨rfl,by
 show List.Pairwise _ (Array.range n).toList;rw[Array.toList_range];exact QeF⟩
def has_none (j:Nat):QdV #[] j=false:=by
 unfold QdV;simp
def AY (g:dE t)(j:Nat):t.slot j = .empty\/∃i,t.slot j = .live i:=by
 unfold SetTable.slot;dsimp only
 split
 ·exact .inr ⟨_,rfl⟩
 ·rw[g.1,has_none];exact .inl rfl
def Bs {t:QbA}(g:dE t){j:Nat}(h:t.slot j = .empty):j∉t.place.toList:=fun hm=>by
 obtain⟨i,hi,e⟩:=Yd.mp hm;have xf:i<t.place.size:=by simpa using hi
 have e':t.place[i]=j:=by simpa using e
 have c:=iP g.2 j;have hp:ZG t.place j=i:=by
  have h1:¬i<ZG t.place j:=fun z=>by have:=c.lo i xf z;lia
  have h2:¬ZG t.place j<i:=fun z=>by
   have hs:ZG t.place j<t.place.size:=by lia
   have a:=c.hi _ hs (Je _);have b:=g.2.lt xf z;lia
  lia
 unfold SetTable.slot at h;dsimp only at h;rw[hp,Jx xf,e'] at h;simp at h
def qc (g:dE t){h:Int}{j:Nat}{d:Option Nat}:∀fuel p,p.dummy=none->Qcd t (fun _=>h+1) h fuel p=some (.empty j d)->t.slot j = .empty/\d=none
 | 0,p,hp,e=>by unfold Qcd at e;cases e
 | fuel+1,p,hp,e=>by
  unfold Qcd at e
  rcases AY g p.j with q|⟨i,q⟩
  ·rw[q] at e;cases e;exact⟨q,hp⟩
  ·rw[q] at e;dsimp only at e;rw[if_neg (by rw[beq_iff_eq];lia)] at e;refine qc g fuel _ ?_ e;unfold SetTable.advance
   split
   ·exact hp
   ·exact hp
def DF (g:dE t){j:Nat}(h:t.slot j = .empty):dE (t.put j).1:=by
 have c:=iP g.2 j;refine⟨?_,?_⟩
 ·show(if QdV t.dummies j=true then _ else t.dummies) = #[];rw[g.1,has_none,if_neg Jr]
 ·show Up (SetTable.insertAt t.place _ j).toList;rw[SetTable.toList_insertAt];have u:=g.2;refine Y0.mpr ⟨QbL (List.take_sublist _ _) u,List.pairwise_cons.mpr ⟨fun x hx =>?_,QbL (List.drop_sublist _ _) u⟩,fun x hx y hy =>?_⟩
  ·obtain⟨i,hi,e⟩:=Yd.mp hx;have xf:ZG t.place j+i<t.place.size:=by rw[Uj] at hi;simp at hi;lia
   have:=c.hi _ xf (Ua _ _);have e':t.place[ZG t.place j+i]=x:=by simpa using e
   have xA:j≠x:=fun z=>(Bs g h) (by rw[z];exact Yo hx);lia
  ·have Ws:x<j:=by
    obtain⟨i,hi,e⟩:=Yd.mp hx;rw[J6] at hi;have xf:i<t.place.size:=by simp at hi;lia
    have:=c.lo i xf ⋯;have e':t.place[i]=x:=by simpa using e
    lia
   rcases Jq.mp hy with rfl|hy
   ·exact Ws
   ·obtain⟨i,hi,e⟩:=Yd.mp hy;have xf:ZG t.place j+i<t.place.size:=by rw[Uj] at hi;simp at hi;lia
    have:=c.hi _ xf (Ua _ _);have e':t.place[ZG t.place j+i]=y:=by simpa using e
    lia
def HY (g:dE t)(n:Nat):dE (t.orStandIn n):=by
 unfold QeE
 split
 ·exact g
 ·exact jh t n
def E5 (g:dE t)(es:Array (Int×Fk))(h:Int)(x:Fk):dE (layNew t es h x).2.1/\(layNew t es h x).2.1.led=t.led:=by
 unfold layNew
 split
 ·rename_i slot wasDummy hs;dsimp only;have zi:t.slot slot = .empty:=by
   unfold SetTable.freeSlot at hs
   split at hs
   ·rename_i j d hp;obtain⟨h1,h2⟩:=qc g _ _ rfl hp;subst h2;cases hs;exact h1
   ·cases hs
  refine⟨HY (DF g zi) _,?_⟩;unfold QeE
  split<;>rfl
 ·exact⟨jh t _,rfl⟩
def p8 {β:Type}(f:Nat->Option β):∀l,List.Sublist ((l.filterMap fun j=>(f j).map (j, ·)).map (·.1)) l
 | []=>List.Sublist.refl _
 | j::l=>by
  rw[Y6];cases f j with
  | none=>exact List.Sublist.cons _ (p8 f l)
  | some b=>exact List.Sublist.cons_cons _ (p8 f l)
def BF {led plain:Bool}{hs:Array Int}{t:QbA}{order:Array Nat}(e:SetTable.laid mask finger moves led plain hs=some (t,order)):dE t/\t.led=led:=by
 unfold SetTable.laid at e;cases q:SetTable.layClean mask hs with
 | none=>rw[q] at e;cases e
 | some owner=>
  rw[q] at e;cases e;exact⟨⟨rfl,(QbL (p8 _ _) QeF)⟩,rfl⟩
def yr (es:Array (Int×Fk))(n:Nat):dE (Qc0 t es n).2.1/\(Qc0 t es n).2.1.led=t.led:=by
 unfold Qc0
 split
 ·rename_i t' order hr;dsimp only
  split
  ·unfold SetTable.relaid at hr;exact BF hr
  ·exact⟨jh t _,rfl⟩
 ·exact⟨jh t _,rfl⟩
section
variable {prog:YZ}{w:Zb}{K:Type}[DecidableEq K]{knd:QaB prog w K}{A:Zs}{E:Fk->Wp->Prop}{s:Wp}{a:Gc}
def mn (w:Zb)(h:Heap)(a:Gc):Prop:=∃o es ep t,h.get? a=some o/\o.data = .set es ep t/\dE t/\(w.params.followText "set-order" = false->t.led=true)
def mn.at' (x:mn w h a)(k:∀o,h.get? a=some o->h'.get? a=some o):mn w h' a:=by
 obtain⟨o,es,ep,t,e,r⟩:=x;exact⟨o,es,ep,t,k _ e,r⟩
def dv (knd:QaB prog w K)(h:Heap)(a:Gc)(D:List K):Prop:=lV knd h a D/\mn w h a
def u0 (ho:s.heap.get? a=some o)(hd:o.data = .set es ep t){CY:Array (Int×Fk)}{t':QbA}(g:dE t')(l:w.params.followText "set-order" = false->t'.led=true):
  (s.heap.update a (Qc2 CY t')).get? a=some { o with data := .set CY (ep+1) t' } /\ mn w (s.heap.update a (Qc2 CY t')) a:=by
 have e:=J2 (Qc2 CY t') ho (by rw[putSet_of CY t' hd];rfl);rw[putSet_of CY t' hd] at e;exact⟨e,_,_,_,_,e,rfl,g,l⟩
def yG {k:K}{x:Fk}{Q:Bool->Wp->Prop}(hk:knd.is k x=true)(hx:x.scannable=true)(S:dv knd s.heap a D)(room:D.length+1<Qd8)
  (fin:∀b h',U4 a s.heap h'->dv knd h' a (oneMore D k)->Q b { s with heap:=h' }):YX (YW prog w) A (setAddHashed a x (knd.hash k)) Q E s:=by
 obtain⟨HK,o',CY,ep',t',vt,Au,gt',ld'⟩:=S;obtain⟨o,es,ep,t,ho,ex,hd,el,mem,bnd,fit,len⟩:=id HK;obtain⟨gt,ld⟩:dE t/\(w.params.followText "set-order" = false->t.led=true):=by
  rw[ho] at vt;cases vt;rw[hd] at Au;cases Au;exact⟨gt',ld'⟩
 refine Zf (be (ZI ho hd fit ?_));dsimp only;rw[(byScan_of hx bnd el),if_pos rfl];refine be (be (Qah (be (wpAny_setScan_of hk ho hd fit el ?_))));have Pl:∀b {s1:Wp} {Q':Unit->Wp->Prop},Q' () s1->YX (YW prog w) A (match b with|true=>rule "set.scan.the-table-gave-way" | false=>pure ()) Q' E s1:=fun b s1 Q' q=>by
  cases b
  ·exact tz q
  ·exact Qah q
 cases hr:es.toList.findIdx? (fun e=>knd.is k e.2) with
 | some j=>
  obtain⟨hj,hp,_⟩:=List.findIdx?_eq_some_iff_getElem.mp hr;refine tz (tz ?_);have q:=fin false s.heap (U4.refl a s.heap) (by
   unfold oneMore;rw[if_pos (of_decide_eq_true ((mem k).mpr ⟨_,Ug hj,hp⟩))];exact⟨HK,_,_,_,_,ho,hd,gt,ld⟩)
  exact q
 | none=>
  have KQ:k∉D:=fun z=>by
   obtain⟨e,he,hp⟩:=(mem k).mp (decide_eq_true z);have:=List.findIdx?_eq_none_iff.mp hr e he;rw[hp] at this;cases this
  have more:∀k',decide (k'∈oneMore D k)=(decide (k'∈D)||decide (k'=k)):=fun k'=>by
   unfold oneMore;rw[if_neg KQ];simp[]
  obtain⟨g1,l1⟩:=E5 gt es (knd.hash k) x;have pm:=layNew_perm t es (knd.hash k) x;have ft:=layNew_fits t es (knd.hash k) x;generalize layNew t es (knd.hash k) x=L at g1 l1 pm ft ⊢;obtain⟨es1,t1,dummy,gv⟩:=L;rw[Qa3] at pm;have S8:=(el.push hk hx).perm pm;have Ps:∀k',decide (k'∈oneMore D k)=true ↔ ∃e∈es1.toList,knd.is k' e.2=true:=fun k'=>by
   rw[more];exact mem_push_iff hk mem pm k'
  have M1:es1.size=(oneMore D k).length:=by
   unfold oneMore;rw[if_neg KQ,<-Ue,pm.length_eq,Jt,Jt,Ue,len];rfl
  have MO:(oneMore D k).length=D.length+1:=by
   unfold oneMore;rw[if_neg KQ,Jt];rfl
  have O4:es1.size<Qd8:=by lia
  have Rq:=fun z=>l1.trans (ld z);have tail:∀t2,dE t2->(w.params.followText "set-order" = false->t2.led=true)->t2.fits es1.size=true->∀c,
    YX (YW prog w) A (do
     storeSet a es1 t2
     if c=true then do
       (match (Qc0 t2 es1 (QaE es1.size)).2.2 with|true=>rule "set.scan.the-table-gave-way" | false=>pure ())
       storeSet a (Qc0 t2 es1 (QaE es1.size)).1 (Qc0 t2 es1 (QaE es1.size)).2.1
       pure (some true)
      else pure (some true)) (fun r s'=>r=some true/\∃h',s'={ s with heap:=h' } /\ U4 a s.heap h'/\dv knd h' a (oneMore D k)) E s:=by
   refine fun t2 g2 ld2 ft2 c=>be (wpAny_storeSet_of ho hd ?_ (QdF O4));obtain⟨e1,gs1⟩:=u0 ho hd g2 ld2;have Gb:=U4.update s.heap a (Qc2 es1 t2);cases c with
   | false=>
    exact tz ⟨rfl,_,rfl,Gb,⟨_,_,_,_,e1,ex,rfl,S8,Ps,O4,ft2,M1⟩,gs1⟩
   | true=>
    have Ga:=relayAll_perm t2 es1 (QaE es1.size);have R7:=relayAll_fits t2 es1 (QaE es1.size);obtain⟨g3,l3⟩:=yr es1 (QaE es1.size);generalize Qc0 t2 es1 (QaE es1.size)=L2 at Ga R7 g3 l3 ⊢;obtain⟨es2,t3,gv2⟩:=L2;dsimp only at Ga R7 g3 l3 ⊢;have Od:es2.size=es1.size:=by rw[<-Ue,Ga.length_eq,Ue]
    refine be (Pl _ (be (wpAny_storeSet_of e1 rfl ?_ (QdF ⋯))));obtain⟨e2,gs2⟩:=u0 (s:={ s with heap:=s.heap.update a (Qc2 es1 t2) }) e1 rfl g3 (fun z=>l3.trans (ld2 z));refine tz ⟨rfl,_,rfl,Gb.trans (U4.update _ a _),⟨_,_,_,_,e2,ex,rfl,S8.perm Ga,fun k'=>(Ps k').trans ⟨fun hz_=>aj.el hz_ _ fun e he q=>⟨e,Ga.mem_iff.mpr he,q⟩,fun hz_=>aj.el hz_ _ fun e he q=>⟨e,Ga.mem_iff.mp he,q⟩⟩,⋯,R7,Od.trans M1⟩,gs2⟩
  have out:∀r s',(r=some true/\∃h',s'={ s with heap:=h' } /\ U4 a s.heap h'/\dv knd h' a (oneMore D k))->YX (YW prog w) A (match r with|some added=>pure added|none=>setAddHashedIn a x (knd.hash k) 99999) Q E s':=by
   rintro r s' ⟨rfl,h',rfl,sb,sk⟩;exact tz (fin true h' sb sk)
  refine be (Pl _ ?_);cases nY:t1.plain with
  | false=>
   exact be (tz (Z9 (tail t1 g1 Rq ft _) (fun r s' q=>out r s' q) fun _ _ z=>z))
  | true=>
   refine be ?_;rw[hashByValue_scannable 8 hx];refine tz ?_;cases plainKind x with
   | true=>
    exact Z9 (tail t1 g1 Rq ft _) (fun r s' q=>out r s' q) fun _ _ z=>z
   | false=>
    exact Z9 (tail { t1 with plain:=false } g1 Rq (SetTable.fits_plain_off ft) _) (fun r s' q=>out r s' q) fun _ _ z=>z
def dv.at' {h h':Heap}(x:dv knd h a D)(k:∀o,h.get? a=some o->h'.get? a=some o):dv knd h' a D:=⟨x.1.at' k,x.2.at' k⟩
def DT {k:K}{x:Fk}{Q:Fk->Wp->Prop}(hk:knd.is k x=true)(hx:x.scannable=true)(S:dv knd s.heap a D)(room:D.length+1<Qd8)
  (fin:∀h',U4 a s.heap h'->dv knd h' a (oneMore D k)->Q .none { s with heap:=h',toks:=s.toks+1 }):YX (YW prog w) A (call (.builtin "set.add") [.ref a,x]) Q E s:=by
 refine Zm F.slot_set_add (show s.heap.SetOf knd a _ _ from S.1).typeIs F.entry_set_add ?_ (F.args_set_add_2 _ _);unfold Builtin.«set.add» Builtin.Frozenset.oneOther QcG setAdd;simp only[Qb7,bind_assoc];exact be (tz (be (tz (be (Zf (be (knd.pyHash hk (yG hk hx S room fun b h' sb sk=>tz ⟨_,rfl,fin h' sb sk⟩))))))))
end
structure oY (P:YZ)(w:Zb)(K:Type)[DecidableEq K] where
 knd:QaB P w K
 v:K->V
 ok:∀k u,RelV (v k) u->knd.is k u=true/\u.scannable=true
def G1 (P:YZ)(w:Zb):oY P w Str:=⟨strKind P w,V.str,fun k u r=>by obtain⟨t,rfl⟩:=r;exact⟨strKind_is _ _ _ _,rfl⟩⟩
def Cw (P:YZ)(w:Zb):oY P w Int:=⟨intKind P w,V.int,fun k u r=>by obtain⟨t,rfl⟩:=r;exact⟨intKind_is _ _ _ _,rfl⟩⟩
def gX {K:Type}[DecidableEq K](kv:oY P w K)(a:Gc)(D:List K):HO := .ext fun h=>dv kv.knd h a D
def zF {K:Type}[DecidableEq K]{kv:oY P w K}{a:Gc}{D:List K}{H:Hp}{h:Heap}(x:dv kv.knd h a D):bt P w H h a (gX kv a D):=by
 obtain⟨o,es,ep,t,e,rest⟩:=x.1;exact⟨x,⟨o,e⟩,fun h1 h2 y k=>dv.at' y k⟩
section
variable {prog:YZ}{w:Zb}{A:Zs}{R:QaU->Wp->Prop}{s:Wp}
def uQ {ex target iter:ZA}{ifs:List ZA}{scope:QaT}{pos:Pos}{it:Fk}{D:Gc}{env:Env}(I:Nat->Wp->Prop)
  (turn:∀n s,I n s->YX (YW prog w) A (QaM it) (fun r s1=>match r with
   | none=>R (.ok .next) s1
   | some v=>YX (YW prog w) A (QbJ target it v) (fun _ s1'=>YX (YW prog w) A (QeT target env v) (fun _ s2=>
     YX (YW prog w) A (ow ifs env) (fun ok s3=>
      if ok=true then YX (YW prog w) A (ZM ex env) (fun ev s4=>YX (YW prog w) A (call (.builtin "set.add") [.ref D,ev]) (fun _ s6=>∃m,m<n/\I m s6) m6 s4) m6 s3
      else ∃m,m<n/\I m s3) m6 s2) m6 s1') m6 s1) m6 s)
  (n:Nat) (h:I n s):ZW (YW prog w) A (.compLoop (.SetComp ex [⟨target,iter,ifs,0⟩] scope pos) 0 it (.ref D) env) R s:=by
 refine codeAny_loop rfl I (fun n s hI=>(show YX _ A (Sem.onRaise (compTurn (.SetComp ex [⟨target,iter,ifs,0⟩] scope pos) 0 it (.ref D) env) (fun x=>do QbU x env;Qez x)) _ _ s from wpAny_noted (be (Qab (be (cH (bb (turn n s hI) fun r s1 h1 =>?_))))))) n h;cases r with
 | none=>exact tz h1
 | some v=>
  refine be (cH (bb h1 fun _ s1' JZ=>be (cH (bb JZ fun _ s2 h2=>be (cH (bb h2 fun ok s3 h3 =>?_))))));cases ok with
  | false=>exact tz ⟨rfl,h3⟩
  | true=>
   exact be (be (cH (bb h3 fun ev s4 h4=>be (Qab (be (cH (bb h4 fun _ s6 h6=>tz (tz ⟨rfl,h6⟩))))))))
def wb {ex target iter ifs rest scope pos it acc env}(h0:ZW (YW prog w) A (.compLoop (.SetComp ex (⟨target,iter,ifs,0⟩::rest) scope pos) 0 it acc env) R s)
  (h:YX (YW prog w) A (Qd9 it) (fun it' s'=>ZW (YW prog w) A (.compLoop (.SetComp ex (⟨target,iter,ifs,0⟩::rest) scope pos) 0 it' acc env) R s') (notedBy (YW prog w) A env fun x s'=>R (.error x) s') s) :
  ZW (YW prog w) A (.compStart (.SetComp ex (⟨target,iter,ifs,0⟩::rest) scope pos) 0 it acc env) R s:=by
 refine codeAny_of_tree (show YX _ A ((compStart (.SetComp ex (⟨target,iter,ifs,0⟩::rest) scope pos) 0 it acc env).onRaise (fun x=>do QbU x env;standAt theWindowsPlace)) _ _ s from wpAny_notedAt (be (Qaa (Qan ?_))))
 split
 ·first
   | exact be (tz (tz ⟨rfl,h0⟩))
   | exact tz ⟨rfl,h0⟩
 ·refine be (Qah ?_);exact be (Qab (be (Z9 h (fun it' s' h'=>tz ⟨rfl,h'⟩) fun _ _ x=>x)))
end
section
variable {X:Cx}{pins:List (Gc×Obj)}{σ:St}{H:Hp}{s:Wp}{a:Gc}{u:Fk}{A:Zs}{E:Fk->Wp->Prop}{K:Type}[DecidableEq K]{kv:oY X.prog X.w K}
def PQ (I:Inv X pins σ H s)(e:H a=some (gX kv a D))(l:D.length<=4000)(ry:RelV (kv.v k) u)
  (h:∀v s',Inv X pins σ (upd H a (gX kv a (oneMore D k))) s'->Q v s'):YX (YW X.prog X.w) A (call (.builtin "set.add") [.ref a,u]) Q E s:=by
 obtain⟨h1,h2⟩:=kv.ok k u ry;refine DT h1 h2 ((show bt X.prog X.w H s.heap a (gX kv a D) from I.bq a _ e).1) (by unfold Qd8;lia) fun h' sb y =>?_;obtain⟨o,es,ep,t,eo,_⟩:=y.1;exact h _ _ (lJ I (by rw[e];exact ZL) sb ⟨o,eo⟩ (zF y))
end
def D0 {KT:Type}[DecidableEq KT](kv:oY P w KT)(J:It)(n:Nat)(js:List Nat)(g:TG)(tc:TT)(te:TE)(σ:St)(D:Gc)(H1:Hp)(fin:Hp->Prop):Prop:=
 ∃W:Nat->Nat->Hp->Prop,(∃m,W 0 m H1)/\∀i m H,W i m H ->
  (J.stop i H/\fin H) \/
  (J.go i H/\∀x H',J.yld i H x H'->g x (Jp n none++eB σ js) H' fun σ2 H2=>tc σ2 H2 fun b H3=>
   if b=true then te σ2 H3 fun y H4=>∃ks k,H4 D=some (gX kv D ks)/\y=kv.v k/\ks.length<=4000/\∃m',m'<m/\W (i+1) m' (upd H4 D (gX kv D (oneMore ks k))) else ∃m',m'<m/\W (i+1) m' H3)
def Lo {KT:Type}[DecidableEq KT](kv:oY P w KT)(wi:TI)(n:Nat)(js:List Nat)(g:TG)(tc:TT)(te:TE):TE:=fun σ H Q=>wi σ H fun J H1=>∀D,H1 D=none->D0 kv J n js g tc te σ D (upd H1 D (gX kv D [])) fun H2=>Q (.ref D) H2
def HG {s:Wp}{Q:Fk->Wp->Prop}{E:Fk->Wp->Prop}(h:∀led,(w.params.followText "set-order" = false->led=true)->Q (.ref s.heap.objs.size) { s with heap:=s.heap.push (ou led) }):YX (YW prog w) A (newSet (.type "set")) Q E s:=
 be (be (Qaa (tz (be (wpAny_alloc (tz (h _ fun z=>by show(!w.params.followText "set-order")=true;rw[z];rfl)))))))
def yA {K:Type}[DecidableEq K]{knd:QaB prog w K}{h:Heap}{a:Gc}{led:Bool}(e:h.get? a=some (ou led)):lV knd h a []:=
 (setObjOf_fresh (knd:=knd) led).setOf e ∅
def yX {K:Type}[DecidableEq K]{knd:QaB prog w K}{h:Heap}{a:Gc}{led:Bool}(l:w.params.followText "set-order" = false->led=true)(e:h.get? a=some (ou led)):dv knd h a []:=⟨yA e,_,_,_,_,e,rfl,yb,l⟩
def yE {KT:Type}[DecidableEq KT](kv:oY X.prog X.w KT){ex tg iter:ZA}{ifs:List ZA}{scope:QaT}{pos:Pos}{Nc Fc:List Str}{js:List Nat}{wi:TI}{g:TG}{tc:TT}{te:TE}{use:Option (Fk->Sem Unit)}{QV:Fk->Wp->Prop}
  (fZ:X.calm=true) (c:gI X scope Nc Fc js) (hi:PI X tg iter wi)
  (hg:∀cl C s H fp,PG (lI X Nc Fc scope cl C s H fp) tg g) (AK:∀cl C s H fp,GI (lI X Nc Fc scope cl C s H fp) ifs tc) (DH:∀cl C s H fp,PE (lI X Nc Fc scope cl C s H fp) ex te) (gk:Gk Nc.length g)
  {pins:List (Gc×Obj)} {s:Wp} {σ:St} {H:Hp} {fin:Gc->Hp->Prop} (I:Inv X pins σ H s)
  (h:wi σ H fun J H1=>∀D,H1 D=none->D0 kv J Nc.length js g tc te σ D (upd H1 D (gX kv D [])) (fin D))
  (behind:∀(C D:Gc) (m:Str->Option Fk) (H2:Hp) (s2:Wp),Inv X pins σ H2 s2->s2.heap.Ns C m->gz X pins H2 C->fin D H2->QdG (YW X.prog X.w) X.A X.xe use QV (.ref D) C (.ok .next) s2)
  (hs:∀x,Qag iter X.env x=pure x) :
  YX (YW X.prog X.w) X.A (comprehension (.SetComp ex [⟨tg,iter,ifs,0⟩] scope pos) scope X.env (firstIterPos [⟨tg,iter,ifs,0⟩] pos) (newSet (.type "set")) false (ZM iter X.env) use) QV X.xe s:=by
 obtain⟨cl,hclos,d7,kq⟩:=kM fun y hy hf=>I.ok.has y.1 (c.free y hy hf);refine Qci rfl hs hclos c.kind c.names (bb (hi s σ H _ I h) fun v s1 h1=>bb h1 fun ND s2 h2 =>?_);obtain⟨it,fp,tn,J,H2,e,I2,T,fB,f2,all⟩:=h2;subst e;refine HG fun led hled=>(QcY c.nocell (by intro y hy;simp at hy) (fun h1 hns1 hsb1 =>?_) c.kind)
 have Em:=I2.laid (o:=gX kv s2.heap.objs.size []) (t':=s2.toks) (fun _ _ q=>Jb _ q) (Je _) (zF (yX hled (Jh _ rfl)));obtain⟨W,⟨m0,w0⟩,turn⟩:=all _ (I2.bq.fresh (Je _));have Py:∀b∈fp,∃o,s2.heap.get? b=some o:=fun b hb=>let ⟨o,e,_⟩:=T.obj 0 _ fB b hb; ⟨o,e⟩;have qV:=fun b hb=>let ⟨o,e⟩:=Py b hb;Jf e;generalize hG:s2.heap.push (ou led)=G at hns1 hsb1 Em ⊢;have toG:∀b o,s2.heap.get? b=some o->G.get? b=some o:=fun b o e=>hG▸Jb _ e;have hC:G.objs.size=s2.heap.objs.size+1:=by rw[<-hG,Uc]
 have old:=fun b o e=>
  hsb1.extBut b o (ck (Jf e) (Je _)) (Jb _ e)
 let D:Gc:=s2.heap.objs.size
 let s2':Wp:={ s2 with heap:=G,toks:=s2.toks }
 let H2':Hp:=upd H2 D (gX kv D [])
 have MM:∀b∈fp,gz X pins H2' b:=fun b hb=>by
  obtain⟨a1,a2⟩:=f2 b hb;refine⟨?_,a2⟩;show upd H2 D (gX kv D []) b=none;rw[au (Jl (qV b hb))];exact a1
 have fo:∀b∈fp,∃o,s2'.heap.get? b=some o:=fun b hb=>let ⟨o,e⟩:=Py b hb; ⟨o,toG b o e⟩;have Sg:∀b∈fp,b<G.objs.size:=fun b hb=>by have:=qV b hb;rw[hC];exact Qa9 this
 let Xc:Cx:=lI X Nc Fc scope cl G.objs.size s2' H2' fp
 have kL:∀{H':Hp},(∀b∈fp,H' b=none)->∀b∈fp,gz Xc [] H' b:=fun{H'} hn b hb=>by
  refine⟨hn b hb,?_,?_,.inl hb,fun x a e =>?_,fun p hq =>?_⟩
  ·exact ck (Sg b hb) (Je _)
  ·exact(qe Em c d7 kq (Je _) MM fo).exfs b hb
  ·exact(f2 b hb).2.2.2.2.1 x a (d7 _ _ e)
  ·have q:p∈([]:List (Gc×Obj))++[]:=hq;simp at q
 have loop:∀t1,ZW (YW X.prog X.w) X.A (.compLoop (.SetComp ex [⟨tg,iter,ifs,0⟩] scope pos) 0 (.ref it) (.ref s2.heap.objs.size) (compEnvC scope cl G.objs.size X.env))
   (QdG (YW X.prog X.w) X.A X.xe use QV (.ref s2.heap.objs.size) G.objs.size) { s2 with heap:=h1,toks:=t1 }:=by
  refine fun t1=>uQ (fun n s'=>∃i H',Inv Xc [] (Jp Nc.length none++eB σ js) H' s'/\tn i s'.heap/\(∀b∈fp,H' b=none)/\W i n H') ?_ m0
   ⟨0,H2',uS Em c d7 kq (Je _) MM fo old hns1,T.keep _ _ _ fB (fun b hb o e=>old b o (toG b o e)),fun b hb=>(MM b hb).1,w0⟩
  refine fun n s3 hz_=>aj.el hz_ _ ?_;rintro i H3 I3 dZ fr3 w3
  rcases turn i n H3 w3 with ⟨stop,qn⟩|⟨go,step⟩
  ·refine bb (T.done Xc rfl rfl rfl fZ i _ s3 _ H3 m6 I3 (kL fr3) dZ stop) fun r s4 ⟨hr,I4⟩=>?_;subst hr;refine aj.el (I4.loc) _ ?_;rintro mC hmC _;have u:=I4.base;have sI:∀b∈fp,(b∈X.ex\/X.s₀.heap.objs.size<=b)/\b≠X.env.locals/\(∀x c,X.env.cells.lookup x=some c->c≠b)/\∀p∈X.pn++pins,p.1≠b:=fun b hb=>
    ⟨(f2 b hb).2.2.2.1,(f2 b hb).2.1,(f2 b hb).2.2.2.2.1,(f2 b hb).2.2.2.2.2⟩
   exact behind G.objs.size D mC H3 s4 (Em.Ag I4.os u I4.bq I4.bare sI) hmC (Em.fu (Je _) I4.free) qn
  ·refine bb (T.item Xc rfl rfl rfl fZ i _ s3 _ H3 m6 I3 (kL fr3) dZ go) fun r s4 hz_=>aj.el hz_ _ fun u hr h4 =>?_;subst hr;refine bb h4 fun _ s5 hz_=>aj.el hz_ _ fun x H5 I5 r5 y5 cu fr5=>bb (hg cl G.objs.size s2' H2' fp s5 _ H5 x u _ (I5.pinned (kL fr5) (T.obj _ _ cu)) r5 (gk _ _ _ _ (step x H5 y5))) fun _ s6 hz_=>aj.el hz_ _ fun σ6 H6 I6 q6 kσ kl=>bb (AK cl G.objs.size s2' H2' fp s6 σ6 H6 _ I6 q6) fun b s7 hz_=>aj.el hz_ _ fun H7 I7 q7 =>?_;have later:∀{σ':St} {H':Hp} {s':Wp},Inv Xc ([]++hV fp s5.heap) σ' H' s'->tn (i+1) s'.heap/\∀b∈fp,H' b=none:=fun{σ' H' s'} Iz=>by
    refine⟨T.keep _ _ _ cu fun b hb o e=>(Iz.pin (b,o) (Jo _ (Jo _ (dj hb e)))).1,fun b hb=>aj.el (T.obj _ _ cu b hb) _ ?_⟩;rintro o e d;exact(Iz.pin (b,o) (Jo _ (Jo _ (dj hb e)))).2.1
   have back:∀{pl:List (Gc×Obj)} {H':Hp} {s':Wp},Inv Xc pl σ6 H' s'->Inv Xc pl (Jp Nc.length none++eB σ js) H' s':=fun{pl H' s'} Iz=>by
    refine Iz.weak (by rw[<-kl]) fun j v hj =>?_
    by_cases hn:j<Nc.length
    ·rw[U3 (by simpa using hn),Yn] at hj
     split at hj<;>cases hj
    ·rw[kσ j ⋯];exact hj
   cases b with
   | false=>
    rw[if_neg Jr] at q7 ⊢;refine aj.el (q7) _ ?_;rintro m' va w7;obtain⟨l1,l2⟩:=later I7;exact⟨m',va,i+1,H7,back I7.eO,l1,l2,w7⟩
   | true=>
    refine bb (DH cl G.objs.size s2' H2' fp s7 σ6 H7 _ I7 q7) fun yv s8 hz_=>aj.el hz_ _ fun y H8 I8 r8 q8=>aj.el (q8) _ ?_;rintro ks k eD ey hl m' va w9;subst ey;refine PQ (X:=Xc) I8 eD hl r8 fun _ s10 I10 =>?_;obtain⟨l1,l2⟩:=later I10;exact⟨m',va,i+1,_,back I10.eO,l1,l2,w9⟩
 exact wb (loop _) (T.self _ 0 _ _ _ (T.keep _ _ _ fB fun b hb o e=>old b o (toG b o e)) (loop _))
def wK {KT:Type}[DecidableEq KT](kv:oY X.prog X.w KT){ex tg iter:ZA}{ifs:List ZA}{scope:QaT}{pos:Pos}{Nc Fc:List Str}{js:List Nat}{wi:TI}{g:TG}{tc:TT}{te:TE}
  (fZ:X.calm=true) (c:gI X scope Nc Fc js) (hi:PI X tg iter wi) (gk:Gk Nc.length g)
  (hg:∀cl C s H fp,PG (lI X Nc Fc scope cl C s H fp) tg g) (AK:∀cl C s H fp,GI (lI X Nc Fc scope cl C s H fp) ifs tc) (DH:∀cl C s H fp,PE (lI X Nc Fc scope cl C s H fp) ex te)
  (hs:∀x,Qag iter X.env x=pure x:=by intro _;rfl) :
  PE X (.SetComp ex [⟨tg,iter,ifs,0⟩] scope pos) (Lo kv wi Nc.length js g tc te):=
 fun pins s σ H Q I h=>yE kv fZ c hi hg AK DH gk I h (fun C D m H2 s2 I2 hm hC q=>⟨m,hm,fun h' hs'=>⟨.ref D,_,I2.turned (fun b o hb e=>hs'.extBut b o hb e) hC.1 (hC.2.1) hC.2.2.2.1 hC.2.2.2.2.1 hC.2.2.2.2.2,rfl,q⟩⟩) hs
def BX {KT:Type}[DecidableEq KT](kv:oY X.prog X.w KT):bF X (.builtin "len") (fun xs H Q=>∃a D,xs=[.ref a]/\H a=some (gX kv a D)/\Q (.int (D.length:Nat)) H):=by
 refine fun pins s σ H xs us Q I r h=>aj.el (h) _ ?_;rintro a D rfl ha q;refine aj.el (vals1 r) _ ?_;rintro u rfl ru;cases ru;obtain⟨o,es,ep,t,h1,h2,h3,h4,h5,h6,h7,h8⟩:=(show bt X.prog X.w H s.heap a (gX kv a D) from I.bq a _ ha).1.1;have hb:Qd8=4096:=rfl;refine call_len_set h1 h2 h3 h7 ⋯ ⟨.int (D.length:Nat),H,I.tok _,⟨_,by rw[h8]⟩,q⟩
def wC {KT:Type}[DecidableEq KT]{kv:oY P w KT}{J:It}{n:Nat}{js:List Nat}{g:TG}{tc:TT}{te:TE}{σ:St}{D:Gc}{H1:Hp}{fin:Hp->Prop}(N:Nat)(Pv:Nat->Hp->Prop)(h0:Pv 0 H1)
  (go:∀i H (Nx:Hp->Prop),i<N->Pv i H->(∀H',Pv (i+1) H'->Nx H')->J.go i H /\
   ∀x H',J.yld i H x H'->g x (Jp n none++eB σ js) H' fun σ2 H2=>tc σ2 H2 fun b H3=>if b=true then te σ2 H3 fun y H4=>∃ks k,H4 D=some (gX kv D ks)/\y=kv.v k/\ks.length<=4000/\Nx (upd H4 D (gX kv D (oneMore ks k))) else Nx H3)
  (stop:∀H,Pv N H->J.stop N H/\fin H):D0 kv J n js g tc te σ D H1 fin:=by
 refine⟨fun i m H=>m=N-i/\i<=N/\Pv i H,⟨N,by simp,Uq _,h0⟩,(fun i m H hz_=>aj.el hz_ _ ?_)⟩;rintro rfl hi p
 by_cases jv:i<N
 ·obtain⟨g1,g2⟩:=go i H (fun H'=>∃m',m'<N-i/\(m'=N-(i+1)/\i+1<=N/\Pv (i+1) H')) jv p fun H' q=>⟨_,⋯,rfl,jv,q⟩
  exact .inr ⟨g1,fun x H' y=>g2 x H' y⟩
 ·have e:i=N:=by lia
  subst e;exact .inl (stop H p)
section
variable {X:Cx}
def tL {x:Str}{z:Str}{t:Tok}{pos:Pos}(hg:Gl X x)(hm:X.mg x=some (.str z t))(hd:(x==("__debug__" : Str))=false:=by decide):PE X (.Name x pos) (tC (.str z)):=uw (v := .str z) hg hm ⟨t,rfl⟩ hd
def mr {x:Str}{z:Int}{t:Tok}{pos:Pos}(hg:Gl X x)(hm:X.mg x=some (.int z t))(hd:(x==("__debug__" : Str))=false:=by decide):PE X (.Name x pos) (tC (.int z)):=uw (v := .int z) hg hm ⟨t,rfl⟩ hd
end
def lU:∀{ss:List Str} {us:List Fk},StrsAre us ss->Vals (ss.map V.str) us:=by
 intro ss us h
 induction h with
 | nil=>exact .nil
 | cons _ _ _ ih=>exact .cons ⟨_,rfl⟩ ih
def ji:∀{ss:List Str} {us:List Fk},Vals (ss.map V.str) us->StrsAre us ss
 | [],_,.nil =>.nil
 | _::_,_,.cons ⟨_,e⟩ t=>by subst e;exact .cons _ _ (ji t)
section
variable {X:Cx}(K:Ja)
def sortedS (hK:X.K=K:=by rfl):bF X (.builtin "sorted") (fun xs H Q=>∃p ss,xs=[.ref p]/\bg K H p (ss.map V.str)/\ss.length<64 /\
  ∀ms q H',ms.Perm ss->Z3 ms=true->jg H q (.lst (ms.map V.str)) H'->Q (.ref q) H'):=by
 subst hK;intro pins s σ H xs us Q I r h;obtain⟨p,ss,rfl,hq,hl,q⟩:=h;obtain⟨u,rfl,ru⟩:=vals1 r;cases ru;obtain⟨aF,rv,pl,hz⟩:=I.list hq;have hn:aF.length=ss.length:=by have:=rv.length;rw[Jd] at this;exact this.symm
 refine sorted_strs pl.isList (ji rv) ⋯ fun out ms a1 a2 a3 =>?_;obtain⟨e,he⟩:=sortedAll_at s.heap aF out;have hm:=a2.length_eq;refine⟨.ref (s.heap.objs.size+1),_,I.laid (o := .lst (ms.map V.str)) (fun _ _=>sortedAll_old) (Yu _) ⟨?_,out.toList,e,(lU a1),?_⟩,rfl,q ms _ _ a2 a3 ⟨I.bq.fresh (Yu _),rfl⟩⟩
 ·rw[Jd];exact Jg (show ms.length<=64 by lia) ∅
 ·simpa [Qbr] using he
end
section
variable {X:Cx}
def Pe:eW X (Zv .In) (fun x y H Q=>∃a b,x = .str a/\y = .str b/\Q (.bl (QeV b a)) H):=by
 intro pins s σ H x y v u Q I rx ry h;obtain⟨a,b,rfl,rfl,q⟩:=h;obtain⟨t,rfl⟩:=rx;obtain⟨t',rfl⟩:=ry;exact PySem.P.in_str ⟨.bl _,H,I,rfl,q⟩
end
section
variable {X:Cx}
def pW:∀{xs:List V} {us:List Fk} (j:Nat),Vals xs us->Vals (xs.eraseIdx j) (us.eraseIdx j)
 | _,_,_,.nil=>by simp;exact .nil
 | _,_,0,.cons _ t=>by simpa using t
 | _,_,j+1,.cons h t=>by simpa using .cons h (pW j t)
end
def PE.weak (h:PE X e t)(w:∀ σ H Q,t' σ H Q->t σ H Q):PE X e t':=fun _ s σ H Q I q=>h s σ H Q I (w σ H Q q)
def PA.weak (h:PA X es t)(w:∀ σ H Q,t' σ H Q->t σ H Q):PA X es t':=fun _ _ s σ H Q I q=>h s σ H Q I (w σ H Q q)
def newOf (H H':Hp):Hp:=fun a=>match H a with
 | none=>H' a
 | some _=>none
def kS (h:H a=none):newOf H H' a=H' a:=by unfold newOf;rw[h]
def j7 (h:newOf H H' a=some o):H a=none/\H' a=some o:=by
 unfold newOf at h;cases e:H a with
 | none=>rw[e] at h;exact⟨rfl,h⟩
 | some u=>rw[e] at h;cases h
def DP:ar (newOf H H') H':=fun _ _ h=>(j7 h).2
def pH {H H1 H2:Hp}(s:ar H1 H2):ar (newOf H H1) (newOf H H2):=fun a o h=>by
 rw[kS (j7 h).1];exact s a o (j7 h).2
def xE (s:ar H H1):ar (newOf H1 H2) (newOf H H2):=fun a o h=>by
 rw[kS (s.free (j7 h).1)];exact(j7 h).2
def MC (K:Ja)(d:Za):TE:=fun _ H Q=>∀v H',ar H H'->Den K (newOf H H') d v->Q v H'
def zh (K:Ja)(ds:List Za):TA:=fun _ H Q=>∀vs H',ar H H'->a8 K (newOf H H') ds vs->Q vs H'
section
variable {X:Cx}{K:Ja}
def lit_int:PE X (.Constant (.int i) j pos) (MC K (.int i)):=ah.weak fun σ H Q h=>h _ H (ar.refl _) (by unfold Den;rfl)
def Dy:PA X [] (zh K []):=ae.weak fun σ H Q h=>h [] H (ar.refl _) (by unfold a8;rfl)
def fz {d:Za}{ds:List Za}(h:PE X e (MC K d))(hs:PA X es (zh K ds))(lA:Ze (e::es) X.env=(false,ZM e X.env)::Ze es X.env:=by rfl):PA X (e::es) (zh K (d::ds)):=
 (aa h hs lA).weak fun σ H Q q v H1 s1 d1 vs H2 s2 d2=>q (v::vs) H2 (s1.trans s2) (by
  exact⟨v,vs,rfl,d1.same (pH s2),d2.same (xE s1)⟩)
def AB:∀{ds:List Za} {vs:List V},a8 K H ds vs->vs.length=ds.length
 | [],_,h=>by unfold a8 at h;subst h;rfl
 | d::ds,vs,h=>by
  obtain⟨v,r,rfl,h1,h2⟩:=h;rw[Jn,Jn,AB h2]
def Ic (h:PA X es (zh K ds))(hl:ds.length<=1000:=by decide):PE X (.List es pos) (MC K (.list ds)):=
 (gE h).weak fun σ H Q q vs H1 s1 d1=>⟨Jg (by rw[AB d1];exact hl) (show 1000<=KE by decide),fun p H' n=>q _ _ (s1.trans n.same) (by
  exact⟨p,vs,rfl,bg.of (by rw[kS (s1.free n.nn)];exact n.at),d1.same (pH n.same)⟩)⟩
end
structure JC (K:Ja)(w:Zb)(a:Gc):Prop where
 ex:∃es n,K.lookup a=some ⟨.type "dict",none,.dict es n,#[]⟩/\Qb4 w.params es.toList
def NS (K:Ja)(w:Zb)(td ty:TE):TE:=fun σ H Q=>td σ H fun x H1=>ty σ H1 fun y H2=>∃a k u v,x = .ref a/\y = .str k/\JC K w a/\Qee K a k=some (some u)/\RelV v u/\Q v H2
section
variable {X:Cx}{o i:ZA}{td ty:TE}{pos:Pos}
def Io (K:Ja)(w:Zb)(ho:PE X o td)(hi:PE X i ty)(hs:LM i)(hK:X.K=K:=by rfl)(hw:X.w=w:=by rfl):PE X (.Subscript o i pos) (NS K w td ty):=by
 subst hK hw;refine fun pins s σ H Q I h=>zr PySem.F.slot_dict_getitem.lookup hs (bb (ho s σ H _ I h) fun u s1 hz_=>aj.el hz_ _ fun x H1 I1 rx q1=>bb (hi s1 σ H1 _ I1 q1) fun iv s2 hz_=>aj.el hz_ _ ?_);rintro y H2 I2 ry ⟨a,k,u',v,ex,ey,cd,e,rv,q2⟩;subst ex ey;obtain rfl:u=Zh a:=rx;obtain⟨t,rfl⟩:=ry;obtain⟨es,n,hl,hk⟩:=cd.ex;have hm:=PySem.W.mapOf_K (prog:=X.prog) I2.iQ hl hk;exact⟨hm.typeIs,wpAny_getItem_of (strKind_is X.prog X.w k t) hm (PySem.W.find_K hl e) ⟨v,H2,I2.tok _,rv,q2⟩⟩
end
section
variable {X:Cx}
def N5 (K:Ja):V->Option Int->Option Int->Hp->VK->Prop:=fun x lo hi H Q=>fG fun a xs=>x = .ref a/\aY K H a xs /\
 ¬(HT.eQ xs.length 0 lo=0/\HT.eQ xs.length xs.length hi=xs.length)/\∀p H',jg H p (.tup (lq xs lo hi)) H'->Q (.ref p) H'
def OX (K:Ja)(hK:X.K=K:=by rfl):CO X (N5 K):=by
 subst hK;refine fun pins s σ H x v vl vu lo hi sl Q I rx hs pl pu q=>LX s σ H x v vl vu lo hi sl Q I rx hs pl pu ?_;obtain⟨a,xs,e,h,nw,q⟩:=q;exact⟨a,xs,e,h,nw,fun p hp=>q p _ ⟨hp,rfl⟩⟩
end
def E8 {K:Ja}{a:Gc}{aF:List Fk}{n:Nat}{sl:Array (Option Fk)}{xs:List V}(h:K.lookup a=some ⟨.type "tuple",none,.seq aF.toArray n,sl⟩)(hv:Vals xs aF)(hz:xs.length<=1000)(H:Hp):aY K H a xs:=
 .inr ⟨_,aF.toArray,n,h,rfl,rfl,rfl,Jg (by rw[Jv,<-hv.length];exact hz) (show 1000<=KE by decide),by simpa using hv⟩
def Hm (r:dw k A):A.units+66<QbN:=by have:=r.un;lia
def oX {k:Nat}{x:Str}{ps:List Str}{sp:Sp}{p pos:Pos}(F:Fn X.prog X.w X.K X.mg X.base k x ps sp)(hr:dw k X.A)(hg:Gl X x)(qW:(x==("__debug__" : Str))=false:=by decide):
  PE X (.Call (.Name x p) [] [] pos) (Ax sp [] E0 Cm):=by
 obtain⟨f,fd,a,b,c,d⟩:=F.ex;exact C9 a hr hg d c b .nil rL qW
abbrev dF:List Fk:=[.type "ValueError",.type "Exception",.type "BaseException",.type "object"]
structure mh (K:Frag)(C:Gc)(f:Str):Prop where
 sa:findIn K (.ref C) "__setattr__" = some (some (.builtin "object.__setattr__"))
 na:findIn K (.ref C) f=some none
 mo:mroIn K C (.type "object")=some true
 cl:∃cd D,QdH K C=some cd/\cd.mro = .ref C :: .ref D::dF/\cd.hasDict=true
def Raw (o:Obj):Prop:=∃t,o.data = .fields #[.ref t,.none,.none,.none,.bool false,.none]
def Raw.nc (h:Raw o):notCls o=true:=by
 obtain⟨_,_,dt,_⟩:=o;obtain⟨t,h⟩:=h;cases h;rfl
def wF (e C:Gc):HO := .ext fun h=>∃o,h.get? e=some o/\o.cls = .ref C/\o.dict=none/\Raw o
def AR (e C dx:Gc):HO := .ext fun h=>∃o,h.get? e=some o/\o.cls = .ref C/\o.dict=some dx/\Raw o
section
variable {prog:YZ}{w:Zb}{A:Zs}{K:Frag}{C e:Gc}{s:Wp}{E:Fk->Wp->Prop}{f:Str}{v:Fk}
def B3 (X:K.In s.heap)(O:mh K C f)(hx:s.heap.get? e=some o)(hc:o.cls = .ref C)(hd:o.dict=none)(hn:notCls o=true)
  (k:∀h' tk,h'.get? e=some { o with dict:=some s.heap.objs.size } -> h'.Ns1 s.heap.objs.size (fun y=>if y=f then some v else none)->(∀b ob,b≠e->s.heap.get? b=some ob->h'.get? b=some ob)->Q () { s with heap:=h',toks:=tk }) :
  YX (YW prog w) A (setAttr (.ref e) f v) Q E s:=by
 have J:InstAt s.heap e o C none:=⟨hx,hc,hn,by rw[hd];trivial⟩
 refine aj.el (O.cl) _ ?_;rintro cd D c1 c2 c3;have SF:=PySem.F.store_object;have Rz:Looks (YW prog w) s.heap (mroOf (.ref C)) cd.mro:=(looks_clsIn X c1).andThen .now;refine set_plain X J O.sa (Qac SF.slot.plain SF.entry (@check_slot (YW prog w) _ _ { s with toks:=s.toks+1 } "object.__setattr__" "object" "__setattr__" (.ref e) [.str f s.toks,v] [] _ SF.kind SF.split (J.type.andThen (looks_mroIn X O.mo)) (SF.args (.ref e) (.str f s.toks) v) ?_));rw[osa_eq,refuse_eq];refine be (be (J.type.here (s:={ s with toks:=s.toks+1 }) (be (Rz.here (s:={ s with toks:=s.toks+1 }) ?_))));rw[c2,refuseLoop_ref,refuseLoop_ref,PySem.F.store_ValueError.passes];refine tz (be (J.type.here (s:={ s with toks:=s.toks+1 }) (be ((Qbl X O.na).here (s:={ s with toks:=s.toks+1 }) (be (tz ?_))))));obtain⟨oc,od,odt,wO⟩:=o;subst hc hd;have B4:=Jl (Jf hx);refine be (tz (be (be (QeO hx (be ((looks_clsIn X c1).here (s:={ s with toks:=s.toks+1 }) ?_))))));rw[c3];dsimp only;rw[if_neg ∅,if_neg (by simp[typeHasDict])]
 split
 ·rename_i c;exact absurd hn (by simp[notCls])
 have Lx:(s.heap.push { cls := .type "dict",data := .dict #[] }).get? e=some ⟨.ref C,none,odt,wO⟩:=Jb _ hx;refine be (wpAny_alloc' (be (wpAny_update' Lx (tz ?_))));obtain⟨G,hG⟩:∃G,G=(s.heap.push { cls := .type "dict",data := .dict #[] }).update e fun o=>{ cls:=o.cls,dict:=some s.heap.objs.size,data:=o.data,slots:=o.slots }:=⟨_,rfl⟩
 have gd:G.get? s.heap.objs.size=some { cls := .type "dict",data := .dict #[] }:=by
  rw[hG];exact(Heap.get?_update_ne _ _ _ _ B4.symm).trans (Heap.get?_push_at rfl rfl)
 have ge:G.get? e=some ⟨.ref C,some s.heap.objs.size,odt,wO⟩:=by
  rw[hG];refine J2 _ Lx ?_;cases odt<;>first|rfl|exact(Heap.get?_some_iff.mp hx).2
 have go:∀b ob,b≠e->s.heap.get? b=some ob->G.get? b=some ob:=fun b ob nb q=>by
  rw[hG];exact(Heap.get?_update_ne _ _ _ _ nb).trans (Jb _ q)
 rw[<-hG];refine be (tz (be (wpAny_nsSet1 (Qe7 ⟨_,#[],_,gd,rfl,(fun a ha=>absurd ha (by simp)),fun _=>rfl⟩) fun h2 ns2 sb=>aj.el (ns2.count (Within.cons f v Within.nil)) _ ?_)));rintro oD eD pD hoD dD cD;refine be (wpAny_lookBehind hoD ?_ ?_)
 ·rw[dD];refine pastItsLine_dict (Jg cD ?_);rw[Jn,Yk,Qcc];lia
 exact tz (k h2 _ ((sb.2 e B4).trans ge) ns2 fun b ob nb q=>(sb.2 b (Jl (Jf q))).trans (go b ob nb q))
def FK {dx:Gc}{Q:Fk->Wp->Prop}(X:K.In s.heap)(O:j6 K C)(S:mh K C f)(hx:s.heap.get? e=some o)(hc:o.cls = .ref C)(hd:o.dict=some dx)(hn:notCls o=true)(ho:s.heap.get? dx=some od)
  (hl:lookIn f od=some (some v)) (hv:handedIn v=true) (k:Q v { s with toks:=s.toks+1 }):YX (YW prog w) A (getAttr (.ref e) f true) Q E s:=by
 have p:ExcAt e C s.heap:=⟨o,hx,hc⟩
 refine aj.el (S.cl) _ ?_;rintro cd D c1 c2 c3;have fo:findObj K C (some od) f=some (.value v):=by
  unfold findObj PySem.W.ownOf;simp only[c1,S.na,Option.bind_some,c3,if_true,hl]
 obtain⟨hh,g,dr,t,os⟩:=s;have T0:=iM (M:=YW prog w) p;exact be (wpAny_mkText (Zf (be (T0.at (be ((Qbl (M:=YW prog w) X O.ga).at (be ((Qbl (M:=YW prog w) X O.gt).at (be (ZN (Zf (be (tz (Qbq (Qac F.attr_ValueError.ga.plain F.entry_bexc_ga (sN X O p (be (tz (be (tz (be (T0.at (be ((looks_find (M:=YW prog w) X ⟨hx,hc,hn,by rw[hd];exact ho⟩ fo).at (tz (handed_on hv k))))))))))))))))))))))))))
end
section
variable {prog:YZ}{w:Zb}{A:Zs}{E:Fk->Wp->Prop}{h0:Heap}{g0:Array QdO}{d0:Drawn}{t0:Nat}{QH:OsState}{nm qn:Str}{C N fi:Gc}{bs up tail:List Fk}{hdct:Bool}{sn:List Str}{sub:List Fk}{ab:Bool}
 {col:Option Bool} {dd:Option Gc} {k0 k1 k2 k3 k5:Option Fk} {B newId EY:String}
def Bo (FB:ExcBaseFacts B newId EY tail)(TL:OwnTail h0 tail up){vs:List Fk}{oi:Obj}{Q:Fin->Wp->Prop}
  (qP:h0.get? C=some (QaR nm qn C N bs up hdct sn sub ab col dd k0 k1 k2 k3 k5 newId)) (jB:∀h1,(∀b o,h0.get? b=some o->h1.get? b=some o)->Looks (YW prog w) h1 (Qar (.ref C) "__init__") (some (.ref fi))) (Q5:h0.get? fi=some oi) (Ss:oi.cls = .type "function") (fit:vs.length<=KE)
  (run:∀h' e,Qd5 h0 h' e (.ref C) vs->YX (YW prog w) A (call (.ref fi) (.ref e::vs)) (fun r s'=>r = .none/\Q (.done (.ret (.ref e))) s') E ⟨h',g0,d0,t0,QH⟩) :
  YX (YW prog w) A (Builtin.«type.__call__» ⟨.ref C::vs,[]⟩) Q E ⟨h0,g0,d0,t0,QH⟩:=by
 repeat (first
  | with_reducible refine Qbj qP ?_
  | with_reducible refine wpAny_madeBy_exc qP ?_
  | wp_step)
 refine codeAny_call_builtin_code (QbF _ FB.quiet) (wpAny_check_new_subT FB TL qP (codeAny_exc_new_subT FB TL qP ?_ fit));obtain⟨H1,e1⟩:∃H1,H1=(h0.push { cls := .type "tuple",data := .seq vs.toArray }).push { cls := .ref C,data := .fields #[.ref h0.objs.size,.none,.none,.none,.bool false,.none] }:=⟨_,rfl⟩
 have kp:∀b o,h0.get? b=some o->H1.get? b=some o:=fun b o z=>by
  rw[e1];exact Jb _ (Jb _ z)
 have me:H1.get? (h0.objs.size+1)=some { cls := .ref C,data := .fields #[.ref h0.objs.size,.none,.none,.none,.bool false,.none] }:=by
  rw[e1]
  heap_get
 have mt:H1.get? h0.objs.size=some { cls := .type "tuple",data := .seq vs.toArray }:=by
  rw[e1];exact Jb _ (Heap.get?_push_at rfl rfl)
 rw[<-e1];have self:(Zh C::up).contains (.ref C)=true:=by simp
 repeat (first
  | with_reducible refine Qbj me ?_
  | (with_reducible refine wpAny_isSubtype_exc (kp _ _ qP) ?_;rw[self])
  | wp_step)
 refine(jB H1 kp).at (Zf (be (be (ZV ⟨_,kp _ _ Q5,Ss⟩ (tz (be (Z9 (run H1 _ ⟨kp,QcD (Yu _),h0.objs.size,me,QcD (Je _),mt⟩) (fun r s' hr =>?_) fun _ _ x=>x)))))));obtain⟨rfl,q⟩:=hr
 wp_walk
 exact q
def Nb (FB:ExcBaseFacts B newId EY tail)(TL:OwnTail h0 tail up){vs:List Fk}{oi:Obj}{Q:Fk->Wp->Prop}
  (qP:h0.get? C=some (QaR nm qn C N bs up hdct sn sub ab col dd k0 k1 k2 k3 k5 newId)) (jB:∀h1,(∀b o,h0.get? b=some o->h1.get? b=some o)->Looks (YW prog w) h1 (Qar (.ref C) "__init__") (some (.ref fi))) (Q5:h0.get? fi=some oi) (Ss:oi.cls = .type "function") (fit:vs.length<=KE)
  (run:∀h' e,Qd5 h0 h' e (.ref C) vs->YX (YW prog w) (A.under (.builtin "type.__call__" ⟨.ref C::vs,[]⟩)) (call (.ref fi) (.ref e::vs)) (fun r s'=>r = .none/\Q (.ref e) s') E ⟨h',g0,d0,t0,QH⟩) :
  YX (YW prog w) A (call (.ref C) vs) Q E ⟨h0,g0,d0,t0,QH⟩:=by
 have b1:=tc_lookup;have b2:=tc_bind (.ref C);refine Qbq (codeAny_of_tree ?_)
 repeat (any_goals (first
  | assumption
  | with_reducible refine Qbj qP ?_
  | wp_step))
 exact⟨rfl,codeAny_call_builtin_at (QbF _ ∅) entry_typeCall (wpAny_check_type_call_sub qP (Bo FB TL qP jB Q5 Ss fit fun h' e m=>run h' e m))⟩
end
section
variable {X:Cx}{pins:List (Gc×Obj)}{σ:St}{H:Hp}{s:Wp}{e C:Gc}
def HB {H:Hp}{h:Heap}{o:Obj}(h1:h.get? e=some o)(h2:o.cls = .ref C)(h3:o.dict=none)(h4:Raw o):bt P w H h e (wF e C):=
 ⟨⟨o,h1,h2,h3,h4⟩,⟨o,h1⟩,fun a b ⟨o,e1,r⟩ k=>⟨o,k _ e1,r⟩⟩
def Hr {H:Hp}{h:Heap}{o:Obj}{dx:Gc}(h1:h.get? e=some o)(h2:o.cls = .ref C)(h3:o.dict=some dx)(h4:Raw o):bt P w H h e (AR e C dx):=
 ⟨⟨o,h1,h2,h3,h4⟩,⟨o,h1⟩,fun a b ⟨o,e1,r⟩ k=>⟨o,k _ e1,r⟩⟩
def Inv.noObj (I:Inv X pins σ H s)(h:s.heap.get? e=none):H e=none:=by
 cases z:H e with
 | none=>rfl
 | some o=>obtain⟨q,hq⟩:=(I.bq e o z).ex;rw[hq] at h;cases h
def Inv.NU (I:Inv X pins σ H s)(m:Qd5 s.heap h' e (.ref C) us)(hex:X.ex=[]):Inv X pins σ (upd H e (wF e C)) { s with heap:=h',toks:=tk }:=by
 obtain⟨k,ne,t0,me,nt,mt⟩:=m;have I2:Inv X pins σ H { s with heap:=h',toks:=tk }:=I.kept k;have hs:∀b o,s.heap.get? b=some o->b≠e:=fun b o q z=>by rw[z,ne] at q;cases q
 refine I2.yz (I.noObj ne) (fun z =>?_) (fun x c q =>?_) (fun p hp =>?_) (fun b u q =>?_) (HB me rfl rfl ⟨_,rfl⟩)
 ·obtain⟨m,⟨oL,_,_,q,_⟩,_⟩:=I.loc;exact hs _ _ q z.symm
 ·obtain⟨v,o,e1,_⟩:=I.cell x c q;exact hs _ _ e1
 ·exact hs _ _ (I.pin p hp).1
 ·obtain⟨o',q'⟩:=I.base.there b u q (by rw[hex];exact nofun);exact hs _ _ q'
structure MU (K:Frag)(C fi:Gc):Prop where
 cl:∃nm qn N bs D hdct sn sub ab col dd k0 k1 k2 k3 k5,K.lookup C=some (QaR nm qn C N bs (.ref D::dF) hdct sn sub ab col dd k0 k1 k2 k3 k5 "ValueError.__new__")/\∀h:Heap,K.In h->OwnTail h dF (.ref D::dF)
 MV:findIn K (.ref C) "__init__" = some (some (.ref fi))
 fn:∃oi:Obj,K.lookup fi=some oi/\oi.cls = .type "function"
 kp:keepIn K (.ref C)=true
def Eo (C:Gc)(sp:Sp)(t:TA):TE:=fun σ H Q=>t σ H fun vs H1=>vs.length<=1000/\∀e,H1 e=none->sp (.ref e::vs) (upd H1 e (wF e C)) (fun v H2=>v = .non/\Q (.ref e) H2) E0
def CG {fi:Gc}{fd:Zc}{ps:List Str}{sp:Sp}{Q:VK}{us:List Fk}{vs:List V}(M:MU X.K C fi)(F:aW X.prog X.w X.K X.mg X.base dI k fi fd ps sp)(hr:dw (k+1) X.A)(hb:Binds X.K fd ps [])(hex:X.ex=[])
  (I:Inv X pins σ H s) (r:Vals vs us) (hl:vs.length<=1000) (h:∀e,H e=none->sp (.ref e::vs) (upd H e (wF e C)) (fun v H2=>v = .non/\Q (.ref e) H2) E0):YX (YW X.prog X.w) X.A (call (.ref C) us) (EP X pins σ Q) X.xe s:=by
 refine aj.el (M.cl) _ ?_;rintro nm qn N bs D hdct sn sub ab col dd k0 k1 k2 k3 k5 lk TL;refine aj.el (M.fn) _ ?_;rintro oi l2 ft;have xc:=I.iQ;refine Nb PySem.F.excBase_ValueError (TL _ xc) (xc _ _ lk) (fun h1 kp=>Qbl (fun a o z=>kp a o (xc a o z)) M.MV) (xc _ _ l2) ft (by rw[<-r.length];exact Jg hl ∅) fun h' e m =>?_;have I2:Inv X pins σ (upd H e (wF e C)) { s with heap:=h',toks:=s.toks }:=I.NU m hex;have hq:=h e (I.noObj m.2);have r2:Vals (V.ref e::vs) (Zh e::us) := .cons rfl r;have QF:=hb { s with heap:=h',toks:=s.toks } (Zh e::us) I2.iQ (by rw[Uu];exact(by rw[<-r2.length];exact F.len _ _ _ _ hq));rw[Uu] at QF;refine Qbq (Qbm (F.run _ X.stack { s with heap:=h',toks:=s.toks } _ ⟨Zh e::us,[]⟩ (Zh e::us) _ _ E0 (hr.make C us []) (I2.Gi.make C us []) QF r2 hq) fun rr s' hq' =>?_);cases rr with
 | error x=>exact hq'.elim
 | ok fl=>
  cases fl with
  | ret u=>
   obtain⟨v,H',I3,rv,ev,q3⟩:=I2.after hq';subst ev;exact⟨rv,⟨V.ref e,H',I3,rfl,q3⟩⟩
  | next=>exact hq'.elim
  | brk=>exact hq'.elim
  | cont=>exact hq'.elim
def Fh {fi:Gc}{fd:Zc}{ps:List Str}{sp:Sp}{x:Str}{p pos:Pos}{a:ZA}{as:List ZA}{t:TA}(M:MU X.K C fi)(F:aW X.prog X.w X.K X.mg X.base dI k fi fd ps sp)(hr:dw (k+1) X.A)(hg:Gl X x)(hm:X.mg x=some (.ref C))
  (hb:Binds X.K fd ps []) (ha:PA X (a::as) t) (hex:X.ex=[]:=by rfl) (qW:(x==("__debug__" : Str))=false:=by decide) (he:Ze (a::as) X.env=(false,ZM a X.env)::Ze as X.env:=by rfl) (nY:(QaS pos (Ze as X.env)).any (·.1)=false:=by rfl) :
  PE X (.Call (.Name x p) (a::as) [] pos) (Eo C sp t):=
 fun pins s σ H Q I h=>ZK (iT I hg hm (QaV I.ok.mod.xc M.kp (bb (ha s σ H _ I h) fun us s1 hz_=>aj.el hz_ _ fun vs H1 I1 r q=>⟨I1.iQ,(CG M F hr hb hex I1 r q.1 q.2)⟩) he nY) qW)
def OB (K:Frag)(to tv:TE)(f:Str):TS:=fun D σ H=>tv σ H fun v H1=>to σ H1 fun x H2=>∃e C,x = .ref e/\H2 e=some (wF e C)/\mh K C f/\∀dx,H2 dx=none->dx≠e->D.nx σ (upd (upd H2 e (AR e C dx)) dx (.xd [(f,v)]))
def Ak {to tv:TE}{pos pos':Pos}(ho:PE X o to)(hv:PE X value tv)(hs:Qc4 value (some (.Attribute o f pos')) pos.line X.env=pure false):PS X (.Assign [.Attribute o f pos'] value pos) (OB X.K to tv f):=by
 refine fun pins s σ H D I h=>QdU (bb (hv s σ H _ I h) fun u s1 ⟨v,H1,I1,ru,q⟩=>bb (ho s1 σ H1 _ I1 q) fun ov s2 ⟨x,H2,I2,rx,e,C,ex,ee,S,q2⟩=>?_) hs;subst ex;obtain rfl:ov=Zh e:=rx;obtain⟨ob,b1,b2,b3,b4⟩:=(show bt X.prog X.w H2 s2.heap e (wF e C) from I2.bq e _ ee).1;have B4:=Jl (Jf b1);refine B3 I2.iQ S b1 b2 b3 b4.nc fun h' tk a1 a2 a3 =>?_;have I3:Inv X pins σ (upd H2 e (AR e C s2.heap.objs.size)) { s2 with heap:=h',toks:=tk }:=I2.write (by rw[ee];exact ZL) (.inl rfl) a3 ⟨_,a1⟩ (Hr a1 b2 rfl b4);have hd:=I2.bq.fresh (Je _);have fp:=I2.fu (Je _) hd;refine⟨σ,_,?_,q2 _ hd B4.symm⟩;refine I3.yz (by rw[au B4.symm];exact hd) fp.2.1 fp.2.2.2.2.1 fp.2.2.2.2.2 (fun b u q z =>?_) ⟨_,a2,fun g =>?_⟩
 ·have:=Jf q;rw[z] at this;exact absurd (Jw this I2.sz) (Uh _)
 ·show iW (Wc g [(f,v)]) (if g=f then some u else none)
  by_cases z:g=f
  ·rw[if_pos z,z,List.lookup_cons_self];exact ru
  ·rw[if_neg z];have:Wc g [(f,v)]=none:=by
    rw[Um];have:(g==f)=false:=by simpa using z
    rw[this];rfl
   rw[this];trivial
end
section
variable {K:Frag}{C D N:Gc}{nm qn:Str}{bs up:List Fk}{hdct:Bool}{sn:List Str}{sub:List Fk}{ab:Bool}{col:Option Bool}{dd:Option Gc}{k0 k1 k2 k3 k5:Option Fk}
def Bz (lk:K.lookup C=some (QaR nm qn C N bs up hdct sn sub ab col dd k0 k1 k2 k3 k5 "ValueError.__new__"))(made:excIn K C dF "ValueError.__new__" = true):nsOkIn K N=true/\Qea K N "__init__" = some none:=by
 have h:(C==C && "ValueError.__new__" == "ValueError.__new__" && !false&&tailIn K dF up&&nsOkIn K N&&Qea K N "__init__" == some none)=true:=by
  unfold excIn at made;rw[lk] at made;exact made
 have h1:=Bool.and_eq_true_iff.mp h;exact⟨(Bool.and_eq_true_iff.mp h1.1).2,beq_iff_eq.mp h1.2⟩
def C5 (lk:K.lookup C=some (QaR nm qn C N bs dF hdct sn sub ab col dd k0 k1 k2 k3 k5 "ValueError.__new__"))(made:excIn K C dF "ValueError.__new__" = true)(h:Heap)(xc:K.In h):OwnTail h dF (.ref C::dF):=by
 obtain⟨a,b⟩:=Bz lk made;exact .own (xc _ _ lk) (.of_isNs (isNs_of_in xc a)) (nsMap_none_of_in xc a b) .base
def DM (lk:K.lookup C=some (QaR nm qn C N bs (.ref D::dF) true sn sub ab col dd k0 k1 k2 k3 k5 "ValueError.__new__"))(sa:findIn K (.ref C) "__setattr__" = some (some (.builtin "object.__setattr__")))(na:findIn K (.ref C) f=some none)
  (mo:mroIn K C (.type "object")=some true):mh K C f:=by
 refine⟨sa,na,mo,⟨{ name:=nm,bases:=bs,mro := .ref C :: .ref D::dF,ns:=N,qualname:=qn,hasDict:=true,slotNames:=sn,subclasses:=sub,abstract:=ab,collection:=col,hasDel:=false },D,?_,rfl,rfl⟩⟩;unfold QdH;rw[lk]
end
structure zg (K:Ja)(P:YZ)(w:Zb)(a:Gc)(es:Array Qcz)(n:Nat)(kvs:List (Str×Fk)):Prop where
 l:K.lookup a=some ⟨.type "dict",none,.dict es n,#[]⟩
 k:Qb4 w.params es.toList
 p:Pairs (QcI P w) es.toList kvs
 nd:(kvs.map (·.1)).Nodup
 ns:(a==Qax)=false
def zg.at {K:Ja}{P:YZ}{w:Zb}{a:Gc}{es:Array Qcz}{n:Nat}{kvs:List (Str×Fk)}{h:Heap}(D:zg K P w a es n kvs)(X:K.In h):h.DictAt (QcI P w) a kvs n:=
 ⟨_,es,X _ _ D.l,⟨rfl,rfl,rfl⟩,rfl,fun e he=>by
  obtain⟨x,t,e1,e2⟩:=D.k.all e (Array.mem_toList_iff.mpr he);exact⟨x,by rw[e1];exact strKind_is P w x t,e2⟩,D.p,D.nd⟩
section
variable {X:Cx}
def LO:HD X "list.index" (fun x vs H Q=>∃(l:Gc) (xs:List Str) (y:Str) (j:Nat),x = .ref l/\vs=[.str y]/\H l=some (.lst (xs.map V.str))/\xs[j]? = some y/\(∀m,m<j->xs[m]? ≠ some y)/\Q (.int (j:Nat)) H):=by
 intro pins s σ H x vs v us Q I rx rv h;refine aj.el (h) _ ?_;rintro l xs y j rfl rfl hH hj C0 q;cases rx;refine aj.el (vals1 rv) _ ?_;rintro u rfl ru;obtain⟨t,rfl⟩:=ru;refine aj.el (I.tS hH) _ ?_;rintro z aF n r hl e;have hlen:=r.length;rw[Jd] at hlen;have jl:j<xs.length:=(Ji.mp hj).1
 let ev:Fk->Bool:=fun u=>match u with | .str a _=>decide (a=y)|_=>false
 have at':∀m (hm:m<aF.length),∃t',aF[m] = .str (xs[m]'⋯) t':=fun m hm=>by
  obtain⟨a,h1,h2⟩:=i9 r (i:=m) (v:=aF[m]) (by simp[hm]);rw[Jk,Jc ⋯] at h1;cases h1;exact h2
 have hn:=mK;refine QaH F.slot_list_index ⟨_,e,rfl⟩ F.entry_list_index (F.args_list_index_2 _ _) (SeqAt.list_indexAt l aF.toArray n none #[] (.str y t) ev j (by rw[Jv];lia) (by
  have:xs.length<=KE:=by rw[Jd] at z;exact z
  lia) ?_ ?_) ⟨e,fun w hw =>?_,?_⟩
 ·obtain⟨t',e'⟩:=at' j ⋯;show ev aF[j]=true;rw[e'];exact decide_eq_true (Ji.mp hj).2
 ·intro m hm hmj;have va:m<aF.length:=by rw[Jv] at hm;exact hm
  obtain⟨t',e'⟩:=at' m va;show ev aF[m]=false;rw[e'];refine decide_eq_false fun z=>C0 m hmj ?_;rw[Jc ⋯,z]
 ·have hw:w∈aF:=by simpa using hw
  refine aj.el (Yd.mp hw) _ ?_;rintro i hi ew;obtain⟨t',e'⟩:=at' i hi;rw[<-ew,e'];exact Qes _ t' y t
 ·exact⟨.int _,H,I.tok _,⟨_,rfl⟩,q⟩
end
structure y9 (h:Heap)(S it d:Gc)(i n ep:Nat):Prop where
 ex:∃(x0:Fk) (f:Bool) (ok ov:Fk),h.get? it=some { cls := .type "dict_itemiterator",dict:=none,data := .fields #[x0,.bool f,.ref d,.int i 0,.int n 0,.int ep 0,ok,ov],slots := #[] } /\ (x0 = .none\/∃(a:Gc) (oa:Obj),x0=ZT a/\h.get? a=some oa/\a≠it/\a≠S)
section
variable {prog:YZ}{w:Zb}{K:Type}[DecidableEq K]{knd:KeyKind prog w K}{A:Zs}{E:Fk->Wp->Prop}{s:Wp}
def BH (st:y9 s.heap S it d i n ep)(hS:S<s.heap.objs.size)
  (q:∀h',y9 h' S it d i n ep->h'.get? s.heap.objs.size=some { cls := .type "tuple",data := .seq #[key,val] } -> h'.objs.size=s.heap.objs.size+1->(∀b o,b≠it->s.heap.get? b=some o->h'.get? b=some o)->Q (.ref s.heap.objs.size) { s with heap:=h' }) :
  YX (YW prog w) A (Builtin.Dict_items.pairFromOwner (.ref it) 6 key val) Q E s:=by
 obtain⟨⟨x0,f,ok,ov,e,F6⟩⟩:=st;have low:=Jf e;refine be (Qbi ?_);obtain⟨h2,eh2⟩:∃h2,h2=s.heap.push { cls := .type "tuple",data := .seq #[key,val] }:=⟨_,rfl⟩
 have t2:h2.get? s.heap.objs.size=some { cls := .type "tuple",data := .seq #[key,val] }:=by rw[eh2];exact Jh _ rfl
 have z2:h2.objs.size=s.heap.objs.size+1:=by rw[eh2,Uc]
 have k2:∀b o,s.heap.get? b=some o->h2.get? b=some o:=fun b o x=>by rw[eh2];exact Jb _ x
 have e2:=k2 _ _ e;rw[<-eh2];refine be ?_
 rcases F6 with rfl|⟨a,oa,rfl,ha,na,nS⟩
 ·refine be (Zg e2 rfl rfl (tz ?_));refine be (Zg e2 rfl rfl (be (Zg e2 rfl rfl (be (Zd e2 (by simp) fun h3 e3 s3=>be (Zd e3 (by simp) fun h4 e4 s4=>be (Zd e4 (by simp) fun h5 e5 s5=>be (Zd e5 (by simp) fun h6 e6 s6 =>?_))))))));have kk:=fun b o nb x=>s6.extBut b o nb (s5.extBut b o nb (s4.extBut b o nb (s3.extBut b o nb x)));have t6:=kk _ _ (Ul low) t2;exact be (Qba (tz (q h6 ⟨_,_,_,_,e6,.inr ⟨_,_,rfl,t6,Ul low,Ul hS⟩⟩ t6 (by rw[s6.1,s5.1,s4.1,s3.1];exact z2) fun b o nb x=>kk b o nb (k2 b o x))))
 ·refine be (Zg e2 rfl rfl ?_);refine be (Qfd (k2 _ _ ha) (be (Zg e2 rfl rfl ?_)));cases f
  ·refine be (Zd e2 (by simp) fun h3 e3 s3=>tz ?_);exact tz (q h3 ⟨_,_,_,_,e3,.inr ⟨a,oa,rfl,s3.extBut _ _ na (k2 _ _ ha),na,nS⟩⟩ (s3.extBut _ _ (Ul low) t2) (by rw[s3.1];exact z2) fun b o nb x=>s3.extBut b o nb (k2 b o x))
  ·refine tz ?_;exact tz (q h2 ⟨_,_,_,_,e2,.inr ⟨a,oa,rfl,k2 _ _ ha,na,nS⟩⟩ t2 z2 fun b o nb x=>k2 b o x)
def xS (wJ:y9 s.heap S it d i kvs.length ep)(hS:S<s.heap.objs.size)
  (hm:s.heap.DictAt knd d kvs ep) (hx:kvs[i]? = some (k,v))
  (hQ:∀key h',knd.is k key=true->y9 h' S it d (i+1) kvs.length ep->h'.get? s.heap.objs.size=some { cls := .type "tuple",data := .seq #[key,v] } -> h'.objs.size=s.heap.objs.size+1 ->
   (∀b o,b≠it->s.heap.get? b=some o->h'.get? b=some o)->Q (some (.ref s.heap.objs.size)) { s with heap:=h' }) :
  YX (YW prog w) A (QaM (.ref it)) Q E s:=by
 obtain⟨⟨x0,f,ok,ov,e,F6⟩⟩:=wJ;obtain⟨od,es,hod,yn,hdd,hk,HA,hn⟩:=id hm;have hT:s.TypeIs (.ref it) "dict_itemiterator":=⟨_,e,rfl⟩
 have hsz:es.size=kvs.length:=by rw[<-HA.length];simp
 have jv:i<es.size:=by rw[hsz];exact(Ji.mp hx).1
 obtain⟨hkey,hval⟩:=HA.get? (e:=es[i]) (by simp[]) hx;refine be (ZN (Zj hT QaC (Zm QaC hT QdS ?_ (QdC _))))
 repeat (first
  | with_reducible refine QaA hT ?_
  | with_reducible refine wpAny_typeNameOf_itemiter hT ?_
  | with_reducible refine QcZ e rfl ?_
  | with_reducible refine wpAny_dictEntries hod hdd ?_
  | with_reducible refine wpAny_dictEpoch hod hdd ?_
  | with_reducible refine Qbk hT ?_
  | wp_step)
 simp only[ Uw,Jx jv];refine be (be (QaA hT (tz (be (Qbk hT ?_)))));change YX _ _ (QaO (setField (.ref it) 3 (ZT ((i:Int)+1))) _) _ _ _;refine be (Zd e (by simp) fun h1 e1 s1 =>?_);have z:((i+1:Nat):Int)=(i:Int)+1:=by lia
 have m5:y9 h1 S it d (i+1) kvs.length ep:=⟨x0,f,ok,ov,by rw[z];exact e1,F6.imp id fun⟨a,oa,h1,h2,h3,h4⟩=>⟨a,oa,h1,s1.extBut _ _ h3 h2,h3,h4⟩⟩
 have CP:ZY { s with heap:=h1 } (.ref it) "dict_itemiterator":=⟨_,e1,rfl⟩
 refine be (Zf (be (Qbk CP (be (Qbk CP (BH m5 (by show S<h1.objs.size;rw[s1.1];exact hS) fun h' st' t' z' k' =>?_))))));rw[s1.1] at t' z' ⊢;refine tz ⟨_,rfl,tz (hQ _ h' hkey st' (by rw[<-hval];exact t') z' fun b o nb x=>k' b o nb (s1.extBut b o nb x))⟩
def xq (hh:A.handled=none)(wJ:y9 s.heap S it d i kvs.length ep)
  (hm:s.heap.DictAt knd d kvs ep) (hx:kvs[i]? = none) (hQ:∀h',Heap.ExtBut it s.heap h'->Q none { s with heap:=h' }) :
  YX (YW prog w) A (QaM (.ref it)) Q E s:=by
 obtain⟨⟨x0,f,ok,ov,e,F6⟩⟩:=wJ;obtain⟨od,es,hod,yn,hdd,hk,HA,hn⟩:=id hm;have hT:s.TypeIs (.ref it) "dict_itemiterator":=⟨_,e,rfl⟩
 have hsz:es.size=kvs.length:=by rw[<-HA.length];simp
 refine be (ZN (Zj hT QaC (Zm QaC hT QdS ?_ (QdC _))))
 repeat (first
  | with_reducible refine QaA hT ?_
  | with_reducible refine QcZ e rfl ?_
  | with_reducible refine wpAny_dictEntries hod hdd ?_
  | with_reducible refine wpAny_dictEpoch hod hdd ?_
  | wp_step)
 simp only[ Uw,Ur (by rw[hsz];simpa using hx)];refine be (be (QaA hT (tz ?_)));change YX _ _ (QaO (setField (.ref it) 2 .none) _) _ _ _;refine be (Zd e (by simp) fun h1 e1 s1 =>?_)
 wp_walk
 refine Z4 hh (be (ZC ⟨_,Jh _ rfl,rfl⟩ Qas (tz (hQ _ fun b o nb x =>?_))));exact Jb _ (Jb _ (s1.extBut b o nb x))
end
structure Eu (prog:YZ)(w:Zb)(A:Zs)(it S:Gc)(fp:Gc->Prop)(n:Nat)(P:Nat->Fk->Heap->Prop)(R:Fk->Fk->Prop)(St:Nat->Heap->Prop):Prop where
 sfp:¬fp S
 item:∀i (s:Wp) (Q:Option Fk->Wp->Prop) (E:Fk->Wp->Prop),i<n->St i s.heap->S<s.heap.objs.size ->
  (∀v h' tk,Keeps s.heap h' fp->St (i+1) h'->P i v h'->(∀j u,P j u s.heap->R u v)->Q (some v) { s with heap:=h',toks:=tk })->YX (YW prog w) A (QaM (.ref it)) Q E s
 stop:∀(s:Wp) (Q:Option Fk->Wp->Prop) (E:Fk->Wp->Prop),St n s.heap->S<s.heap.objs.size->(∀h' tk,Keeps s.heap h' fp->Q none { s with heap:=h',toks:=tk })->YX (YW prog w) A (QaM (.ref it)) Q E s
 keepS:∀i h h',St i h->Keeps h h' (· = S)->St i h'
 keepP:∀j v h h',P j v h->Keeps h h' (fun b=>fp b\/b=S)->P j v h'
section
variable {prog:YZ}{w:Zb}{A:Zs}{it S:Gc}{fp:Gc->Prop}{n:Nat}{P:Nat->Fk->Heap->Prop}{R:Fk->Fk->Prop}{St:Nat->Heap->Prop}
def kN (Fd:Eu prog w A.in1 it S fp n P R St)(hn:n<=KE){s:Wp}{Z:QaU->Wp->Prop}{res:Fk}{g:Heap}(fin:oM g S fp n P R s (Z (.ok (.ret res)))):
  ∀k i h tk acc c,i+k=n->St i h->nP h S i P R acc c->Keeps g h (fun b=>fp b\/b=S) ->
   ZW (YW prog w) A (.builtin "list.extend.loop" ⟨[.ref S,.ref it,res],[]⟩) Z { s with heap:=h,toks:=tk }
 | 0,i,h,tk,acc,c,hk,lA,G,kp=>by
  have e:i=n:=by lia
  subst e;exact ZD QaL (be (Fd.stop { s with heap:=h,toks:=tk } _ _ lA (Jf G.ob) fun h' tk' k'=>tz (fin h' tk' acc c (fun b o nb q=>k' b o (fun z=>nb (.inl z)) (kp b o nb q)) ⟨k' _ _ Fd.sfp G.ob,G.sz,G.pw,fun j v e=>Fd.keepP _ _ _ _ (G.all j v e) fun b o nb q=>k' b o (fun z=>nb (.inl z)) q⟩)))
 | k+1,i,h,tk,acc,c,hk,lA,G,kp=>by
  refine ZD QaL (be (Fd.item i { s with heap:=h,toks:=tk } _ _ ⋯ lA (Jf G.ob) fun v h' tk' k' st' pv rv =>?_));have Lm:=k' _ _ Fd.sfp G.ob;have other:Keeps h' (h'.update S (ZF (·.push v))) (· = S):=fun b o nb q=>(J3 _ _ (Zx nb)).trans q;have k2:Keeps h (h'.update S (ZF (·.push v))) (fun b=>fp b\/b=S):=fun b o nb q=>other b o (fun z=>nb (.inr z)) (k' b o (fun z=>nb (.inl z)) q);have sz:=G.sz;refine be (Z5 Lm rfl (tz ⟨ZU Z1 _,(kN Fd hn fin k (i+1) _ tk' (acc.push v) _ ⋯ (Fd.keepS _ _ _ st' other) ⟨J2 _ Lm rfl,by rw[QaX,sz],?_,fun j u e =>?_⟩ (fun b o nb q=>k2 b o nb (kp b o nb q)))⟩) (by rw[sz];lia) (by show(acc.push v).size<=KE+1;rw[QaX,sz];lia))
  ·rw[Qa3];refine Y0.mpr ⟨G.pw,Qa0 _ _,fun a ha b hb =>?_⟩;obtain⟨j,hj⟩:=J4.mp ha;rw[Ju.mp hb];exact rv j a (G.all j a (by simpa using hj))
  ·by_cases hj:j<i
   ·rw[QeB ⋯] at e;exact Fd.keepP _ _ _ _ (G.all j u (by rw[Jx ⋯];exact e)) k2
   ·have Ky:j=i:=by
     have:=(U2.mp e).1;rw[QaX] at this;lia
    subst Ky;have e':(acc.push v)[acc.size]? = some u:=by rw[sz];exact e
    rw[Qen] at e';cases e';exact Fd.keepP _ _ _ _ pv fun b o nb q=>other b o (fun z=>nb (.inr z)) q
end
section
variable {prog:YZ}{w:Zb}{K:Type}[DecidableEq K]{knd:KeyKind prog w K}
abbrev lT (knd:KeyKind prog w K)(it S:Gc)(kvs:List (K×Fk))(j:Nat)(v:Fk)(h:Heap):Prop:=∃a k key val,v = .ref a/\S<a/\it<a/\kvs[j]? = some (k,val)/\knd.is k key=true/\a<h.objs.size/\h.get? a=some { cls := .type "tuple",data := .seq #[key,val] }
def xh {it d S:Gc}{kvs:List (K×Fk)}{ep:Nat}(hh:A.handled=none)(n1:it≠S)(n2:d≠it)(n3:d≠S):
  Eu prog w A it S (· = it) kvs.length (lT knd it S kvs) j4 (fun i h=>y9 h S it d i kvs.length ep/\h.DictAt knd d kvs ep) where
 sfp:=fun z=>n1 z.symm
 item:=fun i s Q E hi st hS q=>by
  obtain⟨st,hm⟩:=st;refine xS st hS hm (Jc hi) fun key h' hk st' t' z' k' =>?_;refine q _ h' s.toks (fun b o nb x=>k' b o nb x) ⟨st',?_⟩ ⟨_,_,key,_,rfl,hS,(by obtain⟨⟨_,_,_,_,e,_⟩⟩:=st;exact Jf e),Jc hi,hk,by rw[z'];exact Wd _,t'⟩ fun j u hu =>?_
  ·obtain⟨o,es,ho,r⟩:=hm;exact⟨o,es,k' _ _ n2 ho,r⟩
  ·refine aj.el (hu) _ ?_;rintro a _ _ _ rfl _ _ _ _ ha _;exact⟨a,_,rfl,rfl,ha⟩
 stop:=fun s Q E st hS q=>by
  obtain⟨st,hm⟩:=st;exact xq hh st hm (Qe4 (Je _)) fun h' kb=>q h' s.toks fun b o nb x=>kb b o nb x
 keepS:=fun i h h' st k=>by
  obtain⟨⟨⟨x0,f,ok,ov,e,hx⟩⟩,⟨o,es,ho,r⟩⟩:=st;exact⟨⟨x0,f,ok,ov,k _ _ n1 e,hx.imp id fun⟨a,oa,h1,h2,h3,h4⟩=>⟨a,oa,h1,k _ _ h4 h2,h3,h4⟩⟩,⟨o,es,k _ _ n3 ho,r⟩⟩
 keepP:=fun j v h h' p k=>by
  refine aj.el (p) _ ?_;rintro a kk key val h1 h2 h3 h4 h5 h6 h7;have z:=k a _ (fun z=>z.elim (fun z=>Uh _ (z▸h3)) fun z=>Uh _ (z▸h2)) h7;exact⟨a,kk,key,val,h1,h2,h3,h4,h5,Jf z,z⟩
def AO:isSubtype (.type "dict_items") (.type "dict_items")=pure true:=rfl
def wV {S vw d:Gc}{kvs:List (K×Fk)}{ep:Nat}(hh:A.in1.handled=none){s:Wp}{Z:QaU->Wp->Prop}{res:Fk}{c₀:Nat}(hv:s.heap.IsItemsView vw d)(hm:s.heap.DictAt knd d kvs ep)(hn:kvs.length<=KE)
  (QD:vw≠S) (QK:d≠S) (hS:s.heap.get? S=some { cls := .type "list",data := .seq #[] c₀ })
  (fin:∀h' tk acc c,Keeps s.heap h' (· = S)->nP h' S kvs.length (lT knd s.heap.objs.size S kvs) j4 acc c->Z (.ok (.ret res)) { s with heap:=h',toks:=tk }) :
  YX (YW prog w) A.in1 (Z8 (.ref S) (.ref vw) res) (qh prog w A Z) (fun e s'=>Z (.error e) s') s:=by
 have vZ:Z2 (.ref S) (.ref vw)=false:=by simp[Z2,Zx QD]
 refine be (ZV hv.typeIs ?_);simp only[vZ,if_false];refine be (wpAny_pyIter_items hv hm ?_);obtain⟨h1,eh1⟩:∃h1,h1=s.heap.push { cls := .type "dict_itemiterator",data := .fields #[.none,.bool false,.ref d,.int 0 0,.int kvs.length 0,.int ep 0,.none,.none] }:=⟨_,rfl⟩
 have k1:∀b o,s.heap.get? b=some o->h1.get? b=some o:=fun b o x=>by rw[eh1];exact Jb _ x
 rw[<-eh1];have CP:ZY { s with heap:=h1 } (.ref vw) "dict_items":=by
  obtain⟨o,ho,hc,_⟩:=hv;exact⟨o,k1 _ _ ho,hc⟩
 have hint:∀Q,Q false { s with heap:=h1 } -> YX (YW prog w) A.in1 (Qay (.ref vw)) Q (fun e s'=>Z (.error e) s') { s with heap:=h1 }:=fun Q q=>by
  exact be (QbG CP F.slot_dict_items_len.lookup (be (ZC CP AO (Qai (fun z=>absurd z ∅) fun _=>Qai (fun _=>(be (ZV CP (tz q)))) fun z=>absurd (show _=true by decide +kernel) z))))
 refine be (Zf (hint _ ?_));have m8:=k1 _ _ hS;have go:∀h c tk,Keeps h1 h (· = S)->h.get? S=some { cls := .type "list",data := .seq #[] c } -> ZW (YW prog w) A (.builtin "list.extend.loop" ⟨[.ref S,.ref s.heap.objs.size,res],[]⟩) Z { s with heap:=h,toks:=tk }:=
  fun h c tk k o=>by
   have Fd:=xh (knd:=knd) (kvs:=kvs) (ep:=ep) hh (Ul (Jf hS)) (Jl hm.lt_size) QK;obtain⟨od,es,ho,r⟩:=hm;refine kN Fd hn (fun h' tk acc c k' G=>fin h' tk acc c (fun b o nb q=>k' b o (fun z=>z.elim (fun z=>Uh _ (z▸Jf q)) nb) (k1 b o q)) G) kvs.length 0 h tk #[] c ⋯ (Fd.keepS _ _ _ ⟨⟨.none,false,.none,.none,by rw[eh1];exact Jh _ rfl,.inl rfl⟩,od,es,k1 _ _ ho,r⟩ k) ⟨o,rfl,.nil,fun j v e=>by simp at e⟩ fun b o nb q=>k b o (fun z=>nb (.inr z)) q
 refine Qai (fun _=>(be (Qah (be ?_)))) fun z=>absurd (show _=true by decide +kernel) z;have o1:=J2 (ZF (·.push Qbe)) m8 rfl;refine be (Z5 m8 rfl (Z5 o1 rfl (tz ⟨ZU Z1 _,go _ _ _ (fun b o nb q =>?_) (J2 (ZF (·.pop)) o1 rfl)⟩)));exact(J3 _ _ (Zx nb)).trans ((J3 _ _ (Zx nb)).trans q)
def AV {S vw d:Gc}{kvs:List (K×Fk)}{ep:Nat}(hh:A.in1.handled=none){s:Wp}{Z:QaU->Wp->Prop}(hv:s.heap.IsItemsView vw d)(hm:s.heap.DictAt knd d kvs ep)(hn:kvs.length<=KE)
  (QD:vw≠S) (QK:d≠S) (hS:s.heap.get? S=some { cls := .type "list",data := .seq #[] })
  (fin:∀h' tk acc c,Keeps s.heap h' (· = S)->nP h' S kvs.length (lT knd s.heap.objs.size S kvs) j4 acc c->Z (.ok (.ret .none)) { s with heap:=h',toks:=tk }) :
  YX (YW prog w) A.in1 (Builtin.«list.__init__» ⟨[.ref S,.ref vw],[]⟩) (qh prog w A Z) (fun e s'=>Z (.error e) s') s:=by
 refine be (be (Zq hS rfl (tz ?_)));have k1:Keeps s.heap (s.heap.update S (ZF (fun _=>(#[]:Array Fk)))) (· = S):=fun b o nb q=>(J3 _ _ (Zx nb)).trans q;refine be (Z5 hS rfl (be (Qba ?_)));have hz:(s.heap.update S (ZF (fun _=>(#[]:Array Fk)))).objs.size=s.heap.objs.size:=Heap.size_update ..;obtain⟨ov,hov,c1,c2⟩:=hv;obtain⟨od,es,ho,r⟩:=hm;refine wV hh ⟨ov,k1 _ _ QD hov,c1,c2⟩ ⟨od,es,k1 _ _ QK ho,r⟩ hn QD QK (J2 (ZF (fun _=>(#[]:Array Fk))) hS rfl) fun h' tk acc c k G =>?_;refine fin h' tk acc c (fun b o nb q=>k b o nb (k1 b o nb q)) ?_;rw[hz.symm];exact G
def CA {vw d:Gc}{kvs:List (K×Fk)}{ep:Nat}(hh:A.handled=none){s:Wp}{Q:Fk->Wp->Prop}(hv:s.heap.IsItemsView vw d)(hm:s.heap.DictAt knd d kvs ep)(hn:kvs.length<=KE)
  (fin:∀h' tk acc c,(∀b o,s.heap.get? b=some o->h'.get? b=some o)->nP h' s.heap.objs.size kvs.length (lT knd (s.heap.objs.size+1) s.heap.objs.size kvs) j4 acc c->Q (.ref s.heap.objs.size) { s with heap:=h',toks:=tk }) :
  YX (YW prog w) A (call (.type "list") [.ref vw]) Q E s:=by
 refine QbZ (Q₁:=fun obj s₁=>obj = .ref s.heap.objs.size/\s₁={ s with heap:=s.heap.push { cls := .type "list",data := .seq #[] } }) F.called_list (F.typeCall_list_1 _) F.entry_list_init
  (code_list_new _ ⟨rfl,rfl⟩) fun obj s₁ h₁ =>?_
 obtain⟨rfl,rfl⟩:=h₁;have hS:(s.heap.push { cls := .type "list",data := .seq #[] }).get? s.heap.objs.size=some { cls := .type "list",data := .seq #[] }:=Jh _ rfl;obtain⟨ov,hov,c1,c2⟩:=hv;obtain⟨od,es,ho,r⟩:=hm;refine⟨⟨_,hS,rfl⟩,F.args_list_init_2 _ _,AV (A:=A.in1) hh ⟨ov,Jb _ hov,c1,c2⟩ ⟨od,es,Jb _ ho,r⟩ hn (Jl (Jf hov)) (Jl (Jf ho)) hS fun h' tk acc c k G=>⟨rfl,fin h' tk acc c (fun b o q =>?_) ?_⟩⟩
 ·exact k b o (Jl (Jf q)) (Jb _ q)
 ·have e:(s.heap.push { cls := .type "list",data := .seq #[] }).objs.size=s.heap.objs.size+1:=Uc ..;rw[<-e];exact G
end
def PJ (h:(bC P w).is k u=true):RelV (kV k) u:=by
 cases k with
 | inl i=>exact QbO h
 | inr x=>exact QcF h
def PD (r:KV kvs vs):∀{j:Nat} {k:Key} {u:Fk},vs[j]? = some (k,u)->∃v,kvs[j]? = some (k,v)/\RelV v u:=by
 induction r with
 | nil=>intro j k u h;simp at h
 | @cons p q ps qs h t ih=>
  intro j k u e;cases j with
  | zero=>
   cases e;have h1:p.1=k:=h.1;exact⟨p.2,by rw[<-h1];rfl,h.2⟩
  | succ j=>exact ih e
section
variable {X:Cx}
def WQ (to:TE):TE:=fun σ H Q=>to σ H fun x H1=>∃a kvs,x = .ref a/\H1 a=some (.dK kvs) /\
 ∀H' p (as:List Gc),ar H1 H'->H1 p=none->H' p=some (.lst (as.map V.ref))->as.length=kvs.length ->
  (∀(j:Nat) b k v,as[j]? = some b->kvs[j]? = some (k,v)->H1 b=none/\H' b=some (.tup [kV k,v]))->Q (.ref p) H'
def CI {p pos apos eF:Pos}(hc:X.calm=true)(Kj:Gl X "list")(KG:X.mg "list" = none)(ho:PE X o to)
  (ER:ZO "list" = some (.type "list"):=by first|rfl|decide)
  (LH:Ze [.Call (.Attribute o "items" apos) [] [] eF] X.env=[(false,ZM (.Call (.Attribute o "items" apos) [] [] eF) X.env)]:=by rfl)
  (wo:QaK o "items" X.env (ZM o X.env)=ZM o X.env:=by rfl) (vW:(apos.endLine==eF.line)=true:=by rfl) :
  PE X (.Call (.Name "list" p) [.Call (.Attribute o "items" apos) [] [] eF] [] pos) (WQ to):=by
 refine fun pins s σ H Q I h=>ZK (eZ I Kj KG ER (Zl (Qak (wpAny_Call_method0_late wo vW (bb (ho s σ H _ I h) fun v s1 ⟨x,H1,I1,r1,q1⟩=>(aj.el (q1) _ ?_)))) LH rfl));rintro a kvs rfl ea q;cases r1;obtain⟨h1,h2⟩:=EF I1 (x := .ref a) rfl (show Qy X.K "dict" (.ref a) H1 from .inr (.inr (.inl ⟨rfl,.inl ⟨kvs,ea⟩⟩)));refine aj.el (Aa I1.bq ea) _ ?_;rintro hz hsm vs rel dd;refine⟨"dict", "dict.items",Qd0,QdY,PySem.F.type_dict_items,h1,h2,Qca rfl (PySem.evalArgs_none (call_meetsIn QdY h1 PySem.F.entry_dict_items (PySem.F.args_dict_items_1 _) (meets_dict_items (bC X.prog X.w) a hsm) ⟨⟨vs,dd⟩,(QaG ?_)⟩))⟩;obtain⟨ep,dat⟩:=dd.dictAt;obtain⟨hp,ehp⟩:∃hp,hp=s1.heap.push { cls := .type "dict_items",data := .fields #[.ref a] }:=⟨_,rfl⟩
 have hk:∀b o,s1.heap.get? b=some o->hp.get? b=some o:=fun b o x=>by rw[ehp];exact Jb _ x
 have hsz:hp.objs.size=s1.heap.objs.size+1:=by rw[ehp,Uc]
 have sF:s1.heap.objs.size<=hp.objs.size:=by rw[hsz];exact Yu _
 rw[<-ehp];have rl:=rel.length;refine CA (I.ok.hd hc) ⟨_,by rw[ehp];exact Jh _ rfl,rfl,rfl⟩ (dat.keep hk) (by rw[<-rl];exact hz) fun h' tk acc c Lf G =>?_;obtain⟨gob,gsz,gpw,gall⟩:=G;obtain⟨as,ic⟩:=oJ (l:=acc.toList) fun v hv=>by
  obtain⟨j,hj⟩:=J4.mp hv;obtain⟨b,_,_,_,e,_⟩:=gall j v (by simpa using hj);exact⟨b,e⟩
 have jW:∀j b,as[j]? = some b->∃k key val,hp.objs.size<b/\vs[j]? = some (k,val)/\(bC X.prog X.w).is k key=true/\h'.get? b=some { cls := .type "tuple",data := .seq #[key,val] }:=fun j b hb=>by
  obtain⟨b',k,key,val,e,g1,_,g3,g4,_,g6⟩:=gall j (.ref b) (by
   have:acc.toList[j]? = some (.ref b):=by rw[ic,Jk,hb];rfl
   simpa using this)
  cases e;exact⟨k,key,val,g1,g3,g4,g6⟩
 have above:∀b∈as,hp.objs.size<b:=fun b hb=>by
  obtain⟨j,hj⟩:=J4.mp hb;obtain⟨_,_,_,g,_⟩:=jW j b hj;exact g
 have I2:Inv X pins σ H1 { s1 with heap:=h',toks:=tk }:=I1.kept fun b o e=>Lf b o (hk b o e);have rX:=fun b hb=>Yh (J7 sF (above b hb));have nd:as.Nodup:=by
  rw[ic,Qc7] at gpw;exact gpw.imp fun⟨a,b,e1,e2,h⟩=>by cases e1;cases e2;exact Jl h
 have fu:∀b,s1.heap.objs.size<=b->gz X pins H1 b/\X.s₀.heap.objs.size<=b:=fun b hb=>⟨I1.fu hb (I1.bq.fresh hb),Jg I1.sz hb⟩
 have CV:as.length=kvs.length:=by
  have z:acc.toList.length=as.length:=by rw[ic,Jd]
  simp at z gsz;lia
 obtain⟨H',I',sm,same,all⟩:=I2.mz as (kvs.map fun q=>[kV q.1,q.2]) nd (by rw[Jd];exact CV) (fun b hb=>fu b (rX b hb)) (fun j b pp g1 g2=>by
  refine aj.el (jW j b g1) _ ?_;rintro k key val _ c1 c2 c3;refine aj.el (PD rel c1) _ ?_;rintro v c4 c5;rw[Jk,c4] at g2;cases g2;exact⟨by show 2<=KE;decide,[key,val],.cons (PJ c2) (.cons c5 .nil),⟨_,c3,rfl,rfl,_,rfl⟩⟩)
 have Fx:=fun hm=>Uh _ (above _ hm);have m8:=I1.bq.fresh sF;obtain⟨fS,sS⟩:=fu hp.objs.size sF;have I3:=I'.adopt (o := .lst (as.map V.ref)) ⟨by rw[same _ Fx];exact m8,fS.2⟩ sS ⟨by rw[Jd];lia,acc.toList,c,by
  rw[ic];clear gob ic all same I' sm rX nd CV Fx above jW
  induction as with
  | nil=>exact .nil
  | cons a r ih=>exact .cons rfl ih,by simpa using gob⟩
 refine⟨.ref hp.objs.size,_,I3,rfl,q _ _ as (fun b o e =>?_) m8 av CV fun j b k v g1 g2=>⟨(fu b (rX b (Jy g1))).1.1,?_⟩⟩
 ·rw[au (aH e m8)];exact sm b o e
 ·rw[au (fun z=>Fx (by rw[<-z];exact Jy g1))];exact all j b [kV k,v] g1 (by rw[Jk,g2];rfl)
end
def fK:Slot "set_iterator" "__next__" "set_iterator.__next__":=by
 refine .of (owner := "set_iterator") (n := "__next__") ?_ ?_ ?_ ?_ ?_ ?_
 ·rw[QbI,QaN];kernel_rfl
 ·decide +kernel
 ·decide +kernel
 ·decide +kernel
 ·first
   | exact .inl ∅
   | exact .inr ∅
 ·rw[isSubtype_type];kernel_rfl
def lX:entryFor table "set_iterator.__next__" = some Builtin.«set_iterator.__next__»:=entryFor_of_fast (by kernel_rfl)
def nH (a:Fk):argsOk "set_iterator.__next__" ⟨[a],[]⟩:=by
 unfold argsOk;rw[signature?_of (id := "set_iterator.__next__") (n := "__txen__".toList) (o := "rotareti_tes".toList) (rows:=Manifest.sig_set_iterator) (by kernel_rfl) (by kernel_rfl)]
 kernel_rfl
def oZ:entryFor table "set.__iter__" = some Builtin.«frozenset.__iter__»:=entryFor_alias (id' := "frozenset.__iter__") (by kernel_rfl) rfl ∅ (by kernel_rfl)
def fh {α:Type}:∀{l:List α} {i:Nat} (h:i<l.length),U7 (l[i]::l.eraseIdx i) l
 | x::l,0,h=>U7.refl _
 | x::l,i+1,h=>by
  rw[List.eraseIdx_cons_succ,List.getElem_cons_succ];exact(U7.swap _ _ _).trans ((fh (Nat.lt_of_succ_lt_succ h)).cons x)
def zk {α:Type}(next:Nat->Nat):∀(n k:Nat) (left:List α) (out:Array α),left.length=n->U7 (QdE next n k left out).toList (out.toList++left)
 | 0,k,left,out,h=>by
  unfold QdE;rw[Uy h,Uu]
 | n+1,k,left,out,h=>by
  unfold QdE;have hp:next k%left.length<left.length:=Nat.mod_lt _ ⋯;rw[Jc hp];dsimp only;refine(zk next n (k+1) _ _ (by rw[QcC,if_pos hp];lia)).trans ?_;rw[Qa3,Y4];refine U7.append_left _ ?_;rw[List.singleton_append];exact fh hp
def Ci {α:Type}(next:Nat->Nat)(xs:Array α):U7 (Qcu next xs).toList xs.toList:=zk next _ 0 _ #[] rfl
def yO {M:Model}{A:Zs}{E:Fk->Wp->Prop}{α:Type}:∀(n:Nat) (xs:List α) (s:Wp) (Q:List α->Wp->Prop),xs.length=n ->
  (∀ys d,U7 ys xs->Q ys { s with drawn:=d })->YX M A (drawOrder n xs) Q E s:=by
 intro n
 induction n with
 | zero=>
  intro xs s Q h q;unfold drawOrder;exact tz (q [] s.drawn (by rw[Uy h]))
 | succ n ih=>
  intro xs s Q h q;cases xs with
  | nil=>cases h
  | cons x xs=>
   unfold drawOrder;refine be (fun Γ p hΓ =>?_);unfold choose;rw[Sem.wp_choose];refine⟨by simp,?_⟩;have hp:M.w.draws .order (s.drawn.get .order)%(x::xs).length<(x::xs).length:=Nat.mod_lt _ (by simp);generalize M.w.draws .order (s.drawn.get .order)%(x::xs).length=i at hp ⊢;rw[Sem.wp_pure];dsimp only;rw[Jc hp];refine be (ih _ _ _ (by rw[QcC,if_pos hp];lia) fun ys d hy=>tz (q _ d ?_));exact(hy.cons _).trans (fh hp)
def Mz (w:Zb):Bool:=w.params.followText "set-order"
inductive Fl (w:Zb)(a:Gc)(es:Array (Int×Fk))(ep:Nat)(t:QbA)(lo i:Nat)(h:Heap)(it:Gc):Fk->List Fk->Prop
 | text (b:Mz w=true):Fl w a es ep t lo i h it (.int 0 0) ((Qcu (w.params.setOrder a ep) es).toList.map (·.2))
 | places (b:Mz w=false) (d:(!t.plain&&decide (es.size>1))=false) (l:t.led=true) (z:Nat) (c:Cut t.place z i):Fl w a es ep t lo i h it (.int (z:Int) 0) (es.toList.map (·.2))
 | drawn (ys:List Nat) (p:U7 ys (Qbg es.size)) (tp:Gc) (low:lo<=tp) (ne:tp≠it) (o:Obj) (n:Nat) (e:h.get? tp=some o) (d:o.data = .seq (ys.map fun(k:Nat)=>ZT k).toArray n):Fl w a es ep t lo i h it (.ref tp) (ys.map fun k=>(es.toList.map (·.2)).getD k .none)
structure II (w:Zb)(a:Gc)(es:Array (Int×Fk))(ep:Nat)(t:QbA)(lo:Nat)(vals:List Fk)(it:Gc)(i:Nat)(h:Heap):Prop where
 set:∃o,h.get? a=some o/\o.data = .set es ep t
 fit:t.fits es.size=true
 good:dE t
 ne:a≠it
 low:lo<=it
 ex:∃first,Fl w a es ep t lo i h it first vals/\h.get? it=some { cls := .type "set_iterator",data := .fields #[first,.int i 0,.ref a,.int es.size 0,.int ep 0] }
def II.keep {w:Zb}{a:Gc}{es:Array (Int×Fk)}{ep:Nat}{t:QbA}{lo:Nat}{vals:List Fk}{it:Gc}{i:Nat}{h h':Heap}(x:II w a es ep t lo vals it i h)(k:∀b o,h.get? b=some o->(b=a\/lo<=b)->h'.get? b=some o):II w a es ep t lo vals it i h':=by
 obtain⟨⟨o,e1,e2⟩,ft,g,ne,low,first,so,e3⟩:=x;refine⟨⟨o,k _ _ e1 (.inl rfl),e2⟩,ft,g,ne,low,first,?_,k _ _ e3 (.inr low)⟩;cases so with
 | text b=>exact .text b
 | places b d l z c=>exact .places b d l z c
 | drawn ys p tp tl ne o n e d=>exact .drawn ys p tp tl ne o n (k _ _ e (.inr tl)) d
section
variable {prog:YZ}{w:Zb}{A:Zs}{E:Fk->Wp->Prop}{s:Wp}{a:Gc}{es:Array (Int×Fk)}{ep:Nat}{t:QbA}{o:Obj}{lo:Nat}
def Dr {Q:Fk->Wp->Prop}(ho:s.heap.get? a=some o)(hx:o.ExactSet)(hd:o.data = .set es ep t)(hf:t.fits es.size=true)(g:dE t)(l:Mz w=false->t.led=true)(hz:es.size<=KE)
  (fin:∀it h' d vals,vals.length=es.size->U7 vals (es.toList.map (·.2))->s.heap.objs.size<=it->(∀b o,s.heap.get? b=some o->h'.get? b=some o)->II w a es ep t s.heap.objs.size vals it 0 h'->Q (.ref it) { s with heap:=h',drawn:=d }) :
  YX (YW prog w) A (Qd9 (.ref a)) Q E s:=by
 have hT:s.TypeIs (.ref a) "set":=⟨o,ho,hx.1⟩
 have low:a<s.heap.objs.size:=Jf ho;refine wpAny_pyIter_slot hT F.slot_set_iter (Zm F.slot_set_iter hT oZ ?_ (F.args_set_iter_1 _));unfold Builtin.«frozenset.__iter__» Builtin.Frozenset.slot0 slotArgs QcG Builtin.Frozenset.sizeOf setEntries setDrawn setEpoch QeP;simp -iota only [Qb7,Qey,Yx, ↓reduceIte,bind_assoc,Yk,bne_self_eq_false];dsimp only
 try simp -iota only [bind_assoc,Yx, ↓reduceIte]
 refine be (tz (be (tz (be (ZI ho hd hf (be (tz (be (tz (be (ZI ho hd hf ?_)))))))))));refine be (Qaa (be (tz (be (tz ?_)))));have last:∀(s1:Wp) (d:Drawn) (first:Fk) (vals:List Fk),s1.drawn=d->s1.gens=s.gens->s1.toks=s.toks->s1.os=s.os->(∀b o,s.heap.get? b=some o->s1.heap.get? b=some o)->s.heap.objs.size<=s1.heap.objs.size->vals.length=es.size->U7 vals (es.toList.map (·.2)) ->
   (∀h' it,s1.heap.objs.size<=it->(∀b o,s1.heap.get? b=some o->h'.get? b=some o)->Fl w a es ep t s.heap.objs.size 0 h' it first vals) ->
   YX (YW prog w) A.in1 (do
    let x <-setState a
    let y <-pure x.2.1
    let z <-newFields "set_iterator" [first,ZT 0,.ref a,ZT es.size,ZT y]
    ret z) (fun fin s'=>∃v,fin = .done (.ret v)/\∃T' r,s'.TypeIs v T'/\Qar (.type T') (W1 "__next__")=pure (some r)/\Q v s') E s1:=by
  intro s1 d first vals e1 e2 e3 e4 k1 z1 hl hp so
  refine be (ZI (k1 _ _ ho) hd hf (be (tz ?_)));unfold newFields;refine be (ZJ (tz ?_));refine⟨_,rfl, "set_iterator",_,⟨_,Jh _ rfl,rfl⟩,fK.lookup,?_⟩;have k2:∀b o,s1.heap.get? b=some o->(s1.heap.push { cls := .type "set_iterator",data := .fields [first,ZT 0,.ref a,ZT es.size,ZT ep].toArray }).get? b=some o:=fun b o x=>Jb _ x;have q:=fin s1.heap.objs.size (s1.heap.push { cls := .type "set_iterator",data := .fields [first,ZT 0,.ref a,ZT es.size,ZT ep].toArray }) d vals hl hp z1 (fun b o x=>k2 b o (k1 b o x)) ⟨⟨o,k2 _ _ (k1 _ _ ho),hd⟩,hf,g,Jl (Jw low z1),z1,first,so _ _ (Je _) k2,Jh _ rfl⟩;subst e1;rw[<-e2,<-e3,<-e4] at q;exact q
 have lv:(es.toList.map (·.2)).length=es.size:=by rw[Jd,Ue]
 cases hb:Mz w with
 | true=>
  have uF:w.params.followText "set-order" = true:=hb;refine Qan ?_;rw[if_neg (by show ¬((!w.params.followText "set-order" && _)=true);rw[uF];exact Jr)];refine be (tz ?_);have pm:=Ci (w.params.setOrder a ep) es;exact last s s.drawn _ _ rfl rfl rfl rfl (fun _ _ x=>x) (Je _) (by rw[Jd,pm.length_eq,Ue]) (pm.map _) fun h' it _ _ =>.text hb
 | false=>
  have uF:w.params.followText "set-order" = false:=hb;refine Qan ?_;cases hc:(!t.plain&&decide (es.size>1)) with
  | false=>
   rw[if_neg (by show ¬((!w.params.followText "set-order" && (!t.plain&&decide (es.size>1)))=true);rw[uF,hc];exact Jr)];refine be (tz ?_);exact last s s.drawn _ _ rfl rfl rfl rfl (fun _ _ x=>x) (Je _) lv (U7.refl _) fun h' it _ _ =>.places hb hc (l hb) 0 ⟨Uq _,fun i _ z=>absurd z (Wb _),fun i _ _=>Uq _⟩
  | true=>
   rw[if_pos (by show(!w.params.followText "set-order" && (!t.plain&&decide (es.size>1)))=true;rw[uF,hc];rfl)];refine be (yO _ _ _ _ QbT fun ys d hy =>?_);have Na:ys.length=es.size:=by rw[hy.length_eq,QbT]
   refine be (Qbi ?_ (by rw[Jd,Na];exact hz));have rm:U7 (ys.map fun k=>(es.toList.map (·.2)).getD k .none) (es.toList.map (·.2)):=by
    refine(hy.map _).trans ?_;have:(Qbg es.size).map (fun k=>(es.toList.map (·.2)).getD k .none)=es.toList.map (·.2):=by
     refine List.ext_getElem (by rw[Jd,QbT,lv]) fun i h1 h2 =>?_;rw[Yy,List.getElem_range,Ys,Jc h2];rfl
    rw[this]
   refine last { s with heap:=s.heap.push { cls := .type "tuple",data := .seq (ys.map fun(i:Nat)=>ZT i).toArray },drawn:=d } d _ _ rfl rfl rfl rfl (fun b o x=>Jb _ x) (by show _<=(s.heap.push _).objs.size;rw[Uc];exact Yu _) (by rw[Jd,Na]) rm fun h' it wJ k' =>?_;refine .drawn ys hy _ (Je _) ?_ _ 0 (k' _ _ (Jh _ rfl)) rfl;have wJ:(s.heap.push { cls := .type "tuple",data := .seq (ys.map fun(i:Nat)=>ZT i).toArray }).objs.size<=it:=wJ;rw[Uc] at wJ;exact Jl wJ
def sM {Q:Array (Int×Fk)->Wp->Prop}(b:Mz w=true)(ho:s.heap.get? a=some o)(hd:o.data = .set es ep t)(hf:t.fits es.size=true)(q:Q (Qcu (w.params.setOrder a ep) es) s):YX (YW prog w) A (setWalk a) Q E s:=by
 unfold setWalk QeP;have b':w.params.followText "set-order" = true:=b;refine be (ZI ho hd hf (be (be (Qaa (tz ?_)))));refine Qan ?_;rw[if_pos (show({ program:=(YW prog w).prog,params:=(YW prog w).w.params }:Setting).params.followText "set-order" = true from b')];exact be (Qaa (tz q))
def Dz {vals:List Fk}{it:Gc}{i:Nat}{v:Fk}{Q:Option Fk->Wp->Prop}(st:II w a es ep t lo vals it i s.heap)(hv:vals[i]? = some v)
  (fin:∀h',(∀b o,b≠it->s.heap.get? b=some o->h'.get? b=some o)->h'.objs.size=s.heap.objs.size->II w a es ep t lo vals it (i+1) h'->Q (some v) { s with heap:=h' }) :
  YX (YW prog w) A (QaM (.ref it)) Q E s:=by
 obtain⟨⟨o,ho,hd⟩,hf,g,ne,low,first,so,e⟩:=st;have hT:s.TypeIs (.ref it) "set_iterator":=⟨_,e,rfl⟩
 refine be (ZN (Zj (name:=W1 "__next__") hT fK (Zm fK hT lX ?_ (nH _))));unfold Builtin.«set_iterator.__next__» slotArgs setEntries setNext QeP;simp -iota only [Qb7,Qey,Yx, ↓reduceIte,bind_assoc,Yk,bne_self_eq_false];dsimp only
 try simp -iota only [bind_assoc,Yx, ↓reduceIte]
 refine be (tz (be (QcZ e rfl ?_)));dsimp only;refine be (ZI ho hd hf (be (tz ?_)));refine Qan ?_;rw[if_neg (by simp)];cases so with
 | text b=>
  have b':w.params.followText "set-order" = true:=b;refine be (ZI ho hd hf (be (Qaa (be (tz ?_)))));refine be (Qan ?_);rw[if_pos (show({ program:=(YW prog w).prog,params:=(YW prog w).w.params }:Setting).params.followText "set-order" = true from b')];refine Qan ?_;rw[if_neg (by simp)];refine be (sM b ho hd hf (tz ?_));have hx:((Qcu (w.params.setOrder a ep) es)[(i:Int).toNat]?).map (fun e=>(e.2,(0:Int).toNat))=some (v,0):=by
   rw[Uw,<-Uz];rw[Jk] at hv;cases q:(Qcu (w.params.setOrder a ep) es).toList[i]? with
   | none=>rw[q] at hv;cases hv
   | some y=>rw[q] at hv;cases hv;rfl
  rw[hx];refine be (Zd e (by simp) fun h1 e1 s1=>be (Zd (s:={ s with heap:=h1 }) e1 (by simp) fun h2 e2 s2 =>?_));refine tz ⟨_,rfl,tz (fin h2 (fun b o nb x=>s2.extBut b o nb (s1.extBut b o nb x)) (s2.1.trans s1.1) ⟨⟨o,s2.extBut _ _ ne (s1.extBut _ _ ne ho),hd⟩,hf,g,ne,low,_,.text b,?_⟩)⟩;simpa [ZT] using e2
 | places b d l z c=>
  have b':w.params.followText "set-order" = false:=b;have W8:t.place.size=es.size:=by
   have:=hf;simp only[SetTable.fits,Js,beq_iff_eq] at this;exact this.1
  have hi:i<es.size:=by
   have:=(Ji.mp hv).1;rwa[Jd,Ue] at this
  refine be (ZI ho hd hf (be (Qaa (be (tz ?_)))));refine be (Qan ?_);rw[if_neg (by show ¬(w.params.followText "set-order" = true);rw[b'];exact Jr)];refine Qan ?_;rw[if_neg (by show ¬((!t.plain&&decide (es.size>1))=true);rw[d];exact Jr)];refine be ?_;show YX _ _ (if (!t.led && !es.isEmpty)=true then Qeo "set:maker-not-led" else pure ()) _ _ _;rw[l];refine tz ?_;have ER:ZG t.place ((z:Int)).toNat=i:=by
   rw[Uw];have c2:=iP g.2 z;have h1:¬ZG t.place z<i:=fun q=>by
    have hs:ZG t.place z<t.place.size:=by lia
    have:=c2.hi _ hs (Je _);have:=c.lo _ hs q;lia
   have h2:¬i<ZG t.place z:=fun q=>by
    have hs:i<t.place.size:=by lia
    have:=c2.lo _ hs q;have:=c.hi _ hs (Je _);lia
   lia
  refine tz ?_;dsimp only;rw[ER,Jx hi,Jx (show i<t.place.size by lia)];have QN:es[i].2=v:=by
   rw[Jk,Uz,Jx hi] at hv
   injection hv
  dsimp only;rw[QN];refine be (Zd e (by simp) fun h1 e1 s1=>be (Zd (s:={ s with heap:=h1 }) e1 (by simp) fun h2 e2 s2 =>?_));refine tz ⟨_,rfl,tz (fin h2 (fun b o nb x=>s2.extBut b o nb (s1.extBut b o nb x)) (s2.1.trans s1.1) ⟨⟨o,s2.extBut _ _ ne (s1.extBut _ _ ne ho),hd⟩,hf,g,ne,low,_,.places b d l (t.place[i]+1) ?_,?_⟩)⟩
  ·have c3:=iP g.2 (t.place[i]+1);rw[Cut.next g.2 ⋯ c3] at c3;exact c3
  ·simpa [ZT] using e2
 | drawn ys p tp tl nt ot n et dt=>
  dsimp only;unfold seqItems?;refine be (be (Qdq et ?_));rw[dt];refine tz ?_;dsimp only;rw[Jk] at hv;cases hy:ys[i]? with
  | none=>rw[hy] at hv;cases hv
  | some y=>
   rw[hy] at hv
   injection hv with hv
   have UK:y<es.size:=List.mem_range.mp (p.mem_iff.mp (Jy hy));have nY:(ys.map fun(k:Nat)=>ZT k).toArray[(i:Int).toNat]? = some (ZT y):=by
    rw[Uw,Qbf,Jk,hy];rfl
   rw[nY];have B4:es[y].2=v:=by
    rw[<-hv];dsimp only;rw[Ys,Jk,Uz,Jx UK];rfl
   show YX _ _ (setNextDrawn a ((y:Int)).toNat ((ep:Int)).toNat >>= _) _ _ _;rw[Uw,Uw];unfold setNextDrawn;refine be (be (ZI ho hd hf ?_));dsimp only;refine Qan ?_;rw[if_neg (by simp),Jx UK];refine tz ?_;show YX _ _ (setField (.ref it) 1 (ZT ((i:Int)+1)) >>= fun _=>ret es[y].2) _ _ _;rw[B4];refine be (Zd e (by simp) fun h1 e1 s1 =>?_);refine tz ⟨_,rfl,tz (fin h1 (fun b o nb x=>s1.extBut b o nb x) s1.1 ⟨⟨o,s1.extBut _ _ ne ho,hd⟩,hf,g,ne,low,_,.drawn ys p tp tl nt ot n (s1.extBut _ _ nt et) dt,?_⟩)⟩;simpa [ZT] using e1
def Ea {vals:List Fk}{it:Gc}{Q:Option Fk->Wp->Prop}(hh:A.handled=none)(st:II w a es ep t lo vals it es.size s.heap)(hl:vals.length=es.size)
  (fin:∀h',(∀b o,b≠it->s.heap.get? b=some o->h'.get? b=some o)->Q none { s with heap:=h' }) :
  YX (YW prog w) A (QaM (.ref it)) Q E s:=by
 obtain⟨⟨o,ho,hd⟩,hf,g,ne,low,first,so,e⟩:=st;have hT:s.TypeIs (.ref it) "set_iterator":=⟨_,e,rfl⟩
 refine be (ZN (Zj (name:=W1 "__next__") hT fK (Zm fK hT lX ?_ (nH _))));unfold Builtin.«set_iterator.__next__» slotArgs setEntries setNext QeP;simp -iota only [Qb7,Qey,Yx, ↓reduceIte,bind_assoc,Yk,bne_self_eq_false];dsimp only
 try simp -iota only [bind_assoc,Yx, ↓reduceIte]
 refine be (tz (be (QcZ e rfl ?_)));dsimp only;refine be (ZI ho hd hf (be (tz ?_)));refine Qan ?_;rw[if_neg (by simp)];cases so with
 | text b=>
  have b':w.params.followText "set-order" = true:=b;refine be (ZI ho hd hf (be (Qaa (be (tz ?_)))));refine be (Qan ?_);rw[if_pos (show({ program:=(YW prog w).prog,params:=(YW prog w).w.params }:Setting).params.followText "set-order" = true from b')];refine Qan ?_;rw[if_neg (by simp)];refine be (sM b ho hd hf (tz ?_));have hx:((Qcu (w.params.setOrder a ep) es)[(es.size:Int).toNat]?).map (fun e=>(e.2,(0:Int).toNat))=none:=by
   have:(Qcu (w.params.setOrder a ep) es).size=es.size:=by rw[<-hl,Jd,Ue]
   rw[Uw,Ur ⋯];rfl
  rw[hx];refine be (Zd e (by simp) fun h1 e1 s1 =>?_)
  wp_walk
  refine Z4 hh (be (ZC (T := "StopIteration") (b:=true) ⟨_,Jh _ rfl,rfl⟩ Qas (tz (fin _ fun b o nb x =>?_))));exact Jb _ (Jb _ (s1.extBut b o nb x))
 | places b d l z c=>
  have b':w.params.followText "set-order" = false:=b;have W8:t.place.size=es.size:=by
   have:=hf;simp only[SetTable.fits,Js,beq_iff_eq] at this;exact this.1
  refine be (ZI ho hd hf (be (Qaa (be (tz ?_)))));refine be (Qan ?_);rw[if_neg (by show ¬(w.params.followText "set-order" = true);rw[b'];exact Jr)];refine Qan ?_;rw[if_neg (by show ¬((!t.plain&&decide (es.size>1))=true);rw[d];exact Jr)];refine be ?_;show YX _ _ (if (!t.led && !es.isEmpty)=true then Qeo "set:maker-not-led" else pure ()) _ _ _;rw[l];refine tz ?_;have ER:es.size<=ZG t.place ((z:Int)).toNat:=by
   rw[Uw];have c2:=iP g.2 z;refine Nat.not_lt.mp fun q =>?_;have hs:ZG t.place z<t.place.size:=by lia
   have:=c2.hi _ hs (Je _);have:=c.lo _ hs q;lia
  refine tz ?_;dsimp only;rw[Ur ER];dsimp only;refine be (Zd e (by simp) fun h1 e1 s1 =>?_)
  wp_walk
  refine Z4 hh (be (ZC (T := "StopIteration") (b:=true) ⟨_,Jh _ rfl,rfl⟩ Qas (tz (fin _ fun b o nb x =>?_))));exact Jb _ (Jb _ (s1.extBut b o nb x))
 | drawn ys p tp tl nt ot n et dt=>
  dsimp only;unfold seqItems?;refine be (be (Qdq et ?_));rw[dt];refine tz ?_;dsimp only;have Na:ys.length=es.size:=by rw[p.length_eq,QbT]
  have nY:(ys.map fun(k:Nat)=>ZT k).toArray[(es.size:Int).toNat]? = none:=by
   rw[Uw,Ur (by rw[Jv,Jd,Na];exact Je _)]
  rw[nY];refine be (Zd e (by simp) fun h0 e0 s0=>be (Zd (s:={ s with heap:=h0 }) e0 (by simp) fun h1 e1 s1 =>?_))
  wp_walk
  refine Z4 hh (be (ZC (T := "StopIteration") (b:=true) ⟨_,Jh _ rfl,rfl⟩ Qas (tz (fin _ fun b o nb x =>?_))));exact Jb _ (Jb _ (s1.extBut b o nb (s0.extBut b o nb x)))
end
section
variable {prog:YZ}{w:Zb}{a:Gc}{es:Array (Int×Fk)}{ep:Nat}{t:QbA}{lo:Nat}
def Ez {A:Zs}{it S:Gc}{vals:List Fk}(hh:A.handled=none)(hl:vals.length=es.size)(n1:it≠S)(n2:a≠S)(hS:S<lo):
  Eu prog w A it S (· = it) es.size (fun i v _=>vals[i]? = some v) (fun _ _=>True) (fun i h=>II w a es ep t lo vals it i h) where
 sfp:=fun z=>n1 z.symm
 item:=fun i s Q E hi st _ q=>Dz st (v:=vals[i]) (Jc ⋯) fun h' k' z' st'=>q _ h' s.toks (fun b o nb x=>k' b o nb x) st' (Jc ⋯) fun _ _ _=>trivial
 stop:=fun s Q E st _ q=>Ea hh st hl fun h' k'=>q h' s.toks fun b o nb x=>k' b o nb x
 keepS:=fun i h h' st k=>st.keep fun b o e hb=>k b o (fun z=>by
  rcases hb with rfl|hb
  ·exact n2 z
  ·subst z;exact absurd hS (Nat.not_lt.mpr hb)) e
 keepP:=fun j v h h' p k=>p
def Iq:isSubtype (.type "set") (.type "set")=pure true:=by
 first|rfl|decide|(unfold isSubtype;rfl)
def yB {A:Zs}{S:Gc}{o:Obj}(hh:A.in1.handled=none){s:Wp}{Z:QaU->Wp->Prop}{res:Fk}{c0:Nat}(ho:s.heap.get? a=some o)(hx:o.ExactSet)(hd:o.data = .set es ep t)(hf:t.fits es.size=true)(g:dE t)(l:Mz w=false->t.led=true)(hz:es.size<=KE)
  (UC:a≠S) (hS:s.heap.get? S=some { cls := .type "list",data := .seq #[] c0 })
  (fin:∀h' tk d acc c vals,Keeps s.heap h' (· = S)->vals.length=es.size->U7 vals (es.toList.map (·.2))->nP h' S es.size (fun i v _=>vals[i]? = some v) (fun _ _=>True) acc c->Z (.ok (.ret res)) { s with heap:=h',toks:=tk,drawn:=d }) :
  YX (YW prog w) A.in1 (Z8 (.ref S) (.ref a) res) (qh prog w A Z) (fun e s'=>Z (.error e) s') s:=by
 have hT:s.TypeIs (.ref a) "set":=⟨o,ho,hx.1⟩
 have vZ:Z2 (.ref S) (.ref a)=false:=by simp[Z2,Zx UC]
 have low:=Jf hS;unfold Z8;refine be (ZV hT ?_);simp only[vZ,show(Z0 "set" == Z0 "list")=false by decide,show(Z0 "set" == Z0 "tuple")=false by decide,QcU,Yx,if_false];refine be (Dr ho hx hd hf g l hz fun it h1 d vals hl hp wJ k1 m5 =>?_);have CP:ZY { s with heap:=h1,drawn:=d } (.ref a) "set":=⟨o,k1 _ _ ho,hx.1⟩
 have hint:∀(Q:Bool->Wp->Prop),Q false { s with heap:=h1,drawn:=d } -> YX (YW prog w) A.in1 (Qay (.ref a)) Q (fun e s'=>Z (.error e) s') { s with heap:=h1,drawn:=d }:=fun Q q=>by
  unfold Qay;refine be (QbG CP F.slot_set_len.lookup ?_);refine be (ZC (T := "set") (b:=true) CP Iq ?_);refine Qai (fun z=>absurd z ∅) fun _=>Qai (fun _ =>?_) fun z=>absurd (show _=true by decide +kernel) z;exact be (ZV CP (tz q))
 refine be (Zf (hint _ ?_));have m8:=k1 _ _ hS;have nS:it≠S:=fun z=>by subst z;exact absurd low (Nat.not_lt.mpr wJ)
 have go:∀(h:Heap) (c tk:Nat),Keeps h1 h (· = S)->h.get? S=some { cls := .type "list",data := .seq #[] c } -> ZW (YW prog w) A (.builtin "list.extend.loop" ⟨[.ref S,.ref it,res],[]⟩) Z { s with heap:=h,toks:=tk,drawn:=d }:=fun h c tk k ob=>by
  have Fd:=Ez (prog:=prog) (w:=w) (ep:=ep) (t:=t) (vals:=vals) (A:=A.in1) hh hl nS UC low;refine kN Fd hz (s:={ s with drawn:=d }) (g:=h1) (fun h' tk acc c k' G=>fin h' tk d acc c vals (fun b o nb q=>k' b o (fun z=>z.elim (fun z=>by subst z;exact absurd (Jf q) (Nat.not_lt.mpr wJ)) nb) (k1 b o q)) hl hp G) es.size 0 h tk #[] c ⋯ (Fd.keepS _ _ _ m5 k) ⟨ob,rfl,.nil,fun j v e=>by simp at e⟩ fun b o nb q=>k b o (fun z=>nb (.inr z)) q
 refine Qai (fun _ =>?_) fun z=>absurd (show _=true by decide +kernel) z;refine be (Qah (be ?_));have o1:=J2 (ZF (·.push Qbe)) m8 rfl;have o2:=J2 (ZF (·.pop)) o1 rfl;refine be (Z5 (s:={ s with heap:=h1,drawn:=d }) m8 rfl (Z5 (hz:=by seq_fits) o1 rfl (tz ⟨ZU Z1 _,go _ _ _ (fun b o nb q =>?_) o2⟩)));exact(J3 _ _ (Zx nb)).trans ((J3 _ _ (Zx nb)).trans q)
def vI {A:Zs}{E:Fk->Wp->Prop}{o:Obj}(hh:A.handled=none){s:Wp}{Q:List Fk->Wp->Prop}(ho:s.heap.get? a=some o)(hx:o.ExactSet)(hd:o.data = .set es ep t)(hf:t.fits es.size=true)(g:dE t)(l:Mz w=false->t.led=true)(hz:es.size<=KE)
  (fin:∀h' tk d vals,s.heap.objs.size<=h'.objs.size->(∀b o,s.heap.get? b=some o->h'.get? b=some o)->U7 vals (es.toList.map (·.2))->Q vals { s with heap:=h',toks:=tk,drawn:=d }):YX (YW prog w) A (collect (.ref a)) Q E s:=by
 unfold collect;refine be (wpAny_runValue (ZD PySem.F.entry_proto_collect ?_));rw[QeM PySem.F.plain_proto_collect _];show YX _ A.in1 (newList [] >>= fun l=>again (.builtin "list.__iadd__" ⟨[l,.ref a],[]⟩)) _ _ s;refine be (ZJ (tz ⟨ZU QdZ _,ZD PySem.F.entry_list_iadd ?_⟩));rw[QeM QdZ _];have k0:∀b o,s.heap.get? b=some o->(s.heap.push { cls := .type "list",data := .seq ([]:List Fk).toArray }).get? b=some o:=fun b o x=>Jb _ x;refine yB (s:={ s with heap:=s.heap.push { cls := .type "list",data := .seq ([]:List Fk).toArray } }) (A:=A) (res := .ref s.heap.objs.size)
  (Z:=fun(r:QaU) s'=>match r with
   | .ok (.ret v)=>YX (YW prog w) A (match v with
    | .ref a=>(load a >>= fun o=>match o.data with
     | .seq xs _=>pure xs.toList
     | _=>Qeo "internal:collect")
    | _=>Qeo "internal:collect") Q E s'
   | .ok _=>False
   | .error e=>E e s') hh (k0 _ _ ho) hx hd hf g l hz (Jl (Jf ho)) (Jh _ rfl) fun h' tk d acc c vals k hl hp G =>?_
 refine be (Qdq G.ob (tz ?_));have e:acc.toList=vals:=by
  refine List.ext_getElem? fun j =>?_
  by_cases hj:j<acc.size
  ·rw[Uz,Jx hj];exact(G.all j _ (Jx hj)).symm
  ·rw[Uz,Ur ⋯,Qe4 (by have:=G.sz;lia)]
 rw[e];exact fin h' tk d vals (Yh (Jf G.ob)) (fun b o x=>k b o (Jl (Jf x)) (k0 b o x)) hp
end
def nN {α:Type}[DecidableEq α]:∀{D ns:List α},D.Nodup->(∀k∈D,k∈ns)->ns.length<=D.length->U7 ns D
 | [],ns,_,_,hl=>by rw[Uy (Nat.le_zero.mp hl)]
 | k::D,ns,nd,sub,hl=>by
  obtain⟨nk,PZ⟩:=U6.mp nd;have hk:=sub k Jm;refine(Qfh hk).trans (U7.cons k (nN PZ (fun x hx =>?_) ?_))
  ·exact(List.mem_erase_of_ne (fun z=>nk (by rw[<-z];exact hx))).mpr (sub x (Jj _ hx))
  ·rw[Qev hk];rw[Jn] at hl;lia
def uX:∀{vs:List Fk},(∀v∈vs,∃k t,v = .int k t)->∃ns,Qc8 vs ns/\∀k,k∈ns ↔ ∃t,QcB k t∈vs
 | [],_=>⟨[],.nil,fun k=>⟨(nofun),(fun⟨_,h⟩=>nomatch h)⟩⟩
 | v::vs,h=>by
  obtain⟨ns,h1,h2⟩:=uX (vs:=vs) fun u hu=>h u (Jj _ hu);obtain⟨k,t,rfl⟩:=h v Jm;refine⟨k::ns,.cons k t h1,fun j=>⟨fun hj =>?_,fun⟨u,hu⟩=>?_⟩⟩
  ·rcases Jq.mp hj with rfl|hj
   ·exact⟨t,Jm⟩
   ·obtain⟨u,hu⟩:=(h2 j).mp hj;exact⟨u,Jj _ hu⟩
  ·rcases Jq.mp hu with e|hu
   ·cases e;exact Jm
   ·exact Jj _ ((h2 j).mpr ⟨u,hu⟩)
def vB:∀{vs:List Fk} {ns:List Int},Qc8 vs ns->vs.length=ns.length
 | _,_,.nil=>rfl
 | _,_,.cons _ _ h=>by rw[Jn,Jn,vB h]
def Inv.drawn {X:Cx}{pins:List (Gc×Obj)}{σ:St}{H:Hp}{s:Wp}(d:Drawn)(I:Inv X pins σ H s):Inv X pins σ H { s with drawn:=d }:=⟨I.ok,I.os,I.bare,I.base,I.loc,I.cell,I.free,I.freeC,I.pin,I.bq,I.len⟩
def yL {X:Cx}(hc:X.calm=true):bF X (.builtin "sorted") (fun xs H Q=>∃(a:Gc) (D:List Int),xs=[.ref a]/\H a=some (gX (Cw X.prog X.w) a D)/\D.Nodup/\D.length<64 /\
  ∀(ms:List Int) (q:Gc) (H':Hp),ms.Perm D->ms.Pairwise (· <= ·)->jg H q (.lst (ms.map V.int)) H'->Q (.ref q) H'):=by
 intro pins s σ H xs us Q I r h;obtain⟨a,D,rfl,ha,nd,hl,q⟩:=h;obtain⟨u,rfl,ru⟩:=vals1 r;cases ru;obtain⟨HK,o',CY,ep',t',vt,Au,g',l'⟩:=(show bt X.prog X.w H s.heap a (gX (Cw X.prog X.w) a D) from I.bq a _ ha).1;obtain⟨o,es,ep,t,ho,ex,hd,el,mem,bnd,fit,len⟩:=id HK;obtain⟨g,l⟩:dE t/\(X.w.params.followText "set-order" = false->t.led=true):=by
  rw[ho] at vt;cases vt;rw[hd] at Au;cases Au;exact⟨g',l'⟩
 refine Qd6 kind_sorted plain_sorted entry_sorted (args_sorted1 _) ?_;unfold Builtin.«sorted»;refine be (m:=checkCount "sorted" 1 1 _) (tz ?_);refine be (vI (A:=X.A.in1) (show X.A.in1.handled=none from I.ok.hd hc) ho ex hd fit g l (QdF bnd) fun h1 tk d vals hle k1 pm =>?_);have hv:∀v∈vals,∃k t,v = .int k t:=fun v hv=>by
  obtain⟨e,he,rfl⟩:=Ux.mp (pm.mem_iff.mp hv);obtain⟨⟨k,hk,_⟩,_⟩:=el e he;obtain⟨t,ht⟩:=QbO hk;exact⟨k,t,ht⟩
 obtain⟨ns,hI,BZ⟩:=uX hv;have hlen:vals.length=D.length:=by rw[pm.length_eq,Jd,Ue,len]
 have YH:=vB hI;have pD:U7 ns D:=nN nd (fun k hk=>by
  obtain⟨e,he,h2⟩:=(mem k).mp (decide_eq_true hk);obtain⟨t,ht⟩:=QbO h2;exact(BZ k).mpr ⟨t,by rw[<-ht];exact pm.mem_iff.mpr (Ux.mpr ⟨e,he,rfl⟩)⟩) ⋯
 refine be (wpAny_newList ?_ (Jg (show vals.length<=64 by lia) ∅));have ob:(h1.push (Qbr "list" vals.toArray 0)).get? h1.objs.size=some (Qbr "list" vals.toArray 0):=Jh _ rfl;refine be (Zf (Zm slot_list_sort ⟨_,ob,rfl⟩ entry_list_sort (list_sort_tree ob hI ⋯ fun out ms a1 a2 a3=>⟨_,rfl,tz ⟨_,rfl,?_⟩⟩) (args_list_sort _)));obtain⟨e,he⟩:=sortedHeap_at (out:=out) ob;have hm:ms.length=D.length:=(a2.trans pD).length_eq;have hr:=mB a1;have kk:∀b o,s.heap.get? b=some o->(sortedHeap (h1.push (Qbr "list" vals.toArray 0)) h1.objs.size vals out).get? b=some o:=fun b Lm x=>by
  have x1:=k1 b Lm x;rw[sortedHeap_old (Jl (Jf x1)) (by rw[size_push'];exact Qa9 (Jf x1)),Heap.get?_push_ne _ _ _ (Jl (Jf x1))];exact x1
 refine⟨.ref h1.objs.size,_,(I.laid (a:=h1.objs.size) (o := .lst (ms.map V.int)) (t':=tk) kk hle ⟨?_,out.toList,e,hr,?_⟩).drawn d,rfl,q ms _ _ (a2.trans pD) a3 ⟨I.bq.fresh hle,rfl⟩⟩
 ·rw[Jd];exact Jg (show ms.length<=64 by lia) ∅
 ·simpa [Qbr] using he
def G6:Qar (.type "list") "keys" = pure none:=rfl
def O8:Qar (.type "list") "__getattr__" = pure none:=rfl
def mE:isSubtype (.type "AttributeError") (.type "AttributeError")=pure true:=rfl
section
variable {prog:YZ}{w:Zb}{A:Zs}{E:Fk->Wp->Prop}{h:Heap}{g:Array QdO}{d:Drawn}{t:Nat}{os:OsState}{a:Gc}{o:Obj}
def yS {tk:Tok}{Q:Fin->Wp->Prop}(hx:h.get? a=some o)(hc:o.cls = .type "list")(pK:o.dict=none){xs:Array Fk}{n:Nat}(hd:o.data = .seq xs n)(hh:A.handled=none)
  (hq:∀e h' t',(∀b o,h.get? b=some o->h'.get? b=some o)->(∃oe,h'.get? e=some oe/\oe.cls = .type "AttributeError")->E (.ref e) ⟨h',g,d,t',os⟩) :
  YX (YW prog w) A (Builtin.«object.__getattribute__» ⟨[.ref a,.str "keys" tk],[]⟩) Q E ⟨h,g,d,t,os⟩:=by
 have hT:(⟨h,g,d,t,os⟩:Wp).TypeIs (.ref a) "list":=⟨_,hx,hc⟩
 have f4:=G6
 repeat (any_goals (first|assumption|wp_step))
 rw[hd]
 repeat (any_goals (first|assumption|wp_step))
 rw[pK,hc]
 repeat (any_goals (first|assumption|wp_step))
 have f9:=mE;unfold QeQ noteAttr
 wp_walk
 repeat (any_goals (first|assumption|wp_step))
 refine Z4 hh (hq _ _ _ (fun b o' x =>?_) ⟨_,J2 _ (Jh _ rfl) rfl,rfl⟩);have x1:=Jb { cls:=Z0 "tuple",data:=Data.seq #[Qbw (W1 (toString "'" ++ toString ((Qce "list").elim "list" fun x=>x.tpName)++toString "' object has no attribute '")++W1 "keys" ++ W1 "'") t] } x;rw[J3 _ _ (Ul (Jf x1))];exact Jb _ x1
def CM {R:QaU->Wp->Prop}(hx:h.get? a=some o)(hc:o.cls = .type "list")(pK:o.dict=none){xs:Array Fk}{n:Nat}(hd:o.data = .seq xs n)(hh:A.handled=none)
  (hq:∀e h' t',(∀b o,h.get? b=some o->h'.get? b=some o)->(∃oe,h'.get? e=some oe/\oe.cls = .type "AttributeError")->R (.error (.ref e)) ⟨h',g,d,t',os⟩) :
  ZW (YW prog w) A (.call (.builtin "list.__getattribute__") ⟨[.ref a,.str "keys" tk],[]⟩) R ⟨h,g,d,t,os⟩:=
 Qac F.slot_list_getattribute.plain F.entry_list_ga (F.slot_list_getattribute.check _ _ _ _ _ _ _ _ (show(⟨h,g,d,t,os⟩:Wp).TypeIs (.ref a) "list" from⟨_,hx,hc⟩) (F.args_list_getattribute_2 _ _) (yS hx hc pK hd hh hq))
def BV (hx:h.get? a=some o)(hc:o.cls = .type "list")(pK:o.dict=none){xs:Array Fk}{n:Nat}(hd:o.data = .seq xs n)(hh:A.handled=none)
  (hq:∀h' t',(∀b o,h.get? b=some o->h'.get? b=some o)->Q none ⟨h',g,d,t',os⟩):YX (YW prog w) A (getAttr? (.ref a) "keys") Q E ⟨h,g,d,t,os⟩:=by
 have hT:(⟨h,g,d,t+1,os⟩:Wp).TypeIs (.ref a) "list":=⟨_,hx,hc⟩
 have f2:=F.slot_list_getattribute.lookup;have f3:=F.slot_list_getattribute.bind (.ref a);have f4:=O8
 repeat (any_goals (first|assumption|wp_step))
 refine CM hx hc pK hd hh fun e h' t' k hoe =>?_;have NY:ZY ⟨h',g,d,t',os⟩ (.ref e) "AttributeError":=hoe;have f5:=mE;refine be (ZC NY f5 ?_)
 repeat (any_goals (first|assumption|wp_step))
 exact hq h' t' k
end
def cz:entryFor table "dict.update.loop" = some Builtin.«dict.update.loop»:=entryFor_of_fast (by kernel_rfl)
def cC:plainId "dict.update.loop" = true:=∅
section
variable {prog:YZ}{w:Zb}{K:Type}[DecidableEq K]{knd:KeyKind prog w K}{A:Zs}{E:Fk->Wp->Prop}
def lz (knd:KeyKind prog w K)(h:Heap)(v:Fk)(kv:K×Fk):Prop:=∃tp o n ku,v = .ref tp/\h.get? tp=some o/\o.cls = .type "tuple" /\ o.data = .seq #[ku,kv.2] n/\knd.is kv.1 ku=true
def qy {s:Wp}{R:QaU->Wp->Prop}{it l d:Gc}{items:Array Fk}{kvs:List (K×Fk)}{g:Heap}(hh:A.in1.handled=none)(hl:g.IsList l items)(hn:items.size=kvs.length)(hz:kvs.length<=100000)
  (hp:∀(j:Nat) v kv,items[j]? = some v->kvs[j]? = some kv->lz knd g v kv) (lit:∀b o,g.get? b=some o->b≠it/\b≠d) (ne:d≠it)
  (fin:∀h tk,(∀b o,b≠d->b≠it->g.get? b=some o->h.get? b=some o)->h.DictOf knd d (QbY [] kvs)->R (.ok (.ret .none)) { s with heap:=h,toks:=tk }) :
  ∀k i h tk acc,i+k=kvs.length->acc.length<=i->QbY acc (kvs.drop i)=QbY [] kvs->(∀b o,b≠d->b≠it->g.get? b=some o->h.get? b=some o)->h.IsListIter it l i->h.DictOf knd d acc ->
   ZW (YW prog w) A (.builtin "dict.update.loop" ⟨[.ref d,.ref it,ZT i,.none],[]⟩) R { s with heap:=h,toks:=tk }
 | 0,i,h,tk,acc,hk,ha,hm,kp,hi,hd=>by
  have e:i=kvs.length:=by lia
  subst e;have Iw:h.IsList l items:=by
   obtain⟨o,ho,r⟩:=hl;exact⟨o,kp _ _ (lit _ _ ho).2 (lit _ _ ho).1 ho,r⟩
  refine ZD cz (be (wpAny_pyNext_list_end hh hi Iw (by rw[Ur ⋯]) fun h' eb =>?_));refine be (tz (tz (fin h' tk (fun b o nd ni x=>eb b o ni (kp b o nd ni x)) ?_)));rw[Qdm] at hm;rw[<-hm];obtain⟨o,es,ep,ho,r⟩:=hd;exact⟨o,es,ep,eb _ _ ne ho,r⟩
 | k+1,i,h,tk,acc,hk,ha,hm,kp,hi,hd=>by
  have jv:i<kvs.length:=by lia
  have Iw:h.IsList l items:=by
   obtain⟨o,ho,r⟩:=hl;exact⟨o,kp _ _ (lit _ _ ho).2 (lit _ _ ho).1 ho,r⟩
  have wJ:items[i]? = some items[i]:=Jx ⋯;obtain⟨tp,o,n,ku,ev,ho,hc,xx,hkey⟩:=hp i _ _ wJ (Jc jv);refine ZD cz (be (wpAny_pyNext_list_item hi Iw wJ fun h1 hi1 Gb =>?_));rw[ev];have IT:=Gb.extBut _ _ (lit _ _ ho).1 (kp _ _ (lit _ _ ho).2 (lit _ _ ho).1 ho);have MB:h1.DictOf knd d acc:=by
   obtain⟨o,es,ep,ho,r⟩:=hd;exact⟨o,es,ep,Gb.extBut _ _ ne ho,r⟩
  have hT:ZY { s with heap:=h1,toks:=tk } (.ref tp) "tuple":=⟨o,IT,hc⟩
  refine be (Zf (be (QeN (be (ZV hT (be (Zq IT xx (tz (Zf (QbM hkey MB (fun h2 Mq sb2=>(tz ⟨ZU cC _,?_⟩)) (Jg (show acc.length<=100000 by lia) ∅)))))))))));have:=qy hh hl hn hz hp lit ne fin k (i+1) h2 (tk+1) (Qdr acc kvs[i].1 kvs[i].2) ⋯ ?_ ?_ (fun b o nd ni x=>sb2.extBut b o nd (Gb.extBut b o ni (kp b o nd ni x))) ?_ Mq
  ·exact this
  ·refine Jg ?_ (We ha);unfold Qdr
   split
   ·rw[Jd];exact Yu _
   ·rw[Jt];exact Je _
  ·rw[<-hm,QbP jv]
   rfl
  ·obtain⟨oi,e1,r⟩:=hi1;exact⟨oi,sb2.extBut _ _ (Zx ne) e1,r⟩
def yC {Q:Fk->Wp->Prop}{l:Gc}{items:Array Fk}{kvs:List (K×Fk)}{ol:Obj}{n:Nat}(hh:A.handled=none)(ho:s.heap.get? l=some ol)(hc:ol.cls = .type "list")(pK:ol.dict=none)(hd:ol.data = .seq items n)(hn:items.size=kvs.length)(hz:kvs.length<=100000)
  (hp:∀(j:Nat) v kv,items[j]? = some v->kvs[j]? = some kv->lz knd s.heap v kv)
  (fin:∀h tk,(∀b o,s.heap.get? b=some o->h.get? b=some o)->h.DictOf knd s.heap.objs.size (QbY [] kvs)->Q (.ref s.heap.objs.size) { s with heap:=h,toks:=tk }) :
  YX (YW prog w) A (call (.type "dict") [.ref l]) Q E s:=by
 refine QbZ (Q₁:=fun obj s₁=>obj = .ref s.heap.objs.size/\s₁={ s with heap:=s.heap.push { cls := .type "dict",data := .dict #[] } }) QdR (QcT _) Qdy (Qec _ ⟨rfl,rfl⟩) ?_;rintro obj s1 ⟨rfl,rfl⟩;have new:(s.heap.push { cls := .type "dict",data := .dict #[] }).DictOf knd s.heap.objs.size []:=QbQ s.heap;have k0:∀b o,s.heap.get? b=some o->(s.heap.push { cls := .type "dict",data := .dict #[] }).get? b=some o:=fun b o x=>Jb _ x;refine⟨new.typeIs,Qdg _ _,(be (be (QcN new.typeIs (tz ?_))))⟩;have hT:ZY { s with heap:=s.heap.push { cls := .type "dict",data := .dict #[] } } (.ref l) "list":=⟨ol,k0 _ _ ho,hc⟩
 refine be (ZV hT (be (BV (k0 _ _ ho) hc pK hd hh fun h1 t1 k1 =>?_)));have kk:=fun b o x=>k1 b o (k0 b o x);refine be (Qah (be (Qbh ⟨ol,kk _ _ ho,hc,n,hd⟩ ?_)));have hS:s.heap.objs.size<h1.objs.size:=by
  obtain⟨o,es,ep,e,_⟩:=new;exact Jf (k1 _ _ e)
 refine tz ⟨ZU cC _,?_⟩;have low:∀b o,s.heap.get? b=some o->b≠h1.objs.size/\b≠s.heap.objs.size:=fun b o x=>⟨Jl (Jf (kk b o x)),Jl (Jf x)⟩
 refine qy (A:=A.in1) hh ⟨ol,ho,hc,n,hd⟩ hn hz hp low (Jl hS) (fun h tk k dd=>⟨rfl,fin h tk (fun b o x=>k b o (low b o x).2 (low b o x).1 x) dd⟩) kvs.length 0 _ _ [] ⋯ (Je _) rfl (fun b o nd ni x=>Jb _ (kk b o x)) ⟨_,Jh _ rfl,rfl,rfl⟩ ?_;obtain⟨o,es,ep,e,r⟩:=new;exact⟨o,es,ep,Jb _ (k1 _ _ e),r⟩
end
section
variable {X:Cx}{pins:List (Gc×Obj)}{σ:St}{H:Hp}{s:Wp}
def rG (I:Inv X pins σ H s)(as:List Gc):∀{kvs:List (Key×V)},as.length=kvs.length->(∀(j:Nat) b kv,as[j]? = some b->kvs[j]? = some kv->aY X.K H b [kV kv.1,kv.2]) ->
  ∃vs,KV kvs vs/\∀(j:Nat) b kv,as[j]? = some b->vs[j]? = some kv->lz (bC X.prog X.w) s.heap (.ref b) kv:=by
 induction as with
 | nil=>
  intro kvs hl _;rw[Uy hl.symm];exact⟨[],.nil,fun j b kv h=>by simp at h⟩
 | cons a as ih=>
  intro kvs hl h;cases kvs with
  | nil=>cases hl
  | cons p kvs=>
  obtain⟨vs,h1,h2⟩:=ih (by simpa using hl) fun j b kv e1 e2=>h (j+1) b kv e1 e2;obtain⟨aF,r,⟨o,e1,e2,n,e3⟩,_⟩:=I.tuple (h 0 a p rfl rfl);obtain⟨ku,vu,rfl,r1,r2⟩:=r.two;refine⟨(p.1,vu)::vs,.cons ⟨rfl,r2⟩ h1,fun j b kv e4 e5 =>?_⟩;cases j with
  | zero=>
   cases e4;cases e5;exact⟨a,o,n,ku,rfl,e1,e2,e3,lR r1⟩
  | succ j=>exact h2 j b kv e4 e5
def lD:∀{as:List Gc} {aF:List Fk},Vals (as.map V.ref) aF->aF=as.map Zh
 | [],_,rv=>by cases rv;rfl
 | a::as,_,rv=>by
  obtain⟨v,r,rfl,rv1,rv2⟩:=rv.hd;cases rv1;rw[lD rv2];rfl
def pI (K:Ja)(hc:X.calm=true)(hK:X.K=K:=by rfl):bF X (.type "dict") (fun xs H Q=>∃(p:Gc) (as:List Gc) (kvs:List (Key×V)),xs=[.ref p]/\bg K H p (as.map V.ref)/\as.length=kvs.length/\kvs.length<=100000 /\
  (∀(j:Nat) b kv,as[j]? = some b->kvs[j]? = some kv->aY K H b [kV kv.1,kv.2])/\∀d H',jg H d (.dK (cB [] kvs)) H'->Q (.ref d) H'):=by
 subst hK;intro pins s σ H xs us Q I r h;obtain⟨p,as,kvs,rfl,hp,hl,hz,ht,q⟩:=h;obtain⟨u,rfl,ru⟩:=vals1 r;cases ru;obtain⟨aF,rv,⟨o,n,e1,e2,e3,e4⟩,_⟩:=I.list hp;obtain⟨vs,kv,pa⟩:=rG I _ hl ht;have hits:=lD rv;have kl:=kv.length;refine yC (knd:=bC X.prog X.w) (kvs:=vs) (I.ok.hd hc) e1 e2 e3 e4 (by rw[hits];simp;lia) ⋯ (fun j v kw h1 h2 =>?_) fun h1 tk k1 dd =>?_
 ·rw[hits] at h1;simp only[Qbf,Jk] at h1;cases e:as[j]? with
  | none=>rw[e] at h1;cases h1
  | some b=>rw[e] at h1;cases h1;exact pa j b kw e h2
 ·have ml:=dP kvs [];exact⟨.ref s.heap.objs.size,_,I.laid (o := .dK (cB [] kvs)) k1 (Je _) ⟨Jg (show _<=100000 by simp at ml;lia) ∅,(beq_eq_false_iff_ne.mpr (Ul I.big)),_,KV.merge kv .nil,dd⟩,rfl,q _ _ ⟨I.bq.fresh (Je _),rfl⟩⟩
end
section
variable {X:Cx}
def Ig:HD X "list.remove" (fun x vs H Q=>∃(l:Gc) (xs:List Str) (y:Str),x = .ref l/\vs=[.str y]/\H l=some (.lst (xs.map V.str))/\y∈xs/\∀H',EO H l (.lst ((xs.erase y).map V.str)) H'->Q .non H'):=by
 intro pins s σ H x vs v us Q I rx rv h;obtain⟨l,xs,y,rfl,rfl,hH,hy,q⟩:=h;cases rx;obtain⟨u,rfl,ru⟩:=vals1 rv;obtain⟨t,rfl⟩:=ru;obtain⟨z,aF,n,r,hl,e⟩:=I.tS hH;have hlen:=r.length;rw[Jd] at hlen;obtain⟨j,hj⟩:∃j,j=xs.idxOf y:=⟨_,rfl⟩
 have jl:j<xs.length:=by rw[hj];exact List.idxOf_lt_length_iff.mpr hy
 have jy:xs[j]=y:=by simp only[hj];exact List.getElem_idxOf (by rw[<-hj];exact jl)
 have jn:∀m (hm:m<xs.length),m<j->xs[m]≠y:=fun m hm hmj w=>by
  have:m<List.findIdx (· == y) xs:=by rw[hj] at hmj;exact hmj
  have:=QeG this;rw[w] at this;simp at this
 let ev:Fk->Bool:=fun u=>match u with | .str a _=>a==y|_=>false
 have at':∀m (hm:m<aF.length),∃t',aF[m] = .str (xs[m]'⋯) t':=fun m hm=>by
  obtain⟨a,h1,h2⟩:=i9 r (i:=m) (v:=aF[m]) (by simp[hm]);rw[Jk,Jc ⋯] at h1;cases h1;exact h2
 refine QaH F.slot_list_remove ⟨_,e,rfl⟩ F.entry_list_remove (F.args_list_remove_2 _ _) (MeetsSeq.list_remove l aF.toArray n (.str y t) ev (fun w hw =>?_) j (by rw[Jv];lia) ?_ ?_ (by rw[Jv];lia)) ⟨e,?_⟩
 ·have hw:w∈aF:=by simpa using hw
  obtain⟨i,hi,ew⟩:=Yd.mp hw;obtain⟨t',e'⟩:=at' i hi;rw[<-ew,e'];have z:=SeqRoads2.EqGives.str (xs[i]'⋯) y t' t;rw[show((xs[i]'⋯).cps.toList==y.cps.toList)=((xs[i]'⋯)==y) from by rw[Y9,beq_iff_eq,beq_iff_eq,Array.toList_inj];exact⟨fun q=>by generalize xs[i]'⋯=x at q ⊢;cases x;cases y;simp_all,fun q=>by rw[q]⟩] at z;exact z
 ·obtain⟨t',e'⟩:=at' j ⋯;show ev aF[j]=true;rw[e'];show(xs[j]==y)=true;rw[jy];simp
 ·intro m hm hmj;have va:m<aF.length:=by rw[Jv] at hm;exact hm
  obtain⟨t',e'⟩:=at' m va;show ev aF[m]=false;rw[e'];show(xs[m]==y)=false;simpa using jn m ⋯ hmj
 ·have ex:(xs.map V.str).eraseIdx j=(xs.erase y).map V.str:=by
   rw[List.erase_eq_eraseIdx_of_idxOf (i:=j) hj.symm,Yv,Yv,J0,List.map_take,List.map_drop]
  refine⟨.non,_,I.KJ (ys:=(xs.map V.str).eraseIdx j) (its':=aF.eraseIdx j) hH e ?_ (pW j r) (by rw[QcC];split<;>lia),rfl,?_⟩
  ·simp[Array.eraseIdxIfInBounds,show j<aF.length by lia]
  ·exact q _ ⟨by rw[ex]⟩
end
section
variable {M:Model}{A:Zs}{E:Fk->Wp->Prop}{s:Wp}{env:Env}
variable {nm q:Str}{C N:Gc}{bs bm:List Fk}{hdct:Bool}{sn:List Str}{sub:List Fk}{ab:Bool}{col:Option Bool}{dd:Option Gc}{k0 k1 k2 k3 k5:Option Fk}{newId:String}
def Cf (hh:A.handled=none)(hb:bm.contains (.type "BaseException")=true)
  (h:YX M A (ZM x env) (fun v s1=>∃e o,v = .ref e/\s1.heap.get? C=some (QaR nm q C N bs bm hdct sn sub ab col dd k0 k1 k2 k3 k5 newId)/\s1.heap.get? e=some o/\o.cls = .ref C/\Raw o/\E (.ref e) s1) E s) :
  YX M A (exec (.Raise (some x) none pos) env) Q E s:=by
 have VN:(Zh C::bm).contains (.type "BaseException")=true:=by rw[List.contains_cons,hb,Bool.or_true]
 refine be (Qab (be (be (Z9 h (fun v s1 h1=>be (Qab (tz ?_))) fun _ _ z=>z))));obtain⟨e,o,rfl,hC,he,hc,⟨t,hd⟩,hE⟩:=h1;obtain⟨oc,od,odt,wO⟩:=o;subst hc hd;obtain⟨hp,g,d,tk,os⟩:=s1
 repeat (first|with_reducible refine Qbj he ?_|with_reducible refine Qbj hC ?_|(with_reducible refine wpAny_isSubtype_exc hC ?_;rw[VN])|wp_step)
 exact Z4 hh hE
end
section
variable {P:YZ}{w:Zb}{K:Ja}{mg:Str->Option Fk}{base:Heap}{N:List Str}{qual:Str}{scope:QaT}{f:Gc}{cd:Fk}{A:Zs}{outer:List Env}{s0:Wp}{H0:Hp}{E:XK}
def GX (C:Gc)(H0:Hp)(E:XK)(sp:Sp)(t:TA):TS:=fun _ σ H=>Eo C sp t σ H fun v H2=>∃e dx,v = .ref e/\H2 e=some (AR e C dx)/\H0 e=none/\E (.ref C) (some dx) (qF H2 e)
def rP {fi C:Gc}{fd:Zc}{ps:List Str}{sp:Sp}{x:Str}{p eF pos:Pos}{a:ZA}{as:List ZA}{t:TA}(M:MU K C fi)(F:aW P w K mg base dI k fi fd ps sp)(hr:dw (k+1) (A.deeper (Qa6 qual scope s0.heap.objs.size f cd)))
  (hg:Gl (oo (u4 P w base) P w K mg base N qual scope f cd A outer s0 H0 E) x) (hm:mg x=some (.ref C)) (hb:Binds K fd ps []) (ha:PA (oo (u4 P w base) P w K mg base N qual scope f cd A outer s0 H0 E) (a::as) t) (qW:(x==("__debug__" : Str))=false:=by decide)
  (he:Ze (a::as) (Qa6 qual scope s0.heap.objs.size f cd)=(false,ZM a (Qa6 qual scope s0.heap.objs.size f cd))::Ze as (Qa6 qual scope s0.heap.objs.size f cd):=by rfl) (nY:(QaS eF (Ze as (Qa6 qual scope s0.heap.objs.size f cd))).any (·.1)=false:=by rfl) :
  PS (oo (u4 P w base) P w K mg base N qual scope f cd A outer s0 H0 E) (.Raise (some (.Call (.Name x p) (a::as) [] eF)) none pos) (GX C H0 E sp t):=by
 intro pins s σ H D I h;obtain⟨nm,qn,Nn,bs,Db,hdct,sn,sub,ab,col,dd,k0,k1,k2,k3,k5,lk,TL⟩:=id M.cl;refine Cf (C:=C) (nm:=nm) (q:=qn) (N:=Nn) (bs:=bs) (bm := .ref Db::dF) (hdct:=hdct) (sn:=sn) (sub:=sub) (ab:=ab) (col:=col) (dd:=dd) (k0:=k0) (k1:=k1) (k2:=k2) (k3:=k3) (k5:=k5) (newId := "ValueError.__new__")
  (I.ok.hd rfl) (by simp[]) (bb (Fh (p:=p) M F hr hg hm hb ha rfl qW he nY s σ H _ I h) fun v s1 ⟨y,H1,I1,ry,e,dx,ey,ee,h0,hE⟩=>?_)
 subst ey;obtain rfl:v=Zh e:=ry;obtain⟨ob,b1,b2,b3,b4⟩:=(show bt P w H1 s1.heap e (AR e C dx) from I1.bq e _ ee).1;obtain⟨t0,b5⟩:=id b4;have ub:Un (kJ outer) [] H0 H1 s0.heap s1.heap:=I1.base;refine⟨e,ob,rfl,I1.iQ _ _ lk,b1,b2,b4,xr I1 b1 ?_ b5 rfl rfl (.inr ⟨_,ee⟩) (by rw[b2,b3];exact hE)⟩;cases z:s0.heap.get? e with
 | none=>rfl
 | some o=>
  have:=ub.free e o z h0 (by simp);rw[ee] at this;cases this
end
section
variable {X:Cx}
def KS (K:Frag)(to:TE)(f:Str):TE:=fun σ H Q=>to σ H fun x H1=>∃e C dx fs v,x = .ref e/\H1 e=some (mj e (.ref C) (some dx))/\H1 dx=some (.xd fs)/\fs.lookup f=some v/\j6 K C/\mh K C f/\((∃i,v = .int i)\/∃z,v = .str z)/\Q v H1
def oW {to:TE}{pos:Pos}(K:Frag)(ho:PE X o to)(hb:QaK o f X.env (ZM o X.env)=ZM o X.env:=by rfl)(hK:X.K=K:=by rfl):PE X (.Attribute o f pos) (KS K to f):=by
 subst hK;refine fun pins s σ H Q I h=>zX hb (bb (ho s σ H _ I h) fun ov s1 hz_=>aj.el hz_ _ ?_);rintro x H1 I1 rx ⟨e,C,dx,fs,v,ex,ee,ed,el,O,S,hv,q⟩;subst ex;obtain rfl:ov=Zh e:=rx;obtain⟨ob,b1,b2,b3,b4⟩:=(show bt X.prog X.w H1 s1.heap e (PM e (.ref C) dx) from I1.bq e _ ee).1;obtain⟨mA,n1,n2⟩:=I1.bq dx _ ed;obtain⟨od,c1,c2⟩:=sj n1;have hf:=n2 f;rw[el] at hf;cases hm:mA f with
 | none=>rw[hm] at hf;exact hf.elim
 | some u=>
  rw[hm] at hf;have ru:=hf;refine FK I1.iQ O S b1 b2 b3 b4 c1 (by rw[c2,hm]) ?_ ⟨v,H1,I1.tok _,ru,q⟩
  rcases hv with ⟨i,rfl⟩|⟨z,rfl⟩
  ·obtain⟨t,rfl⟩:=ru;rfl
  ·obtain⟨t,rfl⟩:=ru;rfl
def Ey (x:bt P w H h e (mj e (.ref C) dx)):ExcAt e C h:=by
 cases dx with
 | none=>exact x.1
 | some d=>obtain⟨o,a,b,_⟩:=x.1;exact⟨o,a,b⟩
def Rr (K:Frag):List V->Hp->VK->Prop:=fun xs H Q=>Dx fun e C dx c cv b=>xs=[.ref e,c]/\H e=some (mj e (.ref C) dx)/\j6 K C/\NA c=some cv/\kitOne K (.ref C) cv=some b/\Q (.bl b) H
def qJ (K:Frag)(hK:X.K=K:=by rfl):bF X (.builtin "isinstance") (Rr K):=by
 subst hK;intro pins s σ H xs us Q I r h;obtain⟨e,C,dx,c,cv,b,rfl,hE,O,hc,hk,q⟩:=h;obtain⟨u,w',rfl,r1,r2⟩:=vals2 r;cases r1;have ew:w'=cv:=by
  cases c<;>simp[NA] at hc
  ·subst hc;cases r2;rfl
  ·subst hc;cases r2;rfl
 subst ew;exact kia_one (E2 O) I.iQ (Ey (I.bq e _ hE)) hk (nofun) fun tk=>⟨.bl b,H,I.tok _,rfl,q⟩
end
def NH {X:Cx}:bF X (.type "int") (fun xs H Q=>∃x n,xs=[.str x]/\PySem.intText? x=some n/\x.length<=640/\Q (.int n) H):=by
 intro pins s σ H xs us Q I r h;obtain⟨x,n,rfl,e,hl,q⟩:=h;obtain⟨u,rfl,t,rfl⟩:=vals1 r;exact KIN.call_text e hl ⟨.int n,H,I.tok _,⟨_,rfl⟩,q⟩
def cX {h h':Heap}{it:Gc}{ty:String}{z:Str}{t:Tok}{i:Nat}(x:h.IsStrIter it ty z t i)(k:∀o,h.get? it=some o->h'.get? it=some o):h'.IsStrIter it ty z t i:=
 let ⟨o,a,r⟩:=x; ⟨o,k o a,r⟩
open Builtin.Str
def lK:∀tk xs,Vals (xs.map V.str) (strValues (numbered tk xs))
 | _,[] =>.nil
 | tk,x::r =>.cons ⟨tk,rfl⟩ (lK (tk+1) r)
section
variable {X:Cx}
def y2:KC X "str.split" (fun x vs H Q=>fG fun a b=>x = .str a/\vs=[.str b]/\b.length≠0/\a.length<=10000000/\(Qa2 a b).length<=10000000/\∀p H',jg H p (.lst ((Qa2 a b).map V.str)) H'->Q (.ref p) H'):=by
 intro pins s σ H x vs v us Q I rx rv h;obtain⟨a,b,rfl,rfl,hb,ha,hn,q⟩:=h;obtain⟨t,rfl⟩:=rx;obtain⟨u,rfl,t',rfl⟩:=rv.one;have uF:(b.length==0)=false:=by simpa using hb
 have new:∀tk aF,Vals ((Qa2 a b).map V.str) aF->EP X pins σ Q (.ref s.heap.objs.size) { s with toks:=tk,heap:=s.heap.push { cls := .type "list",data := .seq aF.toArray } }:=fun tk aF r=>
  ⟨.ref _,_,I.laid (o := .lst ((Qa2 a b).map V.str)) (fun _ _ e=>Jb _ e) (Je _) ⟨by rw[Jd];exact Jg hn ∅,aF,0,r,Jh _ rfl⟩,rfl,q _ _ ⟨I.bq.fresh (Je _),rfl⟩⟩
 have self:Qa2 a b=[a]->Vals ((Qa2 a b).map V.str) [.str a t]:=fun e=>by rw[e];exact .cons ⟨t,rfl⟩ .nil
 by_cases h1:(decide (a.length<b.length)||decide (strKind a<strKind b))=true
 ·exact QaH QdQ (QcE _ _ _) Qdx (Qdf _ _) (meets_str_split_cannot_occur a b t t' h1) (new s.toks _ (self (if_pos h1)))
 have JZ:=U8.mpr h1
 by_cases hf:(occurrences a b 0 a.length (a.length+1)).isEmpty=true
 ·exact QaH QdQ (QcE _ _ _) Qdx (Qdf _ _) (meets_str_split_not_found a b t t' JZ uF hf) (new s.toks _ (self ((if_neg h1).trans (if_pos hf))))
 have e:Qa2 a b=partsBetween a (occurrences a b 0 a.length (a.length+1)) b.length:=(if_neg h1).trans (if_neg hf);refine QaH QdQ (QcE _ _ _) Qdx (Qdf _ _) (meets_str_split_sep a b t t' JZ uF (U8.mpr hf) (Jg ha ∅) (by rw[<-e];exact Jg hn ∅)) (new _ _ ?_);rw[<-e,strsFrom_eq];exact lK _ _
def Kh (K:Ja):R2:=fun x y H Q=>lW fun a b xs ys=>x = .ref a/\y = .ref b/\aY K H a xs/\aY K H b ys/\xs.length+ys.length<=100000/\xs≠[] /\
 (ys=[]->Q (.ref a) H)/\(ys≠[]->∀p H',jg H p (.tup (xs++ys)) H'->Q (.ref p) H')
def Eg:eW X (Z6 .Add) (Kh X.K):=by
 intro pins s σ H x y v u Q I rx ry h;obtain⟨a,b,xs,ys,rfl,rfl,ha,hb,hl,hx,q0,q1⟩:=h;cases rx;cases ry;obtain⟨is,ra,⟨⟨c1,d1,k1,l1⟩,e1,f1,n1,g1⟩,_⟩:=I.tuple ha;obtain⟨js,rb,⟨⟨c2,d2,k2,l2⟩,e2,f2,n2,g2⟩,_⟩:=I.tuple hb;subst f1 g1 f2 g2;have li:=ra.length;have lj:=rb.length;have hi:¬is.toArray.isEmpty=true:=fun z=>hx (by
  have:is=[]:=by simpa using z
  rw[this] at li;exact Yp.mp li)
 by_cases hy:ys=[]
 ·have hj:js.toArray.isEmpty=true:=by
   rw[hy] at lj;have:js=[]:=Yp.mp lj.symm;rw[this];rfl
  exact concat_meets ⟨_,e1,rfl⟩ ⟨_,e2,rfl⟩ Qeb seq_tuple_add QdP Qdw (Qde _ _) (tuple_addW1 a b is.toArray js.toArray n1 n2 d1 d2 l1 l2 hi hj) ⟨e1,e2,⟨.ref a,H,I,rfl,q0 hy⟩⟩
 ·have hj:¬js.toArray.isEmpty=true:=fun z=>hy (by
   have:js=[]:=by simpa using z
   rw[this] at lj;exact Yp.mp lj)
  refine concat_meets ⟨_,e1,rfl⟩ ⟨_,e2,rfl⟩ Qeb seq_tuple_add QdP Qdw (Qde _ _) (tuple_addW2 a b is.toArray js.toArray n1 n2 d1 d2 l1 l2 hi hj (by rw[Jv,Jv];exact Jg ⋯ (show 100000<=KE by decide))) ⟨e1,e2,⟨.ref s.heap.objs.size,_,I.laid (fun _ _ e=>Jb _ e) (Je _) ?_,rfl,q1 hy _ _ ⟨I.bq.fresh (Je _),rfl⟩⟩⟩;refine⟨by rw[Jt];exact Jg hl ∅,is++js,ra.append rb,⟨_,Jh _ rfl,rfl,rfl,0,by simp⟩⟩
def NC (K:Ja)(hK:X.K=K:=by rfl):eW X (Z6 .Add) (Kh K):=by subst hK;exact Eg
end
section
variable {prog:YZ}{w:Zb}{A:Zs}{E:Fk->Wp->Prop}{s:Wp}
def yN {n:Nat}{Q:List Fk->Wp->Prop}(ho:s.heap.get? l=some o)(hc:o.cls = .type "tuple")(hd:o.data = .seq vs.toArray n)(hz:vs.length<=KE)
  (h:Q vs { s with heap:=(s.heap.push (Qbr "list" #[] 0)).update s.heap.objs.size (ZF (· ++ vs.toArray)) }):YX (YW prog w) A (collect (.ref l)) Q E s:=by
 have Th:(s.heap.push (Qbr "list" #[] 0)).get? l=some o:=Jb _ ho;have hn:(s.heap.push (Qbr "list" #[] 0)).get? s.heap.objs.size=some (Qbr "list" #[] 0):=Jh _ rfl;refine be (wpAny_runValue (ZD entry_proto_collect' (be (wpAny_newList (tz ⟨QbF _ ∅,ZD entry_list_iadd' ?_⟩)))));show YX _ _ (Z8 (.ref s.heap.objs.size) (.ref l) (.ref s.heap.objs.size)) _ _ { s with heap:=s.heap.push (Qbr "list" #[] 0) };refine be (ZV ⟨o,Th,hc⟩ ?_);rw[if_pos (by simp)];refine be (listItems_at Th hd (be (listItems_at hn rfl (be (listUpdate_at hn rfl (tz (be (Qdq (get?_update_seq hn _) ?_))) (Uq _) (by rw[Array.size_append,Jv];exact Jg (by show 0+vs.length<=vs.length;lia) (Nat.le_succ_of_le hz)))))));have e:((#[]:Array Fk)++vs.toArray).toList=vs:=by simp
 refine tz ?_;rw[e];exact h
def xU {n:Nat}{ss:List Str}{Q:Fk->Wp->Prop}(ho:s.heap.get? l=some o)(hc:o.cls = .type "tuple")(hd:o.data = .seq vs.toArray n)(hS:StrsAre vs ss)(wQ:vs.length<64)
  (h:∀out ms,StrsAre out.toList ms->ms.Perm ss->Z3 ms=true->Q (.ref (s.heap.objs.size+1)) { s with heap:=sortedAll s.heap vs out }):YX (YW prog w) A (call (.builtin "sorted") [.ref l]) Q E s:=by
 have k1:((s.heap.push (Qbr "list" #[] 0)).update s.heap.objs.size (ZF (· ++ vs.toArray))).objs.size=s.heap.objs.size+1:=(Heap.size_update ..).trans (size_push' _ _);have k2:(((s.heap.push (Qbr "list" #[] 0)).update s.heap.objs.size (ZF (· ++ vs.toArray))).push (Qbr "list" vs.toArray 0)).get? _=some (Qbr "list" vs.toArray 0):=Jh _ rfl;refine Qd6 kind_sorted plain_sorted entry_sorted (args_sorted1 _) (be (tz (be (yN ho hc hd (Jg (Yh wQ) ∅) (be (wpAny_newList ?_))))));rw[k1] at k2;rw[k1];refine be (Zf (Zm slot_list_sort ⟨_,k2,rfl⟩ entry_list_sort (list_sort_treeK strKind_oneLt k2 hS.keysOf (fun v₁ v₂ rest e=>keyKind_strs (by rw[<-e];exact hS)) wQ fun st a1 a2=>⟨_,rfl,tz ⟨_,rfl,?_⟩⟩) (args_list_sort _)));obtain⟨ms,h1,h2,h3⟩:=sorted_out_str hS a1 a2;exact h _ ms h1 h2 h3
end
section
variable {X:Cx}(K:Ja)
def Dq (hK:X.K=K:=by rfl):bF X (.builtin "sorted") (fun xs H Q=>∃p ss,xs=[.ref p]/\aY K H p (ss.map V.str)/\ss.length<64 /\
  ∀ms q H',ms.Perm ss->Z3 ms=true->jg H q (.lst (ms.map V.str)) H'->Q (.ref q) H'):=by
 subst hK;intro pins s σ H xs us Q I r h;obtain⟨p,ss,rfl,hq,hl,q⟩:=h;obtain⟨u,rfl,ru⟩:=vals1 r;cases ru;obtain⟨aF,rv,⟨o,ho,hc,n,hd⟩,hz⟩:=I.tuple hq;have hn:aF.length=ss.length:=by have:=rv.length;rw[Jd] at this;exact this.symm
 refine xU ho hc hd (ji rv) ⋯ fun out ms a1 a2 a3 =>?_;obtain⟨e,he⟩:=sortedAll_at s.heap aF out;have hm:=a2.length_eq;refine⟨.ref (s.heap.objs.size+1),_,I.laid (o := .lst (ms.map V.str)) (fun _ _=>sortedAll_old) (Yu _) ⟨?_,out.toList,e,lU a1,?_⟩,rfl,q ms _ _ a2 a3 ⟨I.bq.fresh (Yu _),rfl⟩⟩
 ·rw[Jd];exact Jg (show ms.length<=64 by lia) ∅
 ·simpa [Qbr] using he
def wc (hK:X.K=K:=by rfl):bF X (.builtin "sorted") (fun xs H Q=>∃p ss,xs=[.ref p]/\(bg K H p (ss.map V.str)\/aY K H p (ss.map V.str))/\ss.length<64 /\
  ∀ms q H',ms.Perm ss->Z3 ms=true->jg H q (.lst (ms.map V.str)) H'->Q (.ref q) H'):=by
 intro pins s σ H xs us Q I r h;obtain⟨p,ss,e,hq,hl,q⟩:=h
 rcases hq with hq|hq
 ·exact L2.sortedS K hK s σ H xs us Q I r ⟨p,ss,e,hq,hl,q⟩
 ·exact Dq K hK s σ H xs us Q I r ⟨p,ss,e,hq,hl,q⟩
end
def F0:Qar (.type "tuple") "keys" = pure none:=rfl
def Mw:Qar (.type "tuple") "__getattr__" = pure none:=by intros;rfl
section
variable {prog:YZ}{w:Zb}{A:Zs}{E:Fk->Wp->Prop}{h:Heap}{g:Array QdO}{d:Drawn}{t:Nat}{os:OsState}{a:Gc}{o:Obj}
def wg {tk:Tok}{Q:Fin->Wp->Prop}(hx:h.get? a=some o)(hc:o.cls = .type "tuple")(pK:o.dict=none){xs:Array Fk}{n:Nat}(hd:o.data = .seq xs n)(hh:A.handled=none)
  (hq:∀e h' t',(∀b o,h.get? b=some o->h'.get? b=some o)->(∃oe,h'.get? e=some oe/\oe.cls = .type "AttributeError")->E (.ref e) ⟨h',g,d,t',os⟩) :
  YX (YW prog w) A (Builtin.«object.__getattribute__» ⟨[.ref a,.str "keys" tk],[]⟩) Q E ⟨h,g,d,t,os⟩:=by
 have hT:(⟨h,g,d,t,os⟩:Wp).TypeIs (.ref a) "tuple":=⟨_,hx,hc⟩
 have f4:=F0
 repeat (any_goals (first|assumption|wp_step))
 rw[hd]
 repeat (any_goals (first|assumption|wp_step))
 rw[pK,hc]
 repeat (any_goals (first|assumption|wp_step))
 have f9:=mE;unfold QeQ noteAttr
 wp_walk
 repeat (any_goals (first|assumption|wp_step))
 refine Z4 hh (hq _ _ _ (fun b o' x =>?_) ⟨_,J2 _ (Jh _ rfl) rfl,rfl⟩);have x1:=Jb { cls:=Z0 "tuple",data:=Data.seq #[Qbw (W1 (toString "'" ++ toString ((Qce "tuple").elim "tuple" fun x=>x.tpName)++toString "' object has no attribute '")++W1 "keys" ++ W1 "'") t] } x;rw[J3 _ _ (Ul (Jf x1))];exact Jb _ x1
def y7 {R:QaU->Wp->Prop}(hx:h.get? a=some o)(hc:o.cls = .type "tuple")(pK:o.dict=none){xs:Array Fk}{n:Nat}(hd:o.data = .seq xs n)(hh:A.handled=none)
  (hq:∀e h' t',(∀b o,h.get? b=some o->h'.get? b=some o)->(∃oe,h'.get? e=some oe/\oe.cls = .type "AttributeError")->R (.error (.ref e)) ⟨h',g,d,t',os⟩) :
  ZW (YW prog w) A (.call (.builtin "tuple.__getattribute__") ⟨[.ref a,.str "keys" tk],[]⟩) R ⟨h,g,d,t,os⟩:=
 Qac F.slot_tuple_getattribute.plain F.entry_tuple_ga (F.slot_tuple_getattribute.check _ _ _ _ _ _ _ _ (show(⟨h,g,d,t,os⟩:Wp).TypeIs (.ref a) "tuple" from⟨_,hx,hc⟩) (F.args_tuple_getattribute_2 _ _) (wg hx hc pK hd hh hq))
def xF (hx:h.get? a=some o)(hc:o.cls = .type "tuple")(pK:o.dict=none){xs:Array Fk}{n:Nat}(hd:o.data = .seq xs n)(hh:A.handled=none)
  (hq:∀h' t',(∀b o,h.get? b=some o->h'.get? b=some o)->Q none ⟨h',g,d,t',os⟩):YX (YW prog w) A (getAttr? (.ref a) "keys") Q E ⟨h,g,d,t,os⟩:=by
 have hT:(⟨h,g,d,t+1,os⟩:Wp).TypeIs (.ref a) "tuple":=⟨_,hx,hc⟩
 have f2:=F.slot_tuple_getattribute.lookup;have f3:=F.slot_tuple_getattribute.bind (.ref a);have f4:=Mw
 repeat (any_goals (first|assumption|wp_step))
 refine y7 hx hc pK hd hh fun e h' t' k hoe =>?_;have NY:ZY ⟨h',g,d,t',os⟩ (.ref e) "AttributeError":=hoe;have f5:=mE;refine be (ZC NY f5 ?_)
 repeat (any_goals (first|assumption|wp_step))
 exact hq h' t' k
end
section
variable {prog:YZ}{w:Zb}{K:Type}[DecidableEq K]{knd:KeyKind prog w K}{A:Zs}{E:Fk->Wp->Prop}
def nR {s:Wp}{R:QaU->Wp->Prop}{it l d:Gc}{items:Array Fk}{kvs:List (K×Fk)}{g:Heap}(hh:A.in1.handled=none)(hl:g.IsTuple l items)(hn:items.size=kvs.length)(hz:kvs.length<=100000)
  (hp:∀(j:Nat) v kv,items[j]? = some v->kvs[j]? = some kv->lz knd g v kv) (lit:∀b o,g.get? b=some o->b≠it/\b≠d) (ne:d≠it)
  (fin:∀h tk,(∀b o,b≠d->b≠it->g.get? b=some o->h.get? b=some o)->h.DictOf knd d (QbY [] kvs)->R (.ok (.ret .none)) { s with heap:=h,toks:=tk }) :
  ∀k i h tk acc,i+k=kvs.length->acc.length<=i->QbY acc (kvs.drop i)=QbY [] kvs->(∀b o,b≠d->b≠it->g.get? b=some o->h.get? b=some o)->h.IsTupleIter it l i->h.DictOf knd d acc ->
   ZW (YW prog w) A (.builtin "dict.update.loop" ⟨[.ref d,.ref it,ZT i,.none],[]⟩) R { s with heap:=h,toks:=tk }
 | 0,i,h,tk,acc,hk,ha,hm,kp,hi,hd=>by
  have e:i=kvs.length:=by lia
  subst e;have Iw:h.IsTuple l items:=by
   obtain⟨o,ho,r⟩:=hl;exact⟨o,kp _ _ (lit _ _ ho).2 (lit _ _ ho).1 ho,r⟩
  refine ZD cz (be (wpAny_pyNext_tuple_end hh hi Iw (by rw[Ur ⋯]) fun h' eb =>?_));refine be (tz (tz (fin h' tk (fun b o nd ni x=>eb b o ni (kp b o nd ni x)) ?_)));rw[Qdm] at hm;rw[<-hm];obtain⟨o,es,ep,ho,r⟩:=hd;exact⟨o,es,ep,eb _ _ ne ho,r⟩
 | k+1,i,h,tk,acc,hk,ha,hm,kp,hi,hd=>by
  have jv:i<kvs.length:=by lia
  have Iw:h.IsTuple l items:=by
   obtain⟨o,ho,r⟩:=hl;exact⟨o,kp _ _ (lit _ _ ho).2 (lit _ _ ho).1 ho,r⟩
  have wJ:items[i]? = some items[i]:=Jx ⋯;obtain⟨tp,o,n,ku,ev,ho,hc,xx,hkey⟩:=hp i _ _ wJ (Jc jv);refine ZD cz (be (wpAny_pyNext_tuple_item hi Iw wJ fun h1 hi1 Gb =>?_));rw[ev];have IT:=Gb.extBut _ _ (lit _ _ ho).1 (kp _ _ (lit _ _ ho).2 (lit _ _ ho).1 ho);have MB:h1.DictOf knd d acc:=by
   obtain⟨o,es,ep,ho,r⟩:=hd;exact⟨o,es,ep,Gb.extBut _ _ ne ho,r⟩
  have hT:ZY { s with heap:=h1,toks:=tk } (.ref tp) "tuple":=⟨o,IT,hc⟩
  refine be (Zf (be (QeN (be (ZV hT (be (Zq IT xx (tz (Zf (QbM hkey MB (fun h2 Mq sb2=>(tz ⟨ZU cC _,?_⟩)) (Jg (show acc.length<=100000 by lia) ∅)))))))))));have:=nR hh hl hn hz hp lit ne fin k (i+1) h2 (tk+1) (Qdr acc kvs[i].1 kvs[i].2) ⋯ ?_ ?_ (fun b o nd ni x=>sb2.extBut b o nd (Gb.extBut b o ni (kp b o nd ni x))) ?_ Mq
  ·exact this
  ·refine Jg ?_ (We ha);unfold Qdr
   split
   ·rw[Jd];exact Yu _
   ·rw[Jt];exact Je _
  ·rw[<-hm,QbP jv]
   rfl
  ·obtain⟨oi,e1,r⟩:=hi1;exact⟨oi,sb2.extBut _ _ (Zx ne) e1,r⟩
def wm {Q:Fk->Wp->Prop}{l:Gc}{items:Array Fk}{kvs:List (K×Fk)}{ol:Obj}{n:Nat}(hh:A.handled=none)(ho:s.heap.get? l=some ol)(hc:ol.cls = .type "tuple")(pK:ol.dict=none)(hd:ol.data = .seq items n)(hn:items.size=kvs.length)(hz:kvs.length<=100000)
  (hp:∀(j:Nat) v kv,items[j]? = some v->kvs[j]? = some kv->lz knd s.heap v kv)
  (fin:∀h tk,(∀b o,s.heap.get? b=some o->h.get? b=some o)->h.DictOf knd s.heap.objs.size (QbY [] kvs)->Q (.ref s.heap.objs.size) { s with heap:=h,toks:=tk }) :
  YX (YW prog w) A (call (.type "dict") [.ref l]) Q E s:=by
 refine QbZ (Q₁:=fun obj s₁=>obj = .ref s.heap.objs.size/\s₁={ s with heap:=s.heap.push { cls := .type "dict",data := .dict #[] } }) QdR (QcT _) Qdy (Qec _ ⟨rfl,rfl⟩) ?_;rintro obj s1 ⟨rfl,rfl⟩;have new:(s.heap.push { cls := .type "dict",data := .dict #[] }).DictOf knd s.heap.objs.size []:=QbQ s.heap;have k0:∀b o,s.heap.get? b=some o->(s.heap.push { cls := .type "dict",data := .dict #[] }).get? b=some o:=fun b o x=>Jb _ x;refine⟨new.typeIs,Qdg _ _,(be (be (QcN new.typeIs (tz ?_))))⟩;have hT:ZY { s with heap:=s.heap.push { cls := .type "dict",data := .dict #[] } } (.ref l) "tuple":=⟨ol,k0 _ _ ho,hc⟩
 refine be (ZV hT (be (xF (k0 _ _ ho) hc pK hd hh fun h1 t1 k1 =>?_)));have kk:=fun b o x=>k1 b o (k0 b o x);refine be (Qah (be (Qdp ⟨ol,kk _ _ ho,hc,n,hd⟩ ?_)));have hS:s.heap.objs.size<h1.objs.size:=by
  obtain⟨o,es,ep,e,_⟩:=new;exact Jf (k1 _ _ e)
 refine tz ⟨ZU cC _,?_⟩;have low:∀b o,s.heap.get? b=some o->b≠h1.objs.size/\b≠s.heap.objs.size:=fun b o x=>⟨Jl (Jf (kk b o x)),Jl (Jf x)⟩
 refine nR (A:=A.in1) hh ⟨ol,ho,hc,n,hd⟩ hn hz hp low (Jl hS) (fun h tk k dd=>⟨rfl,fin h tk (fun b o x=>k b o (low b o x).2 (low b o x).1 x) dd⟩) kvs.length 0 _ _ [] ⋯ (Je _) rfl (fun b o nd ni x=>Jb _ (kk b o x)) ⟨_,Jh _ rfl,rfl,rfl⟩ ?_;obtain⟨o,es,ep,e,r⟩:=new;exact⟨o,es,ep,Jb _ (k1 _ _ e),r⟩
end
section
variable {X:Cx}{pins:List (Gc×Obj)}{σ:St}{H:Hp}{s:Wp}
def Kz (K:Ja)(hc:X.calm=true)(hK:X.K=K:=by rfl):bF X (.type "dict") (fun xs H Q=>∃(p:Gc) (as:List Gc) (kvs:List (Key×V)),xs=[.ref p]/\aY K H p (as.map V.ref)/\as.length=kvs.length/\kvs.length<=100000 /\
  (∀(j:Nat) b kv,as[j]? = some b->kvs[j]? = some kv->aY K H b [kV kv.1,kv.2])/\∀d H',jg H d (.dK (cB [] kvs)) H'->Q (.ref d) H'):=by
 subst hK;intro pins s σ H xs us Q I r h;obtain⟨p,as,kvs,rfl,hp,hl,hz,ht,q⟩:=h;obtain⟨u,rfl,ru⟩:=vals1 r;cases ru;obtain⟨aF,rv,⟨o,e1,e3,e2,n,e4⟩,_⟩:=I.mJ hp;obtain⟨vs,kv,pa⟩:=rG I _ hl ht;have hits:=lD rv;have kl:=kv.length;refine wm (knd:=bC X.prog X.w) (kvs:=vs) (I.ok.hd hc) e1 e2 e3 e4 (by rw[hits];simp;lia) ⋯ (fun j v kw h1 h2 =>?_) fun h1 tk k1 dd =>?_
 ·rw[hits] at h1;simp only[Qbf,Jk] at h1;cases e:as[j]? with
  | none=>rw[e] at h1;cases h1
  | some b=>rw[e] at h1;cases h1;exact pa j b kw e h2
 ·have ml:=dP kvs [];exact⟨.ref s.heap.objs.size,_,I.laid (o := .dK (cB [] kvs)) k1 (Je _) ⟨Jg (show _<=100000 by simp at ml;lia) ∅,(beq_eq_false_iff_ne.mpr (Ul I.big)),_,KV.merge kv .nil,dd⟩,rfl,q _ _ ⟨I.bq.fresh (Je _),rfl⟩⟩
def Kn (K:Ja)(hc:X.calm=true)(hK:X.K=K:=by rfl):bF X (.type "dict") (fun xs H Q=>∃(p:Gc) (as:List Gc) (kvs:List (Key×V)),xs=[.ref p]/\(bg K H p (as.map V.ref)\/aY K H p (as.map V.ref))/\as.length=kvs.length/\kvs.length<=100000 /\
  (∀(j:Nat) b kv,as[j]? = some b->kvs[j]? = some kv->aY K H b [kV kv.1,kv.2])/\∀d H',jg H d (.dK (cB [] kvs)) H'->Q (.ref d) H'):=by
 intro pins s σ H xs us Q I r h;obtain⟨p,as,kvs,e,hp,hl⟩:=h
 rcases hp with hp|hp
 ·exact pI K hc hK s σ H xs us Q I r ⟨p,as,kvs,e,hp,hl⟩
 ·exact Kz K hc hK s σ H xs us Q I r ⟨p,as,kvs,e,hp,hl⟩
def Ls (hc:X.calm=true):bF X (.type "list") (fun xs H Q=>lW fun d es n kvs=>xs=[.ref d]/\zg X.K X.prog X.w d es n kvs/\kvs.length<=1000/\∀p H',jg H p (.lst ((kvs.map (·.1)).map V.str)) H'->Q (.ref p) H'):=by
 intro pins s σ H xs us Q I r h;obtain⟨d,es,n,kvs,rfl,D,wQ,q⟩:=h;obtain⟨u,rfl,ru⟩:=vals1 r;cases ru;refine kdl_call (kdl_dict D.ns) (I.ok.hd hc) (D.at I.iQ) (Jg wQ ∅) fun h' tk acc c k hS items=>⟨.ref s.heap.objs.size,_,I.laid (o := .lst ((kvs.map (·.1)).map V.str)) k (Je _) ⟨by rw[Jd,Jd];exact Jg wQ ∅,acc.toList,c,?_,by simpa using hS⟩,rfl,q _ _ ⟨I.bq.fresh (Je _),rfl⟩⟩
 have hi:=fun j v ej=>items.2 j v (by rw[<-Uz];exact ej);have hl:acc.toList.length=kvs.length:=by rw[Ue];exact items.1
 generalize acc.toList=aF at hi hl;clear D items q wQ
 induction kvs generalizing aF with
 | nil=>rw[Uy hl];exact .nil
 | cons p kvs ih=>
  cases aF with
  | nil=>cases hl
  | cons v aF=>
   refine .cons ?_ (ih aF (fun j u e=>hi (j+1) u e) (QcJ hl));obtain⟨k,x,e1,e2⟩:=hi 0 v rfl;cases e1;obtain⟨t,e3⟩:=QcF e2;exact⟨t,e3⟩
end
section
variable {X:Cx}
def qw:∀{xs:List Bool} {aF:List Fk},Vals (xs.map V.bl) aF->aF=xs.map Qat
 | [],_,h=>by cases h;rfl
 | b::xs,_,h=>by
  cases h with
  | cons r1 r2=>rw[Jz,qw r2,show _=Qat b from r1]
def Hh:Fk->Bool
 | .bool b=>b==true
 | _=>false
def LD:HD X "list.count" (fun x vs H Q=>∃(l:Gc) (xs:List Bool),x = .ref l/\vs=[.bl true]/\H l=some (.lst (xs.map V.bl))/\Q (.int (xs.countP (· == true):Nat)) H):=by
 intro pins s σ H x vs v us Q I rx rv h;obtain⟨l,xs,rfl,rfl,hH,q⟩:=h;cases rx;obtain⟨u,rfl,ru⟩:=vals1 rv;cases ru;obtain⟨z,aF,n,r,hl,e⟩:=I.tS hH;obtain rfl:=qw r;refine QaH F.slot_list_count ⟨_,e,rfl⟩ F.entry_list_count (F.args_list_count_2 _ _) (SeqAt.list_countAt l _ n none #[] (.bool true) Hh) ⟨e,fun w hw =>?_,?_⟩
 ·have hw:w∈xs.map Qat:=by simpa using hw
  obtain⟨b,_,rfl⟩:=Ux.mp hw;exact Qb2 b true
 ·have ec:(xs.map Qat).toArray.toList.countP Hh=xs.countP (· == true):=by
   rw[List.countP_map];rfl
  exact⟨.int _,H,I.tok _,⟨_,by rw[ec]⟩,q⟩
def Lw:HD X "list.index" (fun x vs H Q=>∃(l:Gc) (xs:List Bool) (j:Nat),x = .ref l/\vs=[.bl true]/\H l=some (.lst (xs.map V.bl))/\xs[j]? = some true/\(∀m,m<j->xs[m]? ≠ some true)/\Q (.int (j:Nat)) H):=by
 intro pins s σ H x vs v us Q I rx rv h;obtain⟨l,xs,j,rfl,rfl,hH,hj,C0,q⟩:=h;cases rx;obtain⟨u,rfl,ru⟩:=vals1 rv;cases ru;obtain⟨z,aF,n,r,hl,e⟩:=I.tS hH;obtain rfl:=qw r;have jl:=(Ji.mp hj).1;have zl:(xs.map Qat).toArray.size=xs.length:=by rw[Jv,Jd]
 have hn:=mK;rw[Jd] at z;have at':∀m (hm:m<(xs.map Qat).toArray.size),Hh (xs.map Qat).toArray[m]=(xs[m]'⋯==true):=fun m hm=>by
  simp only[List.getElem_toArray,Yy];rfl
 refine QaH F.slot_list_index ⟨_,e,rfl⟩ F.entry_list_index (F.args_list_index_2 _ _) (SeqAt.list_indexAt l _ n none #[] (.bool true) Hh j ⋯ ⋯ ?_ ?_) ⟨e,fun w hw =>?_,?_⟩
 ·rw[at' j ⋯,(Ji.mp hj).2];rfl
 ·intro m hm hmj;rw[at' m hm];have:=C0 m hmj;rw[Jc ⋯] at this;cases ev:xs[m]'⋯ with
  | false=>rfl
  | true=>rw[ev] at this;exact absurd rfl this
 ·have hw:w∈xs.map Qat:=by simpa using hw
  obtain⟨b,_,rfl⟩:=Ux.mp hw;exact Qb2 b true
 ·exact⟨.int _,H,I.tok _,⟨_,rfl⟩,q⟩
end
def Eh:Qar (.type "zip") "keys" = pure none:=by intros;rfl
def Lv:Qar (.type "zip") "__getattr__" = pure none:=by intros;rfl
def LA:entryFor table "zip.__getattribute__" = some Builtin.«object.__getattribute__»:=entryFor_alias (id' := "object.__getattribute__") (by kernel_rfl) ∅ ∅ (by kernel_rfl)
section
variable {prog:YZ}{w:Zb}{A:Zs}{E:Fk->Wp->Prop}{h:Heap}{g:Array QdO}{d:Drawn}{t:Nat}{os:OsState}{a:Gc}{o:Obj}{fs:Array Fk}
def vg {tk:Tok}{Q:Fin->Wp->Prop}(hx:h.get? a=some o)(hc:o.cls = .type "zip")(pK:o.dict=none)(hd:o.data = .fields fs)(hh:A.handled=none)
  (hq:∀e h' t',(∀b o,h.get? b=some o->h'.get? b=some o)->(∃oe,h'.get? e=some oe/\oe.cls = .type "AttributeError")->E (.ref e) ⟨h',g,d,t',os⟩) :
  YX (YW prog w) A (Builtin.«object.__getattribute__» ⟨[.ref a,.str "keys" tk],[]⟩) Q E ⟨h,g,d,t,os⟩:=by
 have hT:(⟨h,g,d,t,os⟩:Wp).TypeIs (.ref a) "zip":=⟨_,hx,hc⟩
 have f4:=Eh
 repeat (any_goals (first|assumption|wp_step))
 rw[hd];dsimp only;unfold instanceDict
 repeat (any_goals (first|assumption|wp_step))
 rw[pK,hc]
 repeat (any_goals (first|assumption|wp_step))
 have f9:=mE;unfold QeQ noteAttr
 wp_walk
 rw[show(Qce "AttributeError").elim false (fun t=>t.mro.contains "StopIteration" || t.mro.contains "SystemExit")=false by decide +kernel,if_neg Jr]
 repeat (any_goals (first|assumption|wp_step))
 refine Z4 hh (hq _ _ _ (fun b o' x =>?_) ⟨_,J2 _ (Jh _ rfl) rfl,rfl⟩);have x1:=Jb (h:=h) { cls:=Z0 "tuple",data:=Data.seq #[Qbw (W1 (toString "'" ++ toString ((Qce "zip").elim "zip" fun x=>x.tpName)++toString "' object has no attribute '")++W1 "keys" ++ W1 "'") t] } x;rw[J3 _ _ (Ul (Jf x1))];exact Jb _ x1
def x8 {Q:Option Fk->Wp->Prop}(hx:h.get? a=some o)(hc:o.cls = .type "zip")(pK:o.dict=none)(hd:o.data = .fields fs)(hh:A.handled=none)
  (hq:∀h' t',(∀b o,h.get? b=some o->h'.get? b=some o)->Q none ⟨h',g,d,t',os⟩):YX (YW prog w) A (getAttr? (.ref a) "keys") Q E ⟨h,g,d,t,os⟩:=by
 have hT:(⟨h,g,d,t+1,os⟩:Wp).TypeIs (.ref a) "zip":=⟨_,hx,hc⟩
 have f2:=F.slot_zip_getattribute.lookup;have f3:=F.slot_zip_getattribute.bind (.ref a);have f4:=Lv
 repeat (any_goals (first|assumption|wp_step))
 refine Qac F.slot_zip_getattribute.plain LA (F.slot_zip_getattribute.check _ _ _ _ _ _ _ _ hT (F.args_zip_getattribute_2 _ _) (vg hx hc pK hd hh fun e h' t' k hoe =>?_));have NY:ZY ⟨h',g,d,t',os⟩ (.ref e) "AttributeError":=hoe;have f5:=mE;refine be (ZC NY f5 ?_)
 repeat (any_goals (first|assumption|wp_step))
 exact hq h' t' k
end
section
variable {prog:YZ}{w:Zb}{K:Type}[DecidableEq K]{knd:KeyKind prog w K}{A:Zs}{E:Fk->Wp->Prop}
variable {it d:Gc}{T:String}{fp:Gc->Prop}{n:Nat}{P:Nat->Fk->Heap->Prop}{R:Fk->Fk->Prop}{St:Nat->Heap->Prop}
def vT {s:Wp}{Z:QaU->Wp->Prop}{kvs:List (K×Fk)}{g:Heap}(Fd:vA prog w A.in1 it d T fp n P R St)(hn:n=kvs.length)(hz:kvs.length<=100000)
  (hp:∀(j:Nat) v kv h,P j v h->kvs[j]? = some kv->lz knd h v kv)
  (fin:∀h tk,Keeps g h (fun b=>fp b\/b=d)->h.DictOf knd d (QbY [] kvs)->Z (.ok (.ret .none)) { s with heap:=h,toks:=tk }) :
  ∀k i h tk acc,i+k=kvs.length->acc.length<=i->QbY acc (kvs.drop i)=QbY [] kvs->Keeps g h (fun b=>fp b\/b=d)->St i h->h.DictOf knd d acc ->
   ZW (YW prog w) A (.builtin "dict.update.loop" ⟨[.ref d,.ref it,ZT i,.none],[]⟩) Z { s with heap:=h,toks:=tk }
 | 0,i,h,tk,acc,hk,ha,hm,kp,hi,hd=>by
  have e:i=n:=by lia
  subst e;refine ZD cz ?_;have dl:d<h.objs.size:=by obtain⟨o,es,ep,ho,r⟩:=hd;exact Jf ho
  refine be (Fd.stop { s with heap:=h,toks:=tk } _ _ hi dl fun h' tk' k'=>be (tz (tz (fin h' tk' (fun b o nb x=>k' b o (fun z=>nb (.inl z)) (kp b o nb x)) ?_))));rw[hn,Qdm] at hm;rw[<-hm];obtain⟨o,es,ep,ho,r⟩:=hd;exact⟨o,es,ep,k' _ _ Fd.sfp ho,r⟩
 | k+1,i,h,tk,acc,hk,ha,hm,kp,hi,hd=>by
  have jv:i<kvs.length:=by lia
  have dl:d<h.objs.size:=by obtain⟨o,es,ep,ho,r⟩:=hd;exact Jf ho
  refine ZD cz (be (Fd.item i { s with heap:=h,toks:=tk } _ _ ⋯ hi dl fun v h1 tk1 k1 m5 p1 r1 =>?_));obtain⟨tp,o,m,ku,ev,IT,hc,xx,hkey⟩:=hp i _ _ _ p1 (Jc jv);subst ev;have MB:h1.DictOf knd d acc:=by
   obtain⟨o,es,ep,ho,r⟩:=hd;exact⟨o,es,ep,k1 _ _ Fd.sfp ho,r⟩
  have hT:ZY { s with heap:=h1,toks:=tk1 } (.ref tp) "tuple":=⟨o,IT,hc⟩
  refine be (Zf (be (QeN (be (ZV hT (be (Zq IT xx (tz (Zf (QbM hkey MB (fun h2 Mq sb2=>(tz ⟨ZU cC _,?_⟩)) (Jg (show acc.length<=100000 by lia) ∅)))))))))));have T4:=fun b o nb x=>sb2.extBut b o nb x;refine vT Fd hn hz hp fin k (i+1) h2 _ (Qdr acc kvs[i].1 kvs[i].2) ⋯ ?_ ?_ (fun b o nb x=>T4 b o (fun z=>nb (.inr z)) (k1 b o (fun z=>nb (.inl z)) (kp b o nb x))) (Fd.keepS _ _ _ m5 T4) Mq
  ·refine Jg ?_ (We ha);unfold Qdr
   split
   ·rw[Jd];exact Yu _
   ·rw[Jt];exact Je _
  ·rw[<-hm,QbP jv]
   rfl
def Ed {Q:Fk->Wp->Prop}{kvs:List (K×Fk)}{oz:Obj}{fs:Array Fk}(hh:A.handled=none)(hT:T = "zip")(ho:s.heap.get? it=some oz)(hc:oz.cls = .type "zip")(pK:oz.dict=none)(hd:oz.data = .fields fs)
  (Fd:vA prog w A.in1.in1 it s.heap.objs.size T fp n P R St) (hn:n=kvs.length) (hz:kvs.length<=100000) (hp:∀(j:Nat) v kv h,P j v h->kvs[j]? = some kv->lz knd h v kv) (lA:∀h',(∀b o,s.heap.get? b=some o->h'.get? b=some o)->St 0 h')
  (fin:∀h tk,Keeps s.heap h fp->h.DictOf knd s.heap.objs.size (QbY [] kvs)->Q (.ref s.heap.objs.size) { s with heap:=h,toks:=tk }) :
  YX (YW prog w) A (call (.type "dict") [.ref it]) Q E s:=by
 refine QbZ (Q₁:=fun obj s₁=>obj = .ref s.heap.objs.size/\s₁={ s with heap:=s.heap.push { cls := .type "dict",data := .dict #[] } }) QdR (QcT _) Qdy (Qec _ ⟨rfl,rfl⟩) ?_;rintro obj s1 ⟨rfl,rfl⟩;have new:(s.heap.push { cls := .type "dict",data := .dict #[] }).DictOf knd s.heap.objs.size []:=QbQ s.heap;have k0:∀b o,s.heap.get? b=some o->(s.heap.push { cls := .type "dict",data := .dict #[] }).get? b=some o:=fun b o x=>Jb _ x;refine⟨new.typeIs,Qdg _ _,(be (be (QcN new.typeIs (tz ?_))))⟩;have WS:ZY { s with heap:=s.heap.push { cls := .type "dict",data := .dict #[] } } (.ref it) "zip":=⟨oz,k0 _ _ ho,hc⟩
 refine be (ZV WS (be (x8 (k0 _ _ ho) hc pK hd hh fun h1 t1 k1 =>?_)));have kk:=fun b o x=>k1 b o (k0 b o x);have m5:=lA h1 kk;have Q7:h1.DictOf knd s.heap.objs.size []:=by
  obtain⟨o,es,ep,e,r⟩:=new;exact⟨o,es,ep,k1 _ _ e,r⟩
 exact be (Qah (be (Fd.self ⟨h1,s.gens,s.drawn,t1,s.os⟩ _ _ m5 (tz ⟨ZU cC _,(vT Fd hn hz hp (fun h tk k dd=>⟨rfl,fin h tk (fun b o nb x=>k b o (fun z=>z.elim nb fun z=>ck (Jf x) (Je _) z) x) dd⟩) kvs.length 0 _ _ [] ⋯ (Je _) rfl (fun b o nb x=>kk b o x) m5 Q7)⟩))))
end
section
variable {X:Cx}
def Ll:∀{ks:List Key} {aF:List Fk},Vals (ks.map kV) aF->∀(i:Nat) k u,ks[i]? = some k->aF[i]? = some u->RelV (kV k) u
 | ks,aF,r,i,k,u,h1,h2=>by
  obtain⟨u',h3,r3⟩:=r.get (by rw[Jk,h1];rfl);rw[h2] at h3;cases h3;exact r3
def UO (K:Ja)(ta:TA):TE:=fun σ H Q=>ta σ H fun vs H1=>lW fun l1 l2 (ks:List Key) ys=>vs=[.ref l1,.ref l2]/\bg K H1 l1 (ks.map kV)/\bg K H1 l2 ys/\ks.length=ys.length/\ks.length<=100000 /\
 ∀d H',jg H1 d (.dK (cB [] (ks.zip ys))) H'->Q (.ref d) H'
def yF {p p2 pos pE:Pos}(hc:X.calm=true)(Kj:Gl X "dict")(KG:X.mg "dict" = none)(NL:Gl X "zip")(Ng:X.mg "zip" = none)(ha:PA X [a,b] ta)
  (ER:ZO "dict" = some (.type "dict"):=by first|rfl|decide) (Ov:ZO "zip" = some (.type "zip"):=by first|rfl|decide)
  (LH:Ze [.Call (.Name "zip" p2) [a,b] [] pE] X.env=[(false,ZM (.Call (.Name "zip" p2) [a,b] [] pE) X.env)]:=by rfl)
  (hs:Ze [a,b] X.env=[(false,ZM a X.env),(false,ZM b X.env)]:=by rfl) (AG:Ze [b] X.env=[(false,ZM b X.env)]:=by rfl) :
  PE X (.Call (.Name "dict" p) [.Call (.Name "zip" p2) [a,b] [] pE] [] pos) (UO X.K ta):=by
 refine fun pins s σ H Q I h=>ZK (eZ I Kj KG ER (Zl (Qak (Call_ (eZ I NL Ng Ov (Zl (bb (ha s σ H _ I h) fun us s1 hz_=>aj.el hz_ _ fun vs H1 I1 r1 q1 =>?_) (by rw[hs,AG]) (by rw[AG];rfl))))) LH rfl));obtain⟨l1,l2,ks,ys,e,q1,q2,el,ez,q⟩:=q1;subst e;obtain⟨u,w',rfl,r1,r2⟩:=vals2 r1;cases r1;cases r2;obtain⟨its1,rv1,p1,hz1⟩:=I1.list q1;refine aj.el (I1.list q2) _ ?_;rintro its2 rv2 p2 hz2;have e1:=rv1.length;have e2:=rv2.length;rw[Jd] at e1;have a1:l1<s1.heap.objs.size:=by obtain⟨_,e,_⟩:=p1.isList;exact Jf e
 have a2:l2<s1.heap.objs.size:=by obtain⟨_,e,_⟩:=p2.isList;exact Jf e
 refine call_zip_2 p1.isList p2.isList fun h' hz qE yP hi1 hi2 hsz hk=>QaG ?_;have sF:s1.heap.objs.size<=h'.objs.size:=by rw[hsz];exact Ua _ _
 have jB:∀n,n<5->s1.heap.objs.size+n<h'.objs.size:=fun n hn=>by rw[hsz];exact QcS hn _
 have WY:KV (ks.zip ys) (ks.zip its2):=by
  have:∀{ks:List Key} {ys:List V} {aF:List Fk},Vals ys aF->ks.length=ys.length->KV (ks.zip ys) (ks.zip aF):=by
   intro ks
   induction ks with
   | nil=>intro ys aF r e;exact .nil
   | cons k ks ih=>
    intro ys aF r e;cases ys with
    | nil=>cases e
    | cons y ys=>
     obtain⟨v,r',rfl,rv1,rv2⟩:=r.hd;exact .cons ⟨rfl,rv1⟩ (ih rv2 (by simpa using e))
  exact this rv2 el
 have zl:(ks.zip its2).length=ks.length:=by rw[Yl];lia
 refine Ed (knd:=bC X.prog X.w) (kvs:=ks.zip its2) (I1.ok.hd hc) rfl hz rfl rfl rfl
  (uP (I.ok.hd hc) (QdD a1 a2) (jB 4 ∅) (jB 2 ∅) (jB 3 ∅) (jB 0 ∅) (jB 1 ∅) (Jw a1 sF) (Jw a2 sF)) (by simp;lia) ⋯ (fun j v kv h hP hkv =>?_) (fun h2 k2=>⟨k2 _ _ qE,⟨_,_,k2 _ _ yP⟩,hi1.at fun o e=>k2 _ _ e,hi2.at fun o e=>k2 _ _ e,(p1.isList.at fun o e=>hk _ o e).at fun o e=>k2 _ o e,(p2.isList.at fun o e=>hk _ o e).at fun o e=>k2 _ o e,.inl (k2 _ _ hz)⟩) fun h2 tk k2 dd =>?_
 ·obtain⟨a,x,y,rfl,_,gx,gy,pr⟩:=hP;have z:=(Yw).mp hkv;have gy:its2[j]? = some y:=by simpa using gy
  have ey:=Zk (gy.symm.trans z.2);subst ey;exact⟨a,_,_,x,rfl,pr,rfl,rfl,lR (Ll rv1 j kv.1 x z.1 (by simpa using gx))⟩
 ·have kk:∀b o,s1.heap.get? b=some o->h2.get? b=some o:=fun b o e=>by
   have gt:∀n,b≠s1.heap.objs.size+n:=fun n=>Jl (Jw (Jf e) (Ua _ _));exact k2 b o (fun z=>z.elim (gt 4) fun z=>z.elim (gt 3) fun z=>z.elim (gt 0) (gt 1)) (hk b o e)
  have ml:=dP (ks.zip ys) [];exact⟨.ref h'.objs.size,_,I1.laid (o := .dK (cB [] (ks.zip ys))) kk sF ⟨Jg (show _<=100000 by simp at ml;lia) ∅,(beq_eq_false_iff_ne.mpr (Ul (Jw I1.big sF))),_,KV.merge WY .nil,dd⟩,rfl,q _ _ ⟨I1.bq.fresh sF,rfl⟩⟩
end
abbrev qm (h:Heap)(it:Gc)(x:Str)(t:Tok)(i:Nat):Prop:=h.IsStrIter it "str_ascii_iterator" x t i
section
variable {prog:YZ}{w:Zb}{A:Zs}{E:Fk->Wp->Prop}{s:Wp}{z TI TO i1 i2 l a:Gc}{f:Bool}{oa:Obj}{x:Str}{t:Tok}{i c:Nat}{ys:Array Fk}
def Bt (D:Qbz z TI TO i1 i2 l l)(hz:Qe5 s.heap z TI TO .none)(qE:Qam s.heap TI (.ref i1) (.ref i2))(yP:∃a b,Qam s.heap TO a b)
  (h1:qm s.heap i1 x t i) (h2:s.heap.IsListIter i2 l i) (hl:s.heap.IsList l ys) (hx:x.cps[i]? = some c) (hy:ys[i]? = some y)
  (q:∀h' tk tk',Qe5 h' z TI TO (ZT s.heap.objs.size)->(∃a b,Qam h' TO a b)->qm h' i1 x t (i+1)->h'.IsListIter i2 l (i+1)->Qam h' s.heap.objs.size (.str ⟨#[c]⟩ tk) y->Keeps s.heap h' (qr z TO i1 i2)->Q (some (.ref s.heap.objs.size)) { s with heap:=h',toks:=tk' }) :
  YX (YW prog w) A (QaM (.ref z)) Q E s:=by
 obtain⟨a,b,yP⟩:=yP;have hT:s.TypeIs (.ref z) "zip":=⟨_,hz,rfl⟩
 refine be (ZN (Zj hT ZH (Zm ZH hT Qaz ?_ (Qav _))));change YX _ _ (QaO (QeR (.ref z) 2) _) _ _ _;refine be (Zg hz rfl rfl (be (Zg hz rfl rfl (be (Zq qE rfl (be (be (Zg hz rfl rfl (tz (be (Qah (be (Zg hz rfl rfl (be (Zd hz (by simp) fun g1 z1 e1=>be (be (be (Qbv (be (wpAny_nextOf_ascii_item (cX h1 fun o e=>e1.extBut _ _ D.i1z e) hx fun g2 it1 e2=>tz ?_))))))))))))))))))));have to2:=e2.extBut _ _ D.TOi1 (e1.extBut _ _ D.TOz yP);refine be (Zq to2 rfl (be (QaQ to2 fun g3 to3 e3=>be (Qba (tz ?_)))));have EW:Keeps s.heap g3 (fun c=>c=z\/c=i1\/c=TO):=fun c o nc e=>e3.extBut _ _ (fun q=>nc (.inr (.inr q))) (e2.extBut _ _ (fun q=>nc (.inr (.inl q))) (e1.extBut _ _ (fun q=>nc (.inl q)) e));refine be (be (Qbv (be (Qal (h2.at fun o e=>EW _ _ (fun q=>q.elim D.i2z fun q=>q.elim D.i12.symm D.TOi2.symm) e) (hl.at fun o e=>EW _ _ (fun q=>q.elim D.l2z fun q=>q.elim D.l2i1 D.l2TO) e) hy fun g4 it2 e4=>tz ?_))));have PV:=e4.extBut _ _ D.TOi2 to3;refine be (Zq PV rfl (be (QaQ PV fun g5 HI e5=>be (Qba (tz (tz ?_))))));have HI:Qam g5 TO (.str ⟨#[c]⟩ s.toks) y:=HI;refine be (Zq HI rfl (be (Qbi ?_)));have hsz:g5.objs.size=s.heap.objs.size:=by rw[e5.1,e4.1,e3.1,e2.1,e1.1]
 have z5:=e5.extBut _ _ D.TOz.symm (e4.extBut _ _ D.i2z.symm (e3.extBut _ _ D.TOz.symm (e2.extBut _ _ D.i1z.symm z1)));have k5:Keeps s.heap g5 (qr z TO i1 i2):=fun c o nc e=>e5.extBut _ _ (fun q=>nc (.inr (.inl q))) (e4.extBut _ _ (fun q=>nc (.inr (.inr (.inr q)))) (EW c o (fun q=>q.elim (fun q=>nc (.inl q)) fun q=>q.elim (fun q=>nc (.inr (.inr (.inl q)))) fun q=>nc (.inr (.inl q))) e));have PN:=Jf z5;refine be ?_;have z6:Qe5 (g5.push { cls := .type "tuple",data := .seq #[.str ⟨#[c]⟩ s.toks,y] }) z TI TO .ellipsis:=Jb _ z5;refine be (Zd z6 (by simp) fun g7 z7 e7=>Zd z7 (by simp) fun g8 z8 e8=>tz ⟨_,rfl,tz ?_⟩);have up:∀c o,c≠z->g5.get? c=some o->g8.get? c=some o:=fun c o c1 e=>e8.extBut _ _ c1 (e7.extBut _ _ c1 (Jb _ e));have tp:=e8.extBut _ _ (Ul PN) (e7.extBut _ _ (Ul PN) (Jh _ rfl));rw[hsz] at z8 tp ⊢;exact q g8 s.toks (s.toks+1) z8 ⟨_,_,up _ _ D.TOz HI⟩ (cX (cX it1 fun o e=>e5.extBut _ _ D.TOi1.symm (e4.extBut _ _ D.i12 (e3.extBut _ _ D.TOi1.symm e))) fun o e=>up _ o D.i1z e) ((it2.at fun o e=>e5.extBut _ _ D.TOi2.symm e).at fun o e=>up _ o D.i2z e) tp fun c o nc e=>up c o (fun q=>nc (.inl q)) (k5 c o nc e)
def DD (D:Qbz z TI TO i1 i2 l l)(hz:iw s.heap z TI TO a f)(ha:s.heap.get? a=some oa)(qE:Qam s.heap TI (.ref i1) (.ref i2))
  (h1:qm s.heap i1 x t i) (h2:s.heap.IsListIter i2 l i) (hl:s.heap.IsList l ys) (hx:x.cps[i]? = some c) (hy:ys[i]? = some y)
  (q:∀h' tk tk',iw h' z TI TO a true->qm h' i1 x t (i+1)->h'.IsListIter i2 l (i+1)->Qam h' s.heap.objs.size (.str ⟨#[c]⟩ tk) y->Keeps s.heap h' (fun b=>b=z\/b=i1\/b=i2)->Q (some (.ref s.heap.objs.size)) { s with heap:=h',toks:=tk' }) :
  YX (YW prog w) A (QaM (.ref z)) Q E s:=by
 have hT:s.TypeIs (.ref z) "zip":=⟨_,hz,rfl⟩
 refine be (ZN (Zj hT ZH (Zm ZH hT Qaz ?_ (Qav _))));change YX _ _ (QaO (QeR (.ref z) 2) _) _ _ _;refine be (Zg hz rfl rfl (be (Zg hz rfl rfl (be (Zq qE rfl (be (l9 hz ha fun h0 z0 k0=>be (be (be (Zf (be (wpAny_nextOf_ascii_item (cX h1 fun o e=>k0.extBut _ _ D.i1z e) hx fun h4 e4 k4=>tz (tz (be (be (Zf (be (Qal ((h2.extBut k0.extBut D.i2z).extBut k4.extBut D.i12.symm) ((hl.extBut k0.extBut D.l2z).extBut k4.extBut D.l2i1) hy fun h5 e5 k5=>tz (tz (tz (be (Qbi (hsz:=by show 2<=KE;decide) (tz ⟨_,rfl,tz ?_⟩)))))))))))))))))))))));have hsz:h5.objs.size=s.heap.objs.size:=by rw[k5.1,k4.1,k0.1]
 rw[hsz];refine q (h5.push { cls := .type "tuple",data := .seq #[.str ⟨#[c]⟩ s.toks,y] }) s.toks (s.toks+1) (Jb _ (k5.extBut _ _ D.i2z.symm (k4.extBut _ _ D.i1z.symm z0))) (cX e4 fun o e=>Jb _ (k5.extBut _ _ D.i12 e)) (e5.at fun o e=>Jb _ e) (by rw[<-hsz];exact Jh _ rfl) fun b o nb e =>?_;exact Jb _ (k5.extBut _ _ (fun z=>nb (.inr (.inr z))) (k4.extBut _ _ (fun z=>nb (.inr (.inl z))) (k0.extBut _ _ (fun z=>nb (.inl z)) e)))
def Fq (hh:A.handled=none)(D:Qbz z TI TO i1 i2 l l)(hz:iw s.heap z TI TO a f)(ha:s.heap.get? a=some oa)(qE:Qam s.heap TI (.ref i1) (.ref i2))
  (h1:qm s.heap i1 x t i) (hx:x.cps[i]? = none)
  (q:∀h',Keeps s.heap h' (fun b=>b=z\/b=i1\/b=i2)->Q none { s with heap:=h' }) :
  YX (YW prog w) A (QaM (.ref z)) Q E s:=by
 have hT:s.TypeIs (.ref z) "zip":=⟨_,hz,rfl⟩
 refine be (ZN (Zj hT ZH (Zm ZH hT Qaz ?_ (Qav _))));change YX _ _ (QaO (QeR (.ref z) 2) _) _ _ _;refine be (Zg hz rfl rfl (be (Zg hz rfl rfl (be (Zq qE rfl (be (l9 hz ha fun h0 z0 k0=>be (be (be (Zf (be (wpAny_nextOf_ascii_end hh (cX h1 fun o e=>k0.extBut _ _ D.i1z e) hx fun h4 e k4 oe=>aj.el (oe) _ ?_))))))))))));rintro o ho hc;exact be (ZC ⟨o,ho,hc⟩ Qas (tz (q h4 fun b o nb x=>k4 _ _ (fun z=>nb (.inr (.inl z))) (k0.extBut _ _ (fun z=>nb (.inl z)) x))))
end
abbrev S6 (h:Heap)(x:Str)(t:Tok)(b:Gc):Heap:=((((h.push { cls := .type "str_ascii_iterator",data := .fields #[.str x t,.int 0 0] }).push { cls := .type "list_iterator",data := .fields #[.ref b,.int 0 0] }).push { cls := .type "tuple",data := .seq #[.ref h.objs.size,.ref (h.objs.size+1)] }).push { cls := .type "tuple",data := .seq #[.none,.none] }).push
 { cls := .type "zip",data := .fields #[.none,.bool false,.bool false,.ref (h.objs.size+2),.ref (h.objs.size+3)] }
def Gw (x:Str)(t:Tok)(b:Gc)(ys:Array Fk):
  Meets (Builtin.«zip.__new__» ⟨[.type "zip",.str x t,.ref b],[]⟩) (fun _ R s=>x.cps.all (· < 128)=true/\s.heap.IsList b ys/\R (.ok (.ret (.ref (s.heap.objs.size+4)))) { s with heap:=S6 s.heap x t b }):=
 .of_wp fun prog w A R s h=>by
  obtain⟨hp,g,d,tk,os⟩:=s;obtain⟨hx,CQ,h⟩:=h;have d7:=sub_zip;have WV:Heap.IsList (Shared.heap ⟨hp.push { cls := .type "str_ascii_iterator",data := .fields #[.str x t,.int 0 0] },g,d,tk,os⟩) b ys:=CQ.at fun o e=>Jb _ e;have s1:(hp.push { cls := .type "str_ascii_iterator",data := .fields #[.str x t,.int 0 0] }).objs.size=hp.objs.size+1:=Uc ..
  wp_walk using wpAny_pyIter_ascii hx,Qbh WV
  refine⟨_,rfl,?_⟩;simp -iota only [Uc] at h ⊢;exact h
section
variable {prog:YZ}{w:Zb}{A:Zs}{E:Fk->Wp->Prop}{s:Wp}
def F1 {b:Gc}{ys:Array Fk}{Q:Fk->Wp->Prop}(h1:x.cps.all (· < 128)=true)(h2:s.heap.IsList b ys)
  (q:∀h',Qe5 h' (s.heap.objs.size+4) (s.heap.objs.size+2) (s.heap.objs.size+3) .none->Qam h' (s.heap.objs.size+2) (.ref s.heap.objs.size) (.ref (s.heap.objs.size+1))->Qam h' (s.heap.objs.size+3) .none .none->qm h' s.heap.objs.size x t 0->h'.IsListIter (s.heap.objs.size+1) b 0->h'.objs.size=s.heap.objs.size+5->(∀c o,s.heap.get? c=some o->h'.get? c=some o)->Q (.ref (s.heap.objs.size+4)) { s with heap:=h' }) :
  YX (YW prog w) A (call (.type "zip") [.str x t,.ref b]) Q E s:=by
 refine callType_new F.called_zip rfl (F.typeCall_zip_2 _ _) (F.newCall_zip_2 _ _) (fun obj=>F.args_object_init_3 obj _ _) F.entry_zip_new (Gw x t b ys) ⟨h1,h2,?_⟩;have up:∀{h:Heap} {c:Gc} {o:Obj} p,h.get? c=some o->(h.push p).get? c=some o:=fun p e=>Jb p e;have last:∀{h:Heap} {n:Nat} {p:Obj},h.objs.size=n->p.isFreed=false->(h.push p).get? n=some p:=fun e hf=>by rw[<-e];exact Jh _ hf
 have z1:=Uc s.heap { cls := .type "str_ascii_iterator",data := .fields #[.str x t,.int 0 0] };have z2:=Uc (s.heap.push { cls := .type "str_ascii_iterator",data := .fields #[.str x t,.int 0 0] }) { cls := .type "list_iterator",data := .fields #[.ref b,.int 0 0] };rw[z1] at z2;have z3:=Uc ((s.heap.push { cls := .type "str_ascii_iterator",data := .fields #[.str x t,.int 0 0] }).push { cls := .type "list_iterator",data := .fields #[.ref b,.int 0 0] }) { cls := .type "tuple",data := .seq #[.ref s.heap.objs.size,.ref (s.heap.objs.size+1)] };rw[z2] at z3;have z4:=Uc (((s.heap.push { cls := .type "str_ascii_iterator",data := .fields #[.str x t,.int 0 0] }).push { cls := .type "list_iterator",data := .fields #[.ref b,.int 0 0] }).push { cls := .type "tuple",data := .seq #[.ref s.heap.objs.size,.ref (s.heap.objs.size+1)] }) { cls := .type "tuple",data := .seq #[.none,.none] };rw[z3] at z4;have zz:(S6 s.heap x t b).get? (s.heap.objs.size+4)=some _:=last z4 rfl;refine⟨⟨_,zz,rfl⟩,q _ zz (up _ (up _ (last z2 rfl))) (up _ (last z3 rfl)) ⟨_,up _ (up _ (up _ (up _ (last rfl rfl)))),rfl,rfl⟩ ⟨_,up _ (up _ (up _ (last z1 rfl))),rfl,rfl⟩ ?_ fun c o e=>up _ (up _ (up _ (up _ (up _ e))))⟩;rw[Uc,z4]
end
structure zH (z TI TO i1 i2 l S:Gc)(x:Str)(t:Tok)(ys:Array Fk)(i:Nat)(h:Heap):Prop where
 ti:Qam h TI (.ref i1) (.ref i2)
 to:∃a b,Qam h TO a b
 it1:qm h i1 x t i
 it2:h.IsListIter i2 l i
 a2:h.IsList l ys
 zp:Qe5 h z TI TO .none/\i=0\/0<i/\∃a f oa,iw h z TI TO a f/\h.get? a=some oa/\S<a
abbrev Dm (S:Gc)(x:Str)(ys:Array Fk)(j:Nat)(v:Fk)(h:Heap):Prop:=lW fun a c tk y=>v = .ref a/\S<a/\x.cps[j]? = some c/\ys[j]? = some y/\Qam h a (.str ⟨#[c]⟩ tk) y
def Dd {z TI TO i1 i2 l S:Gc}{x:Str}{t:Tok}{ys:Array Fk}(hh:A.handled=none)(hn:0<x.cps.size)(hy:x.cps.size<=ys.size)(D:Qbz z TI TO i1 i2 l l)(b1:z<S)(b2:TI<S)(b3:TO<S)(b4:i1<S)(b5:i2<S)(b6:l<S):
  vA prog w A z S "zip" (qr z TO i1 i2) x.cps.size (Dm S x ys) j4 (zH z TI TO i1 i2 l S x t ys) where
 sfp:=fun q=>by
  rcases q with q|q|q|q<;>(rw[q] at b1 b3 b4 b5;first|exact absurd b1 (Uh _)|exact absurd b3 (Uh _)|exact absurd b4 (Uh _)|exact absurd b5 (Uh _))
 ne:=Jl b1
 ty:=fun i h st=>by
  rcases st.zp with ⟨q,_⟩|⟨_,a,f,oa,q,_⟩
  ·exact⟨_,q,rfl⟩
  ·exact⟨_,q,rfl⟩
 self:=fun s Q E st q=>by
  rcases st.zp with ⟨r,_⟩|⟨r,_⟩
  ·exact Qct r q
  ·exact absurd r (Uh _)
 item:=fun i s Q E hi st hS q=>by
  obtain⟨ti,to,it1,it2,a2,zp⟩:=st;have hx:=Jx hi;have hy:ys[i]? = some (ys[i]'⋯):=Jx ⋯;have old:∀j u,Dm S x ys j u s.heap->j4 u (.ref s.heap.objs.size):=fun j u hz_=>aj.el hz_ _ fun a c tk y e _ _ _ p=>⟨a,_,e,rfl,Jf p⟩
  rcases zp with ⟨r,_⟩|⟨hi0,c,f,oc,r,oc',hc⟩
  ·refine Bt D r ti to it1 it2 a2 hx hy fun h' tk tk' r1 r2 r3 r4 r5 r7 =>?_;have n2:∀{b:Gc},b≠z->b≠TO->b≠i1->b≠i2->¬qr z TO i1 i2 b:=fun c1 c2 c3 c4 q=>q.elim c1 fun q=>q.elim c2 fun q=>q.elim c3 c4;refine q _ h' tk' r7 ⟨r7 _ _ (n2 D.TIz D.TITO D.TIi1 D.TIi2) ti,r2,r3,r4,a2.at fun o e=>r7 _ _ (n2 D.l2z D.l2TO D.l2i1 D.l2i2) e,.inr ⟨Qco _,_,_,_,r1,r5,hS⟩⟩ ⟨_,_,_,_,rfl,hS,hx,hy,r5⟩ old
  ·have ne:∀{b:Gc},b<S->c≠b:=fun hb=>Ul (Wg hb hc);refine DD D r oc' ti it1 it2 a2 hx hy fun h' tk tk' r1 r2 r3 r4 r5 =>?_;obtain⟨ta,tb,to⟩:=to;refine q _ h' tk' (fun b o nb e=>r5 b o (fun z=>z.elim (fun z=>nb (.inl z)) fun z=>nb (.inr (.inr z))) e) ⟨r5 _ _ (fun z=>z.elim D.TIz fun z=>z.elim D.TIi1 D.TIi2) ti,⟨_,_,r5 _ _ (fun z=>z.elim D.TOz fun z=>z.elim D.TOi1 D.TOi2) to⟩,r2,r3,a2.at fun o e=>r5 _ _ (fun z=>z.elim D.l2z fun z=>z.elim D.l2i1 D.l2i2) e,
    .inr ⟨Qco _,_,_,_,r1,r5 _ _ (fun z=>z.elim (ne b1) fun z=>z.elim (ne b4) (ne b5)) oc',hc⟩⟩ ⟨_,_,_,_,rfl,hS,hx,hy,r4⟩ old
 stop:=fun s Q E st hS q=>by
  obtain⟨ti,to,it1,it2,a2,zp⟩:=st
  rcases zp with ⟨_,r⟩|⟨hi0,c,f,oc,r,oc',hc⟩
  ·rw[r] at hn;exact absurd hn (Uh _)
  ·exact Fq hh D r oc' ti it1 (Ur (Je _)) fun h' k=>q h' s.toks fun b o nb e=>k b o (fun z=>z.elim (fun z=>nb (.inl z)) fun z=>nb (.inr (.inr z))) e
 keepS:=fun i h h' st k=>by
  obtain⟨ti,⟨a,b,to⟩,it1,it2,a2,zp⟩:=st;refine⟨k _ _ (Jl b2) ti,⟨a,b,k _ _ (Jl b3) to⟩,cX it1 fun o e=>k _ o (Jl b4) e,it2.at fun o e=>k _ o (Jl b5) e,a2.at fun o e=>k _ o (Jl b6) e,?_⟩
  rcases zp with ⟨r,r0⟩|⟨hi0,c,f,oc,r,oc',hc⟩
  ·exact .inl ⟨k _ _ (Jl b1) r,r0⟩
  ·exact .inr ⟨hi0,c,f,oc,k _ _ (Jl b1) r,k _ _ (Ul hc) oc',hc⟩
 keepP:=fun j v h h' hz_ k=>aj.el hz_ _ fun a c tk y e ha h1 h2 p=>by
  have ne:∀{b:Gc},b<S->a≠b:=fun hb=>Ul (Wg hb ha);exact⟨a,c,tk,y,e,ha,h1,h2,k _ _ (fun z=>z.elim (fun z=>z.elim (ne b1) fun z=>z.elim (ne b3) fun z=>z.elim (ne b4) (ne b5)) (Ul ha)) p⟩
 nolen:=by rw[QbI,QaN];kernel_rfl
 nohint:=by rw[QbI,QaN];kernel_rfl
 nl:=∅
 nt:=∅
section
variable {X:Cx}
def Vd (K:Ja)(ta:TA):TE:=fun σ H Q=>ta σ H fun vs H1=>oG fun x l2 ys=>vs=[.str x,.ref l2]/\bg K H1 l2 ys/\x.cps.all (· < 128)=true/\0<x.cps.size/\x.cps.size<=ys.length /\
 ∀H' p (as:List Gc),ar H1 H'->H1 p=none->H' p=some (.lst (as.map V.ref))->as.length=x.cps.size ->
  (∀(j:Nat) a c y,as[j]? = some a->x.cps[j]? = some c->ys[j]? = some y->H1 a=none/\H' a=some (.tup [.str ⟨#[c]⟩,y]))->Q (.ref p) H'
def wZ {p p2 pos pE:Pos}(hc:X.calm=true)(Kj:Gl X "list")(KG:X.mg "list" = none)(NL:Gl X "zip")(Ng:X.mg "zip" = none)(ha:PA X [a,b] ta)
  (ER:ZO "list" = some (.type "list"):=by first|rfl|decide) (Ov:ZO "zip" = some (.type "zip"):=by first|rfl|decide)
  (LH:Ze [.Call (.Name "zip" p2) [a,b] [] pE] X.env=[(false,ZM (.Call (.Name "zip" p2) [a,b] [] pE) X.env)]:=by rfl)
  (hs:Ze [a,b] X.env=[(false,ZM a X.env),(false,ZM b X.env)]:=by rfl) (AG:Ze [b] X.env=[(false,ZM b X.env)]:=by rfl) :
  PE X (.Call (.Name "list" p) [.Call (.Name "zip" p2) [a,b] [] pE] [] pos) (Vd X.K ta):=by
 refine fun pins s σ H Q I h=>ZK (eZ I Kj KG ER (Zl (Qak (Call_ (eZ I NL Ng Ov (Zl (bb (ha s σ H _ I h) fun us s1 hz_=>aj.el hz_ _ fun vs H1 I1 r1 q1 =>?_) (by rw[hs,AG]) (by rw[AG];rfl))))) LH rfl));obtain⟨x,l2,ys,e,q2,xa,xp,xy,q⟩:=q1;subst e;obtain⟨u,w',rfl,ru,r2⟩:=vals2 r1;cases r2;obtain⟨t,rfl⟩:∃t,u = .str x t:=ru;refine aj.el (I1.list q2) _ ?_;rintro its2 rv2 p2 hz2;have e2:=rv2.length;have a2:l2<s1.heap.objs.size:=by obtain⟨_,e,_⟩:=p2.isList;exact Jf e
 refine F1 xa p2.isList fun h' hz qE yP hi1 hi2 hsz hk=>QaG ?_;have sF:s1.heap.objs.size<=h'.objs.size:=by rw[hsz];exact Ua _ _
 have jB:∀n,n<5->s1.heap.objs.size+n<h'.objs.size:=fun n hn=>by rw[hsz];exact QcS hn _
 have zs:∀o,zH (s1.heap.objs.size+4) (s1.heap.objs.size+2) (s1.heap.objs.size+3) s1.heap.objs.size (s1.heap.objs.size+1) l2 h'.objs.size x t its2.toArray 0 (h'.push o):=fun o=>
  ⟨Jb _ qE,⟨_,_,Jb _ yP⟩,cX hi1 fun o e=>Jb _ e,hi2.at fun o e=>Jb _ e,(p2.isList.at fun o e=>hk _ o e).push _,.inl ⟨Jb _ hz,rfl⟩⟩
 refine sf (Dd (I.ok.hd hc) xp (by simp;lia) (QdD a2 a2) (jB 4 ∅) (jB 2 ∅) (jB 3 ∅) (jB 0 ∅) (jB 1 ∅) (Jw a2 sF)) ⋯ zs fun h2 tk acc c Lf G =>?_;obtain⟨hS2,hsz2,hpw,jH⟩:=G;obtain⟨as,ic⟩:=oJ (l:=acc.toList) fun v hv=>by
  obtain⟨j,hj⟩:=J4.mp hv;obtain⟨a,_,_,_,e,_⟩:=jH j v (by simpa using hj);exact⟨a,e⟩
 have jW:∀j a,as[j]? = some a->oG fun c tk y=>h'.objs.size<a/\x.cps[j]? = some c/\its2.toArray[j]? = some y/\Qam h2 a (.str ⟨#[c]⟩ tk) y:=fun j a h=>by
  obtain⟨a',c,tk,y,e,g⟩:=jH j (.ref a) (by
   have:acc.toList[j]? = some (.ref a):=by rw[ic,Jk,h];rfl
   simpa using this)
  cases e;exact⟨c,tk,y,g⟩
 have above:∀a∈as,h'.objs.size<a:=fun a ha=>by
  obtain⟨j,hj⟩:=J4.mp ha;obtain⟨_,_,_,g,_⟩:=jW j a hj;exact g
 have old:∀b o,s1.heap.get? b=some o->h2.get? b=some o:=fun b o e=>by
  have gt:∀n,b≠s1.heap.objs.size+n:=fun n=>Jl (Jw (Jf e) (Ua _ _));exact Lf b o (fun z=>z.elim (gt 4) fun z=>z.elim (gt 3) fun z=>z.elim (gt 0) (gt 1)) (hk b o e)
 have I2:Inv X pins σ H1 { s1 with heap:=h2,toks:=tk }:=I1.kept old;have rX:=fun a ha=>Yh (J7 sF (above a ha));have nd:as.Nodup:=by
  rw[ic,Qc7] at hpw;exact hpw.imp fun hz_=>aj.el hz_ _ fun a b e1 e2 h=>by cases e1;cases e2;exact Jl h
 have fu:∀a,s1.heap.objs.size<=a->gz X pins H1 a/\X.s₀.heap.objs.size<=a:=fun a ha=>⟨I1.fu ha (I1.bq.fresh ha),Jg I1.sz ha⟩
 have CV:as.length=x.cps.size:=by
  have z:acc.toList.length=as.length:=by rw[ic,Jd]
  simp at z hsz2;lia
 let ps:List (List V):=(x.cps.toList.zip ys).map fun q=>[V.str ⟨#[q.1]⟩,q.2]
 have Tb:∀j c y,x.cps[j]? = some c->ys[j]? = some y->ps[j]? = some [V.str ⟨#[c]⟩,y]:=fun j c y h1 h2=>by
  rw[Jk,(Yw (z:=(c,y))).mpr ⟨by simpa using h1,h2⟩]
  rfl
 obtain⟨H',I',sm,same,all⟩:=I2.mz as ps nd (by show _=((x.cps.toList.zip ys).map _).length;rw[Jd,Yl];have:=Ue (xs:=x.cps);lia) (fun a ha=>fu a (rX a ha)) (fun j a pp h1 h2'=>by
  refine aj.el (jW j a h1) _ ?_;rintro c tk y _ g1 g2 g3;refine aj.el (i9 rv2 g2) _ ?_;rintro vy gy ry;rw[Tb j c vy g1 gy] at h2';cases h2';exact⟨by show 2<=KE;decide,[.str ⟨#[c]⟩ tk,y],.cons ⟨_,rfl⟩ (.cons ry .nil),⟨_,g3,rfl,rfl,_,rfl⟩⟩)
 have Fx:=fun hm=>Uh _ (above _ hm);have m8:=I1.bq.fresh sF;obtain⟨fS,sS⟩:=fu h'.objs.size sF;have I3:=I'.adopt (o := .lst (as.map V.ref)) ⟨by rw[same _ Fx];exact m8,fS.2⟩ sS ⟨by rw[Jd];lia,acc.toList,c,by
  rw[ic];clear hS2 ic all same I' sm rX nd CV Fx above jW
  induction as with
  | nil=>exact .nil
  | cons a r ih=>exact .cons rfl ih,by simpa using hS2⟩
 refine⟨.ref h'.objs.size,_,I3,rfl,q _ _ as (fun b o e =>?_) m8 av CV fun j a c y h1 h2' h3'=>⟨(fu a (rX a (Jy h1))).1.1,?_⟩⟩
 ·rw[au (aH e m8)];exact sm b o e
 ·rw[au (fun z=>Fx (by rw[<-z];exact Jy h1))];exact all j a _ h1 (Tb j c y h2' h3')
end
section
variable {X:Cx}
def JW (K:Ja):R2:=fun x y H Q=>Kh K x y H Q\/∃(a b:Gc) (ys:List V),x = .ref a/\y = .ref b/\aY K H a []/\aY K H b ys/\Q (.ref b) H
def Iv:eW X (Z6 .Add) (JW X.K):=by
 intro pins s σ H x y v u Q I rx ry h
 rcases h with h|⟨a,b,ys,rfl,rfl,ha,hb,q⟩
 ·apply Eg<;>assumption
 cases rx;cases ry;obtain⟨is,ra,⟨⟨c1,d1,k1,l1⟩,e1,f1,n1,g1⟩,_⟩:=I.tuple ha;obtain⟨js,rb,⟨⟨c2,d2,k2,l2⟩,e2,f2,n2,g2⟩,_⟩:=I.tuple hb;simp only at f1 g1 f2 g2;subst f1 g1 f2 g2;have hi:is.toArray.isEmpty=true:=by
  have:=ra.length;have:is=[]:=Yp.mp this.symm;rw[this];rfl
 exact concat_meets ⟨_,e1,rfl⟩ ⟨_,e2,rfl⟩ Qeb seq_tuple_add QdP Qdw (Qde _ _) (tuple_addW0 a b is.toArray js.toArray n1 n2 d1 d2 l1 l2 hi) ⟨e1,e2,⟨.ref b,H,I,rfl,q⟩⟩
def Pk (K:Ja)(hK:X.K=K:=by rfl):eW X (Z6 .Add) (JW K):=by subst hK;exact Iv
end
def AJ {β:Type}{M:Model}{A:Zs}{E:Fk->Wp->Prop}{s s1:Wp}{f:Nat -> β->Sem (ForInStep β)}{Q: β->Wp->Prop}{b0 b1: β}{j:Nat}
  (go:∀i,i<j->∀R:ForInStep β->Wp->Prop,R (.yield b0) s->YX M A (f i b0) R E s) (stop:∀R:ForInStep β->Wp->Prop,R (.done b1) s1->YX M A (f j b0) R E s) (q:Q b1 s1) :
  ∀(n k:Nat),k<=j->j<k+n->YX M A (forIn (List.range' k n) b0 f) Q E s
 | 0,k,h1,h2=>by lia
 | n+1,k,h1,h2=>by
  rw[List.range'_succ,QdA]
  by_cases h:k=j
  ·subst h;exact be (stop _ (tz q))
  ·exact be (go k ⋯ _ (AJ go stop q n (k+1) ⋯ ⋯))
section
variable {X:Cx}
def Mp (K:Ja)(hK:X.K=K:=by rfl):HD X "tuple.index" (fun x vs H Q=>lW fun(l:Gc) (xs:List Str) (y:Str) (j:Nat)=>x = .ref l/\vs=[.str y]/\aY K H l (xs.map V.str)/\xs[j]? = some y/\(∀m,m<j->xs[m]? ≠ some y)/\Q (.int (j:Nat)) H):=by
 subst hK;intro pins s σ H x vs v us Q I rx rv h;refine aj.el h _ ?_;rintro l xs y j rfl rfl hH hj C0 q;cases rx;obtain⟨u,rfl,t,rfl⟩:=vals1 rv;obtain⟨aF,r,⟨o,ho,hc,n,hd⟩,hz⟩:=I.tuple hH;have hlen:=r.length;rw[Jd] at hlen;have jl:j<xs.length:=(Ji.mp hj).1;have at':∀m (hm:m<xs.length),∃t',aF.toArray[m]? = some (.str (xs[m]) t'):=fun m hm=>by
  obtain⟨a,h1,h2⟩:=i9 r (i:=m) (v:=aF[m]'⋯) (by simp);rw[Jk,Jc hm] at h1;cases h1;obtain⟨t',e⟩:=h2;exact⟨t',by rw[Qbf,Jc ⋯,e]⟩
 refine Zm F.slot_tuple_index ⟨_,ho,hc⟩ F.entry_tuple_index ?_ (F.args_tuple_index_2 _ _);unfold Builtin.«tuple.index»;refine be (m:=selfAndSome _ _ _ _ _) (tz ?_);refine be (wpAny_tupleItemsOf ho hd ?_);dsimp only;refine be (tz (be (tz ?_)));refine be ?_;rw[Std.Legacy.Range.forIn_eq_forIn_range'];refine AJ (j:=j) (b1:=(some (.done (.ret (.int (j:Nat) s.toks))),())) (s1:={ s with toks:=s.toks+1 }) (fun i hi R hR =>?_) (fun R hR =>?_) ?_ _ 0 (Uq _) ?_
 ·obtain⟨t',e⟩:=at' i ⋯;rw[e];refine be (Qd7 ?_);have xA:xs[i]'⋯≠y:=fun z=>C0 i hi (by rw[Jc ⋯,z]);rw[decide_eq_false xA];exact tz hR
 ·obtain⟨t',e⟩:=at' j jl;rw[e];refine be (Qd7 ?_);have he:xs[j]=y:=(Ji.mp hj).2;rw[decide_eq_true he]
  wp_walk
  exact hR
 ·exact tz ⟨_,rfl,.int (j:Nat),H,I.tok _,⟨_,rfl⟩,q⟩
 ·simp;lia
end
def Lh {α:Type}{P:List α->Prop}(h:P []):∀us:List α,us.length=0->P us:=fun us e=>Uy e▸h
def My {α:Type}{P:List α->Prop}{n:Nat}(h:∀a (us:List α),us.length=n->P (a::us))(us:List α)(e:us.length=n+1):P us:=by
 cases us with|nil=>cases e|cons a us=>exact h a us (QcJ e)
structure Ev (P:YZ)(w:Zb)(K:Frag)(mg:Str->Option Fk)(base:Heap):Prop where
 g:∀{x v},Qea K ZE x=some (some v)->mg x=some v
 n:∀{x},Qea K ZE x=some none->mg x=none
structure Df (K:Frag)(x:Str)(st:QbR)(f:Gc)(fd:Zc):Prop where
 F:dM K x x st f fd
 a:Qea K ZE x=some (some (.ref f))
structure Mt (K:Frag)(C:Gc)(x q:Str)(st:QbR)(f:Gc)(fd:Zc):Prop where
 F:dM K x q st f fd
 m:findIn K (.ref C) x=some (some (.ref f))
 i:isFn K (.ref f)=true
structure Xp (K:Frag)(D C:Gc)(q Qp:Str)(st:QbR)(f:Gc)(fd:Zc):Prop where
 S:mh K C Qp
 M:MU K C f
 F:dM K "__init__" q st f fd
structure Tp (K:Frag)(x:Str)(a:Gc)(xs:List V):Prop where
 g:Qea K ZE x=some (some (.ref a))
 s:∀H,aY K H a xs
def Gr (K:Frag)(x:Str)(v:Fk):Prop:=Qea K ZE x=some (some v)
def Nn (K:Frag):List Str->Prop
 | []=>True
 | x::r=>Qea K ZE x=some none/\Nn K r
def Kd (K:Frag)(aP:Gc):List (Str×List Str)->Prop
 | []=>True
 | q::r=>(∃p,Qea K aP q.1=some (some (.ref p))/\∀H,aY K H p (q.2.map V.str))/\Kd K aP r
section
variable {P:YZ}{w:Zb}{K:Frag}{mg:Str->Option Fk}{base:Heap}{x q Qp:Str}{st:QbR}{f C D:Gc}{fd:Zc}{k:Nat}{ps:List Str}{sp:Sp}{oc:Fk}{od an:Option Gc}{wO:Array (Option Fk)}{kV doc pm bS ct:Fk}
def Ev.df (e:Ev P w K mg base)(D:Df K x st f fd)(ok:aW P w K mg base dI k f fd ps sp)
  (hb:∀kV doc pm an bS ct us,us.length=ps.length->QeS (fnOf x x (cn st) (bN st) (ai st) .none kV doc pm an bS ct) ⟨us,[]⟩=pure (ps.zip us):=by
   intro _ _ _ _ _ _;repeat' (first|exact Lh rfl|refine My fun _ =>?_)):Fn P w K mg base k x ps sp:=⟨f,fd,ok,D.F.binds hb,D.F.kp,e.g D.a⟩
def Ev.dx (e:Ev P w K mg base)(D:Df K x st f fd)(ok:aW P w K mg base (u4 P w base) k f fd ps sp)
  (hb:∀kV doc pm an bS ct us,us.length=ps.length->QeS (fnOf x x (cn st) (bN st) (ai st) .none kV doc pm an bS ct) ⟨us,[]⟩=pure (ps.zip us):=by
   intro _ _ _ _ _ _;repeat' (first|exact Lh rfl|refine My fun _ =>?_)):Gp P w K mg base k x ps sp:=⟨f,fd,ok,D.F.binds hb,D.F.kp,e.g D.a⟩
def dM.bd (F:dM K x q st f fd)
  (hb:∀kV doc pm an bS ct us,us.length=ps.length->QeS (fnOf x q (cn st) (bN st) (ai st) .none kV doc pm an bS ct) ⟨us,[]⟩=pure (ps.zip us):=by
   intro _ _ _ _ _ _;repeat' (first|exact Lh rfl|refine My fun _ =>?_)):Binds K fd ps []:=F.binds hb
def Px (a:Qea K ZE x=some (some (.ref f)))(l:K.lookup f=some ⟨oc,od,.func (fnOf x x (cn st) (bN st) (ai st) .none kV doc pm an bS ct),wO⟩)(c:codeIn K bS x=true)(h:keepIn K (.ref f)=true):Df K x st f (fnOf x x (cn st) (bN st) (ai st) .none kV doc pm an bS ct):=⟨tW l c h,a⟩
def Pt (m:findIn K (.ref C) x=some (some (.ref f)))(l:K.lookup f=some ⟨oc,od,.func (fnOf x q (cn st) (bN st) (ai st) .none kV doc pm an bS ct),wO⟩)(c:codeIn K bS q=true)(h:keepIn K (.ref f)=true)(i:isFn K (.ref f)=true):Mt K C x q st f (fnOf x q (cn st) (bN st) (ai st) .none kV doc pm an bS ct):=⟨tW l c h,m,i⟩
def Mt.at (M:Mt K C x q st f fd):B9 K C x f:=⟨M.m,M.i,M.F.kp⟩
def Mt.MV (M:Mt K C "__init__" q st f fd)(h:makesIn K C=true)(g:keepIn K (.ref C)=true):Mk K C f:=⟨h,M.m,M.i,g⟩
def NI {a:Gc}{aF:List Fk}{n:Nat}{sl:Array (Option Fk)}{xs:List V}(g:Qea K ZE x=some (some (.ref a)))(l:K.lookup a=some ⟨.type "tuple",none,.seq aF.toArray n,sl⟩)(hv:Vals xs aF)(hz:xs.length<=1000):Tp K x a xs:=⟨g,E8 l hv hz⟩
def EG {v:Fk}(h:Qea K ZE x=some (some v)):Gr K x v:=h
def bM {r:List Str}(h:Qea K ZE x=some none)(z:Nn K r):Nn K (x::r):=⟨h,z⟩
def dh {aP a:Gc}{ys:List Str}{r:List (Str×List Str)}{aF:List Fk}{n:Nat}{sl:Array (Option Fk)}(g:Qea K aP x=some (some (.ref a)))(l:K.lookup a=some ⟨.type "tuple",none,.seq aF.toArray n,sl⟩)(hv:Vals (ys.map V.str) aF)(hz:(ys.map V.str).length<=1000)(z:Kd K aP r):Kd K aP ((x,ys)::r):=⟨⟨a,g,E8 l hv hz⟩,z⟩
def Kd.all {aP:Gc}:∀{l:List (Str×List Str)},Kd K aP l->∀q∈l,∃p,Qea K aP q.1=some (some (.ref p))/\∀H,aY K H p (q.2.map V.str)
 | [],_,_,h=>nomatch h
 | a::l,z,q,h=>by
  rcases Jq.mp h with rfl|h
  ·exact z.1
  ·exact Kd.all z.2 q h
section
variable {nm qn:Str}{N:Gc}{bs:List Fk}{sn:List Str}{su:List Fk}{ab:Bool}{co:Option Bool}{dd:Option Gc}{k0 k1 k2 k3 k5:Option Fk}{XV V4:Str}{N':Gc}{X9:List Fk}{Au:Bool}{VF:List Str}{Xu:List Fk}{X6:Bool}{WO:Option Bool}{CU:Option Gc}{Xg WL V8 Wk X3:Option Fk}
def Ni (lO:K.lookup D=some (QaR XV V4 D N' X9 dF Au VF Xu X6 WO CU Xg WL V8 Wk X3 "ValueError.__new__"))(xO:excIn K D dF "ValueError.__new__" = true)
  (l:K.lookup C=some (QaR nm qn C N bs (.ref D::dF) true sn su ab co dd k0 k1 k2 k3 k5 "ValueError.__new__")) (kp:keepIn K (.ref C)=true) (MV:findIn K (.ref C) "__init__" = some (some (.ref f)))
  (lf:K.lookup f=some ⟨.type "function",od,.func (fnOf "__init__" q (cn st) (bN st) (ai st) .none kV doc pm an bS ct),wO⟩) (cf:codeIn K bS q=true) (kf:keepIn K (.ref f)=true)
  (sa:findIn K (.ref C) "__setattr__" = some (some (.builtin "object.__setattr__"))) (na:findIn K (.ref C) Qp=some none) (mo:mroIn K C (.type "object")=some true):Xp K D C q Qp st f (fnOf "__init__" q (cn st) (bN st) (ai st) .none kV doc pm an bS ct):=
 ⟨DM l sa na mo,⟨⟨_,_,_,_,_,_,_,_,_,_,_,_,_,_,_,_,l,C5 lO xO⟩,MV,⟨_,lf,rfl⟩,kp⟩,tW lf cf kf⟩
end
end
end L2
namespace Z
open PySem L2
def sizeOk {n:Nat}(h:n<=10000000):n<=KE:=Jg h ∅
def rn (l:List Str)(h:decide l.Nodup=true:=by decide +kernel):l.Nodup:=of_decide_eq_true h
def DC (i:Nat):(2:Int)^i+2^i=2^(i+1):=by rw[Qdd];lia
end Z
namespace L2
set_option genSizeOf false
set_option genInjectivity false
set_option genSizeOf false
set_option genInjectivity false
end L2
namespace Z
open PySem L2
structure wN (H:Hp)(b c:Gc)(t:Int)(ns:List Int):Prop where
 d:H b=some (.dK [(.inr "cells",.ref c),(.inr "turn",.int t)])
 l:H c=some (.lst (ns.map V.int))
 ne:0<ns.length
 le:ns.length<=64
def ig (H:Hp)(b c:Gc):Hp:=fun a=>if a=b\/a=c then none else H a
def dH {H:Hp}{b c a:Gc}(h1:a≠b)(h2:a≠c):ig H b c a=H a:=if_neg (fun z=>z.elim h1 h2)
def kQ {H:Hp}{b c a:Gc}{o:HO}(h:ig H b c a=some o):H a=some o/\a≠b/\a≠c:=by
 unfold ig at h
 split at h
 ·cases h
 ·rename_i n;exact⟨h,fun z=>n (.inl z),fun z=>n (.inr z)⟩
def FZ {H:Hp}{b c:Gc}:ar (ig H b c) H:=fun a o h=>(kQ h).1
def wN.bc {H:Hp}{b c:Gc}{t:Int}{ns:List Int}(x:wN H b c t ns):b≠c:=vE x.d x.l (by intro z;cases z)
def wN.Ds {H:Hp}{b c:Gc}{t:Int}{ns:List Int}(x:wN H b c t ns):eV H b (.str "turn") (some (.int t)):=eV.k (k:=Z7 "turn") x.d
def wN.mH {H:Hp}{b c:Gc}{t:Int}{ns:List Int}(x:wN H b c t ns):eV H b (.str "cells") (some (.ref c)):=eV.k (k:=Z7 "cells") x.d
def wN.FD {H:Hp}{b c:Gc}{t:Int}{ns:List Int}(x:wN H b c t ns)(t':Int):qH H b (.str "turn") (.int t') (upd H b (.dK [(.inr "cells",.ref c),(.inr "turn",.int t')])):=
 qH.k (k:=Z7 "turn") x.d (by show 2<KE;decide)
def wN.turned {H:Hp}{b c:Gc}{t:Int}{ns:List Int}(x:wN H b c t ns)(t':Int):wN (upd H b (.dK [(.inr "cells",.ref c),(.inr "turn",.int t')])) b c t' ns:=
 ⟨av,by rw[au (Zx x.bc)];exact x.l,x.ne,x.le⟩
def AN {H:Hp}{b c:Gc}{o:HO}:ig (upd H b o) b c=ig H b c:=by
 funext a;unfold ig;split
 ·rfl
 ·rename_i n;exact au (fun z=>n (.inl z))
def CL {H:Hp}{b c:Gc}{o:HO}:ig (upd H c o) b c=ig H b c:=by
 funext a;unfold ig;split
 ·rfl
 ·rename_i n;exact au (fun z=>n (.inr z))
def Dv:Sp:=fun vs H Q _=>vY fun(b c:Gc) (t:Int) (ns:List Int) (many:Int)=>vs=[.ref b,.int many]/\wN H b c t ns/\0<=t/\t<100000000/\0<many/\many<1073741824 /\
 ∀(r:Int) (H':Hp) (HE:List Int),0<=r->r<many->wN H' b c (t+1) HE->ar (ig H b c) (ig H' b c)->Q (.int r) H'
def at_of {ns:List Int}{p:Int}(h0:0<=p)(h1:p<ns.length):∃v,vp (ns.map V.int) p=some (.int v)/\ns[p.toNat]? = some v:=by
 have hk:p.toNat<ns.length:=by lia
 have ek:p=((p.toNat:Nat):Int):=by lia
 have q:vp (ns.map V.int) ((p.toNat:Nat):Int)=some (.int ns[p.toNat]):=oq (by rw[Jk,Jc hk]<;>rfl);rw[<-ek] at q;exact⟨_,q,Jc hk⟩
def Kl {a j m:Int}(h0:0<m)(h:m<2^64):xX (a%m) j:=by
 have h1:=Qbu a (b:=m) ⋯;have h2:=Qa1 a h0;exact .inl ⟨⋯,⋯⟩
def Mi {n:Nat}{p:Int}(h0:0<=p)(h1:p<n):CW n p=some p.toNat:=by unfold CW;rw[if_pos h0,if_pos h1]
def qv {H H':Hp}{b c:Gc}(h:∀a o,a≠b->a≠c->H a=some o->H' a=some o):ar (ig H b c) (ig H' b c):=fun a o e=>by
 refine aj.el (kQ e) _ ?_;rintro e h1 h2;rw[dH h1 h2];exact h a o h1 h2 e
end Z
namespace L2
open PySem
def Gm (t:TG):Prop:=∀x σ H (Q Q':St->Hp->Prop),(∀a b,Q a b->Q' a b)->t x σ H Q->t x σ H Q'
def RY (t:CS):Prop:=∀x σ H (Q Q':St->Hp->Prop),(∀a b,Q a b->Q' a b)->t x σ H Q->t x σ H Q'
def bW {i:Nat}:Gm (rV i):=fun _ _ _ _ _ h q=>h _ _ q
def dR:RY LQ:=fun _ _ _ _ _ h q=>⟨q.1,h _ _ q.2⟩
def iE {t:TG}{u:CS}(a:Gm t)(b:RY u):RY (Fu t u):=fun _ _ _ _ _ h ⟨v,r,e,q⟩=>⟨v,r,e,a _ _ _ _ _ (fun _ _ z=>b _ _ _ _ _ h z) q⟩
def a8.get {K:Ja}{H:Hp}:∀{ds:List Za} {vs:List V} {i:Nat} {d:Za},a8 K H ds vs->ds[i]? = some d->∃v,vs[i]? = some v/\Den K H d v
 | [],_,_,_,_,e=>by simp at e
 | d::ds,vs,i,d',h,e=>by
  unfold a8 at h;obtain⟨v,r,rfl,h1,h2⟩:=h;cases i with
  | zero=>cases e;exact⟨v,rfl,h1⟩
  | succ i=>exact a8.get (i:=i) h2 e
def a8.len {K:Ja}{H:Hp}:∀{ds:List Za} {vs:List V},a8 K H ds vs->vs.length=ds.length
 | [],_,h=>by unfold a8 at h;subst h;rfl
 | d::ds,vs,h=>by
  unfold a8 at h;obtain⟨v,r,rfl,h1,h2⟩:=h;rw[Jn,Jn,a8.len h2]
def Den.pair {K:Ja}{H:Hp}{a b:Str}{v:V}(h:Den K H (.tuple [.str a,.str b]) v):∃p,v = .ref p/\aY K H p [.str a,.str b]:=by
 unfold Den at h;obtain⟨p,vs,e,h1,h2⟩:=h;unfold a8 at h2;obtain⟨v1,r1,rfl,d1,h2⟩:=h2;unfold a8 at h2;obtain⟨v2,r2,rfl,d2,h2⟩:=h2;unfold a8 at h2;subst h2;unfold Den at d1 d2;subst d1 d2;exact⟨p,e,h1⟩
end L2
namespace Z
open PySem L2
def aQ (bk:List (Str×Str)):Za := .list (bk.map fun q =>.tuple [.str q.1,.str q.2])
def bE {H:Hp}{p:Gc}(h:H p=none)(o:HO):ar H (upd H p o):=fun b u q=>by rw[au (aH q h)];exact q
end Z
namespace L2
open PySem
def jN {J:It}{g:TG}{tb:TS}{D:Ends}{σ:St}{H:Hp}(N:Nat)(Pv:Nat->St->Hp->Prop)(h0:Pv 0 σ H)
  (go:∀i σ H,i<N->Pv i σ H->J.go i H/\∀x H',J.yld i H x H'->g x σ H' fun σ2 H2=>tb { D with nx:=Pv (i+1),ct:=Pv (i+1),bk:=D.nx } σ2 H2)
  (stop:∀ σ H,Pv N σ H->J.stop N H/\D.nx σ H) :
  ∃W:Nat->Nat->St->Hp->Prop,(∃m,W 0 m σ H)/\∀i m σ H,W i m σ H ->
   (J.stop i H/\D.nx σ H)\/(J.go i H/\∃N:St->Hp->Prop,(∀ σ' H',N σ' H'->∃m',m'<m/\W (i+1) m' σ' H')/\∀x H',J.yld i H x H'->g x σ H' fun σ2 H2=>tb { D with nx:=N,ct:=N,bk:=D.nx } σ2 H2):=by
 refine⟨fun i m σ H=>m=N-i/\i<=N/\Pv i σ H,⟨N,by simp,Uq _,h0⟩,?_⟩;intro i m σ H;refine aj.go ?_;rintro rfl hi p
 by_cases jv:i<N
 ·obtain⟨g1,g2⟩:=go i σ H jv p;exact .inr ⟨g1,Pv (i+1),fun σ' H' p'=>⟨N-(i+1),⋯,rfl,jv,p'⟩,g2⟩
 ·have e:i=N:=by lia
  subst e;exact .inl (stop σ H p)
def fk {t u:TS}{D:Ends}{σ:St}{H:Hp}(Ex:St->Hp->Prop)(h:∀Nx:St->Hp->Prop,(∀ σ H,Ex σ H->Nx σ H)->t { D with nx:=Nx } σ H)(fin:∀ σ H,Ex σ H->u D σ H):DA t u D σ H:=h (u D) fin
def uy {c:TT}{tb:TS}{D:Ends}{σ:St}{H:Hp}(Pv:Nat->St->Hp->Prop)(h0:∃m,Pv m σ H)
  (hs:∀m σ H,Pv m σ H->c σ H fun b H1=>if b=true then ∃N:St->Hp->Prop,(∀ σ' H',N σ' H'->∃m',m'<m/\Pv m' σ' H')/\tb { D with nx:=N,ct:=N,bk:=D.nx } σ H1 else D.nx σ H1):pC c tb D σ H:=⟨Pv,h0,hs⟩
def ip {te:TE}{g:TG}{u:TS}{D:Ends}{σ:St}{H:Hp}(Ex:V->Hp->Prop)(h:∀Qn:VK,(∀v H,Ex v H->Qn v H)->te σ H Qn)(fin:∀v H,Ex v H->g v σ H (u D)):DA (GK te g) u D σ H:=h _ fin
def gn {i:Nat}{v:V}{σ:St}{H:Hp}{Q:St->Hp->Prop}(h:Q (σ.set i (some v)) H):rV i v σ H Q:=h
end L2
namespace Z
open PySem L2
def Bx (H:Hp)(b c:Gc)(t:Int):Prop:=∃ns,wN H b c t ns
structure Step (b c:Gc)(H H':Hp)(t t' N:Int):Prop where
 le:t<=t'
 ub:t'<=t+N
 bx:Bx H' b c t'
 sm:ar (ig H b c) (ig H' b c)
def Step.refl {b c:Gc}{H:Hp}{t:Int}(h:Bx H b c t):Step b c H H t t 0:=⟨Int.le_refl _,⋯,h,ar.refl _⟩
def Step.trans {b c:Gc}{H H' H2:Hp}{t t' t2 N M:Int}(x:Step b c H H' t t' N)(y:Step b c H' H2 t' t2 M):Step b c H H2 t t2 (N+M):=
 ⟨by have:=x.le;have:=y.le;lia,by have:=x.ub;have:=y.ub;lia,y.bx,x.sm.trans y.sm⟩
def Step.more {b c:Gc}{H H':Hp}{t t' N M:Int}(x:Step b c H H' t t' N)(h:N<=M):Step b c H H' t t' M:=⟨x.le,by have:=x.ub;lia,x.bx,x.sm⟩
def Bx.aR {H:Hp}{b c p:Gc}{t:Int}(x:Bx H b c t)(h:H p=none):p≠b/\p≠c:=by
 obtain⟨ns,x⟩:=x;exact⟨fun z=>(by rw[z,x.d] at h;cases h),fun z=>(by rw[z,x.l] at h;cases h)⟩
def Bx.upd {H:Hp}{b c p:Gc}{t:Int}{o:HO}(x:Bx H b c t)(h1:p≠b)(h2:p≠c):Bx (upd H p o) b c t:=by
 obtain⟨ns,x⟩:=x;exact⟨ns,by rw[au (Zx h1)];exact x.d,by rw[au (Zx h2)];exact x.l,x.ne,x.le⟩
def Step.new {b c p:Gc}{H H':Hp}{t t' N:Int}(x:Step b c H H' t t' N)(h:H' p=none)(o:HO):Step b c H (upd H' p o) t t' N:=
 ⟨x.le,x.ub,x.bx.upd (x.bx.aR h).1 (x.bx.aR h).2,x.sm.trans (qv fun a u _ _ e=>by rw[au (aH e h)];exact e)⟩
def Step.VS {b c p:Gc}{H H':Hp}{t t' N:Int}(x:Step b c H H' t t' N)(h:H p=none)(h1:p≠b)(h2:p≠c)(o:HO):Step b c H (upd H' p o) t t' N:=
 ⟨x.le,x.ub,x.bx.upd h1 h2,fun a u e=>by
  have q:=x.sm a u e;refine aj.el (kQ q) _ ?_;rintro q n1 n2;rw[dH n1 n2,au (fun z =>?_)]
  ·exact q
  ·rw[z] at e;rw[(kQ e).1] at h;cases h⟩
def Step.old {b c a:Gc}{H H':Hp}{t t' N:Int}{o:HO}(x:Step b c H H' t t' N)(h:H a=some o)(h1:a≠b)(h2:a≠c):H' a=some o:=
 (kQ (x.sm a o (by rw[dH h1 h2];exact h))).1
def Step.fresh {b c a:Gc}{H H':Hp}{t t' N:Int}(x:Step b c H H' t t' N)(hb:Bx H b c t)(h:H' a=none):H a=none:=by
 obtain⟨h1,h2⟩:=x.bx.aR h;cases e:H a with
 | none=>rfl
 | some o=>rw[x.old e h1 h2] at h;cases h
def ar.ig {H H':Hp}{b c:Gc}(s:ar H H'):ar (ig H b c) (ig H' b c):=qv fun a o _ _ e=>s a o e
def Bx.same {H H':Hp}{b c:Gc}{t:Int}(x:Bx H b c t)(s:ar H H'):Bx H' b c t:=by
 obtain⟨ns,x⟩:=x;exact⟨ns,s _ _ x.d,s _ _ x.l,x.ne,x.le⟩
def Step.same {b c:Gc}{H H':Hp}{t:Int}(x:Bx H b c t)(s:ar H H'):Step b c H H' t t 0:=⟨Int.le_refl _,⋯,x.same s,ar.ig s⟩
def vR:Sp:=fun vs H Q _=>lW fun(b c:Gc) (t many:Int)=>vs=[.ref b,.int many]/\Bx H b c t/\0<=t/\t<100000000/\0<many/\many<1073741824 /\
 ∀(r:Int) (H':Hp),0<=r->r<many->Step b c H H' t (t+1) 1->Q (.int r) H'
def GJ {vs:List V}{H:Hp}{Q:VK}{E:XK}(h:vR vs H Q E):Dv vs H Q E:=by
 obtain⟨b,c,t,many,e,⟨ns,bx⟩,h1,h2,h3,h4,q⟩:=h;exact⟨b,c,t,ns,many,e,bx,h1,h2,h3,h4,fun r H' HE r0 r1 bx' sm=>q r H' r0 r1 ⟨⋯,⋯,⟨HE,bx'⟩,sm⟩⟩
def MN (vs:List V)(j:Nat):lq vs none (some (j:Int))=vs.take j:=by
 unfold lq;rw[HT.uZ,HT.lS,Qd3,Nat.sub_zero]
 rcases Qe2 j vs.length with h|h
 ·rw[Nat.min_eq_left h]
 ·rw[Nat.min_eq_right h,Uv (Je _),Uv h]
def Fy (vs:List V)(j:Nat):lq vs (some (j:Int)) none=vs.drop j:=by
 unfold lq;rw[HT.uZ,HT.lS]
 rcases Qe2 j vs.length with h|h
 ·rw[Nat.min_eq_left h,Uv (by rw[Uj];exact Je _)]
 ·rw[Nat.min_eq_right h,QeI (Je _),QeI h];simp
def Fn.imp {P:YZ}{w:Zb}{K:Ja}{mg:Str->Option Fk}{base:Heap}{k:Nat}{x:Str}{ps:List Str}{sp sp':Sp}(F:Fn P w K mg base k x ps sp)(h:∀vs H Q E,sp' vs H Q E->sp vs H Q E):Fn P w K mg base k x ps sp':=by
 refine aj.el (F.ex) _ ?_;rintro f fd a b c d;exact⟨f,fd,a.imp h,b,c,d⟩
def Step.dN {b c p:Gc}{H H' H2:Hp}{t t' N:Int}{o:HO}(x:Step b c H H' t t' N)(n:jg H' p o H2):Step b c H H2 t t' N:=by rw[n.eq];exact x.new n.nn _
def Step.EI {b c p:Gc}{H H' H2:Hp}{t t' N:Int}{o:HO}(x:Step b c H H' t t' N)(n:EO H' p o H2)(h:H p=none)(h1:p≠b)(h2:p≠c):Step b c H H2 t t' N:=by rw[n.eq];exact x.VS h h1 h2 _
def dJ (x:Str):Prop:=∀c∈x.cps.toList,c=48\/c=49
def pd (g:Str):∀(parts:List Str) (acc:Array Nat),(parts.foldl (fun acc p=>acc++g.cps++p.cps) acc).toList=acc.toList++parts.flatMap (fun p=>g.cps.toList++p.cps.toList)
 | [],acc=>by simp
 | p::r,acc=>by rw[List.foldl_cons,pd g r];simp
def fg (xs:List Str):(Qad "" xs).cps.toList=xs.flatMap (fun p=>p.cps.toList):=by
 cases xs with
 | nil=>rfl
 | cons x r=>
  show((r.foldl (fun acc p=>acc++(W1 "").cps++p.cps) x.cps)).toList=_;rw[pd];have e:(W1 "").cps.toList=[]:=rfl;simp[e]
def aK (x y:Str):(x++y).cps.toList=x.cps.toList++y.cps.toList:=by
 show(x.cps++y.cps).toList=_;simp
def str_len (x:Str):x.length=x.cps.toList.length:=by simp[Str.length]
mutual
def eqv_refl:∀(d:Za),d.canLay0=true->ZP d d=true
 | .none,_=>by simp[ZP]
 | .bool _,_=>by simp[ZP]
 | .int _,_=>by simp[ZP]
 | .str _,_=>by simp[ZP]
 | .list ds,h=>by
  simp only[ZP];exact eqvAll_refl ds (by simpa [ZZ] using h)
 | .tuple ds,h=>by
  simp only[ZP];exact eqvAll_refl ds (by simpa [ZZ] using h)
 | .dict _,h=>by simp[ZZ] at h
def eqvAll_refl:∀(ds:List Za),Qaq ds=true->Qae ds ds=true
 | [],_=>by simp[Qae]
 | d::ds,h=>by
  simp only[Qaq,Js] at h;simp only[Qae,Js];exact⟨eqv_refl d h.1,eqvAll_refl ds h.2⟩
end
def Sh (n:Nat)(d:Za):Prop:=d.canLay0=true/\d.depth<=n
def Sh.all {n:Nat}:∀{ds:List Za},(∀d∈ds,Sh n d)->Qaq ds=true/\Qao ds<=n
 | [],_=>⟨by simp[Qaq],by simp[Qao]⟩
 | d::ds,h=>by
  obtain⟨h1,h2⟩:=h d Jm;obtain⟨h3,h4⟩:=Sh.all fun e he=>h e (Jj _ he);exact⟨by simp[Qaq,h1,h3],by simp only[Qao];lia⟩
def Sh.list {n:Nat}{ds:List Za}(h:∀d∈ds,Sh n d):Sh (n+1) (.list ds):=by
 obtain⟨h1,h2⟩:=Sh.all h;exact⟨by simpa [ZZ] using h1,by simp only[Qap];lia⟩
def Sh.tuple {n:Nat}{ds:List Za}(h:∀d∈ds,Sh n d):Sh (n+1) (.tuple ds):=by
 obtain⟨h1,h2⟩:=Sh.all h;exact⟨by simpa [ZZ] using h1,by simp only[Qap];lia⟩
def Sh.shaped {n:Nat}{d:Za}(h:Sh n d)(hn:n<=64):Zy d=true:=by
 unfold Zy;rw[h.1,decide_eq_true (Jg h.2 hn)]
 rfl
def Sh.str {n:Nat}{x:Str}(h:ZZ (.str x)=true):Sh n (.str x):=⟨h,by simp[Qap]⟩
def Sh.int {n:Nat}{i:Int}:Sh n (.int i):=⟨by simp[ZZ],by simp[Qap]⟩
def eP {x:Str}(h:∀ch∈x.cps.toList,ch<128):ZZ (.str x)=true:=by
 simp only[ZZ,PyData.strOk];rw[<-Array.all_toList,U1];intro ch hc;have:=h ch hc;exact decide_eq_true ⋯
def Den.strs {K:Ja}{H:Hp}:∀(xs:List Str),a8 K H (xs.map Qbc) (xs.map V.str)
 | []=>by unfold a8;rfl
 | x::xs=>by
  rw[Jz];unfold a8;exact⟨_,_,rfl,by unfold Den;rfl,Den.strs xs⟩
def Den.list {K:Ja}{H:Hp}{l:Gc}{ds:List Za}{vs:List V}(h:bg K H l vs)(hd:a8 K H ds vs):Den K H (.list ds) (.ref l):=by
 unfold Den;exact⟨l,vs,rfl,h,hd⟩
def pj {n:Nat}:∀{ds:List Za} {d:Za},Qao ds<=n->d∈ds->d.depth<=n
 | [],_,_,h=>nomatch h
 | e::ds,d,hn,h=>by
  simp only[Qao] at hn
  rcases Jq.mp h with rfl|h
  ·lia
  ·exact pj ⋯ h
def iB {n:Nat}:∀{ds:List Za} {d:Za},Zu ds<=n->d∈ds->d.weight<=n
 | [],_,_,h=>nomatch h
 | e::ds,d,hn,h=>by
  simp only[Zu] at hn
  rcases Jq.mp h with rfl|h
  ·lia
  ·exact iB ⋯ h
def jb:∀(ds:List Za),ds.length<=Zu ds
 | []=>by simp
 | e::ds=>by
  simp only[Zu,Jn];have:=jb ds;lia
def all_true (n:Nat):(Jp n true).all id=true:=by
 induction n with
 | zero=>rfl
 | succ n ih=>rw[QcL,QaW,ih];rfl
def a8.of_get {K:Ja}{H:Hp}:∀{ds:List Za} {vs:List V},ds.length=vs.length->(∀(j:Nat) d v,ds[j]? = some d->vs[j]? = some v->Den K H d v)->a8 K H ds vs
 | [],[],_,_=>by unfold a8;rfl
 | [],_::_,h,_=>by simp at h
 | _::_,[],h,_=>by simp at h
 | d::ds,v::vs,h,g=>by
  unfold a8;exact⟨v,vs,rfl,g 0 d v rfl rfl,a8.of_get (by simpa using h) fun j d' v' h1 h2=>g (j+1) d' v' h1 h2⟩
def kC (a b:Str):V:=if Qa7 a b=true then .str (Zi a (some (b.length:Nat)) none) else if Qa7 b a=true then .str (Zi b (some (a.length:Nat)) none) else .non
def zb:Sp:=fun vs H Q _=>∃a b:Str,vs=[.str a,.str b]/\a.length<=1000000/\b.length<=1000000/\Q (kC a b) H
section
variable {P:YZ}{w:Zb}{K:Ja}{mg:Str->Option Fk}{base:Heap}{f:Gc}{fd:Zc}
def GS:aG ["one", "other"] ["one", "other"] (ai (top nC)):=⟨rfl,rfl,rfl,∅,rfl,∅,∅⟩
def Ip (F:dM K "rest_of" "rest_of" (top nC) f fd)(T:Nm mg):aW P w K mg base dI 1 f fd ["one", "other"] zb:=by
 refine F.ok GS (fun vs H Q E h =>?_) (fun bS A outer s H vs Q E hr h =>?_)
 ·obtain⟨a,b,rfl,_⟩:=h
  rfl
 unfold zb at h;refine aj.el h _ ?_;clear h;rintro a b rfl ha hb q;refine⟨_,(af (aV (cI (uN K Zz Qdj Qdi kF (pv 0) (aa (pv 1) ae))) (ag (ao (bL (Sw K) (pv 0) (bz (ak (eE K) rfl T.n_len (by rfl) (aa (pv 1) ae))) iV))) aB)
  (af (aV (cI (uN K Zz Qdj Qdi kF (pv 1) (aa (pv 0) ae))) (ag (ao (bL (Sw K) (pv 1) (bz (ak (eE K) rfl T.n_len (by rfl) (aa (pv 0) ae))) iV))) aB)
  (ag (ao a9)))),?_⟩
 unfold kC at q;refine⟨_,rfl,rfl,_,rfl,a,b,rfl,rfl,_,rfl,?_⟩;refine fq (fun c =>?_) (fun c =>?_)
 ·rw[if_pos c] at q;exact⟨_,rfl,_,rfl,_,_,rfl,⟨sizeOk (Jg hb ∅),rfl⟩,_,rfl,.inr ⟨a,rfl,sizeOk (Jg ha ∅),q⟩⟩
 ·rw[if_neg c] at q;refine⟨_,rfl,rfl,_,rfl,b,a,rfl,rfl,_,rfl,?_⟩;refine fq (fun c =>?_) (fun c =>?_)
  ·rw[if_pos c] at q;exact⟨_,rfl,_,rfl,_,_,rfl,⟨sizeOk (Jg ha ∅),rfl⟩,_,rfl,.inr ⟨b,rfl,sizeOk (Jg hb ∅),q⟩⟩
  ·rw[if_neg c] at q;exact q
end
def Qg (bk:List (Str×Str))(j:Nat):Prop:=∀(i' j':Nat) a b,i'<j'->j'<j->bk[i']? = some a->bk[j']? = some b->kC a.2 b.2 = .non
def zK (K:Ja):Sp:=fun vs H Q _=>∃(v:V) (bk:List (Str×Str)),vs=[v]/\Den K H (aQ bk) v/\bk.length<=1000/\(∀q∈bk,q.2.length<=200000) /\
 (Qg bk bk.length->∀H',ar H H'->Q .non H') /\
 ∀(i j:Nat) a b,bk[i]? = some a->bk[j]? = some b->i<j->Qg bk j->(∀(i':Nat) a',i'<i->bk[i']? = some a'->kC a'.2 b.2 = .non)->kC a.2 b.2 ≠ .non ->
  ∀p H',ar H H'->H p=none->H' p=some (.tup [.str a.1,.str b.1])->Q (.ref p) H'
section
variable {P:YZ}{w:Zb}{K:Ja}{mg:Str->Option Fk}{base:Heap}{f:Gc}{fd:Zc}
def rh:aG ["book", "at", "other", "code", "one", "code_ahead"] ["book"] (ai (top ue)):=⟨rfl,rfl,rfl,∅,rfl,∅,∅⟩
def E7 (vs:List V)(j:Nat)(h:j<=vs.length):lq vs none (some (j:Int))=vs.take j:=by
 unfold lq;have e:HT.eQ vs.length vs.length (some (j:Int))=j:=by
  unfold HT.eQ;dsimp only;rw[if_neg (show ¬((j:Int)<0) by lia)];lia
 rw[e];show((vs.drop 0).take (j-0))=_;simp
def P2 (F:dM K "clash" "clash" (top ue) f fd)(T:Nm mg)(KY:Fn P w K mg base 1 "rest_of" ["one", "other"] zb):aW P w K mg base dI 2 f fd ["book"] (zK K):=by
 refine F.ok rh (fun vs H Q E h =>?_) (fun bS A outer s H vs Q E hr h =>?_)
 ·obtain⟨v,bk,rfl,_⟩:=h
  rfl
 obtain⟨v,bk,rfl,hD,hlen,hle,q0,q1⟩:=h;refine⟨_,(af (fe Zw rfl (G9 rfl T.n_enumerate (aa (pv 0) ae)) (tupK K 2 rfl (aN (aI (i:=1) rh.nd rfl (YY rfl)) (aN (tupK K 2 rfl (aN (aI (i:=2) rh.nd rfl (YY rfl)) (aN (aI (i:=3) rh.nd rfl (YY rfl)) bH))) bH))) (ag (fe Zw rfl (JQ K (bL (Sw K) (pv 0) iV (bz (pv 1)))) (tupK K 2 rfl (aN (aI (i:=4) rh.nd rfl (YY rfl)) (aN (aI (i:=5) rh.nd rfl (YY rfl)) bH))) (ag (aV (ax zL (aA KY hr rfl (aa (pv 5) (aa (pv 3) ae))) a9 (aE _)) (ag (ao (DW (aa (pv 4) (aa (pv 2) ae))))) aB)))))
  (ag (ao a9))),?_⟩
 unfold aQ at hD;unfold Den at hD;obtain⟨l,vs,rfl,hS,hDs⟩:=hD;have VU:vs.length=bk.length:=by rw[hDs.len,Jd]
 have item:∀i (hi:i<bk.length),∃a,vs[i]? = some (.ref a)/\aY K H a [.str bk[i].1,.str bk[i].2]:=fun i hi=>by
  obtain⟨x,hx,dx⟩:=hDs.get (i:=i) (d := .tuple [.str bk[i].1,.str bk[i].2]) (by rw[Jk,Jc hi];rfl);obtain⟨a,rfl,hT⟩:=dx.pair;exact⟨a,hx,hT⟩
 have qP:∀i (hi:i<bk.length),bk[i].2.length<=1000000:=fun i hi=>Jg (hle _ (Ug hi)) ∅;refine⟨_,rfl,l,rfl,⟨_,hS⟩,?_⟩;refine jN (N:=bk.length) (fun j σ H'=>ar H H'/\Qg bk j/\∃x1 x2 x3 x4 x5,σ=[some (.ref l),x1,x2,x3,x4,x5]) ⟨ar.refl _,fun i' j' a b _ h=>absurd h (Wb _),_,_,_,_,_,rfl⟩ ?_ ?_
 ·rintro j σ H' hj ⟨sm,nc,x1,x2,x3,x4,x5,rfl⟩;obtain⟨a,hx,hT⟩:=item j hj;refine⟨⟨_,_,sm.seq hS,hx⟩,?_⟩;rintro x H2 ⟨t1,rfl,ht1,hy⟩;have e:=hy _ _ (sm.seq hS) hx;subst e;have jz:=sm.trans (bE ht1 (.tup [.int j,.ref a]));refine⟨t1,_,rfl,aY.of av,rfl,_,_,rfl,_,_,rfl,a,_,rfl,jz.bO hT,rfl,_,_,rfl,_,_,rfl,rfl,rfl,?_⟩;refine⟨_,rfl,_,rfl,_,rfl,.inl ⟨l,_,rfl,jz.seq hS,fun p hp =>?_⟩⟩;rw[E7 vs j ⋯];have JX:=jz.trans (bE hp (.lst (vs.take j)));refine⟨p,rfl,⟨_,bg.of av⟩,?_⟩;refine FL (xs:=vs.take j) (fun i σ H4=>ar (upd (upd H' t1 (.tup [.int j,.ref a])) p (.lst (vs.take j))) H4/\(∀(i':Nat) a',i'<i->bk[i']? = some a'->kC a'.2 bk[j].2 = .non)/\∃y4 y5,σ=[some (.ref l),some (.int j),some (.str bk[j].1),some (.str bk[j].2),y4,y5]) ⟨ar.refl _,fun i' a' h=>absurd h (Wb _),_,_,rfl⟩ ?_ ?_ ?_
  ·rintro i σ H4 hi ⟨rH,_,_⟩;exact rH.seq (bg.of av)
  ·rintro i x σ H4 hix ⟨rH,ng,y4,y5,rfl⟩;have vo:i<j:=by
    have:=(Ji.mp hix).1;rw[J6] at this;lia
   have QI:i<bk.length:=by lia
   obtain⟨a',mQ,hT'⟩:=item i QI;rw[Qew vo,mQ] at hix;cases hix;have RU:=JX.trans rH;refine⟨a',_,rfl,RU.bO hT',rfl,_,_,rfl,_,_,rfl,rfl,?_⟩;refine⟨_,rfl,_,rfl,bk[i].2,bk[j].2,rfl,qP i QI,qP j hj,.inl ⟨rfl,_,rfl,?_⟩⟩;refine fq (fun c =>?_) (fun c =>?_)
   ·have hr:kC bk[i].2 bk[j].2 ≠ .non:=by simpa using c
    refine⟨_,rfl,_,rfl,by show 2<=KE;decide,fun t2 ht2 =>?_⟩;exact q1 i j bk[i] bk[j] (Jc QI) (Jc hj) vo nc ng hr t2 _ (RU.trans (bE ht2 _)) (RU.free ht2) av
   ·have hr:kC bk[i].2 bk[j].2 = .non:=by simpa using c
    refine⟨rH,fun i' b' xf uF =>?_,_,_,rfl⟩
    by_cases z:i'<i
    ·exact ng i' b' z uF
    ·have:i'=i:=by lia
     subst this;rw[Jc QI] at uF;cases uF;exact hr
  ·rintro σ H4 ⟨rH,ng,y4,y5,rfl⟩;refine⟨JX.trans rH,fun i' j' a1 b1 h1 h2 e1 e2 =>?_,_,_,_,_,_,rfl⟩
   by_cases z:j'<j
   ·exact nc i' j' a1 b1 h1 z e1 e2
   ·have:j'=j:=by lia
    subst this;rw[Jc hj] at e2;cases e2;exact ng i' a1 (by rw[J6];lia) e1
 ·rintro σ H' ⟨sm,nc,x1,x2,x3,x4,x5,rfl⟩;exact⟨⟨_,sm.seq hS,by rw[VU];exact Je _⟩,q0 nc H' sm⟩
end
abbrev sg (x:Str):List Nat:=x.cps.toList
def RF (a b:Str):Prop := ¬(sg a <+: sg b)/\¬(sg b <+: sg a)
def RF.symm {a b:Str}(h:RF a b):RF b a:=⟨h.2,h.1⟩
def tU (x y:Str):sg (x++y)=sg x++sg y:=aK x y
def RF.ext {a b u v:Str}(h:RF a b):RF (a++u) (b++v):=by
 refine⟨fun z =>?_,fun z =>?_⟩
 ·rw[tU,tU] at z
  rcases Qbd ((QbE _ _).trans z) (QbE (sg b) (sg v)) with q|q
  ·exact h.1 q
  ·exact h.2 q
 ·rw[tU,tU] at z
  rcases Qbd ((QbE _ _).trans z) (QbE (sg a) (sg u)) with q|q
  ·exact h.2 q
  ·exact h.1 q
abbrev fX (cs:List Str):Prop:=cs.Pairwise RF
def fX.perm {cs ds:List Str}(h:fX cs)(p:cs.Perm ds):fX ds:=(p.pairwise_iff fun h=>RF.symm h).mp h
abbrev s0:Str := "0"
abbrev s1:Str := "1"
def RF.two (x:Str):RF (x++s0) (x++s1):=by
 have e0:sg (x++s0)=sg x++[48]:=aK x s0;have e1:sg (x++s1)=sg x++[49]:=aK x s1;refine⟨fun z =>?_,fun z =>?_⟩
 ·rw[e0,e1] at z;have:=z.eq_of_length (by simp);simp at this
 ·rw[e0,e1] at z;have:=z.eq_of_length (by simp);simp at this
def RF.one {x y u:Str}(h:RF y x):RF y (x++u):=by
 have z:=h.ext (u:=Zt) (v:=u);have e:y++Zt=y:=by
  show(⟨y.cps ++ #[]⟩:Str)=y;simp
 rw[e] at z;exact z
def fX.split {A B:List Str}{x:Str}(h:fX (A++x::B)):fX (A++[x++s0,x++s1]++B):=by
 rw[Y4];refine aj.el (Y0.mp h) _ ?_;rintro hA hxB hAB;obtain⟨hx,hB⟩:=List.pairwise_cons.mp hxB;refine Y0.mpr ⟨hA,?_,fun a ha y hy =>?_⟩
 ·refine Y0.mpr ⟨List.pairwise_cons.mpr ⟨fun y hy=>by rw[Ju.mp hy];exact RF.two x,Qa0 _ _⟩,hB,fun y hy z hz =>?_⟩;have q:=(hx z hz).symm;simp at hy
  rcases hy with rfl|rfl
  ·exact q.one.symm
  ·exact q.one.symm
 ·rcases Ub.mp hy with hy|hy
  ·have q:=hAB a ha x Jm;simp at hy
   rcases hy with rfl|rfl
   ·exact q.one
   ·exact q.one
  ·exact hAB a ha y (Jj _ hy)
def i7 (x y:Str):Qa7 x y=true↔sg y <+: sg x:=by
 have hl:y.length=(sg y).length:=str_len y;have hx:x.length=(sg x).length:=str_len x;have e:(x.cps.extract 0 (0+y.length)==y.cps)=true↔(sg x).take y.length=sg y:=by
  rw[beq_iff_eq,<-Array.toList_inj];simp[Array.toList_extract]
 show(decide (0+y.length<=x.length)&&(x.cps.extract 0 (0+y.length)==y.cps))=true↔_;rw[Js,decide_eq_true_iff,e];constructor
 ·rintro⟨_,h⟩;rw[<-h];exact List.take_prefix _ _
 ·intro h;exact⟨by have:=h.length_le;lia,by rw[hl];exact(List.prefix_iff_eq_take.mp h).symm⟩
def qZ {a b:Str}:kC a b = .non↔RF a b:=by
 unfold kC RF
 by_cases h1:Qa7 a b=true
 ·rw[if_pos h1];exact⟨(nofun),fun z=>absurd ((i7 a b).mp h1) z.2⟩
 ·rw[if_neg h1]
  by_cases h2:Qa7 b a=true
  ·rw[if_pos h2];exact⟨(nofun),fun z=>absurd ((i7 b a).mp h2) z.1⟩
  ·rw[if_neg h2];exact⟨fun _=>⟨fun z=>h2 ((i7 b a).mpr z),fun z=>h1 ((i7 a b).mpr z)⟩,fun _=>rfl⟩
def Ar (bk:List (Str×Str)):Qg bk bk.length↔fX (bk.map (·.2)):=by
 constructor
 ·intro h;refine Uo.mpr fun i j hi hj vo =>?_;rw[Jd] at hi hj;rw[Yy,Yy];exact qZ.mp (h i j _ _ vo hj (Jc hi) (Jc hj))
 ·intro h i j a b vo hj ha hb;obtain⟨xf,rfl⟩:=Ji.mp ha;obtain⟨Ky,rfl⟩:=Ji.mp hb;have z:=Uo.mp h i j (by rw[Jd];exact xf) (by rw[Jd];exact Ky) vo;rw[Yy,Yy] at z;exact qZ.mpr z
def DI (K:Ja):Sp:=fun vs H Q _=>∃(v:V) (bk:List (Str×Str)),vs=[v]/\Den K H (aQ bk) v/\bk.length<=1000/\(∀q∈bk,q.2.length<=200000) /\
 (fX (bk.map (·.2))->∀H',ar H H'->Q (.bl true) H')/\(¬fX (bk.map (·.2))->∀H',ar H H'->Q (.bl false) H')
section
variable {P:YZ}{w:Zb}{K:Ja}{mg:Str->Option Fk}{base:Heap}{f:Gc}{fd:Zc}
def Ha:aG ["book"] ["book"] (ai (top xZ)):=⟨rfl,rfl,rfl,∅,rfl,∅,∅⟩
def HF (F:dM K "free" "free" (top xZ) f fd)(T:Nm mg)(GQ:Fn P w K mg base 2 "clash" ["book"] (zK K)):aW P w K mg base dI 3 f fd ["book"] (DI K):=by
 refine F.ok Ha (fun vs H Q E h =>?_) (fun bS A outer s H vs Q E hr h =>?_)
 ·obtain⟨v,bk,rfl,_⟩:=h
  rfl
 obtain⟨v,bk,rfl,hD,hl,hc,q1,q2⟩:=h;refine⟨_,(ag (ao (cT lY (aA (GQ.mono ∅) hr rfl (aa (pv 0) ae)) a9 (aE _)))),?_⟩;refine⟨_,rfl,v,bk,rfl,hD,hl,hc,fun nc H' sm =>.inl ⟨rfl,q1 ((Ar bk).mp nc) H' sm⟩,fun i j a b ha hb vo _ _ xA p H' sm hp hp' =>.inl ⟨rfl,q2 (fun fr =>?_) H' sm⟩⟩;exact xA ((Ar bk).mpr fr i j a b vo (Ji.mp hb).1 ha hb)
end
end Z
set_option maxHeartbeats 30000000
namespace Z
open PySem L2
abbrev cW:Str := "01"
abbrev tF:Str := "abcdefghijklmnopqrstuvwxyz"
def fR (x y:Str):Bool:=decide (V.str (Qed x y)=V.str (W1 ""))
def dW:Za->Bool
 | .str x=>decide ((1:Int)<=(x.length:Nat))&&(decide (((x.length:Nat):Int)<=8)&&fR x tF)
 | _=>false
def cJ:Za->Bool
 | .str x => !decide (V.str x=V.str (W1 ""))&&fR x cW
 | _=>false
def bB:Za->Bool
 | .tuple [a,b]=>dW a&&cJ b
 | _=>false
def gJ:Za->Str
 | .tuple (.str x::_)=>x
 | _=>Zt
def dn:Za->Bool
 | .list ds => !ds.isEmpty&&(ds.all bB&&decide ((bV (fun i=>(ds.map gJ).getD i Zt) ds.length).length=ds.length))
 | _=>false
def vd (K:Ja):Sp:=fun vs H Q _=>∃(v:V) (d:Za),vs=[v]/\Den K H d v/\d.weight<=300000/\Zy d=true/\(∀ds,d = .list ds->ds.length<=4000)/\∀H',ar H H'->Q (.bl (dn d)) H'
def uA:Sp:=fun vs H Q _=>∃x y:Str,vs=[.str x,.str y]/\x.length<=1000000/\Q (.bl (fR x y)) H
def sO (K:Ja)(f:Za->Bool):Sp:=fun vs H Q _=>∃(v:V) (d:Za),vs=[v]/\Den K H d v/\d.weight<=1000000/\∀H',ar H H'->Q (.bl (f d)) H'
section
variable {P:YZ}{w:Zb}{K:Ja}{mg:Str->Option Fk}{base:Heap}{f:Gc}{fd:Zc}{t1 t2 t3:Tok}
def y1:aG ["text", "signs"] ["text", "signs"] (ai (top mT)):=⟨rfl,rfl,rfl,∅,rfl,∅,∅⟩
def Gq (F:dM K "made_of" "made_of" (top mT) f fd)(T:Nm mg):aW P w K mg base dI 1 f fd ["text", "signs"] uA:=by
 refine F.ok y1 (fun vs H Q E h =>?_) (fun bS A outer s H vs Q E hr h =>?_)
 ·obtain⟨x,y,rfl,_⟩:=h
  rfl
 obtain⟨x,y,rfl,hx,q⟩:=h;have cK:=hr.units;refine⟨_,(ag (ao (cT (kW K cK) (uN K Zz PySem.F.slot_str_strip PySem.F.type_str_strip BM (pv 0) (aa (pv 1) ae)) aq (aE _)))),?_⟩;exact⟨_,rfl,rfl,_,rfl,x,y,rfl,rfl,sizeOk (Jg hx ∅),.inl ⟨rfl,q⟩⟩
def xg:aG ["thing"] ["thing"] (ai (top mD)):=⟨rfl,rfl,rfl,∅,rfl,∅,∅⟩
def Bc (F:dM K "is_name" "is_name" (top mD) f fd)(T:Nm mg)(gC:mg "LONGEST_NAME" = some (.int 8 t1))(fV:mg "SMALL_LETTERS" = some (.str tF t2))(iI:Fn P w K mg base 1 "made_of" ["text", "signs"] uA):aW P w K mg base dI 2 f fd ["thing"] (sO K dW):=by
 refine F.ok xg (fun vs H Q E h =>?_) (fun bS A outer s H vs Q E hr h =>?_)
 ·obtain⟨v,d,rfl,_⟩:=h
  rfl
 obtain⟨v,d,rfl,hd,hw,q⟩:=h;have cK:=hr.units;have hq:=q H (ar.refl _);refine⟨_,(ag (ao (fY (ak (jK K) rfl T.n_isinstance (by rfl) (aa (pv 0) (aa (bI rfl T.n_str (by rfl) (v := .ty "str") rfl) ae))) (fY (Ee oU oU ah (ak (eE K) rfl T.n_len (by rfl) (aa (pv 0) ae)) (mr rfl gC)) (lr (aA (iI.mono ∅) hr rfl (aa (pv 0) (aa (tL rfl fV) ae)))))))),?_⟩;refine⟨_,rfl,.inl ⟨_, "str",d,_,rfl,hd,(vQ K d).2.2.1,_,rfl,?_⟩⟩;cases d with
 | str x=>
  have e:=hd;unfold Den at e;subst e;have JJ:x.length<=1000000:=hw;refine bA ⟨_,rfl,_,_,rfl,⟨sizeOk (Jg JJ ∅),rfl⟩,_,_,rfl,rfl,_,rfl,?_⟩;have hq:Q (.bl (decide ((1:Int)<=(x.length:Nat))&&(decide (((x.length:Nat):Int)<=8)&&fR x tF))) H:=hq;refine fq (fun c1 =>?_) (fun c1 =>?_)
  ·rw[c1,Yg] at hq;refine⟨_,_,rfl,rfl,_,rfl,fq (fun c2 =>?_) (fun c2 =>?_)⟩
   ·rw[c2,Yg] at hq;exact⟨_,rfl,x,_,rfl,JJ,hq⟩
   ·rw[U8.mpr c2,Yz] at hq;exact hq
  ·rw[U8.mpr c1,Yz] at hq;exact⟨_,rfl,bj hq⟩
 | _=>exact bj hq
def yw:aG ["thing"] ["thing"] (ai (top mR)):=⟨rfl,rfl,rfl,∅,rfl,∅,∅⟩
def AW (F:dM K "is_code" "is_code" (top mR) f fd)(T:Nm mg)(kd:mg "SIGNS" = some (.str cW t3))(iI:Fn P w K mg base 1 "made_of" ["text", "signs"] uA):aW P w K mg base dI 2 f fd ["thing"] (sO K cJ):=by
 refine F.ok yw (fun vs H Q E h =>?_) (fun bS A outer s H vs Q E hr h =>?_)
 ·obtain⟨v,d,rfl,_⟩:=h
  rfl
 obtain⟨v,d,rfl,hd,hw,q⟩:=h;have cK:=hr.units;have hq:=q H (ar.refl _);refine⟨_,(ag (ao (fY (ak (jK K) rfl T.n_isinstance (by rfl) (aa (pv 0) (aa (bI rfl T.n_str (by rfl) (v := .ty "str") rfl) ae))) (fY (cT (DE K cK) (pv 0) aq (aE _)) (lr (aA (iI.mono ∅) hr rfl (aa (pv 0) (aa (tL rfl kd) ae)))))))),?_⟩;refine⟨_,rfl,.inl ⟨_, "str",d,_,rfl,hd,(vQ K d).2.2.1,_,rfl,?_⟩⟩;cases d with
 | str x=>
  have e:=hd;unfold Den at e;subst e;have JJ:x.length<=1000000:=hw;have hq:Q (.bl (!decide (V.str x=V.str (W1 ""))&&fR x cW)) H:=hq;refine bA ⟨_,rfl,.inl ⟨rfl,_,rfl,fq (fun c1 =>?_) (fun c1 =>?_)⟩⟩
  ·rw[c1,Yg] at hq;exact⟨_,rfl,x,_,rfl,JJ,hq⟩
  ·rw[U8.mpr c1,Yz] at hq;exact hq
 | _=>exact bj hq
def wH:aG ["thing"] ["thing"] (ai (top k6)):=⟨rfl,rfl,rfl,∅,rfl,∅,∅⟩
def yq (F:dM K "is_entry" "is_entry" (top k6) f fd)(T:Nm mg)(Co:Fn P w K mg base 2 "is_name" ["thing"] (sO K dW))(B2:Fn P w K mg base 2 "is_code" ["thing"] (sO K cJ)):aW P w K mg base dI 3 f fd ["thing"] (sO K bB):=by
 refine F.ok wH (fun vs H Q E h =>?_) (fun bS A outer s H vs Q E hr h =>?_)
 ·obtain⟨v,d,rfl,_⟩:=h
  rfl
 obtain⟨v,d,rfl,hd,hw,q⟩:=h;have cK:=hr.units;refine⟨_,(ag (ao (fY (ak (jK K) rfl T.n_isinstance (by rfl) (aa (pv 0) (aa (bI rfl T.n_tuple (by rfl) (v := .ty "tuple") rfl) ae))) (fY (cT (kW K cK) (ak (eE K) rfl T.n_len (by rfl) (aa (pv 0) ae)) ah (aE _)) (fY (aA (Co.mono ∅) hr rfl (aa (aU (eG K) (pv 0) ah (fun _ _=>rfl)) ae)) (lr (aA (B2.mono ∅) hr rfl (aa (aU (eG K) (pv 0) ah (fun _ _=>rfl)) ae)))))))),?_⟩;refine⟨_,rfl,.inl ⟨_, "tuple",d,_,rfl,hd,(vQ K d).2.2.2.2,_,rfl,?_⟩⟩;cases d with
 | tuple ds=>
  have e:=hd;unfold Den at e;obtain⟨a,us,rfl,hT,hds⟩:=e;have hl:=hds.len;refine bA ⟨_,rfl,_,_,rfl,.inr ⟨_,hT,rfl⟩,.inl ⟨rfl,_,rfl,fq (fun c1 =>?_) (fun c1 =>?_)⟩⟩
  ·have c1:V.int ((us.length:Nat):Int)=V.int 2:=of_decide_eq_true c1;have c1:us.length=2:=by injection c1 with c1;lia
   rw[hl] at c1
   match ds,c1,hds,hw,q with
   | [d1,d2],_,hds,hw,q=>
    unfold a8 at hds;obtain⟨v1,r1,rfl,h1,hds⟩:=hds;unfold a8 at hds;obtain⟨v2,r2,rfl,h2,hds⟩:=hds;unfold a8 at hds;subst hds;have hw:ZB d1+1+(ZB d2+1+0)<=1000000:=by simpa only [ZB,Zu] using hw
    have q:∀H',ar H H'->Q (.bl (dW d1&&cJ d2)) H':=q;refine⟨_,rfl,.inr (.inl ⟨a,_,0,_,rfl,rfl,hT,rfl,v1,d1,rfl,h1,⋯,fun H1 sm1=>⟨_,rfl,fq (fun c2 =>?_) (fun c2 =>?_)⟩⟩)⟩
    ·refine⟨_,rfl,.inr (.inl ⟨a,_,1,_,rfl,rfl,sm1.bO hT,rfl,v2,d2,rfl,h2.same sm1,⋯,fun H2 jz =>?_⟩)⟩;have z:=q H2 (sm1.trans jz);rw[c2,Yg] at z;exact z
    ·have z:=q H1 sm1;rw[U8.mpr c2,Yz] at z;exact z
  ·have c1:¬(V.int ((us.length:Nat):Int)=V.int 2):=of_decide_eq_false (U8.mpr c1);have z:=q H (ar.refl _);have e:bB (.tuple ds)=false:=by
    match ds,hl with
    | [],_=>rfl
    | [_],_=>rfl
    | [_,_],hl=>exact absurd (by rw[hl];rfl) c1
    | _::_::_::_,_=>rfl
   rw[e] at z;exact z
 | _=>exact bj (q H (ar.refl _))
def FT {d:Za}(h:dW d=true):∃x,d = .str x:=by
 cases d<;>first|exact⟨_,rfl⟩|(simp[dW] at h)
def EX {d:Za}(h:cJ d=true):∃x,d = .str x:=by
 cases d<;>first|exact⟨_,rfl⟩|(simp[cJ] at h)
def uO {d:Za}(h:bB d=true):∃x y:Str,d = .tuple [.str x,.str y]:=by
 cases d with
 | tuple ds=>
  match ds,h with
  | [],h=>simp[bB] at h
  | [_],h=>simp[bB] at h
  | [a,b],h=>
   have h:(dW a&&cJ b)=true:=h;rw[Js] at h;obtain⟨x,rfl⟩:=FT h.1;obtain⟨y,rfl⟩:=EX h.2;exact⟨x,y,rfl⟩
  | _::_::_::_,h=>simp[bB] at h
 | _=>simp[bB] at h
def Aj (ds:List Za):ZP (.list ds) (.list [])=ds.isEmpty:=by
 cases ds<;>simp[ZP,Qae]
def xv:aG ["thing"] ["thing"] (ai (top mL)):=⟨rfl,rfl,rfl,∅,rfl,∅,∅⟩
def AL (F:dM K "is_book" "is_book" (top mL) f fd)(T:Nm mg)(xG:Fn P w K mg base 3 "is_entry" ["thing"] (sO K bB)):aW P w K mg base dI 4 f fd ["thing"] (vd K):=by
 refine F.ok xv (fun vs H Q E h =>?_) (fun bS A outer s H vs Q E hr h =>?_)
 ·obtain⟨v,d,rfl,_⟩:=h
  rfl
 obtain⟨v,d,rfl,hd,hw,QT,Cd,q⟩:=h;have cK:=hr.units;refine⟨_,(af (aV (PW.pt (ju (eJ (cI (ak (jK K) rfl T.n_isinstance (by rfl) (aa (pv 0) (aa (bI rfl T.n_list (by rfl) (v := .ty "list") rfl) ae))))) (hW (ax (kW K cK) (pv 0) (gE ae) (aE _))))) (ag (ao kE)) aB)
  (af (aV (eJ (cI (ak (Nr K rfl) rfl T.n_all (by rfl) (aa (fH rfl (cS (Nc:=["part"]) (Fc:=[]) (js:=[])) (JQ K (pv 0)) (bG (i:=0) (n:=1) ∅) (fun _ _ _ _ _=>(aI (i:=0) (rn ["part"]) rfl (YY rfl))) (fun _ _ _ _ _=>dU) (fun _ _ _ _ _=>(aA (xG.mono ∅) hr rfl (aa (pv 0) ae)))) ae)))) (ag (ao kE)) aB)
  (ag (ao (cT (kW K cK) (ak (BX (G1 P w)) rfl T.n_len (by rfl) (aa (wK (G1 P w) rfl (cS (Nc:=["name", "code"]) (Fc:=[]) (js:=[])) (JQ K (pv 0)) (nB (cP (bG (i:=0) (n:=2) ∅) (cP (bG (i:=1) (n:=2) ∅) kj bW dR) bW (iE bW dR))) (fun _ _ _ _ _=>(tupK K 2 rfl (aN (aI (i:=0) (rn ["name", "code"]) rfl (YY rfl)) (aN (aI (i:=1) (rn ["name", "code"]) rfl (YY rfl)) bH)))) (fun _ _ _ _ _=>dU) (fun _ _ _ _ _=>(pv 0))) ae)) (ak (eE K) rfl T.n_len (by rfl) (aa (pv 0) ae)) (aE _)))))),?_⟩
 refine⟨_,rfl,.inl ⟨_, "list",d,_,rfl,hd,(vQ K d).2.2.2.1,_,rfl,?_⟩⟩;cases d with
 | list ds=>
  have e:=hd;unfold Den at e;obtain⟨a,us,rfl,hS,hds⟩:=e;have hl:=hds.len;have Cd:=Cd ds rfl;have XE:Zu ds<=300000:=by simpa only [ZB] using hw
  refine bj ⟨_,rfl,by show 0<=KE;decide,fun pe H1 n1 =>?_⟩;have Sz:Den K H1 (.list []) (.ref pe):=Den.list (bg.of n1.at) (Den.strs []);refine .inr ⟨_,_,hd.same n1.same,Sz,QT,∅,_,rfl,?_⟩;rw[Aj];cases hem:ds.isEmpty with
  | true=>
   have z:=q H1 n1.same;have e:dn (.list ds)=false:=by simp[dn,hem]
   rw[e] at z;exact bA z
  | false=>
   refine bj ?_;have m8:=n1.same.seq hS;have Nw:=hds.same n1.same;have lw:=jb ds;refine⟨_,rfl,a,rfl,⟨_,m8⟩,?_⟩;refine dS (N:=ds.length) (fun i ys H'=>ar H1 H'/\ys=((ds.take i).map bB).map V.bl) ⟨ar.refl _,rfl⟩ ?_ ?_
   ·rintro i ys H2 Nx hi ⟨jz,rfl⟩ nx;obtain⟨x,hx,dx⟩:=Nw.get (i:=i) (Jc hi);refine⟨⟨_,_,jz.seq m8,hx⟩,J7 (show _<=300000 by rw[Jd,Jd,J6];lia) ∅,?_⟩;rintro x' H3 ⟨rfl,hy⟩;have e:=hy _ (jz.seq m8);rw[hx] at e;cases e;refine gn ⟨_,rfl,_,_,rfl,dx.same jz,Jg (iB (n:=300000) XE (Ug hi)) ∅,fun H4 rH=>nx _ _ ⟨jz.trans rH,?_⟩⟩;rw[Yt hi,J0,J0]
    rfl
   ·rintro ys H2 ⟨jz,rfl⟩;refine⟨⟨_,jz.seq m8,by rw[hl];exact Je _⟩,fun p hp =>?_⟩;rw[Yj];refine⟨p,_,rfl,bg.of av,_,rfl,?_⟩;have Ib:ar H1 (upd H2 p (.lst ((ds.map bB).map V.bl))):=jz.trans (bE hp _);have O3:(ds.map bB).any id=ds.any bB:=by rw[QeJ];rfl
    have O3:(ds.map bB).all id=ds.all bB:=by rw[List.all_map];rfl
    rw[O3];cases jH:ds.all bB with
    | false=>
     have z:=q _ (n1.same.trans Ib);have e:dn (.list ds)=false:=by simp[dn,hem,jH]
     rw[e] at z;exact bA z
    | true=>
     refine bj ?_;generalize upd H2 p (.lst ((ds.map bB).map V.bl))=H3 at Ib;have ent:∀i (hi:i<ds.length),∃x y:Str,ds[i] = .tuple [.str x,.str y]:=fun i hi=>uO (U1.mp jH _ (Ug hi));refine⟨_,rfl,a,rfl,⟨_,Ib.seq m8⟩,fun D hD =>?_⟩;refine wC (N:=ds.length) (fun i H'=>H' D=some (gX (G1 P w) D (bV (fun i=>(ds.map gJ).getD i Zt) i))/\∀a u,a≠D->H3 a=some u->H' a=some u) ⟨av,fun a u h e=>by rw[au h];exact e⟩ ?_ ?_
     ·rintro i H4 Nx hi ⟨hD4,kp⟩ nx;obtain⟨x,hx,dx⟩:=(Nw.same Ib).get (i:=i) (Jc hi);obtain⟨nm,cd,ed⟩:=ent i hi;rw[ed] at dx;obtain⟨pa,rfl,hT⟩:=dx.pair;have rH:ar H3 H4:=fun a u e=>kp a u (aH e hD) e;refine⟨⟨_,_,rH.seq (Ib.seq m8),hx⟩,?_⟩;rintro x' H5 ⟨rfl,hy⟩;have e:=hy _ (rH.seq (Ib.seq m8));rw[hx] at e;cases e;have W4:(ds.map gJ).getD i Zt=nm:=by
       rw[show(ds.map gJ).getD i Zt=((ds.map gJ)[i]?).getD Zt from rfl,Jk,Jc hi,ed]
       rfl
      have ml:=lG (fun i=>(ds.map gJ).getD i Zt) i;refine⟨pa,_,rfl,rH.bO hT,rfl,_,_,rfl,_,_,rfl,rfl,_,rfl,_,nm,hD4,rfl,⋯,nx _ ⟨?_,fun a u h e =>?_⟩⟩
      ·rw[av];show _=some (gX (G1 P w) D (oneMore (bV (fun i=>(ds.map gJ).getD i Zt) i) ((ds.map gJ).getD i Zt)));rw[W4]
       rfl
      ·rw[au h];exact kp a u h e
     ·rintro H4 ⟨hD4,kp⟩;have rH:ar H3 H4:=fun a u e=>kp a u (aH e hD) e;refine⟨⟨_,rH.seq (Ib.seq m8),by rw[hl];exact Je _⟩,?_⟩;refine⟨D,_,rfl,hD4,_,rfl,_,_,rfl,.inl ⟨_,rH.seq (Ib.seq m8),rfl⟩,.inl ⟨rfl,?_⟩⟩;have z:=q H4 (n1.same.trans (Ib.trans rH));have e:dn (.list ds)=decide (V.int ((bV (fun i=>(ds.map gJ).getD i Zt) ds.length).length:Nat)=V.int (us.length:Nat)):=by
       show(!ds.isEmpty&&(ds.all bB&&decide ((bV (fun i=>(ds.map gJ).getD i Zt) ds.length).length=ds.length)))=_;rw[hem,jH,Bool.not_false,Yg,Yg,Y9,decide_eq_true_iff,decide_eq_true_iff,hl];constructor
       ·intro z;rw[z]
       ·intro z;injection z with z;lia
      rw[e] at z;exact z
 | _=>exact bA (q H (ar.refl _))
end
def fL {H:Hp}{b c:Gc}:ar (ig H b c) H:=fun a o e=>(kQ e).1
def gG {K:Ja}{H:Hp}{ds:List Za}{vs:List V}{j:Nat}{d:Za}{v:V}(h:a8 K H ds vs)(hd:ds[j]? = some d)(hv:vs[j]? = some v):Den K H d v:=by
 obtain⟨u,hu,q⟩:=h.get hd;rw[hv] at hu;cases hu;exact q
def Tu:List Za->Bool
 | []=>true
 | .int _::_=>false
 | _::_=>true
mutual
def M8:Za->Bool
 | .list ds=>Tu ds&&xV ds
 | .tuple ds=>xV ds
 | _=>true
def xV:List Za->Bool
 | []=>true
 | d::ds=>M8 d&&xV ds
end
def HV {K:Ja}{H:Hp}{d:Za}{i:Int}(h:Den K H d (.int i)):d = .int i:=by
 cases d with
 | int k=>unfold Den at h;cases h;rfl
 | none=>unfold Den at h;cases h
 | bool b=>unfold Den at h;cases h
 | str x=>unfold Den at h;cases h
 | list ds=>unfold Den at h;obtain⟨_,_,e,_⟩:=h;cases e
 | tuple ds=>unfold Den at h;obtain⟨_,_,e,_⟩:=h;cases e
 | dict _=>unfold Den at h;exact h.elim
mutual
def Den.hide {K:Ja}{H:Hp}{b c:Gc}{t:Int}(bx:Bx H b c t):∀{d:Za} {v:V},M8 d=true->Den K H d v->Den K (ig H b c) d v
 | .none,_,_,h=>by unfold Den at h ⊢;exact h
 | .bool _,_,_,h=>by unfold Den at h ⊢;exact h
 | .int _,_,_,h=>by unfold Den at h ⊢;exact h
 | .str _,_,_,h=>by unfold Den at h ⊢;exact h
 | .list ds,_,n,h=>by
  unfold Den at h ⊢;unfold M8 at n;rw[Js] at n;obtain⟨a,vs,h1,h2,h3⟩:=h;refine⟨a,vs,h1,?_,a8.hide bx n.2 h3⟩;obtain⟨ns,bx⟩:=bx
  rcases h2 with (h2|⟨o,h2⟩)|h2
  ·refine .inl (.inl ?_);rw[dH (fun z=>by rw[z,bx.d] at h2;cases h2) (fun z =>?_)]
   ·exact h2
   rw[z,bx.l] at h2;cases h2;cases ds with
   | nil=>
    unfold a8 at h3;have:=bx.ne;cases ns with
    | nil=>exact absurd this ∅
    | cons i ns=>cases h3
   | cons d ds=>
    unfold a8 at h3;obtain⟨v,r,e,hv,_⟩:=h3;cases ns with
    | nil=>cases e
    | cons i ns=>
     cases e;rw[HV hv] at n;exact absurd n.1 (by simp[Tu])
  ·refine .inl (.inr ⟨o,?_⟩);rw[dH (fun z=>by rw[z,bx.d] at h2;cases h2) (fun z=>by rw[z,bx.l] at h2;cases h2)];exact h2
  ·exact .inr h2
 | .tuple ds,_,n,h=>by
  unfold Den at h ⊢;unfold M8 at n;obtain⟨a,vs,h1,h2,h3⟩:=h;refine⟨a,vs,h1,?_,a8.hide bx n h3⟩;obtain⟨ns,bx⟩:=bx
  rcases h2 with (h2|⟨o,h2⟩)|h2
  ·refine .inl (.inl ?_);rw[dH (fun z=>by rw[z,bx.d] at h2;cases h2) (fun z=>by rw[z,bx.l] at h2;cases h2)];exact h2
  ·refine .inl (.inr ⟨o,?_⟩);rw[dH (fun z=>by rw[z,bx.d] at h2;cases h2) (fun z=>by rw[z,bx.l] at h2;cases h2)];exact h2
  ·exact .inr h2
 | .dict _,_,_,h=>by unfold Den at h;exact h.elim
def a8.hide {K:Ja}{H:Hp}{b c:Gc}{t:Int}(bx:Bx H b c t):∀{ds:List Za} {vs:List V},xV ds=true->a8 K H ds vs->a8 K (ig H b c) ds vs
 | [],_,_,h=>by unfold a8 at h ⊢;exact h
 | d::ds,_,n,h=>by
  unfold a8 at h ⊢;unfold xV at n;rw[Js] at n;obtain⟨v,r,h1,h2,h3⟩:=h;exact⟨v,r,h1,Den.hide bx n.1 h2,a8.hide bx n.2 h3⟩
end
def xT {i:Int}(h:i.natAbs<2^200):ZB (.int i)<=201:=by
 simp only[ZB]
 split
 ·lia
 ·rename_i h0;have xA:i.natAbs≠0:=by
   intro z;exact h0 (by simp;lia)
  have:=(Nat.log2_lt xA).mpr h;lia
def zm (K:Ja):Sp:=fun vs H Q _=>fG fun(a:Gc) (ns:List Int)=>vs=[.ref a]/\bg K H a (ns.map V.int)/\ns.length<=63 /\
 ∀(b c:Gc) (H':Hp),Bx H' b c 0->H b=none->H c=none->ar H (ig H' b c)->Q (.ref b) H'
def Den.ints {K:Ja}{H:Hp}:∀(ns:List Int),a8 K H (ns.map Qb5) (ns.map V.int)
 | []=>by unfold a8;rfl
 | n::ns=>by
  rw[Jz,Jz];unfold a8;exact⟨_,_,rfl,by unfold Den;rfl,Den.ints ns⟩
def xI (ds:List Za):ZP (.list ds) (.list [])=ds.isEmpty:=by
 cases ds<;>simp[ZP,Qae]
def HL {n:Nat}(ns:List Int):Sh (n+1) (.list (ns.map Qb5)):=Sh.list fun d hd=>by
 refine aj.el (Ux.mp hd) _ ?_;rintro i _ rfl;exact Sh.int
section
variable {P:YZ}{w:Zb}{K:Ja}{mg:Str->Option Fk}{base:Heap}{f:Gc}{fd:Zc}
def jj:aG ["_law_script", "_law_cells"] ["_law_script"] (ai (top j8)):=⟨rfl,rfl,rfl,∅,rfl,∅,∅⟩
def Fp (F:dM K "_law_begin" "_law_begin" (top j8) f fd)(T:Nm mg):aW P w K mg base dI 1 f fd ["_law_script"] (zm K):=by
 refine F.ok jj (fun vs H Q E h =>?_) (fun bS A outer s H vs Q E hr h =>?_)
 ·obtain⟨a,ns,rfl,_⟩:=h
  rfl
 obtain⟨a,ns,rfl,hS,hlen,q⟩:=h;have cK:=hr.units;refine⟨_,(af (ay (i:=1) jj.nd rfl (YY rfl) (aX (Fw K) rfl T.n_list (by rfl) (aa (bL (DK K) (pv 0) iV (bz ah)) ae)))
  (af (aV (ax (kW K cK) (pv 1) (gE ae) (aE _)) (ag (ay (i:=1) jj.nd rfl (YY rfl) (gE (aa ah ae)))) aB)
  (ag (ao (JO (gL aq (pv 1) (gL aq ah zI)) rfl rfl ∅ ∅))))),?_⟩
 refine⟨_,rfl,_,rfl,.inl ⟨a,_,rfl,hS,fun r1 H1 n1 =>?_⟩⟩;refine⟨r1,_,rfl,.inl (bg.of n1.at),fun r2 H2 n2=>gn ?_⟩;have hc:lq (ns.map V.int) none (some 63)=ns.map V.int:=by
  have e:=MN (ns.map V.int) 63;rw[Uv (by rw[Jd];exact hlen)] at e;exact e
 have xJ:H2 r2=some (.lst (ns.map V.int)):=by rw[<-hc];exact n2.at
 have jz:=n1.same.trans n2.same;dsimp only;refine fk (t:=Ij _ _ _) (fun σ H'=>fG fun(r:Gc) (HE:List Int) =>σ=[some (.ref a),some (.ref r)]/\H' r=some (.lst (HE.map V.int))/\0<HE.length/\HE.length<=64/\H r=none/\ar H H') (fun Nx nx =>?_) ?_
 ·refine⟨_,rfl,by show 0<=KE;decide,fun r3 H3 n3 =>?_⟩;have d2:Den K H3 (.list (ns.map Qb5)) (.ref r2):=Den.list (bg.of (n3.same _ _ xJ)) (Den.ints ns);have d3:Den K H3 (.list []) (.ref r3):=Den.list (bg.of n3.at) (Den.ints []);refine .inr ⟨_,_,d2,d3,(HL (n:=1) ns).shaped ∅,∅,_,rfl,?_⟩;rw[xI];refine fq (fun e =>?_) (fun e =>?_)
  ·refine⟨by show 1<=KE;decide,fun r4 H4 n4=>gn (nx _ _ ⟨r4,[_],rfl,n4.at,∅,∅,(jz.trans n3.same).free n4.nn,jz.trans (n3.same.trans n4.same)⟩)⟩
  ·refine nx _ _ ⟨r2,ns,rfl,n3.same _ _ xJ,?_,⋯,n1.same.free n2.nn,jz.trans n3.same⟩;cases ns with
   | nil=>exact absurd rfl e
   | cons _ _=>exact Qco _
 intro σ H3;refine aj.go ?_;rintro r HE rfl hr' l0 l1 hn sm;intro p H0 n0;refine⟨_,rfl,?_⟩;refine⟨n0.at,[(.inr "cells",.ref r),(.inr "turn",.int 0)],rfl,by show 2<=15;decide,fun H6 n6 =>?_⟩;have HA:r≠p:=aH hr' n0.nn;have hp:H p=none:=sm.free n0.nn;refine q p r H6 ⟨HE,?_,?_,l0,l1⟩ hp hn (fun b o e =>?_)
 ·rw[n6.at];rfl
 ·rw[n6.ne HA,n0.ne HA];exact hr'
 ·have RN:b≠p:=aH e hp;have QF:b≠r:=aH e hn;rw[dH RN QF,n6.ne RN,n0.ne RN];exact sm _ _ e
end
def rj {K:Ja}{H:Hp}:∀{ns:List Int} {vs:List V},a8 K H (ns.map Qb5) vs->vs=ns.map V.int
 | [],_,h=>by rw[Qcg] at h;unfold a8 at h;exact h
 | n::ns,_,h=>by
  rw[Jz] at h;unfold a8 at h;obtain⟨v,r,rfl,h1,h2⟩:=h;unfold Den at h1;rw[h1,rj h2];rfl
def FX {K:Ja}{H:Hp}{ns:List Int}{v:V}(h:Den K H (.list (ns.map Qb5)) v):∃p,v = .ref p/\bg K H p (ns.map V.int):=by
 unfold Den at h;obtain⟨p,vs,rfl,h1,h2⟩:=h;rw[rj h2] at h1;exact⟨p,rfl,h1⟩
def wN.same {H H':Hp}{b c:Gc}{t:Int}{ns:List Int}(x:wN H b c t ns)(s:ar H H'):wN H' b c t ns:=⟨s _ _ x.d,s _ _ x.l,x.ne,x.le⟩
section
variable {P:YZ}{w:Zb}{K:Ja}{mg:Str->Option Fk}{base:Heap}{f:Gc}{fd:Zc}
def cF:aG ["_law_state", "_law_many", "_law_turn", "_law_place", "_law_cell", "_law_digit", "_law_prime", "_law_mixed_here"] ["_law_state", "_law_many"] (ai (top ly)):=⟨rfl,rfl,rfl,∅,rfl,∅,∅⟩
def Il (F:dM K "_law_take" "_law_take" (top ly) f fd)(T:Nm mg):aW P w K mg base dI 1 f fd ["_law_state", "_law_many"] Dv:=by
 refine F.ok cF (fun vs H Q E h =>?_) (fun bS A outer s H vs Q E hr h =>?_)
 ·obtain⟨b,c,t,ns,many,rfl,_⟩:=h
  rfl
 obtain⟨b,c,t,ns,many,rfl,bx,t0,t1,m0,m1,q⟩:=h;have hu:=jF hr;refine⟨_,(af (ay (i:=2) cF.nd rfl (YY rfl) (aw bw (bP hu (pv 0) aq (fun _ _=>rfl)) ah))
  (af (ua hu (pv 0) aq (pv 2) rfl)
  (af (ay (i:=3) cF.nd rfl (YY rfl) (aw j3 (pv 2) (ak (eE K) rfl T.n_len (by rfl) (aa (bP hu (pv 0) aq (fun _ _=>rfl)) ae))))
  (af (ay (i:=4) cF.nd rfl (YY rfl) (aU (eG K) (bP hu (pv 0) aq (fun _ _=>rfl)) (pv 3) (fun _ _=>rfl)))
  (af (aV (ax zJ (pv 4) (aw KR ah ah) (aE _)) (af (ia (ak Ir rfl T.n_divmod (by rfl) (aa (pv 4) (aa (pv 1) ae))) (tupK K 2 rfl (aN (KH (bP hu (pv 0) aq (fun _ _=>rfl)) (pv 3) set_list) (aN (aI (i:=5) cF.nd rfl (YY rfl)) bH))))
  (ag (ao (pv 5)))) aB)
  (af (ay (i:=6) cF.nd rfl (YY rfl) (aU (eG K) (Ic (K:=K) (fz lit_int (fz lit_int (fz lit_int (fz lit_int (fz lit_int (fz lit_int (fz lit_int Dy)))))))) (aw j3 (pv 2) ah) (fun _ _=>rfl)))
  (af (ay (i:=7) cF.nd rfl (YY rfl) (aw j3 (aw kz (aw bw (aw bw (aw j3 (pv 4) (pv 6)) (aw kz (aw kz (pv 2) (pv 2)) ah)) ah) ah) ah))
  (af (ay (i:=7) cF.nd rfl (YY rfl) (aw j3 (aw kz (pv 7) (pv 7)) (pv 6)))
  (ag (ao (aw j3 (aw AH (aw j3 (aw kz (aw bw (pv 7) (aw kz (pv 2) ah)) ah) ah) ah) (pv 1)))))))))))),?_⟩
 refine⟨_,rfl,b,_,rfl,bx.Ds,.inl ⟨_,_,rfl,rfl,?_⟩⟩;refine⟨_,rfl,_,rfl,b,_,rfl,bx.FD (t+1),?_⟩;have yY:=bx.turned (t+1);refine⟨_,rfl,_,rfl,b,_,rfl,yY.mH,_,_,rfl,.inl ⟨_,bg.of yY.l,rfl⟩,_,_,rfl,rfl,?_,?_⟩
 ·rw[Jd];have:=yY.ne;lia
 have hlen:(ns.map V.int).length=ns.length:=Jd _;have Go:0<=(t+1)%((ns.map V.int).length:Int):=Qbu _ (by have:=yY.ne;lia);have Ft:(t+1)%((ns.map V.int).length:Int)<ns.length:=by rw[hlen];exact Qa1 _ (by have:=yY.ne;lia)
 refine aj.el (at_of Go Ft) _ ?_;rintro v hv QN;refine⟨_,rfl,b,_,rfl,yY.mH,_,rfl,.inl ⟨c,_,_,_,rfl,rfl,bg.of yY.l,hv,?_⟩⟩;refine⟨_,rfl,_,_,rfl,rfl,⟨∅,∅,∅⟩,_,_,rfl,rfl,_,rfl,?_⟩;refine fq (fun _ =>?_) (fun _ =>?_)
 ·refine⟨_,rfl,_,rfl,v,many,rfl,⟨m0,⋯⟩,fun pt H2 n2 =>?_⟩;obtain⟨hpb,hpc⟩:pt≠b/\pt≠c:=⟨fun z=>(by have:=n2.nn;rw[z,yY.d] at this;cases this),fun z=>(by have:=n2.nn;rw[z,yY.l] at this;cases this)⟩
  have MY:=yY.same n2.same;refine⟨pt,_,rfl,aY.of n2.at,rfl,_,_,rfl,?_⟩;refine⟨_,rfl,b,_,rfl,MY.mH,_,rfl,c,_,_,_,rfl,rfl,MY.l,Mi Go (by simpa only [hlen] using Ft),?_⟩;refine⟨_,_,rfl,rfl,_,rfl,?_⟩;refine q (v%many) _ (ns.set ((t+1)%((ns.map V.int).length:Int)).toNat (v / many)) (Qbu _ ⋯) (Qa1 _ m0) ⟨?_,?_,?_,?_⟩ ?_
  ·rw[au MY.bc];exact MY.d
  ·rw[av,List.map_set]
  ·rw[Wa];exact yY.ne
  ·rw[Wa];exact yY.le
  ·rw[CL];refine qv fun a o h1 h2 e =>?_;rw[n2.ne (fun z =>?_),au h1]
   ·exact e
   ·have z2:=n2.nn;rw[au hpb,<-z,e] at z2;cases z2
 ·intro v1 H2 jz d2;obtain⟨L,hL,jH,d2⟩:∃L:List Int,L.length=7/\(∀x∈L,0<x/\x<2147483648)/\Den K H2 (.list (L.map Qb5)) v1:=by
   refine⟨[_,_,_,_,_,_,_],?_,?_,d2.same DP⟩
   ·rfl
   ·decide
  obtain⟨pp,rfl,hS⟩:=FX d2;have XX:0<=(t+1)%7:=Qbu _ ∅;have Wh:(t+1)%7<7:=Qa1 _ ∅;have MY:=yY.same jz;refine⟨_,rfl,_,_,rfl,rfl,(by dsimp only;decide),?_⟩;refine aj.el (at_of XX (show(t+1)%7<(L.length:Int) by rw[hL];exact Wh)) _ ?_;rintro pr HA hpr';have Sd:=jH pr (Jy hpr');refine .inl ⟨pp,_,_,_,rfl,rfl,hS,HA,?_⟩;obtain⟨pr0,pr1⟩:=Sd;refine⟨_,rfl,_,rfl,_,_,rfl,rfl,pr0,_,rfl,_,rfl,.inl ⟨_,_,rfl,rfl,.inl ⟨⋯,⋯⟩,.inl ⟨_,_,rfl,rfl,.inr ⟨∅,∅⟩,.inl ⟨_,_,rfl,rfl,.inl ⟨_,_,rfl,rfl,.inl ⟨_,_,rfl,rfl,.inr ⟨∅,∅⟩,_,_,rfl,rfl,(by dsimp only;decide),?_⟩⟩⟩⟩⟩⟩;have cm:∀(x y p:Int),0<p->p<2^64->xX (x%p) y:=fun x y p h0 h1=>Kl h0 h1;refine⟨_,rfl,_,rfl,.inl ⟨_,_,rfl,rfl,cm _ _ _ ∅ ∅,?_⟩⟩;refine⟨_,rfl,_,_,rfl,rfl,pr0,?_⟩;refine⟨_,rfl,_,rfl,.inl ⟨_,_,rfl,rfl,.inl ⟨⋯,⋯⟩,.inl ⟨_,_,rfl,rfl,.inl ⟨_,_,rfl,rfl,.inr ⟨∅,∅⟩,_,_,rfl,rfl,(by dsimp only;decide),_,_,rfl,rfl,⟨∅,∅⟩,_,rfl,_,_,rfl,rfl,m0,?_⟩⟩⟩⟩;refine q _ _ ns (Qbu _ ⋯) (Qa1 _ m0) MY ?_;have:=ar.ig (b:=b) (c:=c) jz;rw[AN] at this;exact this
end
def kH (x:Str):Bool:=x.cps.all (· < 128)
mutual
def Pz:Za->Bool
 | .none | .bool _=>true
 | .int i=>decide (i.natAbs<10^40)
 | .str x=>kH x
 | .list ds | .tuple ds=>Ik ds
 | .dict _=>false
def Ik:List Za->Bool
 | []=>true
 | d::ds=>Pz d&&Ik ds
end
def Ch (ts:List Str):(listText ts).length<=piled ts+2:=by
 unfold listText;rw[Qcj];have e:(((("]" : String):Str))).length=1:=rfl;rw[e];cases ts with
 | nil=>exact Je _
 | cons t ts=>
  have q:=textFrom_length_pos ts 1 ((("[" : String):Str)++((if 0>0 then ", " else "" : String):Str)++t) ∅;show(textFrom 1 _ ts).length+1<=_;rw[q,Qcj,Qcj,piled_cons];have e1:(((("[" : String):Str))).length=1:=rfl;have e2:((((if 0>0 then ", " else "" : String):Str))).length=0:=rfl;rw[e1,e2];lia
def Bd (ts:List Str):(tupleText ts).length<=piled ts+3:=by
 unfold tupleText;rw[Qcj,Qcj];have e1:((("(" : String):Str)).length=1:=rfl;have e3:(((if ts.length==1 then ",)" else ")" : String):Str)).length<=2:=by split<;>decide
 have e2:(Str.join ", " ts).length<=piled ts:=by
  cases ts with
  | nil=>exact Je _
  | cons t ts=>have:=join_length_add (t::ts) (by simp);lia
 rw[e1];lia
def HM {i:Int}(h:i.natAbs<10^40):(W1 (toString i)).length<=41:=by
 cases i with
 | ofNat n=>
  have:=Qcw (v:=Int.ofNat n) (by simp) (k:=40) ∅ (by
   have h:n<10^40:=h;show((n:Nat):Int)<10^40
   exact_mod_cast h)
  lia
 | negSucc n=>
  have h:n+1<10^40:=h;have:=Qcw (v:=Int.ofNat (n+1)) (by show(0:Int)<=((n+1:Nat):Int);lia) (k:=40) ∅ (by
   show((n+1:Nat):Int)<10^40
   exact_mod_cast h)
  have e:toString (Int.negSucc n) = "-" ++ toString (Int.ofNat (n+1)):=rfl;rw[e];have e2:∀a b:String,(W1 (a++b)).length=(W1 a).length+(W1 b).length:=fun a b=>by
   simp[PyProof.Rows.ofString_length]
  rw[e2];have e3:(W1 "-").length=1:=rfl;lia
mutual
def pU:∀(d:Za),Pz d=true->d.shown.length<=44*d.weight+42/\d.showable=true/\d.canLay0=true
 | .none,_=>⟨∅,rfl,rfl⟩
 | .bool b,_=>⟨by cases b<;>decide +kernel,rfl,rfl⟩
 | .int i,h=>by
  have h:i.natAbs<10^40:=by simpa [Pz] using h
  refine⟨?_,?_,rfl⟩
  ·have:=HM h;simp only[QcW];show(W1 (toString i)).length<=_;lia
  ·simp only[Qdk,decide_eq_true_eq]
   by_cases z:i.natAbs=0
   ·rw[z];decide
   ·exact(Nat.log2_lt z).mpr (Jw h ∅)
 | .str x,h=>by
  have hx:∀c∈x.cps.toList,c<128:=fun c hc=>by
   have h:kH x=true:=by simpa only [Pz] using h
   unfold kH at h;rw[U9] at h;have:=h c (by simpa using hc);simpa using this
  refine⟨?_,rfl,?_⟩
  ·have:=StrLaws.reprText_len x fun c hc=>Jw (hx c hc) ∅;simp only[QcW,ZB];have e:x.cps.size=x.length:=rfl;lia
  ·exact(Sh.str (n:=0) (eP fun ch hc=>by have:=hx ch hc;lia)).1
 | .list ds,h=>by
  obtain⟨h1,h2,h3⟩:=mY ds (by simpa only [Pz] using h);refine⟨?_,by simpa only [Qdk] using h2,by simpa only [ZZ] using h3⟩;have:=Ch (Qb9 ds);simp only[QcW,ZB];lia
 | .tuple ds,h=>by
  obtain⟨h1,h2,h3⟩:=mY ds (by simpa only [Pz] using h);refine⟨?_,by simpa only [Qdk] using h2,by simpa only [ZZ] using h3⟩;have:=Bd (Qb9 ds);simp only[QcW,ZB];lia
 | .dict _,h=>by simp[Pz] at h
def mY:∀(ds:List Za),Ik ds=true->piled (Qb9 ds)<=44*Zu ds/\Qfe ds=true/\Qaq ds=true
 | [],_=>⟨Je _,rfl,rfl⟩
 | d::ds,h=>by
  simp only[Ik,Js] at h;refine aj.el (pU d h.1) _ ?_;rintro a1 a2 a3;refine aj.el (mY ds h.2) _ ?_;rintro b1 b2 b3;refine⟨?_,by simp only[Qfe,a2,b2];rfl,by simp only[Qaq,a3,b3];rfl⟩;simp only[Qb9,Zu,piled_cons];lia
end
def sW {ds:List Za}:Ik ds=true ↔ ∀d∈ds,Pz d=true:=by
 induction ds with
 | nil=>simp[Ik]
 | cons d ds ih=>simp[Ik,ih]
def uJ {m:Nat}:∀{ds:List Za},(∀e∈ds,e.depth<=m)->Qao ds<=m
 | [],_=>by simp[Qao]
 | d::ds,h=>by
  have:=uJ (m:=m) (ds:=ds) fun e he=>h e (Jj _ he);have:=h d Jm;simp only[Qao];lia
structure Gd (w dp:Nat)(d:Za):Prop where
 pz:Pz d=true
 wt:d.weight<=w
 dp:d.depth<=dp
def Gd.mono {w dp w' NG:Nat}{d:Za}(h:Gd w dp d)(hw:w<=w')(hd:dp<=NG):Gd w' NG d:=⟨h.pz,Jg h.wt hw,Jg h.dp hd⟩
def Gd.shaped {w dp:Nat}{d:Za}(h:Gd w dp d)(hd:dp<=64):Zy d=true:=by
 unfold Zy;rw[(pU d h.pz).2.2,decide_eq_true (Jg h.dp hd)];rfl
def Fi (xs ys:List Za):Zu (xs++ys)=Zu xs+Zu ys:=by
 induction xs with
 | nil=>simp[Zu]
 | cons x xs ih=>rw[Qdn];simp only[Zu,ih];lia
structure Gs (w dp:Nat)(ds:List Za):Prop where
 pz:∀d∈ds,Pz d=true
 wt:Zu ds<=w
 dp:∀d∈ds,d.depth<=dp
def Gs.list {w dp:Nat}{ds:List Za}(h:Gs w dp ds):Gd w (dp+1) (.list ds):=⟨by simp only[Pz];exact sW.mpr h.pz,by simp only[ZB];exact h.wt,by simp only[Qap];have:=uJ h.dp;lia⟩
def Gs.tuple {w dp:Nat}{ds:List Za}(h:Gs w dp ds):Gd w (dp+1) (.tuple ds):=⟨by simp only[Pz];exact sW.mpr h.pz,by simp only[ZB];exact h.wt,by simp only[Qap];have:=uJ h.dp;lia⟩
def Gs.mono {w dp w' NG:Nat}{ds:List Za}(h:Gs w dp ds)(hw:w<=w')(hd:dp<=NG):Gs w' NG ds:=⟨h.pz,Jg h.wt hw,fun d m=>Jg (h.dp d m) hd⟩
def Gs.app {w dp w':Nat}{xs ys:List Za}(h:Gs w dp xs)(g:Gs w' dp ys):Gs (w+w') dp (xs++ys):=
 ⟨fun d m=>(Ub.mp m).elim (h.pz d) (g.pz d),by rw[Fi];have:=h.wt;have:=g.wt;lia,fun d m=>(Ub.mp m).elim (h.dp d) (g.dp d)⟩
def Gs.one {w dp:Nat}{d:Za}(h:Gd w dp d):Gs (w+1) dp [d]:=
 ⟨fun e m=>by rw[Ju.mp m];exact h.pz,by have:=h.wt;simp only[Zu];lia,fun e m=>by rw[Ju.mp m];exact h.dp⟩
def Gs.cons {w dp w':Nat}{d:Za}{ds:List Za}(h:Gd w dp d)(g:Gs w' dp ds):Gs (w+1+w') dp (d::ds):=(Gs.one h).app g
def Gs.nil {dp:Nat}:Gs 0 dp []:=⟨(fun d m=>nomatch m),Je _,(fun d m=>nomatch m)⟩
def Gd.int {w dp:Nat}{i:Int}(h:i.natAbs<10^40)(hw:201<=w):Gd w dp (.int i):=⟨by simpa [Pz] using h,Jg (xT (Jw h ∅)) hw,by simp[Qap]⟩
def Gd.str {w dp:Nat}{x:Str}(h:kH x=true)(hw:x.length<=w):Gd w dp (.str x):=⟨by simpa only [Pz] using h,by simp only[ZB];exact hw,by simp[Qap]⟩
def BD {K:Ja}{H:Hp}{x:Str}:Den K H (.str x) (.str x):=by unfold Den;rfl
def ug {K:Ja}{H:Hp}{x:Int}:Den K H (.int x) (.int x):=by unfold Den;rfl
def qA {K:Ja}{H:Hp}:a8 K H [] []:=by unfold a8;rfl
def b8 {K:Ja}{H:Hp}{d:Za}{v:V}{ds:List Za}{vs:List V}(h:Den K H d v)(g:a8 K H ds vs):a8 K H (d::ds) (v::vs):=by unfold a8;exact⟨_,_,rfl,h,g⟩
def FE {K:Ja}{G:Hp}{p:Gc}{ds:List Za}{vs:List V}(h:G p=some (.tup vs))(g:a8 K G ds vs):Den K G (.tuple ds) (.ref p):=by unfold Den;exact⟨p,vs,rfl,aY.of h,g⟩
def GY {x:Str}:kH x=true ↔ ∀c∈x.cps.toList,c<128:=by
 unfold kH;rw[U9];constructor
 ·intro h c hc;have:=h c (by simpa using hc);simpa using this
 ·intro h c hc;have:=h c (by simpa using hc);simpa using this
def MO:Za->Nat
 | .list ds | .tuple ds=>ds.length
 | _=>0
def iA:Za->Za
 | .tuple ds =>.list ds
 | d=>d
def cQ:Za->List (Str×Str)
 | .list ds=>ds.map fun d=>match d with
  | .tuple [.str x,.str y]=>(x,y)
  | _=>(Zt,Zt)
 | _=>[]
def oP {d:Za}(h:dn d=true):d=aQ (cQ d)/\∀q∈cQ d,dW (.str q.1)=true/\cJ (.str q.2)=true:=by
 cases d with
 | list ds=>
  replace h:(!ds.isEmpty&&(ds.all bB&&decide ((bV (fun i=>(ds.map gJ).getD i Zt) ds.length).length=ds.length)))=true:=h;rw[Js,Js,U1] at h;have he:=h.2.1;clear h
  induction ds with
  | nil=>exact⟨rfl,fun q hq=>nomatch hq⟩
  | cons e ds ih=>
   obtain⟨e1,e2⟩:=ih fun x hx=>he x (Jj _ hx);have z:=he e Jm;obtain⟨x,y,rfl⟩:=uO z;have z:(dW (.str x)&&cJ (.str y))=true:=z;rw[Js] at z;have e1:ds=(cQ (.list ds)).map fun q =>.tuple [.str q.1,.str q.2]:=QcR e1;refine⟨?_,fun q hq =>?_⟩
   ·show PyData.list (.tuple [.str x,.str y]::ds) = .list (.tuple [.str x,.str y]::(cQ (.list ds)).map fun q =>.tuple [.str q.1,.str q.2]);rw[<-e1]
   ·rcases Jq.mp (show q∈(x,y)::cQ (.list ds) from hq) with rfl|hq
    ·exact z
    ·exact e2 q hq
 | _=>simp[dn] at h
def eI {x y:Str}(h:x.cps.toList=y.cps.toList):x=y:=by
 cases x;cases y
 congr 1
 exact Array.toList_inj.mp h
def sA:∀(p:Str) (l:List Str),Qdz p l=true->(p::l).Pairwise fun a b=>a.cps.toList<=b.cps.toList
 | p,[],_=>by simp
 | p,x::r,h=>by
  have h:(!Spec.ltCps x.cps.toList p.cps.toList&&Qdz x r)=true:=h;rw[Js,PyProof.Rows.ltCps_eq,Bool.not_eq_true',decide_eq_false_iff_not] at h;have ih:=sA x r h.2;have px:p.cps.toList<=x.cps.toList:=h.1;refine List.pairwise_cons.mpr ⟨fun y hy =>?_,ih⟩
  rcases Jq.mp hy with rfl|hy
  ·exact px
  ·exact List.le_trans px ((List.pairwise_cons.mp ih).1 y hy)
def rQ {a:List Str}(h:Z3 a=true):a.Pairwise fun a b=>a.cps.toList<=b.cps.toList:=by
 cases a with
 | nil=>exact .nil
 | cons p l=>exact sA p l h
def Cz {a b:List Str}(h:a.Perm b)(ha:Z3 a=true)(hb:Z3 b=true):a=b:=
 h.eq_of_pairwise (fun x y _ _ h1 h2=>eI (List.le_antisymm h1 h2)) (rQ ha) (rQ hb)
def wx (bk:List (Str×Str)):Bool := @decide (fX (bk.map (·.2))) (Qau _)
def cU (names:List Str)(d:Za):Bool:=dn (iA d)&&(decide (((cQ (iA d)).map (·.1)).Perm names)&&wx (cQ (iA d)))
structure IY (d:Za):Prop where
 pz:Pz d=true
 wt:d.weight<=300000
 sh:Zy d=true
 wQ:∀ds,iA d = .list ds->ds.length<=60
 cd:∀q∈cQ (iA d),q.2.length<=200000
def yR (d:Za):(iA d).weight=d.weight:=by cases d<;>simp only[iA,ZB]
def Kx {d:Za}(h:Pz d=true):Pz (iA d)=true:=by cases d<;>simpa only [iA,Pz] using h
def LN {d:Za}(h:Zy d=true):Zy (iA d)=true:=by cases d<;>exact h
def Lg {K:Ja}{H:Hp}{bk:List (Str×Str)}{v:V}(h:Den K H (aQ bk) v):fG fun(a:Gc) (us:List V)=>v = .ref a/\bg K H a us/\us.length=bk.length/\∀(i:Nat) (q:Str×Str),bk[i]? = some q->∃b:Gc,us[i]? = some (.ref b)/\aY K H b [.str q.1,.str q.2]:=by
 unfold aQ Den at h;obtain⟨a,us,rfl,hS,hds⟩:=h;refine⟨a,us,rfl,hS,by have:=hds.len;rw[Jd] at this;exact this,fun i q e =>?_⟩;obtain⟨u,hu,du⟩:=hds.get (i:=i) (d := .tuple [.str q.1,.str q.2]) (by rw[Jk,e];rfl);unfold Den at du;obtain⟨b,vs,rfl,hT,hd⟩:=du;unfold a8 at hd;obtain⟨x,r,rfl,hx,hd⟩:=hd;unfold a8 at hd;obtain⟨y,r,rfl,hy,hd⟩:=hd;unfold a8 at hd;unfold Den at hx hy;subst hd hx hy;exact⟨b,hu,hT⟩
def wj:∀(a b:List Str),Qae (a.map Qbc) (b.map Qbc)=decide (a=b)
 | [],[]=>by simp[Qae]
 | [],_::_=>by simp[Qae]
 | _::_,[]=>by simp[Qae]
 | x::a,y::b=>by
  rw[Jz,Jz];simp only[Qae,ZP,wj a b,List.cons.injEq,Bool.decide_and]
  rfl
def yD {x:Str}(h:kH x=true):∀c∈x.cps.toList,c<128:=fun c hc=>by
 unfold kH at h;rw[U9] at h;have:=h c (by simpa using hc);simpa using this
def Di {ks:List Str}(h:∀x∈ks,kH x=true):Zy (.list (ks.map Qbc))=true:=(Sh.list (n:=0) fun d hd=>by
 obtain⟨x,hx,rfl⟩:=Ux.mp hd;exact Sh.str (eP fun ch hc=>by have:=yD (h x hx) ch hc;lia)).shaped ∅
def JD (K:Ja):Sp:=fun vs H Q _=>lW fun(v:V) (d:Za) (p:Gc) (ns:List Str)=>vs=[v,.ref p]/\Den K H d v/\IY d/\(bg K H p (ns.map V.str)\/aY K H p (ns.map V.str))/\ns.length<64/\(∀x∈ns,kH x=true)/\∀H',ar H H'->Q (.bl (cU ns d)) H'
section
variable {P:YZ}{w:Zb}{K:Ja}{mg:Str->Option Fk}{base:Heap}{f:Gc}{fd:Zc}
def gF:aG ["thing", "names", "book"] ["thing", "names"] (ai (top eR)):=⟨rfl,rfl,rfl,∅,rfl,∅,∅⟩
def MG (F:dM K "is_free_book_of" "is_free_book_of" (top eR) f fd)(T:Nm mg)(gQ:mg "sorted" = none)(BG:Fn P w K mg base 4 "is_book" ["thing"] (vd K))(Mc:Fn P w K mg base 3 "free" ["book"] (DI K)):aW P w K mg base dI 5 f fd ["thing", "names"] (JD K):=by
 refine F.ok gF (fun vs H Q E h =>?_) (fun bS A outer s H vs Q E hr h =>?_)
 ·obtain⟨v,d,p,ns,rfl,_⟩:=h
  rfl
 obtain⟨v,d,p,ns,rfl,hd,fit,BZ,nl,na,q⟩:=h;have cK:=hr.units;refine⟨_,(af (ay (i:=2) gF.nd rfl (YY rfl) (dg (cI (ak (jK K) rfl T.n_isinstance (by rfl) (aa (pv 0) (aa (bI rfl T.n_tuple (by rfl) (v := .ty "tuple") rfl) ae)))) (aX (Fw K) rfl T.n_list (by rfl) (aa (pv 0) ae)) (pv 0)))
  (af (aV (PW.pt (ju (eJ (cI (aA (BG.mono ∅) hr rfl (aa (pv 2) ae)))) (hW (ax (DE K cK) (ak (wc K) rfl gQ (by rfl) (aa (fH rfl (cS (Nc:=["name", "code"]) (Fc:=[]) (js:=[])) (JQ K (pv 2)) (nB (cP (bG (i:=0) (n:=2) ∅) (cP (bG (i:=1) (n:=2) ∅) kj bW dR) bW (iE bW dR))) (fun _ _ _ _ _=>(tupK K 2 rfl (aN (aI (i:=0) (rn ["name", "code"]) rfl (YY rfl)) (aN (aI (i:=1) (rn ["name", "code"]) rfl (YY rfl)) bH)))) (fun _ _ _ _ _=>dU) (fun _ _ _ _ _=>(pv 0))) ae)) (ak (wc K) rfl gQ (by rfl) (aa (pv 1) ae)) (aE _))))) (ag (ao kE)) aB)
  (ag (ao (aA (Mc.mono ∅) hr rfl (aa (pv 2) ae)))))),?_⟩
 refine ip (te:=Nu _ _ _) (fun v2 H'=>ar H H'/\Den K H' (iA d) v2) (fun Qn qn =>?_) ?_
 ·refine⟨_,rfl,.inl ⟨_, "tuple",d,_,rfl,hd,(vQ K d).2.2.2.2,_,rfl,?_⟩⟩;cases d with
  | tuple ds=>
   have e:=hd;unfold Den at e;obtain⟨a,us,rfl,hT,hds⟩:=e;refine bA ⟨_,rfl,a,us,rfl,.inr hT,fun l H1 n1=>qn _ _ ⟨n1.same,?_⟩⟩;show Den K H1 (.list ds) _;unfold Den;exact⟨l,us,rfl,bg.of n1.at,hds.same n1.same⟩
  | _=>exact bj ⟨_,rfl,qn _ _ ⟨ar.refl _,hd⟩⟩
 rintro v2 H1 ⟨s1,d1⟩;refine gn ?_;refine⟨_,rfl,v2,iA d,rfl,d1,by rw[yR];exact fit.wt,LN fit.sh,fun ds e=>Jg (fit.wQ ds e) ∅,fun H2 s2 =>?_⟩;have F5:=s1.trans s2;refine⟨_,rfl,?_⟩;cases hb:dn (iA d) with
 | false=>
  have z:=q H2 F5;rw[show cU ns d=false by unfold cU;rw[hb,Yz]] at z;exact bA (bA z)
 | true=>
  obtain⟨eb,ok⟩:=oP hb;have fl:=fit.wQ (match iA d with | .list ds=>ds|_=>[]) (by rw[eb];rfl);have d2:=d1.same s2;rw[eb] at d2;have bl:(cQ (iA d)).length<=60:=by
   rw[eb] at fl;have:((cQ (iA d)).map fun q=>Qbp [.str q.1,.str q.2]).length<=60:=fl;rw[Jd] at this;exact this
  have wt:(aQ (cQ (iA d))).weight<=300000:=by rw[<-eb,yR];exact fit.wt
  have Vb:Pz (aQ (cQ (iA d)))=true:=by rw[<-eb];exact Kx fit.pz
  have fb:cU ns d=(decide (((cQ (iA d)).map (·.1)).Perm ns)&&wx (cQ (iA d))):=by unfold cU;rw[hb,Yg]
  have cd:=fit.cd;generalize cQ (iA d)=bk at d2 bl wt fb ok Vb cd;rw[fb] at q;refine bj ?_;obtain⟨a,us,rfl,hS,hul,hds⟩:=Lg d2;have pz:Pz (aQ bk)=true:=Vb;have az:∀x∈bk.map (·.1),kH x=true:=fun x hx=>by
   obtain⟨q0,hq0,rfl⟩:=Ux.mp hx;have h1:Ik (bk.map fun q=>Qbp [.str q.1,.str q.2])=true:=by simpa only [aQ,Pz] using pz
   have h2:=sW.mp h1 _ (Ux.mpr ⟨q0,hq0,rfl⟩);simp only[Pz,Ik,Js] at h2;exact h2.1
  have small:∀{n:Nat},n<=10000->n<KE:=fun h=>J7 h ∅;refine⟨_,rfl,a,rfl,⟨_,hS⟩,?_⟩;refine dS (N:=bk.length) (fun i ys H'=>ar H2 H'/\ys=((bk.take i).map (·.1)).map V.str) ⟨ar.refl _,rfl⟩ ?_ ?_
  ·rintro i ys H3 Ny hi ⟨s3,rfl⟩ ny;obtain⟨b,uF,hT⟩:=hds i bk[i] (Jc hi);refine⟨⟨_,_,s3.seq hS,uF⟩,small (by rw[Jd,Jd,J6];lia),?_⟩;rintro x' H4 ⟨rfl,hy⟩;have e:=hy _ (s3.seq hS);rw[uF] at e;cases e;refine⟨b,_,rfl,s3.bO hT,rfl,_,_,rfl,gn ⟨_,_,rfl,gn ⟨rfl,_,rfl,ny _ _ ⟨s3,?_⟩⟩⟩⟩;rw[Yt hi,J0,J0]
   rfl
  ·rintro ys H3 ⟨s3,rfl⟩;refine⟨⟨_,s3.seq hS,by rw[hul];exact Je _⟩,fun pv hp =>?_⟩;rw[Yj];have QW:ar H2 (upd H3 pv (.lst ((bk.map (·.1)).map V.str))):=s3.trans (bE hp _);refine⟨pv,bk.map (·.1),rfl,.inl (bg.of av),by rw[Jd];lia,fun ms q1 H4 pm so n4 =>?_⟩;have s4:=QW.trans n4.same;refine⟨_,rfl,p,ns,rfl,BZ.imp (F5.trans s4).seq (F5.trans s4).bO,nl,fun ms2 q2 H5 Ga so2 n5 =>.inr ⟨.list (ms.map .str),.list (ms2.map .str),Den.list (bg.of (n5.same _ _ n4.at)) (Den.strs _),Den.list (bg.of n5.at) (Den.strs _),Di fun x hx=>az x (pm.mem_iff.mp hx),Di fun x hx=>na x (Ga.mem_iff.mp hx),?_⟩⟩;have s5:=s4.trans n5.same;have ev:ZP (.list (ms.map .str)) (.list (ms2.map .str))=decide (ms=ms2):=by simp only[ZP];exact wj ms ms2
   rw[ev]
   by_cases e:ms=ms2
   ·have pp:(bk.map (·.1)).Perm ns:=pm.symm.trans (by rw[e];exact Ga);rw[show decide ((bk.map (·.1)).Perm ns)=true from decide_eq_true pp,Yg] at q;rw[decide_eq_true e];refine⟨_,rfl,bj ⟨_,rfl,.ref a,bk,rfl,d2.same s5,⋯,cd,fun fr H6 s6 =>?_,fun fr H6 s6 =>?_⟩⟩
    ·have z:=q H6 (F5.trans (s5.trans s6));rw[show wx bk=true from @decide_eq_true _ (Qau _) fr] at z;exact z
    ·have z:=q H6 (F5.trans (s5.trans s6));rw[show wx bk=false from @decide_eq_false _ (Qau _) fr] at z;exact z
   ·have np:¬(bk.map (·.1)).Perm ns:=fun pp=>e (Cz (pm.trans (pp.trans Ga.symm)) so so2);have z:=q H5 (F5.trans s5);rw[show decide ((bk.map (·.1)).Perm ns)=false from decide_eq_false np,Yz] at z;rw[decide_eq_false e];exact⟨_,rfl,bA z⟩
end
abbrev aD:List Str:=["set", "add", "take", "tell", "ask", "jump", "zero", "stop", "farjump", "farzero", "skip"]
abbrev bJ:List Str:=["a", "b", "c", "d"]
abbrev aO:List Str:=["none", "one", "two", "three", "four", "five", "six", "seven", "eight"]
def qa:Za->Bool
 | .int _=>true
 | _=>false
def gV (bk:List (Str×Str)):List (Key×V):=bk.map fun q=>((Z7 q.1:Key),V.str q.2)
def bh:List (Str×Str)->Str->Str
 | [],_=>Zt
 | q::r,x=>if q.1=x then q.2 else bh r x
def kX (bk:List (Str×Str))(near eU:Int):Bool:=["jump", "zero"].any fun j:String=>decide (((bh bk (W1 ("far" ++ j))).length:Int)+eU<((bh bk (W1 j)).length:Int)+near)
def vc:Za->Bool
 | .int i=>decide (2<=i)&&decide (i<=8)
 | _=>false
def AU (d1:Za):Za->Za->Bool
 | .int n,.int f=>decide (n<f)&&(decide (f<=16) && !kX (cQ (iA d1)) n f)
 | _,_=>false
def DZ (d1 d4 d5:Za):Option Str:=if vc d4=false then some "near" else if AU d1 d4 d5=false then some "far" else none
def md (d1 d2 d3 d4 d5:Za):Option Str:=
 if cU aD d1=false then some "kinds" else if cU bJ d2=false then some "spots" else if cU aO d3=false then some "sizes" else DZ d1 d4 d5
def EC:Option Str->V
 | none =>.non
 | some x =>.str x
def iR:∀{bk:List (Str×Str)} {x:Str},x∈bk.map (·.1)->gf (gV bk) (.inr x)=some (.str (bh bk x))
 | q::r,x,h=>by
  show gf ((Z7 q.1,V.str q.2)::gV r) _=some (.str (if q.1=x then q.2 else bh r x))
  by_cases e:q.1=x
  ·rw[eN (by rw[e]),if_pos e]
  ·rw[dQ (fun z=>e (QbC z)),if_neg e];refine iR ?_
   rcases Jq.mp h with z|z
   ·exact absurd z.symm e
   ·exact z
def yp:∀{bk:List (Str×Str)} (x:Str),(∀q∈bk,q.2.length<=200000)->(bh bk x).length<=200000
 | [],_,_=>Uq _
 | q::r,x,h=>by
  unfold bh
  split
  ·exact h q Jm
  ·exact yp x fun z hz=>h z (Jj _ hz)
def sP:∀(kvs acc:List (Key×V)),(kvs.map (·.1)).Nodup->(∀kv∈kvs,gf acc kv.1=none)->cB acc kvs=acc++kvs
 | [],acc,_,_=>by show acc=acc++[];rw[Uu]
 | kv::kvs,acc,nd,h=>by
  rw[Jz] at nd;obtain⟨n1,n2⟩:=U6.mp nd;show cB (putK acc kv.1 kv.2) kvs=_;rw[wX _ (h kv Jm),sP kvs _ n2 fun kw hw =>?_]
  ·rw[Y4];rfl
  ·rw[rD _ _ _ _ (h kv Jm),if_neg (fun z=>n1 (by rw[<-z];exact Ui hw))];exact h kw (Jj _ hw)
def iK {bk:List (Str×Str)}(h:(bk.map (·.1)).Nodup):cB [] (gV bk)=gV bk:=by
 have nd:((gV bk).map (·.1)).Nodup:=by
  unfold gV;rw[Ym];refine List.pairwise_map.mpr ((List.pairwise_map.mp h).imp fun{a b} z e=>z (QbC e))
 rw[sP _ _ nd fun kv _=>rfl]
 rfl
def tV {K:Ja}{H:Hp}{bk:List (Str×Str)}{us:List V}(h:a8 K H (bk.map fun q =>.tuple [.str q.1,.str q.2]) us):∃as:List Gc,us=as.map V.ref/\as.length=bk.length/\∀(j:Nat) b (kv:Key×V),as[j]? = some b->(gV bk)[j]? = some kv->aY K H b [kV kv.1,kv.2]:=by
 induction bk generalizing us with
 | nil=>
  unfold a8 at h;subst h;exact⟨[],rfl,rfl,fun j b kv e=>nomatch e⟩
 | cons q bk ih=>
  rw[Jz] at h;unfold a8 at h;obtain⟨v,r,rfl,hd,h⟩:=h;obtain⟨as,rfl,hl,hk⟩:=ih h;unfold Den at hd;obtain⟨b,vs,rfl,hT,hd⟩:=hd;unfold a8 at hd;obtain⟨x,r,rfl,hx,hd⟩:=hd;unfold a8 at hd;obtain⟨y,r,rfl,hy,hd⟩:=hd;unfold a8 at hd;unfold Den at hx hy;subst hd hx hy;refine⟨b::as,rfl,by rw[Jn,Jn,hl],fun j c kv e1 e2 =>?_⟩;cases j with
  | zero=>cases e1;cases e2;exact hT
  | succ j=>exact hk j c kv e1 e2
def Hw {K:Ja}{H:Hp}{d:Za}{bk:List (Str×Str)}{v:V}(h:Den K H d v)(e:iA d=aQ bk):∃(p:Gc) (as:List Gc),v = .ref p/\(bg K H p (as.map V.ref)\/aY K H p (as.map V.ref))/\as.length=bk.length/\∀(j:Nat) b (kv:Key×V),as[j]? = some b->(gV bk)[j]? = some kv->aY K H b [kV kv.1,kv.2]:=by
 cases d with
 | list ds=>
  have e:ds=bk.map fun q =>.tuple [.str q.1,.str q.2]:=QcR e;unfold Den at h;obtain⟨p,us,rfl,hS,hd⟩:=h;rw[e] at hd;obtain⟨as,rfl,hl,hk⟩:=tV hd;exact⟨p,as,rfl,.inl hS,hl,hk⟩
 | tuple ds=>
  have e:ds=bk.map fun q =>.tuple [.str q.1,.str q.2]:=QcR e;unfold Den at h;obtain⟨p,us,rfl,hS,hd⟩:=h;rw[e] at hd;obtain⟨as,rfl,hl,hk⟩:=tV hd;exact⟨p,as,rfl,.inr hS,hl,hk⟩
 | _=>exact absurd e (by unfold aQ iA;exact nofun)
def FG (K:Ja):Sp:=fun vs H Q _=>∃(v:V) (d:Za),vs=[v]/\Den K H d v/\∀H',ar H H'->Q (.bl (qa d)) H'
def JF (K:Ja):Sp:=fun vs H Q _=>vY fun(v:V) (d:Za) (bk:List (Str×Str)) (n f:Int)=>vs=[v,.int n,.int f]/\Den K H d v/\iA d=aQ bk/\bk.length<=60/\(∀q∈bk,q.2.length<=200000)/\(bk.map (·.1)).Nodup/\(∀x∈aD,x∈bk.map (·.1))/\∀H',ar H H'->Q (.bl (kX bk n f)) H'
section
variable {P:YZ}{w:Zb}{K:Ja}{mg:Str->Option Fk}{base:Heap}{f:Gc}{fd:Zc}{aJ aP aS aZ:Gc}{t1 t2 t3:Tok}
def sT:aG ["thing"] ["thing"] (ai (top jG)):=⟨rfl,rfl,rfl,∅,rfl,∅,∅⟩
def Dk (F:dM K "is_number" "is_number" (top jG) f fd)(T:Nm mg):aW P w K mg base dI 1 f fd ["thing"] (FG K):=by
 refine F.ok sT (fun vs H Q E h =>?_) (fun bS A outer s H vs Q E hr h =>?_)
 ·obtain⟨v,d,rfl,_⟩:=h
  rfl
 obtain⟨v,d,rfl,hd,q⟩:=h;have hq:=q H (ar.refl _);refine⟨_,(ag (ao (fY (ak (jK K) rfl T.n_isinstance (by rfl) (aa (pv 0) (aa (bI rfl T.n_int (by rfl) (v := .ty "int") rfl) ae))) (lr (Du (ak (jK K) rfl T.n_isinstance (by rfl) (aa (pv 0) (aa (bI rfl T.n_bool (by rfl) (v := .ty "bool") rfl) ae)))))))),?_⟩;refine⟨_,rfl,.inl ⟨_, "int",d,_,rfl,hd,(vQ K d).2.1,_,rfl,?_⟩⟩;cases d with
 | int i=>exact bA ⟨_,rfl,.inl ⟨_, "bool",.int i,_,rfl,hd,(vQ K (.int i)).1,_,rfl,hq⟩⟩
 | bool i=>exact bA ⟨_,rfl,.inl ⟨_, "bool",.bool i,_,rfl,hd,(vQ K (.bool i)).1,_,rfl,hq⟩⟩
 | _=>exact bj hq
def gY:aG ["kinds", "near", "far", "codes"] ["kinds", "near", "far"] (ai (top fj)):=⟨rfl,rfl,rfl,∅,rfl,∅,∅⟩
def Mo (F:dM K "far_is_shorter" "far_is_shorter" (top fj) f fd)(T:Nm mg)(cw:mg "dict" = none)(Hf:mg "JUMPS" = some (.ref aJ))(hJ:∀H,aY K H aJ [V.str "jump",V.str "zero"]):aW P w K mg base dI 1 f fd ["kinds", "near", "far"] (JF K):=by
 refine F.ok gY (fun vs H Q E h =>?_) (fun bS A outer s H vs Q E hr h =>?_)
 ·obtain⟨v,d,bk,n,f,rfl,_⟩:=h
  rfl
 obtain⟨v,d,bk,n,f,rfl,hd,ea,bl,cl,nd,hk,q⟩:=h;have hu:=jF hr;have cK:=hr.units;obtain⟨p,as,rfl,sq,al,hT⟩:=Hw hd ea;have bn:(gV bk).length=bk.length:=by unfold gV;rw[Jd]
 refine⟨_,(af (ay (i:=3) gY.nd rfl (Or.inr rfl) (aX (Kn K rfl) rfl cw (by rfl) (aa (pv 0) ae)))
  (ag (ao (ak (SD K rfl) rfl T.n_any (by rfl) (aa (fH rfl (cS (Nc:=["jump"]) (Fc:=["far", "near", "codes"]) (js:=[2,1,3])) (ja K (cG rfl Hf)) (bG (i:=0) (n:=1) ∅) (fun _ _ _ _ _=>(aI (i:=0) (rn ["jump", "far", "near", "codes"]) rfl (YY rfl))) (fun _ _ _ _ _=>dU) (fun _ _ _ _ _=>(cT sH (aw bw (ak (eE K) rfl T.n_len (by rfl) (aa (bP hu (pv 3) (aw bw aq (pv 0)) (fun _ _=>rfl)) ae)) (pv 1)) (aw bw (ak (eE K) rfl T.n_len (by rfl) (aa (bP hu (pv 3) (pv 0) (fun _ _=>rfl)) ae)) (pv 2)) (aE _)))) ae))))),?_⟩
 refine⟨_,rfl,p,as,gV bk,rfl,sq,by rw[bn];exact al,by rw[bn];lia,hT,fun dd H1 n1=>gn ?_⟩;rw[iK nd] at n1;have small:∀{n:Nat},n<=1000000->n<KE:=fun h=>J7 h ∅
 let tst:Str->Bool:=fun j=>decide (((bh bk (W1 "far" ++ j)).length:Int)+f<((bh bk j).length:Int)+n)
 have js:∀j∈(["jump", "zero"]:List Str),j∈aD/\(W1 "far" ++ j)∈aD/\j.length<=10:=∅;refine⟨aJ,rfl,⟨_,hJ _⟩,?_⟩;refine dS (N:=2) (fun i ys H'=>ar H1 H'/\ys=(((["jump", "zero"]:List Str).take i).map tst).map V.bl) ⟨ar.refl _,rfl⟩ ?_ ?_
 ·rintro i ys H2 Ny hi ⟨s2,rfl⟩ ny;have TN:([V.str "jump",V.str "zero"]:List V)[i]? = some (.str ((["jump", "zero"]:List Str)[i])):=by
   match i,hi with
   | 0,_=>rfl
   | 1,_=>rfl
  refine⟨⟨_,_,hJ _,TN⟩,small (by rw[Jd,Jd,J6];lia),?_⟩;rintro x' H3 ⟨rfl,hy⟩;have e:=hy _ (hJ _);rw[TN] at e;cases e;obtain⟨j,hj⟩:∃j,j=(["jump", "zero"]:List Str)[i]:=⟨_,rfl⟩
  have jm:=js j (by rw[hj];exact Ug _);rw[<-hj];refine gn ?_;have h2:=s2 _ _ n1.at;have gd:∀{Hx:Hp},Hx dd=some (.dK (gV bk))->∀x,x∈aD->eV Hx dd (.str x) (some (.str (bh bk x))):=fun h x hx=>by
   rw[<-iR (hk x hx)];exact eV.k (k := .inr x) h
  have l1:=yp (W1 "far" ++ j) cl;have l2:=yp j cl;have lf:(W1 "far").length=3:=rfl;have sz:∀{x:Str},x.length<=200000->x.length<=KE:=fun h=>Jg h ∅;refine⟨_,rfl,_,rfl,.inr (.inl ⟨_,_,rfl,rfl,Yh (small (by rw[lf];lia)),dd,_,rfl,gd h2 _ jm.2.1,?_⟩)⟩;refine⟨_,_,rfl,⟨sz l1,rfl⟩,_,rfl,.inl ⟨_,_,rfl,rfl,?_⟩⟩;refine⟨_,rfl,_,rfl,dd,_,rfl,gd h2 _ jm.1,_,_,rfl,⟨sz l2,rfl⟩,_,rfl,.inl ⟨_,_,rfl,rfl,_,_,rfl,rfl,ny _ _ ⟨s2,?_⟩⟩⟩;rw[Yt (show i<(["jump", "zero"]:List Str).length from hi),J0,J0,hj]
  rfl
 ·rintro ys H2 ⟨s2,rfl⟩;refine⟨⟨_,hJ _,Je _⟩,fun pv hp=>⟨pv,_,rfl,bg.of av,?_⟩⟩;exact q _ (n1.same.trans (s2.trans (bE hp _)))
end
def M5:Za->Za
 | .list ds =>.tuple ds
 | d=>d
structure uR (K:Ja)(H:Hp)(v1 v2 v3 v4 v5:V)(d1 d2 d3 d4 d5:Za):Prop where
 e1:Den K H d1 v1
 e2:Den K H d2 v2
 e3:Den K H d3 v3
 e4:Den K H d4 v4
 e5:Den K H d5 v5
 f1:IY d1
 f2:IY d2
 f3:IY d3
def uR.same {K:Ja}{H H':Hp}{v1 v2 v3 v4 v5:V}{d1 d2 d3 d4 d5:Za}(h:uR K H v1 v2 v3 v4 v5 d1 d2 d3 d4 d5)(s:ar H H'):uR K H' v1 v2 v3 v4 v5 d1 d2 d3 d4 d5:=⟨h.e1.same s,h.e2.same s,h.e3.same s,h.e4.same s,h.e5.same s,h.f1,h.f2,h.f3⟩
structure N6 (K:Ja)(P:YZ)(w:Zb)(mg:Str->Option Fk)(aP aS aZ:Gc)(t1 t2 t3:Tok):Prop where
 gP:mg "PARTS" = some (.ref aP)
 gS:mg "SPOT_NAMES" = some (.ref aS)
 gZ:mg "SIZE_NAMES" = some (.ref aZ)
 P:oG fun es n kvs=>zg K P w aP es n kvs/\kvs.map (·.1)=aD
 S:∀H,aY K H aS (bJ.map V.str)
 Z:∀H,aY K H aZ (aO.map V.str)
 vl:mg "LEAST_NEAR" = some (.int 2 t1)
 vm:mg "MOST_NEAR" = some (.int 8 t2)
 vf:mg "MOST_FAR" = some (.int 16 t3)
def Pa (K:Ja):Sp:=fun vs H Q _=>∃(v1 v2 v3 v4 v5:V) (d1 d2 d3 d4 d5:Za),vs=[v1,v2,v3,v4,v5]/\uR K H v1 v2 v3 v4 v5 d1 d2 d3 d4 d5/\∀H',ar H H'->Q (EC (md d1 d2 d3 d4 d5)) H'
def DS {d:Za}(h:qa d=false):vc d=false:=by cases d<;>first|rfl|cases h
def AE {d:Za}(h:qa d=true):∃i,d = .int i:=by cases d<;>first|exact⟨_,rfl⟩|cases h
def nh:(∀x∈aD,kH x=true)/\(∀x∈bJ,kH x=true)/\∀x∈aO,kH x=true:=∅
def cN:aD.Nodup:=∅
section
variable {P:YZ}{w:Zb}{K:Ja}{mg:Str->Option Fk}{base:Heap}{f:Gc}{fd:Zc}{aP aS aZ:Gc}{t1 t2 t3:Tok}
def qj:aG ["kinds", "spots", "sizes", "near", "far"] ["kinds", "spots", "sizes", "near", "far"] (ai (top hU)):=⟨rfl,rfl,rfl,∅,rfl,∅,∅⟩
def NM (F:dM K "first_wrong" "first_wrong" (top hU) f fd)(T:Nm mg)(M:N6 K P w mg aP aS aZ t1 t2 t3)(eK:Fn P w K mg base 5 "is_free_book_of" ["thing", "names"] (JD K))(nU:Fn P w K mg base 1 "is_number" ["thing"] (FG K))(mG:Fn P w K mg base 1 "far_is_shorter" ["kinds", "near", "far"] (JF K)):aW P w K mg base dI 6 f fd ["kinds", "spots", "sizes", "near", "far"] (Pa K):=by
 refine F.ok qj (fun vs H Q E h =>?_) (fun bS A outer s H vs Q E hr h =>?_)
 ·obtain⟨v1,v2,v3,v4,v5,d1,d2,d3,d4,d5,rfl,_⟩:=h
  rfl
 obtain⟨v1,v2,v3,v4,v5,d1,d2,d3,d4,d5,rfl,D,q⟩:=h;have cK:=hr.units;have uv:=M.gP;have tY:=M.gS;have jd:=M.gZ;have mq:=M.vl;have nI:=M.vm;have pA:=M.vf;obtain⟨es,n,kvs,KD,ek⟩:=M.P;refine⟨_,(af (aV (eJ (cI (aA (eK.mono ∅) hr rfl (aa (pv 0) (aa (aX (Ls rfl) rfl T.n_list (by rfl) (aa (cG rfl uv) ae)) ae))))) (ag (ao aq)) aB)
  (af (aV (eJ (cI (aA (eK.mono ∅) hr rfl (aa (pv 1) (aa (cG rfl tY) ae))))) (ag (ao aq)) aB)
  (af (aV (eJ (cI (aA (eK.mono ∅) hr rfl (aa (pv 2) (aa (cG rfl jd) ae))))) (ag (ao aq)) aB)
  (af (aV (PW.pt (ju (eJ (cI (aA (nU.mono ∅) hr rfl (aa (pv 3) ae)))) (hW (eJ (v8 oU oU (mr rfl mq) (pv 3) (mr rfl nI)))))) (ag (ao aq)) aB)
  (af (aV (PW.pt (ju (eJ (cI (aA (nU.mono ∅) hr rfl (aa (pv 4) ae)))) (ju (eJ (v8 sH oU (pv 3) (pv 4) (mr rfl pA))) (hW (cI (aA (mG.mono ∅) hr rfl (aa (pv 0) (aa (pv 3) (aa (pv 4) ae))))))))) (ag (ao aq)) aB)
  (ag (ao a9))))))),?_⟩
 refine⟨_,rfl,aP,es,n,kvs,rfl,KD,by have:=congrArg Qdv ek;rw[Jd] at this;rw[this];decide,fun p H1 n1 =>?_⟩;rw[ek] at n1;refine⟨v1,d1,p,aD,rfl,D.e1.same n1.same,D.f1,.inl (bg.of n1.at),∅,nh.1,fun H2 s2=>⟨_,rfl,?_⟩⟩;have F5:=n1.same.trans s2;have D2:=D.same F5;have wy:∀{y:Option Str},md d1 d2 d3 d4 d5=y->∀H',ar H H'->Q (EC y) H':=fun e H' sm=>by rw[<-e];exact q H' sm
 cases h1:cU aD d1 with
 | false=>exact bA (wy (if_pos h1) _ F5)
 | true=>
 have Q6:¬cU aD d1=false:=by rw[h1];decide
 refine bj ?_;dsimp only[bZ];refine⟨_,rfl,v2,d2,aS,bJ,rfl,D2.e2,D2.f2,.inr (M.S _),∅,nh.2.1,fun H3 s3=>⟨_,rfl,?_⟩⟩;have So:=F5.trans s3;have D3:=D.same So;cases h2:cU bJ d2 with
 | false=>exact bA (wy ((if_neg Q6).trans (if_pos h2)) _ So)
 | true=>
 have UQ:¬cU bJ d2=false:=by rw[h2];decide
 refine bj ?_;dsimp only[bZ];refine⟨_,rfl,v3,d3,aZ,aO,rfl,D3.e3,D3.f3,.inr (M.Z _),∅,nh.2.2,fun H4 s4=>⟨_,rfl,?_⟩⟩;have Ks:=So.trans s4;have D4:=D.same Ks;cases h3:cU aO d3 with
 | false=>exact bA (wy ((if_neg Q6).trans ((if_neg UQ).trans (if_pos h3))) _ Ks)
 | true=>
 have XW:¬cU aO d3=false:=by rw[h3];decide
 have wy:∀{y:Option Str},DZ d1 d4 d5=y->∀H',ar H H'->Q (EC y) H':=fun e H' sm=>wy ((if_neg Q6).trans ((if_neg UQ).trans ((if_neg XW).trans e))) H' sm;refine bj ?_;dsimp only[bZ];refine⟨_,rfl,v4,d4,rfl,D4.e4,fun H5 s5=>⟨_,rfl,?_⟩⟩;have OS:=Ks.trans s5;have D5:=D.same OS;cases hd4:qa d4 with
 | false=>exact bA (bA (wy (if_pos (DS hd4)) _ OS))
 | true=>
 obtain⟨i,rfl⟩:=AE hd4;have e4:v4 = .int i:=by have:=D.e4;unfold Den at this;exact this
 subst e4;refine bj ?_;have nF:¬(2<=i/\i<=8)->DZ d1 (.int i) d5=some "near":=fun h=>if_pos (by
  show(decide (2<=i)&&decide (i<=8))=false;rw[Bool.and_eq_false_iff]
  by_cases z:2<=i
  ·exact .inr (decide_eq_false fun y=>h ⟨z,y⟩)
  ·exact .inl (decide_eq_false z))
 refine⟨_,rfl,_,_,rfl,rfl,_,rfl,fq (fun c1 =>?_) (fun c1=>⟨_,rfl,bA (wy (nF fun z=>c1 (decide_eq_true z.1)) _ OS)⟩)⟩;have c1:2<=i:=of_decide_eq_true c1;refine⟨_,_,rfl,rfl,_,rfl,?_⟩
 by_cases c2:i<=8
 case neg=>
  rw[decide_eq_false c2];exact bA (wy (nF fun z=>c2 z.2) _ OS)
 rw[decide_eq_true c2];refine bj ?_;dsimp only[bZ];have wy:∀{y:Option Str},(if AU d1 (.int i) d5=false then some (W1 "far") else none)=y->∀H',ar H H'->Q (EC y) H':=fun e H' sm=>wy ((if_neg (by
  show ¬(decide (2<=i)&&decide (i<=8))=false;rw[decide_eq_true c1,decide_eq_true c2];decide)).trans e) H' sm
 refine⟨_,rfl,v5,d5,rfl,D5.e5,fun H6 s6=>⟨_,rfl,?_⟩⟩;have Pr:=OS.trans s6;have D6:=D.same Pr;cases QQ:qa d5 with
 | false=>exact bA (bA (wy (if_pos (by cases d5<;>first|rfl|cases QQ)) _ Pr))
 | true=>
 obtain⟨j,rfl⟩:=AE QQ;have e5:v5 = .int j:=by have:=D.e5;unfold Den at this;exact this
 subst e5;refine bj ?_;have nG:¬(i<j/\j<=16/\kX (cQ (iA d1)) i j=false)->AU d1 (.int i) (.int j)=false:=fun h=>by
  show(decide (i<j)&&(decide (j<=16) && !kX (cQ (iA d1)) i j))=false
  by_cases z:i<j
  ·by_cases y:j<=16
   ·rw[decide_eq_true z,decide_eq_true y];cases e:kX (cQ (iA d1)) i j with
    | true=>rfl
    | false=>exact absurd ⟨z,y,e⟩ h
   ·rw[decide_eq_true z,decide_eq_false y];rfl
  ·rw[decide_eq_false z];rfl
 refine⟨_,rfl,_,rfl,_,_,rfl,rfl,_,rfl,fq (fun c3 =>?_) (fun c3=>⟨_,rfl,bA (bA (wy (if_pos (nG fun z=>c3 (decide_eq_true z.1))) _ Pr))⟩)⟩;have c3:i<j:=of_decide_eq_true c3;refine⟨_,_,rfl,rfl,_,rfl,?_⟩
 by_cases c4:j<=16
 case neg=>
  rw[decide_eq_false c4];exact bA (bA (wy (if_pos (nG fun z=>c4 z.2.1)) _ Pr))
 rw[decide_eq_true c4];refine bj ?_;have bo:dn (iA d1)=true/\((cQ (iA d1)).map (·.1)).Perm aD:=by
  have z:=h1;unfold cU at z;rw[Js,Js] at z;exact⟨z.1,of_decide_eq_true z.2.1⟩
 obtain⟨eb,_⟩:=oP bo.1;have wQ:=bo.2.length_eq;rw[Jd] at wQ;refine⟨_,rfl,_,rfl,_,rfl,v1,d1,cQ (iA d1),i,j,rfl,D6.e1,eb,by rw[wQ];decide,D.f1.cd,bo.2.nodup_iff.mpr cN,fun x hx=>bo.2.mem_iff.mpr hx,fun H7 s7=>⟨_,rfl,?_⟩⟩;have Td:=Pr.trans s7;cases hf:kX (cQ (iA d1)) i j with
 | true=>exact bA (wy (if_pos (nG fun z=>by rw[hf] at z;exact absurd z.2.2 ∅)) _ Td)
 | false=>
  refine bj ?_;dsimp only[bZ];refine wy (if_neg ?_) _ Td;show ¬(decide (i<j)&&(decide (j<=16) && !kX (cQ (iA d1)) i j))=false;rw[decide_eq_true c3,decide_eq_true c4,hf];decide
end
end Z
namespace L2
open PySem
def fA (K:Ja){X:Cx}{e:ZA}{f:Str}{pos:Pos}{ta:TE}(he:PE X e ta)(hb:QaK e f X.env (ZM e X.env)=ZM e X.env)(hK:X.K=K:=by rfl):PE X (.Attribute e f pos) (Ot K ta f):=by subst hK;exact KM he hb
end L2
namespace Z
open PySem L2
structure MH (K:Ja)(CF:Gc):Prop where
 c:Ad K CF
 n1:cR K CF "kinds"
 n2:cR K CF "spots"
 n3:cR K CF "sizes"
 n4:cR K CF "near"
 n5:cR K CF "far"
def jE (K:Ja)(CF:Gc)(H:Hp)(m:Gc)(d1 d2 d3 d4 d5:Za):Prop:=Dx fun(dx:Gc) (w1 w2 w3 w4 w5:V)=>H m=some (.ins CF dx [("kinds",w1),("spots",w2),("sizes",w3),("near",w4),("far",w5)]) /\
 Den K H (M5 d1) w1/\Den K H (M5 d2) w2/\Den K H (M5 d3) w3/\Den K H d4 w4/\Den K H d5 w5
def jE.same {K:Ja}{CF:Gc}{H H':Hp}{m:Gc}{d1 d2 d3 d4 d5:Za}(h:jE K CF H m d1 d2 d3 d4 d5)(s:ar H H'):jE K CF H' m d1 d2 d3 d4 d5:=by
 obtain⟨dx,w1,w2,w3,w4,w5,e,h1,h2,h3,h4,h5⟩:=h;exact⟨dx,w1,w2,w3,w4,w5,s _ _ e,h1.same s,h2.same s,h3.same s,h4.same s,h5.same s⟩
def Oo (K:Ja)(CF C:Gc):Sp:=fun vs H Q E=>fG fun(H0:Hp) (m:Gc)=>Dx fun dx v1 v2 v3 v4 v5=>vY fun d1 d2 d3 d4 d5=>vs=[.ref m,v1,v2,v3,v4,v5]/\ar H0 H/\H0 m=none/\H m=some (.ins CF dx [])/\uR K H0 v1 v2 v3 v4 v5 d1 d2 d3 d4 d5 /\
 (md d1 d2 d3 d4 d5=none->∀H',ar H0 H'->jE K CF H' m d1 d2 d3 d4 d5->Q .non H') /\
 (∀y,md d1 d2 d3 d4 d5=some y->∀ex H',ar H0 H'->H' ex=some (.xd [("why",.str y)])->E (.ref C) (some ex) H')
def zW {H:Hp}{m:Gc}:ar (qF H m) H:=fun a o e=>by
 by_cases z:a=m
 ·rw[z,gK] at e;cases e
 ·rw[cV z] at e;exact e
def v7 {H H':Hp}{m:Gc}(s:ar H H'):ar (qF H m) (qF H' m):=fun a o e=>by
 by_cases z:a=m
 ·rw[z,gK] at e;cases e
 ·rw[cV z] at e ⊢;exact s _ _ e
def oE {H:Hp}{m:Gc}{o:HO}:qF (upd H m o) m=qF H m:=by
 funext a
 by_cases z:a=m
 ·rw[z,gK,gK]
 ·rw[cV z,cV z,au z]
def zx {H0 H:Hp}{m:Gc}(s:ar H0 H)(n:H0 m=none):ar H0 (qF H m):=fun a o e=>by
 rw[cV (aH e n)];exact s _ _ e
def uh {ns:List Str}{d:Za}(h:cU ns d=true):∃ds,d = .list ds\/d = .tuple ds:=by
 unfold cU at h;rw[Js] at h;cases d with
 | list ds=>exact⟨ds,.inl rfl⟩
 | tuple ds=>exact⟨ds,.inr rfl⟩
 | _=>exact absurd h.1 (by unfold iA dn;exact nofun)
def pq {d1 d2 d3 d4 d5:Za}(h:md d1 d2 d3 d4 d5=none):cU aD d1=true/\cU bJ d2=true/\cU aO d3=true:=by
 unfold md at h;cases h1:cU aD d1 with
 | false=>rw[if_pos h1] at h;cases h
 | true=>
  rw[if_neg (by rw[h1];decide)] at h;cases h2:cU bJ d2 with
  | false=>rw[if_pos h2] at h;cases h
  | true=>
   rw[if_neg (by rw[h2];decide)] at h;cases h3:cU aO d3 with
   | false=>rw[if_pos h3] at h;cases h
   | true=>exact⟨rfl,rfl,rfl⟩
def xM {K:Ja}{H:Hp}{m:Gc}{o:HO}{d:Za}{v:V}{Q:VK}{σ:St}{i:Nat}(hv: σ[i]? = some (some v))(hm:H m=some o)(hd:Den K (qF H m) d v)(hs:∃ds,d = .list ds\/d = .tuple ds)
  (k:∀w H',ar (qF H m) (qF H' m)->H' m=some o->Den K (qF H' m) (M5 d) w->Q w H'):Nt (fun xs H Q=>∃p ys,xs=[.ref p]/\((bg K H p ys/\∀l H',jg H l (.tup ys) H'->Q (.ref l) H')\/(aY K H p ys/\Q (.ref p) H))) (Al (GP i) Cm) σ H Q:=by
 refine⟨_,hv,?_⟩;obtain⟨ds,rfl|rfl⟩:=hs
 ·unfold Den at hd;obtain⟨p,us,rfl,hS,hD⟩:=hd;refine⟨p,us,rfl,.inl ⟨zW.seq hS,fun l H' n =>?_⟩⟩;have nl:l≠m:=fun z=>by have:=n.nn;rw[z,hm] at this;cases this
  refine k _ _ (v7 n.same) (n.same _ _ hm) ?_;show Den K (qF H' m) (.tuple ds) (.ref l);unfold Den;exact⟨l,us,rfl,aY.of (by rw[cV nl];exact n.at),hD.same (v7 n.same)⟩
 ·have Au:=hd;unfold Den at Au;obtain⟨p,us,rfl,hS,hD⟩:=Au;exact⟨p,us,rfl,.inr ⟨zW.bO hS,k _ _ (ar.refl _) hm hd⟩⟩
section
variable {P:YZ}{w:Zb}{K:Ja}{mg:Str->Option Fk}{base:Heap}{f fi:Gc}{fd IM:Zc}{C CF:Gc}
def qX:aG ["self", "why"] ["self", "why"] (ai (inClass (top pf) 0)):=⟨rfl,rfl,rfl,∅,rfl,∅,∅⟩
def zZ (C:Gc)(f:Str):Sp:=fun vs H Q _=>∃(e:Gc) (v:V),vs=[.ref e,v]/\H e=some (wF e C)/\∀dx,H dx=none->dx≠e->Q .non (upd (upd H e (AR e C dx)) dx (.xd [(f,v)]))
def qK (F:dM K "__init__" "NoForm.__init__" (inClass (top pf) 0) f fd)(S:mh K C "why"):aW P w K mg base dI 1 f fd ["self", "why"] (zZ C "why"):=by
 refine F.ok qX (fun vs H Q E h =>?_) (fun bS A outer s H vs Q E hr h =>?_)
 ·obtain⟨e,v,rfl,_⟩:=h
  rfl
 obtain⟨e,v,rfl,he,q⟩:=h;refine⟨_,(ag (Ak (pv 0) (pv 1) rfl)),?_⟩;exact⟨_,rfl,_,rfl,e,C,rfl,he,S,fun dx h1 h2=>q dx h1 h2⟩
def lZ:aG ["self", "kinds", "spots", "sizes", "near", "far", "why"] ["self", "kinds", "spots", "sizes", "near", "far"] (ai (inClass (top zd) 0)):=⟨rfl,rfl,rfl,∅,rfl,∅,∅⟩
def N4 (F:dM K "__init__" "Form.__init__" (inClass (top zd) 0) f fd)(T:Nm mg)(MF:MH K CF)(iL:mg "NoForm" = some (.ref C))(DU:MU K C fi)(qx:aW P w K mg base dI 1 fi IM ["self", "why"] (zZ C "why"))(FI:Binds K IM ["self", "why"] [])(qU:Fn P w K mg base 6 "first_wrong" ["kinds", "spots", "sizes", "near", "far"] (Pa K)):
  aW P w K mg base (u4 P w base) 7 f fd ["self", "kinds", "spots", "sizes", "near", "far"] (Oo K CF C):=by
 refine F.R9 lZ (fun vs H Q E h =>?_) (fun bS A outer s H vs Q E hr h =>?_)
 ·obtain⟨H0,m,dx,v1,v2,v3,v4,v5,d1,d2,d3,d4,d5,rfl,_⟩:=h
  rfl
 obtain⟨H0,m,dx,v1,v2,v3,v4,v5,d1,d2,d3,d4,d5,rfl,sm,nm,hm,D,qY,qN⟩:=h;have cK:=hr.units;refine⟨_,(af (ay (i:=6) lZ.nd rfl (YY rfl) (aA (qU.mono ∅) hr rfl (aa (pv 1) (aa (pv 2) (aa (pv 3) (aa (pv 4) (aa (pv 5) ae)))))))
  (af (aV (ax zL (pv 6) a9 (aE _)) (ag (rP (k:=1) DU qx (hr.mono ∅) rfl iL FI (aa (pv 6) ae))) aB)
  (af (iy (pv 0) (aX (mJ K) rfl T.n_tuple (by rfl) (aa (pv 1) ae)) rfl)
  (af (iy (pv 0) (aX (mJ K) rfl T.n_tuple (by rfl) (aa (pv 2) ae)) rfl)
  (af (iy (pv 0) (aX (mJ K) rfl T.n_tuple (by rfl) (aa (pv 3) ae)) rfl)
  (af (iy (pv 0) (pv 4) rfl)
  (ag (iy (pv 0) (pv 5) rfl)))))))),?_⟩
 have nb:∀{Hx:Hp} {a:Gc},ar H Hx->Hx a=none->H a=none:=fun{Hx a} s h=>by
  cases e:H a with
  | none=>rfl
  | some o=>rw[s _ _ e] at h;cases h
 refine⟨_,rfl,_,rfl,_,rfl,_,rfl,_,rfl,v1,v2,v3,v4,v5,d1,d2,d3,d4,d5,rfl,D.same sm,fun H1 s1=>gn ?_⟩;have Rm:=sm.trans s1;refine⟨_,rfl,.inl ⟨rfl,?_⟩⟩;cases hw:md d1 d2 d3 d4 d5 with
 | some y=>
  refine⟨_,rfl,bA ?_⟩;refine⟨_,rfl,by show 1<=1000;decide,fun e he=>⟨e,.str y,rfl,av,fun dx c1 c2=>⟨rfl,e,dx,rfl,?_,nb s1 he,?_⟩⟩⟩
  ·rw[au (Zx c2),av]
  ·refine qN y hw dx _ (fun a o z =>?_) ?_
   ·have z1:=Rm _ _ z;have na:a≠e:=aH z1 he;have nd:a≠dx:=fun y=>by
     rw[au c2,<-y,z1] at c1;cases c1
    rw[cV na,au nd,au na,au na];exact z1
   ·rw[cV c2,av]
 | none=>
  refine⟨_,rfl,bj ?_⟩;obtain⟨o1,o2,o3⟩:=pq hw;have D1:=D.same (zx Rm nm);dsimp only[bZ];unfold DA KZ;dsimp only;refine xM (by rfl) (s1 _ _ hm) D1.e1 (uh o1) fun w1 H2 s2 m2 t1 =>?_;refine⟨_,rfl,m,CF,dx,_,rfl,m2,MF.c,MF.n1,by show 0<1000;decide,?_⟩;refine xM (by rfl) av (oE▸D1.e2.same s2) (uh o2) fun w2 H3 s3 m3 t2 =>?_;rw[oE] at s3;refine⟨_,rfl,m,CF,dx,_,rfl,m3,MF.c,MF.n2,by show 1<1000;decide,?_⟩;refine xM (by rfl) av (oE▸D1.e3.same (s2.trans s3)) (uh o3) fun w3 H4 s4 m4 t3 =>?_;rw[oE] at s4;refine⟨_,rfl,m,CF,dx,_,rfl,m4,MF.c,MF.n3,by show 2<1000;decide,?_⟩;refine⟨_,rfl,_,rfl,m,CF,dx,_,rfl,av,MF.c,MF.n4,by show 3<1000;decide,?_⟩;refine⟨_,rfl,_,rfl,m,CF,dx,_,rfl,av,MF.c,MF.n5,by show 4<1000;decide,?_⟩;have Ks:=s2.trans (s3.trans s4);have fin:∀{Hx:Hp},ar (qF Hx m) (qF H4 m)->∀{o p q:HO},ar (qF Hx m) (upd (upd (upd H4 m o) m p) m q):=fun{Hx} h {o p q}=>h.trans fun a u e=>by
   have na:a≠m:=fun y=>by rw[y,gK] at e;cases e
   rw[cV na] at e;rw[au na,au na,au na];exact e
  refine qY hw _ ?_ ⟨dx,w1,w2,w3,v4,v5,?_,?_,?_,?_,?_,?_⟩
  ·exact fun a o e=>by
    have z:=((zx Rm nm).trans Ks) _ _ e;have na:a≠m:=fun y=>by rw[y,nm] at e;cases e
    rw[cV na] at z;rw[au na,au na,au na];exact z
  ·exact av
  ·exact t1.same (fin (s3.trans s4))
  ·exact t2.same (fin s4)
  ·exact t3.same (fin (ar.refl _))
  ·exact D1.e4.same (fin Ks)
  ·exact D1.e5.same (fin Ks)
end
def oI (ks:List Str)(x:Str):IW (.str x) (ks.map V.str)=ks.contains x:=by
 unfold IW;rw[QeJ,List.contains_eq_any_beq]
 congr 1
 funext y
 show HZ (.str y) (.str x)=(x==y)
 show(y==x)=(x==y)
 rw[Y9,beq_iff_eq,beq_iff_eq];exact eq_comm
def ki {H0 H:Hp}{p:Gc}{o:HO}(h:ar H0 H)(n:H0 p=none):ar H0 (upd H p o):=fun x u e=>by
 rw[au (aH e n)];exact h x u e
def mX {x:Str}{A B:Prop}(q:A):if decide (V.str x=V.str x)=true then A else B:=by
 rw[decide_eq_true rfl];exact bA q
def fP {x y:Str}{A B:Prop}(q:B)(h:(x==y)=false:=by decide +kernel):if decide (V.str x=V.str y)=true then A else B:=by
 rw[decide_eq_false (fun z=>by injection z with z;rw[z,beq_self_eq_true] at h;cases h)];exact bj q
def E9 {ks:List Str}{x:Str}{A B:Prop}(q:B)(h:ks.contains x=false:=by decide +kernel):if (if false=true then !IW (.str x) (ks.map V.str) else IW (.str x) (ks.map V.str))=true then A else B:=by
 rw[if_neg Jr,oI,h];exact bj q
def EK {ks:List Str}{x:Str}{A B:Prop}(q:A)(h:ks.contains x=true:=by decide +kernel):if (if false=true then !IW (.str x) (ks.map V.str) else IW (.str x) (ks.map V.str))=true then A else B:=by
 rw[if_neg Jr,oI,h];exact bA q
def dA {α:Type}{l:List α}{i:Nat}(h:i<l.length):l.take (i+1)=l.take i++[l[i]]:=by
 rw[List.take_succ,Jc h];rfl
def OO (K:Ja)(CF C:Gc):Sp:=fun vs H Q E=>Dx fun(lp:Gc) v1 v2 v3 v4 v5=>vY fun d1 d2 d3 d4 d5=>vs=[.ref lp]/\bg K H lp [v1,v2,v3,v4,v5]/\uR K H v1 v2 v3 v4 v5 d1 d2 d3 d4 d5 /\
 (md d1 d2 d3 d4 d5=none->∀m H',ar H H'->H m=none->jE K CF H' m d1 d2 d3 d4 d5->Q (.ref m) H') /\
 (∀y,md d1 d2 d3 d4 d5=some y->∀ex H',ar H H'->H' ex=some (.xd [("why",.str y)])->E (.ref C) (some ex) H')
def FJ (K:Ja)(CF:Gc):Sp:=fun vs H Q _=>Dx fun(lp:Gc) v1 v2 v3 v4 v5=>vY fun d1 d2 d3 d4 d5=>vs=[.ref lp]/\bg K H lp [v1,v2,v3,v4,v5]/\uR K H v1 v2 v3 v4 v5 d1 d2 d3 d4 d5/\md d1 d2 d3 d4 d5=none /\
 ∀m H',ar H H'->H m=none->jE K CF H' m d1 d2 d3 d4 d5->Q (.ref m) H'
def K8 {K:Ja}{CF C:Gc}{vs:List V}{H:Hp}{Q:VK}{E:XK}(h:FJ K CF vs H Q E):OO K CF C vs H Q (fun _ _ _=>False):=by
 obtain⟨lp,v1,v2,v3,v4,v5,d1,d2,d3,d4,d5,rfl,hl,D,hw,q⟩:=h;exact⟨lp,v1,v2,v3,v4,v5,d1,d2,d3,d4,d5,rfl,hl,D,fun _ m H' s n fo=>q m H' s n fo,fun y hy=>by rw[hw] at hy;cases hy⟩
section
variable {P:YZ}{w:Zb}{K:Ja}{mg:Str->Option Fk}{base:Heap}{f:Gc}{fd:Zc}{C CF cO c1 c2 c3 c4 c5 c6 c7 gi:Gc}{QA:Zc}
def wu:aG ["_law_parts_here"] ["_law_parts_here"] (ai (top kU)):=⟨rfl,rfl,rfl,∅,rfl,∅,∅⟩
def Pu (F:dM K "_law_form" "_law_form" (top kU) f fd)(T:Nm mg)(Hz:Mk K CF gi)(yg:mg "Form" = some (.ref CF))(tJ:aW P w K mg base (u4 P w base) 7 gi QA ["self", "kinds", "spots", "sizes", "near", "far"] (Oo K CF C))(tQ:Binds K QA ["self", "kinds", "spots", "sizes", "near", "far"] []):
  aW P w K mg base (u4 P w base) 9 f fd ["_law_parts_here"] (OO K CF C):=by
 refine F.R9 wu (fun vs H Q E h =>?_) (fun bS A outer s H vs Q E hr h =>?_)
 ·obtain⟨lp,v1,v2,v3,v4,v5,d1,d2,d3,d4,d5,rfl,_⟩:=h
  rfl
 obtain⟨lp,v1,v2,v3,v4,v5,d1,d2,d3,d4,d5,rfl,hl,D,qY,qN⟩:=h;have cK:=hr.units;refine⟨_,(ag (ao (zw Hz (tJ.mono (by first|decide|exact Je _)) (hr.mono (by first|decide|exact Je _)) rfl yg tQ .nil (Cj (E':=E) fun _ _ _ z=>z) (aa (aU (eG K) (pv 0) ah (fun _ _=>rfl)) (aa (aU (eG K) (pv 0) ah (fun _ _=>rfl)) (aa (aU (eG K) (pv 0) ah (fun _ _=>rfl)) (aa (aU (eG K) (pv 0) ah (fun _ _=>rfl)) (aa (aU (eG K) (pv 0) ah (fun _ _=>rfl)) ae)))))))),?_⟩;have ix:∀{i:Int} {v:V},([v1,v2,v3,v4,v5]:List V)[i.toNat]? = some v->True:=fun _=>trivial;refine⟨_,rfl,.inl ⟨lp,_,_,v1,rfl,rfl,hl,rfl,_,rfl,.inl ⟨lp,_,_,v2,rfl,rfl,hl,rfl,_,rfl,.inl ⟨lp,_,_,v3,rfl,rfl,hl,rfl,_,rfl,.inl ⟨lp,_,_,v4,rfl,rfl,hl,rfl,_,rfl,.inl ⟨lp,_,_,v5,rfl,rfl,hl,rfl,fun x dx hx hdx ne =>?_⟩⟩⟩⟩⟩⟩;refine⟨H,x,dx,v1,v2,v3,v4,v5,d1,d2,d3,d4,d5,rfl,(bE hdx _).trans (bE (by rw[au (Zx ne)];exact hx) _),hx,av,D,fun e H' s fo=>⟨rfl,qY e x H' s hx fo⟩,qN⟩
end
def ur (K:Ja)(n:Nat):Sp:=fun vs H Q _=>oG fun(v1 v2:V) (d:Za)=>vs=[v1,v2]/\Den K H d v1/\Den K H d v2/\d.depth<n/\d.weight<=1000000/\∀H',ar H H'->Q (.bl true) H'
section
variable {P:YZ}{w:Zb}{K:Ja}{mg:Str->Option Fk}{base:Heap}{f:Gc}{fd:Zc}
def wG:aG ["_law_found", "_law_due"] ["_law_found", "_law_due"] (ai (top lB)):=⟨rfl,rfl,rfl,∅,rfl,∅,∅⟩
def Hb {n:Nat}(F:dM K "_law_same" "_law_same" (top lB) f fd)(T:Nm mg)(lE:Fn P w K mg base n "_law_same" ["_law_found", "_law_due"] (ur K n)):aW P w K mg base dI (n+1) f fd ["_law_found", "_law_due"] (ur K (n+1)):=by
 refine F.ok wG (fun vs H Q E h =>?_) (fun bS A outer s H vs Q E hr h =>?_)
 ·obtain⟨v1,v2,d,rfl,_⟩:=h
  rfl
 obtain⟨v1,v2,d,rfl,d1,d2,hn,hw,q⟩:=h;have cK:=hr.units;refine⟨_,(af (aV (ax lY (pv 1) a9 (aE _)) (ag (ao (cT lY (pv 0) a9 (aE _)))) aB)
  (af (aV (cI (ak (jK K) rfl T.n_isinstance (by rfl) (aa (pv 1) (aa (bI rfl T.n_bool (by rfl) (v := .ty "bool") rfl) ae)))) (ag (ao (fY (ak (jK K) rfl T.n_isinstance (by rfl) (aa (pv 0) (aa (bI rfl T.n_bool (by rfl) (v := .ty "bool") rfl) ae))) (lr (cT (kW K cK) (pv 0) (pv 1) (aE _)))))) aB)
  (af (aV (cI (ak (Om K) rfl T.n_isinstance (by rfl) (aa (pv 1) (aa (bK (aa (bI rfl T.n_list (by rfl) (v := .ty "list") rfl) (aa (bI rfl T.n_tuple (by rfl) (v := .ty "tuple") rfl) ae))) ae)))) (af (aV (PW.pt (ju (ax (DE K cK) (ak (jK K) rfl T.n_isinstance (by rfl) (aa (pv 0) (aa (bI rfl T.n_list (by rfl) (v := .ty "list") rfl) ae))) (ak (jK K) rfl T.n_isinstance (by rfl) (aa (pv 1) (aa (bI rfl T.n_list (by rfl) (v := .ty "list") rfl) ae))) (aE _)) (hW (ax (DE K cK) (ak (jK K) rfl T.n_isinstance (by rfl) (aa (pv 0) (aa (bI rfl T.n_tuple (by rfl) (v := .ty "tuple") rfl) ae))) (ak (jK K) rfl T.n_isinstance (by rfl) (aa (pv 1) (aa (bI rfl T.n_tuple (by rfl) (v := .ty "tuple") rfl) ae))) (aE _))))) (ag (ao kE)) aB)
  (af (aV (ax (DE K cK) (ak (eE K) rfl T.n_len (by rfl) (aa (pv 0) ae)) (ak (eE K) rfl T.n_len (by rfl) (aa (pv 1) ae)) (aE _)) (ag (ao kE)) aB)
  (ag (ao (ak (Nr K rfl) rfl T.n_all (by rfl) (aa (fH rfl (cS (Nc:=["_law_one", "_law_other"]) (Fc:=[]) (js:=[])) (GC K rfl T.n_zip (aa (pv 0) (aa (pv 1) ae))) (nB (cP (bG (i:=0) (n:=2) ∅) (cP (bG (i:=1) (n:=2) ∅) kj bW dR) bW (iE bW dR))) (fun _ _ _ _ _=>(tupK K 2 rfl (aN (aI (i:=0) (rn ["_law_one", "_law_other"]) rfl (YY rfl)) (aN (aI (i:=1) (rn ["_law_one", "_law_other"]) rfl (YY rfl)) bH)))) (fun _ _ _ _ _=>dU) (fun _ _ _ _ _=>(aA (lE.mono (by first|decide|exact Je _|lia)) hr rfl (aa (pv 0) (aa (pv 1) ae))))) ae)))))) aB)
  (af (aV (cI (ak (jK K) rfl T.n_isinstance (by rfl) (aa (pv 1) (aa (bI rfl T.n_str (by rfl) (v := .ty "str") rfl) ae)))) (ag (ao (fY (ak (jK K) rfl T.n_isinstance (by rfl) (aa (pv 0) (aa (bI rfl T.n_str (by rfl) (v := .ty "str") rfl) ae))) (lr (cT (kW K cK) (pv 0) (pv 1) (aE _)))))) aB)
  (ag (ao (fY (ak (jK K) rfl T.n_isinstance (by rfl) (aa (pv 0) (aa (bI rfl T.n_int (by rfl) (v := .ty "int") rfl) ae))) (fY (Du (ak (jK K) rfl T.n_isinstance (by rfl) (aa (pv 0) (aa (bI rfl T.n_bool (by rfl) (v := .ty "bool") rfl) ae)))) (lr (cT (kW K cK) (pv 0) (pv 1) (aE _))))))))))),?_⟩
 cases d with
 | none=>
  have DX:=d1;have DB:=d2;unfold Den at DX DB;subst DX DB;exact⟨_,rfl,.inl ⟨rfl,_,rfl,bA ⟨_,rfl,.inl ⟨rfl,q H (ar.refl _)⟩⟩⟩⟩
 | bool b=>
  have DX:=d1;have DB:=d2;unfold Den at DX DB;subst DX DB;refine⟨_,rfl,.inl ⟨rfl,_,rfl,bj ?_⟩⟩;refine⟨_,rfl,.inl ⟨_, "bool",.bool b,true,rfl,d2,rfl,_,rfl,bA ?_⟩⟩;refine⟨_,rfl,.inl ⟨_, "bool",.bool b,true,rfl,d1,rfl,_,rfl,bA ⟨_,rfl,_,rfl,.inl ⟨rfl,?_⟩⟩⟩⟩;rw[decide_eq_true rfl];exact q H (ar.refl _)
 | int i=>
  have DX:=d1;have DB:=d2;unfold Den at DX DB;subst DX DB;refine⟨_,rfl,.inl ⟨rfl,_,rfl,bj ?_⟩⟩;refine⟨_,rfl,.inl ⟨_, "bool",.int i,false,rfl,d2,rfl,_,rfl,bj ?_⟩⟩;refine⟨_,rfl,by show 2<=KE;decide,fun p H1 n1=>⟨_,p,["list", "tuple"],.int i,false,rfl,n1.at,d2,rfl,_,rfl,bj ?_⟩⟩;refine⟨_,rfl,.inl ⟨_, "str",.int i,false,rfl,d2,rfl,_,rfl,bj ?_⟩⟩;refine⟨_,rfl,.inl ⟨_, "int",.int i,true,rfl,d1,rfl,_,rfl,bA ⟨_,rfl,.inl ⟨_, "bool",.int i,false,rfl,d1,rfl,_,rfl,_,rfl,bA ⟨_,rfl,_,rfl,.inl ⟨rfl,?_⟩⟩⟩⟩⟩⟩;rw[decide_eq_true rfl];exact q H1 n1.same
 | str x=>
  have DX:=d1;have DB:=d2;unfold Den at DX DB;subst DX DB;refine⟨_,rfl,.inl ⟨rfl,_,rfl,bj ?_⟩⟩;refine⟨_,rfl,.inl ⟨_, "bool",.str x,false,rfl,d2,rfl,_,rfl,bj ?_⟩⟩;refine⟨_,rfl,by show 2<=KE;decide,fun p H1 n1=>⟨_,p,["list", "tuple"],.str x,false,rfl,n1.at,d2,rfl,_,rfl,bj ?_⟩⟩;refine⟨_,rfl,.inl ⟨_, "str",.str x,true,rfl,d2,rfl,_,rfl,bA ?_⟩⟩;refine⟨_,rfl,.inl ⟨_, "str",.str x,true,rfl,d1,rfl,_,rfl,bA ⟨_,rfl,_,rfl,.inl ⟨rfl,?_⟩⟩⟩⟩;rw[decide_eq_true rfl];exact q H1 n1.same
 | list ds=>
  have e1:=d1;have e2:=d2;unfold Den at e1 e2;obtain⟨a1,vs1,rfl,s1,ds1⟩:=e1;obtain⟨a2,vs2,rfl,s2,ds2⟩:=e2;simp only[Qap] at hn;simp only[ZB] at hw;have Wz:=jb ds;refine⟨_,rfl,.inl ⟨rfl,_,rfl,bj ?_⟩⟩;refine⟨_,rfl,.inl ⟨_, "bool",.list ds,false,rfl,d2,rfl,_,rfl,bj ?_⟩⟩;refine⟨_,rfl,by show 2<=KE;decide,fun p H1 n1=>⟨_,p,["list", "tuple"],.list ds,true,rfl,n1.at,d2.same n1.same,rfl,_,rfl,bA ?_⟩⟩;have b1:=d1.same n1.same;have b2:=d2.same n1.same;refine⟨_,rfl,.inl ⟨_, "list",.list ds,true,rfl,b1,rfl,_,rfl,.inl ⟨_, "list",.list ds,true,rfl,b2,rfl,.inl ⟨rfl,_,rfl,bj ?_⟩⟩⟩⟩;refine⟨_,rfl,.inl ⟨_, "tuple",.list ds,false,rfl,b1,rfl,_,rfl,.inl ⟨_, "tuple",.list ds,false,rfl,b2,rfl,.inl ⟨rfl,_,rfl,bj ?_⟩⟩⟩⟩;refine⟨_,rfl,_,_,rfl,.inl ⟨vs1,n1.same.seq s1,rfl⟩,_,rfl,_,_,rfl,.inl ⟨vs2,n1.same.seq s2,rfl⟩,.inl ⟨rfl,_,rfl,?_⟩⟩;rw[decide_eq_true (show V.int (vs1.length:Nat)=V.int (vs2.length:Nat) by rw[ds1.len,ds2.len])];refine bj ?_;refine⟨_,rfl,_,rfl,false,false,a1,a2,rfl,⟨_,n1.same.seq s1⟩,⟨_,n1.same.seq s2⟩,?_⟩;refine dS (N:=ds.length) (fun i ys H'=>ar H1 H'/\ys=(Jp i true).map V.bl) ⟨ar.refl _,rfl⟩ ?_ ?_
  ·rintro i ys H2 Nx hi ⟨sm,rfl⟩ nx;have jz:=n1.same.trans sm;obtain⟨x,hx,dx⟩:=ds1.get (i:=i) (d:=ds[i]) (Jc hi);obtain⟨y,hy,dy⟩:=ds2.get (i:=i) (d:=ds[i]) (Jc hi);have q1:uH false K H2 a1 vs1:=jz.seq s1;have q2:uH false K H2 a2 vs2:=jz.seq s2;refine⟨⟨_,_,_,_,q1,q2,hx,hy⟩,by rw[Jd,Ut];exact Jw (show i<10000000 by lia) ∅,?_⟩;rintro x' H3 ⟨T',rfl,hN⟩;have n3:=hN _ _ _ _ q1 q2 hx hy;refine⟨T',_,rfl,aY.of n3.at,rfl,_,_,rfl,_,_,rfl,rfl,?_⟩;have JX:=jz.trans n3.same;refine⟨_,rfl,_,rfl,x,y,ds[i],rfl,dx.same JX,dy.same JX,?_,?_,fun H4 rH=>nx _ _ ⟨sm.trans (n3.same.trans rH),?_⟩⟩
   ·have:=pj (n:=n-1) ⋯ (Ug hi);lia
   ·exact iB hw (Ug hi)
   ·rw[Qfg,J0];rfl
  ·rintro ys H2 ⟨sm,rfl⟩;have jz:=n1.same.trans sm;have q1:uH false K H2 a1 vs1:=jz.seq s1;have q2:uH false K H2 a2 vs2:=jz.seq s2;refine⟨⟨_,_,q1,q2,.inl (by rw[ds1.len];exact Je _)⟩,fun p2 FN =>?_⟩;refine⟨p2,Jp ds.length true,rfl,bg.of av,?_⟩;rw[all_true];exact q _ (jz.trans (bE FN _))
 | tuple ds=>
  have e1:=d1;have e2:=d2;unfold Den at e1 e2;obtain⟨a1,vs1,rfl,s1,ds1⟩:=e1;obtain⟨a2,vs2,rfl,s2,ds2⟩:=e2;simp only[Qap] at hn;simp only[ZB] at hw;have Wz:=jb ds;refine⟨_,rfl,.inl ⟨rfl,_,rfl,bj ?_⟩⟩;refine⟨_,rfl,.inl ⟨_, "bool",.tuple ds,false,rfl,d2,rfl,_,rfl,bj ?_⟩⟩;refine⟨_,rfl,by show 2<=KE;decide,fun p H1 n1=>⟨_,p,["list", "tuple"],.tuple ds,true,rfl,n1.at,d2.same n1.same,rfl,_,rfl,bA ?_⟩⟩;have b1:=d1.same n1.same;have b2:=d2.same n1.same;refine⟨_,rfl,.inl ⟨_, "list",.tuple ds,false,rfl,b1,rfl,_,rfl,.inl ⟨_, "list",.tuple ds,false,rfl,b2,rfl,.inl ⟨rfl,_,rfl,bj ?_⟩⟩⟩⟩;refine⟨_,rfl,.inl ⟨_, "tuple",.tuple ds,true,rfl,b1,rfl,_,rfl,.inl ⟨_, "tuple",.tuple ds,true,rfl,b2,rfl,.inl ⟨rfl,_,rfl,bj ?_⟩⟩⟩⟩;refine⟨_,rfl,_,_,rfl,.inr ⟨vs1,n1.same.bO s1,rfl⟩,_,rfl,_,_,rfl,.inr ⟨vs2,n1.same.bO s2,rfl⟩,.inl ⟨rfl,_,rfl,?_⟩⟩;rw[decide_eq_true (show V.int (vs1.length:Nat)=V.int (vs2.length:Nat) by rw[ds1.len,ds2.len])];refine bj ?_;refine⟨_,rfl,_,rfl,true,true,a1,a2,rfl,⟨_,n1.same.bO s1⟩,⟨_,n1.same.bO s2⟩,?_⟩;refine dS (N:=ds.length) (fun i ys H'=>ar H1 H'/\ys=(Jp i true).map V.bl) ⟨ar.refl _,rfl⟩ ?_ ?_
  ·rintro i ys H2 Nx hi ⟨sm,rfl⟩ nx;have jz:=n1.same.trans sm;obtain⟨x,hx,dx⟩:=ds1.get (i:=i) (d:=ds[i]) (Jc hi);obtain⟨y,hy,dy⟩:=ds2.get (i:=i) (d:=ds[i]) (Jc hi);have q1:uH true K H2 a1 vs1:=jz.bO s1;have q2:uH true K H2 a2 vs2:=jz.bO s2;refine⟨⟨_,_,_,_,q1,q2,hx,hy⟩,by rw[Jd,Ut];exact Jw (show i<10000000 by lia) ∅,?_⟩;rintro x' H3 ⟨T',rfl,hN⟩;have n3:=hN _ _ _ _ q1 q2 hx hy;refine⟨T',_,rfl,aY.of n3.at,rfl,_,_,rfl,_,_,rfl,rfl,?_⟩;have JX:=jz.trans n3.same;refine⟨_,rfl,_,rfl,x,y,ds[i],rfl,dx.same JX,dy.same JX,?_,?_,fun H4 rH=>nx _ _ ⟨sm.trans (n3.same.trans rH),?_⟩⟩
   ·have:=pj (n:=n-1) ⋯ (Ug hi);lia
   ·exact iB hw (Ug hi)
   ·rw[Qfg,J0];rfl
  ·rintro ys H2 ⟨sm,rfl⟩;have jz:=n1.same.trans sm;have q1:uH true K H2 a1 vs1:=jz.bO s1;have q2:uH true K H2 a2 vs2:=jz.bO s2;refine⟨⟨_,_,q1,q2,.inl (by rw[ds1.len];exact Je _)⟩,fun p2 FN =>?_⟩;refine⟨p2,Jp ds.length true,rfl,bg.of av,?_⟩;rw[all_true];exact q _ (jz.trans (bE FN _))
 | dict _=>unfold Den at d1;exact d1.elim
end
def JB {x:Str}{j:Int}(h0:0<=j)(h1:j<=x.length):sg (Zi x none (some j))=(sg x).take j.toNat:=by
 have e:=PyProof.Rows.slice_closes_to (x:=x) (j:=j) ⟨h0,by rw[<-str_len];exact h1⟩;rw[eq_of_beq e];simp
def split_not {g:Nat->Bool}:∀(l:List Nat),l.all g=false->∃p c r,l=p++c::r/\(∀a∈p,g a=true)/\g c=false
 | [],h=>by cases h
 | a::l,h=>by
  cases ha:g a with
  | false=>exact⟨[],a,l,rfl,(fun _ z=>nomatch z),ha⟩
  | true=>
   rw[QaW,ha,Yg] at h;obtain⟨p,c,r,rfl,hp,hc⟩:=split_not l h;refine⟨a::p,c,r,rfl,fun x hx =>?_,hc⟩
   rcases Jq.mp hx with rfl|hx
   ·exact ha
   ·exact hp x hx
def iY (x y:Str):fR x y=x.cps.toList.all y.cps.contains:=by
 unfold fR Qed;rw[PyProof.Rows.stripBy_eq];generalize y.cps.contains=g;unfold stripHi stripLo;simp only[if_true];have sub:∀i j:Nat,decide (V.str (Qcq x i j)=V.str (W1 ""))=decide (min j x.length<=i):=fun i j=>by
  congr 1
  refine propext ⟨fun h =>?_,fun h =>?_⟩
  ·injection h with h
   have h:=congrArg (fun s:Str=>s.cps.size) h;have e0:(W1 "").cps.size=0:=rfl;simp only[Qcq,Array.size_extract,e0] at h;have:x.cps.size=x.length:=rfl;lia
  ·congr 1
   unfold Qcq;have e:x.cps.extract i j = #[]:=by
    apply Qdh;rw[Array.size_extract];have:x.cps.size=x.length:=rfl;lia
   rw[e]
   rfl
 rw[sub];have hlen:x.length=x.cps.toList.length:=by simp[Str.length]
 rw[hlen];generalize x.cps.toList=l
 by_cases h:l.all g=true
 ·rw[h];have e:l.takeWhile g=l:=by
   clear sub hlen
   induction l with
   | nil=>rfl
   | cons a l ih=>
    rw[QaW,Js] at h;rw[QcK,if_pos h.1,ih h.2]
  rw[e];exact decide_eq_true ⋯
 ·have hf:l.all g=false:=by simpa using h
  rw[hf];apply decide_eq_false;intro z;obtain⟨p,c,r,rfl,hp,hc⟩:=split_not l hf;have e:(p++c::r).takeWhile g=p:=by
   clear z hlen sub h hf
   induction p with
   | nil=>rw[List.nil_append,QcK,hc];rfl
   | cons a p ih=>
    rw[Qdn,QcK,if_pos (hp a Jm),ih fun x hx=>hp x (Jj _ hx)]
  have ed:(p++c::r).drop p.length=c::r:=List.drop_left;rw[e,ed] at z;have hl:(p++c::r).length=p.length+(r.length+1):=by rw[Jt,Jn]
  have tl:((c::r).reverse.takeWhile g).length<=r.length:=by
   rw[List.reverse_cons];have:((r.reverse++[c]).takeWhile g).length<=r.reverse.length:=by
    rw[List.takeWhile_append]
    split
    ·rw[Jt];have e:[c].takeWhile g=[]:=by simp[List.takeWhile,hc]
     rw[e];simp
    ·exact(List.takeWhile_prefix g).length_le
   rw[List.length_reverse] at this;exact this
  lia
def oB {α:Type}[DecidableEq α]{f:Nat -> α}{k: α}:∀{i:Nat},k∈bV f i ↔ ∃j,j<i/\f j=k
 | 0=>by simp[bV]
 | i+1=>by
  unfold bV oneMore;have ih:=oB (f:=f) (k:=k) (i:=i)
  by_cases h:f i∈bV f i
  ·rw[if_pos h,ih];constructor
   ·rintro⟨j,hj,e⟩;exact⟨j,⋯,e⟩
   ·rintro⟨j,hj,e⟩
    by_cases hji:j=i
    ·subst hji;obtain⟨m,hm,em⟩:=(oB (f:=f) (k:=f j) (i:=j)).mp h;exact⟨m,hm,em.trans e⟩
    ·exact⟨j,⋯,e⟩
  ·rw[if_neg h,Ub,ih,Ju];constructor
   ·rintro(⟨j,hj,e⟩|e)
    ·exact⟨j,⋯,e⟩
    ·exact⟨i,⋯,e.symm⟩
   ·rintro⟨j,hj,e⟩
    by_cases hji:j=i
    ·subst hji;exact .inr e.symm
    ·exact .inl ⟨j,⋯,e⟩
def u3 {α:Type}[DecidableEq α]{f:Nat -> α}:∀{i:Nat},(bV f i).length=i ↔ ∀a b,a<b->b<i->f a≠f b
 | 0=>⟨fun _ a b _ h=>absurd h (Wb _),fun _=>rfl⟩
 | i+1=>by
  have ih:=u3 (f:=f) (i:=i);have le:=lG f i;unfold bV oneMore
  by_cases h:f i∈bV f i
  ·rw[if_pos h];refine⟨fun z=>⋯,fun z =>?_⟩;obtain⟨j,hj,e⟩:=oB.mp h;exact absurd e (z j i hj ⋯)
  ·rw[if_neg h,Jt,Qcr];constructor
   ·intro z a b rX hb e
    by_cases hbi:b=i
    ·subst hbi;exact h (oB.mpr ⟨a,rX,e⟩)
    ·exact ih.mp ⋯ a b rX ⋯ e
   ·intro z;have:=ih.mpr fun a b rX hb=>z a b rX ⋯;lia
def CN {l:List Str}:(bV (fun i=>l.getD i Zt) l.length).length=l.length↔l.Nodup:=by
 rw[u3,List.nodup_iff_pairwise_ne,Uo];constructor
 ·intro h i j hi hj vo e;refine h i j vo hj ?_;simp only[Ys,Jc hi,Jc hj];exact e
 ·intro h a b rX hb e;refine h a b ⋯ hb rX ?_;simpa only [Ys,Jc hb,Jc (show a<l.length by lia),Option.getD_some] using e
def Ie:Za->Bool
 | .tuple [.str _,.str y]=>cJ (.str y)
 | _=>false
def Gg {d:Za}(h:Ie d=true):∃x y,d = .tuple [.str x,.str y]/\cJ (.str y)=true:=by
 unfold Ie at h
 split at h
 ·exact⟨_,_,rfl,h⟩
 ·cases h
def pZ:∀{ds:List Za},(∀x∈ds,Ie x=true)->ds=(cQ (.list ds)).map fun q=>Qbp [.str q.1,.str q.2]
 | [],_=>rfl
 | d::ds,h=>by
  obtain⟨x,y,rfl,_⟩:=Gg (h d Jm);have ih:=pZ fun x hx=>h x (Jj _ hx);show Qbp [.str x,.str y]::ds=Qbp [.str x,.str y]::(cQ (.list ds)).map fun q=>Qbp [.str q.1,.str q.2];rw[<-ih]
def LU {ns:List Str}{d:Za}{ds:List Za}(e:iA d = .list ds)(h:∀x∈ds,Ie x=true)(nn:ns≠[])(nd:ns.Nodup)(nv:∀x∈ns,dW (.str x)=true):
  cU ns d=(decide (((cQ (.list ds)).map (·.1)).Perm ns)&&wx (cQ (.list ds))):=by
 unfold cU;rw[e]
 by_cases hp:((cQ (.list ds)).map (·.1)).Perm ns
 ·rw[decide_eq_true hp,Yg];have hb:dn (.list ds)=true:=by
   show(!ds.isEmpty&&(ds.all bB&&decide ((bV (fun i=>(ds.map gJ).getD i Zt) ds.length).length=ds.length)))=true;have en:ds.map gJ=(cQ (.list ds)).map (·.1):=by
    have e2:=congrArg (List.map gJ) (pZ h);rw[Ym] at e2;exact e2
   rw[Js,Js,U1];refine⟨?_,fun x hx =>?_,decide_eq_true ?_⟩
   ·cases ds with
    | nil=>exact absurd hp.symm.eq_nil nn
    | cons _ _=>rfl
   ·have mQ:=hx;rw[pZ h] at mQ;obtain⟨q,hq,rfl⟩:=Ux.mp mQ;have h1:=nv q.1 (hp.mem_iff.mp (Ui hq));have h2:cJ (.str q.2)=true:=h _ hx;show(dW (.str q.1)&&cJ (.str q.2))=true;rw[h1,h2];rfl
   ·have:=CN (l:=ds.map gJ);rw[Jd] at this;exact this.mpr (by rw[en];exact hp.nodup_iff.mpr nd)
  rw[hb,Yg]
 ·rw[decide_eq_false hp,Yz,Bool.and_false]
def zA (x:Str):decide (V.str x=V.str (W1 ""))=decide (x.length=0):=by
 congr 1
 refine propext ⟨fun h =>?_,fun h =>?_⟩
 ·injection h with h
  rw[h];rfl
 ·congr 1
  cases x with
  | mk c=>
   have:c = #[]:=Qdh h;rw[this];rfl
structure P1 (ns:List Str):Prop where
 l:ns.length<64
 nn:ns≠[]
 nd:ns.Nodup
 az:∀x∈ns,kH x=true
 ok:∀x∈ns,dW (.str x)=true
def pB (ws:List Str):Sp:=fun vs H Q _=>vs=[]/\∀p H',jg H p (.lst (ws.map V.str)) H'->Q (.ref p) H'
def PU:P1 aD:=⟨∅,∅,∅,∅,∅⟩
def Ku:P1 bJ:=⟨∅,∅,∅,∅,∅⟩
def KP:P1 aO:=⟨∅,∅,∅,∅,∅⟩
section
variable {P:YZ}{w:Zb}{K:Ja}{mg:Str->Option Fk}{base:Heap}{f:Gc}{fd:Zc}
def tP:aG [] [] (ai (top jP)):=⟨rfl,rfl,rfl,∅,rfl,∅,∅⟩
def E1 (F:dM K "_law_kinds" "_law_kinds" (top jP) f fd)(T:Nm mg):aW P w K mg base dI 1 f fd [] (pB aD):=by
 refine F.ok tP (fun vs H Q E h =>?_) (fun bS A outer s H vs Q E hr h =>?_)
 ·obtain⟨rfl,_⟩:=h
  rfl
 obtain⟨rfl,q⟩:=h;refine⟨_,(ag (ao (uN K Zz Qb1 Qb0 y2 aq (aa aq ae)))),?_⟩;have IQ:Qa2 (W1 "set add take tell ask jump zero stop farjump farzero skip") (W1 " ")=aD:=∅;have sl:(W1 " ").length≠0:=∅;refine⟨rfl,_,_,rfl,rfl,sl,∅,by rw[IQ];decide,fun p H7 n7 =>?_⟩;rw[IQ] at n7;exact q p H7 n7
def uk:aG [] [] (ai (top jS)):=⟨rfl,rfl,rfl,∅,rfl,∅,∅⟩
def E3 (F:dM K "_law_sizes" "_law_sizes" (top jS) f fd)(T:Nm mg):aW P w K mg base dI 1 f fd [] (pB aO):=by
 refine F.ok uk (fun vs H Q E h =>?_) (fun bS A outer s H vs Q E hr h =>?_)
 ·obtain⟨rfl,_⟩:=h
  rfl
 obtain⟨rfl,q⟩:=h;refine⟨_,(ag (ao (uN K Zz Qb1 Qb0 y2 aq (aa aq ae)))),?_⟩;have IQ:Qa2 (W1 "none one two three four five six seven eight") (W1 " ")=aO:=∅;have sl:(W1 " ").length≠0:=∅;refine⟨rfl,_,_,rfl,rfl,sl,∅,by rw[IQ];decide,fun p H7 n7 =>?_⟩;rw[IQ] at n7;exact q p H7 n7
end
structure Mx (K:Ja)(G:Hp)(zs:List (Za×V)):Prop where
 wQ:zs.length<=64
 d:∀z∈zs,Den K G z.1 z.2
 sh:∀z∈zs,Sh 2 z.1
def fh {α:Type}:∀{l:List α} {k:Nat} {z: α},l[k]? = some z->(z::l.eraseIdx k).Perm l
 | [],_,_,h=>by cases h
 | x::l,0,z,h=>by
  cases h;exact U7.refl _
 | x::l,k+1,z,h=>by
  have ih:=fh (l:=l) (k:=k) (z:=z) h;exact(U7.swap x z _).trans (ih.cons x)
def Fv (K:Ja):Sp:=fun vs H Q _=>Dx fun(b c p:Gc) (t:Int) (G:Hp) (zs:List (Za×V))=>vs=[.ref b,.ref p]/\Bx H b c t/\0<=t/\t<50000000/\ar G (ig H b c)/\(bg K H p (zs.map (·.2))\/aY K H p (zs.map (·.2)))/\Mx K G zs /\
 ∀(l:Gc) (Cq:List (Za×V)) (H':Hp) (t':Int),Cq.Perm zs->H l=none->H' l=some (.lst (Cq.map (·.2)))->Step b c H H' t t' 64->Q (.ref l) H'
section
variable {P:YZ}{w:Zb}{K:Ja}{mg:Str->Option Fk}{base:Heap}{f:Gc}{fd:Zc}
def jk:aG ["_law_state", "_law_some", "_law_rest", "_law_found"] ["_law_state", "_law_some"] (ai (top jI)):=⟨rfl,rfl,rfl,∅,rfl,∅,∅⟩
def Dg (F:dM K "_law_mixed" "_law_mixed" (top jI) f fd)(T:Nm mg)(aM:Fn P w K mg base 1 "_law_take" ["_law_state", "_law_many"] vR):aW P w K mg base dI 2 f fd ["_law_state", "_law_some"] (Fv K):=by
 refine F.ok jk (fun vs H Q E h =>?_) (fun bS A outer s H vs Q E hr h =>?_)
 ·obtain⟨b,c,p,t,G,zs,rfl,_⟩:=h
  rfl
 obtain⟨b,c,p,t,G,zs,rfl,bx,t0,t1,hG,hs,M,q⟩:=h;have cK:=hr.units;refine⟨_,(af (ay (i:=2) jk.nd rfl (YY rfl) (aX (Fw K) rfl T.n_list (by rfl) (aa (pv 1) ae)))
  (af (ay (i:=3) jk.nd rfl (YY rfl) (gE ae))
  (af (pT Zw (ax (DE K cK) (pv 2) (gE ae) (aE _)) (ag (tG (uN K ZQ QdM QdL Ae (pv 3) (aa (uN K ZQ PySem.F.slot_list_pop PySem.F.type_list_pop Ms (pv 2) (aa (aA (aM.mono ∅) hr rfl (aa (pv 0) (aa (ak (eE K) rfl T.n_len (by rfl) (aa (pv 2) ae)) ae))) ae)) ae)))))
  (ag (ao (pv 3)))))),?_⟩
 refine⟨_,rfl,p,_,rfl,hs,fun p1 H1 n1=>gn ⟨by show 0<=KE;decide,fun p2 H2 n2=>gn ?_⟩⟩;dsimp only;have Ft:=n1.nn;have FN:H p2=none:=n1.back n2.nn;have Vo:p2≠p1:=fun z=>by have:=n2.nn;rw[z,n1.at] at this;cases this
 obtain⟨b1,c1⟩:=bx.aR Ft;obtain⟨b2,c2⟩:=bx.aR FN;have fB:Step b c H H2 t t 0:=Step.same bx (n1.same.trans n2.same);have zl:=M.wQ;refine fk (t:=pC _ _) (fun σ H'=>∃(fs:List (Za×V)) (t':Int),σ=[some (.ref b),some (.ref p),some (.ref p1),some (.ref p2)]/\fs.Perm zs/\Step b c H H' t t' 64/\H' p2=some (.lst (fs.map (·.2)))) (fun Nx nx =>?_) ?_
 ·refine uy (fun m σ H'=>∃(rs fs:List (Za×V)) (t':Int),m=rs.length /\ σ=[some (.ref b),some (.ref p),some (.ref p1),some (.ref p2)]/\(rs++fs).Perm zs/\Step b c H H' t t' (64-rs.length)/\H' p1=some (.lst (rs.map (·.2)))/\H' p2=some (.lst (fs.map (·.2)))) ⟨_,zs,[],t,rfl,rfl,by rw[Uu],fB.more ⋯,n2.same _ _ n1.at,n2.at⟩ ?_;rintro m σ H3 ⟨rs,fs,t3,rfl,rfl,pm,dZ,hr3,hf3⟩;have QP:=dZ.ub;have Qz:=dZ.le;have rl:=pm.length_eq;rw[Jt] at rl;have G3:ar G H3:=fun a o e=>(kQ (dZ.sm _ _ (hG _ _ e))).1;have mem:∀z∈rs,z∈zs:=fun z hz=>pm.mem_iff.mp (Us _ hz);refine⟨_,rfl,by show 0<=KE;decide,fun pe H4 n4 =>.inr ⟨.list (rs.map (·.1)),.list [],Den.list (bg.of (n4.same _ _ hr3)) (a8.of_get (by rw[Jd,Jd]) fun j d v hd hv =>?_),Den.list (bg.of n4.at) (Den.strs []),(Sh.list (n:=2) fun d hd =>?_).shaped ∅,∅,_,rfl,?_⟩⟩
  ·rw[Jk] at hd hv;cases e:rs[j]? with
   | none=>rw[e] at hd;cases hd
   | some z=>
    rw[e] at hd hv;cases hd;cases hv;exact(M.d z (mem z (Jy e))).same (G3.trans n4.same)
  ·obtain⟨z,hz,rfl⟩:=Ux.mp hd;exact M.sh z (mem z hz)
  rw[Aj];have eY:=dZ.dN n4;have RH:=n4.same _ _ hr3;have Sf:=n4.same _ _ hf3;cases rs with
  | nil=>exact bj (nx _ _ ⟨fs,t3,rfl,pm,eY.more (by simp),Sf⟩)
  | cons r0 rs0=>
   generalize hrs:r0::rs0=rs at *;have pos:1<=rs.length:=by rw[<-hrs];exact We (Uq _)
   have em:(rs.map (·.1)).isEmpty=false:=by rw[<-hrs];rfl
   rw[em];refine bA ⟨fun σ' H'=>∃m',m'<rs.length/\_,fun _ _ h=>h,?_⟩;have small:∀{n:Nat},n<=10000->n<KE:=fun h=>J7 h ∅;have vl:(rs.map (·.2)).length=rs.length:=Jd _;refine⟨_,rfl,.inl ⟨rfl,_,bg.of Sf⟩,_,rfl,.inl ⟨rfl,_,bg.of RH⟩,_,rfl,_,rfl,_,_,rfl,.inl ⟨_,bg.of RH,rfl⟩,b,c,t3,_,rfl,eY.bx,⋯,⋯,⋯,⋯,fun a H5 a0 a1 cu =>?_⟩;have W0:=cu.old RH b1 c1;have Wn:=cu.old Sf b2 c2;have cu:=eY.trans cu;obtain⟨z,hz⟩:∃z,rs[a.toNat]? = some z:=⟨_,Jc ⋯⟩
   refine⟨p1,_,a,z.2,rfl,rfl,W0,a0,⋯,by rw[Jk,hz];rfl,fun H6 c6 =>?_⟩;have Vv:H6 p2=some (.lst (fs.map (·.2))):=by rw[c6.ne Vo];exact Wn
   refine⟨p2,_,_,rfl,rfl,Vv,small (by rw[Jd];lia),fun H7 c7 =>?_⟩;have le:(rs.eraseIdx a.toNat).length=rs.length-1:=List.length_eraseIdx_of_lt ⋯;refine⟨(rs.eraseIdx a.toNat).length,⋯,rs.eraseIdx a.toNat,fs++[z],t3+1,rfl,rfl,?_,((cu.EI c6 Ft b1 c1).EI c7 FN b2 c2).more ⋯,?_,?_⟩
   ·refine U7.trans ?_ pm;have h1:=fh hz;refine U7.trans ?_ (h1.append_right fs);rw[<-Y4];exact List.perm_append_singleton z _
   ·rw[c7.ne Vo.symm,c6.at]
    congr 2
    rw[Yv,Yv,J0,List.map_take,List.map_drop]
   ·rw[c7.at,J0];rfl
 rintro σ H3 ⟨fs,t3,rfl,pm,dZ,hf3⟩;exact⟨_,rfl,q p2 fs H3 t3 pm FN hf3 dZ⟩
end
def Mm (most:Nat)(cs:List Str):Nat:=(cs.map fun x=>2^(most-x.length)).sum
structure Cs (most:Nat)(cs:List Str):Prop where
 free:fX cs
 bin:∀x∈cs,dJ x
 le:∀x∈cs,x.length<=most
 full:Mm most cs=2^most
def GB {most:Nat}{cs ds:List Str}(h:cs.Perm ds):Mm most cs=Mm most ds:=(h.map _).sum_nat
def Cs.one {most:Nat}:Cs most [Zt]:=⟨Qa0 _ _,fun x hx=>by rw[Ju.mp hx];exact fun c hc=>by simp[Zt] at hc,fun x hx=>by rw[Ju.mp hx];exact Uq _,by unfold Mm;rw[Jz,Qcg,Yq,List.sum_nil];show 2^(most-0)+0=2^most;rw[Nat.sub_zero,Nat.add_zero]⟩
def u7 {most:Nat}:∀{cs:List Str},(∀x∈cs,most<=x.length)->Mm most cs=cs.length
 | [],_=>rfl
 | x::cs,h=>by
  have ih:=u7 (cs:=cs) fun y hy=>h y (Jj _ hy);unfold Mm at ih ⊢;rw[Jz,Yq,ih,show most-x.length=0 from Nat.sub_eq_zero_of_le (h x Jm),Jn];lia
def Cs.short {most:Nat}{cs:List Str}(h:Cs most cs)(hl:cs.length<2^most):∃x∈cs,x.length<most:=by
 apply Qdo
 intro n;have:=u7 (most:=most) (cs:=cs) fun x hx=>Nat.le_of_not_lt fun z=>n ⟨x,hx,z⟩;rw[h.full] at this;lia
def o8 (y z:Str):(y++z).length=y.length+z.length:=by
 show(y.cps++z.cps).size=_;rw[Array.size_append];rfl
def Cs.part {most:Nat}{cs:List Str}{y:Str}(h:Cs most cs)(hy:y∈cs)(hl:y.length<most):Cs most (cs.erase y++[y++s0,y++s1]):=by
 have pm:cs.Perm (y::cs.erase y):=Qfh hy;have l0:(y++s0).length=y.length+1:=o8 _ _;have l1:(y++s1).length=y.length+1:=o8 _ _;have sub:∀x∈cs.erase y,x∈cs:=fun x hx=>List.mem_of_mem_erase hx;refine⟨?_,fun x hx =>?_,fun x hx =>?_,?_⟩
 ·have:=fX.split (A:=[]) (B:=cs.erase y) (x:=y) (h.free.perm pm);exact this.perm List.perm_append_comm
 ·rcases Ub.mp hx with hx|hx
  ·exact h.bin x (sub x hx)
  ·have hb:=h.bin y hy;simp only[Jq,Uk,or_false] at hx
   rcases hx with rfl|rfl
   ·intro c hc;rw[show(y++s0).cps.toList=y.cps.toList++[48] from aK y s0] at hc
    rcases Ub.mp hc with hc|hc
    ·exact hb c hc
    ·exact .inl (Ju.mp hc)
   ·intro c hc;rw[show(y++s1).cps.toList=y.cps.toList++[49] from aK y s1] at hc
    rcases Ub.mp hc with hc|hc
    ·exact hb c hc
    ·exact .inr (Ju.mp hc)
 ·rcases Ub.mp hx with hx|hx
  ·exact h.le x (sub x hx)
  ·simp only[Jq,Uk,or_false] at hx
   rcases hx with rfl|rfl<;>lia
 ·have e:=h.full;rw[GB pm] at e;unfold Mm at e ⊢;rw[Jz,Yq] at e;rw[J0,List.sum_append,Jz,Jz,Qcg,Yq,Yq,List.sum_nil,l0,l1];have:2^(most-y.length)=2^(most-(y.length+1))+2^(most-(y.length+1)):=by
   rw[show most-y.length=(most-(y.length+1))+1 by lia,Qcp];lia
  lia
def fX.longer {fs gs:List Str}(h:fX fs)(hl:gs.length=fs.length)(he:∀(j:Nat) y,gs[j]? = some y->∃x u,fs[j]? = some x/\y=x++u):fX gs:=by
 have h:=Uo.mp h;refine Uo.mpr fun i j hi hj vo =>?_;obtain⟨x,u,hx,ex⟩:=he i gs[i] (Jc hi);obtain⟨y,v,hy,ey⟩:=he j gs[j] (Jc hj);obtain⟨xf,rfl⟩:=Ji.mp hx;obtain⟨Ky,rfl⟩:=Ji.mp hy;rw[ex,ey];exact(h i j xf Ky vo).ext
def oH:dJ (W1 ""):=fun c hc=>by
 rw[show(W1 "").cps.toList=[] by decide +kernel] at hc;cases hc
def IJ:Sp:=fun vs H Q _=>vY fun(b c:Gc) (t:Int) (many most:Nat)=>vs=[.ref b,.int (many:Nat),.int (most:Nat)]/\Bx H b c t/\0<=t/\t<40000000/\2<=many/\many<=20/\many<=2^most/\most<=12 /\
 ∀(l:Gc) (cs:List Str) (H':Hp) (t':Int),cs.length=many->fX cs->(∀x∈cs,dJ x/\x.length<=most+2)->H l=none->H' l=some (.lst (cs.map V.str))->Step b c H H' t t' 200->Q (.ref l) H'
section
variable {P:YZ}{w:Zb}{K:Ja}{mg:Str->Option Fk}{base:Heap}{f:Gc}{fd:Zc}
def dC:aG ["_law_state", "_law_many", "_law_most", "_law_found", "_law_short", "_law_code"] ["_law_state", "_law_many", "_law_most"] (ai (top jL)):=⟨rfl,rfl,rfl,∅,rfl,∅,∅⟩
def ME (F:dM K "_law_codes" "_law_codes" (top jL) f fd)(T:Nm mg)(aM:Fn P w K mg base 1 "_law_take" ["_law_state", "_law_many"] vR)(fI:Fn P w K mg base 2 "_law_mixed" ["_law_state", "_law_some"] (Fv K)):aW P w K mg base dI 3 f fd ["_law_state", "_law_many", "_law_most"] IJ:=by
 refine F.ok dC (fun vs H Q E h =>?_) (fun bS A outer s H vs Q E hr h =>?_)
 ·obtain⟨b,c,t,many,most,rfl,_⟩:=h
  rfl
 obtain⟨b,c,t,many,most,rfl,bx,t0,t1,m2,m20,mm,m12,q⟩:=h;have cK:=hr.units;refine⟨_,(af (ay (i:=3) dC.nd rfl (YY rfl) (gE (aa aq ae)))
  (af (pT Zw (ax sH (ak (eE K) rfl T.n_len (by rfl) (aa (pv 3) ae)) (pv 1) (aE _)) (af (kR (i:=4) dC.nd rfl (YY rfl) rfl (cS (Nc:=["_law_code"]) (Fc:=["_law_most"]) (js:=[2])) (JQ K (pv 3)) (bG (i:=0) (n:=1) ∅) (fun _ _ _ _ _=>(aI (i:=0) (rn ["_law_code", "_law_most"]) rfl (YY rfl))) (fun _ _ _ _ _=>(Aw (ax sH (ak (eE K) rfl T.n_len (by rfl) (aa (pv 0) ae)) (pv 1) (aE _)))) (fun _ _ _ _ _=>(pv 0)))
  (af (ay (i:=5) dC.nd rfl (YY rfl) (aU (eG K) (pv 4) (aA (aM.mono ∅) hr rfl (aa (pv 0) (aa (ak (eE K) rfl T.n_len (by rfl) (aa (pv 4) ae)) ae))) (fun _ _=>rfl)))
  (af (tG (uN K ZQ PySem.F.slot_list_remove PySem.F.type_list_remove Ig (pv 3) (aa (pv 5) ae)))
  (ag (ay (i:=3) dC.nd rfl (YY rfl) (aw bw (pv 3) (gE (aa (aw bw (pv 5) aq) (aa (aw bw (pv 5) aq) ae))))))))))
  (af (aV (ax (kW K cK) (aA (aM.mono ∅) hr rfl (aa (pv 0) (aa ah ae))) ah (aE _)) (ag (kR (i:=3) dC.nd rfl (YY rfl) rfl (cS (Nc:=["_law_code"]) (Fc:=["_law_state"]) (js:=[0])) (JQ K (pv 3)) (bG (i:=0) (n:=1) ∅) (fun _ _ _ _ _=>(aI (i:=0) (rn ["_law_code", "_law_state"]) rfl (YY rfl))) (fun _ _ _ _ _=>dU) (fun _ _ _ _ _=>(aw bw (pv 0) (aU (eG K) (gE (aa aq (aa aq (aa aq (aa aq (aa aq ae)))))) (aA (aM.mono ∅) hr rfl (aa (pv 1) (aa ah ae))) (fun _ _=>rfl)))))) aB)
  (ag (ao (aA (fI.mono ∅) hr rfl (aa (pv 0) (aa (pv 3) ae)))))))),?_⟩
 refine⟨by show 1<=KE;decide,fun l0 H1 n1=>gn ?_⟩;dsimp only;have small:∀{n:Nat},n<=10000->n<KE:=fun h=>J7 h ∅;refine fk (t:=pC _ _) (fun σ H'=>∃(cs:List Str) (l:Gc) (t':Int) (x4 x5:Option V),σ=[some (.ref b),some (.int (many:Nat)),some (.int (most:Nat)),some (.ref l),x4,x5]/\cs.length=many/\Cs most cs/\H l=none/\H' l=some (.lst (cs.map V.str))/\Step b c H H' t t' 20) (fun Nx nx =>?_) ?_
 ·refine uy (fun m σ H'=>∃(cs:List Str) (l:Gc) (t':Int) (x4 x5:Option V),m=many-cs.length /\ σ=[some (.ref b),some (.int (many:Nat)),some (.int (most:Nat)),some (.ref l),x4,x5]/\cs.length<=many/\Cs most cs/\H l=none/\H' l=some (.lst (cs.map V.str))/\Step b c H H' t t' cs.length) ⟨_,[Zt],l0,t,_,_,rfl,rfl,by show 1<=many;lia,Cs.one,n1.nn,n1.at,(Step.same bx n1.same).more ∅⟩ ?_;rintro m σ H3 ⟨cs,l,t3,x4,x5,rfl,rfl,cm,C,hl,uf,dZ⟩;have QP:=dZ.ub;have Qz:=dZ.le;have vl:(cs.map V.str).length=cs.length:=Jd _;obtain⟨lb,lc⟩:=bx.aR hl;refine⟨_,rfl,_,_,rfl,.inl ⟨_,bg.of uf,rfl⟩,_,rfl,_,_,rfl,rfl,_,rfl,?_⟩;refine fq (fun c1 =>?_) (fun c1 =>?_)
  ·have c1:cs.length<many:=by have:=of_decide_eq_true c1;lia
   refine⟨fun σ' H'=>∃m',m'<many-cs.length/\_,fun _ _ h=>h,?_⟩;refine⟨_,rfl,l,rfl,⟨_,bg.of uf⟩,?_⟩;refine dS (N:=cs.length) (fun i ys H'=>H'=H3/\ys=((cs.take i).filter fun x=>decide (x.length<most)).map V.str) ⟨rfl,rfl⟩ ?_ ?_
   ·rintro i ys H' Ny hi ⟨rfl,rfl⟩ ny;have hx:(cs.map V.str)[i]? = some (.str cs[i]):=by rw[Jk,Jc hi];rfl
    have xl:=C.le cs[i] (Ug hi);have fl:((cs.take i).filter fun x=>decide (x.length<most)).length<=20:=Jg (Qcs _ _) (by rw[J6];lia);refine⟨⟨_,_,bg.of uf,hx⟩,small (by rw[Jd];lia),?_⟩;rintro x' H4 ⟨rfl,hy⟩;have e:=hy _ (bg.of uf);rw[hx] at e;cases e;refine gn ?_;refine⟨_,rfl,_,_,rfl,⟨Yh (small ⋯),rfl⟩,_,rfl,_,_,rfl,rfl,_,rfl,?_⟩;have Rv:∀ys',ys'=((cs.take (i+1)).filter fun x=>decide (x.length<most)).map V.str->Ny ys' H4:=fun ys' e=>ny _ _ ⟨rfl,e⟩;rw[Yt hi,List.filter_append,J0] at Rv;refine fq (fun c2 =>?_) (fun c2 =>?_)
    ·have c2:cs[i].length<most:=by have:=of_decide_eq_true c2;lia
     refine⟨_,rfl,Rv _ ?_⟩;rw[List.filter_cons_of_pos (by exact decide_eq_true c2)]
     rfl
    ·have c2:¬cs[i].length<most:=fun z=>c2 (decide_eq_true ⋯);refine Rv _ ?_;rw[List.filter_cons_of_neg (by rw[decide_eq_false c2];decide)];exact(Uu _).symm
   rintro ys H4 ⟨rfl,rfl⟩;refine⟨⟨_,bg.of uf,by rw[vl];exact Je _⟩,?_⟩;rw[Yj];obtain⟨y0,hy0,ly0⟩:=C.short ⋯;have QT:∀y∈cs.filter fun x=>decide (x.length<most),y∈cs/\y.length<most:=fun y hy=>by
    obtain⟨z1,z2⟩:=List.mem_filter.mp hy;exact⟨z1,of_decide_eq_true z2⟩
   have pos:1<=(cs.filter fun x=>decide (x.length<most)).length:=QeH (List.mem_filter.mpr ⟨hy0,decide_eq_true ly0⟩);have fl:(cs.filter fun x=>decide (x.length<most)).length<=20:=Jg (Qcs _ _) ⋯;generalize (cs.filter fun x=>decide (x.length<most))=sh at QT pos fl;have vs:(sh.map V.str).length=sh.length:=Jd _;refine fun ls hls=>gn ?_;have n4:jg H4 ls (.lst (sh.map V.str)) (upd H4 ls (.lst (sh.map V.str))):=⟨hls,rfl⟩
   generalize upd H4 ls (.lst (sh.map V.str))=H5 at n4;have F8:=n4.same _ _ uf;have cu:=dZ.dN n4;obtain⟨sb,sc⟩:=dZ.bx.aR n4.nn;refine⟨_,rfl,_,rfl,_,rfl,_,_,rfl,.inl ⟨_,bg.of n4.at,rfl⟩,b,c,t3,_,rfl,cu.bx,⋯,⋯,⋯,⋯,fun a H6 a0 a1 kG =>?_⟩;have X1:=kG.old n4.at sb sc;have Qe:=kG.old F8 lb lc;have kG:=cu.trans kG;obtain⟨y,hy⟩:∃y,sh[a.toNat]? = some y:=⟨_,Jc ⋯⟩
   obtain⟨yc,yl⟩:=QT y (Jy hy);refine .inl ⟨ls,_,a,.str y,rfl,rfl,bg.of X1,gT a0 (by rw[Jk,hy];rfl),gn ?_⟩;refine⟨_,rfl,.inl ⟨rfl,_,bg.of Qe⟩,_,rfl,l,cs,y,rfl,rfl,Qe,yc,fun H7 c7 =>?_⟩;have iU:=kG.EI c7 hl lb lc;have el:(cs.erase y).length=cs.length-1:=Qev yc;have eF:1<=cs.length:=QeH yc;have k0:(W1 "0").length=1:=rfl;have k1:(W1 "1").length=1:=rfl;refine⟨_,rfl,_,rfl,.inr (.inl ⟨_,_,rfl,rfl,Yh (small (by rw[k0];lia)),_,rfl,.inr (.inl ⟨_,_,rfl,rfl,Yh (small (by rw[k1];lia)),by show 2<=KE;decide,fun lp H8 n8 =>.inr (.inr ⟨l,lp,_,_,rfl,rfl,n8.same _ _ c7.at,n8.at,Yh (small (by simp only[Jd,Jn,Yk];lia)),fun l' H9 n9=>gn ?_⟩)⟩)⟩)⟩;have lH:=(iU.dN n8).dN n9;have cl:(cs.erase y++[y++s0,y++s1]).length=cs.length+1:=by rw[Jt,el];show cs.length-1+2=_;lia
   refine⟨many-(cs.length+1),⋯,cs.erase y++[y++s0,y++s1],l',t3+1,_,_,by rw[cl],rfl,⋯,C.part yc yl,(iU.dN n8).fresh bx n9.nn,by rw[n9.at,J0];rfl,lH.more ⋯⟩
  ·have c1:¬(cs.length<many):=fun z=>(U8.mp (U8.mpr c1)) (decide_eq_true ⋯);exact nx _ _ ⟨cs,l,t3,x4,x5,rfl,⋯,C,hl,uf,dZ.more ⋯⟩
 rintro σ H3 ⟨cs,l,t3,x4,x5,rfl,cm,C,hl,uf,dZ⟩;have QP:=dZ.ub;have Qz:=dZ.le;obtain⟨lb,lc⟩:=bx.aR hl;have vl:(cs.map V.str).length=cs.length:=Jd _;refine fk (t:=Ij _ _ _) (fun σ H'=>∃(ds:List Str) (l:Gc) (t':Int) (x4 x5:Option V),σ=[some (.ref b),some (.int (many:Nat)),some (.int (most:Nat)),some (.ref l),x4,x5]/\ds.length=many/\fX ds/\(∀x∈ds,dJ x/\x.length<=most+2)/\H l=none/\H' l=some (.lst (ds.map V.str))/\Step b c H H' t t' 50) (fun Nx nx =>?_) ?_
 ·refine⟨_,rfl,b,c,t3,2,rfl,dZ.bx,⋯,⋯,⋯,⋯,fun a H4 a0 a1 eY =>?_⟩;have PF:=eY.old uf lb lc;have eY:=dZ.trans eY;refine .inl ⟨rfl,_,rfl,fq (fun _ =>?_) (fun _ =>?_)⟩
  ·refine⟨_,rfl,l,rfl,⟨_,bg.of PF⟩,?_⟩;refine dS (N:=cs.length) (fun i ys H'=>∃(gs:List Str) (t':Int),ys=gs.map V.str/\gs.length=i/\(∀(j:Nat) y,gs[j]? = some y->∃x u,cs[j]? = some x/\y=x++u/\dJ u/\u.length<=2)/\Step b c H H' t t' (21+i)/\H' l=some (.lst (cs.map V.str))) ⟨[],t3+1,rfl,rfl,(fun j y e=>nomatch e),eY.more ⋯,PF⟩ ?_ ?_
   ·rintro i ys H5 Ny hi ⟨gs,t5,rfl,gl,gg,cu,F8⟩ ny;have S7:=cu.ub;have To:=cu.le;have hx:(cs.map V.str)[i]? = some (.str cs[i]):=by rw[Jk,Jc hi];rfl
    refine⟨⟨_,_,bg.of F8,hx⟩,small (by rw[Jd];lia),?_⟩;rintro x' H6 ⟨rfl,hy⟩;have e:=hy _ (bg.of F8);rw[hx] at e;cases e;have xl:=C.le cs[i] (Ug hi);refine gn ?_;refine⟨_,rfl,by show 5<=KE;decide,fun lp H7 n7=>⟨_,rfl,b,c,t5,5,rfl,cu.bx.same n7.same,⋯,⋯,⋯,⋯,fun r H8 r0 r1 jx =>?_⟩⟩;obtain⟨pb,pc⟩:=cu.bx.aR n7.nn;have Rj:=jx.old n7.at pb pc;have Wq:=jx.old (n7.same _ _ F8) lb lc;have jx:=(cu.dN n7).trans jx;obtain⟨u,hu,bu,lu⟩:∃u:Str,([V.str "",V.str "",V.str "0",V.str "1",V.str "01"]:List V)[r.toNat]? = some (.str u)/\dJ u/\u.length<=2:=by
     have:r=0\/r=1\/r=2\/r=3\/r=4:=by lia
     rcases this with rfl|rfl|rfl|rfl|rfl
     ·exact⟨"",rfl,oH,∅⟩
     ·exact⟨"",rfl,oH,∅⟩
     ·exact⟨"0",rfl,(by unfold dJ;decide +kernel),∅⟩
     ·exact⟨"1",rfl,(by unfold dJ;decide +kernel),∅⟩
     ·exact⟨"01",rfl,(by unfold dJ;decide +kernel),∅⟩
    refine .inl ⟨lp,_,r,.str u,rfl,rfl,bg.of Rj,gT r0 hu,.inr (.inl ⟨_,_,rfl,rfl,Yh (small ⋯),ny _ _ ⟨gs++[cs[i]++u],t5+1,by rw[J0];rfl,by rw[Jt,gl];rfl,fun j y hj =>?_,jx.more ⋯,Wq⟩⟩)⟩
    by_cases hji:j<gs.length
    ·rw[U3 hji] at hj;exact gg j y hj
    ·rw[U0 ⋯] at hj;have:j-gs.length=0:=by have:=(Ji.mp hj).1;simp at this;lia
     rw[this] at hj;cases hj;exact⟨cs[i],u,by rw[show j=i by lia];exact Jc hi,rfl,bu,lu⟩
   ·rintro ys H5 ⟨gs,t5,rfl,gl,gg,cu,F8⟩;refine⟨⟨_,bg.of F8,by rw[vl];exact Je _⟩,fun p6 hp6=>gn ?_⟩;have n6:jg H5 p6 (.lst (gs.map V.str)) (upd H5 p6 (.lst (gs.map V.str))):=⟨hp6,rfl⟩
    generalize upd H5 p6 (.lst (gs.map V.str))=H6 at n6;refine nx _ _ ⟨gs,p6,t5,x4,x5,rfl,⋯,?_,fun x hx =>?_,cu.fresh bx n6.nn,n6.at,(cu.dN n6).more ⋯⟩
    ·exact C.free.longer ⋯ fun j y hj=>by
      obtain⟨x,u,h1,h2,_⟩:=gg j y hj;exact⟨x,u,h1,h2⟩
    ·obtain⟨j,hj,rfl⟩:=List.getElem_of_mem hx;obtain⟨x,u,h1,h2,h3,h4⟩:=gg j _ (Jc hj);have xm:=Jy h1;have xl:=C.le x xm;rw[h2];refine⟨fun ch hc =>?_,by rw[o8];lia⟩;rw[show(x++u).cps.toList=x.cps.toList++u.cps.toList from aK x u] at hc
     rcases Ub.mp hc with hc|hc
     ·exact C.bin x xm ch hc
     ·exact h3 ch hc
  ·exact nx _ _ ⟨cs,l,t3+1,x4,x5,rfl,cm,C.free,fun x hx=>⟨C.bin x hx,by have:=C.le x hx;lia⟩,hl,PF,eY.more ⋯⟩
 rintro σ H4 ⟨ds,l,t4,x4,x5,rfl,dm,fr,ok,hl,PF,eY⟩;have Sj:=eY.ub;have SJ:=eY.le;obtain⟨lb,lc⟩:=bx.aR hl;have em:(ds.map fun x=>(Qbc x,V.str x)).map (·.2)=ds.map V.str:=by rw[Ym];rfl
 refine⟨_,rfl,_,rfl,b,c,l,t4,ig H4 b c,ds.map fun x=>(Qbc x,V.str x),rfl,eY.bx,⋯,⋯,ar.refl _,.inl (bg.of (by rw[em];exact PF)),⟨by rw[Jd];lia,fun z hz =>?_,fun z hz =>?_⟩,fun l5 zs H5 t5 pm hn h5 cu =>?_⟩
 ·obtain⟨x,_,rfl⟩:=Ux.mp hz;show Den K _ (.str x) (.str x);unfold Den
  rfl
 ·obtain⟨x,hx,rfl⟩:=Ux.mp hz;exact Sh.str (eP fun ch hc=>by rcases(ok x hx).1 ch hc with rfl|rfl<;>decide)
 ·have ez:∃es:List Str,zs=es.map (fun x=>(Qbc x,V.str x))/\es.Perm ds:=by
   refine⟨zs.map fun z=>match z.1 with | .str x=>x|_=>Zt,?_,?_⟩
   ·rw[Ym];refine(Qdu zs).symm.trans (Y7 fun z hz =>?_);obtain⟨x,_,rfl⟩:=Ux.mp (pm.mem_iff.mp hz)
    rfl
   ·have:=pm.map fun z:Za×V=>match z.1 with | .str x=>x|_=>Zt
    rw[Ym] at this;refine this.trans ?_;rw[show(ds.map ((fun z:Za×V=>match z.1 with | .str x=>x|_=>Zt)∘fun x=>(Qbc x,V.str x)))=ds from(Y7 fun x _=>rfl).trans (Qdu ds)]
  obtain⟨es,rfl,pe⟩:=ez;refine q l5 es H5 t5 (by rw[pe.length_eq,dm]) (fr.perm pe.symm) (fun x hx=>ok x (pe.mem_iff.mp hx)) (eY.fresh bx hn) ?_ ((eY.trans cu).more ⋯);rw[h5,Ym]
  rfl
end
abbrev fw (q:Str×Str):Za := .tuple [.str q.1,.str q.2]
def mV:∀{ns cs:List Str} {k:Nat} {x c:Str},ns.Nodup->ns[k]? = some x->cs[k]? = some c->bh (ns.zip cs) x=c
 | [],_,_,_,_,_,h,_=>nomatch h
 | _::_,[],_,_,_,_,_,h=>nomatch h
 | n::ns,c0::cs,0,x,c,_,h1,h2=>by
  cases h1;cases h2;show(if n=n then c0 else _)=c0;exact if_pos rfl
 | n::ns,c0::cs,k+1,x,c,nd,h1,h2=>by
  obtain⟨n1,n2⟩:=U6.mp nd;have hx:x∈ns:=Jy (show ns[k]? = some x from h1);show(if n=x then c0 else bh (ns.zip cs) x)=c;rw[if_neg (fun z=>n1 (by rw[z];exact hx))];exact mV n2 h1 h2
def zR:∀{ns cs:List Str} {k:Nat} {x y:Str},ns.Nodup->ns.length=cs.length->ns[k]? = some x->(gV (ns.zip cs)).map (fun kv=>if kv.1=Z7 x then (kv.1,V.str y) else kv)=gV (ns.zip (cs.set k y))
 | [],_,_,_,_,_,_,h=>nomatch h
 | _::_,[],_,_,_,_,h,_=>nomatch h
 | n::ns,c::cs,0,x,y,nd,hl,h=>by
  cases h;obtain⟨n1,n2⟩:=U6.mp nd;show(if (Z7 n:Key)=Z7 n then ((Z7 n:Key),V.str y) else _)::(gV (ns.zip cs)).map _=(Z7 n,V.str y)::gV (ns.zip cs);rw[if_pos rfl]
  congr 1
  conv=>rhs;rw[<-Qdu (gV (ns.zip cs))]
  refine Y7 fun kv hkv=>if_neg fun z=>n1 ?_;obtain⟨q,hq,rfl⟩:=Ux.mp hkv;have z:q.1=n:=QbC z;rw[<-z];exact(QaY hq).1
 | n::ns,c::cs,k+1,x,y,nd,hl,h=>by
  obtain⟨n1,n2⟩:=U6.mp nd;have hx:x∈ns:=Jy (show ns[k]? = some x from h);show(if (Z7 n:Key)=Z7 x then _ else ((Z7 n:Key),V.str c))::(gV (ns.zip cs)).map _=(Z7 n,V.str c)::gV (ns.zip (cs.set k y));rw[if_neg (fun z=>n1 (by rw[QbC z];exact hx)),zR n2 (by simpa using hl) h]
def gw {ns cs:List Str}(hl:ns.length=cs.length):(ns.zip cs).map (·.1)=ns:=List.map_fst_zip ⋯
def BJ {ns cs:List Str}(hl:ns.length=cs.length):(ns.zip cs).map (·.2)=cs:=List.map_snd_zip ⋯
def Ih {ns cs:List Str}{k:Nat}{x y:Str}(nd:ns.Nodup)(hl:ns.length=cs.length)(h:ns[k]? = some x):putK (gV (ns.zip cs)) (.inr x) (.str y)=gV (ns.zip (cs.set k y)):=by
 unfold putK;rw[l8,iR (by rw[gw hl];exact Jy h),if_pos (Qff)];exact zR nd hl h
def swap_perm {cs:List Str}{i j:Nat}{a b:Str}(hi:cs[i]? = some a)(hj:cs[j]? = some b):((cs.set i b).set j a).Perm cs:=by
 obtain⟨h1,rfl⟩:=Ji.mp hi;obtain⟨h2,rfl⟩:=Ji.mp hj;exact List.set_set_perm h1 h2
def iC (bk:List (Str×Str)):cQ (aQ bk)=bk:=by
 show(bk.map fw).map _=bk;rw[Ym];exact(Y7 fun q _=>rfl).trans (Qdu bk)
def Hg {y:Str}(hb:dJ y)(hl:1<=y.length):cJ (.str y)=true:=by
 show(!decide (V.str y=V.str (W1 ""))&&fR y cW)=true;rw[zA,decide_eq_false ⋯,iY,Bool.not_false,Yg,U1];intro c hc
 rcases hb c hc with rfl|rfl<;>decide +kernel
def Ew {ns:List Str}{bk:List (Str×Str)}(N:P1 ns)(pm:(bk.map (·.1)).Perm ns)(hc:∀q∈bk,cJ (.str q.2)=true)(fr:fX (bk.map (·.2))):cU ns (aQ bk)=true:=by
 have e:=LU (ns:=ns) (d:=aQ bk) (ds:=bk.map fw) rfl (fun x hx=>by
  obtain⟨q,hq,rfl⟩:=Ux.mp hx;exact hc q hq) N.nn N.nd N.ok
 rw[e,show cQ (.list (bk.map fw))=bk from iC bk,decide_eq_true pm,Yg];exact @decide_eq_true _ (Qau _) fr
def zB {w:Nat}:∀{bk:List (Str×Str)},(∀q∈bk,kH q.1=true/\kH q.2=true/\q.1.length+q.2.length+3<=w)->Gs (w*bk.length) 1 (bk.map fw)
 | [],_=>Gs.nil.mono (Uq _) (Uq _)
 | q::bk,h=>by
  have ih:=zB (w:=w) (bk:=bk) fun x hx=>h x (Jj _ hx);obtain⟨h1,h2,h3⟩:=h q Jm;have g:Gd (q.1.length+1+(q.2.length+1)) 1 (fw q):=(Gs.cons (Gd.str (dp:=0) h1 (Je _)) (Gs.one (Gd.str h2 (Je _)))).tuple;refine(Gs.cons g ih).mono ?_ (Je _);rw[Jn,Qe0];lia
def Dn {d:Za}{ds:List Za}(h:iA d = .list ds):MO d=ds.length:=by
 cases d<;>first|(cases h;rfl)|(exact nomatch h)
def IY.of {d:Za}{w dp:Nat}(g:Gd w dp d)(hw:w<=150000)(hd:dp<=64)(hl:MO d<=60):IY d:=by
 refine⟨g.pz,Jg g.wt ⋯,g.shaped hd,fun ds e=>by rw[<-Dn e];exact hl,fun q hq =>?_⟩;have wt:(iA d).weight<=150000:=by rw[yR];exact Jg g.wt hw
 cases e:iA d with
 | list ds=>
  rw[e] at hq wt;obtain⟨x,hx,rfl⟩:=Ux.mp (show q∈ds.map _ from hq);have hx:=iB (n:=150000) (by simpa only [ZB] using wt) hx
  split
  ·simp only[ZB,Zu] at hx;have:∀y:Str,y.cps.size=y.length:=fun _=>rfl;simp only[this] at hx;dsimp only;lia
  ·exact Uq _
 | _=>rw[e] at hq;exact nomatch hq
def C6 {bk:List (Str×Str)}{zs Cq:List (Za×V)}(e:zs.map (·.1)=bk.map fw)(p:Cq.Perm zs):∃xN:List (Str×Str),xN.Perm bk/\Cq.map (·.1)=xN.map fw:=by
 have pm:(Cq.map (·.1)).Perm (bk.map fw):=by rw[<-e];exact p.map _
 refine⟨cQ (.list (Cq.map (·.1))),?_,?_⟩
 ·have:=iC bk
  conv=>rhs;rw[<-this]
  exact pm.map _
 ·have all:∀d∈Cq.map (·.1),∃q,d=fw q:=fun d hd=>by
   obtain⟨q,_,rfl⟩:=Ux.mp (pm.mem_iff.mp hd);exact⟨q,rfl⟩
  generalize Cq.map (·.1)=ds at all;clear pm p e
  induction ds with
  | nil=>rfl
  | cons d ds ih=>
   obtain⟨q,rfl⟩:=all d Jm;have:=ih fun d hd=>all d (Jj _ hd);show fw q::ds=fw q::(cQ (.list ds)).map fw;rw[<-this]
def Ej {cs:List Str}(h:fX cs)(hl:2<=cs.length):∀x∈cs,1<=x.length:=fun x hx=>by
 apply Qdo
 intro n;have x0:sg x=[]:=Uy (by have:x.length=(sg x).length:=str_len x;lia);obtain⟨i,hi,rfl⟩:=Yd.mp hx;have pw:=Uo.mp h
 by_cases i0:i=0
 ·subst i0;have:=(pw 0 1 ⋯ ⋯ ∅).1;rw[x0] at this;exact this List.nil_prefix
 ·have:=(pw 0 i ⋯ hi ⋯).2;rw[x0] at this;exact this List.nil_prefix
def Ho {x:Str}(h:dJ x):kH x=true:=GY.mpr fun c hc=>by rcases h c hc with rfl|rfl<;>decide
def Ff {K:Ja}{G:Hp}{bk:List (Str×Str)}{as:List Gc}(hl:as.length=bk.length)(wQ:bk.length<=64)(az:∀q∈bk,kH q.1=true/\kH q.2=true)(h:∀(j:Nat) a q,as[j]? = some a->bk[j]? = some q->G a=some (.tup [.str q.1,.str q.2])):
  ∃zs:List (Za×V),zs.map (·.1)=bk.map fw/\zs.map (·.2)=as.map V.ref/\Mx K G zs:=by
 have l1:(bk.map fw).length=(as.map V.ref).length:=by rw[Jd,Jd,hl]
 refine⟨(bk.map fw).zip (as.map V.ref),List.map_fst_zip ⋯,List.map_snd_zip ⋯,?_,?_,?_⟩
 ·rw[Yl,Jd];lia
 ·intro z hz;obtain⟨j,hj⟩:=J4.mp hz;have z1:=Yw.mp hj;rw[Jk,Jk] at z1;obtain⟨e1,e2⟩:=z1;cases h1:bk[j]? with
  | none=>rw[h1] at e1;cases e1
  | some q=>
   cases h2:as[j]? with
   | none=>rw[h2] at e2;cases e2
   | some a=>
    rw[h1] at e1;rw[h2] at e2;rw[<-Zk e1,<-Zk e2];exact FE (h j a q h2 h1) (b8 BD (b8 BD qA))
 ·intro z hz;have z1:=(QaY (a:=z.1) (b:=z.2) hz).1;obtain⟨q,hq,e⟩:=Ux.mp z1;rw[<-e];have h1:=az q hq;refine(fun h=>⟨h.1,Jg h.2 ∅⟩:Sh 1 (fw q)->Sh 2 (fw q)) (Sh.tuple (n:=0) (ds:=[.str q.1,.str q.2]) fun d hd =>?_)
  ·simp only[Jq,Uk,or_false] at hd
   rcases hd with rfl|rfl
   ·exact Sh.str (eP fun ch hc=>by have:=yD h1.1 ch hc;lia)
   ·exact Sh.str (eP fun ch hc=>by have:=yD h1.2 ch hc;lia)
def za {K:Ja}{G G':Hp}{bk:List (Str×Str)}{zs Cq:List (Za×V)}{l:Gc}(e:zs.map (·.1)=bk.map fw)(M:Mx K G zs)(p:Cq.Perm zs)(s:ar G G')(hl:G' l=some (.lst (Cq.map (·.2)))):
  ∃xN:List (Str×Str),xN.Perm bk/\Den K G' (aQ xN) (.ref l):=by
 obtain⟨xN,h1,h2⟩:=C6 e p;refine⟨xN,h1,Den.list (bg.of hl) ?_⟩;show a8 K G' (xN.map fw) _;rw[<-h2];refine a8.of_get (by rw[Jd,Jd]) fun j d v hd hv =>?_;rw[Jk] at hd hv;cases ez:Cq[j]? with
 | none=>rw[ez] at hd;cases hd
 | some z=>
  rw[ez] at hd hv;cases hd;cases hv;exact(M.d z (p.mem_iff.mp (Jy ez))).same s
structure Good3 (qb uE uz:List (Str×Str))(near eU:Int):Prop where
 why:md (aQ qb) (aQ uE) (aQ uz) (.int near) (.int eU)=none
 n1:(qb.map (·.1)).Perm aD
 l1:qb.length=11
 l2:uE.length=4
 l3:uz.length=9
 sz:∀q,q∈qb\/q∈uE\/q∈uz->kH q.1=true/\kH q.2=true/\q.1.length<=8/\q.2.length<=11
 fr:near.natAbs<10/\eU.natAbs<20
def JG (K:Ja):Sp:=fun vs H Q _=>oG fun(b c:Gc) (t:Int)=>vs=[.ref b]/\Bx H b c t/\0<=t/\t<30000000 /\
 ∀(l:Gc) (r1 r2 r3:V) (qb uE uz:List (Str×Str)) (near eU:Int) (H':Hp) (t':Int),Good3 qb uE uz near eU->H l=none->H' l=some (.lst [r1,r2,r3,.int near,.int eU])->a8 K (ig H' b c) [aQ qb,aQ uE,aQ uz] [r1,r2,r3]->Step b c H H' t t' 1500->Q (.ref l) H'
def tD {ns cs:List Str}{most:Nat}(hn:∀x∈ns,kH x=true/\x.length<=8)(hm:most<=11)(hc:∀x∈cs,dJ x/\x.length<=most):∀q∈ns.zip cs,kH q.1=true/\kH q.2=true/\q.1.length<=8/\q.2.length<=11:=fun q hq=>by
 obtain⟨h1,h2⟩:=QaY (a:=q.1) (b:=q.2) hq;exact⟨(hn _ h1).1,Ho (hc _ h2).1,(hn _ h1).2,Jg (hc _ h2).2 hm⟩
def nz:(∀x∈aD,kH x=true/\x.length<=8)/\(∀x∈bJ,kH x=true/\x.length<=8)/\∀x∈aO,kH x=true/\x.length<=8:=∅
def tj {ns cs:List Str}{bk:List (Str×Str)}(N:P1 ns)(hl:ns.length=cs.length)(h2:2<=cs.length)(hb:∀x∈cs,dJ x)(fr:fX cs)(p:bk.Perm (ns.zip cs)):cU ns (aQ bk)=true:=by
 have p1:=p.map (·.1);have p2:=p.map (·.2);rw[gw hl] at p1;rw[BJ hl] at p2;refine Ew N p1 (fun q hq =>?_) (fr.perm p2.symm);have KB:q.2∈cs:=p2.mem_iff.mp (Ui hq);exact Hg (hb _ KB) (Ej fr h2 _ KB)
def Ht {bk xN:List (Str×Str)}{x:Str}(p:xN.Perm bk)(nd:(bk.map (·.1)).Nodup)(hx:x∈bk.map (·.1)):bh xN x=bh bk x:=by
 have PZ:=(p.map (·.1)).nodup_iff.mpr nd;have of:∀{bs:List (Str×Str)},(bs.map (·.1)).Nodup->∀y,(x,y)∈bs->bh bs x=y:=fun{bs}=>by
  induction bs with
  | nil=>intro _ y h;exact nomatch h
  | cons q r ih=>
   intro nd y h;rw[Jz] at nd;obtain⟨n1,n2⟩:=U6.mp nd;unfold bh
   rcases Jq.mp h with e|h
   ·rw[<-e];exact if_pos rfl
   ·rw[if_neg (fun z=>n1 (by rw[z];exact Ui (f:=(·.1)) h))];exact ih n2 y h
 obtain⟨q,hq,rfl⟩:=Ux.mp hx;rw[of nd q.2 hq,of PZ q.2 (p.mem_iff.mpr hq)]
def Ep {bk xN:List (Str×Str)}{n f:Int}(p:xN.Perm bk)(hn:bk.map (·.1)=aD):kX xN n f=kX bk n f:=by
 have e:∀x∈aD,bh xN x=bh bk x:=fun x hx=>Ht p (by rw[hn];exact cN) (by rw[hn];exact hx);unfold kX;simp only[Y8,List.any_nil,QcU];rw[e _ ∅,e _ ∅,e _ ∅,e _ ∅]
def DN {qb uE uz:List (Str×Str)}{n f:Int}(h1:cU aD (aQ qb)=true)(h2:cU bJ (aQ uE)=true)(h3:cU aO (aQ uz)=true)(n2:2<=n)(n8:n<=8)(nf:n<f)(N8:f<=16)(hf:kX qb n f=false):md (aQ qb) (aQ uE) (aQ uz) (.int n) (.int f)=none:=by
 unfold md DZ;rw[h1,h2,h3,if_neg ∅,if_neg ∅,if_neg ∅];rw[show vc (.int n)=true from by show(decide (2<=n)&&decide (n<=8))=true;rw[decide_eq_true n2,decide_eq_true n8];rfl,if_neg ∅];have:AU (aQ qb) (.int n) (.int f)=true:=by
  show(decide (n<f)&&(decide (f<=16) && !kX (cQ (aQ qb)) n f))=true;rw[iC,hf,decide_eq_true nf,decide_eq_true N8];rfl
 rw[this,if_neg ∅]
def vq {H:Hp}{dd:Gc}{ns cs:List Str}{k:Nat}{x y:Str}(h:H dd=some (.dK (gV (ns.zip cs))))(nd:ns.Nodup)(hl:ns.length=cs.length)(hx:ns[k]? = some x)(sm:ns.length<1000):
  ∃H',EO H dd (.dK (gV (ns.zip (cs.set k y)))) H'/\qH H dd (.str x) (.str y) H':=by
 refine⟨_,⟨rfl⟩,?_⟩;rw[<-Ih nd hl hx];exact qH.k (k := .inr x) h (J7 (show(gV (ns.zip cs)).length<=1000 by unfold gV;rw[Jd,Yl];lia) ∅)
def FF {H:Hp}{dd:Gc}{ns cs:List Str}{k:Nat}{x c:Str}(h:H dd=some (.dK (gV (ns.zip cs))))(nd:ns.Nodup)(hl:ns.length=cs.length)(hx:ns[k]? = some x)(hc:cs[k]? = some c):eV H dd (.str x) (some (.str c)):=by
 have e:gf (gV (ns.zip cs)) (.inr x)=some (.str c):=by rw[iR (by rw[gw hl];exact Jy hx),mV nd hx hc]
 rw[<-e];exact eV.k (k := .inr x) h
def Bj {ns:List Str}{cs:List Str}(nd:ns.Nodup)(hl:ns.length=cs.length):cB [] ((ns.map (Z7:Str->Key)).zip (cs.map V.str))=gV (ns.zip cs):=by
 have e:(ns.map (Z7:Str->Key)).zip (cs.map V.str)=gV (ns.zip cs):=by
  unfold gV;rw[List.zip_map]
  rfl
 rw[e,iK (by rw[gw hl];exact nd)]
def Hy:∀(j:Nat) (c:Nat),(W1 "abcd").cps[j]? = some c->bJ[j]? = some ⟨#[c]⟩:=by
 intro j c h;have hj:j<4:=(U2.mp h).1
 match j,hj with
 | 0,_=>cases h;rfl
 | 1,_=>cases h;rfl
 | 2,_=>cases h;rfl
 | 3,_=>cases h;rfl
structure vj (K:Ja)(b c:Gc)(H:Hp)(p:Gc)(bk:List (Str×Str))(as:List Gc):Prop where
 at':H p=some (.lst (as.map V.ref))
 pb:p≠b
 pc:p≠c
 len:as.length=bk.length
 prs:∀(j:Nat) a q,as[j]? = some a->bk[j]? = some q->ig H b c a=some (.tup [.str q.1,.str q.2])
def vj.step {K:Ja}{b c p:Gc}{H H':Hp}{t t' N:Int}{bk:List (Str×Str)}{as:List Gc}(h:vj K b c H p bk as)(s:Step b c H H' t t' N):vj K b c H' p bk as:=
 ⟨s.old h.at' h.pb h.pc,h.pb,h.pc,h.len,fun j a q e1 e2=>s.sm _ _ (h.prs j a q e1 e2)⟩
section
variable {P:YZ}{w:Zb}{K:Ja}{mg:Str->Option Fk}{base:Heap}{f:Gc}{fd:Zc}
def bQ:aG ["_law_state", "_law_kinds_here", "_law_near", "_law_far", "_law_one", "_law_other", "_law_kept", "_law_spots", "_law_sizes_here"] ["_law_state"] (ai (top jV)):=⟨rfl,rfl,rfl,∅,rfl,∅,∅⟩
def FV (F:dM K "_law_parts" "_law_parts" (top jV) f fd)(T:Nm mg)(cw:mg "dict" = none)(j1:Fn P w K mg base 1 "_law_kinds" [] (pB aD))(fC:Fn P w K mg base 1 "_law_sizes" [] (pB aO))(aM:Fn P w K mg base 1 "_law_take" ["_law_state", "_law_many"] vR)(fI:Fn P w K mg base 2 "_law_mixed" ["_law_state", "_law_some"] (Fv K))(jZ:Fn P w K mg base 3 "_law_codes" ["_law_state", "_law_many", "_law_most"] IJ):aW P w K mg base dI 4 f fd ["_law_state"] (JG K):=by
 refine F.ok bQ (fun vs H Q E h =>?_) (fun bS A outer s H vs Q E hr h =>?_)
 ·obtain⟨b,c,t,rfl,_⟩:=h
  rfl
 obtain⟨b,c,t,rfl,bx,t0,t1,q⟩:=h;have cK:=hr.units;have hu:=jF hr;have small:∀{n:Nat},n<=10000->n<KE:=fun h=>J7 h ∅;refine⟨_,(af (ay (i:=1) bQ.nd rfl (YY rfl) (yF rfl rfl cw rfl T.n_zip (aa (oX (j1.mono (by first|decide|exact Je _|lia)) hr rfl) (aa (aA (jZ.mono ∅) hr rfl (aa (pv 0) (aa ah (aa (aU (eG K) (gE (aa ah (aa ah (aa ah (aa ah ae))))) (aA (aM.mono ∅) hr rfl (aa (pv 0) (aa ah ae))) (fun _ _=>rfl)) ae)))) ae))))
  (af (ay (i:=2) bQ.nd rfl (YY rfl) (aw bw ah (aA (aM.mono ∅) hr rfl (aa (pv 0) (aa ah ae)))))
  (af (ay (i:=3) bQ.nd rfl (YY rfl) (aw bw (aw bw (pv 2) ah) (aA (aM.mono ∅) hr rfl (aa (pv 0) (aa (aw dG ah (pv 2)) ae)))))
  (af (fe Zw rfl (ja K (bK (aa (bK (aa aq (aa aq ae))) (aa (bK (aa aq (aa aq ae))) ae)))) (tupK K 2 rfl (aN (aI (i:=4) bQ.nd rfl (YY rfl)) (aN (aI (i:=5) bQ.nd rfl (YY rfl)) bH))) (ag (aV (ax sH (aw bw (ak (eE K) rfl T.n_len (by rfl) (aa (bP hu (pv 1) (pv 5) (fun _ _=>rfl)) ae)) (pv 3)) (aw bw (ak (eE K) rfl T.n_len (by rfl) (aa (bP hu (pv 1) (pv 4) (fun _ _=>rfl)) ae)) (pv 2)) (aE _)) (af (ay (i:=6) bQ.nd rfl (YY rfl) (bP hu (pv 1) (pv 4) (fun _ _=>rfl)))
  (af (ua hu (pv 1) (pv 4) (bP hu (pv 1) (pv 5) (fun _ _=>rfl)) rfl)
  (ag (ua hu (pv 1) (pv 5) (pv 6) rfl)))) aB)))
  (af (ay (i:=7) bQ.nd rfl (YY rfl) (wZ rfl rfl T.n_list rfl T.n_zip (aa aq (aa (aA (jZ.mono ∅) hr rfl (aa (pv 0) (aa ah (aa ah ae)))) ae))))
  (af (ay (i:=8) bQ.nd rfl (YY rfl) (yf rfl rfl T.n_list rfl T.n_zip (aa (oX (fC.mono (by first|decide|exact Je _|lia)) hr rfl) (aa (aA (jZ.mono ∅) hr rfl (aa (pv 0) (aa ah (aa (aU (eG K) (gE (aa ah (aa ah (aa ah ae)))) (aA (aM.mono ∅) hr rfl (aa (pv 0) (aa ah ae))) (fun _ _=>rfl)) ae)))) ae))))
  (ag (ao (gE (aa (aA (fI.mono ∅) hr rfl (aa (pv 0) (aa (CI rfl rfl T.n_list (pv 1)) ae))) (aa (aA (fI.mono ∅) hr rfl (aa (pv 0) (aa (pv 7) ae))) (aa (aA (fI.mono ∅) hr rfl (aa (pv 0) (aa (pv 8) ae))) (aa (pv 2) (aa (pv 3) ae)))))))))))))),?_⟩
 dsimp only;refine ip (te:=UO _ _) (fun v H'=>∃(dd:Gc) (cs:List Str) (t':Int),v = .ref dd/\cs.length=11/\fX cs/\(∀x∈cs,dJ x/\x.length<=11)/\H dd=none/\H' dd=some (.dK (gV (aD.zip cs)))/\Step b c H H' t t' 300) (fun Qn qn =>?_) ?_
 ·refine⟨rfl,fun pk H1 n1=>⟨_,rfl,by show 4<=KE;decide,fun lp H2 n2=>⟨_,rfl,b,c,t,4,rfl,(bx.same n1.same).same n2.same,t0,⋯,∅,∅,fun r H3 r0 r1 dZ =>?_⟩⟩⟩;obtain⟨pb,pc⟩:=bx.aR n1.nn;obtain⟨lb,lc⟩:=(bx.same n1.same).aR n2.nn;have VA:=dZ.old (n2.same _ _ n1.at) pb pc;have F9:=dZ.old n2.at lb lc;have dZ:=(Step.same bx (n1.same.trans n2.same)).trans dZ;obtain⟨m,hm,m4,m9⟩:∃m:Nat,([V.int 4,V.int 4,V.int 5,V.int 9]:List V)[r.toNat]? = some (.int (m:Nat))/\4<=m/\m<=9:=by
   have:r=0\/r=1\/r=2\/r=3:=by lia
   rcases this with rfl|rfl|rfl|rfl
   ·exact⟨4,rfl,∅,∅⟩
   ·exact⟨4,rfl,∅,∅⟩
   ·exact⟨5,rfl,∅,∅⟩
   ·exact⟨9,rfl,∅,∅⟩
  have mm:11<=2^m:=Jg (show 11<=2^4 by decide) (Y1 ∅ m4);refine .inl ⟨lp,_,r,.int (m:Nat),rfl,rfl,bg.of F9,gT r0 hm,b,c,t+1,11,m,rfl,dZ.bx,⋯,⋯,∅,∅,mm,⋯,fun l cs H4 t4 cl fr cb hl0 qR eY =>?_⟩;have Xj:=eY.old VA pb pc;have eY:=dZ.trans eY;refine⟨pk,l,aD.map Z7,cs.map V.str,rfl,bg.of Xj,bg.of qR,by rw[Jd,Jd,cl];rfl,∅,fun d H5 n5 =>?_⟩;rw[Bj cN (by rw[cl];rfl)] at n5;exact qn _ _ ⟨d,cs,t4,rfl,cl,fr,fun x hx=>⟨(cb x hx).1,by have:=(cb x hx).2;lia⟩,eY.fresh bx n5.nn,n5.at,(eY.dN n5).more ⋯⟩
 rintro v H1 ⟨dd,cs,t2,rfl,cl,fr,cb,hd0,MB,m5⟩;obtain⟨db,dc⟩:=bx.aR hd0;have UP:=m5.ub;have lo1:=m5.le;refine gn ?_;refine⟨_,rfl,b,c,t2,7,rfl,m5.bx,⋯,⋯,∅,∅,fun r2 H2 r20 r21 fB =>.inl ⟨_,_,rfl,rfl,gn ?_⟩⟩;have Mq:=fB.old MB db dc;have fB:=m5.trans fB;refine⟨_,rfl,.inl ⟨_,_,rfl,rfl,_,rfl,_,rfl,_,_,rfl,rfl,b,c,_,_,rfl,fB.bx,⋯,⋯,⋯,⋯,fun r3 H3 r30 r31 dZ =>.inl ⟨_,_,rfl,rfl,gn ?_⟩⟩⟩;have Wv:=dZ.old Mq db dc;have dZ:=fB.trans dZ;obtain⟨near,en⟩:∃near:Int,near=2+r2:=⟨_,rfl⟩
 obtain⟨eU,ef⟩:∃eU:Int,eU=2+r2+1+r3:=⟨_,rfl⟩
 rw[<-ef,<-en];have n2:2<=near:=by lia
 have n8:near<=8:=by lia
 have nf:near<eU:=by lia
 have N8:eU<=16:=by lia
 have kl:aD.length=cs.length:=by rw[cl];rfl
 have sz:∀{x:Str},x.length<=11->x.length<=KE:=fun h=>Jg h ∅;dsimp only;refine fk (t:=BR _ _ _) (fun σ H'=>∃(jA:List Str) (x4 x5 x6:Option V) (t':Int),σ=[some (.ref b),some (.ref dd),some (.int near),some (.int eU),x4,x5,x6,none,none]/\jA.Perm cs/\H' dd=some (.dK (gV (aD.zip jA)))/\kX (aD.zip jA) near eU=false/\Step b c H H' t t' 310) (fun Nx nx =>?_) ?_
 ·refine⟨by show 2<=KE;decide,fun p1 H4 n4=>⟨by show 2<=KE;decide,fun p2 H5 n5=>⟨by show 2<=KE;decide,fun p3 H6 n6=>⟨p3,rfl,⟨_,aY.of n6.at⟩,?_⟩⟩⟩⟩;have kG:=((dZ.dN n4).dN n5).dN n6;have M7:=n6.same _ _ (n5.same _ _ (n4.same _ _ Wv));have h1:=n6.same _ _ (n5.same _ _ n4.at);have h2:=n6.same _ _ n5.at;have h3:=n6.at;have RC:∀{p:Gc} {o:List V},H6 p=some (.tup o)->p≠dd:=fun h z=>by rw[z,M7] at h;cases h
  have e1:=RC h1;have e2:=RC h2;have e3:=RC h3;refine jN (N:=2) (fun k σ H'=>∃(jA:List Str) (x4 x5 x6:Option V),σ=[some (.ref b),some (.ref dd),some (.int near),some (.int eU),x4,x5,x6,none,none]/\jA.Perm cs/\H' dd=some (.dK (gV (aD.zip jA)))/\(∀p,p≠dd->H' p=H6 p)/\(0<k->∀x y,jA[5]? = some x->jA[8]? = some y->¬((y.length:Int)+eU<x.length+near))/\(1<k->∀x y,jA[6]? = some x->jA[9]? = some y->¬((y.length:Int)+eU<x.length+near))/\∃t',Step b c H H' t t' 310) ⟨cs,_,_,_,rfl,U7.refl _,M7,fun _ _=>rfl,(fun h=>absurd h ∅),(fun h=>absurd h ∅),_,kG.more ⋯⟩ ?_ ?_
  ·rintro k σ H7 hk ⟨jA,x4,x5,x6,rfl,pm,hd7,k7,o1,o2,t7,iU⟩;have VD:=(k7 _ e1).trans h1;have VP:=(k7 _ e2).trans h2;have QS:=(k7 _ e3).trans h3;have TY:jA.length=11:=by rw[pm.length_eq,cl]
   have RT:aD.length=jA.length:=by rw[TY];rfl
   have Qm:∀{i:Nat} {x:Str},jA[i]? = some x->x.length<=11:=fun h=>(cb _ (pm.mem_iff.mp (Jy h))).2;obtain⟨c5,h5⟩:∃x,jA[5]? = some x:=⟨_,Jc ⋯⟩
   obtain⟨c6,h6⟩:∃x,jA[6]? = some x:=⟨_,Jc ⋯⟩
   obtain⟨c8,h8⟩:∃x,jA[8]? = some x:=⟨_,Jc ⋯⟩
   obtain⟨c9,h9⟩:∃x,jA[9]? = some x:=⟨_,Jc ⋯⟩
   have gd:∀{i:Nat} {x y:Str},aD[i]? = some x->jA[i]? = some y->eV H7 dd (.str x) (some (.str y)):=fun hx hy=>FF hd7 cN RT hx hy;have swap:∀{i j:Nat} {x y a d:Str},aD[i]? = some x->aD[j]? = some y->jA[i]? = some a->jA[j]? = some d->∃H8 H9,qH H7 dd (.str x) (.str d) H8/\qH H8 dd (.str y) (.str a) H9/\H9 dd=some (.dK (gV (aD.zip ((jA.set i d).set j a))))/\(∀p,p≠dd->H9 p=H6 p)/\((jA.set i d).set j a).Perm cs/\Step b c H H9 t t7 310:=fun{i j x y a d} hx hy ha hd=>by
    obtain⟨H8,c8,d8⟩:=vq (y:=d) hd7 cN RT hx ∅;obtain⟨H9,c9,d9⟩:=vq (y:=a) c8.at cN (by rw[Wa];exact RT) hy ∅;exact⟨H8,H9,d8,d9,c9.at,fun p hp=>by rw[c9.ne hp,c8.ne hp];exact k7 p hp,(swap_perm ha hd).trans pm,(iU.EI c8 hd0 db dc).EI c9 hd0 db dc⟩
   obtain rfl|rfl:k=0\/k=1:=by lia
   ·refine⟨⟨_,_,aY.of QS,rfl⟩,?_⟩;rintro w' H8 ⟨rfl,hy⟩;have e:=hy _ (aY.of QS);obtain rfl:V.ref p1=w':=Zk e;refine⟨p1,_,rfl,aY.of VD,rfl,_,_,rfl,_,_,rfl,rfl,?_⟩;refine⟨_,rfl,_,rfl,dd,_,rfl,gd (i:=8) rfl h8,_,_,rfl,⟨sz (Qm h8),rfl⟩,_,rfl,.inl ⟨_,_,rfl,rfl,_,rfl,_,rfl,dd,_,rfl,gd (i:=5) rfl h5,_,_,rfl,⟨sz (Qm h5),rfl⟩,_,rfl,.inl ⟨_,_,rfl,rfl,_,_,rfl,rfl,_,rfl,fq (fun c =>?_) (fun c =>?_)⟩⟩⟩
    ·have c:=of_decide_eq_true c;obtain⟨H9,H10,d9,d10,hd10,k10,pm10,lh⟩:=swap (i:=5) (j:=8) (x := "jump") (y := "farjump") rfl rfl h5 h8;refine⟨_,rfl,_,rfl,dd,_,rfl,gd (i:=5) rfl h5,gn ⟨_,rfl,_,rfl,dd,_,rfl,gd (i:=8) rfl h8,_,rfl,_,rfl,dd,_,rfl,d9,_,rfl,_,rfl,_,rfl,dd,_,rfl,d10,?_⟩⟩;refine⟨_,_,_,_,rfl,pm10,hd10,k10,fun _ x y hx hy =>?_,(fun h=>absurd h ∅),t7,lh⟩;rw[Yb ∅,Yi ⋯] at hx;rw[Yi (by rw[Wa];lia)] at hy;cases hx;cases hy;lia
    ·have c:¬_:=fun z=>c (decide_eq_true z);refine⟨jA,_,_,_,rfl,pm,hd7,k7,fun _ x y hx hy =>?_,(fun h=>absurd h ∅),t7,iU⟩;rw[h5] at hx;rw[h8] at hy;cases hx;cases hy;exact c
   ·refine⟨⟨_,_,aY.of QS,rfl⟩,?_⟩;rintro w' H8 ⟨rfl,hy⟩;have e:=hy _ (aY.of QS);obtain rfl:V.ref p2=w':=Zk e;refine⟨p2,_,rfl,aY.of VP,rfl,_,_,rfl,_,_,rfl,rfl,?_⟩;have o1:=o1 ∅;refine⟨_,rfl,_,rfl,dd,_,rfl,gd (i:=9) rfl h9,_,_,rfl,⟨sz (Qm h9),rfl⟩,_,rfl,.inl ⟨_,_,rfl,rfl,_,rfl,_,rfl,dd,_,rfl,gd (i:=6) rfl h6,_,_,rfl,⟨sz (Qm h6),rfl⟩,_,rfl,.inl ⟨_,_,rfl,rfl,_,_,rfl,rfl,_,rfl,fq (fun c =>?_) (fun c =>?_)⟩⟩⟩
    ·have c:=of_decide_eq_true c;obtain⟨H9,H10,d9,d10,hd10,k10,pm10,lh⟩:=swap (i:=6) (j:=9) (x := "zero") (y := "farzero") rfl rfl h6 h9;refine⟨_,rfl,_,rfl,dd,_,rfl,gd (i:=6) rfl h6,gn ⟨_,rfl,_,rfl,dd,_,rfl,gd (i:=9) rfl h9,_,rfl,_,rfl,dd,_,rfl,d9,_,rfl,_,rfl,_,rfl,dd,_,rfl,d10,?_⟩⟩;refine⟨_,_,_,_,rfl,pm10,hd10,k10,fun _ x y hx hy =>?_,fun _ x y hx hy =>?_,t7,lh⟩
     ·rw[Yb ∅,Yb ∅] at hx hy;exact o1 x y hx hy
     ·rw[Yb ∅,Yi ⋯] at hx;rw[Yi (by rw[Wa];lia)] at hy;cases hx;cases hy;lia
    ·have c:¬_:=fun z=>c (decide_eq_true z);refine⟨jA,_,_,_,rfl,pm,hd7,k7,fun _=>o1,fun _ x y hx hy =>?_,t7,iU⟩;rw[h6] at hx;rw[h9] at hy;cases hx;cases hy;exact c
  ·rintro σ H7 ⟨jA,x4,x5,x6,rfl,pm,hd7,k7,o1,o2,t7,iU⟩;have TY:jA.length=11:=by rw[pm.length_eq,cl]
   refine⟨⟨_,aY.of ((k7 _ e3).trans h3),Je _⟩,nx _ _ ⟨jA,_,_,_,t7,rfl,pm,hd7,?_,iU⟩⟩;obtain⟨c5,h5⟩:∃x,jA[5]? = some x:=⟨_,Jc ⋯⟩
   obtain⟨c6,h6⟩:∃x,jA[6]? = some x:=⟨_,Jc ⋯⟩
   obtain⟨c8,h8⟩:∃x,jA[8]? = some x:=⟨_,Jc ⋯⟩
   obtain⟨c9,h9⟩:∃x,jA[9]? = some x:=⟨_,Jc ⋯⟩
   unfold kX;simp only[Y8,List.any_nil,QcU];have g5:bh (aD.zip jA) (W1 "jump")=c5:=mV cN (k:=5) rfl h5;have g6:bh (aD.zip jA) (W1 "zero")=c6:=mV cN (k:=6) rfl h6;have g8:bh (aD.zip jA) (W1 ("far" ++ "jump"))=c8:=mV cN (k:=8) (by rfl) h8;have g9:bh (aD.zip jA) (W1 ("far" ++ "zero"))=c9:=mV cN (k:=9) (by rfl) h9;rw[g5,g6,g8,g9,decide_eq_false (o1 ∅ _ _ h5 h8),decide_eq_false (o2 ∅ _ _ h6 h9)]
   rfl
 rintro σ H4 ⟨cs1,x4,x5,x6,t4,rfl,pm1,hd4,hF,eY⟩;have Sj:=eY.ub;have SJ:=eY.le;have Qq:cs1.length=11:=by rw[pm1.length_eq,cl]
 have WN:fX cs1:=fr.perm pm1.symm;have Vh:∀x∈cs1,dJ x/\x.length<=11:=fun x hx=>cb x (pm1.mem_iff.mp hx);refine ip (te:=Vd _ _) (fun v H'=>∃(p:Gc) (as:List Gc) (cs:List Str) (t':Int),v = .ref p/\cs.length=4/\fX cs/\(∀x∈cs,dJ x/\x.length<=11)/\vj K b c H' p (bJ.zip cs) as/\Step b c H4 H' t4 t' 300) (fun Qn qn =>?_) ?_
 ·refine⟨_,rfl,b,c,t4,4,3,rfl,eY.bx,⋯,⋯,∅,∅,∅,∅,fun l cs2 H5 t5 cl2 fr2 cb2 hl0 qR cu =>?_⟩;refine⟨"abcd",l,cs2.map V.str,rfl,bg.of qR,∅,∅,by rw[Jd,cl2];decide +kernel,fun H6 p as s6 Go Ft al hk=>qn _ _ ⟨p,as,cs2,t5,rfl,cl2,fr2,fun x hx=>⟨(cb2 x hx).1,by have:=(cb2 x hx).2;lia⟩,⟨Ft,(cu.bx.aR Go).1,(cu.bx.aR Go).2,by rw[al,Yl,cl2];decide +kernel,fun j a qq ha hq =>?_⟩,(cu.trans (Step.same cu.bx s6)).more ⋯⟩⟩;have z:=Yw.mp hq;have hj:j<(W1 "abcd").cps.size:=by rw[<-al];exact(Ji.mp ha).1
  have ex:=Jx hj;obtain⟨u1,u2⟩:=hk j a _ (.str qq.2) ha ex (by rw[Jk,z.2];rfl);have e1:=Hy j _ ex;rw[z.1] at e1;rw[<-Zk e1] at u2;rw[dH (cu.bx.aR u1).1 (cu.bx.aR u1).2];exact u2
 rintro v H5 ⟨p5,as5,cs2,t5,rfl,cl2,fr2,cb2,P5,cu⟩;have QQ:=cu.old hd4 db dc;have S7:=cu.ub;have To:=cu.le;refine gn ?_;refine ip (te:=TJ _ _) (fun v H'=>∃(p:Gc) (as:List Gc) (cs:List Str) (t':Int),v = .ref p/\cs.length=9/\fX cs/\(∀x∈cs,dJ x/\x.length<=11)/\vj K b c H' p (aO.zip cs) as/\Step b c H5 H' t5 t' 300) (fun Qn qn =>?_) ?_
 ·refine⟨rfl,fun pk H6 n6=>⟨_,rfl,by show 3<=KE;decide,fun lp H7 n7=>⟨_,rfl,b,c,t5,3,rfl,(cu.bx.same n6.same).same n7.same,⋯,⋯,∅,∅,fun r H8 r0 r1 jx =>?_⟩⟩⟩;obtain⟨pb,pc⟩:=cu.bx.aR n6.nn;obtain⟨lb,lc⟩:=(cu.bx.same n6.same).aR n7.nn;have Xi:=jx.old (n7.same _ _ n6.at) pb pc;have Rj:=jx.old n7.at lb lc;have jx:=(Step.same cu.bx (n6.same.trans n7.same)).trans jx;obtain⟨m,hm,m4,m9⟩:∃m:Nat,([V.int 4,V.int 5,V.int 8]:List V)[r.toNat]? = some (.int (m:Nat))/\4<=m/\m<=8:=by
   have:r=0\/r=1\/r=2:=by lia
   rcases this with rfl|rfl|rfl
   ·exact⟨4,rfl,∅,∅⟩
   ·exact⟨5,rfl,∅,∅⟩
   ·exact⟨8,rfl,∅,∅⟩
  have mm:9<=2^m:=Jg (show 9<=2^4 by decide) (Y1 ∅ m4);refine .inl ⟨lp,_,r,.int (m:Nat),rfl,rfl,bg.of Rj,gT r0 hm,b,c,t5+1,9,m,rfl,jx.bx,⋯,⋯,∅,∅,mm,⋯,fun l cs3 H9 t9 cl3 fr3 cb3 hl0 qR lH =>?_⟩;have WX:=lH.old Xi pb pc;have lH:=jx.trans lH;refine⟨pk,l,aO.map V.str,cs3.map V.str,rfl,bg.of WX,bg.of qR,fun H10 p as s10 Go Ft al hk=>qn _ _ ⟨p,as,cs3,t9,rfl,cl3,fr3,fun x hx=>⟨(cb3 x hx).1,by have:=(cb3 x hx).2;lia⟩,⟨Ft,(lH.bx.aR Go).1,(lH.bx.aR Go).2,by rw[al,Jd,Jd,Yl],fun j a qq ha hq =>?_⟩,(lH.trans (Step.same lH.bx s10)).more ⋯⟩⟩;have z:=Yw.mp hq;obtain⟨u1,u2⟩:=hk j a (.str qq.1) (.str qq.2) ha (by rw[Jk,z.1];rfl) (by rw[Jk,z.2];rfl);rw[dH (lH.bx.aR u1).1 (lH.bx.aR u1).2];exact u2
 rintro v H6 ⟨p6,as6,cs3,t6,rfl,cl3,fr3,cb3,P6,kG⟩;have M7:=kG.old QQ db dc;have P5:=P5.step kG;have WK:=kG.ub;have V3:=kG.le;refine gn ?_;have M1:=tD nz.1 (Je 11) Vh;have Od:=tD nz.2.1 (Je 11) cb2;have M6:=tD nz.2.2 (Je 11) cb3;have Wm:(aD.zip cs1).length=11:=by rw[Yl,Qq];rfl
 have W7:(bJ.zip cs2).length=4:=by rw[Yl,cl2];rfl
 have Xw:(aO.zip cs3).length=9:=by rw[Yl,cl3];rfl
 have NP:=(eY.trans cu).trans kG;refine⟨_,rfl,_,rfl,dd,_,rfl,M7,fun H7 p7 as7 s7 Go Ft al hk =>?_⟩;have iU:=Step.same kG.bx s7;have P5:=P5.step iU;have P6:=P6.step iU;obtain⟨zs,ez1,ez2,M⟩:=Ff (K:=K) (G:=ig H7 b c) (bk:=aD.zip cs1) (as:=as7) (by rw[al];unfold gV;rw[Jd]) ⋯ (fun qq hq=>⟨(M1 qq hq).1,(M1 qq hq).2.1⟩) (fun j a qq ha hq=>by
  obtain⟨u1,u2⟩:=hk j a (.inr qq.1) (.str qq.2) ha (by unfold gV;rw[Jk,hq];rfl);rw[dH (kG.bx.aR u1).1 (kG.bx.aR u1).2];exact u2)
 refine⟨b,c,p7,t6,ig H7 b c,zs,rfl,iU.bx,⋯,⋯,ar.refl _,.inl (bg.of (by rw[Ft,ez2])),M,fun l1 zs1 H8 t8 pz1 hl10 hl11 jx =>?_⟩;have XF:=jx.ub;have Wl:=jx.le;obtain⟨l1b,l1c⟩:=iU.bx.aR hl10;obtain⟨qb,pb1,D1⟩:=za ez1 M pz1 jx.sm (by rw[dH l1b l1c];exact hl11);have P5:=P5.step jx;have P6:=P6.step jx;obtain⟨zs,ez1,ez2,M⟩:=Ff (K:=K) (G:=ig H8 b c) P5.len ⋯ (fun qq hq=>⟨(Od qq hq).1,(Od qq hq).2.1⟩) P5.prs;refine⟨_,rfl,_,rfl,b,c,p5,t8,ig H8 b c,zs,rfl,jx.bx,⋯,⋯,ar.refl _,.inl (bg.of (by rw[P5.at',ez2])),M,fun l2 zs2 H9 t9 pz2 hl20 hl21 lH =>?_⟩;have YR:=lH.ub;have YU:=lH.le;obtain⟨l2b,l2c⟩:=jx.bx.aR hl20;obtain⟨uE,pb2,D2⟩:=za ez1 M pz2 lH.sm (by rw[dH l2b l2c];exact hl21);have P6:=P6.step lH;obtain⟨zs,ez1,ez2,M⟩:=Ff (K:=K) (G:=ig H9 b c) P6.len ⋯ (fun qq hq=>⟨(M6 qq hq).1,(M6 qq hq).2.1⟩) P6.prs;refine⟨_,rfl,_,rfl,b,c,p6,t9,ig H9 b c,zs,rfl,lH.bx,⋯,⋯,ar.refl _,.inl (bg.of (by rw[P6.at',ez2])),M,fun l3 zs3 H10 t10 pz3 hl30 hl31 lh =>?_⟩;obtain⟨l3b,l3c⟩:=lH.bx.aR hl30;obtain⟨uz,pb3,D3⟩:=za ez1 M pz3 lh.sm (by rw[dH l3b l3c];exact hl31);refine⟨_,rfl,_,rfl,by show 5<=KE;decide,fun l H11 n11 =>?_⟩;have R0:=((((NP.trans iU).trans jx).trans lH).trans lh).dN n11;have L4:=(Step.same lh.bx n11.same).sm;refine q l _ _ _ qb uE uz near eU H11 t10 ⟨?_,?_,?_,?_,?_,?_,⋯⟩ (((((NP.trans iU).trans jx).trans lH).trans lh).fresh bx n11.nn) n11.at (b8 (D1.same (lH.sm.trans (lh.sm.trans L4))) (b8 (D2.same (lh.sm.trans L4)) (b8 (D3.same L4) qA))) (R0.more ⋯)
 ·refine DN (tj PU (by rw[Qq];rfl) ⋯ (fun x hx=>(Vh x hx).1) WN pb1) (tj Ku (by rw[cl2];rfl) ⋯ (fun x hx=>(cb2 x hx).1) fr2 pb2) (tj KP (by rw[cl3];rfl) ⋯ (fun x hx=>(cb3 x hx).1) fr3 pb3) n2 n8 nf N8 ?_;rw[Ep pb1 (gw (by rw[Qq];rfl))];exact hF
 ·have:=pb1.map (·.1);rw[gw (by rw[Qq];rfl)] at this;exact this
 ·rw[pb1.length_eq,Wm]
 ·rw[pb2.length_eq,W7]
 ·rw[pb3.length_eq,Xw]
 ·rintro qq (hq|hq|hq)
  ·exact M1 qq (pb1.mem_iff.mp hq)
  ·exact Od qq (pb2.mem_iff.mp hq)
  ·exact M6 qq (pb3.mem_iff.mp hq)
end
def jY:Nat->Nat->List Nat
 | 0,_=>[]
 | k+1,n=>jY k (n / 2)++[48+n%2]
def fN (n k:Nat):Str:=⟨(jY k n).toArray⟩
def j2:∀(k n:Nat),((Qbg k).map fun j=>48+n / 2^j%2).reverse=jY k n
 | 0,_=>rfl
 | k+1,n=>by
  rw[Qcf,Jz,List.reverse_cons,Ym];show _++[48+n / 2^0%2]=jY k (n / 2)++[48+n%2];rw[<-j2 k (n / 2)]
  congr 2
  ·refine Y7 fun j _ =>?_;show 48+n / 2^(j+1)%2=48+n / 2 / 2^j%2;rw[Qe3,Qcp,Qe1]
  ·simp
def uW:∀(k n:Nat),(jY k n).length=k
 | 0,_=>rfl
 | k+1,n=>by unfold jY;rw[Jt,uW k];rfl
def HQ (n:Nat):(W1 (toString ((n%2:Nat):Int)))=⟨#[48+n%2]⟩:=by
 rcases Nat.mod_two_eq_zero_or_one n with h|h<;>rw[h]<;>decide +kernel
def IH:Sp:=fun vs H Q _=>fG fun(n k:Nat)=>vs=[.int n,.int k]/\k<=60/\∀H',ar H H'->Q (.str (fN n k)) H'
def si:Sp:=fun vs H Q _=>∃n:Nat,vs=[.int n]/\n<=1000/\Q (.int (2^n)) H
section
variable {P:YZ}{w:Zb}{K:Ja}{mg:Str->Option Fk}{base:Heap}{f:Gc}{fd:Zc}
def uK:aG ["power", "whole", "step"] ["power"] (ai (top qD)):=⟨rfl,rfl,rfl,∅,rfl,∅,∅⟩
def Lz (F:dM K "two_to" "two_to" (top qD) f fd)(T:Nm mg):aW P w K mg base dI 1 f fd ["power"] si:=by
 refine F.ok uK (fun vs H Q E h =>?_) (fun bS A outer s H vs Q E hr h =>?_)
 ·obtain⟨n,rfl,_⟩:=h
  rfl
 obtain⟨n,rfl,hn,q⟩:=h;refine⟨_,(af (ay (i:=1) uK.nd rfl (YY rfl) ah)
  (af (fe Zw rfl (eg rfl T.n_range (aa (pv 0) ae)) (aI (i:=2) uK.nd rfl (YY rfl)) (ag (DG (i:=1) uK.nd rfl (YY rfl) (pv 1) Mr)))
  (ag (ao (pv 1))))),?_⟩
 refine⟨_,rfl,_,rfl,⋯,⋯,?_⟩;refine km (lo:=0) (n:=n) (fun i σ H'=>H'=H/\∃st,σ=[some (.int n),some (.int (2^i)),st]) ⟨rfl,_,rfl⟩ ?_ ?_
 ·rintro i σ H' hi ⟨rfl,st,rfl⟩;refine⟨_,rfl,_,rfl,_,_,rfl,rfl,rfl,some (.int (0+i)),?_⟩;rw[<-DC]
  rfl
 ·rintro σ H' ⟨rfl,st,rfl⟩;exact⟨_,rfl,q⟩
end
inductive Arg where
 | sp (x:Str)|nu (n:Nat)|ma (n:Nat)|ne (d:Int)|fa (d:Int)
def Arg.kind:Arg->Str
 | .sp _ => "spot" | .nu _ => "number" | .ma _ => "many" | .ne _ => "near" | .fa _ => "far"
def Arg.v:Arg->V
 | .sp x =>.str x | .nu n =>.int (n:Nat) | .ma n =>.int (n:Nat) | .ne d =>.int d | .fa d =>.int d
def Arg.ok:Arg->Prop
 | .sp x=>x∈bJ | .nu n=>n<=255 | .ma n=>n<=7 | .ne d=>d.natAbs<=1000000 | .fa d=>d.natAbs<=1000000
def inD (d:Int)(k:Nat):Bool:=decide (-(2^(k-1))<=d)&&decide (d<2^(k-1))
def nW (d:Int)(k:Nat):Option Str:=if inD d k=true then some (fN ((if d<0 then d+2^k else d).toNat) k) else none
def dX (n:Nat):Nat:=Qa8 (n:Int)
structure Fb where
 b1:List (Str×Str)
 b2:List (Str×Str)
 b3:List (Str×Str)
 near:Nat
 eU:Nat
def ij (F:Fb):Arg->Option Str
 | .sp x=>some (bh F.b2 x)
 | .nu n=>some (bh F.b3 (aO.getD (dX n) Zt)++Zi (fN n (dX n)) (some 1) none)
 | .ma n=>some (fN n 3++QaZ (W1 "0") (n:Nat))
 | .ne d=>nW d F.near
 | .fa d=>nW d F.eU
def eC (F:Fb):List Arg->Option (List Str)
 | []=>some []
 | a::r=>match ij F a with
  | none=>none
  | some x=>(eC F r).map (x :: ·)
def o9 (F:Fb)(w:Str)(as:List Arg):Option Str:=(eC F as).map fun ts=>Qad "" (bh F.b1 w::ts)
structure kB (F:Fb):Prop where
 g:Good3 F.b1 F.b2 F.b3 F.near F.eU
 n2:(F.b2.map (·.1)).Perm bJ
 n3:(F.b3.map (·.1)).Perm aO
 nr:2<=F.near/\F.near<=8
 fr:F.near<F.eU/\F.eU<=16
def vG {ns:List Str}{bk:List (Str×Str)}(h:cU ns (aQ bk)=true):(bk.map (·.1)).Perm ns:=by
 unfold cU at h;rw[Js,Js] at h;have:=of_decide_eq_true h.2.1;rw[show cQ (iA (aQ bk))=bk from iC bk] at this;exact this
def Good3.V7 {b1 b2 b3:List (Str×Str)}{near eU:Int}(g:Good3 b1 b2 b3 near eU):kB ⟨b1,b2,b3,near.toNat,eU.toNat⟩/\near=(near.toNat:Nat)/\eU=(eU.toNat:Nat):=by
 obtain⟨h1,h2,h3⟩:=pq g.why;have w:=g.why;unfold md at w;rw[if_neg (by rw[h1];decide),if_neg (by rw[h2];decide),if_neg (by rw[h3];decide)] at w;unfold DZ at w;have hn:vc (.int near)=true:=by
  cases e:vc (.int near) with
  | true=>rfl
  | false=>rw[if_pos e] at w;cases w
 rw[if_neg (by rw[hn];decide)] at w;have hf:AU (aQ b1) (.int near) (.int eU)=true:=by
  cases e:AU (aQ b1) (.int near) (.int eU) with
  | true=>rfl
  | false=>rw[if_pos e] at w;cases w
 have hn:(decide (2<=near)&&decide (near<=8))=true:=hn;have hf:(decide (near<eU)&&(decide (eU<=16) && !kX (cQ (iA (aQ b1))) near eU))=true:=hf;rw[Js,decide_eq_true_eq,decide_eq_true_eq] at hn;rw[Js,Js,decide_eq_true_eq,decide_eq_true_eq] at hf;have en:near=(near.toNat:Nat):=by lia
 have ef:eU=(eU.toNat:Nat):=by lia
 exact⟨⟨by show Good3 b1 b2 b3 (near.toNat:Nat) (eU.toNat:Nat);rw[<-en,<-ef];exact g,vG h2,vG h3,by show 2<=near.toNat/\near.toNat<=8;lia,by show near.toNat<eU.toNat/\eU.toNat<=16;lia⟩,en,ef⟩
def xu {n:Nat}(h:n<=255):dX n<=8:=by
 unfold dX Qa8
 split
 ·decide
 ·rename_i hz;have xA:((n:Nat):Int).natAbs≠0:=fun z=>hz (by simp;lia);have:=(Nat.log2_lt xA).mpr (show((n:Nat):Int).natAbs<2^8 by lia);lia
def fJ (n k:Nat):(fN n k).length=k:=by
 show(jY k n).toArray.size=k;rw[Jv,uW]
def FR {bk:List (Str×Str)}{x:Str}(h:∀q∈bk,q.2.length<=11):(bh bk x).length<=11:=by
 induction bk with
 | nil=>exact Uq _
 | cons q r ih=>
  unfold bh
  split
  ·exact h q Jm
  ·exact ih fun z hz=>h z (Jj _ hz)
def kB.c1 {F:Fb}(h:kB F)(x:Str):(bh F.b1 x).length<=11:=FR fun q hq=>(h.g.sz q (.inl hq)).2.2.2
def kB.c2 {F:Fb}(h:kB F)(x:Str):(bh F.b2 x).length<=11:=FR fun q hq=>(h.g.sz q (.inr (.inl hq))).2.2.2
def kB.c3 {F:Fb}(h:kB F)(x:Str):(bh F.b3 x).length<=11:=FR fun q hq=>(h.g.sz q (.inr (.inr hq))).2.2.2
def Gz {F:Fb}(h:kB F){a:Arg}(ha:a.ok){x:Str}(e:ij F a=some x):x.length<=40:=by
 have nr:=h.nr;have fr:=h.fr;have dl:∀{d:Int} {k:Nat} {x:Str},nW d k=some x->x.length=k:=fun e=>by
  unfold nW at e
  split at e
  ·cases e;exact fJ _ _
  ·cases e
 cases a with
 | sp y=>cases e;have:=h.c2 y;lia
 | nu n=>
  cases e;have h1:=h.c3 (aO.getD (dX n) Zt);have h2:=Qcl (fN n (dX n)) (some 1) none;have h3:=xu ha;rw[Zn];rw[fJ] at h2;lia
 | ma n=>
  cases e;have hn:n<=7:=ha;rw[Zn,fJ];have:∀n,n<=7->(QaZ (W1 "0") ((n:Nat):Int)).length<=10:=∅;have:=this n hn;lia
 | ne d=>have:=dl e;lia
 | fa d=>have:=dl e;lia
def mi (K:Ja)(CF:Gc)(H:Hp)(m:Gc)(F:Fb):Prop:=jE K CF H m (aQ F.b1) (aQ F.b2) (aQ F.b3) (.int (F.near:Nat)) (.int (F.eU:Nat))
abbrev gm:List (Str×List Str):=[("set",["spot", "number"]),("add",["spot", "spot"]),("take",["spot", "spot"]),("tell",["spot"]),("ask",["spot"]),("jump",["near"]),("zero",["spot", "near"]),("stop",[]),("farjump",["far"]),("farzero",["spot", "far"]),("skip",["many"])]
def gO:∀q∈gm,q.1∈aD/\q.2.length<=2:=∅
structure y3 (w:Str)(as:List Arg):Prop where
 pt:∃q∈gm,w=q.1/\as.map Arg.kind=q.2
 ok:∀a∈as,a.ok
structure OJ (K:Ja)(w:Zb)(mg:Str->Option Fk)(aP:Gc):Prop where
 g:mg "PARTS" = some (.ref aP)
 cd:JC K w aP
 pt:∀q∈gm,∃p,Qee K aP q.1=some (some (.ref p))/\∀H,aY K H p (q.2.map V.str)
def sC {F:Fb}{a:Arg}(e:ij F a=none):∀{as:List Arg},a∈as->eC F as=none
 | b::as,h=>by
  show(match ij F b with|none=>none|some x=>(eC F as).map (x :: ·))=none
  rcases Jq.mp h with rfl|h
  ·rw[e]
  ·rw[sC e h];cases ij F b<;>rfl
def vV {F:Fb}(fr:kB F):∀{as:List Arg} {ts:List Str},(∀a∈as,a.ok)->eC F as=some ts->ts.length=as.length/\((ts.map fun x=>x.length).sum<=40*as.length)
 | [],ts,_,e=>by cases e;exact⟨rfl,Je _⟩
 | a::as,ts,ok,e=>by
  have e:(match ij F a with|none=>none|some x=>(eC F as).map (x :: ·))=some ts:=e;cases ea:ij F a with
  | none=>rw[ea] at e;cases e
  | some x=>
   rw[ea] at e;cases er:eC F as with
   | none=>rw[er] at e;cases e
   | some us=>
    rw[er] at e;cases e;obtain⟨h1,h2⟩:=vV fr (fun b hb=>ok b (Jj _ hb)) er;have:=Gz fr (ok a Jm) ea;refine⟨by rw[Jn,Jn,h1],?_⟩;rw[Jz,Yq,Jn];lia
def ky (w:Str):Bool:=(["farjump", "farzero"]:List Str).contains w
def rq (n i:Nat):fN n (i+1)=(⟨#[48+n / 2^i%2]⟩:Str)++fN n i:=by
 refine eI ?_;rw[aK];show jY (i+1) n=[48+n / 2^i%2]++jY i n;rw[<-j2,<-j2,List.range_succ,J0,List.reverse_append]
 rfl
def uB:Sp:=fun vs H Q _=>∃w:Str,vs=[.str w]/\∀H',ar H H'->Q (.bl (ky w)) H'
section
variable {P:YZ}{w:Zb}{K:Ja}{mg:Str->Option Fk}{base:Heap}{f:Gc}{fd:Zc}
def gb:aG ["_law_many", "_law_found", "_law_k"] ["_law_many"] (ai (top j9)):=⟨rfl,rfl,rfl,∅,rfl,∅,∅⟩
def Gf (F:dM K "_law_power" "_law_power" (top j9) f fd)(T:Nm mg):aW P w K mg base dI 1 f fd ["_law_many"] si:=by
 refine F.ok gb (fun vs H Q E h =>?_) (fun bS A outer s H vs Q E hr h =>?_)
 ·obtain⟨n,rfl,_⟩:=h
  rfl
 obtain⟨n,rfl,n1,q⟩:=h;refine⟨_,(af (ay (i:=1) gb.nd rfl (YY rfl) ah)
  (af (fe Zw rfl (eg rfl T.n_range (aa (pv 0) ae)) (aI (i:=2) gb.nd rfl (YY rfl)) (ag (ay (i:=1) gb.nd rfl (YY rfl) (aw kz ah (pv 1)))))
  (ag (ao (pv 1))))),?_⟩
 refine⟨_,rfl,n,rfl,⋯,⋯,?_⟩;refine km (lo:=0) (n:=n) (fun i σ H'=>∃x2,σ=[some (.int (n:Nat)),some (.int (2^i)),x2]/\H'=H) ⟨_,rfl,rfl⟩ ?_ ?_
 ·rintro i σ H2 hi ⟨x2,rfl,rfl⟩;refine⟨_,rfl,.inl ⟨_,_,rfl,rfl,.inl ⟨∅,∅⟩,some (.int (0+i)),?_,rfl⟩⟩;rw[Qdd,Qe6]
  rfl
 ·rintro σ H2 ⟨x2,rfl,rfl⟩;exact⟨_,rfl,q⟩
def di:aG ["_law_number", "_law_many", "_law_found", "_law_k"] ["_law_number", "_law_many"] (ai (top ie)):=⟨rfl,rfl,rfl,∅,rfl,∅,∅⟩
def HC (F:dM K "_law_figures" "_law_figures" (top ie) f fd)(T:Nm mg):aW P w K mg base dI 1 f fd ["_law_number", "_law_many"] IH:=by
 refine F.ok di (fun vs H Q E h =>?_) (fun bS A outer s H vs Q E hr h =>?_)
 ·obtain⟨n,k,rfl,_⟩:=h
  rfl
 obtain⟨n,k,rfl,hk,q⟩:=h;refine⟨_,(af (ay (i:=2) di.nd rfl (YY rfl) aq)
  (af (fe Zw rfl (eg rfl T.n_range (aa (pv 1) ae)) (aI (i:=3) di.nd rfl (YY rfl)) (af (ay (i:=2) di.nd rfl (YY rfl) (aw bw (aX uL rfl T.n_str (by rfl) (aa (aw j3 (pv 0) ah) ae)) (pv 2)))
  (ag (ay (i:=0) di.nd rfl (YY rfl) (aw AH (pv 0) ah)))))
  (ag (ao (pv 2))))),?_⟩
 refine⟨_,rfl,k,rfl,⋯,⋯,?_⟩;refine km (lo:=0) (n:=k) (fun i σ H'=>∃x3,σ=[some (.int ((n / 2^i:Nat):Int)),some (.int (k:Nat)),some (.str (fN n i)),x3]/\H'=H) ⟨_,by simp;rfl,rfl⟩ ?_ ?_
 ·rintro i σ H2 hi ⟨x2,rfl,rfl⟩;have lg:((n / 2^i%2:Nat):Int).natAbs.log2<1920:=by
   have hb:((n / 2^i%2:Nat):Int).natAbs=0\/((n / 2^i%2:Nat):Int).natAbs=1:=by lia
   rcases hb with z|z<;>rw[z]<;>decide
  have em:((n / 2^i:Nat):Int)%2=((n / 2^i%2:Nat):Int):=by lia
  refine⟨_,rfl,_,_,rfl,rfl,(by show(0:Int)<2;decide),_,rfl,by rw[em];exact lg,_,rfl,?_⟩;rw[em,HQ];have fl:=fJ n i;refine .inr (.inl ⟨_,_,rfl,rfl,Jg (show _<=100 by show 1+(fN n i).length<=100;lia) ∅,?_⟩);have ed:((n / 2^i:Nat):Int) / 2=((n / 2^(i+1):Nat):Int):=by rw[Qcp,<-Qe3];lia
  refine⟨_,rfl,_,_,rfl,rfl,⟨∅,∅⟩,some (.int (0+i)),?_,rfl⟩;rw[rq,<-ed]
  rfl
 ·rintro σ H2 ⟨x2,rfl,rfl⟩;exact⟨_,rfl,q _ (ar.refl _)⟩
def og:aG ["_law_word"] ["_law_word"] (ai (top gR)):=⟨rfl,rfl,rfl,∅,rfl,∅,∅⟩
def GH (F:dM K "_law_far_word" "_law_far_word" (top gR) f fd)(T:Nm mg):aW P w K mg base dI 1 f fd ["_law_word"] uB:=by
 refine F.ok og (fun vs H Q E h =>?_) (fun bS A outer s H vs Q E hr h =>?_)
 ·obtain⟨w,rfl,_⟩:=h
  rfl
 obtain⟨wd,rfl,q⟩:=h;refine⟨_,(ag (ao (cT (Np K) (pv 0) (bK (aa aq (aa aq ae))) (by with_unfolding_all rfl)))),?_⟩;refine⟨_,rfl,by show 2<=KE;decide,fun p H1 n1 =>?_⟩;refine⟨p,(["farjump", "farzero"]:List Str).map V.str,rfl,.inr (aY.of n1.at),rfl,rfl,?_⟩;rw[if_neg Jr,oI];exact q H1 n1.same
end
def Lr {x:Str}(h:1<=x.length):sg (Zi x (some 1) none)=(sg x).drop 1:=by
 rw[QcV (b:=(x.length:Int)) ∅ ⋯ rfl];show(((sg x).drop (1:Int).toNat).take ((x.length:Int)-1).toNat).toArray.toList=_;rw[Qbt,Uv]
 ·rfl
 ·rw[Uj,<-str_len];show x.length-1<=_;lia
def rE (n k:Nat):Zi (fN n k) (some 1) none=fN n (k-1):=by
 cases k with
 | zero=>
  show Zi (fN n 0) (some 1) none=fN n 0;exact(by decide +kernel:Zi (⟨#[]⟩:Str) (some 1) none=⟨#[]⟩)
 | succ k=>
  refine eI ((Lr (by rw[fJ];lia)).trans ?_);rw[rq];show((⟨#[48+n / 2^k%2]⟩:Str)++fN n k).cps.toList.drop 1=_;rw[aK]
  rfl
def Ec (n k:Nat):fN (n+2^k) k=fN n k:=by
 refine eI ?_;show jY k (n+2^k)=jY k n;rw[<-j2,<-j2]
 congr 1
 refine Y7 fun j hj =>?_;have hj:=List.mem_range.mp hj
 congr 1
 have e:2^k=2^(k-j-1)*2*2^j:=by
  rw[Nat.mul_assoc,Qe1 2,<-Qcp,<-Nat.pow_add]
  congr 1
  lia
 rw[e,Nat.add_mul_div_right _ _ (QdN j),Nat.add_mul_mod_self_right]
def C7 {d:Int}{k:Nat}(h1:1<=k)(h:inD d k=true):nW d k=some (fN (d+2^k).toNat k):=by
 unfold nW;rw[if_pos h];unfold inD at h;rw[Js,decide_eq_true_eq,decide_eq_true_eq] at h;have p2:(2:Int)^k=2*2^(k-1):=by
  rw[show k=(k-1)+1 by lia,Qdd,Qe6];rfl
 have pp:(0:Int)<2^(k-1):=Int.pow_pos ∅
 by_cases c:d<0
 ·rw[if_pos c]
 ·rw[if_neg c];have:(d+2^k).toNat=d.toNat+2^k:=by
   have e:((2^k:Nat):Int)=2^k:=by push_cast;rfl
   lia
  rw[this,Ec]
def Mj (n s:Nat):2^s<=n↔s<dX n:=by
 unfold dX Qa8
 by_cases h:n=0
 ·subst h;have:=QdN s;constructor
  ·intro z;lia
  ·intro z;exact absurd z (by simp)
 ·have hz:¬(((n:Nat):Int)==0)=true:=by simp;lia
  have e:((n:Nat):Int).natAbs=n:=rfl;rw[e,if_neg hz,<-Nat.le_log2 h];lia
def join_cons (x:Str)(r:List Str):Qad "" (x::r)=x++Qad "" r:=by
 refine eI ?_;rw[fg,aK,fg,List.flatMap_cons]
def Dj (x r:List Str):Qad "" (x++r)=Qad "" x++Qad "" r:=by
 refine eI ?_;rw[fg,aK,fg,fg,List.flatMap_append]
def join_nil:Qad "" []=Zt:=rfl
def tO (x:Str):x++Zt=x:=by
 refine eI ?_;rw[aK];exact Uu _
def tu (x y z:Str):x++y++z=x++(y++z):=by
 refine eI ?_;rw[aK,aK,aK,aK,Y4]
def tZ {F:Fb}:∀(xs:List Str) (r:List Arg),eC F (xs.map Arg.sp++r)=(eC F r).map fun ts=>xs.map (bh F.b2)++ts
 | [],r=>by
  show eC F r=_;cases eC F r<;>rfl
 | x::xs,r=>by
  have ih:=tZ (F:=F) xs r;show(eC F (xs.map Arg.sp++r)).map (bh F.b2 x :: ·)=_;rw[ih];cases eC F r<;>rfl
def gj {a:Arg}(h:a.kind = "spot"):∃x,a = .sp x:=by
 cases a<;>first|exact⟨_,rfl⟩|exact absurd h (of_decide_eq_false rfl)
def G2 {a:Arg}(h:a.kind = "number"):∃x,a = .nu x:=by
 cases a<;>first|exact⟨_,rfl⟩|exact absurd h (of_decide_eq_false rfl)
def G7 {a:Arg}(h:a.kind = "many"):∃x,a = .ma x:=by
 cases a<;>first|exact⟨_,rfl⟩|exact absurd h (of_decide_eq_false rfl)
def zy {a:Arg}(h:a.kind = "near"):∃x,a = .ne x:=by
 cases a<;>first|exact⟨_,rfl⟩|exact absurd h (of_decide_eq_false rfl)
def zN {a:Arg}(h:a.kind = "far"):∃x,a = .fa x:=by
 cases a<;>first|exact⟨_,rfl⟩|exact absurd h (of_decide_eq_false rfl)
def FA {α:Type}(a v: α)(ys:List α):vp (a::(ys++[v])) (-1)=some v:=by
 have l:(a::(ys++[v])).length=ys.length+2:=by rw[Jn,Jt];rfl
 unfold vp CW;rw[l,if_neg ∅,if_pos ⋯,show((-1:Int)+((ys.length+2:Nat):Int)).toNat=ys.length+1 by lia];show(ys++[v])[ys.length]? = some v;rw[U0 (Je _),Nat.sub_self]
 rfl
def Iu (a v:V)(ys:List V):lq (a::(ys++[v])) (some 1) (some (-1))=ys:=by
 have l:(a::(ys++[v])).length=ys.length+2:=by rw[Jn,Jt];rfl
 have e1:HT.eQ (ys.length+2) 0 (some 1)=1:=by
  show HT.eQ _ 0 (some ((1:Nat):Int))=1;rw[HT.lS];lia
 have e2:HT.eQ (ys.length+2) (ys.length+2) (some (-1))=ys.length+1:=by
  show(if (-1:Int)<0 then ((-1:Int)+((ys.length+2:Nat):Int)).toNat else min (-1:Int).toNat (ys.length+2))=_;rw[if_pos ∅];lia
 unfold lq;rw[l,e1,e2];show((ys++[v]).drop 0).take (ys.length+1-1)=ys;rw[Qd3,Nat.add_sub_cancel,List.take_left']
 rfl
def kB.sum {F:Fb}(h:kB F):∀xs:List Str,((xs.map (bh F.b2)).map fun x=>x.length).sum<=11*xs.length
 | []=>Je _
 | y::ys=>by
  have ih:=h.sum ys;have:=h.c2 y;rw[Jz,Jz,Yq,Jn];lia
def eT (xs:List Str):(Qad "" xs).length=(xs.map fun x=>x.length).sum:=by
 rw[str_len,fg,List.length_flatMap]
 rfl
abbrev iX:List Str:=["jump", "zero", "farjump", "farzero"]
abbrev JN:List Str:=["add", "take", "tell", "ask", "stop"]
def kY (w:Str)(d:Int):Arg:=if ky w=true then .fa d else .ne d
def y3.cls {w:Str}{as:List Arg}(b:y3 w as):(w = "skip" /\ ∃n,as=[.ma n])\/(w∈iX/\∃(xs:List Str) (d:Int),xs.length<=1/\as=xs.map Arg.sp++[kY w d])\/(w = "set" /\ ∃x n,as=[.sp x,.nu n])\/(w∈JN/\∃xs:List Str,xs.length<=2/\as=xs.map Arg.sp):=by
 obtain⟨q,hq,rfl,ek⟩:=b.pt;have n0:∀{as:List Arg},as.map Arg.kind=[]->as=[]:=fun h=>List.map_eq_nil_iff.mp h;have n1:∀{as:List Arg} {a:Str} {r:List Str},as.map Arg.kind=a::r->∃x t,as=x::t/\x.kind=a/\t.map Arg.kind=r:=fun{as a r} h=>by
  cases as with
  | nil=>cases h
  | cons x t=>rw[Jz] at h;injection h with h1 h2;exact⟨x,t,rfl,h1,h2⟩
 simp only[gm,Jq,Uk,or_false] at hq
 rcases hq with rfl|rfl|rfl|rfl|rfl|rfl|rfl|rfl|rfl|rfl|rfl
 ·obtain⟨a,t,rfl,h1,h⟩:=n1 ek;obtain⟨c,t,rfl,h2,h⟩:=n1 h;obtain rfl:=n0 h;obtain⟨x,rfl⟩:=gj h1;obtain⟨n,rfl⟩:=G2 h2;exact .inr (.inr (.inl ⟨rfl,x,n,rfl⟩))
 ·obtain⟨a,t,rfl,h1,h⟩:=n1 ek;obtain⟨c,t,rfl,h2,h⟩:=n1 h;obtain rfl:=n0 h;obtain⟨x,rfl⟩:=gj h1;obtain⟨y,rfl⟩:=gj h2;exact .inr (.inr (.inr ⟨by simp,[x,y],by simp,rfl⟩))
 ·obtain⟨a,t,rfl,h1,h⟩:=n1 ek;obtain⟨c,t,rfl,h2,h⟩:=n1 h;obtain rfl:=n0 h;obtain⟨x,rfl⟩:=gj h1;obtain⟨y,rfl⟩:=gj h2;exact .inr (.inr (.inr ⟨by simp,[x,y],by simp,rfl⟩))
 ·obtain⟨a,t,rfl,h1,h⟩:=n1 ek;obtain rfl:=n0 h;obtain⟨x,rfl⟩:=gj h1;exact .inr (.inr (.inr ⟨by simp,[x],by simp,rfl⟩))
 ·obtain⟨a,t,rfl,h1,h⟩:=n1 ek;obtain rfl:=n0 h;obtain⟨x,rfl⟩:=gj h1;exact .inr (.inr (.inr ⟨by simp,[x],by simp,rfl⟩))
 ·obtain⟨a,t,rfl,h1,h⟩:=n1 ek;obtain rfl:=n0 h;obtain⟨d,rfl⟩:=zy h1;exact .inr (.inl ⟨by simp,[],d,∅,rfl⟩)
 ·obtain⟨a,t,rfl,h1,h⟩:=n1 ek;obtain⟨c,t,rfl,h2,h⟩:=n1 h;obtain rfl:=n0 h;obtain⟨x,rfl⟩:=gj h1;obtain⟨d,rfl⟩:=zy h2;exact .inr (.inl ⟨by simp,[x],d,by simp,rfl⟩)
 ·obtain rfl:=n0 ek;exact .inr (.inr (.inr ⟨by simp,[],∅,rfl⟩))
 ·obtain⟨a,t,rfl,h1,h⟩:=n1 ek;obtain rfl:=n0 h;obtain⟨d,rfl⟩:=zN h1;exact .inr (.inl ⟨by simp,[],d,∅,rfl⟩)
 ·obtain⟨a,t,rfl,h1,h⟩:=n1 ek;obtain⟨c,t,rfl,h2,h⟩:=n1 h;obtain rfl:=n0 h;obtain⟨x,rfl⟩:=gj h1;obtain⟨d,rfl⟩:=zN h2;exact .inr (.inl ⟨by simp,[x],d,by simp,rfl⟩)
 ·obtain⟨a,t,rfl,h1,h⟩:=n1 ek;obtain rfl:=n0 h;obtain⟨n,rfl⟩:=G7 h1;exact .inl ⟨rfl,n,rfl⟩
structure iG (K:Ja)(H:Hp)(lp:Gc)(F:Fb):Prop where
 ex:oG fun r1 r2 r3=>bg K H lp [r1,r2,r3,.int (F.near:Nat),.int (F.eU:Nat)]/\a8 K H [aQ F.b1,aQ F.b2,aQ F.b3] [r1,r2,r3]
def iG.same {K:Ja}{H H':Hp}{lp:Gc}{F:Fb}(h:iG K H lp F)(s:ar H H'):iG K H' lp F:=by
 obtain⟨r1,r2,r3,h1,h2⟩:=h.ex;exact⟨r1,r2,r3,s.seq h1,h2.same s⟩
def P8 (K:Ja):Sp:=fun vs H Q _=>vY fun(lp p:Gc) (F:Fb) (w:Str) (as:List Arg)=>vs=[.ref lp,.ref p]/\iG K H lp F/\kB F/\y3 w as/\aY K H p (.str w::as.map Arg.v)/\∀H',ar H H'->Q (EC (o9 F w as)) H'
def oN {K:Ja}{H:Hp}{bk:List (Str×Str)}{v:V}(h:Den K H (aQ bk) v):∃(p:Gc) (as:List Gc),v = .ref p/\bg K H p (as.map V.ref)/\as.length=(gV bk).length/\∀(j:Nat) b (kv:Key×V),as[j]? = some b->(gV bk)[j]? = some kv->aY K H b [kV kv.1,kv.2]:=by
 unfold aQ Den at h;obtain⟨a,us,rfl,hS,hd⟩:=h;obtain⟨as,rfl,al,hT⟩:=tV hd;exact⟨a,as,rfl,hS,by unfold gV;rw[Jd];exact al,hT⟩
def oO (bk:List (Str×Str)):(gV bk).length=bk.length:=by unfold gV;rw[Jd]
section
variable {P:YZ}{w:Zb}{K:Ja}{mg:Str->Option Fk}{base:Heap}{f:Gc}{fd:Zc}
def cp:aG ["_law_parts_here", "_law_bare", "_law_kinds_here", "_law_spots", "_law_word", "_law_text_here", "_law_many", "_law_half", "_law_size"] ["_law_parts_here", "_law_bare"] (ai (top mP)):=⟨rfl,rfl,rfl,∅,rfl,∅,∅⟩
def NN (F:dM K "_law_put" "_law_put" (top mP) f fd)(T:Nm mg)(cw:mg "dict" = none)(fC:Fn P w K mg base 1 "_law_sizes" [] (pB aO))(hX:Fn P w K mg base 1 "_law_figures" ["_law_number", "_law_many"] IH)(cE:Fn P w K mg base 1 "_law_power" ["_law_many"] si)(cY:Fn P w K mg base 1 "_law_far_word" ["_law_word"] uB):aW P w K mg base dI 2 f fd ["_law_parts_here", "_law_bare"] (P8 K):=by
 refine F.ok cp (fun vs H Q E h =>?_) (fun bS A outer s H vs Q E hr h =>?_)
 ·obtain⟨lp,p,Fo,wd,as,rfl,_⟩:=h
  rfl
 obtain⟨lp,p,Fo,wd,args,rfl,hP,fr,ba,hp,q⟩:=h;have hu:=jF hr;have cK:=hr.units;have small:∀{n:Nat},n<=10000->n<=KE:=fun h=>Jg h ∅;obtain⟨r1,r2,r3,hl,hD⟩:=hP.ex;have l1:Fo.b1.length=11:=fr.g.l1;have l2:Fo.b2.length=4:=fr.g.l2;have l3:Fo.b3.length=9:=fr.g.l3;have Qi:(Fo.b1.map (·.1)).Nodup:=fr.g.n1.nodup_iff.mpr cN;have Qw:(Fo.b2.map (·.1)).Nodup:=fr.n2.nodup_iff.mpr Ku.nd;have Qj:(Fo.b3.map (·.1)).Nodup:=fr.n3.nodup_iff.mpr KP.nd;obtain⟨qq,hqq,ew,ek⟩:=ba.pt;have Lx:wd∈Fo.b1.map (·.1):=fr.g.n1.mem_iff.mpr (by rw[ew];exact(gO qq hqq).1);refine⟨_,(af (ia (bK (aa (aX (pI K rfl) rfl cw (by rfl) (aa (aU (eG K) (pv 0) ah (fun _ _=>rfl)) ae)) (aa (aX (pI K rfl) rfl cw (by rfl) (aa (aU (eG K) (pv 0) ah (fun _ _=>rfl)) ae)) ae))) (tupK K 2 rfl (aN (aI (i:=2) cp.nd rfl (YY rfl)) (aN (aI (i:=3) cp.nd rfl (Or.inr rfl)) bH))))
  (af (ay (i:=4) cp.nd rfl (YY rfl) (aU (eG K) (pv 1) ah (fun _ _=>rfl)))
  (af (ay (i:=5) cp.nd rfl (YY rfl) (bP hu (pv 2) (pv 4) (fun _ _=>rfl)))
  (af (aV (ax (kW K cK) (pv 4) aq (aE _)) (ag (ao (aw bw (aw bw (pv 5) (aA (hX.mono ∅) hr rfl (aa (aU (eG K) (pv 1) ah (fun _ _=>rfl)) (aa ah ae)))) (aw Pf aq (aU (eG K) (pv 1) ah (fun _ _=>rfl)))))) aB)
  (af (aV (ax (Np K) (pv 4) (bK (aa aq (aa aq (aa aq (aa aq ae))))) (by with_unfolding_all rfl)) (af (ay (i:=6) cp.nd rfl (YY rfl) (aU (eG K) (pv 0) (aw bw ah (aX gr rfl T.n_int (by rfl) (aa (aA (cY.mono ∅) hr rfl (aa (pv 4) ae)) ae))) (fun _ _=>rfl)))
  (af (ay (i:=7) cp.nd rfl (YY rfl) (aA (cE.mono ∅) hr rfl (aa (aw dG (pv 6) ah) ae)))
  (af (aV (PW.pt (ju (ax sH (aU (eG K) (pv 1) (wY pN ah) (fun _ _=>rfl)) (aw dG ah (pv 7)) (aE _)) (hW (ax zJ (aU (eG K) (pv 1) (wY pN ah) (fun _ _=>rfl)) (pv 7) (aE _))))) (ag (ao a9)) aB)
  (ag (ao (aw bw (aw bw (pv 5) (uN K Zz Qa5 Qa4 (zV K) aq (aa (fH rfl (cS (Nc:=["_law_spot"]) (Fc:=["_law_spots"]) (js:=[3])) (ja K (bL (OX K) (pv 1) (bz ah) (bz (wY pN ah)))) (bG (i:=0) (n:=1) ∅) (fun _ _ _ _ _=>(aI (i:=0) (rn ["_law_spot", "_law_spots"]) rfl (YY rfl))) (fun _ _ _ _ _=>dU) (fun _ _ _ _ _=>(bP hu (pv 1) (pv 0) (fun _ _=>rfl)))) ae))) (aA (hX.mono ∅) hr rfl (aa (aw bw (aU (eG K) (pv 1) (wY pN ah) (fun _ _=>rfl)) (aw kz ah (pv 7))) (aa (pv 6) ae))))))))) aB)
  (af (aV (ax (kW K cK) (pv 4) aq (aE _)) (af (ay (i:=8) cp.nd rfl (YY rfl) ah)
  (af (pT Zw (ax oU (aA (cE.mono ∅) hr rfl (aa (pv 8) ae)) (aU (eG K) (pv 1) ah (fun _ _=>rfl)) (aE _)) (ag (ay (i:=8) cp.nd rfl (YY rfl) (aw bw (pv 8) ah))))
  (af (ay (i:=5) cp.nd rfl (YY rfl) (aw bw (aw bw (pv 5) (bP hu (pv 3) (aU (eG K) (pv 1) ah (fun _ _=>rfl)) (fun _ _=>rfl))) (bP hu (aX (pI K rfl) rfl cw (by rfl) (aa (aU (eG K) (pv 0) ah (fun _ _=>rfl)) ae)) (aU (eG K) (oX (fC.mono (by first|decide|exact Je _|lia)) hr rfl) (pv 8) (fun _ _=>rfl)) (fun _ _=>rfl))))
  (ag (ao (aw bw (pv 5) (aA (hX.mono ∅) hr rfl (aa (aU (eG K) (pv 1) ah (fun _ _=>rfl)) (aa (ak (sy rfl) rfl T.n_max (by rfl) (aa ah (aa (aw dG (pv 8) ah) ae))) ae))))))))) aB)
  (ag (ao (aw bw (pv 5) (uN K Zz Qa5 Qa4 (zV K) aq (aa (fH rfl (cS (Nc:=["_law_spot"]) (Fc:=["_law_spots"]) (js:=[3])) (ja K (bL (OX K) (pv 1) (bz ah) iV)) (bG (i:=0) (n:=1) ∅) (fun _ _ _ _ _=>(aI (i:=0) (rn ["_law_spot", "_law_spots"]) rfl (YY rfl))) (fun _ _ _ _ _=>dU) (fun _ _ _ _ _=>(bP hu (pv 1) (pv 0) (fun _ _=>rfl)))) ae))))))))))),?_⟩
 obtain⟨a1,as1,rfl,sq1,al1,CP⟩:=oN (gG (j:=0) hD rfl rfl);refine⟨_,rfl,.inl ⟨lp,_,0,.ref a1,rfl,rfl,hl,rfl,a1,as1,gV Fo.b1,rfl,sq1,al1,by rw[oO,l1];decide,CP,fun d1 H1 n1 =>?_⟩⟩;rw[iK Qi] at n1;obtain⟨a2,as2,rfl,sq2,al2,hT2⟩:=oN ((gG (j:=1) hD rfl rfl).same n1.same);refine⟨_,rfl,.inl ⟨lp,_,1,.ref a2,rfl,rfl,n1.same.seq hl,rfl,a2,as2,gV Fo.b2,rfl,sq2,al2,by rw[oO,l2];decide,hT2,fun d2 H2 n2 =>?_⟩⟩;rw[iK Qw] at n2;refine⟨by show 2<=KE;decide,fun t3 H3 n3=>⟨t3,_,rfl,aY.of n3.at,rfl,_,_,rfl,_,_,rfl,rfl,?_⟩⟩;have s3:=n1.same.trans (n2.same.trans n3.same);have h1:=n3.same _ _ (n2.same _ _ n1.at);have h2:=n3.same _ _ n2.at;have W5:eV H3 d1 (.str wd) (some (.str (bh Fo.b1 wd))):=by
  rw[<-iR Lx];exact eV.k (k := .inr wd) h1
 have T6:∀{Hx:Hp} {x:Str},ar H3 Hx->x∈bJ->eV Hx d2 (.str x) (some (.str (bh Fo.b2 x))):=fun s hx=>by
  rw[<-iR (fr.n2.mem_iff.mpr hx)];exact eV.k (k := .inr _) (s _ _ h2)
 have F9:=s3.bO hp;have c1:=fr.c1 wd;refine⟨_,rfl,.inr (.inl ⟨p,_,0,.str wd,rfl,rfl,F9,gT (Int.le_refl 0) rfl,gn ?_⟩)⟩;refine⟨_,rfl,_,rfl,d1,_,rfl,W5,gn ?_⟩
 rcases ba.cls with ⟨rfl,n,rfl⟩|⟨hw,xs,d,xl,rfl⟩|⟨rfl,x,n,rfl⟩|⟨hw,xs,xl,rfl⟩
 ·-- skip
  refine⟨_,rfl,.inl ⟨rfl,_,rfl,mX ?_⟩⟩;have hn:n<=7:=ba.ok _ (Ju.mpr rfl);have ml:∀n,n<=7->(QaZ (W1 "0") ((n:Nat):Int)).length<=10:=∅;have ml:=ml n hn;have fl:=fJ n 3;refine⟨_,rfl,_,rfl,.inr (.inl ⟨p,_,1,.int (n:Nat),rfl,rfl,F9,rfl,n,3,rfl,∅,fun H4 s4 =>?_⟩)⟩;refine .inr (.inl ⟨_,_,rfl,rfl,small ⋯,?_⟩);refine⟨_,rfl,.inr (.inl ⟨p,_,1,.int (n:Nat),rfl,rfl,s4.bO F9,rfl,.inr ⟨_,_,rfl,rfl,nJ ∅ ⋯ ⋯,?_⟩⟩)⟩;refine .inr (.inl ⟨_,_,rfl,rfl,small (by rw[Zn];lia),?_⟩);have q:=q H4 (s3.trans s4);have e:o9 Fo "skip" [.ma n]=some (bh Fo.b1 "skip" ++ fN n 3++QaZ (W1 "0") (n:Nat)):=by
   show some (Qad "" [bh Fo.b1 "skip",fN n 3++QaZ (W1 "0") (n:Nat)])=_;rw[join_cons,join_cons,join_nil,tO,tu]
  rw[e] at q;exact q
 ·-- jumps
  have SR:∀w∈iX,(w == "skip")=false/\iX.contains w=true:=∅;obtain⟨k1,k2⟩:=SR _ hw;refine⟨_,rfl,.inl ⟨rfl,_,rfl,fP ?_ k1⟩⟩;dsimp only[bZ];refine⟨_,rfl,by show 4<=KE;decide,fun t4 H4 n4=>⟨t4,iX.map V.str,rfl,.inr (aY.of n4.at),rfl,?_,_,rfl,EK ?_ k2⟩⟩
  ·rfl
  obtain⟨kk,ekk⟩:∃kk:Nat,kk=if ky wd=true then Fo.eU else Fo.near:=⟨_,rfl⟩
  have nr:=fr.nr;have ff:=fr.fr;have kb:2<=kk/\kk<=16:=by rw[ekk];split<;>lia
  have s4:=s3.trans n4.same;refine⟨_,rfl,_,rfl,wd,rfl,fun H5 s5 =>.inr ⟨ky wd,rfl,.inl ⟨_,_,rfl,rfl,.inl ⟨lp,_,_,.int (kk:Nat),rfl,rfl,(s4.trans s5).seq hl,?_,gn ?_⟩⟩⟩⟩
  ·rw[ekk];cases ky wd<;>rfl
  refine⟨_,rfl,_,_,rfl,rfl,kk-1,?_,⋯,gn ?_⟩
  ·show[V.int ((kk:Int)-1)]=[V.int ((kk-1:Nat):Int)]
   rw[show(kk:Int)-1=((kk-1:Nat):Int) by lia]
  have RG:=s5 _ _ (n4.same _ _ h2);have s5:=s4.trans s5;have dk:d.natAbs<=1000000:=by
   have:=ba.ok (kY wd d) (Jo _ (Ju.mpr rfl));unfold kY at this
   split at this<;>exact this
  have ev:(kY wd d).v = .int d:=by unfold kY;split<;>rfl
  have eL:(xs.map Arg.sp++[kY wd d]).map Arg.v=xs.map V.str++[.int d]:=by rw[J0,Ym,Jz,ev];rfl
  have Qu:=s5.bO hp;rw[eL] at Qu;have aL:=FA (V.str wd) (V.int d) (xs.map V.str);have q0:inD d kk=false->∀H',ar H H'->Q .non H':=fun c H' s'=>by
   have q:=q H' s';have e:o9 Fo wd (xs.map Arg.sp++[kY wd d])=none:=by
    have ea:ij Fo (kY wd d)=none:=by
     have:ij Fo (kY wd d)=nW d kk:=by
      rw[ekk];unfold kY;cases ky wd<;>rfl
     rw[this];unfold nW;rw[c];rfl
    unfold o9;rw[sC ea (Jo _ (Ju.mpr rfl))];rfl
   rw[e] at q;exact q
  refine⟨_,rfl,_,rfl,.inr (.inl ⟨p,_,-1,.int d,rfl,rfl,Qu,aL,_,rfl,_,_,rfl,rfl,_,_,rfl,rfl,_,rfl,?_⟩)⟩;refine fq (fun c=>bA (q0 ?_ _ s5)) (fun c =>?_)
  ·have c:d<0-2^(kk-1):=of_decide_eq_true c;unfold inD;rw[decide_eq_false ⋯,Yz]
  have YQ:¬d<0-2^(kk-1):=fun z=>c (decide_eq_true z);refine⟨_,rfl,_,rfl,.inr (.inl ⟨p,_,-1,.int d,rfl,rfl,Qu,aL,_,rfl,_,_,rfl,rfl,_,rfl,?_⟩)⟩;refine fq (fun c=>q0 ?_ _ s5) (fun c =>?_)
  ·have c:2^(kk-1)<=d:=of_decide_eq_true c;unfold inD;rw[decide_eq_false (p:=d<2^(kk-1)) ⋯,Bool.and_false]
  have YT:¬ 2^(kk-1)<=d:=fun z=>c (decide_eq_true z);have cin:inD d kk=true:=by
   unfold inD;rw[decide_eq_true ⋯,decide_eq_true ⋯];rfl
  dsimp only[bZ];refine⟨_,rfl,rfl,_,rfl,1,rfl,_,rfl,-1,rfl,p,_,rfl,Qu,?_,fun p6 H6 n6 =>?_⟩
  ·rintro⟨z,_⟩;have:HT.eQ (V.str wd::(xs.map V.str++[V.int d])).length 0 (some 1)=1:=by
    show HT.eQ _ 0 (some ((1:Nat):Int))=1;rw[HT.lS,Jn];lia
   rw[this] at z;exact absurd z ∅
  rw[Iu] at n6;have s6:=s5.trans n6.same;refine⟨p6,rfl,⟨_,aY.of n6.at⟩,?_⟩;refine dS (N:=xs.length) (fun i ys H'=>H'=H6/\ys=((xs.take i).map (bh Fo.b2)).map V.str) ⟨rfl,rfl⟩ ?_ ?_
  ·rintro i ys H7 Ny hi ⟨rfl,rfl⟩ ny;have hv:(xs.map V.str)[i]? = some (.str xs[i]):=by rw[Jk,Jc hi];rfl
   refine⟨⟨_,_,aY.of n6.at,hv⟩,J7 (show _<=100 by rw[Jd,Jd,J6];lia) ∅,?_⟩;rintro x' H8 ⟨rfl,hy⟩;have e:=hy _ (aY.of n6.at);rw[hv] at e;cases e;have Sl:xs[i]∈bJ:=ba.ok (.sp xs[i]) (Us _ (Ui (Ug hi)));have VI:eV H8 d2 (.str xs[i]) (some (.str (bh Fo.b2 xs[i]))):=by
    rw[<-iR (fr.n2.mem_iff.mpr Sl)];refine eV.k (k := .inr _) (n6.same _ _ ?_);exact RG
   refine gn ⟨_,rfl,_,rfl,d2,_,rfl,VI,ny _ _ ⟨rfl,?_⟩⟩;rw[dA hi,J0,J0];rfl
  ·rintro ys H7 ⟨rfl,rfl⟩;rw[Yj];refine⟨⟨_,aY.of n6.at,by rw[Jd];exact Je _⟩,fun pv hpv =>?_⟩;have jl:=fr.sum xs;refine⟨_,pv,xs.map (bh Fo.b2),rfl,rfl,bg.of av,?_,?_⟩
   ·show((xs.map (bh Fo.b2)).map fun x=>x.length).sum+_*0<=16777216;lia
   have XH:=eT (xs.map (bh Fo.b2));refine .inr (.inl ⟨_,_,rfl,rfl,small ⋯,?_⟩);have s7:=s6.trans (bE hpv (.lst ((xs.map (bh Fo.b2)).map V.str)));have Tg:=s7.bO hp;rw[eL] at Tg;have p2:(2:Int)^kk=2*2^(kk-1):=by
    rw[show kk=(kk-1)+1 by lia,Qdd,Qe6];rfl
   have pp:(0:Int)<2^(kk-1):=Int.pow_pos ∅;refine⟨_,rfl,_,rfl,.inr (.inl ⟨p,_,-1,.int d,rfl,rfl,Tg,aL,_,rfl,.inl ⟨_,_,rfl,rfl,.inl ⟨∅,∅⟩,.inl ⟨_,_,rfl,rfl,_,rfl,(d+2^kk).toNat,kk,?_,⋯,fun H8 s8 =>?_⟩⟩⟩)⟩
   ·show[V.int (d+2*2^(kk-1)),V.int (kk:Nat)]=_;rw[Qbx ⋯,p2]
   have fl:=fJ (d+2^kk).toNat kk;refine .inr (.inl ⟨_,_,rfl,rfl,small (by rw[Zn];lia),?_⟩);have q:=q H8 (s7.trans s8);have e:o9 Fo wd (xs.map Arg.sp++[kY wd d])=some (bh Fo.b1 wd++Qad "" (xs.map (bh Fo.b2))++fN (d+2^kk).toNat kk):=by
    have ea:ij Fo (kY wd d)=some (fN (d+2^kk).toNat kk):=by
     rw[<-C7 ⋯ cin,ekk];unfold kY;cases ky wd<;>rfl
    unfold o9;rw[tZ];have:eC Fo [kY wd d]=some [fN (d+2^kk).toNat kk]:=by
     show(match ij Fo (kY wd d) with|none=>none|some x=>(some []).map (x :: ·))=_;rw[ea];rfl
    rw[this];show some (Qad "" (bh Fo.b1 wd::(xs.map (bh Fo.b2)++[fN (d+2^kk).toNat kk])))=_;rw[join_cons,Dj,join_cons,join_nil,tO,tu]
   rw[e] at q;exact q
 ·-- set
  refine⟨_,rfl,.inl ⟨rfl,_,rfl,fP ?_⟩⟩;dsimp only[bZ];refine⟨_,rfl,by show 4<=KE;decide,fun t4 H4 n4=>⟨t4,iX.map V.str,rfl,.inr (aY.of n4.at),rfl,rfl,_,rfl,E9 ?_⟩⟩;dsimp only[bZ];refine⟨_,rfl,.inl ⟨rfl,_,rfl,mX ?_⟩⟩;have hx:x∈bJ:=ba.ok _ Jm;have hn:n<=255:=ba.ok _ (Jj _ Jm);have hb:=xu hn;have c2:=fr.c2 x;obtain⟨z,hz⟩:∃z,aO[dX n]? = some z:=⟨_,Jc (show dX n<9 by lia)⟩
  have ez:aO.getD (dX n) Zt=z:=by rw[Ys,hz];rfl
  have c3:=fr.c3 z;have XN:z∈Fo.b3.map (·.1):=fr.n3.mem_iff.mpr (Jy hz);refine gn ?_;dsimp only;refine fk (t:=pC _ _) (fun σ H' =>σ=[some (.ref lp),some (.ref p),some (.ref d1),some (.ref d2),some (.str "set"),some (.str (bh Fo.b1 "set")),none,none,some (.int (dX n:Nat))]/\H'=H4) (fun Nx nx =>?_) ?_
  ·refine uy (fun m σ H'=>∃k:Nat,m=dX n-k/\k<=dX n /\ σ=[some (.ref lp),some (.ref p),some (.ref d1),some (.ref d2),some (.str "set"),some (.str (bh Fo.b1 "set")),none,none,some (.int (k:Nat))]/\H'=H4) ⟨_,0,rfl,Uq _,rfl,rfl⟩ ?_;rintro m σ H5 ⟨k,rfl,hk,rfl,rfl⟩;refine⟨_,rfl,k,rfl,⋯,?_⟩;refine⟨_,rfl,.inr (.inl ⟨p,_,2,.int (n:Nat),rfl,rfl,n4.same.bO F9,rfl,_,_,rfl,rfl,_,rfl,?_⟩)⟩;have e2:(2:Int)^k<=(n:Nat)↔k<dX n:=by
    rw[<-Mj];have:(2:Int)^k=((2^k:Nat):Int):=by push_cast;rfl
    lia
   refine fq (fun c =>?_) (fun c =>?_)
   ·have c:=e2.mp (of_decide_eq_true c);refine⟨fun σ' H'=>∃m',m'<dX n-k/\_,fun _ _ h=>h,?_⟩;exact⟨_,rfl,.inl ⟨_,_,rfl,rfl,dX n-(k+1),⋯,k+1,rfl,⋯,rfl,rfl⟩⟩
   ·have c:¬k<dX n:=fun y=>c (decide_eq_true (e2.mpr y));have:k=dX n:=by lia
    subst this;exact nx _ _ ⟨rfl,rfl⟩
  rintro σ H5 ⟨rfl,rfl⟩;have s4:=s3.trans n4.same;have X2:=n4.same.bO F9;refine⟨_,rfl,_,rfl,_,rfl,.inr (.inl ⟨p,_,1,.str x,rfl,rfl,X2,rfl,d2,_,rfl,T6 n4.same hx,?_⟩)⟩;refine .inr (.inl ⟨_,_,rfl,rfl,small ⋯,?_⟩);obtain⟨a3,as3,rfl,sq3,al3,hT3⟩:=oN ((gG (j:=2) hD rfl rfl).same s4);refine⟨_,rfl,.inl ⟨lp,_,2,.ref a3,rfl,rfl,s4.seq hl,rfl,a3,as3,gV Fo.b3,rfl,sq3,al3,by rw[oO,l3];decide,hT3,fun d3 H6 n6 =>?_⟩⟩;rw[iK Qj] at n6;refine⟨rfl,fun ps H7 n7=>⟨_,rfl,.inl ⟨ps,_,_,.str z,rfl,rfl,bg.of n7.at,oq (by rw[Jk];show(aO[dX n]?).map V.str=_;rw[hz];rfl),d3,_,rfl,by rw[<-iR XN];exact eV.k (k := .inr z) (n7.same _ _ n6.at),?_⟩⟩⟩;refine .inr (.inl ⟨_,_,rfl,rfl,small (by rw[Zn];lia),gn ?_⟩);have s7:=s4.trans (n6.same.trans n7.same);have em:(if ((dX n:Nat):Int)-1>0 then ((dX n:Nat):Int)-1 else 0)=((dX n-1:Nat):Int):=by split<;>lia
  refine⟨_,rfl,_,rfl,.inr (.inl ⟨p,_,2,.int (n:Nat),rfl,rfl,s7.bO hp,rfl,_,rfl,_,_,rfl,rfl,0,_,rfl,n,dX n-1,(by show[V.int ((n:Nat):Int),V.int (if ((dX n:Nat):Int)-1>0 then ((dX n:Nat):Int)-1 else 0)]=_;rw[em]),⋯,fun H8 s8 =>?_⟩)⟩;have fl:=fJ n (dX n-1);refine .inr (.inl ⟨_,_,rfl,rfl,small (by rw[Zn,Zn];lia),?_⟩);have q:=q H8 (s7.trans s8);have e:o9 Fo "set" [.sp x,.nu n]=some (bh Fo.b1 "set" ++ bh Fo.b2 x++bh Fo.b3 z++fN n (dX n-1)):=by
   show some (Qad "" [bh Fo.b1 "set",bh Fo.b2 x,bh Fo.b3 (aO.getD (dX n) Zt)++Zi (fN n (dX n)) (some 1) none])=_;rw[join_cons,join_cons,join_cons,join_nil,tO,ez,rE,tu,tu]
  rw[e] at q;exact q
 ·-- the others
  have SR:∀w∈JN,(w == "skip")=false/\iX.contains w=false/\(w == "set")=false:=∅;obtain⟨k1,k2,k3⟩:=SR _ hw;refine⟨_,rfl,.inl ⟨rfl,_,rfl,fP ?_ k1⟩⟩;dsimp only[bZ];refine⟨_,rfl,by show 4<=KE;decide,fun t4 H4 n4=>⟨t4,iX.map V.str,rfl,.inr (aY.of n4.at),rfl,?_,_,rfl,E9 ?_ k2⟩⟩
  ·rfl
  dsimp only[bZ];refine⟨_,rfl,.inl ⟨rfl,_,rfl,fP ?_ k3⟩⟩;dsimp only[bZ];have s4:=s3.trans n4.same;refine⟨_,rfl,rfl,_,rfl,1,rfl,p,_,rfl,s4.bO hp,?_,fun p5 H5 n5 =>?_⟩
  ·rintro⟨z,_⟩;have:HT.eQ (V.str wd::(xs.map Arg.sp).map Arg.v).length 0 (some 1)=1:=by
    show HT.eQ _ 0 (some ((1:Nat):Int))=1;rw[HT.lS,Jn];lia
   rw[this] at z;exact absurd z ∅
  rw[show(1:Int)=((1:Nat):Int) from rfl,Fy] at n5;have e5:(V.str wd::(xs.map Arg.sp).map Arg.v).drop 1=xs.map V.str:=by rw[List.drop_succ_cons,Qd3,Ym];rfl
  rw[e5] at n5;have s5:=s4.trans n5.same;refine⟨p5,rfl,⟨_,aY.of n5.at⟩,?_⟩;refine dS (N:=xs.length) (fun i ys H'=>H'=H5/\ys=((xs.take i).map (bh Fo.b2)).map V.str) ⟨rfl,rfl⟩ ?_ ?_
  ·rintro i ys H6 Ny hi ⟨rfl,rfl⟩ ny;have hv:(xs.map V.str)[i]? = some (.str xs[i]):=by rw[Jk,Jc hi];rfl
   refine⟨⟨_,_,aY.of n5.at,hv⟩,J7 (show _<=100 by rw[Jd,Jd,J6];lia) ∅,?_⟩;rintro x' H7 ⟨rfl,hy⟩;have e:=hy _ (aY.of n5.at);rw[hv] at e;cases e;have Sl:xs[i]∈bJ:=ba.ok (.sp xs[i]) (Ui (Ug hi));refine gn ⟨_,rfl,_,rfl,d2,_,rfl,T6 (n4.same.trans n5.same) Sl,ny _ _ ⟨rfl,?_⟩⟩;rw[dA hi,J0,J0];rfl
  ·rintro ys H6 ⟨rfl,rfl⟩;rw[Yj];refine⟨⟨_,aY.of n5.at,by rw[Jd];exact Je _⟩,fun pv hpv =>?_⟩;have jl:=fr.sum xs;refine⟨_,pv,xs.map (bh Fo.b2),rfl,rfl,bg.of av,?_,?_⟩
   ·show((xs.map (bh Fo.b2)).map fun x=>x.length).sum+_*0<=16777216;lia
   have XH:=eT (xs.map (bh Fo.b2));refine .inr (.inl ⟨_,_,rfl,rfl,small ⋯,?_⟩);have q:=q _ (s5.trans (bE hpv (.lst ((xs.map (bh Fo.b2)).map V.str))));have e:o9 Fo wd (xs.map Arg.sp)=some (bh Fo.b1 wd++Qad "" (xs.map (bh Fo.b2))):=by
    have:=tZ (F:=Fo) xs [];rw[Uu] at this;unfold o9;rw[this];show some (Qad "" (bh Fo.b1 wd::(xs.map (bh Fo.b2)++[])))=_;rw[Uu,join_cons]
   rw[e] at q;exact q
end
def OK (K:Ja):Sp:=fun vs H Q _=>Dx fun(b c:Gc) (t:Int) (lp:Gc) (F:Fb) (z:Nat)=>vs=[.ref b,.ref lp,.int (z:Nat)]/\z<=1/\Bx H b c t/\0<=t/\t<90000000/\iG K (ig H b c) lp F/\kB F /\
 ∀(p:Gc) (w:Str) (as:List Arg) (H':Hp) (t':Int),y3 w as->(z=0->∀a∈as,(ij F a).isSome=true)->H' p=some (.tup (.str w::as.map Arg.v))->p≠b->p≠c->Step b c H H' t t' 10->Q (.ref p) H'
def Nh:Arg->Bool
 | .ne _=>false
 | .fa _=>false
 | _=>true
def DY {F:Fb}{z:Nat}{as:List Arg}(h:as.all Nh=true):z=0->∀a∈as,(ij F a).isSome=true:=fun _ a ha=>by
 have:=U1.mp h a ha;cases a<;>first|rfl|cases this
def Ah {r:Int}(h0:0<=r)(h1:r<4):∃c,vp (W1 "abcd").cps.toList r=some c/\(⟨#[c]⟩:Str)∈bJ:=by
 have:r=0\/r=1\/r=2\/r=3:=by lia
 rcases this with rfl|rfl|rfl|rfl
 ·exact⟨97,∅,∅⟩
 ·exact⟨98,∅,∅⟩
 ·exact⟨99,∅,∅⟩
 ·exact⟨100,∅,∅⟩
def C2:∀w∈aD,w = "set" \/ w∈(["add", "take"]:List Str)\/w∈(["tell", "ask"]:List Str)\/w = "stop" \/ w = "skip" \/ w∈iX:=∅
section
variable {P:YZ}{w:Zb}{K:Ja}{mg:Str->Option Fk}{base:Heap}{f:Gc}{fd:Zc}
def bR:aG ["_law_state", "_law_parts_here", "_law_beyond", "_law_word", "_law_one", "_law_other", "_law_half", "_law_some", "_law_distance"] ["_law_state", "_law_parts_here", "_law_beyond"] (ai (top fW)):=⟨rfl,rfl,rfl,∅,rfl,∅,∅⟩
def Hs (F:dM K "_law_some_bare" "_law_some_bare" (top fW) f fd)(T:Nm mg)(j1:Fn P w K mg base 1 "_law_kinds" [] (pB aD))(aM:Fn P w K mg base 1 "_law_take" ["_law_state", "_law_many"] vR)(cE:Fn P w K mg base 1 "_law_power" ["_law_many"] si)(cY:Fn P w K mg base 1 "_law_far_word" ["_law_word"] uB):aW P w K mg base dI 2 f fd ["_law_state", "_law_parts_here", "_law_beyond"] (OK K):=by
 refine F.ok bR (fun vs H Q E h =>?_) (fun bS A outer s H vs Q E hr h =>?_)
 ·obtain⟨b,c,t,lp,Fo,z,rfl,_⟩:=h
  rfl
 obtain⟨b,c,t,lp,Fo,z,rfl,z1,bx,t0,t1,hP,fr,q⟩:=h;have cK:=hr.units;have nr:=fr.nr;have ff:=fr.fr;refine⟨_,(af (ay (i:=3) bR.nd rfl (YY rfl) (aU (eG K) (oX (j1.mono (by first|decide|exact Je _|lia)) hr rfl) (aA (aM.mono ∅) hr rfl (aa (pv 0) (aa ah ae))) (fun _ _=>rfl)))
  (af (yV (i:=4) (j:=5) rfl bR.nd rfl rfl ∅ rfl rfl (aa (aU (eG K) aq (aA (aM.mono ∅) hr rfl (aa (pv 0) (aa ah ae))) (fun _ _=>rfl)) (aa (aU (eG K) aq (aA (aM.mono ∅) hr rfl (aa (pv 0) (aa ah ae))) (fun _ _=>rfl)) ae)) rfl)
  (af (aV (ax (kW K cK) (pv 3) aq (aE _)) (ag (ao (bK (aa (pv 3) (aa (pv 4) (aa (aU (eG K) (gE (aa (aA (aM.mono ∅) hr rfl (aa (pv 0) (aa ah ae))) (aa (aw dG (aA (cE.mono ∅) hr rfl (aa (aA (aM.mono ∅) hr rfl (aa (pv 0) (aa ah ae))) ae)) ah) (aa ah ae)))) (aA (aM.mono ∅) hr rfl (aa (pv 0) (aa ah ae))) (fun _ _=>rfl)) ae)))))) aB)
  (af (aV (ax (Np K) (pv 3) (bK (aa aq (aa aq ae))) (by with_unfolding_all rfl)) (ag (ao (bK (aa (pv 3) (aa (pv 4) (aa (pv 5) ae)))))) aB)
  (af (aV (ax (Np K) (pv 3) (bK (aa aq (aa aq ae))) (by with_unfolding_all rfl)) (ag (ao (bK (aa (pv 3) (aa (pv 4) ae))))) aB)
  (af (aV (ax (kW K cK) (pv 3) aq (aE _)) (ag (ao (bK (aa (pv 3) ae)))) aB)
  (af (aV (ax (kW K cK) (pv 3) aq (aE _)) (ag (ao (bK (aa (pv 3) (aa (aA (aM.mono ∅) hr rfl (aa (pv 0) (aa ah ae))) ae))))) aB)
  (af (ay (i:=6) bR.nd rfl (YY rfl) (aA (cE.mono ∅) hr rfl (aa (aw dG (aU (eG K) (pv 1) (aw bw ah (aX gr rfl T.n_int (by rfl) (aa (aA (cY.mono ∅) hr rfl (aa (pv 3) ae)) ae))) (fun _ _=>rfl)) ah) ae)))
  (af (ay (i:=7) bR.nd rfl (YY rfl) (gE (aa (aw dG (aA (aM.mono ∅) hr rfl (aa (pv 0) (aa (aw kz ah (pv 6)) ae))) (pv 6)) (aa (aw dG ah (pv 6)) (aa (aw dG (pv 6) ah) (aa ah (aa (wY pN ah) (aa (aw kz (pv 6) (pv 2)) (aa (aw kz (aw dG (aw dG ah (pv 6)) ah) (pv 2)) ae)))))))))
  (af (ay (i:=8) bR.nd rfl (YY rfl) (aU (eG K) (pv 7) (aA (aM.mono ∅) hr rfl (aa (pv 0) (aa ah ae))) (fun _ _=>rfl)))
  (ag (ao (dg (ax (Np K) (pv 3) (bK (aa aq (aa aq ae))) (by with_unfolding_all rfl)) (bK (aa (pv 3) (aa (pv 8) ae))) (bK (aa (pv 3) (aa (pv 4) (aa (pv 8) ae))))))))))))))))),?_⟩
 refine ip (te:=_) (fun v H'=>∃(wd:Str) (t':Int),v = .str wd/\wd∈aD/\Step b c H H' t t' 1) (fun Qn qn =>?_) ?_
 ·refine⟨rfl,fun pk H1 n1=>⟨_,rfl,b,c,t,11,rfl,bx.same n1.same,t0,⋯,∅,∅,fun r H2 r0 r1 fB =>?_⟩⟩;obtain⟨pb,pc⟩:=bx.aR n1.nn;have Lf:=fB.old n1.at pb pc;have RK:r.toNat<aD.length:=by show r.toNat<11;lia
  have hw:aD[r.toNat]? = some aD[r.toNat]:=Jc RK;refine .inl ⟨pk,_,r,.str aD[r.toNat],rfl,rfl,bg.of Lf,gT r0 (by rw[Jk,hw];rfl),qn _ _ ⟨_,_,rfl,Ug _,((Step.same bx n1.same).trans fB).more ⋯⟩⟩
 rintro v H1 ⟨wd,t1',rfl,JU,m5⟩;have lo1:=m5.le;have UP:=m5.ub;refine gn ?_;refine⟨_,rfl,b,c,t1',4,rfl,m5.bx,⋯,⋯,∅,∅,fun r2 H2 r20 r21 fB =>?_⟩;obtain⟨c2,e2,hx⟩:=Ah r20 r21;refine .inr (.inr ⟨_,_,c2,rfl,rfl,∅,e2,?_⟩);refine⟨_,rfl,b,c,_,4,rfl,fB.bx,⋯,⋯,∅,∅,fun r3 H3 r30 r31 dZ =>?_⟩;obtain⟨c3,e3,hy⟩:=Ah r30 r31;refine .inr (.inr ⟨_,_,c3,rfl,rfl,∅,e3,_,_,rfl,gn ?_⟩);have dZ:=m5.trans (fB.trans dZ);have Qz:=dZ.le;have QP:=dZ.ub;clear m5 fB lo1 UP r20 r21 r30 r31 e2 e3;generalize (⟨#[c2]⟩:Str)=x at hx ⊢;generalize (⟨#[c3]⟩:Str)=y at hy ⊢;generalize t1'+1+1=t3 at dZ Qz QP
 rcases C2 wd JU with rfl|hw|hw|rfl|rfl|hw
 ·-- set
  refine⟨_,rfl,.inl ⟨rfl,_,rfl,mX ?_⟩⟩;refine⟨_,rfl,_,rfl,_,rfl,b,c,_,256,rfl,dZ.bx,⋯,⋯,∅,∅,fun r4 H4 r40 r41 eY =>?_⟩;refine⟨_,rfl,b,c,_,9,rfl,eY.bx,⋯,⋯,∅,∅,fun r5 H5 r50 r51 cu =>?_⟩;have cu:=dZ.trans (eY.trans cu);refine⟨r5.toNat,by rw[Qbx r50];rfl,⋯,_,_,rfl,rfl,by show 3<=KE;decide,fun l H6 n6 =>?_⟩;obtain⟨lb,lc⟩:=cu.bx.aR n6.nn;have kG:=cu.dN n6;refine⟨_,rfl,b,c,_,3,rfl,kG.bx,⋯,⋯,∅,∅,fun r7 H7 r70 r71 iU =>?_⟩;have X0:=iU.old n6.at lb lc;have iU:=kG.trans iU;have p9:2^r5.toNat<=2^8:=Y1 ∅ ⋯;have e9:(2:Int)^r5.toNat=((2^r5.toNat:Nat):Int):=by push_cast;rfl
  have p0:0<2^r5.toNat:=QdN _;obtain⟨n,hn,en⟩:∃n:Nat,n<=255/\([V.int r4,V.int (2^r5.toNat-1),V.int 0]:List V)[r7.toNat]? = some (.int (n:Nat)):=by
   have:r7=0\/r7=1\/r7=2:=by lia
   rcases this with rfl|rfl|rfl
   ·exact⟨r4.toNat,⋯,by rw[Qbx r40];rfl⟩
   ·refine⟨2^r5.toNat-1,⋯,?_⟩;rw[e9,show((2^r5.toNat:Nat):Int)-1=((2^r5.toNat-1:Nat):Int) by lia];rfl
   ·exact⟨0,∅,rfl⟩
  refine .inl ⟨l,_,r7,.int (n:Nat),rfl,rfl,bg.of X0,gT r70 en,by show 3<=KE;decide,fun p H8 n8 =>?_⟩;have jx:=iU.dN n8;refine q p "set" [.sp x,.nu n] _ _ ⟨⟨_,Jm,rfl,rfl⟩,fun a ha =>?_⟩ (DY rfl) n8.at (iU.bx.aR n8.nn).1 (iU.bx.aR n8.nn).2 (jx.more ⋯);simp only[Jq,Uk,or_false] at ha
  rcases ha with rfl|rfl
  ·exact hx
  ·exact hn
 ·-- add,take
  have ns:(wd == "set")=false:=(by decide +kernel:∀w∈(["add", "take"]:List Str),(w == "set")=false) _ hw;have nc:(["add", "take"]:List Str).contains wd=true:=(by decide +kernel:∀w∈(["add", "take"]:List Str),(["add", "take"]:List Str).contains w=true) _ hw;refine⟨_,rfl,.inl ⟨rfl,_,rfl,fP ?_ ns⟩⟩;refine⟨_,rfl,by show 2<=KE;decide,fun t4 H4 n4=>⟨t4,(["add", "take"]:List Str).map V.str,rfl,.inr (aY.of n4.at),rfl,rfl,_,rfl,EK ?_ nc⟩⟩;refine⟨_,rfl,_,rfl,_,rfl,by show 3<=KE;decide,fun p H8 n8 =>?_⟩;have eY:=dZ.dN n4;have jx:=eY.dN n8;refine q p wd [.sp x,.sp y] _ _ ⟨?_,fun a ha =>?_⟩ (DY rfl) n8.at (eY.bx.aR n8.nn).1 (eY.bx.aR n8.nn).2 (jx.more ⋯)
  ·simp only[Jq,Uk,or_false] at hw
   rcases hw with rfl|rfl
   ·exact⟨("add",["spot", "spot"]),by simp,rfl,rfl⟩
   ·exact⟨("take",["spot", "spot"]),by simp,rfl,rfl⟩
  ·simp only[Jq,Uk,or_false] at ha
   rcases ha with rfl|rfl
   ·exact hx
   ·exact hy
 ·-- tell,ask
  have ns:(wd == "set")=false:=(by decide +kernel:∀w∈(["tell", "ask"]:List Str),(w == "set")=false) _ hw;have na:(["add", "take"]:List Str).contains wd=false:=(by decide +kernel:∀w∈(["tell", "ask"]:List Str),(["add", "take"]:List Str).contains w=false) _ hw;have nc:(["tell", "ask"]:List Str).contains wd=true:=(by decide +kernel:∀w∈(["tell", "ask"]:List Str),(["tell", "ask"]:List Str).contains w=true) _ hw;refine⟨_,rfl,.inl ⟨rfl,_,rfl,fP ?_ ns⟩⟩;refine⟨_,rfl,by show 2<=KE;decide,fun t4 H4 n4=>⟨t4,(["add", "take"]:List Str).map V.str,rfl,.inr (aY.of n4.at),rfl,rfl,_,rfl,E9 ?_ na⟩⟩;refine⟨_,rfl,by show 2<=KE;decide,fun t5 H5 n5=>⟨t5,(["tell", "ask"]:List Str).map V.str,rfl,.inr (aY.of n5.at),rfl,rfl,_,rfl,EK ?_ nc⟩⟩;refine⟨_,rfl,_,rfl,by show 2<=KE;decide,fun p H8 n8 =>?_⟩;have cu:=(dZ.dN n4).dN n5;have jx:=cu.dN n8;refine q p wd [.sp x] _ _ ⟨?_,fun a ha =>?_⟩ (DY rfl) n8.at (cu.bx.aR n8.nn).1 (cu.bx.aR n8.nn).2 (jx.more ⋯)
  ·simp only[Jq,Uk,or_false] at hw
   rcases hw with rfl|rfl
   ·exact⟨("tell",["spot"]),by simp,rfl,rfl⟩
   ·exact⟨("ask",["spot"]),by simp,rfl,rfl⟩
  ·rw[Ju.mp ha];exact hx
 ·-- stop
  refine⟨_,rfl,.inl ⟨rfl,_,rfl,fP ?_⟩⟩;refine⟨_,rfl,by show 2<=KE;decide,fun t4 H4 n4=>⟨t4,(["add", "take"]:List Str).map V.str,rfl,.inr (aY.of n4.at),rfl,rfl,_,rfl,E9 ?_⟩⟩;refine⟨_,rfl,by show 2<=KE;decide,fun t5 H5 n5=>⟨t5,(["tell", "ask"]:List Str).map V.str,rfl,.inr (aY.of n5.at),rfl,rfl,_,rfl,E9 ?_⟩⟩;refine⟨_,rfl,.inl ⟨rfl,_,rfl,mX ?_⟩⟩;refine⟨_,rfl,by show 1<=KE;decide,fun p H8 n8 =>?_⟩;have cu:=(dZ.dN n4).dN n5;have jx:=cu.dN n8;exact q p "stop" [] _ _ ⟨⟨("stop",[]),by simp,rfl,rfl⟩,fun a ha=>nomatch ha⟩ (DY rfl) n8.at (cu.bx.aR n8.nn).1 (cu.bx.aR n8.nn).2 (jx.more ⋯)
 ·-- skip
  refine⟨_,rfl,.inl ⟨rfl,_,rfl,fP ?_⟩⟩;refine⟨_,rfl,by show 2<=KE;decide,fun t4 H4 n4=>⟨t4,(["add", "take"]:List Str).map V.str,rfl,.inr (aY.of n4.at),rfl,rfl,_,rfl,E9 ?_⟩⟩;refine⟨_,rfl,by show 2<=KE;decide,fun t5 H5 n5=>⟨t5,(["tell", "ask"]:List Str).map V.str,rfl,.inr (aY.of n5.at),rfl,rfl,_,rfl,E9 ?_⟩⟩;refine⟨_,rfl,.inl ⟨rfl,_,rfl,fP ?_⟩⟩;have cu:=(dZ.dN n4).dN n5;refine⟨_,rfl,.inl ⟨rfl,_,rfl,mX ?_⟩⟩;refine⟨_,rfl,_,rfl,b,c,_,8,rfl,cu.bx,⋯,⋯,∅,∅,fun r7 H7 r70 r71 iU =>?_⟩;have iU:=cu.trans iU;refine⟨by show 2<=KE;decide,fun p H8 n8 =>?_⟩;have jx:=iU.dN n8;refine q p "skip" [.ma r7.toNat] _ _ ⟨⟨("skip",["many"]),by simp,rfl,rfl⟩,fun a ha =>?_⟩ (DY rfl) ?_ (iU.bx.aR n8.nn).1 (iU.bx.aR n8.nn).2 (jx.more ⋯)
  ·rw[Ju.mp ha];show r7.toNat<=7;lia
  ·show H8 p=some (.tup [.str "skip",.int (r7.toNat:Nat)]);rw[Qbx r70];exact n8.at
 ·-- jumps
  have ns:∀w∈iX,(w == "set")=false/\(["add", "take"]:List Str).contains w=false/\(["tell", "ask"]:List Str).contains w=false/\(w == "stop")=false/\(w == "skip")=false:=∅;obtain⟨k1,k2,k3,k4,k5⟩:=ns _ hw;refine⟨_,rfl,.inl ⟨rfl,_,rfl,fP ?_ k1⟩⟩;refine⟨_,rfl,by show 2<=KE;decide,fun t4 H4 n4=>⟨t4,(["add", "take"]:List Str).map V.str,rfl,.inr (aY.of n4.at),rfl,rfl,_,rfl,E9 ?_ k2⟩⟩;refine⟨_,rfl,by show 2<=KE;decide,fun t5 H5 n5=>⟨t5,(["tell", "ask"]:List Str).map V.str,rfl,.inr (aY.of n5.at),rfl,rfl,_,rfl,E9 ?_ k3⟩⟩;refine⟨_,rfl,.inl ⟨rfl,_,rfl,fP ?_ k4⟩⟩;refine⟨_,rfl,.inl ⟨rfl,_,rfl,fP ?_ k5⟩⟩;have cu:=(dZ.dN n4).dN n5;obtain⟨kk,ekk⟩:∃kk:Nat,kk=if ky wd=true then Fo.eU else Fo.near:=⟨_,rfl⟩
  have kb:2<=kk/\kk<=16:=by rw[ekk];split<;>lia
  obtain⟨r1,r2,r3,hl,_⟩:=(hP.same cu.sm).ex;have hl:=FZ.seq hl;refine⟨_,rfl,_,rfl,wd,rfl,fun H6 s6 =>.inr ⟨ky wd,rfl,.inl ⟨_,_,rfl,rfl,.inl ⟨lp,_,_,.int (kk:Nat),rfl,rfl,s6.seq hl,?_,?_⟩⟩⟩⟩
  ·rw[ekk];cases ky wd<;>rfl
  have kG:=cu.trans (Step.same cu.bx s6);refine⟨_,_,rfl,rfl,kk-1,?_,⋯,gn ?_⟩
  ·show[V.int ((kk:Int)-1)]=[V.int ((kk-1:Nat):Int)]
   rw[show(kk:Int)-1=((kk-1:Nat):Int) by lia]
  have N0:(2:Int)^(kk-1)<=32768:=by
   have:2^(kk-1)<=2^15:=Y1 ∅ ⋯;have e:(2:Int)^(kk-1)=((2^(kk-1):Nat):Int):=by push_cast;rfl
   lia
  have h1:(0:Int)<2^(kk-1):=Int.pow_pos ∅;generalize hhf:(2:Int)^(kk-1)=hf at N0 h1 ⊢;have V3:=kG.le;have WK:=kG.ub;refine⟨_,rfl,_,rfl,.inl ⟨_,_,rfl,rfl,.inl ⟨∅,∅⟩,b,c,_,2*hf,rfl,kG.bx,⋯,⋯,⋯,⋯,fun r7 H7 r70 r71 iU =>?_⟩⟩;have iU:=kG.trans iU;refine⟨_,rfl,_,_,rfl,rfl,_,rfl,_,_,rfl,rfl,_,rfl,_,_,rfl,rfl,_,rfl,_,rfl,_,rfl,.inl ⟨_,_,rfl,rfl,.inl ⟨⋯,⋯⟩,?_⟩⟩;refine⟨_,rfl,_,_,rfl,rfl,_,_,rfl,rfl,_,rfl,.inl ⟨_,_,rfl,rfl,.inl ⟨⋯,⋯⟩,by show 7<=KE;decide,fun l H8 n8=>gn ?_⟩⟩;obtain⟨lb,lc⟩:=iU.bx.aR n8.nn;have jx:=iU.dN n8;have XF:=jx.ub;have Wl:=jx.le;refine⟨_,rfl,_,rfl,b,c,_,7,rfl,jx.bx,⋯,⋯,∅,∅,fun r9 H9 r90 r91 lH =>?_⟩;have RI:=lH.old n8.at lb lc;have lH:=jx.trans lH;have hz:z=0\/z=1:=by lia
  obtain⟨d,hd,hdz,ed⟩:∃d:Int,d.natAbs<=1000000/\(z=0 -> -hf<=d/\d<hf)/\([V.int (r7-hf),V.int (0-hf),V.int (hf-1),V.int 0,V.int (-1),V.int (hf*(z:Nat)),V.int ((0-hf-1)*(z:Nat))]:List V)[r9.toNat]? = some (.int d):=by
   have:r9=0\/r9=1\/r9=2\/r9=3\/r9=4\/r9=5\/r9=6:=by lia
   rcases this with rfl|rfl|rfl|rfl|rfl|rfl|rfl
   ·exact⟨_,⋯,fun _=>⋯,rfl⟩
   ·exact⟨_,⋯,fun _=>⋯,rfl⟩
   ·exact⟨_,⋯,fun _=>⋯,rfl⟩
   ·exact⟨_,∅,fun _=>⋯,rfl⟩
   ·exact⟨_,∅,fun _=>⋯,rfl⟩
   ·exact⟨_,by rcases hz with rfl|rfl<;>lia,fun z0=>by subst z0;lia,rfl⟩
   ·exact⟨_,by rcases hz with rfl|rfl<;>lia,fun z0=>by subst z0;lia,rfl⟩
  refine .inl ⟨l,_,r9,.int d,rfl,rfl,bg.of RI,gT r90 ed,gn ?_⟩;have fin:∀{p:Gc} {H0 H':Hp} {as:List Arg},Step b c H H0 t (t3+1+1) 8->jg H0 p (.tup (.str wd::as.map Arg.v)) H'->(∃q∈gm,wd=q.1/\as.map Arg.kind=q.2)->(z=0->∀a∈as,(ij Fo a).isSome=true)->(∀a∈as,a.ok)->Q (.ref p) H':=fun s n h1 h3 h2=>q _ wd _ _ _ ⟨h1,h2⟩ h3 n.at (s.bx.aR n.nn).1 (s.bx.aR n.nn).2 ((s.dN n).more ⋯);have lH:=lH.more (M:=8) ⋯;have sn:z=0->(nW d kk).isSome=true:=fun z0=>by
   obtain⟨a,b⟩:=hdz z0;unfold nW;rw[if_pos]
   ·rfl
   ·unfold inD;rw[hhf,decide_eq_true a,decide_eq_true b];rfl
  clear ns k1 k2 k3 k4 k5;refine⟨_,rfl,by show 2<=KE;decide,fun t10 H10 n10=>⟨t10,(["jump", "farjump"]:List Str).map V.str,rfl,.inr (aY.of n10.at),rfl,rfl,_,rfl,?_⟩⟩;have lh:=lH.dN n10;simp only[Jq,Uk,or_false] at hw
  rcases hw with rfl|rfl|rfl|rfl
  ·refine EK ⟨_,rfl,_,rfl,by show 2<=KE;decide,fun p H11 n11=>fin (as:=[.ne d]) lh n11 ⟨("jump",["near"]),by simp,rfl,rfl⟩ (fun z0 a ha =>?_) fun a ha =>?_⟩
   ·rw[ekk,if_neg ∅] at sn;rw[Ju.mp ha];exact sn z0
   rw[Ju.mp ha];exact hd
  ·refine E9 ⟨_,rfl,_,rfl,_,rfl,by show 3<=KE;decide,fun p H11 n11=>fin (as:=[.sp x,.ne d]) lh n11 ⟨("zero",["spot", "near"]),by simp,rfl,rfl⟩ (fun z0 a ha =>?_) fun a ha =>?_⟩
   ·rw[ekk,if_neg ∅] at sn;simp only[Jq,Uk,or_false] at ha
    rcases ha with rfl|rfl
    ·rfl
    ·exact sn z0
   simp only[Jq,Uk,or_false] at ha
   rcases ha with rfl|rfl
   ·exact hx
   ·exact hd
  ·refine EK ⟨_,rfl,_,rfl,by show 2<=KE;decide,fun p H11 n11=>fin (as:=[.fa d]) lh n11 ⟨("farjump",["far"]),by simp,rfl,rfl⟩ (fun z0 a ha =>?_) fun a ha =>?_⟩
   ·rw[ekk,if_pos ∅] at sn;rw[Ju.mp ha];exact sn z0
   rw[Ju.mp ha];exact hd
  ·refine E9 ⟨_,rfl,_,rfl,_,rfl,by show 3<=KE;decide,fun p H11 n11=>fin (as:=[.sp x,.fa d]) lh n11 ⟨("farzero",["spot", "far"]),by simp,rfl,rfl⟩ (fun z0 a ha =>?_) fun a ha =>?_⟩
   ·rw[ekk,if_pos ∅] at sn;simp only[Jq,Uk,or_false] at ha
    rcases ha with rfl|rfl
    ·rfl
    ·exact sn z0
   simp only[Jq,Uk,or_false] at ha
   rcases ha with rfl|rfl
   ·exact hx
   ·exact hd
end
structure lF (bk:List (Str×Str)):Prop where
 le:bk.length<=11
 fr:fX (bk.map (·.2))
 cd:∀q∈bk,1<=q.2.length/\q.2.length<=11
def je (bk:List (Str×Str)):List (Key×V):=bk.map fun q=>(.inr q.2,.str q.1)
def lF.QE {bk:List (Str×Str)}(g:lF bk){i j:Nat}{q r:Str×Str}(hq:bk[i]? = some q)(hr:bk[j]? = some r){t:List Nat}(h1:sg q.2 <+: t)(h2:sg r.2 <+: t):i=j:=by
 obtain⟨hi,rfl⟩:=Ji.mp hq;obtain⟨hj,rfl⟩:=Ji.mp hr;have pw:∀a b (ha:a<bk.length) (hb:b<bk.length),a<b->RF bk[a].2 bk[b].2:=fun a b ha hb rX=>by
  have:=Uo.mp g.fr a b (by rw[Jd];exact ha) (by rw[Jd];exact hb) rX;rwa[Yy,Yy] at this
 rcases Qbd h1 h2 with z|z
 ·rcases Qdc i j with h|h|h
  ·exact absurd z (pw i j hi hj h).1
  ·exact h
  ·exact absurd z (pw j i hj hi h).2
 ·rcases Qdc i j with h|h|h
  ·exact absurd z (pw i j hi hj h).2
  ·exact h
  ·exact absurd z (pw j i hj hi h).1
def xC {α:Type}{f: α->Key×V}{k:Key}:∀{l:List α},(∀y∈l,(f y).1≠k)->gf (l.map f) k=none
 | [],_=>rfl
 | y::l,h=>by
  rw[Jz,dQ (h y Jm)];exact xC fun z hz=>h z (Jj _ hz)
def lF.code {bk:List (Str×Str)}(g:lF bk){i:Nat}{q:Str×Str}(hq:bk[i]? = some q):gf (je bk) (.inr q.2)=some (.str q.1):=by
 have key:∀(l:List (Str×Str)),(∀r∈l,r.2=q.2->r=q)->q∈l->gf (l.map fun q=>((Z7 q.2:Key),V.str q.1)) (.inr q.2)=some (.str q.1):=by
  intro l
  induction l with
  | nil=>exact fun _ h=>nomatch h
  | cons y l ih=>
   intro hu hx;rw[Jz]
   by_cases e:y.2=q.2
   ·rw[eN (by rw[e]),hu y Jm e]
   ·rw[dQ (fun z=>e (QbC z))];exact ih (fun r hr=>hu r (Jj _ hr)) ((Jq.mp hx).resolve_left fun z=>e (by rw[z]))
 refine key bk (fun r hr e =>?_) (Jy hq);obtain⟨j,hj⟩:=J4.mp hr;have:=g.QE hj hq (t:=sg q.2) (by rw[e];exact Qb6 _) (Qb6 _);subst this;rw[hq] at hj;exact(Zk hj).symm
def jO (H:Hp)(v:V)(bk:List (Str×Str)):Prop:=lW fun(tp d lp:Gc) (ls:List Int)=>v = .ref tp/\H tp=some (.tup [.ref d,.ref lp])/\H d=some (.dK (je bk))/\H lp=some (.lst (ls.map V.int))/\∀n,n∈ls ↔ ∃q∈bk,((q.2.length:Nat):Int)=n
def jO.same {H H':Hp}{v:V}{bk:List (Str×Str)}(h:jO H v bk)(s:ar H H'):jO H' v bk:=by
 obtain⟨tp,d,lp,ls,e,h1,h2,h3,h4⟩:=h;exact⟨tp,d,lp,ls,e,s _ _ h1,s _ _ h2,s _ _ h3,h4⟩
def EU (K:Ja):Sp:=fun vs H Q _=>fG fun(w:V) (bk:List (Str×Str))=>vs=[w]/\Den K H (M5 (aQ bk)) w/\lF bk/\∀v H',ar H H'->jO H' v bk->Q v H'
def j0 {x:Str}{p q:Nat}(h1:p<=q)(h2:p<=x.length):sg (Zi x (some (p:Int)) (some (q:Int)))=((sg x).drop p).take (q-p):=by
 by_cases hq:q<=x.length
 ·have e:=Qc1 (x:=x) (i:=p) (j:=q) ⟨⋯,⋯,by rw[<-str_len];lia⟩;rw[eq_of_beq e];show(((sg x).drop (p:Int).toNat).take ((q:Int)-p).toNat).toArray.toList=_;rw[Qbt,Uw,show((q:Int)-p).toNat=q-p by lia]
 ·have e:=Qc1 (x:=x) (i:=p) (j:=(x.length:Int)) ⟨⋯,⋯,by rw[<-str_len];lia⟩;have ov:QaI (some (p:Int)) (some (q:Int)) 1 x.length=QaI (some (p:Int)) (some ((x.length:Nat):Int)) 1 x.length:=by
   unfold QaI;dsimp only
   congr 1
   rw[if_neg (show ¬(q:Int)<0 by lia),if_neg (show ¬((x.length:Nat):Int)<0 by lia)];lia
  have e2:Zi x (some (p:Int)) (some (q:Int))=Zi x (some (p:Int)) (some ((x.length:Nat):Int)):=by
   unfold Zi;rw[ov]
  rw[e2,eq_of_beq e];show(((sg x).drop (p:Int).toNat).take ((x.length:Int)-p).toNat).toArray.toList=_;rw[Qbt,Uv,Uv]
  ·rfl
  ·rw[Uj,<-str_len];lia
  ·rw[Uj,<-str_len];lia
section
variable {P:YZ}{w:Zb}{K:Ja}{mg:Str->Option Fk}{base:Heap}{f:Gc}{fd:Zc}
def um:aG ["book"] ["book"] (ai (top ka)):=⟨rfl,rfl,rfl,∅,rfl,∅,∅⟩
def G0 (F:dM K "lookup_of" "lookup_of" (top ka) f fd)(T:Nm mg)(gQ:mg "sorted" = none):aW P w K mg base dI 1 f fd ["book"] (EU K):=by
 refine F.ok um (fun vs H Q E h =>?_) (fun bS A outer s H vs Q E hr h =>?_)
 ·obtain⟨l,bk,rfl,_⟩:=h
  rfl
 obtain⟨w0,bk,rfl,hB,g,q⟩:=h;have cK:=hr.units;refine⟨_,(ag (ao (bK (aa (FY rfl (cS (Nc:=["name", "code"]) (Fc:=[]) (js:=[])) (ja K (pv 0)) (nB (cP (bG (i:=0) (n:=2) ∅) (cP (bG (i:=1) (n:=2) ∅) kj bW dR) bW (iE bW dR))) (fun _ _ _ _ _=>(tupK K 2 rfl (aN (aI (i:=0) (rn ["name", "code"]) rfl (YY rfl)) (aN (aI (i:=1) (rn ["name", "code"]) rfl (YY rfl)) bH)))) (fun _ _ _ _ _=>dU) (fun _ _ _ _ _=>(pv 1)) (fun _ _ _ _ _=>(pv 0))) (aa (ak (yL rfl) rfl gQ (by rfl) (aa (wK (Cw P w) rfl (cS (Nc:=["name", "code"]) (Fc:=[]) (js:=[])) (ja K (pv 0)) (nB (cP (bG (i:=0) (n:=2) ∅) (cP (bG (i:=1) (n:=2) ∅) kj bW dR) bW (iE bW dR))) (fun _ _ _ _ _=>(tupK K 2 rfl (aN (aI (i:=0) (rn ["name", "code"]) rfl (YY rfl)) (aN (aI (i:=1) (rn ["name", "code"]) rfl (YY rfl)) bH)))) (fun _ _ _ _ _=>dU) (fun _ _ _ _ _=>(ak (eE K) rfl T.n_len (by rfl) (aa (pv 1) ae)))) ae)) ae))))),?_⟩;have hB:Den K H (.tuple (bk.map fw)) w0:=hB;unfold Den at hB;obtain⟨l,vs,rfl,hl,hd⟩:=hB;have YE:=g.le;have vl:vs.length=bk.length:=by rw[<-Jd (f:=fw)];exact hd.len
 have F7:∀{i:Nat} (hi:i<bk.length) {Hx:Hp},ar H Hx->∃tp,vs[i]? = some (.ref tp)/\aY K Hx tp [.str bk[i].1,.str bk[i].2]:=fun{i} hi {Hx} s=>by
  obtain⟨v,h1,h2⟩:=hd.get (i:=i) (d:=fw bk[i]) (by rw[Jk,Jc hi];rfl);obtain⟨tp,rfl,h3⟩:=h2.pair;exact⟨tp,h1,s.bO h3⟩
 refine⟨_,rfl,l,rfl,⟨_,hl⟩,fun D hD =>?_⟩;refine⟨fun i m H'=>m=bk.length-i/\i<=bk.length/\H'=upd H D (.dK ((bk.take i).map fun q=>(.inr q.2,.str q.1))),⟨_,rfl,Uq _,rfl⟩,?_⟩;rintro i m H' ⟨rfl,hi,rfl⟩;have sm:ar H (upd H D (.dK ((bk.take i).map fun q=>(.inr q.2,.str q.1)))):=bE hD _
 by_cases jv:i<bk.length
 ·obtain⟨tp,h1,h2⟩:=F7 jv sm;refine .inr ⟨⟨_,_,sm.bO hl,h1⟩,?_⟩;rintro x H2 ⟨rfl,hy⟩;have e:=hy _ (sm.bO hl);rw[h1] at e;cases e;refine⟨tp,_,rfl,h2,rfl,_,_,rfl,_,_,rfl,rfl,?_⟩;dsimp only[Pc];rw[if_pos rfl];refine⟨_,rfl,_,rfl,(bk.take i).map fun q=>(.inr q.2,.str q.1),.inr bk[i].2,av,rfl,?_,bk.length-(i+1),⋯,rfl,jv,?_⟩
  ·rw[Jd,J6];exact J7 (show min i bk.length<=1000 by lia) ∅
  ·rw[wX _ (xC fun y hy e =>?_),zo,dA jv,J0]
   ·rfl
   ·obtain⟨j,hj,rfl⟩:=Yd.mp hy;rw[J6] at hj;rw[List.getElem_take] at e;have e:(bk[j]'⋯).2=bk[i].2:=QbC e;have:=g.QE (i:=j) (j:=i) (Jc ⋯) (Jc jv) (t:=sg bk[i].2) (by rw[e];exact Qb6 _) (Qb6 _);lia
 have ei:i=bk.length:=by lia
 subst ei;refine .inl ⟨⟨_,sm.bO hl,⋯⟩,?_⟩;rw[Yj] at sm ⊢;have s1:ar H (upd H D (.dK (je bk))):=sm;refine⟨_,rfl,l,rfl,⟨_,s1.bO hl⟩,fun S hS =>?_⟩;refine wC (N:=bk.length) (fun i H'=>∃D':List Int,H'=upd (upd H D (.dK (je bk))) S (gX (Cw P w) S D')/\D'.Nodup/\D'.length<=i/\∀n,n∈D' ↔ ∃q∈bk.take i,((q.2.length:Nat):Int)=n) ⟨[],rfl,List.nodup_nil,Je _,fun n=>⟨(nofun),(fun⟨_,h,_⟩=>nomatch h)⟩⟩ ?_ ?_
 ·rintro i H2 Nx hi ⟨D',rfl,nd,hle,hm⟩ nx;have sm:ar H (upd (upd H D (.dK (je bk))) S (gX (Cw P w) S D')):=s1.trans (bE hS _);obtain⟨tp,h1,h2⟩:=F7 hi sm;refine⟨⟨_,_,sm.bO hl,h1⟩,?_⟩;rintro x H3 ⟨rfl,hy⟩;have e:=hy _ (sm.bO hl);rw[h1] at e;cases e;refine⟨tp,_,rfl,h2,rfl,_,_,rfl,_,_,rfl,rfl,?_⟩;have mm:∀{x:Int},x∈oneMore D' ((bk[i].2.length:Nat):Int)↔x∈D'\/x=((bk[i].2.length:Nat):Int):=fun{x}=>by
   unfold oneMore
   split
   ·rename_i hk;exact⟨.inl,fun h=>h.elim id fun z=>by rw[z];exact hk⟩
   ·rw[Ub,Ju]
  refine⟨_,rfl,_,_,rfl,⟨Jg (g.cd _ (Ug hi)).2 ∅,rfl⟩,D',((bk[i].2.length:Nat):Int),av,rfl,⋯,nx _ ⟨oneMore D' ((bk[i].2.length:Nat):Int),zo,?_,?_,fun n =>?_⟩⟩
  ·unfold oneMore
   split
   ·exact nd
   ·rename_i hk;refine List.nodup_append.mpr ⟨nd,U6.mpr ⟨by simp,List.nodup_nil⟩,fun a ha b hb e=>hk ?_⟩;rw[<-Ju.mp hb,<-e];exact ha
  ·unfold oneMore
   split
   ·lia
   ·rw[Jt];show D'.length+1<=i+1;lia
  rw[mm,hm,dA hi];constructor
  ·rintro(⟨q,hq,e⟩|rfl)
   ·exact⟨q,Us _ hq,e⟩
   ·exact⟨bk[i],Jo _ (Ju.mpr rfl),rfl⟩
  ·rintro⟨q,hq,e⟩
   rcases Ub.mp hq with hq|hq
   ·exact .inl ⟨q,hq,e⟩
   ·rw[Ju.mp hq] at e;exact .inr e.symm
 ·rintro H2 ⟨D',rfl,nd,hle,hm⟩;have sm:ar H (upd (upd H D (.dK (je bk))) S (gX (Cw P w) S D')):=s1.trans (bE hS _);refine⟨⟨_,sm.bO hl,⋯⟩,S,D',rfl,av,nd,⋯,fun ms lp H3 pm _ n3=>⟨by show 2<=KE;decide,fun tp H4 n4 =>?_⟩⟩;rw[Yj] at hm;have XZ:D≠S:=fun z=>by
   have hS:upd H D (.dK (je bk)) S=none:=hS;rw[<-z,av] at hS;cases hS
  refine q _ H4 (sm.trans (n3.same.trans n4.same)) ⟨tp,D,lp,ms,rfl,n4.at,n4.same _ _ (n3.same _ _ (by rw[au XZ];exact av)),n4.same _ _ n3.at,fun n =>?_⟩;rw[pm.mem_iff];exact hm n
end
def d6 (l:List Nat):Nat:=l.foldl (fun n c=>2*n+(c-48)) 0
def kg (l:List Nat)(c:Nat):d6 (l++[c])=2*d6 l+(c-48):=by
 unfold d6;rw[List.foldl_append];rfl
def my:∀(k n:Nat),∀c∈jY k n,c=48\/c=49
 | 0,_,_,h=>nomatch h
 | k+1,n,c,h=>by
  unfold jY at h
  rcases Ub.mp h with h|h
  ·exact my k _ c h
  ·rw[Ju.mp h];lia
def El:Sp:=fun vs H Q _=>∃x:Str,vs=[.str x]/\dJ x/\x.length<=1000/\Q (.int (d6 (sg x):Nat)) H
section
variable {P:YZ}{w:Zb}{K:Ja}{mg:Str->Option Fk}{base:Heap}{f:Gc}{fd:Zc}{t3:Tok}
def gh:aG ["figures", "number", "figure"] ["figures"] (ai (top jJ)):=⟨rfl,rfl,rfl,∅,rfl,∅,∅⟩
def GL (F:dM K "number_of" "number_of" (top jJ) f fd)(T:Nm mg):aW P w K mg base dI 1 f fd ["figures"] El:=by
 refine F.ok gh (fun vs H Q E h =>?_) (fun bS A outer s H vs Q E hr h =>?_)
 ·obtain⟨x,rfl,_⟩:=h
  rfl
 obtain⟨x,rfl,hb,hx,q⟩:=h;refine⟨_,(af (ay (i:=1) gh.nd rfl (YY rfl) ah)
  (af (fe Zw rfl (Ao (pv 0)) (aI (i:=2) gh.nd rfl (YY rfl)) (ag (ay (i:=1) gh.nd rfl (YY rfl) (aw bw (aw kz ah (pv 1)) (aX NH rfl T.n_int (by rfl) (aa (pv 2) ae))))))
  (ag (ao (pv 1))))),?_⟩
 refine gn ?_;have hs:(sg x).length=x.cps.size:=rfl;refine⟨_,rfl,x,rfl,?_,?_⟩
 ·rw[U9];intro c hc
  rcases hb c (by simpa using hc) with rfl|rfl<;>decide
 refine jN (N:=x.cps.size) (fun i σ H'=>∃x2,σ=[some (.str x),some (.int (d6 ((sg x).take i):Nat)),x2]/\H'=H) ⟨_,rfl,rfl⟩ ?_ ?_
 ·rintro i σ H' hi ⟨x2,rfl,rfl⟩;refine⟨hi,?_⟩;rintro y H2 ⟨rfl,hy⟩;have hc:(sg x)[i]? = some ((sg x)[i]'⋯):=Jc _;have e:=hy _ (by rw[<-Uz];exact hc);subst e;refine gn ?_;have CZ:=hb _ (Jy hc);have vC:=dA (l:=sg x) (i:=i) ⋯;generalize (sg x)[i]'⋯=c at CZ vC;refine⟨_,rfl,.inl ⟨_,_,rfl,rfl,.inl ⟨∅,∅⟩,_,rfl,⟨#[c]⟩,((c-48:Nat):Int),rfl,?_,by show 1<=640;decide,.inl ⟨_,_,rfl,rfl,gn ⟨some (.str ⟨#[c]⟩),?_,rfl⟩⟩⟩⟩
  ·rcases CZ with rfl|rfl<;>decide +kernel
  ·rw[vC,kg];show[_,some (V.int (2*((d6 ((sg x).take i):Nat):Int)+((c-48:Nat):Int))),_]=[_,some (V.int ((2*d6 ((sg x).take i)+(c-48):Nat):Int)),_]
   push_cast
   rfl
 ·rintro σ H' ⟨x2,rfl,rfl⟩;refine⟨Je _,_,rfl,?_⟩;rw[Uv ⋯];exact q
end
structure Es (K:Ja)(C:Gc):Prop where
 c:Ad K C
 n1:cR K C "kinds"
 n2:cR K C "spots"
 n3:cR K C "sizes"
 n4:cR K C "near"
 n5:cR K C "far"
def DR {ns:List Str}{bk:List (Str×Str)}(h:cU ns (aQ bk)=true)(hl:bk.length<=11)(hs:∀q∈bk,q.2.length<=11):lF bk:=by
 unfold cU at h;rw[Js,Js] at h;obtain⟨h1,_,h3⟩:=h;obtain⟨_,hq⟩:=oP h1;have e:cQ (iA (aQ bk))=bk:=iC bk;rw[e] at hq h3;refine⟨hl,@of_decide_eq_true _ (Qau _) h3,fun q m=>⟨?_,hs q m⟩⟩;have h4:(!decide (V.str q.2=V.str (W1 ""))&&fR q.2 cW)=true:=(hq q m).2;rw[Js,zA] at h4;have h5:=h4.1
 by_cases z:q.2.length=0
 ·rw[decide_eq_true z] at h5;cases h5
 ·lia
def kB.IV {F:Fb}(h:kB F):lF F.b1/\lF F.b2/\lF F.b3:=by
 obtain⟨h1,h2,h3⟩:=pq h.g.why;have l1:=h.g.l1;have l2:=h.g.l2;have l3:=h.g.l3;exact⟨DR h1 ⋯ fun q m=>(h.g.sz q (.inl m)).2.2.2,DR h2 ⋯ fun q m=>(h.g.sz q (.inr (.inl m))).2.2.2,DR h3 ⋯ fun q m=>(h.g.sz q (.inr (.inr m))).2.2.2⟩
def m7:∀{bk:List (Str×Str)} {x:Str},x∈bk.map (·.1)->(x,bh bk x)∈bk
 | q::r,x,h=>by
  unfold bh
  by_cases e:q.1=x
  ·rw[if_pos e,<-e];exact Jm
  ·rw[if_neg e];exact Jj _ (m7 ((Jq.mp h).resolve_left fun z=>e z.symm))
def jO.put {H:Hp}{v:V}{bk:List (Str×Str)}{m C dx:Gc}{fs:List (Str×V)}{o:HO}(h:jO H v bk)(hm:H m=some (.ins C dx fs)):jO (upd H m o) v bk:=by
 obtain⟨tp,d,lp,ls,e,h1,h2,h3,h4⟩:=h;exact⟨tp,d,lp,ls,e,by rw[au (vE h1 hm (nofun))];exact h1,by rw[au (vE h2 hm (nofun))];exact h2,by rw[au (vE h3 hm (nofun))];exact h3,h4⟩
def yH (CR:Gc)(H:Hp)(m:Gc)(F:Fb):Prop:=lW fun(dx:Gc) (w1 w2 w3:V)=>H m=some (.ins CR dx [("kinds",w1),("spots",w2),("sizes",w3),("near",.int (F.near:Nat)),("far",.int (F.eU:Nat))])/\jO H w1 F.b1/\jO H w2 F.b2/\jO H w3 F.b3
def yH.same {CR:Gc}{H H':Hp}{m:Gc}{F:Fb}(h:yH CR H m F)(s:ar H H'):yH CR H' m F:=by
 obtain⟨dx,w1,w2,w3,e,h1,h2,h3⟩:=h;exact⟨dx,w1,w2,w3,s _ _ e,h1.same s,h2.same s,h3.same s⟩
def E6 (K:Ja)(CF CR:Gc):Sp:=fun vs H Q _=>vY fun(H0:Hp) (m fm dx:Gc) (F:Fb)=>vs=[.ref m,.ref fm]/\ar H0 H/\H0 m=none/\H m=some (.ins CR dx [])/\mi K CF H0 fm F/\kB F/\∀H',ar H0 H'->yH CR H' m F->Q .non H'
def zY {F:Fb}:∀{as:List Arg} {ts:List Str},eC F as=some ts->ts.length=as.length/\∀(i:Nat) a,as[i]? = some a->∃x,ts[i]? = some x/\ij F a=some x
 | [],ts,e=>by cases e;exact⟨rfl,fun _ _ h=>nomatch h⟩
 | a::as,ts,e=>by
  have e:(match ij F a with|none=>none|some x=>(eC F as).map (x :: ·))=some ts:=e;cases ea:ij F a with
  | none=>rw[ea] at e;cases e
  | some x=>
   rw[ea] at e;cases er:eC F as with
   | none=>rw[er] at e;cases e
   | some us=>
    rw[er] at e;cases e;obtain⟨h1,h2⟩:=zY er;refine⟨by rw[Jn,Jn,h1],fun i b hb =>?_⟩;cases i with
    | zero=>cases hb;exact⟨x,rfl,ea⟩
    | succ i=>exact h2 i b hb
section
variable {P:YZ}{w:Zb}{K:Ja}{mg:Str->Option Fk}{base:Heap}{f fi fp fn fb:Gc}{fd IM NW OG OH:Zc}{CF C aP:Gc}
def oQ:aG ["self", "form"] ["self", "form"] (ai (inClass (top cL) 0)):=⟨rfl,rfl,rfl,∅,rfl,∅,∅⟩
def HS (F:dM K "__init__" "Reader.__init__" (inClass (top cL) 0) f fd)(T:Nm mg)(MF:MH K CF)(MR:Es K C)(jT:Fn P w K mg base 1 "lookup_of" ["book"] (EU K)):aW P w K mg base dI 2 f fd ["self", "form"] (E6 K CF C):=by
 refine F.ok oQ (fun vs H Q E h =>?_) (fun bS A outer s H vs Q E hr h =>?_)
 ·obtain⟨H0,m,fm,dx,Fo,rfl,_⟩:=h
  rfl
 obtain⟨H0,m,fm,dx,Fo,rfl,sm,nm,hm,fo,fr,q⟩:=h;obtain⟨dx',w1,w2,w3,w4,w5,ho,g1,g2,g3,g4,g5⟩:=fo;obtain⟨k1,k2,k3⟩:=fr.IV;unfold Den at g4 g5;subst g4 g5;refine⟨_,(af (iy (pv 0) (aA (jT.mono ∅) hr rfl (aa (fA K (pv 1) rfl) ae)) rfl)
  (af (iy (pv 0) (aA (jT.mono ∅) hr rfl (aa (fA K (pv 1) rfl) ae)) rfl)
  (af (iy (pv 0) (aA (jT.mono ∅) hr rfl (aa (fA K (pv 1) rfl) ae)) rfl)
  (af (iy (pv 0) (fA K (pv 1) rfl) rfl)
  (ag (iy (pv 0) (fA K (pv 1) rfl) rfl)))))),?_⟩
 unfold DA KZ;dsimp only;refine⟨_,rfl,fm,CF,dx',_,w1,rfl,sm _ _ ho,MF.c,MF.n1,rfl,w1,Fo.b1,rfl,g1.same sm,k1,fun v1 H1 s1 Ln =>?_⟩;have m1:=s1 _ _ hm;refine⟨_,rfl,m,C,dx,_,rfl,m1,MR.c,MR.n1,by show 0<1000;decide,?_⟩;have t1:ar H0 (upd H1 m (.ins C dx [("kinds",v1)])):=ki (sm.trans s1) nm;have Ln:jO (upd H1 m (.ins C dx [("kinds",v1)])) v1 Fo.b1:=Ln.put m1;refine⟨_,rfl,fm,CF,dx',_,w2,rfl,t1 _ _ ho,MF.c,MF.n2,rfl,w2,Fo.b2,rfl,g2.same t1,k2,fun v2 H2 s2 Pg =>?_⟩;have m2:=s2 _ _ av;refine⟨_,rfl,m,C,dx,_,rfl,m2,MR.c,MR.n2,by show 1<1000;decide,?_⟩;have t2:ar H0 (upd H2 m (.ins C dx [("kinds",v1),("spots",v2)])):=ki (t1.trans s2) nm;have Ln:jO (upd H2 m (.ins C dx [("kinds",v1),("spots",v2)])) v1 Fo.b1:=(Ln.same s2).put m2;have Pg:jO (upd H2 m (.ins C dx [("kinds",v1),("spots",v2)])) v2 Fo.b2:=Pg.put m2;refine⟨_,rfl,fm,CF,dx',_,w3,rfl,t2 _ _ ho,MF.c,MF.n3,rfl,w3,Fo.b3,rfl,g3.same t2,k3,fun v3 H3 s3 Ra =>?_⟩;have m3:=s3 _ _ av;refine⟨_,rfl,m,C,dx,_,rfl,m3,MR.c,MR.n3,by show 2<1000;decide,?_⟩;have t3:ar H0 (upd H3 m (.ins C dx [("kinds",v1),("spots",v2),("sizes",v3)])):=ki (t2.trans s3) nm;have Ln:jO (upd H3 m (.ins C dx [("kinds",v1),("spots",v2),("sizes",v3)])) v1 Fo.b1:=(Ln.same s3).put m3;have Pg:jO (upd H3 m (.ins C dx [("kinds",v1),("spots",v2),("sizes",v3)])) v2 Fo.b2:=(Pg.same s3).put m3;have Ra:jO (upd H3 m (.ins C dx [("kinds",v1),("spots",v2),("sizes",v3)])) v3 Fo.b3:=Ra.put m3;refine⟨_,rfl,fm,CF,dx',_,_,rfl,t3 _ _ ho,MF.c,MF.n4,rfl,_,rfl,m,C,dx,_,rfl,av,MR.c,MR.n4,by show 3<1000;decide,?_⟩;have t4:=ki (o := .ins C dx (jD "near" (.int (Fo.near:Nat)) [("kinds",v1),("spots",v2),("sizes",v3)])) t3 nm;refine⟨_,rfl,fm,CF,dx',_,_,rfl,t4 _ _ ho,MF.c,MF.n5,rfl,_,rfl,m,C,dx,_,rfl,av,MR.c,MR.n5,by show 4<1000;decide,?_⟩;refine q _ (ki t4 nm) ⟨dx,v1,v2,v3,av,(Ln.put av).put av,(Pg.put av).put av,(Ra.put av).put av⟩
end
def DV:Fk->Str
 | .str x _=>x
 | _ => "?"
def sJ {Pm:Params}{P:YZ}{w:Zb}:∀{l:List Qcz},Qb4 Pm l->Pairs (QcI P w) l (l.map fun e=>(DV e.key,e.val))
 | [],_ =>.nil
 | e::l,h=>by
  obtain⟨⟨x,t,e1,_⟩,h2⟩:=h;refine .cons ?_ rfl (sJ h2);show(QcI P w).is (DV e.key) e.key=true;rw[e1];exact PySem.strKind_is P w x t
def wW {l:List Qcz}:(l.map fun e=>(DV e.key,e.val)).map (·.1)=l.map fun e=>DV e.key:=by rw[Ym];rfl
def qG (bk:List (Str×Str))(t:Str)(p:Nat):Option (Str×Str):=bk.find? fun q=>(sg q.2).isPrefixOf ((sg t).drop p)
def nameA (bk:List (Str×Str))(t:Str)(p:Nat):Option (Str×Nat):=(qG bk t p).map fun q=>(q.1,p+q.2.length)
def kP (a t:Str)(p k:Nat):Option (Nat×Nat):=if (((sg t).drop p).take k).length=k/\(((sg t).drop p).take k).all cW.cps.contains=true then some (d6 (sg a++((sg t).drop p).take k),p+k) else none
def gH (t:Str)(p:Nat):Option (Nat×Nat):=(kP "" t p 3).bind fun r=>if ((sg t).drop r.2).take r.1=Jp r.1 48 then some (r.1,r.2+r.1) else none
def qT (t:Str)(p k:Nat):Option (Int×Nat):=(kP "" t p k).map fun r=>(if (2:Int)^(k-1)<=(r.1:Nat) then ((r.1:Nat):Int)-2^k else ((r.1:Nat):Int),r.2)
def yQ (x:Str)(t:Str)(e:Nat):Option (Nat×Nat):=if aO.idxOf x=0 then some (0,e) else kP "1" t e (aO.idxOf x-1)
def oj (bk:List (Str×Str))(t:Str)(p:Nat):Option (Nat×Nat):=(nameA bk t p).bind fun r=>yQ r.1 t r.2
def cq (F:Fb)(k t:Str)(p:Nat):Option (Arg×Nat):=
 if k = "spot" then (nameA F.b2 t p).map fun r=>(.sp r.1,r.2)
 else if k = "number" then (oj F.b3 t p).map fun r=>(.nu r.1,r.2)
 else if k = "many" then (gH t p).map fun r=>(.ma r.1,r.2)
 else if k = "near" then (qT t p F.near).map fun r=>(.ne r.1,r.2)
 else (qT t p F.eU).map fun r=>(.fa r.1,r.2)
def bD (F:Fb):List Str->Str->Nat->Option (List Arg×Nat)
 | [],_,p=>some ([],p)
 | k::ks,t,p=>(cq F k t p).bind fun r=>(bD F ks t r.2).map fun z=>(r.1::z.1,z.2)
def mI (w:Str):List Str:=match gm.find? fun q=>q.1==w with
 | some q=>q.2
 | none=>[]
def eX (F:Fb)(t:Str)(p:Nat):Option ((Str×List Arg)×Nat):=(nameA F.b1 t p).bind fun r=>(bD F (mI r.1) t r.2).map fun z=>((r.1,z.1),z.2)
def Ca (o:Option (V×Nat))(p:Nat):List V:=match o with
 | none=>[.non,.int (p:Nat)]
 | some r=>[r.1,.int (r.2:Nat)]
def dB {bk:List (Str×Str)}{t:Str}{p:Nat}{q:Str×Str}(h:qG bk t p=some q):q∈bk/\sg q.2 <+: (sg t).drop p:=
 ⟨List.mem_of_find?_eq_some h,Ye.mp (List.find?_some (p:=fun q:Str×Str=>(sg q.2).isPrefixOf ((sg t).drop p)) h)⟩
def zQ {bk:List (Str×Str)}{t:Str}{p:Nat}(h:qG bk t p=none):∀q∈bk,¬sg q.2 <+: (sg t).drop p:=fun q hq hp=>by
 have:=List.find?_eq_none.mp h q hq;exact this (Ye.mpr hp)
def Me {bk:List (Str×Str)}(g:lF bk){t:Str}{p:Nat}{q:Str×Str}(hq:q∈bk)(hp:sg q.2 <+: (sg t).drop p):qG bk t p=some q:=by
 cases e:qG bk t p with
 | none=>exact absurd hp (zQ e q hq)
 | some r=>
  obtain⟨hr,FN⟩:=dB e;obtain⟨i,hi⟩:=J4.mp hq;obtain⟨j,hj⟩:=J4.mp hr;have:=g.QE hi hj hp FN;subst this;rw[hi] at hj;exact hj.symm
def sZ {bk:List (Str×Str)}{t:Str}{p:Nat}{q:Str×Str}(hp:p<=t.length)(h:qG bk t p=some q):p+q.2.length<=t.length:=by
 have:=(dB h).2.length_le;rw[Uj,<-str_len,<-str_len] at this;lia
def iJ {bk:List (Str×Str)}{t:Str}{p:Nat}{r:Str×Nat}(hp:p<=t.length)(h:nameA bk t p=some r):r.2<=t.length:=by
 unfold nameA at h;obtain⟨q,e,rfl⟩:=Option.map_eq_some_iff.mp h;exact sZ hp e
def oC {a t:Str}{p k:Nat}{r:Nat×Nat}(hp:p<=t.length)(h:kP a t p k=some r):r.2=p+k/\p+k<=t.length:=by
 unfold kP at h
 split at h
 ·rename_i c;cases h;have:=c.1;rw[J6,Uj,<-str_len] at this;exact⟨rfl,⋯⟩
 ·cases h
def JL (K:Ja):Sp:=fun vs H Q _=>Dx fun(d lp:Gc) (ls:List Int) (bk:List (Str×Str)) (t:Str) (p:Nat)=>vs=[.ref d,.ref lp,.str t,.int (p:Nat)]/\H d=some (.dK (je bk))/\bg K H lp (ls.map V.int)/\(∀n,n∈ls ↔ ∃q∈bk,((q.2.length:Nat):Int)=n) /\
 lF bk/\p<=t.length/\t.length<=1000000/\Q (.str (match qG bk t p with|some q=>q.2|none => "")) H
def zG (K:Ja):Sp:=fun vs H Q _=>lW fun(v:V) (bk:List (Str×Str)) (t:Str) (p:Nat)=>vs=[v,.str t,.int (p:Nat)]/\jO H v bk/\lF bk/\p<=t.length/\t.length<=1000000 /\
 ∀tp H',ar H H'->aY K H' tp (Ca ((nameA bk t p).map fun r=>(.str r.1,r.2)) p)->Q (.ref tp) H'
def zf (K:Ja):Sp:=fun vs H Q _=>lW fun(a t:Str) (p k:Nat)=>vs=[.str a,.str t,.int (p:Nat),.int (k:Nat)]/\dJ a/\a.length<=1/\k<=60/\p<=t.length/\t.length<=1000000 /\
 ∀tp H',ar H H'->aY K H' tp (Ca ((kP a t p k).map fun r=>(.int (r.1:Nat),r.2)) p)->Q (.ref tp) H'
def IG (K:Ja):Sp:=fun vs H Q _=>fG fun(t:Str) (p:Nat)=>vs=[.str t,.int (p:Nat)]/\p<=t.length/\t.length<=1000000 /\
 ∀tp H',ar H H'->aY K H' tp (Ca ((gH t p).map fun r=>(.int (r.1:Nat),r.2)) p)->Q (.ref tp) H'
def IU (K:Ja):Sp:=fun vs H Q _=>oG fun(t:Str) (p k:Nat)=>vs=[.str t,.int (p:Nat),.int (k:Nat)]/\1<=k/\k<=60/\p<=t.length/\t.length<=1000000 /\
 ∀tp H',ar H H'->aY K H' tp (Ca ((qT t p k).map fun r=>(.int r.1,r.2)) p)->Q (.ref tp) H'
section
variable {P:YZ}{w:Zb}{K:Ja}{mg:Str->Option Fk}{base:Heap}{f:Gc}{fd:Zc}{t3:Tok}
def k8:aG ["names_by_code", "lengths", "text", "place", "length", "code"] ["names_by_code", "lengths", "text", "place"] (ai (top mO)):=⟨rfl,rfl,rfl,∅,rfl,∅,∅⟩
def L8 (F:dM K "code_at" "code_at" (top mO) f fd)(T:Nm mg):aW P w K mg base dI 1 f fd ["names_by_code", "lengths", "text", "place"] (JL K):=by
 refine F.ok k8 (fun vs H Q E h =>?_) (fun bS A outer s H vs Q E hr h =>?_)
 ·obtain⟨d,lp,ls,bk,t,p,rfl,_⟩:=h
  rfl
 obtain⟨d,lp,ls,bk,t,p,rfl,hd,hl,hm,g,hp,ht,q⟩:=h;have hu:=jF hr;refine⟨_,(af (fe Zw rfl (JQ K (pv 1)) (aI (i:=4) k8.nd rfl (YY rfl)) (af (ay (i:=5) k8.nd rfl (YY rfl) (bL (DK K) (pv 2) (bz (pv 3)) (bz (aw bw (pv 3) (pv 4)))))
  (ag (aV (KO (Kr hu (pv 5) (pv 0))) (ag (ao (pv 5))) aB))))
  (ag (ao aq))),?_⟩
 have hz:t.length<=KE:=Jg ht ∅;refine fk (t:=BR _ _ _) (fun σ H'=>qG bk t p=none/\H'=H) (fun Nx nx =>?_) ?_
 ·refine⟨_,rfl,lp,rfl,⟨_,hl⟩,?_⟩;refine jN (N:=ls.length) (fun i σ H'=>∃x4 x5:Option V,σ=[some (.ref d),some (.ref lp),some (.str t),some (.int (p:Nat)),x4,x5]/\H'=H/\∀q∈bk,((q.2.length:Nat):Int)∈ls.take i->¬sg q.2 <+: (sg t).drop p) ⟨_,_,rfl,rfl,fun _ _ h=>nomatch h⟩ ?_ ?_
  ·rintro i σ H2 hi ⟨x4,x5,rfl,rfl,C0⟩;have hv:(ls.map V.int)[i]? = some (.int ls[i]):=by rw[Jk,Jc hi];rfl
   refine⟨⟨_,_,hl,hv⟩,?_⟩;rintro x H3 ⟨rfl,hy⟩;have e:=hy _ hl;rw[hv] at e;cases e;obtain⟨r0,hr0,er⟩:=(hm ls[i]).mp (Ug hi);generalize hL:ls[i]=L at er ⊢;obtain⟨m,rfl⟩:∃m:Nat,L=m:=⟨r0.2.length,er.symm⟩
   refine gn ?_;refine⟨_,rfl,_,rfl,_,rfl,_,rfl,_,rfl,.inl ⟨_,_,rfl,rfl,_,rfl,.inr ⟨t,rfl,hz,gn ?_⟩⟩⟩;have nq:sg (Zi t (some (p:Int)) (some ((p:Int)+(m:Int))))=((sg t).drop p).take m:=by
    rw[show((p:Int)+(m:Int))=((p+m:Nat):Int) by lia,j0 (Ua _ _) hp]
    congr 1
    lia
   generalize Zi t (some (p:Int)) (some ((p:Int)+(m:Int)))=c at nq ⊢
   by_cases hc:∃r∈bk,r.2=c
   ·obtain⟨r,hr,rfl⟩:=hc;obtain⟨ir,hir⟩:=J4.mp hr;refine⟨_,rfl,_,rfl,d,_,rfl,.inl ⟨_,.inr r.2,.inl hd,rfl,rfl⟩,?_⟩;rw[g.code hir];refine⟨_,rfl,bA ⟨_,rfl,?_⟩⟩;rw[Me g hr (by rw[nq];exact List.take_prefix _ _)] at q;exact q
   ·refine⟨_,rfl,_,rfl,d,_,rfl,.inl ⟨_,.inr c,.inl hd,rfl,rfl⟩,?_⟩;have hn:gf (je bk) (.inr c)=none:=xC (f:=fun q:Str×Str=>((.inr q.2:Key),V.str q.1)) fun y hy e=>hc ⟨y,hy,by injection e⟩;rw[hn];refine⟨_,rfl,bj ⟨_,_,rfl,rfl,fun q0 o jB =>?_⟩⟩;rw[dA hi,hL] at jB
    rcases Ub.mp jB with h|h
    ·exact C0 _ o h
    ·have hlen:q0.2.length=m:=by have:=Ju.mp h;lia
     intro sV;refine hc ⟨q0,o,eI ?_⟩;show sg q0.2=sg c;rw[nq,<-hlen,str_len];exact List.prefix_iff_eq_take.mp sV
  ·rintro σ H2 ⟨x4,x5,rfl,rfl,C0⟩;rw[Yj] at C0;refine⟨⟨_,hl,by rw[Jd];exact Je _⟩,nx _ _ ⟨?_,rfl⟩⟩;cases e:qG bk t p with
   | none=>rfl
   | some q0=>
    obtain⟨o,sV⟩:=dB e;exact absurd sV (C0 _ o ((hm _).mpr ⟨q0,o,rfl⟩))
 ·rintro σ H' ⟨e,rfl⟩;rw[e] at q;exact q
def gc:aG ["lookup", "text", "place", "names_by_code", "lengths", "code"] ["lookup", "text", "place"] (ai (top jX)):=⟨rfl,rfl,rfl,∅,rfl,∅,∅⟩
def KW (F:dM K "name_from" "name_from" (top jX) f fd)(T:Nm mg)(Bq:Fn P w K mg base 1 "code_at" ["names_by_code", "lengths", "text", "place"] (JL K)):aW P w K mg base dI 2 f fd ["lookup", "text", "place"] (zG K):=by
 refine F.ok gc (fun vs H Q E h =>?_) (fun bS A outer s H vs Q E hr h =>?_)
 ·obtain⟨v,bk,t,p,rfl,_⟩:=h
  rfl
 obtain⟨v,bk,t,p,rfl,⟨tp,d,lp,ls,rfl,h1,h2,h3,h4⟩,g,hp,ht,q⟩:=h;have hu:=jF hr;have cK:=hr.units;refine⟨_,(af (ia (pv 0) (tupK K 2 rfl (aN (aI (i:=3) gc.nd rfl (YY rfl)) (aN (aI (i:=4) gc.nd rfl (YY rfl)) bH))))
  (af (ay (i:=5) gc.nd rfl (YY rfl) (aA (Bq.mono ∅) hr rfl (aa (pv 3) (aa (pv 4) (aa (pv 1) (aa (pv 2) ae))))))
  (af (aV (ax (kW K cK) (pv 5) aq (aE _)) (ag (ao (bK (aa a9 (aa (pv 2) ae))))) aB)
  (ag (ao (bK (aa (bP hu (pv 3) (pv 5) (fun _ _=>rfl)) (aa (aw bw (pv 2) (ak (eE K) rfl T.n_len (by rfl) (aa (pv 5) ae))) ae)))))))),?_⟩
 refine⟨_,rfl,tp,_,rfl,aY.of h1,rfl,_,_,rfl,_,_,rfl,rfl,?_⟩;refine⟨_,rfl,_,rfl,_,rfl,_,rfl,d,lp,ls,bk,t,p,rfl,h2,bg.of h3,h4,g,hp,ht,gn ?_⟩;unfold nameA at q;cases e:qG bk t p with
 | none=>
  rw[e] at q;refine⟨_,rfl,.inl ⟨rfl,_,rfl,mX ?_⟩⟩;exact⟨_,rfl,by show 2<=KE;decide,fun tq H5 n5=>q tq H5 n5.same (aY.of n5.at)⟩
 | some q0=>
  rw[e] at q;obtain⟨o,sV⟩:=dB e;obtain⟨iq,hiq⟩:=J4.mp o;have c1:=g.cd _ o;refine⟨_,rfl,.inl ⟨rfl,_,rfl,fP ?_ ?_⟩⟩
  ·refine⟨_,rfl,_,rfl,d,_,rfl,by rw[<-g.code hiq];exact eV.k (k := .inr q0.2) h2,?_⟩;refine⟨_,rfl,_,rfl,_,_,rfl,⟨Jg c1.2 ∅,rfl⟩,.inl ⟨_,_,rfl,rfl,by show 2<=KE;decide,fun tq H5 n5 =>?_⟩⟩;exact q tq H5 n5.same (aY.of n5.at)
  ·refine beq_eq_false_iff_ne.mpr fun z =>?_;have z:q0.2 = "":=z;rw[z] at c1;exact absurd c1.1 ∅
def jt:aG ["ahead", "text", "place", "many", "figures"] ["ahead", "text", "place", "many"] (ai (top gM)):=⟨rfl,rfl,rfl,∅,rfl,∅,∅⟩
def Lq (F:dM K "figures_from" "figures_from" (top gM) f fd)(T:Nm mg)(kd:mg "SIGNS" = some (.str cW t3))(iI:Fn P w K mg base 1 "made_of" ["text", "signs"] uA)(vO:Fn P w K mg base 1 "number_of" ["figures"] El):aW P w K mg base dI 2 f fd ["ahead", "text", "place", "many"] (zf K):=by
 refine F.ok jt (fun vs H Q E h =>?_) (fun bS A outer s H vs Q E hr h =>?_)
 ·obtain⟨a,t,p,k,rfl,_⟩:=h
  rfl
 obtain⟨a,t,p,k,rfl,ha,CV,hk,hp,ht,q⟩:=h;have cK:=hr.units;have hz:t.length<=KE:=Jg ht ∅;refine⟨_,(af (ay (i:=4) jt.nd rfl (YY rfl) (bL (DK K) (pv 1) (bz (pv 2)) (bz (aw bw (pv 2) (pv 3)))))
  (af (aV (PW.pt (ju (ax (DE K cK) (ak (eE K) rfl T.n_len (by rfl) (aa (pv 4) ae)) (pv 3) (aE _)) (hW (eJ (cI (aA (iI.mono ∅) hr rfl (aa (pv 4) (aa (tL rfl kd) ae)))))))) (ag (ao (bK (aa a9 (aa (pv 2) ae))))) aB)
  (ag (ao (bK (aa (aA (vO.mono ∅) hr rfl (aa (aw bw (pv 0) (pv 4)) ae)) (aa (aw bw (pv 2) (pv 3)) ae))))))),?_⟩
 refine⟨_,rfl,_,rfl,_,rfl,_,rfl,_,rfl,.inl ⟨_,_,rfl,rfl,_,rfl,.inr ⟨t,rfl,hz,gn ?_⟩⟩⟩;have nq:sg (Zi t (some (p:Int)) (some ((p:Int)+(k:Int))))=((sg t).drop p).take k:=by
  rw[show((p:Int)+(k:Int))=((p+k:Nat):Int) by lia,j0 (Ua _ _) hp]
  congr 1
  lia
 unfold kP at q;rw[<-nq,<-iY,<-str_len] at q;generalize Zi t (some (p:Int)) (some ((p:Int)+(k:Int)))=c at nq q ⊢;have qP:c.length<=k:=by rw[str_len];show(sg c).length<=k;rw[nq];exact QcM _ _
 refine⟨_,rfl,_,_,rfl,⟨Jg (Jg qP hk) ∅,rfl⟩,_,rfl,.inl ⟨rfl,_,rfl,?_⟩⟩
 by_cases hl:c.length=k
 ·rw[decide_eq_true (show V.int ((c.length:Nat):Int)=V.int (k:Nat) by rw[hl])];refine bj ?_;refine⟨_,rfl,c,cW,rfl,Jg (Jg qP hk) ∅,?_⟩;cases hm:fR c cW with
  | true=>
   rw[if_pos ⟨hl,hm⟩] at q;refine⟨_,rfl,bj ?_⟩;dsimp only[bZ];refine⟨_,rfl,_,rfl,.inr (.inl ⟨_,_,rfl,rfl,?_,?_⟩)⟩
   ·exact Jg (show a.length+c.length<=61 by lia) ∅
   have hb:dJ (a++c):=fun x hx=>by
    rw[aK] at hx
    rcases Ub.mp hx with h|h
    ·exact ha x h
    ·rw[iY,U1] at hm;have:=hm x h;rw[show cW.cps = #[48,49] by decide +kernel] at this;simpa using this
   refine⟨a++c,rfl,hb,by rw[Zn];lia,_,rfl,_,rfl,.inl ⟨_,_,rfl,rfl,by show 2<=KE;decide,fun tp H5 n5 =>?_⟩⟩;refine q tp H5 n5.same ?_;have:=aY.of (K:=K) n5.at;rw[show sg (a++c)=sg a++sg c from aK _ _] at this;exact this
  | false=>
   rw[if_neg (fun z=>by rw[hm] at z;exact absurd z.2 ∅)] at q;refine⟨_,rfl,bA ?_⟩;exact⟨_,rfl,by show 2<=KE;decide,fun tq H5 n5=>q tq H5 n5.same (aY.of n5.at)⟩
 ·rw[decide_eq_false (show ¬V.int ((c.length:Nat):Int)=V.int (k:Nat) from fun z=>hl (by injection z with z;lia))];rw[if_neg (fun z=>hl z.1)] at q;refine bA ?_;exact⟨_,rfl,by show 2<=KE;decide,fun tq H5 n5=>q tq H5 n5.same (aY.of n5.at)⟩
end
def oy:∀{l:List Nat},(∀c∈l,c=48\/c=49)->d6 l<2^l.length:=by
 intro l
 induction hn:l.length generalizing l with
 | zero=>
  intro _;rw[Yp.mp hn];exact Nat.one_pos
 | succ n ih=>
  intro h;obtain⟨m,c,rfl⟩:∃m c,l=m++[c]:=⟨l.dropLast,l.getLast (by rintro rfl;cases hn),(QdB _).symm⟩
  rw[Jt] at hn;have hm:m.length=n:=QcJ hn;have i1:=ih hm fun x hx=>h x (Us _ hx);rw[kg,Qcp]
  rcases h c (Jo _ (Ju.mpr rfl)) with rfl|rfl<;>lia
def L5 {t:Str}{p k:Nat}{r:Nat×Nat}(h:kP "" t p k=some r):r.1<2^k:=by
 unfold kP at h
 split at h
 ·rename_i c;cases h;have:=oy (l:=((sg t).drop p).take k) fun x hx=>by
   have:=U1.mp c.2 x hx;rw[show cW.cps = #[48,49] by decide +kernel] at this;simpa using this
  rwa[c.1] at this
 ·cases h
def vN {n:Nat}{c:Str}(hn:n<8):(c=QaZ (W1 "0") (n:Nat))↔sg c=Jp n 48:=by
 have key:∀n,n<8->sg (QaZ (W1 "0") (n:Nat))=Jp n 48:=∅;rw[<-key n hn];exact⟨fun h=>by rw[h],fun h=>eI h⟩
section
variable {P:YZ}{w:Zb}{K:Ja}{mg:Str->Option Fk}{base:Heap}{f:Gc}{fd:Zc}{t3:Tok}
def iZ:aG ["text", "place", "many", "end"] ["text", "place"] (ai (top kc)):=⟨rfl,rfl,rfl,∅,rfl,∅,∅⟩
def K5 (F:dM K "many_from" "many_from" (top kc) f fd)(T:Nm mg)(gN:mg "SKIP_FIGURES" = some (.int 3 t3))(da:Fn P w K mg base 2 "figures_from" ["ahead", "text", "place", "many"] (zf K)):aW P w K mg base dI 3 f fd ["text", "place"] (IG K):=by
 refine F.ok iZ (fun vs H Q E h =>?_) (fun bS A outer s H vs Q E hr h =>?_)
 ·obtain⟨t,p,rfl,_⟩:=h
  rfl
 obtain⟨t,p,rfl,hp,ht,q⟩:=h;have hu:=jF hr;have cK:=hr.units;have hz:t.length<=KE:=Jg ht ∅;refine⟨_,(af (ia (aA (da.mono ∅) hr rfl (aa aq (aa (pv 0) (aa (pv 1) (aa (mr rfl gN) ae))))) (tupK K 2 rfl (aN (aI (i:=2) iZ.nd rfl (YY rfl)) (aN (aI (i:=3) iZ.nd rfl (YY rfl)) bH))))
  (af (aV (PW.pt (ju (ax lY (pv 2) a9 (aE _)) (hW (ax (DE K cK) (bL (DK K) (pv 0) (bz (pv 3)) (bz (aw bw (pv 3) (pv 2)))) (aw Pf aq (pv 2)) (aE _))))) (ag (ao (bK (aa a9 (aa (pv 1) ae))))) aB)
  (ag (ao (bK (aa (pv 2) (aa (aw bw (pv 3) (pv 2)) ae))))))),?_⟩
 refine⟨_,rfl,_,rfl, "",t,p,3,rfl,(fun _ h=>nomatch h),∅,∅,hp,ht,fun tp H1 s1 h1 =>?_⟩;unfold gH at q;cases e:kP "" t p 3 with
 | none=>
  rw[e] at h1 q;refine⟨tp,_,rfl,h1,rfl,_,_,rfl,_,_,rfl,rfl,?_⟩;refine⟨_,rfl,.inl ⟨rfl,_,rfl,?_⟩⟩;rw[decide_eq_true rfl];refine bA (bA ?_);exact⟨_,rfl,by show 2<=KE;decide,fun tq H5 n5=>q tq H5 (s1.trans n5.same) (aY.of n5.at)⟩
 | some r=>
  rw[e] at h1 q;obtain⟨e1,e2⟩:=oC hp e;have WJ:r.1<8:=L5 e;refine⟨tp,_,rfl,h1,rfl,_,_,rfl,_,_,rfl,rfl,?_⟩;refine⟨_,rfl,.inl ⟨rfl,_,rfl,?_⟩⟩;rw[decide_eq_false (nofun)];refine bj ?_;have R6:r.2<=t.length:=by lia
  refine⟨_,rfl,_,rfl,_,rfl,_,rfl,_,rfl,.inl ⟨_,_,rfl,rfl,_,rfl,.inr ⟨t,rfl,hz,?_⟩⟩⟩;have nq:sg (Zi t (some (r.2:Int)) (some ((r.2:Int)+(r.1:Int))))=((sg t).drop r.2).take r.1:=by
   rw[show((r.2:Int)+(r.1:Int))=((r.2+r.1:Nat):Int) by lia,j0 (Ua _ _) R6]
   congr 1
   lia
  have q:∀tp H',ar H H'->aY K H' tp (Ca ((if ((sg t).drop r.2).take r.1=Jp r.1 48 then some (r.1,r.2+r.1) else none).map fun r=>(V.int (r.1:Nat),r.2)) p)->Q (.ref tp) H':=q;rw[<-nq] at q;dsimp only;generalize Zi t (some (r.2:Int)) (some ((r.2:Int)+(r.1:Int)))=c at q ⊢;refine⟨_,rfl,.inr ⟨_,_,rfl,rfl,nJ ∅ ⋯ ⋯,?_⟩⟩;refine .inl ⟨rfl,?_⟩;have ee:=vN (c:=c) WJ
  by_cases hc:c=QaZ (W1 "0") (r.1:Nat)
  ·rw[if_pos (ee.mp hc)] at q;rw[decide_eq_true (show V.str c=V.str (QaZ (W1 "0") (r.1:Nat)) by rw[hc])];refine⟨_,rfl,bj ?_⟩;refine⟨_,rfl,_,rfl,_,rfl,.inl ⟨_,_,rfl,rfl,by show 2<=KE;decide,fun tq H5 n5=>q tq H5 (s1.trans n5.same) (aY.of n5.at)⟩⟩
  ·rw[if_neg (fun z=>hc (ee.mpr z))] at q;rw[decide_eq_false (show ¬V.str c=V.str (QaZ (W1 "0") (r.1:Nat)) from fun z=>hc (by injection z))];refine⟨_,rfl,bA ?_⟩;exact⟨_,rfl,by show 2<=KE;decide,fun tq H5 n5=>q tq H5 (s1.trans n5.same) (aY.of n5.at)⟩
def dz:aG ["text", "place", "many", "number", "end"] ["text", "place", "many"] (ai (top fQ)):=⟨rfl,rfl,rfl,∅,rfl,∅,∅⟩
def KU (F:dM K "distance_from" "distance_from" (top fQ) f fd)(T:Nm mg)(ve:Fn P w K mg base 1 "two_to" ["power"] si)(da:Fn P w K mg base 2 "figures_from" ["ahead", "text", "place", "many"] (zf K)):aW P w K mg base dI 3 f fd ["text", "place", "many"] (IU K):=by
 refine F.ok dz (fun vs H Q E h =>?_) (fun bS A outer s H vs Q E hr h =>?_)
 ·obtain⟨t,p,k,rfl,_⟩:=h
  rfl
 obtain⟨t,p,k,rfl,k1,k2,hp,ht,q⟩:=h;have cK:=hr.units;refine⟨_,(af (ia (aA (da.mono ∅) hr rfl (aa aq (aa (pv 0) (aa (pv 1) (aa (pv 2) ae))))) (tupK K 2 rfl (aN (aI (i:=3) dz.nd rfl (YY rfl)) (aN (aI (i:=4) dz.nd rfl (YY rfl)) bH))))
  (af (aV (ax lY (pv 3) a9 (aE _)) (ag (ao (bK (aa a9 (aa (pv 1) ae))))) aB)
  (af (aV (ax zJ (pv 3) (aA (ve.mono ∅) hr rfl (aa (aw dG (pv 2) ah) ae)) (aE _)) (ag (DG (i:=3) dz.nd rfl (YY rfl) (aA (ve.mono ∅) hr rfl (aa (pv 2) ae)) La)) aB)
  (ag (ao (bK (aa (pv 3) (aa (pv 4) ae)))))))),?_⟩
 refine⟨_,rfl,_,rfl,_,rfl, "",t,p,k,rfl,(fun _ h=>nomatch h),∅,⋯,hp,ht,fun tp H1 s1 h1 =>?_⟩;unfold qT at q;cases e:kP "" t p k with
 | none=>
  rw[e] at h1 q;refine⟨tp,_,rfl,h1,rfl,_,_,rfl,_,_,rfl,rfl,?_⟩;refine⟨_,rfl,.inl ⟨rfl,_,rfl,?_⟩⟩;rw[decide_eq_true rfl];refine bA ?_;exact⟨_,rfl,by show 2<=KE;decide,fun tq H5 n5=>q tq H5 (s1.trans n5.same) (aY.of n5.at)⟩
 | some r=>
  rw[e] at h1 q;refine⟨tp,_,rfl,h1,rfl,_,_,rfl,_,_,rfl,rfl,?_⟩;refine⟨_,rfl,.inl ⟨rfl,_,rfl,?_⟩⟩;rw[decide_eq_false (nofun)];refine bj ?_;have q:∀tp H',ar H H'->aY K H' tp [.int (if (2:Int)^(k-1)<=(r.1:Nat) then ((r.1:Nat):Int)-2^k else ((r.1:Nat):Int)),.int (r.2:Nat)]->Q (.ref tp) H':=q;dsimp only[bZ];refine⟨_,rfl,_,rfl,_,_,rfl,rfl,k-1,?_,⋯,?_⟩
  ·show[V.int ((k:Int)-1)]=[V.int ((k-1:Nat):Int)]
   rw[show(k:Int)-1=((k-1:Nat):Int) by lia]
  refine⟨_,_,rfl,rfl,_,rfl,?_⟩;refine fq (fun c =>?_) (fun c =>?_)
  ·have c:(2:Int)^(k-1)<=(r.1:Nat):=of_decide_eq_true c;rw[if_pos c] at q;refine⟨_,rfl,_,rfl,k,rfl,⋯,_,_,rfl,rfl,?_⟩;exact⟨_,rfl,_,rfl,by show 2<=KE;decide,fun tq H5 n5=>q tq H5 (s1.trans n5.same) (aY.of n5.at)⟩
  ·have c:¬(2:Int)^(k-1)<=(r.1:Nat):=fun z=>c (decide_eq_true z);rw[if_neg c] at q;exact⟨_,rfl,_,rfl,by show 2<=KE;decide,fun tq H5 n5=>q tq H5 (s1.trans n5.same) (aY.of n5.at)⟩
end
def G5 (K:Ja)(H:Hp)(tp:Gc)(o:Option (V×Nat)):Prop:=match o with
 | none=>∃e:Nat,aY K H tp [.non,.int (e:Nat)]
 | some r=>aY K H tp [r.1,.int (r.2:Nat)]
def DL {K:Ja}{H:Hp}{tp:Gc}{o:Option (V×Nat)}{p:Nat}(h:aY K H tp (Ca o p)):G5 K H tp o:=by
 cases o with
 | none=>exact⟨p,h⟩
 | some r=>exact h
def Xf {K:Ja}{a:Gc}{xs:List V}(h:∀H,aY K H a xs)(H:Hp):Qy K "tuple" (.ref a) H:=by
 have h0:aY K (fun _=>none) a xs:=h _;unfold aY at h0
 rcases h0 with h|⟨o,aF,n,hk,hc,hd,_⟩
 ·rcases h with h|⟨o,h⟩<;>cases h
 ·exact .inr (.inl ⟨rfl,o,hk,hc,hd⟩)
def JS (K:Ja)(CR:Gc):Sp:=fun vs H Q _=>lW fun(m:Gc) (F:Fb) (t:Str) (p:Nat)=>vs=[.ref m,.str t,.int (p:Nat)]/\yH CR H m F/\kB F/\p<=t.length/\t.length<=1000000 /\
 ∀tp H',ar H H'->G5 K H' tp ((oj F.b3 t p).map fun r=>(.int (r.1:Nat),r.2))->Q (.ref tp) H'
def JP (K:Ja)(CR:Gc):Sp:=fun vs H Q _=>vY fun(m:Gc) (F:Fb) (k t:Str) (p:Nat)=>vs=[.ref m,.str k,.str t,.int (p:Nat)]/\k∈[("spot" : Str), "number", "many", "near", "far"]/\yH CR H m F/\kB F/\p<=t.length/\t.length<=1000000 /\
 ∀tp H',ar H H'->G5 K H' tp ((cq F k t p).map fun r=>(r.1.v,r.2))->Q (.ref tp) H'
def Ab (K:Ja)(H:Hp)(tp:Gc)(o:Option ((Str×List Arg)×Nat))(p:Nat):Prop:=match o with
 | none=>aY K H tp [.non,.int (p:Nat)]
 | some r=>∃bp,aY K H tp [.ref bp,.int (r.2:Nat)]/\aY K H bp (.str r.1.1::r.1.2.map Arg.v)
def IX (K:Ja)(CR:Gc):Sp:=fun vs H Q _=>lW fun(m:Gc) (F:Fb) (t:Str) (p:Nat)=>vs=[.ref m,.str t,.int (p:Nat)]/\yH CR H m F/\kB F/\p<=t.length/\t.length<=1000000 /\
 ∀tp H',ar H H'->Ab K H' tp (eX F t p) p->Q (.ref tp) H'
def rK {α:Type}[BEq α][LawfulBEq α]{l:List α}{x: α}(hm:x∈l):l[l.idxOf x]? = some x/\(∀m,m<l.idxOf x->l[m]? ≠ some x)/\l.idxOf x<l.length:=by
 have hl:l.idxOf x<l.length:=List.idxOf_lt_length_iff.mpr hm;refine⟨?_,fun m jv z =>?_,hl⟩
 ·rw[Jc hl,List.getElem_idxOf hl]
 ·obtain⟨h1,h2⟩:=Ji.mp z;have:=QeG (p:=(· == x)) (xs:=l) jv;rw[h2] at this;simp at this
def Nj:aO.length=9:=∅
def Ay {F:Fb}(h:kB F){t:Str}{p:Nat}{r:Str×Nat}(e:nameA F.b3 t p=some r):aO[aO.idxOf r.1]? = some r.1/\(∀m,m<aO.idxOf r.1->aO[m]? ≠ some r.1)/\aO.idxOf r.1<9:=by
 unfold nameA at e;obtain⟨q,e',e''⟩:=Option.map_eq_some_iff.mp e;have hm:r.1∈aO:=by rw[<-e''];exact h.n3.mem_iff.mp (Ui (dB e').1)
 obtain⟨a,b,c⟩:=rK hm;exact⟨a,b,by rw[<-Nj];exact c⟩
section
variable {P:YZ}{w:Zb}{K:Ja}{mg:Str->Option Fk}{base:Heap}{f fi fp fn fb:Gc}{fd IM NW OG OH:Zc}{CF C aP aZ:Gc}{t3:Tok}
def bX:aG ["self", "text", "place", "name", "end", "size"] ["self", "text", "place"] (ai (inClass (top cL) 3)):=⟨rfl,rfl,rfl,∅,rfl,∅,∅⟩
def Kw (F:dM K "number_from" "Reader.number_from" (inClass (top cL) 3) f fd)(T:Nm mg)(MR:Es K C)(jd:mg "SIZE_NAMES" = some (.ref aZ))(hZ:∀H,aY K H aZ (aO.map V.str))(fE:Fn P w K mg base 2 "name_from" ["lookup", "text", "place"] (zG K))(da:Fn P w K mg base 2 "figures_from" ["ahead", "text", "place", "many"] (zf K)):aW P w K mg base dI 3 f fd ["self", "text", "place"] (JS K C):=by
 refine F.ok bX (fun vs H Q E h =>?_) (fun bS A outer s H vs Q E hr h =>?_)
 ·obtain⟨m,Fo,t,p,rfl,_⟩:=h
  rfl
 obtain⟨m,Fo,t,p,rfl,rd,fr,hp,ht,q⟩:=h;have cK:=hr.units;obtain⟨k1,k2,k3⟩:=fr.IV;obtain⟨dx,w1,w2,w3,hm,l1,l2,l3⟩:=id rd;refine⟨_,(af (ia (aA (fE.mono ∅) hr rfl (aa (fA K (pv 0) rfl) (aa (pv 1) (aa (pv 2) ae)))) (tupK K 2 rfl (aN (aI (i:=3) bX.nd rfl (YY rfl)) (aN (aI (i:=4) bX.nd rfl (YY rfl)) bH))))
  (af (aV (ax lY (pv 3) a9 (aE _)) (ag (ao (bK (aa a9 (aa (pv 2) ae))))) aB)
  (af (ay (i:=5) bX.nd rfl (YY rfl) (uN K PySem.F.plainAttrs_tuple PySem.F.slot_tuple_index PySem.F.type_tuple_index (Mp K) (cG rfl jd) (aa (pv 3) ae)))
  (af (aV (ax (kW K cK) (pv 5) ah (aE _)) (ag (ao (bK (aa ah (aa (pv 4) ae))))) aB)
  (ag (ao (aA (da.mono ∅) hr rfl (aa aq (aa (pv 1) (aa (pv 4) (aa (aw dG (pv 5) ah) ae))))))))))),?_⟩
 refine⟨_,rfl,m,C,dx,_,w3,rfl,hm,MR.c,MR.n3,rfl,_,rfl,_,rfl,w3,Fo.b3,t,p,rfl,l3,k3,hp,ht,fun tp H1 s1 h1 =>?_⟩;unfold oj at q;cases e:nameA Fo.b3 t p with
 | none=>
  rw[e] at h1 q;refine⟨tp,_,rfl,h1,rfl,_,_,rfl,_,_,rfl,rfl,?_⟩;refine⟨_,rfl,.inl ⟨rfl,_,rfl,?_⟩⟩;rw[decide_eq_true rfl];refine bA ?_;exact⟨_,rfl,by show 2<=KE;decide,fun tq H5 n5=>q tq H5 (s1.trans n5.same) ⟨p,aY.of n5.at⟩⟩
 | some r=>
  rw[e] at h1 q;obtain⟨z1,z2,z3⟩:=Ay fr e;have R6:=iJ hp e;refine⟨tp,_,rfl,h1,rfl,_,_,rfl,_,_,rfl,rfl,?_⟩;refine⟨_,rfl,.inl ⟨rfl,_,rfl,?_⟩⟩;rw[decide_eq_false (nofun)];refine bj ?_;dsimp only[bZ];refine⟨Xf hZ _,_,rfl,aZ,aO,r.1,aO.idxOf r.1,rfl,rfl,hZ _,z1,z2,gn ?_⟩;have q:∀tp H',ar H H'->G5 K H' tp ((yQ r.1 t r.2).map fun r=>(V.int (r.1:Nat),r.2))->Q (.ref tp) H':=q;unfold yQ at q;refine⟨_,rfl,.inl ⟨rfl,_,rfl,?_⟩⟩
  by_cases hz:aO.idxOf r.1=0
  ·rw[if_pos hz] at q;rw[decide_eq_true (show V.int ((aO.idxOf r.1:Nat):Int)=V.int 0 by rw[hz];rfl)];refine bA ?_;exact⟨_,rfl,by show 2<=KE;decide,fun tq H5 n5=>q tq H5 (s1.trans n5.same) (aY.of n5.at)⟩
  ·rw[if_neg hz] at q;rw[decide_eq_false (show ¬V.int ((aO.idxOf r.1:Nat):Int)=V.int 0 from fun z=>hz (by injection z with z;lia))];refine bj ?_;dsimp only[bZ];refine⟨_,rfl,_,rfl,_,rfl,_,_,rfl,rfl, "1",t,r.2,aO.idxOf r.1-1,?_,?_,∅,⋯,R6,ht,fun tq H5 s5 h5=>q tq H5 (s1.trans s5) (DL h5)⟩
   ·show[_,_,_,V.int (((aO.idxOf r.1:Nat):Int)-1)]=[_,_,_,V.int ((aO.idxOf r.1-1:Nat):Int)]
    rw[show(((aO.idxOf r.1:Nat):Int)-1)=((aO.idxOf r.1-1:Nat):Int) by lia]
   ·intro c hc;have hc:c∈("1" : Str).cps.toList:=hc;rw[show("1" : Str).cps.toList=[49] by decide +kernel] at hc;exact .inr (Ju.mp hc)
def kA:aG ["self", "part", "text", "place"] ["self", "part", "text", "place"] (ai (inClass (top cL) 2)):=⟨rfl,rfl,rfl,∅,rfl,∅,∅⟩
def Mf (F:dM K "part_from" "Reader.part_from" (inClass (top cL) 2) f fd)(T:Nm mg)(OC:Ad K C)(MR:Es K C)(qi:B9 K C "number_from" fn)(qu:aW P w K mg base dI 3 fn OG ["self", "text", "place"] (JS K C))(o7:Binds K OG ["self", "text", "place"] [])
  (fE:Fn P w K mg base 2 "name_from" ["lookup", "text", "place"] (zG K)) (wk:Fn P w K mg base 3 "many_from" ["text", "place"] (IG K)) (nZ:Fn P w K mg base 3 "distance_from" ["text", "place", "many"] (IU K)):aW P w K mg base dI 4 f fd ["self", "part", "text", "place"] (JP K C):=by
 refine F.ok kA (fun vs H Q E h =>?_) (fun bS A outer s H vs Q E hr h =>?_)
 ·obtain⟨m,Fo,k,t,p,rfl,_⟩:=h
  rfl
 obtain⟨m,Fo,k,t,p,rfl,hk,rd,fr,hp,ht,q⟩:=h;have cK:=hr.units;obtain⟨k1,k2,k3⟩:=fr.IV;have nr:=fr.nr;have ff:=fr.fr;obtain⟨dx,w1,w2,w3,hm,l1,l2,l3⟩:=id rd;refine⟨_,(af (aV (ax (kW K cK) (pv 1) aq (aE _)) (ag (ao (aA (fE.mono ∅) hr rfl (aa (fA K (pv 0) rfl) (aa (pv 2) (aa (pv 3) ae)))))) aB)
  (af (aV (ax (kW K cK) (pv 1) aq (aE _)) (ag (ao (uo (pv 0) OC qi (qu.mono (by first|decide|exact Je _)) hr o7 .nil rL (aa (pv 2) (aa (pv 3) ae))))) aB)
  (af (aV (ax (kW K cK) (pv 1) aq (aE _)) (ag (ao (aA (wk.mono ∅) hr rfl (aa (pv 2) (aa (pv 3) ae))))) aB)
  (ag (ao (aA (nZ.mono ∅) hr rfl (aa (pv 2) (aa (pv 3) (aa (dg (ax (kW K cK) (pv 1) aq (aE _)) (fA K (pv 0) rfl) (fA K (pv 0) rfl)) ae))))))))),?_⟩
 unfold cq at q;simp only[Jq,Uk,or_false] at hk
 rcases hk with rfl|rfl|rfl|rfl|rfl
 ·rw[if_pos rfl] at q;refine⟨_,rfl,.inl ⟨rfl,_,rfl,mX ?_⟩⟩;refine⟨_,rfl,m,C,dx,_,w2,rfl,hm,MR.c,MR.n2,rfl,_,rfl,_,rfl,w2,Fo.b2,t,p,rfl,l2,k2,hp,ht,fun tp H1 s1 h1=>q tp H1 s1 ?_⟩;rw[Qaj];exact DL h1
 ·rw[if_neg ∅,if_pos rfl] at q;refine⟨_,rfl,.inl ⟨rfl,_,rfl,fP (x := "number") ?_⟩⟩;refine⟨_,rfl,.inl ⟨rfl,_,rfl,mX ?_⟩⟩;refine⟨_,rfl,m,dx,_,rfl,hm,rfl,_,rfl,_,rfl,m,Fo,t,p,rfl,rd,fr,hp,ht,fun tp H1 s1 h1=>q tp H1 s1 ?_⟩;rw[Qaj];exact h1
 ·rw[if_neg ∅,if_neg ∅,if_pos rfl] at q;refine⟨_,rfl,.inl ⟨rfl,_,rfl,fP (x := "many") ?_⟩⟩;refine⟨_,rfl,.inl ⟨rfl,_,rfl,fP (x := "many") ?_⟩⟩;refine⟨_,rfl,.inl ⟨rfl,_,rfl,mX ?_⟩⟩;refine⟨_,rfl,_,rfl,t,p,rfl,hp,ht,fun tp H1 s1 h1=>q tp H1 s1 ?_⟩;rw[Qaj];exact DL h1
 ·rw[if_neg ∅,if_neg ∅,if_neg ∅,if_pos rfl] at q;refine⟨_,rfl,.inl ⟨rfl,_,rfl,fP (x := "near") ?_⟩⟩;refine⟨_,rfl,.inl ⟨rfl,_,rfl,fP (x := "near") ?_⟩⟩;refine⟨_,rfl,.inl ⟨rfl,_,rfl,fP (x := "near") ?_⟩⟩;refine⟨_,rfl,_,rfl,_,rfl,.inl ⟨rfl,_,rfl,mX ⟨_,rfl,m,C,dx,_,_,rfl,hm,MR.c,MR.n4,rfl,t,p,Fo.near,rfl,⋯,⋯,hp,ht,fun tp H1 s1 h1=>q tp H1 s1 ?_⟩⟩⟩;rw[Qaj];exact DL h1
 ·rw[if_neg ∅,if_neg ∅,if_neg ∅,if_neg ∅] at q;refine⟨_,rfl,.inl ⟨rfl,_,rfl,fP (x := "far") ?_⟩⟩;refine⟨_,rfl,.inl ⟨rfl,_,rfl,fP (x := "far") ?_⟩⟩;refine⟨_,rfl,.inl ⟨rfl,_,rfl,fP (x := "far") ?_⟩⟩;refine⟨_,rfl,_,rfl,_,rfl,.inl ⟨rfl,_,rfl,fP (x := "far") ⟨_,rfl,m,C,dx,_,_,rfl,hm,MR.c,MR.n5,rfl,t,p,Fo.eU,rfl,⋯,⋯,hp,ht,fun tp H1 s1 h1=>q tp H1 s1 ?_⟩⟩⟩;rw[Qaj];exact DL h1
end
def DQ {t:Str}{p:Nat}{r:Nat×Nat}(hp:p<=t.length)(h:gH t p=some r):r.2<=t.length:=by
 unfold gH at h;obtain⟨z,h1,h2⟩:=Option.bind_eq_some_iff.mp h;obtain⟨e1,e2⟩:=oC hp h1
 split at h2
 ·rename_i c;cases h2;have:=congrArg Qdv c;rw[J6,Uj,Ut,<-str_len] at this;show z.2+z.1<=_;lia
 ·cases h2
def zM {t:Str}{p k:Nat}{r:Int×Nat}(hp:p<=t.length)(h:qT t p k=some r):r.2<=t.length:=by
 unfold qT at h;obtain⟨z,h1,rfl⟩:=Option.map_eq_some_iff.mp h;have:=oC hp h1;show z.2<=_;lia
def GZ {bk:List (Str×Str)}{t:Str}{p:Nat}{r:Nat×Nat}(hp:p<=t.length)(h:oj bk t p=some r):r.2<=t.length:=by
 unfold oj at h;obtain⟨z,h1,h2⟩:=Option.bind_eq_some_iff.mp h;have hz:=iJ hp h1;unfold yQ at h2
 split at h2
 ·cases h2;exact hz
 ·have:=oC hz h2;lia
def u5 {F:Fb}{k t:Str}{p:Nat}{r:Arg×Nat}(hp:p<=t.length)(h:cq F k t p=some r):r.2<=t.length:=by
 unfold cq at h
 split at h
 ·obtain⟨z,h1,rfl⟩:=Option.map_eq_some_iff.mp h;exact iJ hp h1
 split at h
 ·obtain⟨z,h1,rfl⟩:=Option.map_eq_some_iff.mp h;exact GZ hp h1
 split at h
 ·obtain⟨z,h1,rfl⟩:=Option.map_eq_some_iff.mp h;exact DQ hp h1
 split at h
 ·obtain⟨z,h1,rfl⟩:=Option.map_eq_some_iff.mp h;exact zM hp h1
 ·obtain⟨z,h1,rfl⟩:=Option.map_eq_some_iff.mp h;exact zM hp h1
def kn (F:Fb)(t:Str):∀(l m:List Str) (p:Nat),bD F (l++m) t p=(bD F l t p).bind fun r=>(bD F m t r.2).map fun z=>(r.1++z.1,z.2)
 | [],m,p=>by
  show bD F m t p=(some ([],p)).bind _;cases e:bD F m t p<;>simp[e]
 | k::l,m,p=>by
  show(cq F k t p).bind (fun r=>(bD F (l++m) t r.2).map fun z=>(r.1::z.1,z.2))=((cq F k t p).bind fun r=>(bD F l t r.2).map fun z=>(r.1::z.1,z.2)).bind _;cases cq F k t p with
  | none=>rfl
  | some r=>
   show(bD F (l++m) t r.2).map _=((bD F l t r.2).map _).bind _;rw[kn F t l m r.2];cases bD F l t r.2 with
   | none=>rfl
   | some z=>
    show((bD F m t z.2).map _).map _=(bD F m t z.2).map _;rw[Qaj];rfl
def yK {F:Fb}{t:Str}{ks:List Str}{i p:Nat}(hi:i<ks.length){as:List Arg}{e:Nat}(h:bD F (ks.take i) t p=some (as,e)):
  bD F (ks.take (i+1)) t p=(cq F ks[i] t e).map fun z=>(as++[z.1],z.2):=by
 rw[dA hi,kn,h];show((cq F ks[i] t e).bind fun r=>some ([r.1],r.2)).map _=_;cases cq F ks[i] t e<;>rfl
def xW {F:Fb}{t:Str}{ks:List Str}{i p:Nat}(h:bD F (ks.take i) t p=none):bD F ks t p=none:=by
 rw[<-List.take_append_drop i ks,kn,h];rfl
def wa:∀w∈aD,∃q∈gm,q.1=w/\mI w=q.2:=∅
def nE:∀q∈gm,∀k∈q.2,k∈[("spot" : Str), "number", "many", "near", "far"]:=∅
section
variable {P:YZ}{w:Zb}{K:Ja}{mg:Str->Option Fk}{base:Heap}{f fi fp fn fb:Gc}{fd IM NW OG OH:Zc}{CF C aP aZ:Gc}{t3:Tok}
def br:aG ["self", "text", "place", "kind", "end", "bare", "part", "value"] ["self", "text", "place"] (ai (inClass (top cL) 1)):=⟨rfl,rfl,rfl,∅,rfl,∅,∅⟩
def Mg (F:dM K "bare_from" "Reader.bare_from" (inClass (top cL) 1) f fd)(T:Nm mg)(OC:Ad K C)(MR:Es K C)(M4:OJ K w mg aP)(uD:B9 K C "part_from" fp)(uI:aW P w K mg base dI 4 fp NW ["self", "part", "text", "place"] (JP K C))(sQ:Binds K NW ["self", "part", "text", "place"] [])
  (fE:Fn P w K mg base 2 "name_from" ["lookup", "text", "place"] (zG K)):aW P w K mg base dI 5 f fd ["self", "text", "place"] (IX K C):=by
 refine F.ok br (fun vs H Q E h =>?_) (fun bS A outer s H vs Q E hr h =>?_)
 ·obtain⟨m,Fo,t,p,rfl,_⟩:=h
  rfl
 obtain⟨m,Fo,t,p,rfl,rd,fr,hp,ht,q⟩:=h;have cK:=hr.units;have uv:=M4.g;obtain⟨k1,_,_⟩:=fr.IV;refine⟨_,(af (ia (aA (fE.mono ∅) hr rfl (aa (fA K (pv 0) rfl) (aa (pv 1) (aa (pv 2) ae)))) (tupK K 2 rfl (aN (aI (i:=3) br.nd rfl (YY rfl)) (aN (aI (i:=4) br.nd rfl (YY rfl)) bH))))
  (af (aV (ax lY (pv 3) a9 (aE _)) (ag (ao (bK (aa a9 (aa (pv 2) ae))))) aB)
  (af (ay (i:=5) br.nd rfl (YY rfl) (gE (aa (pv 3) ae)))
  (af (fe Zw rfl (ja K (Io K w (cG rfl uv) (pv 3) (fun _ _=>rfl))) (aI (i:=6) br.nd rfl (YY rfl)) (af (ia (uo (pv 0) OC uD (uI.mono (by first|decide|exact Je _)) hr sQ .nil rL (aa (pv 6) (aa (pv 1) (aa (pv 4) ae)))) (tupK K 2 rfl (aN (aI (i:=7) br.nd rfl (YY rfl)) (aN (aI (i:=4) br.nd rfl (YY rfl)) bH))))
  (af (aV (ax lY (pv 7) a9 (aE _)) (ag (ao (bK (aa a9 (aa (pv 2) ae))))) aB)
  (ag (tG (uN K ZQ QdM QdL Ae (pv 5) (aa (pv 7) ae)))))))
  (ag (ao (bK (aa (aX (mJ K) rfl T.n_tuple (by rfl) (aa (pv 5) ae)) (aa (pv 4) ae))))))))),?_⟩
 obtain⟨dx,w1,w2,w3,hm,l1,l2,l3⟩:=id rd;refine⟨_,rfl,m,C,dx,_,w1,rfl,hm,MR.c,MR.n1,rfl,_,rfl,_,rfl,w1,Fo.b1,t,p,rfl,l1,k1,hp,ht,fun tp H1 s1 h1 =>?_⟩;unfold eX at q;cases e:nameA Fo.b1 t p with
 | none=>
  rw[e] at h1 q;refine⟨tp,_,rfl,h1,rfl,_,_,rfl,_,_,rfl,rfl,?_⟩;refine⟨_,rfl,.inl ⟨rfl,_,rfl,?_⟩⟩;rw[decide_eq_true rfl];refine bA ?_;exact⟨_,rfl,by show 2<=KE;decide,fun tq H5 n5=>q tq H5 (s1.trans n5.same) (aY.of n5.at)⟩
 | some r=>
  rw[e] at h1 q;obtain⟨wd,pe0⟩:=r;have SH:pe0<=t.length:=iJ hp e;have JU:wd∈aD:=by
   unfold nameA at e;obtain⟨q',e',e''⟩:=Option.map_eq_some_iff.mp e;cases e'';exact fr.g.n1.mem_iff.mp (Ui (dB e').1)
  obtain⟨qq,hqq,ew,ek⟩:=wa wd JU;have k5:=nE qq hqq;obtain⟨pk,pl⟩:=gO qq hqq;obtain⟨qp,hq1,KB⟩:=M4.pt qq hqq;have q:∀tp H',ar H H'->Ab K H' tp ((bD Fo qq.2 t pe0).map fun z=>((wd,z.1),z.2)) p->Q (.ref tp) H':=by rw[<-ek];exact q
  refine⟨tp,_,rfl,h1,rfl,_,_,rfl,_,_,rfl,rfl,?_⟩;refine⟨_,rfl,.inl ⟨rfl,_,rfl,?_⟩⟩;rw[decide_eq_false (nofun)];refine bj ?_;dsimp only[bZ];refine⟨_,rfl,by show 1<=KE;decide,fun l H2 n2=>gn ?_⟩;have s2:=s1.trans n2.same;dsimp only;refine fk (t:=BR _ _ _) (fun σ H'=>∃(x6 x7:Option V) (as:List Arg) (pe:Nat),σ=[some (.ref m),some (.str t),some (.int (p:Nat)),some (.str wd),some (.int (pe:Nat)),some (.ref l),x6,x7]/\ar H1 H'/\H' l=some (.lst (.str wd::as.map Arg.v))/\bD Fo qq.2 t pe0=some (as,pe)) (fun Nx nx =>?_) ?_
  ·refine⟨_,rfl,aP,qq.1,.ref qp,.ref qp,rfl,by rw[ew],M4.cd,hq1,rfl,qp,rfl,⟨_,KB _⟩,?_⟩;refine jN (N:=qq.2.length) (fun i σ H'=>∃(x6 x7:Option V) (as:List Arg) (pe:Nat),σ=[some (.ref m),some (.str t),some (.int (p:Nat)),some (.str wd),some (.int (pe:Nat)),some (.ref l),x6,x7]/\ar H1 H'/\H' l=some (.lst (.str wd::as.map Arg.v))/\bD Fo (qq.2.take i) t pe0=some (as,pe)/\as.length=i/\pe<=t.length) ⟨_,_,[],pe0,rfl,n2.same,n2.at,rfl,rfl,SH⟩ ?_ ?_
   ·rintro i σ H3 hi ⟨x6,x7,as,pe,rfl,s3,uf,hpa,CV,MP⟩;have gk:(qq.2.map V.str)[i]? = some (.str qq.2[i]):=by
     rw[Jk,Jc hi];rfl
    refine⟨⟨_,_,KB _,gk⟩,?_⟩;rintro x' H4 ⟨rfl,hyy⟩;have e:=hyy _ (KB _);rw[gk] at e;cases e;refine gn ?_;have AF:=yK hi hpa;have hk:=k5 _ (Ug hi);obtain⟨dx',w1',w2',w3',va,_⟩:=rd.same (s1.trans s3);refine⟨_,rfl,m,dx',_,rfl,va,rfl,_,rfl,_,rfl,_,rfl,m,Fo,qq.2[i],t,pe,rfl,hk,rd.same (s1.trans s3),fr,MP,ht,fun tq H5 s5 h5 =>?_⟩;cases ep:cq Fo qq.2[i] t pe with
    | none=>
     rw[ep] at h5 AF;obtain⟨ee,h5⟩:=h5;refine⟨tq,_,rfl,h5,rfl,_,_,rfl,_,_,rfl,rfl,?_⟩;refine⟨_,rfl,.inl ⟨rfl,_,rfl,?_⟩⟩;rw[decide_eq_true rfl];refine bA ?_;rw[xW AF] at q;exact⟨_,rfl,by show 2<=KE;decide,fun tr H6 n6=>q tr H6 (s1.trans (s3.trans (s5.trans n6.same))) (aY.of n6.at)⟩
    | some z=>
     rw[ep] at h5 AF;obtain⟨a,pe'⟩:=z;refine⟨tq,_,rfl,h5,rfl,_,_,rfl,_,_,rfl,rfl,?_⟩;have nv:a.v≠V.non:=by cases a<;>exact nofun
     refine⟨_,rfl,.inl ⟨rfl,_,rfl,?_⟩⟩;rw[decide_eq_false nv];refine bj ?_;have F8:=s5 _ _ uf;dsimp only[bZ];refine⟨_,rfl,.inl ⟨rfl,_,bg.of F8⟩,_,rfl,l,_,_,rfl,rfl,F8,?_,fun H6 c6=>⟨_,_,as++[a],pe',rfl,fun b o e =>?_,?_,AF,?_,u5 MP ep⟩⟩
     ·rw[Jn,Jd];exact J7 (show _<=100 by lia) ∅
     ·rw[c6.ne (aH e n2.nn)];exact s5 _ _ (s3 _ _ e)
     ·rw[c6.at,J0];rfl
     ·rw[Jt,CV];rfl
   ·rintro σ H3 ⟨x6,x7,as,pe,rfl,s3,uf,hpa,_,_⟩;rw[Yj] at hpa;exact⟨⟨_,KB _,by rw[Jd];exact Je _⟩,nx _ _ ⟨x6,x7,as,pe,rfl,s3,uf,hpa⟩⟩
  rintro σ H3 ⟨x6,x7,as,pe,rfl,s3,uf,hpa⟩;rw[hpa] at q;refine⟨_,rfl,l,_,rfl,.inl ⟨bg.of uf,fun bp H4 n4 =>?_⟩⟩;refine⟨_,rfl,by show 2<=KE;decide,fun tq H5 n5 =>?_⟩;exact q tq H5 (s1.trans (s3.trans (n4.same.trans n5.same))) ⟨bp,aY.of n5.at,aY.of (n5.same _ _ n4.at)⟩
end
def IA (K:Ja)(CF C:Gc):Sp:=fun vs H Q E=>lW fun(m:Gc) (F:Fb) (t:Str) (p:Nat)=>vs=[.ref m,.str t,.int (p:Nat)]/\mi K CF H m F/\kB F/\p<=t.length/\t.length<=1000000 /\
 (match eX F t p with
 | some r=>∀tp H',ar H H'->Ab K H' tp (some r) p->Q (.ref tp) H'
 | none=>∀dx H',ar H H'->H' dx=some (.xd [("place",.int (p:Nat))])->E (.ref C) (some dx) H')
section
variable {P:YZ}{w:Zb}{K:Ja}{mg:Str->Option Fk}{base:Heap}{f fi fp fn fb fx:Gc}{fd IM NW OG OH US:Zc}{CF CB C aP aZ:Gc}{t3:Tok}
def lC:aG ["form", "text", "place", "bare", "end"] ["form", "text", "place"] (ai (top mW)):=⟨rfl,rfl,rfl,∅,rfl,∅,∅⟩
def LS (F:dM K "bare_at" "bare_at" (top mW) f fd)(T:Nm mg)(OC:Ad K C)(Cv:Mk K C fi)(qz:mg "Reader" = some (.ref C))(tJ:aW P w K mg base dI 2 fi IM ["self", "form"] (E6 K CF C))(tQ:Binds K IM ["self", "form"] [])
  (tK:B9 K C "bare_from" fb) (tE:aW P w K mg base dI 5 fb OH ["self", "text", "place"] (IX K C)) (ud:Binds K OH ["self", "text", "place"] [])
  (gq:mg "BadText" = some (.ref CB)) (BN:MU K CB fx) (mZ:aW P w K mg base dI 1 fx US ["self", "place"] (zZ CB "place")) (Ct:Binds K US ["self", "place"] []):aW P w K mg base (u4 P w base) 6 f fd ["form", "text", "place"] (IA K CF CB):=by
 refine F.R9 lC (fun vs H Q E h =>?_) (fun bS A outer s H vs Q E hr h =>?_)
 ·obtain⟨m,Fo,t,p,rfl,_⟩:=h
  rfl
 obtain⟨m,Fo,t,p,rfl,fo,fr,hp,ht,q⟩:=h;have cK:=hr.units;refine⟨_,(af (ia (uo (zw Cv (tJ.mono (by first|decide|exact Je _)) (hr.mono (by first|decide|exact Je _)) rfl qz tQ .nil rL (aa (pv 0) ae)) OC tK (tE.mono (by first|decide|exact Je _)) hr ud .nil rL (aa (pv 1) (aa (pv 2) ae))) (tupK K 2 rfl (aN (aI (i:=3) lC.nd rfl (YY rfl)) (aN (aI (i:=4) lC.nd rfl (YY rfl)) bH))))
  (af (aV (ax lY (pv 3) a9 (aE _)) (ag (rP (k:=1) BN mZ (hr.mono ∅) rfl gq Ct (aa (pv 2) ae))) aB)
  (ag (ao (bK (aa (pv 3) (aa (pv 4) ae))))))),?_⟩
 refine⟨_,rfl,fun rd dx hrd hdx xA=>⟨H,rd,m,dx,Fo,rfl,ki (bE hdx _) hrd,hrd,av,fo,fr,fun H1 s1 r1=>⟨rfl,?_⟩⟩⟩;obtain⟨dx',w1,w2,w3,hm,l1,l2,l3⟩:=id r1;refine⟨rd,dx',_,rfl,hm,rfl,_,rfl,_,rfl,rd,Fo,t,p,rfl,r1,fr,hp,ht,fun tp H2 s2 h2 =>?_⟩;cases e:eX Fo t p with
 | none=>
  rw[e] at h2 q;refine⟨tp,_,rfl,h2,rfl,_,_,rfl,_,_,rfl,rfl,?_⟩;refine⟨_,rfl,.inl ⟨rfl,_,rfl,?_⟩⟩;rw[decide_eq_true rfl];refine bA ⟨_,rfl,by show 1<=1000;decide,fun e he=>⟨e,.int (p:Nat),rfl,av,fun dx c1 c2=>⟨rfl,e,dx,rfl,?_,?_,?_⟩⟩⟩
  ·rw[au (Zx c2),av]
  ·cases z:H e with
   | none=>rfl
   | some o=>rw[s2 _ _ (s1 _ _ z)] at he;cases he
  ·refine q dx _ (fun a o z =>?_) ?_
   ·have z1:=s2 _ _ (s1 _ _ z);have na:a≠e:=aH z1 he;have nd:a≠dx:=fun y=>by
     rw[au c2,<-y,z1] at c1;cases c1
    rw[cV na,au nd,au na,au na];exact z1
   ·rw[cV c2,av]
 | some r=>
  rw[e] at h2 q;obtain⟨bp,h2,h3⟩:=h2;refine⟨tp,_,rfl,h2,rfl,_,_,rfl,_,_,rfl,rfl,?_⟩;refine⟨_,rfl,.inl ⟨rfl,_,rfl,?_⟩⟩;rw[decide_eq_false (nofun)];refine bj ?_;refine⟨_,rfl,_,rfl,by show 2<=KE;decide,fun tq H5 n5=>q tq H5 (s1.trans (s2.trans n5.same)) ⟨bp,aY.of n5.at,n5.same.bO h3⟩⟩
end
def FO:Arg->Za
 | .sp x =>.str x | .nu n =>.int (n:Nat) | .ma n =>.int (n:Nat) | .ne d =>.int d | .fa d =>.int d
def EM (w:Str)(as:List Arg):Za := .tuple (.str w::as.map FO)
def gu {K:Ja}{H:Hp}:∀as:List Arg,a8 K H (as.map FO) (as.map Arg.v)
 | []=>qA
 | .sp x::as=>b8 BD (gu as)
 | .nu n::as=>b8 ug (gu as)
 | .ma n::as=>b8 ug (gu as)
 | .ne n::as=>b8 ug (gu as)
 | .fa n::as=>b8 ug (gu as)
def HU {K:Ja}{H:Hp}{a:Gc}{w:Str}{as:List Arg}(h:aY K H a (.str w::as.map Arg.v)):Den K H (EM w as) (.ref a):=by
 unfold EM Den;exact⟨a,_,rfl,h,b8 BD (gu _)⟩
def zC {K:Ja}{H:Hp}{a b:Gc}{n:Int}{w:Str}{as:List Arg}(h:aY K H a [.ref b,.int n])(g:aY K H b (.str w::as.map Arg.v)):Den K H (.tuple [EM w as,.int n]) (.ref a):=by
 unfold Den;exact⟨a,_,rfl,h,b8 (HU g) (b8 ug qA)⟩
def kh {i:Int}(h:i.natAbs<=1000000):i.natAbs<10^40:=J7 h ∅
def LK {w:Str}{as:List Arg}(ba:y3 w as)(n:Nat)(hn:n<=1000000):Gd 1000 2 (.tuple [EM w as,.int (n:Nat)]):=by
 have hx:∀x∈aD,kH x=true/\x.length<=201:=∅;obtain⟨q,hq,ew,ek⟩:=ba.pt;obtain⟨pk,al⟩:=gO q hq;rw[<-ek,Jd] at al;rw[<-ew] at pk;have ga:∀a∈as,Gd 201 0 (FO a):=fun a ha=>by
  have h:=ba.ok a ha;cases a with
  | sp x=>
   have hx:∀x∈bJ,kH x=true/\x.length<=201:=∅;exact Gd.str (hx x h).1 (hx x h).2
  | nu n=>exact Gd.int (kh (show n<=1000000 from Jg h ∅)) (Je _)
  | ma n=>exact Gd.int (kh (show n<=1000000 from Jg h ∅)) (Je _)
  | ne n=>exact Gd.int (kh h) (Je _)
  | fa n=>exact Gd.int (kh h) (Je _)
 have gs:∀as:List Arg,(∀a∈as,Gd 201 0 (FO a))->Gs (202*as.length) 0 (as.map FO):=by
  intro as
  induction as with
  | nil=>exact fun _=>Gs.nil.mono (Uq _) (Je _)
  | cons a as ih=>
   intro h;refine(Gs.cons (h a Jm) (ih fun x hx=>h x (Jj _ hx))).mono ?_ (Je _);rw[Jn,Qe0];lia
 have g1:=(Gs.cons (Gd.str (dp:=0) (hx _ pk).1 (hx _ pk).2) (gs as ga)).tuple;refine((Gs.cons g1 (Gs.one (Gd.int (i:=((n:Nat):Int)) (kh (show n<=1000000 from hn)) (Je _)))).tuple).mono ?_ (Je _);lia
def EN (K:Ja)(C:Gc):Sp:=fun vs H Q _=>oG fun(e dx:Gc) (p:Nat)=>vs=[.ref e]/\H e=some (mj e (.ref C) (some dx))/\H dx=some (.xd [("place",.int (p:Nat))])/\∀v H',ar H H'->Den K H' (.tuple [.str "text",.int (p:Nat)]) v->Q v H'
def mi.same {K:Ja}{CF:Gc}{H H':Hp}{m:Gc}{F:Fb}(h:mi K CF H m F)(s:ar H H'):mi K CF H' m F:=jE.same h s
section
variable {P:YZ}{w:Zb}{K:Ja}{mg:Str->Option Fk}{base:Heap}{f:Gc}{fd:Zc}{C CF cO c1 c2 c3 c4 c5 c6 c7 gi:Gc}{QA:Zc}
def eS:aG ["_law_caught", "_law_told_here", "_law_word"] ["_law_caught"] (ai (top jU)):=⟨rfl,rfl,rfl,∅,rfl,∅,∅⟩
def Gv (F:dM K "_law_class" "_law_class" (top jU) f fd)(T:Nm mg)(jo:mg "ValueError" = none)(fc:mg "OddError" = some (.ref cO))(gq:mg "BadText" = some (.ref C))(qd:mg "TooFar" = some (.ref c1))(pQ:mg "BadRow" = some (.ref c2))(pL:mg "NoName" = some (.ref c3))(mS:mg "NoPlace" = some (.ref c4))(kK:mg "NoTarget" = some (.ref c5))(iL:mg "NoForm" = some (.ref c6))(mU:mg "TooFull" = some (.ref c7))
  (O:j6 K C) (S:mh K C "place") (kO:∀D∈[c1,c2,c3,c4,c5,c6,c7],Ud K (.ref C) (.ref D)=some false) (kV:Ud K (.ref C) (.type "ValueError")=some true) (kD:Ud K (.ref C) (.ref cO)=some true) :
  aW P w K mg base dI 1 f fd ["_law_caught"] (EN K C):=by
 refine F.ok eS (fun vs H Q E h =>?_) (fun bS A outer s H vs Q E hr h =>?_)
 ·obtain⟨e,dx,p,rfl,_⟩:=h
  rfl
 obtain⟨e,dx,p0,rfl,h0,F6,q⟩:=h;have cK:=hr.units;have kk:∀{D:Gc},D∈[c1,c2,c3,c4,c5,c6,c7]->Ud K (.ref C) (.ref D)=some false:=fun h=>kO _ h;refine⟨_,(af (ay (i:=1) eS.nd rfl (YY rfl) (gE (aa (ak (qJ K) rfl T.n_isinstance (by rfl) (aa (pv 0) (aa (cG rfl mU) ae))) (aa (ak (qJ K) rfl T.n_isinstance (by rfl) (aa (pv 0) (aa (cG rfl mS) ae))) (aa (ak (qJ K) rfl T.n_isinstance (by rfl) (aa (pv 0) (aa (cG rfl pL) ae))) ae)))))
  (af (ay (i:=1) eS.nd rfl (YY rfl) (aw bw (pv 1) (gE (aa (ak (qJ K) rfl T.n_isinstance (by rfl) (aa (pv 0) (aa (cG rfl gq) ae))) (aa (ak (qJ K) rfl T.n_isinstance (by rfl) (aa (pv 0) (aa (cG rfl iL) ae))) (aa (ak (qJ K) rfl T.n_isinstance (by rfl) (aa (pv 0) (aa (cG rfl qd) ae))) ae))))))
  (af (ay (i:=1) eS.nd rfl (YY rfl) (aw bw (pv 1) (gE (aa (ak (qJ K) rfl T.n_isinstance (by rfl) (aa (pv 0) (aa (cG rfl kK) ae))) (aa (ak (qJ K) rfl T.n_isinstance (by rfl) (aa (pv 0) (aa (cG rfl pQ) ae))) ae)))))
  (af (aV (PW.pt (ju (ax (DE K cK) (uN K ZQ PySem.F.slot_list_count PySem.F.type_list_count LD (pv 1) (aa kE ae)) ah (aE _)) (ju (eJ (cI (ak (qJ K) rfl T.n_isinstance (by rfl) (aa (pv 0) (aa (cG rfl fc) ae))))) (hW (eJ (cI (ak (qJ K) rfl T.n_isinstance (by rfl) (aa (pv 0) (aa (bI rfl jo (by rfl) (v := .ty "ValueError") rfl) ae))))))))) (ag (ao (bK (aa aq (aa a9 ae))))) aB)
  (af (ay (i:=2) eS.nd rfl (YY rfl) (aU (eG K) (uN K Zz Qb1 Qb0 y2 aq (aa aq ae)) (uN K ZQ QdX QdW Lw (pv 1) (aa kE ae)) (fun _ _=>rfl)))
  (af (aV (ax (kW K cK) (pv 2) aq (aE _)) (ag (ao (bK (aa (pv 2) (aa (oW K (pv 0)) ae))))) aB)
  (af (aV (ax (kW K cK) (pv 2) aq (aE _)) (ag (ao (bK (aa (pv 2) (aa (oW K (pv 0)) ae))))) aB)
  (ag (ao (bK (aa (pv 2) (aa (dg (ax (kW K cK) (pv 2) aq (aE _)) (oW K (pv 0)) a9) ae)))))))))))),?_⟩
 refine⟨_,rfl,e,C,some dx,_,_,false,rfl,h0,O,rfl,kk (by simp),_,rfl,e,C,some dx,_,_,false,rfl,h0,O,rfl,kk (by simp),_,rfl,e,C,some dx,_,_,false,rfl,h0,O,rfl,kk (by simp),by show 3<=KE;decide,fun l1 H2 n2=>gn ?_⟩;have h2:=n2.same _ _ h0;refine⟨_,rfl,_,rfl,e,C,some dx,_,_,true,rfl,h2,O,rfl,FU,_,rfl,e,C,some dx,_,_,false,rfl,h2,O,rfl,kk (by simp),_,rfl,e,C,some dx,_,_,false,rfl,h2,O,rfl,kk (by simp),by show 3<=KE;decide,fun l2 H3 n3 =>?_⟩;have h3:=n3.same _ _ h2;refine .inr (.inr ⟨l1,l2,_,_,rfl,rfl,n3.same _ _ n2.at,n3.at,by show 6<=KE;decide,fun l3 H4 n4=>gn ?_⟩);have h4:=n4.same _ _ h3;refine⟨_,rfl,_,rfl,e,C,some dx,_,_,false,rfl,h4,O,rfl,kk (by simp),_,rfl,e,C,some dx,_,_,false,rfl,h4,O,rfl,kk (by simp),by show 2<=KE;decide,fun l4 H5 n5 =>?_⟩;have h5:=n5.same _ _ h4;refine .inr (.inr ⟨l3,l4,_,_,rfl,rfl,n5.same _ _ n4.at,n5.at,by show 8<=KE;decide,fun l5 H6 n6=>gn ?_⟩);have h6:=n6.same _ _ h5;have s6:ar H H6:=n2.same.trans (n3.same.trans (n4.same.trans (n5.same.trans n6.same)));have W6:=s6 _ _ F6;refine⟨_,rfl,.inl ⟨rfl,_,bg.of n6.at⟩,l5,[false,false,false,true,false,false,false,false],rfl,rfl,n6.at,.inl ⟨rfl,_,rfl,bj ?_⟩⟩;refine⟨_,rfl,e,C,some dx,_,_,true,rfl,h6,O,rfl,kD,_,rfl,bj ⟨_,rfl,e,C,some dx,_,_,true,rfl,h6,O,rfl,kV,_,rfl,bj ?_⟩⟩;dsimp only[bZ];have IQ:Qa2 (W1 "full place name text form far target row") (W1 " ")=(["full", "place", "name", "text", "form", "far", "target", "row"]:List Str):=∅;have sl:(W1 " ").length≠0:=∅;refine⟨rfl,_,_,rfl,rfl,sl,∅,by rw[IQ];decide,fun p H7 n7 =>?_⟩;rw[IQ] at n7;refine⟨_,rfl,.inl ⟨rfl,_,bg.of (n7.same _ _ n6.at)⟩,l5,[false,false,false,true,false,false,false,false],3,rfl,rfl,n7.same _ _ n6.at,rfl,fun m hm =>?_,?_⟩
 ·match m,hm with
  | 0,_=>exact nofun
  | 1,_=>exact nofun
  | 2,_=>exact nofun
 refine .inl ⟨p,_,_,.str "text",rfl,rfl,bg.of n7.at,rfl,gn ?_⟩;have h7:=n7.same _ _ h6;have VR:=n7.same _ _ W6;refine⟨_,rfl,.inl ⟨rfl,_,rfl,mX ?_⟩⟩;refine⟨_,rfl,_,rfl,e,C,dx,_,.int (p0:Nat),rfl,h7,VR,rfl,O,S,.inl ⟨_,rfl⟩,by show 2<=KE;decide,fun tq H8 n8=>q _ H8 (s6.trans (n7.same.trans n8.same)) ?_⟩;exact FE n8.at (b8 BD (b8 ug qA))
end
def Qo (o:Option ((Str×List Arg)×Nat))(p:Nat):Za:=match o with
 | some r =>.tuple [EM r.1.1 r.1.2,.int (r.2:Nat)]
 | none =>.tuple [.str "text",.int (p:Nat)]
def zD (K:Ja)(CF:Gc):Sp:=fun vs H Q _=>lW fun(m:Gc) (F:Fb) (t:Str) (p:Nat)=>vs=[.ref m,.str t,.int (p:Nat)]/\mi K CF H m F/\kB F/\p<=t.length/\t.length<=1000000/\∀v H',ar H H'->Den K H' (Qo (eX F t p) p) v->Q v H'
section
variable {P:YZ}{w:Zb}{K:Ja}{mg:Str->Option Fk}{base:Heap}{f:Gc}{fd:Zc}{C CF cO c1 c2 c3 c4 c5 c6 c7 gi:Gc}{QA:Zc}
def eh:aG ["_law_form_here", "_law_text_here", "_law_place", "_law_found", "_law_caught", "error"] ["_law_form_here", "_law_text_here", "_law_place"] (ai (top kI)):=⟨rfl,rfl,rfl,∅,rfl,∅,∅⟩
def Er (F:dM K "_law_told" "_law_told" (top kI) f fd)(T:Nm mg)(fc:mg "OddError" = some (.ref cO))(RE:PySem.W.exmOne K (.ref C) (.ref cO)=some true)(AX:Gp P w K mg base 6 "bare_at" ["form", "text", "place"] (IA K CF C))(u9:Fn P w K mg base 1 "_law_class" ["_law_caught"] (EN K C)):
  aW P w K mg base dI 7 f fd ["_law_form_here", "_law_text_here", "_law_place"] (zD K CF):=by
 refine F.ok eh (fun vs H Q E h =>?_) (fun bS A outer s H vs Q E hr h =>?_)
 ·obtain⟨m,Fo,t,p,rfl,_⟩:=h
  rfl
 obtain⟨m,Fo,t,p,rfl,fo,fr,hp,ht,q⟩:=h;have cK:=hr.units;refine⟨_,(af (ia (bK (aa a9 (aa a9 ae))) (tupK K 2 rfl (aN (aI (i:=3) eh.nd rfl (YY rfl)) (aN (aI (i:=4) eh.nd rfl (YY rfl)) bH))))
  (af (GG (j:=5) rfl rfl eh.nd rfl rfl rfl fc (fun _ _ _=>(ag (ay (i:=3) eh.nd rfl (YY rfl) (LR (AX.mono (by first|decide|exact Je _|lia)) hr rfl (aa (pv 0) (aa (pv 1) (aa (pv 2) ae))))))) (fun _=>(ag (ay (i:=4) eh.nd rfl (YY rfl) (pv 5)))))
  (ag (ao (dg (ax lY (pv 4) a9 (aE _)) (pv 3) (aA (u9.mono ∅) hr rfl (aa (pv 4) ae))))))),?_⟩
 refine⟨by show 2<=KE;decide,fun t0 H0 n0=>⟨t0,_,rfl,aY.of n0.at,rfl,_,_,rfl,_,_,rfl,rfl,?_⟩⟩;dsimp only;have XA:=fo.same n0.same;refine fk (t:=JH _ _ _ _ _) (fun σ H'=>(∃(r:Gc) (b:(Str×List Arg)×Nat),σ=[some (.ref m),some (.str t),some (.int (p:Nat)),some (.ref r),some .non,none]/\eX Fo t p=some b/\Ab K H' r (some b) p/\ar H0 H')\/(∃(e dx:Gc),σ=[some (.ref m),some (.str t),some (.int (p:Nat)),some .non,some (.ref e),none]/\eX Fo t p=none/\ar H0 H'/\H' e=some (mj e (.ref C) (some dx))/\H' dx=some (.xd [("place",.int (p:Nat))]))) (fun Nx nx =>?_) ?_
 ·refine⟨fun cls d H'=>∃(dx:Gc),cls = .ref C/\d=some dx/\eX Fo t p=none/\ar H0 H'/\H' dx=some (.xd [("place",.int (p:Nat))]),?_,?_⟩
  ·refine⟨rfl,_,rfl,_,rfl,_,rfl,m,Fo,t,p,rfl,XA,fr,hp,ht,?_⟩;cases ep:eX Fo t p with
   | some b=>exact fun tp H' s' hb=>gn (nx _ _ (.inl ⟨tp,b,rfl,ep,hb,s'⟩))
   | none=>exact fun ex H' s' hx=>⟨ex,rfl,rfl,rfl,s',hx⟩
  ·rintro cls d H' ⟨dx,rfl,rfl,hb,sm,hx⟩;refine⟨RE,fun e he =>?_⟩;have F6:upd H' e (mj e (.ref C) (some dx)) dx=some (.xd [("place",.int (p:Nat))]):=by rw[au (aH hx he)];exact hx
   exact⟨_,rfl,gn (nx _ _ (.inr ⟨e,dx,rfl,hb,sm.trans (bE he _),av,F6⟩))⟩
 ·rintro σ H1 (⟨r,b,rfl,he,hb,s1⟩|⟨e,dx,rfl,he,s1,h0,F6⟩)
  ·refine⟨_,rfl,.inl ⟨rfl,_,rfl,bA ?_⟩⟩;refine⟨_,rfl,q _ H1 (n0.same.trans s1) ?_⟩;rw[he];obtain⟨bp,h1,h2⟩:=hb;exact zC h1 h2
  ·refine⟨_,rfl,.inl ⟨rfl,_,rfl,bj ?_⟩⟩;refine⟨_,rfl,e,dx,p,rfl,h0,F6,fun v H' s2 hd=>q _ H' (n0.same.trans (s1.trans s2)) ?_⟩;rw[he];exact hd
end
def la (bk:List (Str×Str))(t:Str)(p:Nat):List V:=(bk.filter fun q=>(sg q.2).isPrefixOf ((sg t).drop p)).map fun q=>V.str q.1
def FP {bk:List (Str×Str)}(g:lF bk)(t:Str)(p:Nat):la bk t p=match qG bk t p with
  | some q=>[.str q.1]
  | none=>[]:=by
 unfold la;cases e:qG bk t p with
 | none=>
  have:bk.filter (fun q=>(sg q.2).isPrefixOf ((sg t).drop p))=[]:=by
   rw[List.filter_eq_nil_iff];exact fun q hq hp=>zQ e q hq (Ye.mp hp)
  rw[this];rfl
 | some q=>
  obtain⟨hq,hp⟩:=dB e;obtain⟨i,hi⟩:=J4.mp hq;have key:∀(l:List (Str×Str)) (k:Nat),(∀j r,l[j]? = some r->bk[k+j]? = some r)->l.filter (fun q=>(sg q.2).isPrefixOf ((sg t).drop p))=if k<=i/\i<k+l.length then [q] else []:=by
   intro l
   induction l with
   | nil=>intro k _;rw[if_neg (by simp only[Yk];lia)];rfl
   | cons r l ih=>
    intro k hk;have h0:=hk 0 r rfl;rw[Nat.add_zero] at h0;have T7:=ih (k+1) fun j r' h=>by have:=hk (j+1) r' h;rwa[Nat.add_comm j 1,<-Nat.add_assoc] at this
    by_cases c:(sg r.2).isPrefixOf ((sg t).drop p)=true
    ·have e1:=g.QE h0 hi (Ye.mp c) hp;subst e1;rw[hi] at h0;cases h0;rw[Qdl,if_pos c,T7,if_neg ⋯,if_pos (by rw[Jn];lia)]
    ·rw[Qdl,if_neg c,T7];have ne:k≠i:=fun z=>by
      subst z;rw[hi] at h0;cases h0;exact c (Ye.mpr hp)
     by_cases c2:k+1<=i/\i<k+1+l.length
     ·rw[if_pos c2,if_pos (by rw[Jn];lia)]
     ·rw[if_neg c2,if_neg (by rw[Jn];lia)]
  have:=key bk 0 fun j r h=>by rwa[QeZ]
  rw[this,if_pos ⟨Uq _,by rw[QeZ];exact(Ji.mp hi).1⟩]
  rfl
def zU (K:Ja):Sp:=fun vs H Q _=>lW fun(v:V) (bk:List (Str×Str)) (t:Str) (p:Nat)=>vs=[v,.str t,.int (p:Nat)]/\Den K H (aQ bk) v/\lF bk/\p<=t.length/\t.length<=1000000 /\
 ∀lp H',ar H H'->H lp=none->H' lp=some (.lst (match qG bk t p with|some q=>[.str q.1]|none=>[]))->Q (.ref lp) H'
def AI:Sp:=fun vs H Q _=>∃x:Str,vs=[.str x]/\dJ x/\x.length<=1000/\Q (.int (d6 (sg x):Nat)) H
section
variable {P:YZ}{w:Zb}{K:Ja}{mg:Str->Option Fk}{base:Heap}{f:Gc}{fd:Zc}
def nX:aG ["_law_book", "_law_text_here", "_law_at_here"] ["_law_book", "_law_text_here", "_law_at_here"] (ai (top gU)):=⟨rfl,rfl,rfl,∅,rfl,∅,∅⟩
def Lj (F:dM K "_law_names_at" "_law_names_at" (top gU) f fd)(T:Nm mg):aW P w K mg base dI 1 f fd ["_law_book", "_law_text_here", "_law_at_here"] (zU K):=by
 refine F.ok nX (fun vs H Q E h =>?_) (fun bS A outer s H vs Q E hr h =>?_)
 ·obtain⟨v,bk,t,p,rfl,_⟩:=h
  rfl
 obtain⟨v,bk,t,p,rfl,hB,g,hp,ht,q⟩:=h;have cK:=hr.units;have hz:t.length<=KE:=Jg ht ∅;refine⟨_,(ag (ao (fH rfl (cS (Nc:=["_law_name", "_law_code"]) (Fc:=["_law_text_here", "_law_at_here"]) (js:=[1,2])) (JQ K (pv 0)) (nB (cP (bG (i:=0) (n:=2) ∅) (cP (bG (i:=1) (n:=2) ∅) kj bW dR) bW (iE bW dR))) (fun _ _ _ _ _=>(tupK K 2 rfl (aN (aI (i:=0) (rn ["_law_name", "_law_code", "_law_text_here", "_law_at_here"]) rfl (YY rfl)) (aN (aI (i:=1) (rn ["_law_name", "_law_code", "_law_text_here", "_law_at_here"]) rfl (YY rfl)) bH)))) (fun _ _ _ _ _=>(Aw (ax (kW K cK) (bL (DK K) (pv 2) (bz (pv 3)) (bz (aw bw (pv 3) (ak (eE K) rfl T.n_len (by rfl) (aa (pv 1) ae))))) (pv 1) (aE _)))) (fun _ _ _ _ _=>(pv 0))))),?_⟩;unfold aQ Den at hB;obtain⟨lp,vs,rfl,hl,hd⟩:=hB;rw[<-FP g] at q;refine⟨_,rfl,lp,rfl,⟨_,hl⟩,?_⟩;refine C3 (N:=bk.length) (fun i ys H'=>H'=H/\ys=la (bk.take i) t p) ⟨rfl,rfl⟩ ?_ ?_
 ·rintro i ys H' Nx hi ⟨rfl,rfl⟩ nx;obtain⟨v,hv,hv2⟩:=hd.get (i:=i) (d:=fw bk[i]) (by rw[Jk,Jc hi];rfl);obtain⟨tp,rfl,h3⟩:=hv2.pair;refine⟨⟨_,_,hl,hv⟩,?_,?_⟩
  ·unfold la;rw[Jd];refine J7 (Qcs _ _) ?_;have:=g.le;rw[J6];exact J7 (show _<=11 by lia) ∅
  rintro x' H3 ⟨rfl,hy⟩;have e:=hy _ hl;rw[hv] at e;cases e;refine⟨tp,_,rfl,h3,rfl,_,_,rfl,_,_,rfl,rfl,?_⟩;have hc:=(g.cd _ (Ug hi)).2;refine⟨_,rfl,_,rfl,_,rfl,_,rfl,_,rfl,_,_,rfl,⟨Jg hc ∅,rfl⟩,.inl ⟨_,_,rfl,rfl,_,rfl,.inr ⟨t,rfl,hz,?_⟩⟩⟩;have nq:sg (Zi t (some (p:Int)) (some ((p:Int)+(bk[i].2.length:Int))))=((sg t).drop p).take bk[i].2.length:=by
   rw[show((p:Int)+(bk[i].2.length:Int))=((p+bk[i].2.length:Nat):Int) by lia,j0 (Ua _ _) hp]
   congr 1
   lia
  generalize Zi t (some (p:Int)) (some ((p:Int)+(bk[i].2.length:Int)))=c at nq ⊢;refine⟨_,rfl,.inl ⟨rfl,_,rfl,?_⟩⟩;have vC:la (bk.take (i+1)) t p=la (bk.take i) t p++(if (sg bk[i].2).isPrefixOf ((sg t).drop p)=true then [V.str bk[i].1] else []):=by
   unfold la;rw[dA hi,List.filter_append,J0,Qdl,List.filter_nil]
   split<;>rfl
  have Nd:c=bk[i].2↔(sg bk[i].2).isPrefixOf ((sg t).drop p)=true:=by
   rw[Ye,List.prefix_iff_eq_take,<-str_len,<-nq];exact⟨fun z=>by rw[z],fun z=>eI z.symm⟩
  by_cases hcv:c=bk[i].2
  ·rw[if_pos (Nd.mp hcv)] at vC;rw[decide_eq_true (show V.str c=V.str bk[i].2 by rw[hcv])];refine bA ⟨_,rfl,nx _ _ ⟨rfl,vC.symm⟩⟩
  ·rw[if_neg (fun z=>hcv (Nd.mpr z)),Uu] at vC;rw[decide_eq_false (show ¬V.str c=V.str bk[i].2 from fun z=>hcv (by injection z))];exact bj (nx _ _ ⟨rfl,vC.symm⟩)
 ·rintro ys H' ⟨rfl,rfl⟩;rw[Yj];exact⟨⟨_,hl,by rw[hd.len,Jd];exact Je _⟩,fun p2 H4 n4=>q p2 H4 n4.same n4.nn n4.at⟩
def dq:aG ["_law_signs", "_law_found", "_law_sign"] ["_law_signs"] (ai (top fO)):=⟨rfl,rfl,rfl,∅,rfl,∅,∅⟩
def Kg (F:dM K "_law_number_by" "_law_number_by" (top fO) f fd)(T:Nm mg):aW P w K mg base dI 1 f fd ["_law_signs"] AI:=by
 refine F.ok dq (fun vs H Q E h =>?_) (fun bS A outer s H vs Q E hr h =>?_)
 ·obtain⟨x,rfl,_⟩:=h
  rfl
 obtain⟨x,rfl,hb,hx,q⟩:=h;have cK:=hr.units;refine⟨_,(af (ay (i:=1) dq.nd rfl (YY rfl) ah)
  (af (fe Zw rfl (Ao (pv 0)) (aI (i:=2) dq.nd rfl (YY rfl)) (ag (ay (i:=1) dq.nd rfl (YY rfl) (aw bw (aw kz ah (pv 1)) (aX gr rfl T.n_int (by rfl) (aa (cT (kW K cK) (pv 2) aq (aE _)) ae))))))
  (ag (ao (pv 1))))),?_⟩
 refine gn ?_;have hs:(sg x).length=x.cps.size:=rfl;refine⟨_,rfl,x,rfl,?_,?_⟩
 ·rw[U9];intro c hc
  rcases hb c (by simpa using hc) with rfl|rfl<;>decide
 refine jN (N:=x.cps.size) (fun i σ H'=>∃x2,σ=[some (.str x),some (.int (d6 ((sg x).take i):Nat)),x2]/\H'=H) ⟨_,rfl,rfl⟩ ?_ ?_
 ·rintro i σ H' hi ⟨x2,rfl,rfl⟩;refine⟨hi,?_⟩;rintro y H2 ⟨rfl,hy⟩;have hc:(sg x)[i]? = some ((sg x)[i]'⋯):=Jc _;have e:=hy _ (by rw[<-Uz];exact hc);subst e;refine gn ?_;have CZ:=hb _ (Jy hc);have vC:=dA (l:=sg x) (i:=i) ⋯;generalize (sg x)[i]'⋯=c at CZ vC;rw[vC,kg];refine⟨_,rfl,.inl ⟨_,_,rfl,rfl,.inl ⟨∅,∅⟩,_,rfl,.inl ⟨rfl,.inr ⟨_,rfl,.inl ⟨_,_,rfl,rfl,gn ⟨some (.str ⟨#[c]⟩),?_,rfl⟩⟩⟩⟩⟩⟩;show[some (V.str x),some (V.int (2*((d6 ((sg x).take i):Nat):Int)+(if decide (V.str ⟨#[c]⟩=V.str (W1 "1"))=true then 1 else 0))),_]=[_,some (V.int ((2*d6 ((sg x).take i)+(c-48):Nat):Int)),_]
  have hd:(if decide (V.str ⟨#[c]⟩=V.str (W1 "1"))=true then (1:Int) else 0)=((c-48:Nat):Int):=by
   rcases CZ with rfl|rfl<;>decide +kernel
  rw[hd]
  push_cast
  rfl
 ·rintro σ H' ⟨x2,rfl,rfl⟩;refine⟨Je _,_,rfl,?_⟩;rw[Uv ⋯];exact q
end
def PX (F:Fb)(w:Str):Nat:=if ky w=true then F.eU else F.near
def BK (K:Ja)(H:Hp)(v:V)(o:Option (V×Nat)):Prop:=match o with
 | none=>v = .non
 | some r=>∃tp,v = .ref tp/\aY K H tp [r.1,.int (r.2:Nat)]
def JM (K:Ja):Sp:=fun vs H Q _=>vY fun(lp:Gc) (F:Fb) (t:Str) (p:Nat) (wd:Str)=>vs=[.ref lp,.str t,.int (p:Nat),.str wd]/\iG K H lp F/\kB F/\dJ t/\p<=t.length/\t.length<=1000000 /\
 ∀v H',ar H H'->BK K H' v ((qT t p (PX F wd)).map fun r=>(.int r.1,r.2))->Q v H'
def mf {a t:Str}{p k:Nat}(hb:dJ t)(hp:p<=t.length):kP a t p k=if p+k<=t.length then some (d6 (sg a++((sg t).drop p).take k),p+k) else none:=by
 have ha:(((sg t).drop p).take k).all cW.cps.contains=true:=by
  rw[U1];intro c hc;have:=hb c (Yo (Y2 hc))
  rcases this with rfl|rfl<;>decide +kernel
 have hl:(((sg t).drop p).take k).length=k↔p+k<=t.length:=by
  rw[J6,Uj,<-str_len];lia
 unfold kP
 by_cases h:p+k<=t.length
 ·rw[if_pos h,if_pos ⟨hl.mpr h,ha⟩]
 ·rw[if_neg h,if_neg fun z=>h (hl.mp z.1)]
section
variable {P:YZ}{w:Zb}{K:Ja}{mg:Str->Option Fk}{base:Heap}{f:Gc}{fd:Zc}
def dY:aG ["_law_parts_here", "_law_text_here", "_law_at_here", "_law_word", "_law_many", "_law_number"] ["_law_parts_here", "_law_text_here", "_law_at_here", "_law_word"] (ai (top eM)):=⟨rfl,rfl,rfl,∅,rfl,∅,∅⟩
def Kb (F:dM K "_law_far_figures" "_law_far_figures" (top eM) f fd)(T:Nm mg)(cY:Fn P w K mg base 1 "_law_far_word" ["_law_word"] uB)(cM:Fn P w K mg base 1 "_law_number_by" ["_law_signs"] AI)(cE:Fn P w K mg base 1 "_law_power" ["_law_many"] si):aW P w K mg base dI 2 f fd ["_law_parts_here", "_law_text_here", "_law_at_here", "_law_word"] (JM K):=by
 refine F.ok dY (fun vs H Q E h =>?_) (fun bS A outer s H vs Q E hr h =>?_)
 ·obtain⟨lp,Fo,t,p,wd,rfl,_⟩:=h
  rfl
 obtain⟨lp,Fo,t,p,wd,rfl,hP,fr,hb,hp,ht,q⟩:=h;have cK:=hr.units;have hz:t.length<=KE:=Jg ht ∅;refine⟨_,(af (ay (i:=4) dY.nd rfl (YY rfl) (aU (eG K) (pv 0) (aw bw ah (aX gr rfl T.n_int (by rfl) (aa (aA (cY.mono ∅) hr rfl (aa (pv 3) ae)) ae))) (fun _ _=>rfl)))
  (af (aV (ax Aq (aw bw (pv 2) (pv 4)) (ak (eE K) rfl T.n_len (by rfl) (aa (pv 1) ae)) (aE _)) (ag (ao a9)) aB)
  (af (ay (i:=5) dY.nd rfl (YY rfl) (aA (cM.mono ∅) hr rfl (aa (bL (DK K) (pv 1) (bz (pv 2)) (bz (aw bw (pv 2) (pv 4)))) ae)))
  (ag (ao (bK (aa (aw dG (pv 5) (aw kz (aA (cE.mono ∅) hr rfl (aa (pv 4) ae)) (aX gr rfl T.n_int (by rfl) (aa (cT zJ (pv 5) (aA (cE.mono ∅) hr rfl (aa (aw dG (pv 4) ah) ae)) (aE _)) ae)))) (aa (aw bw (pv 2) (pv 4)) ae)))))))),?_⟩
 obtain⟨kk,ekk⟩:∃kk:Nat,kk=PX Fo wd:=⟨_,rfl⟩
 have nr:=fr.nr;have ff:=fr.fr;have kb:2<=kk/\kk<=16:=by rw[ekk];unfold PX;split<;>lia
 obtain⟨r1,r2,r3,hl,_⟩:=hP.ex;refine⟨_,rfl,_,rfl,wd,rfl,fun H9 s9 =>.inr ⟨ky wd,rfl,.inl ⟨_,_,rfl,rfl,.inl ⟨lp,_,_,.int (kk:Nat),rfl,rfl,s9.seq hl,?_,gn ?_⟩⟩⟩⟩
 ·rw[ekk];unfold PX;cases ky wd<;>rfl
 rw[<-ekk] at q;unfold qT at q;rw[mf hb hp] at q;have sq:ar H H9:=s9;dsimp only;refine⟨_,rfl,_,rfl,.inl ⟨_,_,rfl,rfl,_,rfl,_,_,rfl,⟨hz,rfl⟩,_,_,rfl,rfl,_,rfl,?_⟩⟩;refine fq (fun c =>?_) (fun c =>?_)
 ·have c:((t.length:Nat):Int)<(p:Int)+(kk:Int):=of_decide_eq_true c;rw[if_neg (show ¬p+kk<=t.length by lia)] at q;exact q _ H9 sq rfl
 have c:¬((t.length:Nat):Int)<(p:Int)+(kk:Int):=fun z=>c (decide_eq_true z);rw[if_pos (show p+kk<=t.length by lia)] at q;dsimp only[bZ];refine⟨_,rfl,_,rfl,_,rfl,_,rfl,_,rfl,.inl ⟨_,_,rfl,rfl,_,rfl,.inr ⟨t,rfl,hz,?_⟩⟩⟩;have nq:sg (Zi t (some (p:Int)) (some ((p:Int)+(kk:Int))))=((sg t).drop p).take kk:=by
  rw[show((p:Int)+(kk:Int))=((p+kk:Nat):Int) by lia,j0 (Ua _ _) hp]
  congr 1
  lia
 rw[<-nq] at q;generalize Zi t (some (p:Int)) (some ((p:Int)+(kk:Int)))=cx at nq q ⊢;have qP:cx.length<=kk:=by rw[str_len];show(sg cx).length<=kk;rw[nq];exact QcM _ _
 have CZ:dJ cx:=fun x hx=>hb x (by
  have hx:x∈sg cx:=hx;rw[nq] at hx;exact Yo (Y2 hx))
 refine⟨cx,rfl,CZ,⋯,gn ?_⟩;have q:∀v H',ar H H'->(∃tp,v = .ref tp/\aY K H' tp [.int (if (2:Int)^(kk-1)<=(d6 (sg cx):Nat) then ((d6 (sg cx):Nat):Int)-2^kk else ((d6 (sg cx):Nat):Int)),.int ((p+kk:Nat):Int)])->Q v H':=q;refine⟨_,rfl,_,rfl,kk,rfl,⋯,_,rfl,_,rfl,_,_,rfl,rfl,kk-1,?_,⋯,_,_,rfl,rfl,.inr ⟨_,rfl,.inl ⟨_,_,rfl,rfl,?_,_,_,rfl,rfl,_,rfl,_,rfl,.inl ⟨_,_,rfl,rfl,by show 2<=KE;decide,fun tp H' n'=>q _ H' (sq.trans n'.same) ⟨tp,rfl,?_⟩⟩⟩⟩⟩
 ·show[V.int ((kk:Int)-1)]=[V.int ((kk-1:Nat):Int)]
  rw[show(kk:Int)-1=((kk-1:Nat):Int) by lia]
 ·refine .inr ?_
  split<;>decide
 ·have:=aY.of (K:=K) n'.at;rw[show((p:Int)+(kk:Int))=((p+kk:Nat):Int) by lia] at this
  by_cases cc:(2:Int)^(kk-1)<=(d6 (sg cx):Nat)
  ·rw[if_pos cc];rw[if_pos (decide_eq_true cc),Int.mul_one] at this;exact this
  ·rw[if_neg cc];rw[if_neg (fun z=>cc (of_decide_eq_true z)),Int.mul_zero] at this;have this:aY K H' tp [V.int (((d6 (sg cx):Nat):Int)-0),.int ((p+kk:Nat):Int)]:=this;rw[Int.sub_zero] at this;exact this
end
def vF:∀{n:Nat} {l:List Nat},l.length=n->(∀c∈l,c=48\/c=49)->jY n (d6 l)=l
 | 0,l,hn,_=>by rw[Yp.mp hn];rfl
 | n+1,l,hn,h=>by
  obtain⟨m,c,rfl⟩:∃m c,l=m++[c]:=⟨l.dropLast,l.getLast (by rintro rfl;cases hn),(QdB _).symm⟩
  rw[Jt] at hn;have ih:=vF (n:=n) (l:=m) (QcJ hn) fun x hx=>h x (Us _ hx);unfold jY;rw[kg];have hc:=h c (Jo _ (Ju.mpr rfl));have e1:(2*d6 m+(c-48)) / 2=d6 m:=by rcases hc with rfl|rfl<;>lia
  have e2:48+(2*d6 m+(c-48))%2=c:=by rcases hc with rfl|rfl<;>lia
  rw[e1,e2,ih]
def Kc:∀n,n<8->∀v,v<2^n->QeV ⟨(jY n v).toArray⟩ (W1 "1") = !decide (jY n v=Jp n 48):=∅
def HR {x:Str}(hb:dJ x)(hl:x.length<8):QeV x (W1 "1") = !decide (sg x=Jp x.length 48):=by
 have e:=vF (l:=sg x) (n:=x.length) (str_len x).symm hb;have hv:=oy (l:=sg x) hb;rw[show(sg x).length=x.length from(str_len x).symm] at hv;have:=Kc x.length hl (d6 (sg x)) hv;rw[e] at this;exact this
def JT (K:Ja):Sp:=fun vs H Q _=>fG fun(t:Str) (p:Nat)=>vs=[.str t,.int (p:Nat)]/\dJ t/\p+3<=t.length/\t.length<=1000000 /\
 ∀v H',ar H H'->BK K H' v ((gH t p).map fun r=>(.int (r.1:Nat),r.2))->Q v H'
section
variable {P:YZ}{w:Zb}{K:Ja}{mg:Str->Option Fk}{base:Heap}{f:Gc}{fd:Zc}
def gB:aG ["_law_text_here", "_law_at_here", "_law_many", "_law_end"] ["_law_text_here", "_law_at_here"] (ai (top iz)):=⟨rfl,rfl,rfl,∅,rfl,∅,∅⟩
def K0 (F:dM K "_law_skip_at" "_law_skip_at" (top iz) f fd)(T:Nm mg)(cM:Fn P w K mg base 1 "_law_number_by" ["_law_signs"] AI):aW P w K mg base dI 2 f fd ["_law_text_here", "_law_at_here"] (JT K):=by
 refine F.ok gB (fun vs H Q E h =>?_) (fun bS A outer s H vs Q E hr h =>?_)
 ·obtain⟨t,p,rfl,_⟩:=h
  rfl
 obtain⟨t,p,rfl,hb,F9,ht,q⟩:=h;have cK:=hr.units;have hz:t.length<=KE:=Jg ht ∅;refine⟨_,(af (ay (i:=2) gB.nd rfl (YY rfl) (aA (cM.mono ∅) hr rfl (aa (bL (DK K) (pv 0) (bz (pv 1)) (bz (aw bw (pv 1) ah))) ae)))
  (af (ay (i:=3) gB.nd rfl (YY rfl) (aw bw (aw bw (pv 1) ah) (pv 2)))
  (ag (ao (dg (PW.pt (ju (ax Aq (pv 3) (ak (eE K) rfl T.n_len (by rfl) (aa (pv 0) ae)) (aE _)) (hW (ax Pe aq (bL (DK K) (pv 0) (bz (aw bw (pv 1) ah)) (bz (pv 3))) (by with_unfolding_all rfl))))) a9 (bK (aa (pv 2) (aa (pv 3) ae)))))))),?_⟩
 have hp:p<=t.length:=by lia
 refine⟨_,rfl,_,rfl,_,rfl,_,rfl,.inl ⟨_,_,rfl,rfl,_,rfl,.inr ⟨t,rfl,hz,?_⟩⟩⟩;have nq:sg (Zi t (some (p:Int)) (some ((p:Int)+(3:Int))))=((sg t).drop p).take 3:=by
  rw[show((p:Int)+(3:Int))=((p+3:Nat):Int) by lia,j0 (Ua _ _) hp]
  congr 1
  lia
 unfold gH at q;rw[mf hb hp,if_pos F9,<-nq] at q;generalize Zi t (some (p:Int)) (some ((p:Int)+(3:Int)))=cx at nq q ⊢;have qP:cx.length=3:=by
  rw[str_len];show(sg cx).length=3;rw[nq,J6,Uj,<-str_len];lia
 have CZ:dJ cx:=fun x hx=>hb x (by
  have hx:x∈sg cx:=hx;rw[nq] at hx;exact Yo (Y2 hx))
 have Vs:=oy (l:=sg cx) CZ;rw[show(sg cx).length=3 by rw[<-qP,str_len]] at Vs;refine⟨cx,rfl,CZ,⋯,gn ?_⟩;have q:∀v H',ar H H'->BK K H' v ((if ((sg t).drop (p+3)).take (d6 (sg cx))=Jp (d6 (sg cx)) 48 then some (d6 (sg cx),p+3+d6 (sg cx)) else none).map fun r=>(.int (r.1:Nat),r.2))->Q v H':=q;generalize d6 (sg cx)=n at q Vs ⊢;dsimp only;refine⟨_,rfl,.inl ⟨_,_,rfl,rfl,_,rfl,.inl ⟨_,_,rfl,rfl,gn ?_⟩⟩⟩;refine⟨_,rfl,_,rfl,_,_,rfl,⟨hz,rfl⟩,_,_,rfl,rfl,_,rfl,?_⟩;refine fq (fun c =>?_) (fun c =>?_)
 ·have c:((t.length:Nat):Int)<(p:Int)+3+(n:Int):=of_decide_eq_true c;rw[if_neg (fun z=>by
   have:=congrArg Qdv z;rw[J6,Uj,Ut,<-str_len] at this;lia)] at q
  exact q _ H (ar.refl _) rfl
 have c:¬((t.length:Nat):Int)<(p:Int)+3+(n:Int):=fun z=>c (decide_eq_true z);have Gj:sg (Zi t (some ((p:Int)+3)) (some ((p:Int)+3+(n:Int))))=((sg t).drop (p+3)).take n:=by
  rw[show((p:Int)+3+(n:Int))=((p+3+n:Nat):Int) by lia,show((p:Int)+3)=((p+3:Nat):Int) by lia,j0 (Ua _ _) F9]
  congr 1
  lia
 refine⟨_,rfl,_,rfl,.inl ⟨_,_,rfl,rfl,_,rfl,_,rfl,_,rfl,.inr ⟨t,rfl,hz,?_⟩⟩⟩;generalize Zi t (some ((p:Int)+3)) (some ((p:Int)+3+(n:Int)))=cy at Gj ⊢;have Na:cy.length=n:=by
  rw[str_len];show(sg cy).length=n;rw[Gj,J6,Uj,<-str_len];lia
 have WR:dJ cy:=fun x hx=>hb x (by
  have hx:x∈sg cy:=hx;rw[Gj] at hx;exact Yo (Y2 hx))
 rw[<-Gj] at q;have h1:=HR WR ⋯;rw[Na] at h1;refine⟨_,_,rfl,rfl,?_⟩;rw[h1]
 by_cases hz0:sg cy=Jp n 48
 ·rw[if_pos hz0] at q;rw[decide_eq_true hz0];refine⟨_,rfl,bj ?_⟩;refine⟨_,rfl,_,rfl,by show 2<=KE;decide,fun tp H' n'=>q _ H' n'.same ⟨tp,rfl,?_⟩⟩;have:=aY.of (K:=K) n'.at;rw[show((p:Int)+3+(n:Int))=((p+3+n:Nat):Int) by lia] at this;exact this
 ·rw[if_neg hz0] at q;rw[decide_eq_false hz0];exact⟨_,rfl,bA (q _ H (ar.refl _) rfl)⟩
end
def bU (bk:List (Str×Str))(t:Str):Nat->Nat->Option (List Str×Nat)
 | 0,p=>some ([],p)
 | n+1,p=>(nameA bk t p).bind fun r=>(bU bk t n r.2).map fun z=>(r.1::z.1,z.2)
def QG (o:Option (Str×Str)):List V:=match o with
 | some q=>[.str q.1]
 | none=>[]
def Ke:∀n∈aD++(bJ++aO),Zy (.list [.str n])=true:=∅
def FC {K:Ja}{H:Hp}{a e:Gc}{o:Option (Str×Str)}{Q:VK}(ha:H a=some (.lst (QG o)))(he:H e=some (.lst []))(hs:∀q,o=some q->q.1∈aD++(bJ++aO))(q:Q (.bl o.isNone) H):
  Qb (.ref a) (.ref e) H Q\/∃d e',Den K H d (.ref a)/\Den K H e' (.ref e)/\Zy d=true/\Zy e'=true/\Q (.bl (d.eqv e')) H:=by
 cases o with
 | none=>
  refine .inr ⟨.list [],.list [],Den.list (bg.of ha) (Den.strs []),Den.list (bg.of he) (Den.strs []),∅,∅,?_⟩;rw[xI];exact q
 | some z=>
  refine .inr ⟨.list [.str z.1],.list [],Den.list (bg.of ha) (Den.strs [z.1]),Den.list (bg.of he) (Den.strs []),Ke _ (hs z rfl),∅,?_⟩;rw[xI];exact q
def VH (K:Ja):List V->Hp->VK->Prop:=fun xs H Q=>∃(p:Gc) (as:List Gc) (kvs:List (Key×V)),xs=[.ref p]/\bg K H p (as.map V.ref)/\as.length=kvs.length/\kvs.length<=100000/\(∀(j:Nat) (b:Gc) (kv:Key×V),as[j]? = some b->kvs[j]? = some kv->aY K H b [kV kv.fst,kv.snd])/\∀(d:Gc) (H':Hp),jg H d (HO.dK (cB [] kvs)) H'->Q (V.ref d) H'
def WZ (K:Ja):List V->Hp->VK->Prop:=fun xs H Q=>∃(x:V) (n:Nat),xs=[x]/\KI K x H n/\Q (V.int (n:Nat)) H
def Mn {K:Ja}{H:Hp}{lp:Gc}{F:Fb}{i:Nat}{bk:List (Str×Str)}{x:Str}(hP:iG K H lp F)(hi:[F.b1,F.b2,F.b3][i]? = some bk)(g:lF bk)(Ql:(bk.map (·.1)).Nodup)(hx:x∈bk.map (·.1))
  {σ:L2.St} {te:TE} {Q:VK} (h0: σ[0]? = some (some (.ref lp))) (DH:∀H' Qk,ar H H'->Qk (.str x) H'->te σ H' Qk) (q:∀H',ar H H'->Q (.int ((bh bk x).length:Nat)) H') :
  Nt (WZ K) (Al (JI (Nt (VH K) (Al (M9 (SY K) (GP 0) (tC (.int (i:Nat)))) Cm)) te) Cm) σ H Q:=by
 obtain⟨r1,r2,r3,hl,hD⟩:=hP.ex;have h3:i<3:=(Ji.mp hi).1;have hv:[r1,r2,r3][i]? = some ([r1,r2,r3][i]'h3):=Jc h3;have hB:=gG (j:=i) (d:=aQ bk) hD (by
  match i,h3,hi with
  | 0,_,e=>cases e;rfl
  | 1,_,e=>cases e;rfl
  | 2,_,e=>cases e;rfl) hv
 have F7:vp [r1,r2,r3,.int (F.near:Nat),.int (F.eU:Nat)] (i:Nat)=some ([r1,r2,r3][i]'h3):=by
  match i,h3 with
  | 0,_=>rfl
  | 1,_=>rfl
  | 2,_=>rfl
 generalize [r1,r2,r3][i]'h3=v at hB F7;obtain⟨a,as,rfl,sq,al,hT⟩:=oN hB;have hc:=(g.cd _ (m7 hx)).2;have hle:=g.le;refine⟨_,h0,.inl ⟨lp,_,_,.ref a,rfl,rfl,hl,F7,a,as,gV bk,rfl,sq,al,by rw[oO];lia,hT,fun d H1 n1 =>?_⟩⟩;rw[iK Ql] at n1;refine DH H1 _ n1.same ⟨d,_,rfl,by rw[<-iR hx];exact eV.k (k := .inr x) n1.at,_,_,rfl,by first|exact⟨Jg hc ∅,rfl⟩|trace_state,q _ n1.same⟩
def uu {bk:List (Str×Str)}(Ql:(bk.map (·.1)).Nodup){t:Str}{p:Nat}{q:Str×Str}(h:qG bk t p=some q):q.1∈bk.map (·.1)/\bh bk q.1=q.2:=by
 have hm:=(dB h).1;refine⟨Ui hm,?_⟩;have h2:=m7 (Ui (f:=fun q:Str×Str=>q.1) hm);obtain⟨i,hi⟩:=J4.mp hm;obtain⟨j,hj⟩:=J4.mp h2;have e:i=j:=by
  have h1:(bk.map (·.1))[i]? = some q.1:=by rw[Jk,hi];rfl
  have h2:(bk.map (·.1))[j]? = some q.1:=by rw[Jk,hj];rfl
  obtain⟨li,ei⟩:=Ji.mp h1;obtain⟨lj,ej⟩:=Ji.mp h2
  rcases Qdc i j with c|c|c
  ·exact absurd (ei.trans ej.symm) (Uo.mp Ql i j li lj c)
  ·exact c
  ·exact absurd (ej.trans ei.symm) (Uo.mp Ql j i lj li c)
 subst e;rw[hi] at hj;exact(congrArg Prod.snd (Zk hj)).symm
def IP (K:Ja):Sp:=fun vs H Q _=>vY fun(lp:Gc) (F:Fb) (t:Str) (p n:Nat)=>vs=[.ref lp,.str t,.int (p:Nat),.int (n:Nat)]/\iG K H lp F/\kB F/\n<=2/\p<=t.length/\t.length<=1000000 /\
 ∀v H',ar H H'->(match bU F.b2 t n p with
  | none=>v = .non
  | some r=>∃tp fp,v = .ref tp/\aY K H' tp [.ref fp,.int (r.2:Nat)]/\aY K H' fp (r.1.map V.str))->Q v H'
def ph {bk:List (Str×Str)}{t:Str}:∀{n p:Nat} {xs:List Str} {e:Nat},bU bk t n p=some (xs,e)->bU bk t (n+1) p=(nameA bk t e).map fun r=>(xs++[r.1],r.2)
 | 0,p,xs,e,h=>by
  cases h;show(nameA bk t p).bind (fun r=>(some ([],r.2)).map _)=_;cases nameA bk t p<;>rfl
 | n+1,p,xs,e,h=>by
  unfold bU at h;obtain⟨r,h1,h2⟩:=Option.bind_eq_some_iff.mp h;obtain⟨z,h3,h4⟩:=Option.map_eq_some_iff.mp h2;cases h4;show(nameA bk t p).bind (fun r=>(bU bk t (n+1) r.2).map fun z=>(r.1::z.1,z.2))=_;rw[h1];show(bU bk t (n+1) r.2).map _=_;rw[ph h3];cases nameA bk t z.2<;>rfl
def xK {bk:List (Str×Str)}{t:Str}{e k:Nat}(h2:nameA bk t e=none):∀{i:Nat} {p:Nat} {xs:List Str},bU bk t i p=some (xs,e)->bU bk t (i+1+k) p=none:=by
 intro i
 induction i with
 | zero=>
  intro p xs h;cases h;rw[show 0+1+k=k+1 by lia];show(nameA bk t e).bind _=none;rw[h2];rfl
 | succ i ih=>
  intro p xs h;unfold bU at h;obtain⟨r,h1,h3⟩:=Option.bind_eq_some_iff.mp h;obtain⟨z,h4,h5⟩:=Option.map_eq_some_iff.mp h3;cases h5;rw[show i+1+1+k=(i+1+k)+1 by lia];show(nameA bk t p).bind (fun r=>(bU bk t (i+1+k) r.2).map fun z=>(r.1::z.1,z.2))=none;rw[h1];show(bU bk t (i+1+k) r.2).map _=none;rw[ih h4];rfl
section
variable {P:YZ}{w:Zb}{K:Ja}{mg:Str->Option Fk}{base:Heap}{f:Gc}{fd:Zc}
def b9:aG ["_law_parts_here", "_law_text_here", "_law_at_here", "_law_many", "_law_found", "_law_turn", "_law_names"] ["_law_parts_here", "_law_text_here", "_law_at_here", "_law_many"] (ai (top gA)):=⟨rfl,rfl,rfl,∅,rfl,∅,∅⟩
def Md (F:dM K "_law_spots_at" "_law_spots_at" (top gA) f fd)(T:Nm mg)(cw:mg "dict" = none)(cZ:Fn P w K mg base 1 "_law_names_at" ["_law_book", "_law_text_here", "_law_at_here"] (zU K)):aW P w K mg base dI 2 f fd ["_law_parts_here", "_law_text_here", "_law_at_here", "_law_many"] (IP K):=by
 refine F.ok b9 (fun vs H Q E h =>?_) (fun bS A outer s H vs Q E hr h =>?_)
 ·obtain⟨lp,Fo,t,p,n,rfl,_⟩:=h
  rfl
 obtain⟨lp,Fo,t,p,n,rfl,hP,fr,hn,hp,ht,q⟩:=h;have cK:=hr.units;have hu:=jF hr;obtain⟨_,k2,_⟩:=fr.IV;have Qw:(Fo.b2.map (·.1)).Nodup:=fr.n2.nodup_iff.mpr Ku.nd;refine⟨_,(af (ay (i:=4) b9.nd rfl (YY rfl) (bK ae))
  (af (fe Zw rfl (eg rfl T.n_range (aa (pv 3) ae)) (aI (i:=5) b9.nd rfl (YY rfl)) (af (ay (i:=6) b9.nd rfl (YY rfl) (aA (cZ.mono ∅) hr rfl (aa (aU (eG K) (pv 0) ah (fun _ _=>rfl)) (aa (pv 1) (aa (pv 2) ae)))))
  (af (aV (ax (kW K cK) (pv 6) (gE ae) (aE _)) (ag (ao a9)) aB)
  (af (ay (i:=4) b9.nd rfl (YY rfl) (aw (Pk K) (pv 4) (bK (aa (aU (eG K) (pv 6) ah (fun _ _=>rfl)) ae))))
  (ag (ay (i:=2) b9.nd rfl (YY rfl) (aw bw (pv 2) (ak (eE K) rfl T.n_len (by rfl) (aa (bP hu (aX (pI K rfl) rfl cw (by rfl) (aa (aU (eG K) (pv 0) ah (fun _ _=>rfl)) ae)) (aU (eG K) (pv 6) ah (fun _ _=>rfl)) (fun _ _=>rfl)) ae)))))))))
  (ag (ao (bK (aa (pv 4) (aa (pv 2) ae))))))),?_⟩
 refine⟨by show 0<=KE;decide,fun tp H1 n1=>gn ?_⟩;dsimp only;refine fk (t:=BR _ _ _) (fun σ H'=>∃(x5 x6:Option V) (xs:List Str) (e:Nat) (fp:Gc),σ=[some (.ref lp),some (.str t),some (.int (e:Nat)),some (.int (n:Nat)),some (.ref fp),x5,x6]/\ar H H'/\aY K H' fp (xs.map V.str)/\bU Fo.b2 t n p=some (xs,e)) (fun Nx nx =>?_) ?_
 ·refine⟨_,rfl,_,rfl,⋯,⋯,?_⟩;refine jN (N:=n) (fun i σ H'=>∃(x5 x6:Option V) (xs:List Str) (e:Nat) (fp:Gc),σ=[some (.ref lp),some (.str t),some (.int (e:Nat)),some (.int (n:Nat)),some (.ref fp),x5,x6]/\ar H H'/\aY K H' fp (xs.map V.str)/\bU Fo.b2 t i p=some (xs,e)/\e<=t.length/\xs.length=i) ⟨_,_,[],p,tp,rfl,n1.same,aY.of n1.at,rfl,hp,rfl⟩ ?_ ?_
  ·rintro i σ H2 hi ⟨x5,x6,xs,e,fp,rfl,s2,h2,vz,he,JJ⟩;refine⟨hi,?_⟩;rintro x' H3 ⟨rfl,rfl⟩;refine gn ?_;obtain⟨r1,r2,r3,hl,hD⟩:=(hP.same s2).ex;refine⟨_,rfl,.inl ⟨lp,_,1,r2,rfl,rfl,hl,rfl,_,rfl,_,rfl,r2,Fo.b2,t,e,rfl,gG (j:=1) hD rfl rfl,k2,he,ht,fun np H4 s4 hn0 xw=>gn ?_⟩⟩;have xw:H4 np=some (.lst (QG (qG Fo.b2 t e))):=xw;refine⟨_,rfl,by show 0<=KE;decide,fun ep H5 n5=>FC (n5.same _ _ xw) n5.at (fun q hq=>Jo _ (Us _ (fr.n2.mem_iff.mp (Ui (dB hq).1)))) ?_⟩;have s5:=s2.trans (s4.trans n5.same);have SZ:=n5.same _ _ xw;cases ea:qG Fo.b2 t e with
   | none=>
    have en:nameA Fo.b2 t e=none:=by unfold nameA;rw[ea];rfl
    have:=xK (k:=n-(i+1)) en vz;rw[show i+1+(n-(i+1))=n by lia] at this;rw[this] at q;exact⟨_,rfl,bA (q _ _ s5 rfl)⟩
   | some z=>
    have en:nameA Fo.b2 t e=some (z.1,e+z.2.length):=by unfold nameA;rw[ea];rfl
    obtain⟨hz1,hz2⟩:=uu Qw ea;have Tl:=ph vz;rw[en] at Tl;rw[ea] at SZ;refine⟨_,rfl,bj ?_⟩;dsimp only[bZ];have XC:=sZ he ea;refine ip (te:=M9 _ _ _) (fun v H'=>∃fp',v = .ref fp'/\ar H5 H'/\aY K H' fp' ((xs++[z.1]).map V.str)) (fun Qn qn =>?_) ?_
    ·refine⟨_,rfl,_,rfl,.inl ⟨np,_,0,.str z.1,rfl,rfl,bg.of SZ,rfl,by show 1<=KE;decide,fun gp H6 n6 =>?_⟩⟩;have h6:=n6.same.bO ((s4.trans n5.same).bO h2);cases xs with
     | nil=>exact .inr ⟨fp,gp,_,rfl,rfl,h6,aY.of n6.at,qn _ _ ⟨gp,rfl,n6.same,aY.of n6.at⟩⟩
     | cons x xs=>
      refine .inl ⟨fp,gp,_,_,rfl,rfl,h6,aY.of n6.at,?_,(nofun),(nofun),fun _ p' H7 n7=>qn _ _ ⟨p',rfl,n6.same.trans n7.same,?_⟩⟩
      ·simp only[Jd,Jn,Yk] at JJ ⊢;lia
      ·rw[J0];exact aY.of n7.at
    rintro v H6 ⟨fp',rfl,s6,h6⟩;have XU:=s6;have s6:=s5.trans s6;refine⟨_,rfl,Mn (i:=1) (hP.same s6) rfl k2 Qw hz1 rfl (fun H' Qk s' qk=>⟨_,rfl,.inl ⟨np,_,0,.str z.1,rfl,rfl,bg.of (s' _ _ (XU _ _ SZ)),rfl,qk⟩⟩) fun H7 s7 =>.inl ⟨_,_,rfl,rfl,?_⟩⟩;rw[hz2];exact⟨_,_,_,_,fp',rfl,s6.trans s7,s7.bO h6,Tl,XC,by rw[Jt,JJ];rfl⟩
  ·rintro σ H2 ⟨x5,x6,xs,e,fp,rfl,s2,h2,vz,he,JJ⟩;exact⟨Je _,nx _ _ ⟨x5,x6,xs,e,fp,rfl,s2,h2,vz⟩⟩
 rintro σ H2 ⟨x5,x6,xs,e,fp,rfl,s2,h2,vz⟩;rw[vz] at q;exact⟨_,rfl,_,rfl,by show 2<=KE;decide,fun tq H3 n3=>q _ H3 (s2.trans n3.same) ⟨tq,fp,rfl,aY.of n3.at,n3.same.bO h2⟩⟩
end
def IL (K:Ja):Sp:=fun vs H Q _=>lW fun(lp:Gc) (F:Fb) (t:Str) (p:Nat)=>vs=[.ref lp,.str t,.int (p:Nat)]/\iG K H lp F/\kB F/\dJ t/\p<=t.length/\t.length<=1000000 /\
 ∀v H',ar H H'->BK K H' v ((oj F.b3 t p).map fun r=>(.int (r.1:Nat),r.2))->Q v H'
def Oq:∀x∈aO,aO.idxOf x<=8/\(x = "none" ↔ aO.idxOf x=0):=∅
section
variable {P:YZ}{w:Zb}{K:Ja}{mg:Str->Option Fk}{base:Heap}{f:Gc}{fd:Zc}
def de:aG ["_law_parts_here", "_law_text_here", "_law_at_here", "_law_names", "_law_many", "_law_number"] ["_law_parts_here", "_law_text_here", "_law_at_here"] (ai (top ib)):=⟨rfl,rfl,rfl,∅,rfl,∅,∅⟩
def Kq (F:dM K "_law_size_at" "_law_size_at" (top ib) f fd)(T:Nm mg)(cw:mg "dict" = none)(cZ:Fn P w K mg base 1 "_law_names_at" ["_law_book", "_law_text_here", "_law_at_here"] (zU K))(cM:Fn P w K mg base 1 "_law_number_by" ["_law_signs"] AI)(fC:Fn P w K mg base 1 "_law_sizes" [] (pB aO)):aW P w K mg base dI 2 f fd ["_law_parts_here", "_law_text_here", "_law_at_here"] (IL K):=by
 refine F.ok de (fun vs H Q E h =>?_) (fun bS A outer s H vs Q E hr h =>?_)
 ·obtain⟨lp,Fo,t,p,rfl,_⟩:=h
  rfl
 obtain⟨lp,Fo,t,p,rfl,hP,fr,hb,hp,ht,q⟩:=h;have cK:=hr.units;have hu:=jF hr;have hz:t.length<=KE:=Jg ht ∅;obtain⟨_,_,k3⟩:=fr.IV;have Qj:(Fo.b3.map (·.1)).Nodup:=fr.n3.nodup_iff.mpr KP.nd;refine⟨_,(af (ay (i:=3) de.nd rfl (YY rfl) (aA (cZ.mono ∅) hr rfl (aa (aU (eG K) (pv 0) ah (fun _ _=>rfl)) (aa (pv 1) (aa (pv 2) ae)))))
  (af (aV (ax (kW K cK) (pv 3) (gE ae) (aE _)) (ag (ao a9)) aB)
  (af (ay (i:=2) de.nd rfl (YY rfl) (aw bw (pv 2) (ak (eE K) rfl T.n_len (by rfl) (aa (bP hu (aX (pI K rfl) rfl cw (by rfl) (aa (aU (eG K) (pv 0) ah (fun _ _=>rfl)) ae)) (aU (eG K) (pv 3) ah (fun _ _=>rfl)) (fun _ _=>rfl)) ae))))
  (af (ay (i:=4) de.nd rfl (YY rfl) (ak (sy rfl) rfl T.n_max (by rfl) (aa ah (aa (aw dG (uN K ZQ QdX QdW LO (oX (fC.mono (by first|decide|exact Je _|lia)) hr rfl) (aa (aU (eG K) (pv 3) ah (fun _ _=>rfl)) ae)) ah) ae))))
  (af (aV (ax Aq (aw bw (pv 2) (pv 4)) (ak (eE K) rfl T.n_len (by rfl) (aa (pv 1) ae)) (aE _)) (ag (ao a9)) aB)
  (af (ay (i:=5) de.nd rfl (YY rfl) (aA (cM.mono ∅) hr rfl (aa (aw bw aq (bL (DK K) (pv 1) (bz (pv 2)) (bz (aw bw (pv 2) (pv 4))))) ae)))
  (ag (ao (bK (aa (aw kz (pv 5) (aX gr rfl T.n_int (by rfl) (aa (cT (DE K cK) (aU (eG K) (pv 3) ah (fun _ _=>rfl)) aq (aE _)) ae))) (aa (aw bw (pv 2) (pv 4)) ae))))))))))),?_⟩
 obtain⟨r1,r2,r3,hl,hD⟩:=hP.ex;refine⟨_,rfl,.inl ⟨lp,_,2,r3,rfl,rfl,hl,rfl,_,rfl,_,rfl,r3,Fo.b3,t,p,rfl,gG (j:=2) hD rfl rfl,k3,hp,ht,fun np H1 s1 hn0 xw=>gn ?_⟩⟩;have xw:H1 np=some (.lst (QG (qG Fo.b3 t p))):=xw;have qB:∀q,qG Fo.b3 t p=some q->q.1∈aO:=fun q hq=>fr.n3.mem_iff.mp (Ui (dB hq).1);refine⟨_,rfl,by show 0<=KE;decide,fun ep H2 n2=>FC (n2.same _ _ xw) n2.at (fun q hq=>Jo _ (Jo _ (qB q hq))) ?_⟩;have s2:=s1.trans n2.same;have xJ:=n2.same _ _ xw;cases ea:qG Fo.b3 t p with
 | none=>
  have en:oj Fo.b3 t p=none:=by unfold oj nameA;rw[ea];rfl
  rw[en] at q;exact⟨_,rfl,bA (q _ _ s2 rfl)⟩
 | some z=>
  have en:oj Fo.b3 t p=yQ z.1 t (p+z.2.length):=by unfold oj nameA;rw[ea];rfl
  rw[en] at q;rw[ea] at xJ;obtain⟨hz1,hz2⟩:=uu Qj ea;have he:=sZ hp ea;obtain⟨i8,i0⟩:=Oq _ (qB z ea);obtain⟨ix1,ix2,ix3⟩:=rK (qB z ea);unfold yQ at q;have UL:decide (V.str z.1=V.str "none")=decide (aO.idxOf z.1=0):=by
   rw[decide_eq_decide];exact⟨fun e=>i0.mp (by injection e),fun e=>by rw[i0.mpr e]⟩
  generalize aO.idxOf z.1=ix at q i8 i0 ix1 ix2 ix3 UL;refine⟨_,rfl,bj ?_⟩;dsimp only[bZ];refine⟨_,rfl,Mn (i:=2) (hP.same s2) rfl k3 Qj hz1 rfl (fun H' Qk s' qk=>⟨_,rfl,.inl ⟨np,_,0,.str z.1,rfl,rfl,bg.of (s' _ _ xJ),rfl,qk⟩⟩) fun H3 s3 =>.inl ⟨_,_,rfl,rfl,gn ?_⟩⟩;rw[hz2];generalize hee:p+z.2.length=e at he q;have L9:(p:Int)+(z.2.length:Int)=(e:Nat):=by lia
  rw[L9];have QW:=s2.trans s3;have Sy:=s3 _ _ xJ;refine⟨rfl,fun l4 H4 n4=>⟨.inl ⟨rfl,_,bg.of n4.at⟩,_,rfl,.inl ⟨np,_,0,.str z.1,rfl,rfl,bg.of (n4.same _ _ Sy),rfl,l4,aO,z.1,ix,rfl,rfl,n4.at,ix1,ix2,?_⟩⟩⟩;refine⟨_,_,rfl,rfl,0,_,rfl,gn ?_⟩;have em:(if ((ix:Nat):Int)-1>0 then ((ix:Nat):Int)-1 else 0)=((ix-1:Nat):Int):=by split<;>lia
  rw[em];have s4:=QW.trans n4.same;have WD:=n4.same _ _ Sy;clear em n4 Sy QW n2 s2 s1;dsimp only;refine⟨_,rfl,_,rfl,.inl ⟨_,_,rfl,rfl,_,rfl,_,_,rfl,⟨hz,rfl⟩,_,_,rfl,rfl,_,rfl,?_⟩⟩;refine fq (fun c =>?_) (fun c =>?_)
  ·have c:((t.length:Nat):Int)<(e:Int)+((ix-1:Nat):Int):=of_decide_eq_true c;have xA:ix≠0:=by lia
   rw[if_neg xA,mf hb he,if_neg (show ¬e+(ix-1)<=t.length by lia)] at q;exact q _ _ s4 rfl
  have c:¬((t.length:Nat):Int)<(e:Int)+((ix-1:Nat):Int):=fun z=>c (decide_eq_true z);dsimp only[bZ];refine⟨_,rfl,_,rfl,_,rfl,_,rfl,_,rfl,.inl ⟨_,_,rfl,rfl,_,rfl,.inr ⟨t,rfl,hz,?_⟩⟩⟩;have nq:sg (Zi t (some (e:Int)) (some ((e:Int)+((ix-1:Nat):Int))))=((sg t).drop e).take (ix-1):=by
   rw[show((e:Int)+((ix-1:Nat):Int))=((e+(ix-1):Nat):Int) by lia,j0 (Ua _ _) he]
   congr 1
   lia
  rw[mf hb he,if_pos (show e+(ix-1)<=t.length by lia),<-nq] at q;generalize Zi t (some (e:Int)) (some ((e:Int)+((ix-1:Nat):Int)))=cx at nq q ⊢;have qP:cx.length<=ix-1:=by rw[str_len];show(sg cx).length<=ix-1;rw[nq];exact QcM _ _
  have CZ:dJ cx:=fun x hx=>hb x (by
   have hx:x∈sg cx:=hx;rw[nq] at hx;exact Yo (Y2 hx))
  have e1:sg ((W1 "1")++cx)=sg "1" ++ sg cx:=aK _ _;refine .inr (.inl ⟨_,_,rfl,rfl,Jg (show _<=100 by rw[show(W1 "1").length=1 from rfl];lia) ∅,W1 "1" ++ cx,rfl,fun x hx =>?_,?_,gn ?_⟩)
  ·have hx:x∈sg (W1 "1" ++ cx):=hx;rw[e1] at hx
   rcases Ub.mp hx with h|h
   ·exact .inr (by simpa [show sg (W1 "1")=[49] by decide +kernel] using h)
   ·exact CZ x h
  ·rw[Zn,show(W1 "1").length=1 from rfl];lia
  rw[e1];refine⟨_,rfl,_,rfl,.inl ⟨np,_,0,.str z.1,rfl,rfl,bg.of WD,rfl,.inl ⟨rfl,.inr ⟨_,rfl,.inl ⟨_,_,rfl,rfl,?_,_,rfl,_,rfl,.inl ⟨_,_,rfl,rfl,by show 2<=KE;decide,fun tp H' n'=>q _ H' (s4.trans n'.same) ?_⟩⟩⟩⟩⟩⟩
  ·refine .inr ?_
   split<;>decide
  ·have:=aY.of (K:=K) n'.at;rw[show((e:Int)+((ix-1:Nat):Int))=((e+(ix-1):Nat):Int) by lia,UL] at this
   by_cases cc:ix=0
   ·rw[if_pos cc];refine⟨tp,rfl,?_⟩;rw[decide_eq_true cc,show e+(ix-1)=e by lia] at this;have this:aY K H' tp [V.int (((d6 (sg "1" ++ sg cx):Nat):Int)*0),.int (e:Nat)]:=this;rw[Int.mul_zero] at this;exact this
   ·rw[if_neg cc];refine⟨tp,rfl,?_⟩;rw[decide_eq_false cc] at this;have this:aY K H' tp [V.int (((d6 (sg "1" ++ sg cx):Nat):Int)*1),.int ((e+(ix-1):Nat):Int)]:=this;rw[Int.mul_one] at this;exact this
end
def P7 (w:Str):Nat:=if w∈(["stop", "jump", "farjump"]:List Str) then 0 else if w∈(["add", "take"]:List Str) then 2 else 1
def M3 (w:Str):List Str:=if w = "set" then ["number"] else if w∈(["jump", "zero"]:List Str) then ["near"] else if w∈(["farjump", "farzero"]:List Str) then ["far"] else []
def yo:∀w∈aD,w ≠ "skip" -> mI w=Jp (P7 w) (W1 "spot")++M3 w:=∅
def NO:List (Key×V):=[(.inr "stop",.int 0),(.inr "jump",.int 0),(.inr "farjump",.int 0),(.inr "add",.int 2),(.inr "take",.int 2)]
def K9:∀w∈aD,((gf (cB [] NO) (.inr w)).getD (.int 1)) = .int (P7 w:Nat):=∅
def xP:List Str:=["set", "jump", "zero", "farjump", "farzero"]
def GW:∀w∈aD,(xP.contains w=false/\M3 w=[])\/(xP.contains w=true/\((w = "set" /\ M3 w=[W1 "number"])\/(w ≠ "set" /\ M3 w=[if ky w=true then W1 "far" else W1 "near"]))):=∅
def CH (F:Fb)(k t:Str)(p:Nat):bD F [k] t p=(cq F k t p).map fun r=>([r.1],r.2):=by
 show(cq F k t p).bind (fun r=>some ([r.1],r.2))=_;cases cq F k t p<;>rfl
def Nf:∀w,P7 w<=2:=fun w=>by unfold P7;split<;>(try split)<;>decide
def nO (F:Fb)(t:Str):∀n p,bD F (Jp n "spot") t p=(bU F.b2 t n p).map fun r=>(r.1.map Arg.sp,r.2)
 | 0,p=>rfl
 | n+1,p=>by
  show(cq F "spot" t p).bind (fun r=>(bD F (Jp n "spot") t r.2).map fun z=>(r.1::z.1,z.2))=((nameA F.b2 t p).bind fun r=>(bU F.b2 t n r.2).map fun z=>(r.1::z.1,z.2)).map _;have e:cq F "spot" t p=(nameA F.b2 t p).map fun r=>(.sp r.1,r.2):=by unfold cq;rw[if_pos rfl]
  rw[e];cases nameA F.b2 t p with
  | none=>rfl
  | some r=>
   show(bD F (Jp n "spot") t r.2).map _=((bU F.b2 t n r.2).map _).map _;rw[nO F t n r.2];cases bU F.b2 t n r.2<;>rfl
def nj {bk:List (Str×Str)}{t:Str}:∀{n p:Nat} {r:List Str×Nat},bU bk t n p=some r->r.1.length=n
 | 0,p,r,h=>by cases h;rfl
 | n+1,p,r,h=>by
  unfold bU at h;obtain⟨a,h1,h2⟩:=Option.bind_eq_some_iff.mp h;obtain⟨z,h3,h4⟩:=Option.map_eq_some_iff.mp h2;have:=nj h3;rw[<-h4];exact congrArg Nat.succ this
def sE {bk:List (Str×Str)}{t:Str}:∀{n p:Nat} {r:List Str×Nat},p<=t.length->bU bk t n p=some r->r.2<=t.length
 | 0,p,r,hp,h=>by cases h;exact hp
 | n+1,p,r,hp,h=>by
  unfold bU at h;obtain⟨a,h1,h2⟩:=Option.bind_eq_some_iff.mp h;obtain⟨z,h3,h4⟩:=Option.map_eq_some_iff.mp h2;have:=sE (iJ hp h1) h3;rw[<-h4];exact this
def JY (K:Ja):Sp:=fun vs H Q _=>lW fun(lp:Gc) (F:Fb) (t:Str) (p:Nat)=>vs=[.ref lp,.str t,.int (p:Nat)]/\iG K H lp F/\kB F/\dJ t/\p<=t.length/\t.length<=1000000 /\
 ∀v H',ar H H'->(match eX F t p with
  | none=>v = .non
  | some r=>∃tp bp,v = .ref tp/\aY K H' tp [.ref bp,.int (r.2:Nat)]/\aY K H' bp (.str r.1.1::r.1.2.map Arg.v))->Q v H'
section
variable {P:YZ}{w:Zb}{K:Ja}{mg:Str->Option Fk}{base:Heap}{f:Gc}{fd:Zc}
def eA:aG ["_law_parts_here", "_law_text_here", "_law_place", "_law_names", "_law_word", "_law_at_here", "_law_told_here", "_law_spots", "_law_found"] ["_law_parts_here", "_law_text_here", "_law_place"] (ai (top oS)):=⟨rfl,rfl,rfl,∅,rfl,∅,∅⟩
def K4 (F:dM K "_law_at" "_law_at" (top oS) f fd)(T:Nm mg)(cw:mg "dict" = none)(cZ:Fn P w K mg base 1 "_law_names_at" ["_law_book", "_law_text_here", "_law_at_here"] (zU K))(qO:Fn P w K mg base 2 "_law_skip_at" ["_law_text_here", "_law_at_here"] (JT K))(pY:Fn P w K mg base 2 "_law_spots_at" ["_law_parts_here", "_law_text_here", "_law_at_here", "_law_many"] (IP K))(qQ:Fn P w K mg base 2 "_law_size_at" ["_law_parts_here", "_law_text_here", "_law_at_here"] (IL K))(mv:Fn P w K mg base 2 "_law_far_figures" ["_law_parts_here", "_law_text_here", "_law_at_here", "_law_word"] (JM K)):aW P w K mg base dI 3 f fd ["_law_parts_here", "_law_text_here", "_law_place"] (JY K):=by
 refine F.ok eA (fun vs H Q E h =>?_) (fun bS A outer s H vs Q E hr h =>?_)
 ·obtain⟨lp,Fo,t,p,rfl,_⟩:=h
  rfl
 obtain⟨lp,Fo,t,p,rfl,hP,fr,hb,hp,ht,q⟩:=h;have cK:=hr.units;have hu:=jF hr;have NX:=hu;have hz:t.length<=KE:=Jg ht ∅;obtain⟨k1,_,_⟩:=fr.IV;have Qi:(Fo.b1.map (·.1)).Nodup:=fr.g.n1.nodup_iff.mpr cN;refine⟨_,(af (ay (i:=3) eA.nd rfl (YY rfl) (aA (cZ.mono ∅) hr rfl (aa (aU (eG K) (pv 0) ah (fun _ _=>rfl)) (aa (pv 1) (aa (pv 2) ae)))))
  (af (aV (ax (kW K cK) (pv 3) (gE ae) (aE _)) (ag (ao a9)) aB)
  (af (ay (i:=4) eA.nd rfl (YY rfl) (aU (eG K) (pv 3) ah (fun _ _=>rfl)))
  (af (ay (i:=5) eA.nd rfl (YY rfl) (aw bw (pv 2) (ak (eE K) rfl T.n_len (by rfl) (aa (bP hu (aX (pI K rfl) rfl cw (by rfl) (aa (aU (eG K) (pv 0) ah (fun _ _=>rfl)) ae)) (pv 4) (fun _ _=>rfl)) ae))))
  (af (aV (ax (kW K cK) (pv 4) aq (aE _)) (af (ay (i:=6) eA.nd rfl (YY rfl) (dg (ax oU (aw bw (pv 5) ah) (ak (eE K) rfl T.n_len (by rfl) (aa (pv 1) ae)) (aE _)) (aA (qO.mono ∅) hr rfl (aa (pv 1) (aa (pv 5) ae))) a9))
  (ag (ao (dg (ax lY (pv 6) a9 (aE _)) a9 (bK (aa (bK (aa (pv 4) (aa (aU (eG K) (pv 6) ah (fun _ _=>rfl)) ae))) (aa (aU (eG K) (pv 6) ah (fun _ _=>rfl)) ae))))))) aB)
  (af (ay (i:=7) eA.nd rfl (YY rfl) (aA (pY.mono ∅) hr rfl (aa (pv 0) (aa (pv 1) (aa (pv 5) (aa (Ef NX (JO (gL aq ah (gL aq ah (gL aq ah (gL aq ah (gL aq ah zI))))) rfl rfl ∅ ∅) (pv 4) ah ⟨rfl,rfl,rfl,rfl⟩) ae))))))
  (af (aV (ax lY (pv 7) a9 (aE _)) (ag (ao a9)) aB)
  (af (yV (i:=8) (j:=5) rfl eA.nd rfl rfl ∅ rfl rfl (aa (aw (NC K) (bK (aa (pv 4) ae)) (aU (eG K) (pv 7) ah (fun _ _=>rfl))) (aa (aU (eG K) (pv 7) ah (fun _ _=>rfl)) ae)) rfl)
  (af (aV (ax (LP K) (pv 4) (bK (aa aq (aa aq (aa aq (aa aq (aa aq ae)))))) (by with_unfolding_all rfl)) (ag (ao (bK (aa (pv 8) (aa (pv 5) ae))))) aB)
  (af (ay (i:=6) eA.nd rfl (YY rfl) (dg (ax (kW K cK) (pv 4) aq (aE _)) (aA (qQ.mono ∅) hr rfl (aa (pv 0) (aa (pv 1) (aa (pv 5) ae)))) (aA (mv.mono ∅) hr rfl (aa (pv 0) (aa (pv 1) (aa (pv 5) (aa (pv 4) ae)))))))
  (ag (ao (dg (ax lY (pv 6) a9 (aE _)) a9 (bK (aa (aw (NC K) (pv 8) (bK (aa (aU (eG K) (pv 6) ah (fun _ _=>rfl)) ae))) (aa (aU (eG K) (pv 6) ah (fun _ _=>rfl)) ae)))))))))))))))),?_⟩
 obtain⟨r1,r2,r3,hl,hD⟩:=hP.ex;refine⟨_,rfl,.inl ⟨lp,_,0,r1,rfl,rfl,hl,rfl,_,rfl,_,rfl,r1,Fo.b1,t,p,rfl,gG (j:=0) hD rfl rfl,k1,hp,ht,fun np H1 s1 hn0 xw=>gn ?_⟩⟩;have xw:H1 np=some (.lst (QG (qG Fo.b1 t p))):=xw;have qB:∀q,qG Fo.b1 t p=some q->q.1∈aD:=fun q hq=>fr.g.n1.mem_iff.mp (Ui (dB hq).1);refine⟨_,rfl,by show 0<=KE;decide,fun ep H2 n2=>FC (n2.same _ _ xw) n2.at (fun q hq=>Us _ (qB q hq)) ?_⟩;have s2:=s1.trans n2.same;have xJ:=n2.same _ _ xw;unfold eX nameA at q;cases ea:qG Fo.b1 t p with
 | none=>
  rw[ea] at q;exact⟨_,rfl,bA (q _ _ s2 rfl)⟩
 | some z=>
  rw[ea] at xJ q;obtain⟨hz1,hz2⟩:=uu Qi ea;have he:=sZ hp ea;have JU:=qB z ea;refine⟨_,rfl,bj ?_⟩;dsimp only[bZ];refine⟨_,rfl,.inl ⟨np,_,0,.str z.1,rfl,rfl,bg.of xJ,rfl,gn ?_⟩⟩;refine⟨_,rfl,Mn (i:=0) (hP.same s2) rfl k1 Qi hz1 rfl (fun H' Qk s' qk=>⟨_,rfl,qk⟩) fun H3 s3 =>.inl ⟨_,_,rfl,rfl,gn ?_⟩⟩;rw[hz2];have s3:=s2.trans s3;have q:∀v H',ar H H'->(match ((bD Fo (mI z.1) t (p+z.2.length)).map fun y=>((z.1,y.1),y.2)) with
   | none=>v = .non
   | some r=>∃tp bp,v = .ref tp/\aY K H' tp [.ref bp,.int (r.2:Nat)]/\aY K H' bp (.str r.1.1::r.1.2.map Arg.v))->Q v H':=q
  generalize hee:p+z.2.length=e at he q;have L9:(p:Int)+(z.2.length:Int)=(e:Nat):=by lia
  rw[L9];clear L9 hee ea xJ xw n2 s1 s2 hz1 hz2 qB hl hD;obtain⟨wd,zc⟩:=z;have SE:=hP.same s3;dsimp only at q JU ⊢;clear hP hp
  by_cases hsk:wd = "skip"
  ·subst hsk;refine⟨_,rfl,.inl ⟨rfl,_,rfl,mX ?_⟩⟩;have ek:bD Fo (mI "skip") t e=(gH t e).map fun r=>([.ma r.1],r.2):=by
    have:mI "skip" = [W1 "many"]:=∅;rw[this];show(cq Fo "many" t e).bind (fun r=>some ([r.1],r.2))=_;have:cq Fo "many" t e=(gH t e).map fun r=>(.ma r.1,r.2):=by
     unfold cq;rw[if_neg ∅,if_neg ∅,if_pos rfl]
    rw[this];cases gH t e<;>rfl
   rw[ek] at q;refine ip (te:=Nu _ _ _) (fun v H'=>ar H3 H'/\BK K H' v ((gH t e).map fun r=>(.int (r.1:Nat),r.2))) (fun Qn qn =>?_) ?_
   ·refine⟨_,rfl,.inl ⟨_,_,rfl,rfl,_,rfl,_,_,rfl,⟨hz,rfl⟩,_,_,rfl,rfl,_,rfl,?_⟩⟩;refine fq (fun c =>?_) (fun c =>?_)
    ·have c:(e:Int)+3<=((t.length:Nat):Int):=of_decide_eq_true c;exact⟨_,rfl,_,rfl,t,e,rfl,hb,⋯,ht,fun v H' s' h'=>qn _ _ ⟨s',h'⟩⟩
    ·have c:¬(e:Int)+3<=((t.length:Nat):Int):=fun z=>c (decide_eq_true z);refine qn _ _ ⟨ar.refl _,?_⟩;have:gH t e=none:=by
      unfold gH;rw[mf hb he,if_neg ⋯];rfl
     rw[this];rfl
   rintro v H4 ⟨s4,h4⟩;refine gn ?_;refine⟨_,rfl,.inl ⟨rfl,_,rfl,?_⟩⟩;cases em:gH t e with
   | none=>
    rw[em] at h4 q;have h4:v = .non:=h4;subst h4;rw[decide_eq_true rfl];exact bA (q _ _ (s3.trans s4) rfl)
   | some r=>
    rw[em] at h4 q;obtain⟨tp,rfl,h4⟩:=h4;rw[decide_eq_false (nofun)];refine bj ⟨_,rfl,_,rfl,.inr (.inl ⟨tp,_,0,_,rfl,rfl,h4,rfl,by show 2<=KE;decide,fun bp H5 n5=>⟨_,rfl,.inr (.inl ⟨tp,_,1,_,rfl,rfl,n5.same.bO h4,rfl,by show 2<=KE;decide,fun tq H6 n6 =>?_⟩)⟩⟩)⟩;exact q _ _ (s3.trans (s4.trans (n5.same.trans n6.same))) ⟨tq,bp,rfl,aY.of n6.at,aY.of (n6.same _ _ n5.at)⟩
  rw[yo wd JU hsk,kn,nO] at q;refine⟨_,rfl,.inl ⟨rfl,_,rfl,fP ?_ (beq_eq_false_iff_ne.mpr hsk)⟩⟩;dsimp only[bZ];refine⟨_,rfl,_,rfl,_,rfl,fun dp H4 n4=>⟨n4.at,NO,rfl,∅,fun H5 c5=>⟨dp,rfl,.inl ⟨_,.inl c5.at⟩,_,rfl,_,eV.k (k := .inr wd) c5.at,?_⟩⟩⟩;rw[K9 wd JU];have s5:ar H3 H5:=fun a o z=>by rw[c5.ne (aH z n4.nn)];exact n4.same _ _ z
  have Qs:=Nf wd;generalize P7 wd=n at Qs q ⊢;refine⟨lp,Fo,t,e,n,rfl,SE.same s5,fr,Qs,he,ht,fun v H6 s6 h6=>gn ?_⟩;have s6:=s5.trans s6;refine⟨_,rfl,.inl ⟨rfl,_,rfl,?_⟩⟩;cases esp:bU Fo.b2 t n e with
  | none=>
   rw[esp] at h6 q;have h6:v = .non:=h6;subst h6;rw[decide_eq_true rfl];exact bA (q _ _ (s3.trans s6) rfl)
  | some sr=>
   rw[esp] at h6 q;obtain⟨tp,fp,rfl,h6,h6f⟩:=h6;have MP:=sE he esp;rw[decide_eq_false (nofun)];refine bj ?_;dsimp only[bZ];refine fk (t:=NV _ _ _) (fun σ H'=>∃gp,σ=[some (.ref lp),some (.str t),some (.int (p:Nat)),some (.ref np),some (.str wd),some (.int (sr.2:Nat)),none,some (.ref tp),some (.ref gp)]/\ar H6 H'/\aY K H' gp (.str wd::sr.1.map V.str)) (fun Nx nx =>?_) ?_
   ·refine⟨_,rfl,by show 1<=KE;decide,fun wp H7 n7=>⟨_,rfl,.inr (.inl ⟨tp,_,0,.ref fp,rfl,rfl,n7.same.bO h6,rfl,?_⟩)⟩⟩;have sl:sr.1.length<=2:=Jg (QbB (nj esp)) Qs;refine⟨wp,fp,_,_,rfl,rfl,aY.of n7.at,n7.same.bO h6f,?_,(nofun),fun z =>?_,fun _ gp H8 n8 =>?_⟩
    ·rw[Jd];show 1+sr.1.length<=100000;lia
    ·refine⟨_,rfl,.inr (.inl ⟨tp,_,1,_,rfl,rfl,n7.same.bO h6,rfl,_,_,rfl,nx _ _ ⟨wp,rfl,n7.same,?_⟩⟩)⟩;rw[z];exact aY.of n7.at
    ·exact⟨_,rfl,.inr (.inl ⟨tp,_,1,_,rfl,rfl,n8.same.bO (n7.same.bO h6),rfl,_,_,rfl,nx _ _ ⟨gp,rfl,n7.same.trans n8.same,aY.of n8.at⟩⟩)⟩
   rintro σ H7 ⟨gp,rfl,s7,h7⟩;have s7:=s6.trans s7;refine⟨_,rfl,by show 5<=KE;decide,fun t4 H8 n8=>⟨t4,xP.map V.str,rfl,.inr (aY.of n8.at),rfl,rfl,_,rfl,?_⟩⟩;rw[if_pos rfl,oI];have s8:=s7.trans n8.same;have h8:=n8.same.bO h7;have q:∀v H',ar H H'->(match ((bD Fo (M3 wd) t sr.2).map fun z=>(sr.1.map Arg.sp++z.1,z.2)).map fun y=>((wd,y.1),y.2) with
    | none=>v = .non
    | some r=>∃tp bp,v = .ref tp/\aY K H' tp [.ref bp,.int (r.2:Nat)]/\aY K H' bp (.str r.1.1::r.1.2.map Arg.v))->Q v H':=q
   generalize hsr:sr.2=e2 at q MP ⊢
   rcases GW wd JU with ⟨c1,c2⟩|⟨c1,c2⟩
   ·rw[c1];rw[c2] at q;refine bA ⟨_,rfl,_,rfl,by show 2<=KE;decide,fun tq H9 n9=>q _ _ (s3.trans (s8.trans n9.same)) ⟨tq,gp,rfl,aY.of n9.at,?_⟩⟩;show aY K H9 gp (.str wd::(sr.1.map Arg.sp++[]).map Arg.v);rw[Uu,Ym];exact n9.same.bO h8
   ·rw[c1];refine bj ?_;dsimp only[bZ];obtain⟨k,ek,kf⟩:∃k,M3 wd=[k]/\((wd = "set" /\ k = "number")\/(wd ≠ "set" /\ k=if ky wd=true then W1 "far" else W1 "near")):=by
     rcases c2 with ⟨a,b⟩|⟨a,b⟩
     ·exact⟨_,b,.inl ⟨a,rfl⟩⟩
     ·exact⟨_,b,.inr ⟨a,rfl⟩⟩
    rw[ek,CH] at q;refine ip (te:=Nu _ _ _) (fun v H'=>ar H8 H'/\BK K H' v ((cq Fo k t e2).map fun r=>(r.1.v,r.2))) (fun Qn qn =>?_) ?_
    ·refine⟨_,rfl,.inl ⟨rfl,_,rfl,?_⟩⟩
     rcases kf with ⟨rfl,rfl⟩|⟨BZ,rfl⟩
     ·refine mX ⟨_,rfl,_,rfl,_,rfl,lp,Fo,t,e2,rfl,SE.same s8,fr,hb,MP,ht,fun v H' s' h'=>qn _ _ ⟨s',?_⟩⟩;have:cq Fo "number" t e2=(oj Fo.b3 t e2).map fun r=>(.nu r.1,r.2):=by
       unfold cq;rw[if_neg ∅,if_pos rfl]
      rw[this,Qaj];exact h'
     ·refine fP ?_ (beq_eq_false_iff_ne.mpr BZ);refine⟨_,rfl,_,rfl,_,rfl,_,rfl,lp,Fo,t,e2,wd,rfl,SE.same s8,fr,hb,MP,ht,fun v H' s' h'=>qn _ _ ⟨s',?_⟩⟩;unfold PX at h';unfold cq
      by_cases hf:ky wd=true
      ·rw[if_pos hf] at h';rw[if_pos hf,if_neg ∅,if_neg ∅,if_neg ∅,if_neg ∅,Qaj];exact h'
      ·rw[if_neg hf] at h';rw[if_neg hf,if_neg ∅,if_neg ∅,if_neg ∅,if_pos rfl,Qaj];exact h'
    rintro v H9 ⟨s9,h9⟩;refine gn ?_;have TR:=s8.trans s9;refine⟨_,rfl,.inl ⟨rfl,_,rfl,?_⟩⟩;cases em:cq Fo k t e2 with
    | none=>
     rw[em] at h9 q;have h9:v = .non:=h9;subst h9;rw[decide_eq_true rfl];exact bA (q _ _ (s3.trans TR) rfl)
    | some r=>
     rw[em] at h9 q;obtain⟨rp,rfl,h9⟩:=h9;rw[decide_eq_false (nofun)];have sl:sr.1.length<=2:=Jg (QbB (nj esp)) Qs;refine bj ⟨_,rfl,_,rfl,.inr (.inl ⟨rp,_,0,_,rfl,rfl,h9,rfl,by show 1<=KE;decide,fun ap H10 n10 =>?_⟩)⟩;refine⟨gp,ap,_,_,rfl,rfl,n10.same.bO (s9.bO h8),aY.of n10.at,?_,(nofun),(nofun),fun _ bp H11 n11 =>?_⟩
     ·show(List.map V.str sr.1).length+1+1<=100000;rw[Jd];lia
     refine⟨_,rfl,.inr (.inl ⟨rp,_,1,_,rfl,rfl,n11.same.bO (n10.same.bO h9),rfl,by show 2<=KE;decide,fun tq H12 n12 =>?_⟩)⟩;refine q _ _ (s3.trans (TR.trans (n10.same.trans (n11.same.trans n12.same)))) ⟨tq,bp,rfl,aY.of n12.at,?_⟩;show aY K H12 bp (.str wd::(sr.1.map Arg.sp++[r.1]).map Arg.v);rw[J0,Ym];exact aY.of (n12.same _ _ n11.at)
end
def jf {x y:Str}(hx:dJ x)(hy:dJ y):dJ (x++y):=fun c hc=>by
 rw[aK] at hc;exact(Ub.mp hc).elim (hx c) (hy c)
def mw:∀{xs:List Str},(∀x∈xs,dJ x)->dJ (Qad "" xs)
 | [],_=>fun c hc=>nomatch hc
 | x::xs,h=>by
  rw[join_cons];exact jf (h x Jm) (mw fun y hy=>h y (Jj _ hy))
def B7 {x:Str}(h:fR x cW=true):dJ x:=fun c hc=>by
 rw[iY,U1] at h;have:=h c hc;rw[show cW.cps = #[48,49] by decide +kernel] at this;simpa using this
def yM {ns:List Str}{bk:List (Str×Str)}(h:cU ns (aQ bk)=true):∀q∈bk,dJ q.2:=by
 unfold cU at h;rw[Js,Js] at h;obtain⟨_,hq⟩:=oP h.1;rw[show cQ (iA (aQ bk))=bk from iC bk] at hq;intro q m;have h4:(!decide (V.str q.2=V.str (W1 ""))&&fR q.2 cW)=true:=(hq q m).2;rw[Js] at h4;exact B7 h4.2
def Hq {F:Fb}(fr:kB F){a:Arg}(ok:a.ok){x:Str}(e:ij F a=some x):dJ x:=by
 obtain⟨h1,h2,h3⟩:=pq fr.g.why;have UD:∀{d k},nW d k=some x->dJ x:=fun{d k} e=>by
  unfold nW at e
  split at e
  ·cases e;exact my _ _
  ·cases e
 cases a with
 | sp y=>cases e;exact yM h2 _ (m7 (fr.n2.mem_iff.mpr ok))
 | nu n=>
  cases e;have hb:=xu (n:=n) ok;rw[rE];have i2:∀b,b<9->aO.getD b Zt∈aO:=∅;exact jf (yM h3 _ (m7 (fr.n3.mem_iff.mpr (i2 (dX n) ⋯)))) (my _ _)
 | ma n=>
  cases e;have hn:n<=7:=ok;have hz:=(vN (n:=n) (c:=QaZ (W1 "0") (n:Nat)) ⋯).mp rfl;refine jf (my _ _) fun c hc =>?_;have hc:c∈sg (QaZ (W1 "0") (n:Nat)):=hc;rw[hz] at hc;exact .inl (List.eq_of_mem_replicate hc)
 | ne d=>exact UD e
 | fa d=>exact UD e
def qo {F:Fb}:∀{as:List Arg},(∀a∈as,(ij F a).isSome=true)->∃ts,eC F as=some ts
 | [],_=>⟨[],rfl⟩
 | a::as,h=>by
  obtain⟨x,hx⟩:=Option.isSome_iff_exists.mp (h a Jm);obtain⟨ts,ht⟩:=qo fun b hb=>h b (Jj _ hb);refine⟨x::ts,?_⟩;show(match ij F a with|none=>none|some x=>(eC F as).map (x :: ·))=_;rw[hx,ht];rfl
def G4 {F:Fb}(fr:kB F){w:Str}{as:List Arg}(ba:y3 w as)(h:∀a∈as,(ij F a).isSome=true):∃x,o9 F w as=some x/\dJ x/\1<=x.length/\x.length<=200:=by
 obtain⟨h1,h2,h3⟩:=pq fr.g.why;obtain⟨q,hq,ew,ek⟩:=ba.pt;have Lx:w∈F.b1.map (·.1):=fr.g.n1.mem_iff.mpr (by rw[ew];exact(gO q hq).1);have cm:=m7 Lx;obtain⟨ts,e⟩:∃ts,eC F as=some ts:=qo h;obtain⟨tl,tsum⟩:=vV fr ba.ok e;have al:=(gO q hq).2;rw[<-ek,Jd] at al;have c1:=fr.c1 w;have c0:=(fr.IV.1.cd _ cm).1;have c0:1<=(bh F.b1 w).length:=c0;refine⟨_,by unfold o9;rw[e];rfl,mw fun x hx =>?_,?_,?_⟩
 ·rcases Jq.mp hx with rfl|hx
  ·exact yM h1 _ cm
  ·obtain⟨i,hi⟩:=J4.mp hx;obtain⟨l,m⟩:=zY e;have il:=(Ji.mp hi).1;have Qv:as[i]? = some as[i]:=Jc ⋯;obtain⟨y,hy,ey⟩:=m i _ Qv;rw[hi] at hy;cases hy;exact Hq fr (ba.ok _ (Ug _)) ey
 ·rw[eT,Jz,Yq];lia
 ·rw[eT,Jz,Yq];lia
def Fg {x:Str}(hx:sg x=[48,49]\/sg x=[49,48]){r:Int}(h0:0<=r)(h1:r<2):∃c,vp x.cps.toList r=some c/\dJ (⟨#[c]⟩:Str):=by
 have hr:r=0\/r=1:=by lia
 have b0:dJ (⟨#[48]⟩:Str):=by unfold dJ;decide +kernel
 have b1:dJ (⟨#[49]⟩:Str):=by unfold dJ;decide +kernel
 have hx:x.cps.toList=[48,49]\/x.cps.toList=[49,48]:=hx
 rcases hx with hx|hx<;>rw[hx]<;>rcases hr with rfl|rfl
 ·exact⟨48,rfl,b0⟩
 ·exact⟨49,rfl,b1⟩
 ·exact⟨49,rfl,b1⟩
 ·exact⟨48,rfl,b0⟩
def Hv {r:Int}(h0:0<=r)(h1:r<5):∃u:Str,([V.str "",V.str "0",V.str "1",V.str "00",V.str "011"]:List V)[r.toNat]? = some (.str u)/\dJ u/\u.length<=3:=by
 have hr:r=0\/r=1\/r=2\/r=3\/r=4:=by lia
 rcases hr with rfl|rfl|rfl|rfl|rfl
 ·exact⟨"",rfl,(by unfold dJ;decide +kernel),∅⟩
 ·exact⟨"0",rfl,(by unfold dJ;decide +kernel),∅⟩
 ·exact⟨"1",rfl,(by unfold dJ;decide +kernel),∅⟩
 ·exact⟨"00",rfl,(by unfold dJ;decide +kernel),∅⟩
 ·exact⟨"011",rfl,(by unfold dJ;decide +kernel),∅⟩
def Az {x:Str}{p:Nat}(h:p<=x.length):sg (Zi x (some (p:Int)) none)=(sg x).drop p:=by
 rw[QcV (b:=(x.length:Int)) ⋯ ⋯ rfl];show(((sg x).drop (p:Int).toNat).take ((x.length:Int)-p).toNat).toArray.toList=_;rw[Qbt,Uv]
 ·rfl
 ·rw[Uj,<-str_len];lia
def tX {c:Nat}(h:c=48\/c=49):dJ (⟨#[c]⟩:Str):=fun ch hc=>by
 have:ch=c:=by simpa using hc
 rw[this];exact h
def GD {c:Nat}(h:c=48\/c=49):PySem.intText? (⟨#[c]⟩:Str)=some (((c-48:Nat):Int))/\∃d,vp (W1 "10").cps.toList ((c-48:Nat):Int)=some d/\dJ (⟨#[d]⟩:Str):=by
 rcases h with rfl|rfl
 ·exact⟨∅,49,∅,tX (.inr rfl)⟩
 ·exact⟨∅,48,∅,tX (.inl rfl)⟩
def tT {n:Nat}:∀{xs:List Str},(∀x∈xs,x.length<=n)->(xs.map fun x=>x.length).sum<=n*xs.length
 | [],_=>Je _
 | x::xs,h=>by
  have h1:=h x Jm;have h2:=tT fun y hy=>h y (Jj _ hy);rw[Jz,Yq,Jn,Qe0];lia
def sY:∀{xs:List Str},(∀x∈xs,1<=x.length)->xs.length<=(xs.map fun x=>x.length).sum
 | [],_=>Je _
 | x::xs,h=>by
  have h1:=h x Jm;have h2:=sY fun y hy=>h y (Jj _ hy);rw[Jz,Yq,Jn];lia
def JE (K:Ja):Sp:=fun vs H Q _=>vY fun(b c:Gc) (t:Int) (lp:Gc) (F:Fb)=>vs=[.ref b,.ref lp]/\Bx H b c t/\0<=t/\t<80000000/\iG K (ig H b c) lp F/\kB F /\
 ∀(x:Str) (H':Hp) (t':Int),dJ x->x.length<=2000->Step b c H H' t t' 200->Q (.str x) H'
section
variable {P:YZ}{w:Zb}{K:Ja}{mg:Str->Option Fk}{base:Heap}{f:Gc}{fd:Zc}
def fM:aG ["_law_state", "_law_parts_here", "_law_text_here", "_law_rows", "_law_way", "_law_at_here"] ["_law_state", "_law_parts_here"] (ai (top kZ)):=⟨rfl,rfl,rfl,∅,rfl,∅,∅⟩
def Ml (F:dM K "_law_text" "_law_text" (top kZ) f fd)(T:Nm mg)(aM:Fn P w K mg base 1 "_law_take" ["_law_state", "_law_many"] vR)(CK:Fn P w K mg base 2 "_law_put" ["_law_parts_here", "_law_bare"] (P8 K))(om:Fn P w K mg base 2 "_law_some_bare" ["_law_state", "_law_parts_here", "_law_beyond"] (OK K)):aW P w K mg base dI 3 f fd ["_law_state", "_law_parts_here"] (JE K):=by
 refine F.ok fM (fun vs H Q E h =>?_) (fun bS A outer s H vs Q E hr h =>?_)
 ·obtain⟨b,c,t,lp,Fo,rfl,_⟩:=h
  rfl
 obtain⟨b,c,t,lp,Fo,rfl,bx,t0,t1,hP,fr,q⟩:=h;have cK:=hr.units;refine⟨_,(af (aV (ax (kW K cK) (aA (aM.mono ∅) hr rfl (aa (pv 0) (aa ah ae))) ah (aE _)) (ag (ay (i:=2) fM.nd rfl (YY rfl) (uN K Zz Qa5 Qa4 (zV K) aq (aa (fH rfl (cS (Nc:=["_law_k"]) (Fc:=["_law_state"]) (js:=[0])) (eg rfl T.n_range (aa ah ae)) (bG (i:=0) (n:=1) ∅) (fun _ _ _ _ _=>(aI (i:=0) (rn ["_law_k", "_law_state"]) rfl (YY rfl))) (fun _ _ _ _ _=>dU) (fun _ _ _ _ _=>(aU (eG K) aq (aA (aM.mono ∅) hr rfl (aa (pv 1) (aa ah ae))) (fun _ _=>rfl)))) ae)))) (af (kR (i:=3) fM.nd rfl (YY rfl) rfl (cS (Nc:=["_law_k"]) (Fc:=["_law_parts_here", "_law_state"]) (js:=[1,0])) (eg rfl T.n_range (aa (aw bw ah (aA (aM.mono ∅) hr rfl (aa (pv 0) (aa ah ae)))) ae)) (bG (i:=0) (n:=1) ∅) (fun _ _ _ _ _=>(aI (i:=0) (rn ["_law_k", "_law_parts_here", "_law_state"]) rfl (YY rfl))) (fun _ _ _ _ _=>dU) (fun _ _ _ _ _=>(aA (CK.mono ∅) hr rfl (aa (pv 1) (aa (aA (om.mono ∅) hr rfl (aa (pv 2) (aa (pv 1) (aa ah ae)))) ae)))))
  (ag (ay (i:=2) fM.nd rfl (YY rfl) (aw bw (uN K Zz Qa5 Qa4 (zV K) aq (aa (pv 3) ae)) (aU (eG K) (gE (aa aq (aa aq (aa aq (aa aq (aa aq ae)))))) (aA (aM.mono ∅) hr rfl (aa (pv 0) (aa ah ae))) (fun _ _=>rfl)))))))
  (af (yV (i:=4) (j:=5) rfl fM.nd rfl rfl ∅ rfl rfl (aa (aA (aM.mono ∅) hr rfl (aa (pv 0) (aa ah ae))) (aa (aA (aM.mono ∅) hr rfl (aa (pv 0) (aa (ak (eE K) rfl T.n_len (by rfl) (aa (pv 2) ae)) ae))) ae)) rfl)
  (af (aV (ax Aq (pv 4) ah (aE _)) (ag (ao (pv 2))) aB)
  (ag (ao (aw bw (aw bw (bL (DK K) (pv 2) iV (bz (pv 5))) (aU (eG K) (gE (aa (aU (eG K) aq (aX NH rfl T.n_int (by rfl) (aa (aU (eG K) (pv 2) (pv 5) (fun _ _=>rfl)) ae)) (fun _ _=>rfl)) (aa aq (aa (aw bw (aU (eG K) (pv 2) (pv 5) (fun _ _=>rfl)) (aU (eG K) aq (aA (aM.mono ∅) hr rfl (aa (pv 0) (aa ah ae))) (fun _ _=>rfl))) ae)))) (pv 4) (fun _ _=>rfl))) (bL (DK K) (pv 2) (bz (aw bw (pv 5) ah)) iV))))))),?_⟩
 refine fk (t:=Ij _ _ _) (fun σ H'=>∃(x:Str) (x3:Option V) (t':Int),σ=[some (.ref b),some (.ref lp),some (.str x),x3,none,none]/\dJ x/\1<=x.length/\x.length<=1300/\Step b c H H' t t' 120) (fun Nx nx =>?_) ?_
 ·refine⟨_,rfl,b,c,t,3,rfl,bx,t0,⋯,∅,∅,fun r H1 r0 r1 m5 =>.inl ⟨rfl,_,rfl,?_⟩⟩;have lo1:=m5.le;refine fq (fun _ =>?_) (fun _ =>?_)
  ·refine⟨rfl,40,rfl,∅,∅,?_⟩;refine dS (N:=40) (fun i ys H'=>∃(xs:List Str) (t':Int),ys=xs.map V.str/\xs.length=i/\(∀x∈xs,dJ x/\x.length=1)/\Step b c H H' t t' (1+i)) ⟨[],_,rfl,rfl,(fun _ h=>nomatch h),m5.more ⋯⟩ ?_ ?_
   ·rintro i ys H' Ny hi ⟨xs,t',rfl,rfl,hx,st'⟩ ny;have VB:=st'.le;have X7:=st'.ub;refine⟨hi,by rw[Jd];exact Wg hi ∅,?_⟩;rintro x' H3 ⟨rfl,rfl⟩;refine gn ⟨_,rfl,b,c,t',2,rfl,st'.bx,⋯,⋯,∅,∅,fun r H4 r0 r1 eY =>?_⟩;obtain⟨ch,e,hb⟩:=Fg (x := "01") (.inl ∅) r0 r1;refine .inr (.inr ⟨_,_,ch,rfl,rfl,∅,e,ny _ _ ⟨xs++[⟨#[ch]⟩],_,by rw[J0];rfl,by rw[Jt];rfl,fun x mQ =>?_,(st'.trans eY).more (by push_cast;lia)⟩⟩)
    rcases Ub.mp mQ with h|h
    ·exact hx x h
    ·rw[Ju.mp h];exact⟨hb,rfl⟩
   ·rintro ys H' ⟨xs,t',rfl,hl,hx,st'⟩;have s1:=tT fun x h=>QbB (hx x h).2;have s2:=sY fun x h=>QbB (hx x h).2.symm;refine⟨by show _<=_;lia,fun pv hpv=>⟨_,pv,xs,rfl,rfl,bg.of av,by show(xs.map fun x=>x.length).sum+_*0<=16777216;lia,gn (nx _ _ ⟨_,_,_,rfl,mw fun x h=>(hx x h).1,by rw[eT];lia,by rw[eT];lia,(st'.trans (Step.same st'.bx (bE hpv _))).more ⋯⟩)⟩⟩
  ·refine ip (te:=Fe _ _ _ _ _ _) (fun v H'=>∃(rp:Gc) (xs:List Str) (t':Int),v = .ref rp/\H' rp=some (.lst (xs.map V.str))/\rp≠b/\rp≠c/\1<=xs.length/\xs.length<=6/\(∀x∈xs,dJ x/\1<=x.length/\x.length<=200)/\Step b c H H' t t' 80) (fun Qn qn =>?_) ?_
   ·refine⟨_,rfl,b,c,_,6,rfl,m5.bx,⋯,⋯,∅,∅,fun r2 H2 r20 r21 fB =>.inl ⟨_,_,rfl,rfl,_,rfl,⋯,⋯,?_⟩⟩;have fB:=m5.trans fB;refine dS (N:=(1+r2).toNat) (fun i ys H'=>∃(xs:List Str) (t':Int),ys=xs.map V.str/\xs.length=i/\(∀x∈xs,dJ x/\1<=x.length/\x.length<=200)/\Step b c H H' t t' (2+11*i)) ⟨[],_,rfl,rfl,(fun _ h=>nomatch h),fB.more ⋯⟩ ?_ ?_
    ·rintro i ys H' Ny hi ⟨xs,t',rfl,rfl,hx,st'⟩ ny;have VB:=st'.le;have X7:=st'.ub;refine⟨hi,by rw[Jd];exact J7 (show _<=6 by lia) ∅,?_⟩;rintro x' H3 ⟨rfl,rfl⟩;refine gn ⟨_,rfl,_,rfl,_,rfl,b,c,t',lp,Fo,0,rfl,∅,st'.bx,⋯,⋯,hP.same st'.sm,fr,fun p w as H4 t4 ba wr hp pb pc eY =>?_⟩;have eY:=st'.trans eY;obtain⟨x,ex,bx',lx1,lx2⟩:=G4 fr ba (wr rfl);refine⟨lp,p,Fo,w,as,rfl,(hP.same eY.sm).same FZ,fr,ba,aY.of hp,fun H5 s5 =>?_⟩;rw[ex];refine ny _ _ ⟨xs++[x],t4,by rw[J0];rfl,by rw[Jt];rfl,fun y hy =>?_,(eY.trans (Step.same eY.bx s5)).more (by push_cast;lia)⟩
     rcases Ub.mp hy with h|h
     ·exact hx y h
     ·rw[Ju.mp h];exact⟨bx',lx1,lx2⟩
    ·rintro ys H' ⟨xs,t',rfl,hl,hx,st'⟩;refine⟨by show _<=_;lia,fun pv hpv=>qn _ _ ⟨pv,xs,t',rfl,av,(st'.bx.aR hpv).1,(st'.bx.aR hpv).2,⋯,⋯,hx,(st'.trans (Step.same st'.bx (bE hpv _))).more ⋯⟩⟩
   rintro v H2 ⟨rp,xs,t2,rfl,hrp,rb,rc,l1,l6,hx,fB⟩;refine gn ?_;have Vg:=fB.le;have Tf:=fB.ub;have s1:=tT fun x h=>(hx x h).2.2;have s2:=sY fun x h=>(hx x h).2.1;refine⟨rfl,_,rfl,_,rp,xs,rfl,rfl,bg.of hrp,by show(xs.map fun x=>x.length).sum+_*0<=16777216;lia,by show 5<=KE;decide,fun l5 H5 n5=>⟨_,rfl,b,c,_,5,rfl,fB.bx.same n5.same,⋯,⋯,∅,∅,fun r6 H6 r60 r61 kG =>?_⟩⟩;obtain⟨lb,lc⟩:=fB.bx.aR n5.nn;have Qe:=kG.old n5.at lb lc;obtain⟨u,hu,bu,lu⟩:=Hv r60 r61;refine .inl ⟨l5,_,r6,.str u,rfl,rfl,bg.of Qe,gT r60 hu,.inr (.inl ⟨_,_,rfl,rfl,?_,gn (nx _ _ ⟨_,_,_,rfl,jf (mw fun x h=>(hx x h).1) bu,?_,?_,((fB.dN n5).trans kG).more ⋯⟩)⟩)⟩
   ·rw[eT];exact Jg (show _<=2000 by lia) ∅
   ·rw[Zn,eT];lia
   ·rw[Zn,eT];lia
 rintro σ H2 ⟨x,x3,t2,rfl,hb,Lx,hx2,fB⟩;have Vg:=fB.le;have Tf:=fB.ub;refine⟨_,rfl,b,c,t2,6,rfl,fB.bx,⋯,⋯,∅,∅,fun r3 H3 r30 r31 dZ =>?_⟩;refine⟨_,rfl,_,rfl,_,_,rfl,⟨Jg hx2 ∅,rfl⟩,b,c,_,(x.length:Nat),rfl,dZ.bx,⋯,⋯,⋯,⋯,fun r4 H4 r40 r41 eY=>⟨_,_,rfl,?_⟩⟩;have eY:=fB.trans (dZ.trans eY);have SJ:=eY.le;have Sj:=eY.ub;refine⟨_,rfl,_,_,rfl,rfl,_,rfl,?_⟩;refine fq (fun _ =>?_) (fun hc =>?_)
 ·exact⟨_,rfl,q x _ _ hb ⋯ (eY.more ⋯)⟩
 have hc:¬(2:Int)<r3:=fun z=>hc (decide_eq_true z);dsimp only[bZ];have hz:x.length<=KE:=Jg hx2 ∅;obtain⟨n,rfl⟩:∃n:Nat,r4=n:=⟨r4.toNat,⋯⟩
 have hn:n<x.length:=by lia
 have F7:(sg x)[n]? = some ((sg x)[n]'(by rw[<-str_len];exact hn)):=Jc _;have sI:=hb _ (Jy F7);generalize (sg x)[n]'_=ch at F7 sI;have Qv:vp x.cps.toList (n:Int)=some ch:=gT ⋯ F7;obtain⟨i1,d,ed,bd⟩:=GD sI;have Wi:=tX sI;have e1:sg (Zi x none (some (n:Int)))=(sg x).take n:=JB ⋯ ⋯;have e2:sg (Zi x (some ((n:Int)+1)) none)=(sg x).drop (n+1):=by
  rw[show((n:Int)+1)=((n+1:Nat):Int) by lia];exact Az ⋯
 have b1:dJ (Zi x none (some (n:Int))):=fun y hy=>hb y (by
  have hy:y∈sg _:=hy;rw[e1] at hy;exact Y2 hy)
 have b2:dJ (Zi x (some ((n:Int)+1)) none):=fun y hy=>hb y (by
  have hy:y∈sg _:=hy;rw[e2] at hy;exact Yo hy)
 have l1:(Zi x none (some (n:Int))).length<=1300:=by
  rw[str_len];show(sg _).length<=_;rw[e1,J6,<-str_len];lia
 have l2:(Zi x (some ((n:Int)+1)) none).length<=1300:=by
  rw[str_len];show(sg _).length<=_;rw[e2,Uj,<-str_len];lia
 clear e1 e2 F7;generalize NX:Zi x none (some (n:Int))=u1 at b1 l1;generalize hu2:Zi x (some ((n:Int)+1)) none=u2 at b2 l2;refine⟨_,rfl,_,rfl,_,rfl,.inr ⟨x,rfl,hz,?_⟩⟩;rw[NX];refine⟨_,rfl,_,rfl,.inr (.inr ⟨x,_,ch,rfl,rfl,hz,Qv,⟨#[ch]⟩,_,rfl,i1,by show 1<=640;decide,.inr (.inr ⟨_,_,d,rfl,rfl,∅,ed,?_⟩)⟩)⟩;refine⟨_,rfl,_,rfl,.inr (.inr ⟨x,_,ch,rfl,rfl,hz,Qv,_,rfl,b,c,_,2,rfl,eY.bx,⋯,⋯,∅,∅,fun r5 H5 r50 r51 cu =>?_⟩)⟩;obtain⟨c2,ec2,bc2⟩:=Fg (x := "01") (.inl ∅) r50 r51;refine .inr (.inr ⟨_,_,c2,rfl,rfl,∅,ec2,.inr (.inl ⟨_,_,rfl,rfl,by show 1+1<=KE;decide,by show 3<=KE;decide,fun l6 H6 n6 =>?_⟩)⟩);have kG:=(eY.trans cu).dN n6;obtain⟨u,eu,bu,lu⟩:∃u:Str,([V.str ⟨#[d]⟩,V.str "",V.str ((⟨#[ch]⟩:Str)++⟨#[c2]⟩)]:List V)[r3.toNat]? = some (.str u)/\dJ u/\u.length<=2:=by
  have:r3=0\/r3=1\/r3=2:=by lia
  rcases this with rfl|rfl|rfl
  ·exact⟨_,rfl,bd,by show 1<=2;decide⟩
  ·exact⟨"",rfl,(by unfold dJ;decide +kernel),∅⟩
  ·exact⟨_,rfl,jf Wi bc2,by rw[Zn];show 1+1<=2;decide⟩
 refine⟨_,rfl,.inl ⟨l6,_,r3,.str u,rfl,rfl,bg.of n6.at,gT r30 eu,.inr (.inl ⟨_,_,rfl,rfl,Jg (show _<=2000 by lia) ∅,?_⟩)⟩⟩;refine⟨_,rfl,_,rfl,.inl ⟨_,_,rfl,rfl,_,rfl,.inr ⟨x,rfl,hz,?_⟩⟩⟩;rw[hu2];have hs:u1.length+u2.length<=1400:=by
  have h1:u1.length=n:=by
   rw[<-NX,str_len];show(sg _).length=_;rw[JB ⋯ ⋯,J6,<-str_len];lia
  have h2:u2.length<=x.length-n:=by
   rw[<-hu2,str_len];show(sg _).length<=_;rw[show((n:Int)+1)=((n+1:Nat):Int) by lia,Az ⋯,Uj,<-str_len];lia
  lia
 refine .inr (.inl ⟨_,_,rfl,rfl,Jg (show _<=2000 by rw[Zn];lia) ∅,q _ _ _ (jf (jf b1 bu) b2) ?_ (kG.more ⋯)⟩);rw[Zn,Zn];lia
end
def uG {a t:Str}{p k:Nat}{r:Nat×Nat}(hb:dJ a)(h:kP a t p k=some r):r.1<2^(a.length+k):=by
 unfold kP at h
 split at h
 ·rename_i c;cases h;have:=oy (l:=sg a++((sg t).drop p).take k) fun x hx=>by
   rcases Ub.mp hx with hx|hx
   ·exact hb x hx
   ·have:=U1.mp c.2 x hx;rw[show cW.cps = #[48,49] by decide +kernel] at this;simpa using this
  rw[Jt,c.1,<-str_len] at this;exact this
 ·cases h
def zu {t:Str}{p k:Nat}{r:Int×Nat}(hk:k<=16)(h:qT t p k=some r):r.1.natAbs<=1000000:=by
 unfold qT at h;obtain⟨z,h1,rfl⟩:=Option.map_eq_some_iff.mp h;have:=uG oH h1;rw[show(("" : Str).length+k)=k by rw[show(W1 "").length=0 from rfl,QeZ]] at this;have p1:2^k<=2^16:=Y1 ∅ hk;have p2:(2:Int)^k=((2^k:Nat):Int):=by push_cast;rfl
 dsimp only
 split<;>lia
def GU {F:Fb}(fr:kB F){k t:Str}{p:Nat}{r:Arg×Nat}(hk:k∈[("spot" : Str), "number", "many", "near", "far"])(h:cq F k t p=some r):r.1.kind=k/\r.1.ok:=by
 have nr:=fr.nr;have ff:=fr.fr;unfold cq at h
 split at h
 ·rename_i e;obtain⟨z,h1,rfl⟩:=Option.map_eq_some_iff.mp h;unfold nameA at h1;obtain⟨q,h2,rfl⟩:=Option.map_eq_some_iff.mp h1;exact⟨e.symm,fr.n2.mem_iff.mp (Ui (dB h2).1)⟩
 split at h
 ·rename_i e;obtain⟨z,h1,rfl⟩:=Option.map_eq_some_iff.mp h;refine⟨e.symm,?_⟩;show z.1<=255;unfold oj at h1;obtain⟨y,h2,h3⟩:=Option.bind_eq_some_iff.mp h1;have hy:=(Ay fr h2).2.2;unfold yQ at h3
  split at h3
  ·cases h3;exact Uq _
  ·have this:=uG (a:=W1 "1") (by unfold dJ;decide +kernel) h3;have p1:2^(1+(aO.idxOf y.1-1))<=2^8:=Y1 ∅ ⋯;have this:z.1<2^(1+(aO.idxOf y.1-1)):=this;lia
 split at h
 ·rename_i e;obtain⟨z,h1,rfl⟩:=Option.map_eq_some_iff.mp h;refine⟨e.symm,?_⟩;show z.1<=7;unfold gH at h1;obtain⟨y,h2,h3⟩:=Option.bind_eq_some_iff.mp h1;have:=uG oH h2;rw[show(("" : Str).length+3)=3 from rfl] at this
  split at h3
  ·cases h3;show y.1<=7;lia
  ·cases h3
 split at h
 ·rename_i e;obtain⟨z,h1,rfl⟩:=Option.map_eq_some_iff.mp h;exact⟨e.symm,zu ⋯ h1⟩
 ·rename_i e1 e2 e3 e4;obtain⟨z,h1,rfl⟩:=Option.map_eq_some_iff.mp h;simp only[Jq,Uk,or_false] at hk
  rcases hk with hk|hk|hk|hk|hk
  ·exact absurd hk e1
  ·exact absurd hk e2
  ·exact absurd hk e3
  ·exact absurd hk e4
  ·exact⟨hk.symm,zu ⋯ h1⟩
def vX {F:Fb}(fr:kB F){t:Str}:∀{ks:List Str} {p:Nat} {r:List Arg×Nat},(∀k∈ks,k∈[("spot" : Str), "number", "many", "near", "far"])->p<=t.length->bD F ks t p=some r->r.1.map Arg.kind=ks/\(∀a∈r.1,a.ok)/\r.2<=t.length
 | [],p,r,_,hp,h=>by cases h;exact⟨rfl,(fun _ h=>nomatch h),hp⟩
 | k::ks,p,r,hk,hp,h=>by
  unfold bD at h;obtain⟨a,h1,h2⟩:=Option.bind_eq_some_iff.mp h;obtain⟨z,h3,h4⟩:=Option.map_eq_some_iff.mp h2;obtain⟨a1,a2⟩:=GU fr (hk k Jm) h1;obtain⟨b1,b2,b3⟩:=vX fr (fun x hx=>hk x (Jj _ hx)) (u5 hp h1) h3;rw[<-h4];refine⟨by rw[Jz,a1,b1],fun x hx =>?_,b3⟩
  rcases Jq.mp hx with rfl|hx
  ·exact a2
  ·exact b2 x hx
def Fz {F:Fb}(fr:kB F){t:Str}{p:Nat}{r:(Str×List Arg)×Nat}(hp:p<=t.length)(h:eX F t p=some r):y3 r.1.1 r.1.2/\r.2<=t.length:=by
 unfold eX at h;obtain⟨z,h1,h2⟩:=Option.bind_eq_some_iff.mp h;obtain⟨y,h3,h4⟩:=Option.map_eq_some_iff.mp h2;have hz:=iJ hp h1;unfold nameA at h1;obtain⟨q,h5,h6⟩:=Option.map_eq_some_iff.mp h1;have hw:z.1∈aD:=by rw[<-h6];exact fr.g.n1.mem_iff.mp (Ui (dB h5).1)
 obtain⟨qq,hq,ew,ek⟩:=wa z.1 hw;rw[ek] at h3;obtain⟨b1,b2,b3⟩:=vX fr (nE qq hq) hz h3;rw[<-h4];exact⟨⟨⟨qq,hq,ew.symm,b1⟩,b2⟩,b3⟩
def zt (K:Ja):Sp:=fun vs H Q _=>∃(a:Gc) (ns:List Int),vs=[.ref a]/\bg K H a (ns.map V.int)/\ns.length<=63/\∀H',Q (.bl true) H'
def BL {K:Ja}{H:Hp}{qb uE uz:List (Str×Str)}{near eU:Int}{v1 v2 v3 v4 v5:V}(g:Good3 qb uE uz near eU)(h:a8 K H [aQ qb,aQ uE,aQ uz,.int near,.int eU] [v1,v2,v3,v4,v5]):uR K H v1 v2 v3 v4 v5 (aQ qb) (aQ uE) (aQ uz) (.int near) (.int eU):=by
 have at':∀(i:Nat) d v,([aQ qb,aQ uE,aQ uz,.int near,.int eU]:List Za)[i]? = some d->([v1,v2,v3,v4,v5]:List V)[i]? = some v->Den K H d v:=fun i d v e1 e2=>gG h e1 e2;have ft:∀{bk:List (Str×Str)},(∀q∈bk,kH q.1=true/\kH q.2=true/\q.1.length<=8/\q.2.length<=11)->bk.length<=11->IY (aQ bk):=fun{bk} sh hl=>
  IY.of (w:=243) (dp:=2) (((zB (w:=22) fun q hq=>by obtain⟨a,b,c,d⟩:=sh q hq;exact⟨a,b,⋯⟩).mono ⋯ (Je _)).list) ∅ ∅ (by show(bk.map fw).length<=60;rw[Jd];lia)
 have h1:=g.l1;have h2:=g.l2;have h3:=g.l3;exact⟨at' 0 _ _ rfl rfl,at' 1 _ _ rfl rfl,at' 2 _ _ rfl rfl,at' 3 _ _ rfl rfl,at' 4 _ _ rfl rfl,ft (fun q hq=>g.sz q (.inl hq)) ⋯,ft (fun q hq=>g.sz q (.inr (.inl hq))) ⋯,ft (fun q hq=>g.sz q (.inr (.inr hq))) ⋯⟩
def ym (bk:List (Str×Str)):M8 (M5 (aQ bk))=true:=by
 show xV (bk.map fw)=true
 induction bk with
 | nil=>rfl
 | cons q bk ih=>
  show(M8 (fw q)&&xV (bk.map fw))=true;rw[ih]
  rfl
def rM {K:Ja}{CF:Gc}{H:Hp}{b c m:Gc}{t:Int}{F:Fb}(bx:Bx H b c t)(mb:m≠b)(mc:m≠c)(h:mi K CF H m F):mi K CF (ig H b c) m F:=by
 obtain⟨dx,w1,w2,w3,w4,w5,e,h1,h2,h3,h4,h5⟩:=h;exact⟨dx,w1,w2,w3,w4,w5,by rw[dH mb mc];exact e,Den.hide bx (ym F.b1) h1,Den.hide bx (ym F.b2) h2,Den.hide bx (ym F.b3) h3,Den.hide bx rfl h4,Den.hide bx rfl h5⟩
section
variable {P:YZ}{w:Zb}{K:Ja}{mg:Str->Option Fk}{base:Heap}{f:Gc}{fd:Zc}{C:Gc}
def qC:aG ["self", "place"] ["self", "place"] (ai (inClass (top mF) 0)):=⟨rfl,rfl,rfl,∅,rfl,∅,∅⟩
def pS (F:dM K "__init__" "BadText.__init__" (inClass (top mF) 0) f fd)(S:mh K C "place"):aW P w K mg base dI 1 f fd ["self", "place"] (zZ C "place"):=by
 refine F.ok qC (fun vs H Q E h =>?_) (fun bS A outer s H vs Q E hr h =>?_)
 ·obtain⟨e,v,rfl,_⟩:=h
  rfl
 obtain⟨e,v,rfl,he,q⟩:=h;refine⟨_,(ag (Ak (pv 0) (pv 1) rfl)),?_⟩;exact⟨_,rfl,_,rfl,e,C,rfl,he,S,fun dx h1 h2=>q dx h1 h2⟩
end
def Oe {F:Fb}(fr:kB F){t:Str}{p:Nat}(hp:p<=t.length)(ht:t.length<=1000000):Gd 1000 2 (Qo (eX F t p) p):=by
 cases e:eX F t p with
 | none=>
  have g1:Gd 201 0 (.str (W1 "text")):=Gd.str ∅ ∅;have g2:Gd 201 0 (.int ((p:Nat):Int)):=Gd.int (kh (show p<=1000000 by lia)) (Je _);exact((Gs.cons g1 (Gs.one g2)).tuple).mono ∅ ∅
 | some r=>
  obtain⟨b,l⟩:=Fz fr hp e;exact LK b _ ⋯
section
variable {P:YZ}{w:Zb}{K:Ja}{mg:Str->Option Fk}{base:Heap}{f:Gc}{fd:Zc}{C CF:Gc}
def ik:aG ["_law_script", "_law_state", "_law_turn", "_law_parts_here", "_law_form_here", "_law_text_here", "_law_place", "_law_due"] ["_law_script"] (ai (top iH)):=⟨rfl,rfl,rfl,∅,rfl,∅,∅⟩
def LV (F:dM K "law" "law" (top iH) f fd)(T:Nm mg)(wU:Fn P w K mg base 1 "_law_begin" ["_law_script"] (zm K))(aM:Fn P w K mg base 1 "_law_take" ["_law_state", "_law_many"] vR)(wA:Fn P w K mg base 4 "_law_parts" ["_law_state"] (JG K))(xY:Fn P w K mg base 9 "_law_form" ["_law_parts_here"] (FJ K CF))(xj:Fn P w K mg base 3 "_law_text" ["_law_state", "_law_parts_here"] (JE K))(ES:Fn P w K mg base 3 "_law_at" ["_law_parts_here", "_law_text_here", "_law_place"] (JY K))(kT:Fn P w K mg base 7 "_law_told" ["_law_form_here", "_law_text_here", "_law_place"] (zD K CF))(lE:Fn P w K mg base 8 "_law_same" ["_law_found", "_law_due"] (ur K 8)):
  aW P w K mg base dI 10 f fd ["_law_script"] (zt K):=by
 refine F.ok ik (fun vs H Q E h =>?_) (fun bS A outer s H vs Q E hr h =>?_)
 ·obtain⟨a,ns,rfl,_⟩:=h
  rfl
 obtain⟨a,ns,rfl,hS,hlen,q⟩:=h;have cK:=hr.units;have hu:=jF hr;have NX:=hu;have V2:=Hm hr;refine⟨_,(af (ay (i:=1) ik.nd rfl (YY rfl) (aA (wU.mono ∅) hr rfl (aa (pv 0) ae)))
  (af (fe Zw rfl (eg rfl T.n_range (aa ah ae)) (aI (i:=2) ik.nd rfl (YY rfl)) (af (ay (i:=3) ik.nd rfl (YY rfl) (aA (wA.mono ∅) hr rfl (aa (pv 1) ae)))
  (af (ay (i:=4) ik.nd rfl (YY rfl) (aA (xY.mono ∅) hr rfl (aa (pv 3) ae)))
  (af (ay (i:=5) ik.nd rfl (YY rfl) (aA (xj.mono ∅) hr rfl (aa (pv 1) (aa (pv 3) ae))))
  (af (fe Zw rfl (eg rfl T.n_range (aa (aw bw (ak (eE K) rfl T.n_len (by rfl) (aa (pv 5) ae)) ah) ae)) (aI (i:=6) ik.nd rfl (YY rfl)) (af (ay (i:=7) ik.nd rfl (YY rfl) (aA (ES.mono ∅) hr rfl (aa (pv 3) (aa (pv 5) (aa (pv 6) ae)))))
  (af (ay (i:=7) ik.nd rfl (YY rfl) (dg (ax lY (pv 7) a9 (aE _)) (bK (aa aq (aa (pv 6) ae))) (pv 7)))
  (ag (aV (eJ (cI (aA (lE.mono ∅) hr rfl (aa (aA (kT.mono ∅) hr rfl (aa (pv 4) (aa (pv 5) (aa (pv 6) ae)))) (aa (pv 7) ae))))) (ag (ao kE)) aB)))))
  (af (ay (i:=6) ik.nd rfl (YY rfl) (aA (aM.mono ∅) hr rfl (aa (pv 1) (aa (aw bw (ak (eE K) rfl T.n_len (by rfl) (aa (pv 5) ae)) ah) ae))))
  (ag (aV (ax (DE K cK) (aA (kT.mono ∅) hr rfl (aa (pv 4) (aa (pv 5) (aa (pv 6) ae)))) (aA (kT.mono ∅) hr rfl (aa (pv 4) (aa (pv 5) (aa (pv 6) ae)))) (aE _)) (ag (ao kE)) aB))))))))
  (ag (ao kE)))),?_⟩
 refine⟨_,rfl,a,ns,rfl,hS,hlen,fun b c H1 yY hb hc sm1 =>?_⟩;refine gn ?_;dsimp only;refine⟨2,rfl,∅,∅,?_⟩;refine km (lo:=0) (n:=2) (fun i σ H'=>∃(t':Int) (x2 x3 x4 x5 x6 x7:Option V),σ=[some (.ref a),some (.ref b),x2,x3,x4,x5,x6,x7]/\Step b c H1 H' 0 t' (10000*i)) ⟨0,_,_,_,_,_,_,rfl,(Step.refl yY).more ⋯⟩ ?_ ?_
 ·rintro i σ H2 hi ⟨t2,x2,x3,x4,x5,x6,x7,rfl,fB⟩;have Tf:=fB.ub;have Vg:=fB.le;refine⟨_,rfl,b,c,t2,rfl,fB.bx,⋯,⋯,fun l r1 r2 r3 qb uE uz near eU H3 t3 gd3 hl0 qR hD dZ=>gn ?_⟩;obtain⟨lb,lc⟩:=fB.bx.aR hl0;have uf:ig H3 b c l=some (.lst [r1,r2,r3,.int near,.int eU]):=by rw[dH lb lc];exact qR
  have TK:a8 K (ig H3 b c) [aQ qb,aQ uE,aQ uz,.int near,.int eU] [r1,r2,r3,.int near,.int eU]:=b8 (gG (j:=0) hD rfl rfl) (b8 (gG (j:=1) hD rfl rfl) (b8 (gG (j:=2) hD rfl rfl) (b8 ug (b8 ug qA))));have dZ:=fB.trans dZ;have fv:=BL gd3 TK;refine⟨_,rfl,l,r1,r2,r3,.int near,.int eU,_,_,_,_,_,rfl,bg.of qR,⟨fv.e1.same fL,fv.e2.same fL,fv.e3.same fL,fv.e4.same fL,fv.e5.same fL,fv.f1,fv.f2,fv.f3⟩,gd3.why,fun m H4 s4 hm0 fo=>gn ?_⟩;obtain⟨mb,mc⟩:=dZ.bx.aR hm0;have eY:=dZ.trans (Step.same dZ.bx s4);obtain⟨fr,en,ef⟩:=gd3.V7;rw[en,ef] at uf fo;generalize hF:(⟨qb,uE,uz,near.toNat,eU.toNat⟩:Fb)=Fo at fr;have fo:mi K CF H4 m Fo:=by rw[<-hF];exact fo
  have fo:=rM eY.bx mb mc fo;have hP:iG K (ig H4 b c) l Fo:=by
   refine iG.same ?_ (ar.ig (b:=b) (c:=c) s4);rw[<-hF];exact⟨r1,r2,r3,bg.of uf,hD⟩
  clear hF fv gd3 en ef hD TK uf qR;have Sj:=eY.ub;have SJ:=eY.le;refine⟨_,rfl,_,rfl,b,c,t3,l,Fo,rfl,eY.bx,⋯,⋯,hP,fr,fun x H5 t5 bx5 lx cu=>gn ?_⟩;have VC:=(hP.same cu.sm).same fL;have T3:=(fo.same cu.sm).same fL;have cu:=eY.trans cu;have S7:=cu.ub;have To:=cu.le;have hz:x.length<=KE:=Jg lx ∅;have ht:x.length<=1000000:=by lia
  have gd:∀{p:Nat},p<=x.length->Gd 1000 2 (Qo (eX Fo x p) p):=fun hp=>Oe fr hp ht;dsimp only;refine fk (t:=BR _ _ _) (fun σ H'=>∃(x6 x7:Option V),σ=[some (.ref a),some (.ref b),some (.int (0+i)),some (.ref l),some (.ref m),some (.str x),x6,x7]/\ar H5 H') (fun Nx nx =>?_) ?_
  ·refine⟨_,rfl,_,_,rfl,⟨hz,rfl⟩,.inl ⟨_,_,rfl,rfl,_,rfl,⋯,⋯,?_⟩⟩;refine jN (N:=x.length+1) (fun p σ H'=>∃(x6 x7:Option V),σ=[some (.ref a),some (.ref b),some (.int (0+i)),some (.ref l),some (.ref m),some (.str x),x6,x7]/\ar H5 H') ⟨_,_,rfl,ar.refl _⟩ ?_ ?_
   ·rintro p σ H6 hp ⟨x6,x7,rfl,s6⟩;refine⟨by show p<((x.length:Int)+1).toNat;lia,?_⟩;rintro y H7 ⟨rfl,rfl⟩;rw[Int.zero_add];have hp:p<=x.length:=by lia
    have g:=gd hp;refine gn ⟨_,rfl,_,rfl,_,rfl,l,Fo,x,p,rfl,VC.same s6,fr,bx5,hp,ht,fun v H8 s8 h8=>gn ?_⟩;dsimp only;refine ip (te:=Nu _ _ _) (fun v H'=>ar H8 H'/\Den K H' (Qo (eX Fo x p) p) v) (fun Qn qn =>?_) ?_
    ·refine⟨_,rfl,.inl ⟨rfl,_,rfl,?_⟩⟩;cases ea:eX Fo x p with
     | none=>
      rw[ea] at h8 qn;have h8:v = .non:=h8;subst h8;rw[decide_eq_true rfl];exact bA ⟨_,rfl,by show 2<=KE;decide,fun tq H9 n9=>qn _ _ ⟨n9.same,FE n9.at (b8 BD (b8 ug qA))⟩⟩
     | some r=>
      rw[ea] at h8 qn;obtain⟨tp,bp,rfl,h8,h9⟩:=h8;rw[decide_eq_false (nofun)];exact bj ⟨_,rfl,qn _ _ ⟨ar.refl _,zC h8 h9⟩⟩
    rintro v H9 ⟨s9,d9⟩;have s9:=s6.trans (s8.trans s9);refine gn ⟨_,rfl,_,rfl,_,rfl,m,Fo,x,p,rfl,T3.same s9,fr,hp,ht,fun u H10 s10 d10=>⟨_,rfl,u,v,_,rfl,d10,d9.same s10,J7 g.dp ∅,Jg g.wt ∅,fun H11 s11 =>?_⟩⟩;exact⟨_,rfl,bj ⟨_,_,rfl,s9.trans (s10.trans s11)⟩⟩
   ·rintro σ H6 ⟨x6,x7,rfl,s6⟩;exact⟨by show((x.length:Int)+1).toNat<=x.length+1;lia,nx _ _ ⟨x6,x7,rfl,s6⟩⟩
  rintro σ H6 ⟨x6,x7,rfl,s6⟩;have kG:=cu.trans (Step.same cu.bx s6);refine⟨_,rfl,_,rfl,_,_,rfl,⟨hz,rfl⟩,.inl ⟨_,_,rfl,rfl,b,c,t5,_,rfl,kG.bx,⋯,⋯,⋯,⋯,fun r7 H7 r70 r71 iU=>gn ?_⟩⟩;obtain⟨p,rfl⟩:∃p:Nat,r7=p:=⟨r7.toNat,⋯⟩
  have hp:p<=x.length:=by lia
  have g:=gd hp;have Vu:=(((rM cu.bx ?_ ?_ T3).same (ar.ig (b:=b) (c:=c) s6)).same iU.sm).same fL
  ·have iU:=kG.trans iU;refine⟨_,rfl,_,rfl,_,rfl,m,Fo,x,p,rfl,Vu,fr,hp,ht,fun u H8 s8 d8=>⟨_,rfl,_,rfl,_,rfl,m,Fo,x,p,rfl,Vu.same s8,fr,hp,ht,fun u2 H9 s9 d9 =>.inr ⟨_,_,d8.same s9,d9,g.shaped ∅,g.shaped ∅,_,rfl,?_⟩⟩⟩;rw[eqv_refl _ ?_]
   ·exact bj ⟨_,_,_,_,_,_,_,rfl,(iU.trans (Step.same iU.bx (s8.trans s9))).more (by push_cast;lia)⟩
   ·exact(pU _ g.pz).2.2
  ·exact mb
  ·exact mc
 ·rintro σ H2 ⟨t2,x2,x3,x4,x5,x6,x7,rfl,fB⟩;exact q H2
end
def all_mk {l:Qdb}{w:Zb}{K:Ja}{h:Heap}{mg:Str->Option Fk}{fa f1 f2 f3 f4 f5 f6 f7 f8 f9 VW Xq Wy Xx WI Wo N8 XG XJ WT Wu V9 XT Xh WB Wx XQ Xv VE WU VT Wr YA Wj Xk VJ Xl Xa VG YB Vx X8 Xd W9 Xo Vz Rg:Gc}(X:K.In h)(G:h.Ns ZE mg)(VQ:mg "law" = some (.ref fa))
  {gD wR bT pM we rO qt vH rf nA fD:Gc} {fd1 fd2 fd3 fd4 fd5 fd6 fd7 fd8 fd9 fd10 fd11 fd12 fd13 fd14 fd15 fd16 fd17 fd18 fd19 fd20 fd21 fd22 fd23 fd24 fd25 fd26 fd27 fd28 fd29 fd30 fd31 fd32 fd33 fd34 fd35 fd36 fd37 fd38 fd39 fd40 fd41 fd42 fd43 fd44 fd45:Zc} {SW R1 SO Pn Nk Ph Se:Tok} {od an:Option Gc} {sl:Array (Option Fk)} {oc kV dc pm cd ct:Fk} {aS:Gc} {aZ:Gc} {aJ:Gc} {aP:Gc} {SG:Array Qcz} {Wt:Nat} {Ek:Gc} {BS:Zc} {Br:Gc} {yd:Zc} {Mu:Gc} {HX:Zc} {GF:Gc} {EL:Zc} {vb:Gc} {sU:Zc} {wM:Gc} {tR:Zc} {qL:Gc} {pV:Zc}
  (D1:Df K "made_of" (top mT) f1 fd1)
  (D2:Df K "is_name" (top mD) f2 fd2)
  (D3:Df K "is_code" (top mR) f3 fd3)
  (D4:Df K "rest_of" (top nC) f4 fd4)
  (D5:Df K "is_number" (top jG) f5 fd5)
  (D6:Df K "is_entry" (top k6) f6 fd6)
  (D7:Df K "is_book" (top mL) f7 fd7)
  (D8:Df K "clash" (top ue) f8 fd8)
  (D9:Df K "free" (top xZ) f9 fd9)
  (UT:Df K "is_free_book_of" (top eR) VW fd10)
  (Tc:Df K "far_is_shorter" (top fj) Xq fd11)
  (TV:Df K "first_wrong" (top hU) Wy fd12)
  (TQ:Df K "two_to" (top qD) Xx fd13)
  (Vr:Df K "number_of" (top jJ) WI fd14)
  (TX:Df K "lookup_of" (top ka) Wo fd15)
  (Vj:Df K "code_at" (top mO) N8 fd16)
  (Tr:Df K "name_from" (top jX) XG fd17)
  (Tq:Df K "figures_from" (top gM) XJ fd18)
  (Vp:Df K "many_from" (top kc) WT fd19)
  (UE:Df K "distance_from" (top fQ) Wu fd20)
  (Tt:Df K "bare_at" (top mW) V9 fd21)
  (Vq:Df K "_law_begin" (top j8) XT fd22)
  (S9:Df K "_law_take" (top ly) Xh fd23)
  (Sn:Df K "_law_same" (top lB) WB fd24)
  (S2:Df K "_law_mixed" (top jI) Wx fd25)
  (UR:Df K "_law_codes" (top jL) XQ fd26)
  (Vm:Df K "_law_kinds" (top jP) Xv fd27)
  (Vi:Df K "_law_sizes" (top jS) VE fd28)
  (UA:Df K "_law_parts" (top jV) WU fd29)
  (M4:Df K "_law_form" (top kU) VT fd30)
  (Vc:Df K "_law_figures" (top ie) Wr fd31)
  (Tj:Df K "_law_power" (top j9) YA fd32)
  (TH:Df K "_law_far_word" (top gR) Wj fd33)
  (Vf:Df K "_law_put" (top mP) Xk fd34)
  (UH:Df K "_law_some_bare" (top fW) VJ fd35)
  (S5:Df K "_law_class" (top jU) Xl fd36)
  (Tn:Df K "_law_names_at" (top gU) Xa fd37)
  (S4:Df K "_law_number_by" (top fO) VG fd38)
  (UI:Df K "_law_far_figures" (top eM) YB fd39)
  (Ta:Df K "_law_spots_at" (top gA) Vx fd40)
  (Va:Df K "_law_size_at" (top ib) X8 fd41)
  (Vl:Df K "_law_skip_at" (top iz) Xd fd42)
  (TC:Df K "_law_at" (top oS) W9 fd43)
  (Vn:Df K "_law_text" (top kZ) Xo fd44)
  (Tw:Df K "_law_told" (top kI) Vz fd45)
  (a:Qee K ZE "law" = some (some (.ref Rg)))
  (l0:K.lookup Rg=some ⟨oc,od,.func (Wf "law" "law" (cn (top iH)) (bN (top iH)) (ai (top iH)) .none kV dc pm an cd ct),sl⟩)
  (c0:Qcn K cd "law" = true)
  (h0:Yc K (.ref Rg)=true)
  (vJ:Gr K "OddError" (.ref gD))
  (Bf:Gr K "BadRow" (.ref wR))
  (xR:Gr K "BadText" (.ref bT))
  (B5:Gr K "NoForm" (.ref pM))
  (BB:Gr K "NoName" (.ref we))
  (yT:Gr K "NoPlace" (.ref rO))
  (wq:Gr K "NoTarget" (.ref qt))
  (A0:Gr K "TooFar" (.ref vH))
  (yZ:Gr K "TooFull" (.ref rf))
  (Gy:Gr K "Form" (.ref nA))
  (Cr:Gr K "Reader" (.ref fD))
  (YF:Ud K (.ref bT) (.ref wR)=some false)
  (YI:Ud K (.ref bT) (.ref we)=some false)
  (YM:Ud K (.ref bT) (.ref rO)=some false)
  (YD:Ud K (.ref bT) (.ref qt)=some false)
  (YL:Ud K (.ref bT) (.ref pM)=some false)
  (YO:Ud K (.ref bT) (.ref rf)=some false)
  (YJ:Ud K (.ref bT) (.ref vH)=some false)
  (YN:Ud K (.ref bT) (.type "ValueError")=some true)
  (YG:Ud K (.ref bT) (.ref gD)=some true)
  (Vw:j6 K bT)
  (WA:PySem.W.exmOne K (.ref bT) (.ref gD)=some true)
  (V6:Gr K "LONGEST_NAME" (.int 8 SW))
  (XM:Gr K "SMALL_LETTERS" (.str tF R1))
  (VO:Gr K "SIGNS" (.str cW SO))
  (UB:Gr K "LEAST_NEAR" (.int 2 Pn))
  (Tv:Gr K "MOST_NEAR" (.int 8 Nk))
  (UM:Gr K "MOST_FAR" (.int 16 Ph))
  (XR:Gr K "SKIP_FIGURES" (.int 3 Se))
  (Vt:Tp K "SPOT_NAMES" aS (bJ.map V.str))
  (QM:Tp K "SIZE_NAMES" aZ (aO.map V.str))
  (UN:Tp K "JUMPS" aJ [V.str "jump",V.str "zero"])
  (Ve:Gr K "PARTS" (.ref aP))
  (UZ:K.lookup aP=some ⟨.type "dict",none,.dict SG Wt,#[]⟩)
  (Ri:Qb4 w.params SG.toList)
  (Tx:SG.toList.map (fun e=>DV e.key)=aD)
  (Xz:(aP==Qax)=false)
  (Xb:Kd K aP gm)
  (lP:Xp K gD pM "NoForm.__init__" "why" (inClass (top pf) 0) Ek BS)
  (iD:Xp K gD bT "BadText.__init__" "place" (inClass (top mF) 0) Br yd)
  (MF:MH K nA)
  (XD:Qb3 K nA=true)
  (XO:Yc K (.ref nA)=true)
  (L7:Es K fD)
  (Xr:Qb3 K fD=true)
  (Ww:Yc K (.ref fD)=true)
  (yh:Mt K nA "__init__" "Form.__init__" (inClass (top zd) 0) Mu HX)
  (ux:Mt K fD "__init__" "Reader.__init__" (inClass (top cL) 0) GF EL)
  (jM:Mt K fD "bare_from" "Reader.bare_from" (inClass (top cL) 1) vb sU)
  (j5:Mt K fD "part_from" "Reader.part_from" (inClass (top cL) 2) wM tR)
  (iu:Mt K fD "number_from" "Reader.number_from" (inClass (top cL) 3) qL pV)
  (z:Nn K ["len", "range", "max", "min", "sum", "all", "any", "list", "tuple", "int", "str", "bool", "zip", "enumerate", "isinstance", "divmod", "sorted", "dict", "ValueError"]) :
  ∃fd:Zc,(∀(s:Wp) (v:Fk),QeL s fd ⟨[v],[]⟩ [("_law_script",v)])/\∀base:Heap,K.In base->base.Ns ZE mg->aW l.prog w K mg base dI 10 fa fd ["_law_script"] (zt K):=by
 have e:=VQ.symm.trans (PySem.W.mg_of X G a);cases e;refine⟨Wf "law" "law" (cn (top iH)) (bN (top iH)) (ai (top iH)) .none kV dc pm an cd ct,fun s v =>.of_eq rfl,fun base hB hG =>?_⟩;have e:Ev l.prog w K mg base:=⟨PySem.W.mg_of X G,PySem.W.mg_none_of X G⟩
 obtain⟨z0,z1,z2,z3,z4,z5,z6,z7,z8,z9,z10,z11,z12,z13,z14,z15,z16,z17,z18,_⟩:=z;have T:Nm mg:=⟨e.n z0,e.n z1,e.n z2,e.n z3,e.n z4,e.n z5,e.n z6,e.n z7,e.n z8,e.n z9,e.n z10,e.n z11,e.n z12,e.n z13,e.n z14,e.n z15⟩
 have gQ:=e.n z16;have cw:=e.n z17;have jo:=e.n z18;have gC:=e.g V6;have fV:=e.g XM;have kd:=e.g VO;have mq:=e.g UB;have nI:=e.g Tv;have pA:=e.g UM;have gN:=e.g XR;have fc:=e.g vJ;have pQ:=e.g Bf;have gq:=e.g xR;have iL:=e.g B5;have pL:=e.g BB;have mS:=e.g yT;have kK:=e.g wq;have qd:=e.g A0;have mU:=e.g yZ;have yg:=e.g Gy;have qz:=e.g Cr;have Xn:N6 K l.prog w mg aP aS aZ Pn Nk Ph:=⟨e.g Ve,e.g Vt.g,e.g QM.g,⟨_,_,_,⟨UZ,Ri,sJ Ri,by rw[wW,Tx];decide +kernel,Xz⟩,wW.trans Tx⟩,Vt.s,QM.s,e.g UB,e.g Tv,e.g UM⟩
 have WG:OJ K w mg aP:=⟨e.g Ve,⟨_,_,UZ,Ri⟩,Xb.all⟩
 have qx:=qK (P:=l.prog) (w:=w) (mg:=mg) (base:=base) lP.F lP.S;have mZ:=pS (P:=l.prog) (w:=w) (mg:=mg) (base:=base) iD.F iD.S;have Dt:=e.df D1 (Gq D1.F T);have RD:=e.df D2 (Bc D2.F T gC fV Dt);have Rc:=e.df D3 (AW D3.F T kd Dt);have N7:=e.df D4 (Ip D4.F T);have Sx:=e.df D5 (Dk D5.F T);have QY:=e.df D6 (yq D6.F T RD Rc);have R3:=e.df D7 (AL D7.F T QY);have XS:=e.df D8 (P2 D8.F T N7);have WM:=e.df D9 (HF D9.F T XS);have Q3:=e.df UT (MG UT.F T gQ R3 WM);have Sr:=e.df Tc (Mo Tc.F T cw (e.g UN.g) UN.s);have V0:=e.df TV (NM TV.F T Xn Q3 Sx Sr);have R4:=e.df TQ (Lz TQ.F T);have V5:=e.df Vr (GL Vr.F T);have WC:=e.df TX (G0 TX.F T gQ);have Vy:=e.df Vj (L8 Vj.F T);have Q9:=e.df Tr (KW Tr.F T Vy);have SQ:=e.df Tq (Lq Tq.F T kd Dt V5);have WE:=e.df Vp (K5 Vp.F T gN SQ);have XB:=e.df UE (KU UE.F T R4 SQ);have VX:=e.dx Tt (LS Tt.F T L7.c (ux.MV Xr Ww) qz (HS (P:=l.prog) (w:=w) (mg:=mg) (base:=base) ux.F T MF L7 WC) ux.F.bd jM.at (Mg (P:=l.prog) (w:=w) (mg:=mg) (base:=base) jM.F T L7.c L7 WG j5.at (Mf (P:=l.prog) (w:=w) (mg:=mg) (base:=base) j5.F T L7.c L7 iu.at (Kw (P:=l.prog) (w:=w) (mg:=mg) (base:=base) iu.F T L7 (e.g QM.g) QM.s Q9 SQ) iu.F.bd Q9 WE XB) j5.F.bd Q9) jM.F.bd gq iD.M mZ iD.F.bd);have ML:=e.df Vq (Fp Vq.F T);have O7:=e.df S9 (Il S9.F T);have MZ:=Fn.imp O7 (sp':=vR) (fun _ _ _ _ h=>GJ h);have Pd:∀n:Nat,Fn l.prog w K mg base (n+0) "_law_same" ["_law_found", "_law_due"] (ur K n):=fun n=>by
  induction n with
  | zero=>exact e.df Sn ⟨fun vs H Q E h=>absurd h (by rintro⟨_,_,_,_,_,_,z,_⟩;exact absurd z (Wb _)),fun A outer s H args us vs Q E _ _ _ _ h=>absurd h (by rintro⟨_,_,_,_,_,_,z,_⟩;exact absurd z (Wb _))⟩
  | succ n ih=>exact e.df Sn (Hb Sn.F T ih)
 have NB:=e.df S2 (Dg S2.F T MZ);have Rw:=e.df UR (ME UR.F T MZ NB);have De:=e.df Vm (E1 Vm.F T);have yU:=e.df Vi (E3 Vi.F T);have Rk:=e.df UA (FV UA.F T cw De yU MZ NB Rw);have XY:=e.dx M4 (Pu M4.F T (yh.MV XD XO) yg (N4 (P:=l.prog) (w:=w) (mg:=mg) (base:=base) yh.F T MF iL lP.M qx lP.F.bd V0) yh.F.bd);have Rl:=Gp.calm XY (sp':=FJ K nA) (fun _ _ _ _ h=>K8 h);have O2:=e.df Vc (HC Vc.F T);have Fs:=e.df Tj (Gf Tj.F T);have LZ:=e.df TH (GH TH.F T);have WH:=e.df Vf (NN Vf.F T cw yU O2 Fs LZ);have W3:=e.df UH (Hs UH.F T De MZ Fs LZ);have Rx:=e.df S5 (Gv S5.F T jo fc gq qd pQ pL mS kK iL mU Vw iD.S (fun D hD=>by simp at hD;rcases hD with rfl|rfl|rfl|rfl|rfl|rfl|rfl<;>assumption) (by assumption) (by assumption));have SS:=e.df Tn (Lj Tn.F T);have Q0:=e.df S4 (Kg S4.F T);have Rh:=e.df UI (Kb UI.F T LZ Q0 Fs);have RR:=e.df Ta (Md Ta.F T cw SS);have Sk:=e.df Va (Kq Va.F T cw SS Q0 yU);have Rb:=e.df Vl (K0 Vl.F T Q0);have S0:=e.df TC (K4 TC.F T cw SS Rb RR Sk Rh);have RV:=e.df Vn (Ml Vn.F T MZ WH W3);have OD:=e.df Tw (Er Tw.F T fc WA VX Rx);exact LV (tW (st:=top iH) l0 c0 h0) T ML MZ Rk Rl RV S0 OD (Pd 8)
def walk {l:Qdb}{q:YZ}{loose:List Str}{XP:(Str->Option Fk)->Heap->Prop}{YP:Zb->Heap->Prop}{d:DefRec}{K:Params->Ja}(hn:l.most=some 63)(NR:d.params.defaults=[])
  (hY:∀(w:Zb) (h:Heap),YP w h->(K w.params).In h)
  (F:∀(w:Zb) (mg:Str->Option Fk) (fa:Gc) (h:Heap),(K w.params).In h->h.Ns ZE mg->mg d.name=some (.ref fa) ->
   ∃fd:Zc,(∀(s:Wp) (u:Fk),QeL s fd ⟨[u],[]⟩ [("_law_script",u)])/\∀base:Heap,(K w.params).In base->base.Ns ZE mg->aW l.prog w (K w.params) mg base dI 10 fa fd ["_law_script"] (zt (K w.params))) :
  PySem.W.WalkO q loose XP YP l.row.toRowW d [] (fun f vs=>QdJ f vs):=
 L2.Hc (n:=63) (k:=10) (x := "_law_script") (CX:=fun _=>dI) (sp:=fun w=>zt (K w.params)) hn ∅ NR ⟨rfl,∅,∅,rfl⟩ hY F (fun _ _ a ns hl _ hS=>⟨a,ns,rfl,hS,hl,fun _=>rfl⟩) fun _ _ _ _ _ z=>z
end Z
open PySem PySem.W PyProof.Rows L2
set_option maxRecDepth 100000 in
set_option maxHeartbeats 0 in
theorem PySem.Challenge.cw_oddlong_k31_bare_rows_read_holds : PySem.Challenge.rw_oddlong_k31_bare_rows_read.Holds := by
  refine Z.GO ?hw ?hc
  (case hw => w_witness2)
  k_fill
  refine Z.walk (l := PySem.Challenge.rw_oddlong_k31_bare_rows_read) rfl rfl (fun w h Y => Y) ?F
  case F =>
    intro w mg fa h KX G hmg
    apply Z.all_mk KX G hmg
    (iterate 45 ((apply Px); (iterate 4 (k_is))))
    (iterate 4 ((k_is)))
    (iterate 11 ((apply EG); (k_is)))
    (iterate 7 ((exact zj (by k_is) (by k_is) (by k_is) rfl)))
    ((exact LG (by decide +kernel) (by k_is)))
    ((exact zj (by k_is) (by k_is) (by k_is) rfl))
    ((exact ⟨EB (by k_is), by k_is, by k_is, by k_is, by k_is, by k_is, by k_is, by k_is⟩))
    ((exact HJ (by k_is) (by k_is) (by k_is) (by k_is)))
    (iterate 7 ((apply EG); (k_is)))
    (iterate 3 ((apply NI); (iterate 2 (k_is)); (repeat (first | exact Paired.nil | refine Paired.cons ⟨_, rfl⟩ ?_)); (decide)))
    ((apply EG); (k_is))
    ((k_is))
    ((repeat (first | exact trivial | refine ⟨⟨_, _, rfl, rfl⟩, ?_⟩)))
    ((rfl))
    ((decide))
    ((apply dh); (iterate 2 (k_is)); (repeat (first | exact Paired.nil | refine Paired.cons ⟨_, rfl⟩ ?_)); (decide); (apply dh); (iterate 2 (k_is)); (repeat (first | exact Paired.nil | refine Paired.cons ⟨_, rfl⟩ ?_)); (decide); (apply dh); (iterate 2 (k_is)); (repeat (first | exact Paired.nil | refine Paired.cons ⟨_, rfl⟩ ?_)); (decide); (apply dh); (iterate 2 (k_is)); (repeat (first | exact Paired.nil | refine Paired.cons ⟨_, rfl⟩ ?_)); (decide); (apply dh); (iterate 2 (k_is)); (repeat (first | exact Paired.nil | refine Paired.cons ⟨_, rfl⟩ ?_)); (decide); (apply dh); (iterate 2 (k_is)); (repeat (first | exact Paired.nil | refine Paired.cons ⟨_, rfl⟩ ?_)); (decide); (apply dh); (iterate 2 (k_is)); (repeat (first | exact Paired.nil | refine Paired.cons ⟨_, rfl⟩ ?_)); (decide); (apply dh); (iterate 2 (k_is)); (repeat (first | exact Paired.nil | refine Paired.cons ⟨_, rfl⟩ ?_)); (decide); (apply dh); (iterate 2 (k_is)); (repeat (first | exact Paired.nil | refine Paired.cons ⟨_, rfl⟩ ?_)); (decide); (apply dh); (iterate 2 (k_is)); (repeat (first | exact Paired.nil | refine Paired.cons ⟨_, rfl⟩ ?_)); (decide); (apply dh); (iterate 2 (k_is)); (repeat (first | exact Paired.nil | refine Paired.cons ⟨_, rfl⟩ ?_)); (decide); (exact trivial))
    (iterate 2 ((apply Ni); (k_is); (k_exc); (iterate 9 (k_is))))
    ((refine' ⟨⟨?_, ?_, ?_, ?_⟩, ?_, ?_, ?_, ?_, ?_⟩); (iterate 4 (k_is)); (iterate 5 ((unfold cR; k_is))))
    (iterate 2 ((k_is)))
    ((refine' ⟨⟨?_, ?_, ?_, ?_⟩, ?_, ?_, ?_, ?_, ?_⟩); (iterate 4 (k_is)); (iterate 5 ((unfold cR; k_is))))
    (iterate 2 ((k_is)))
    (iterate 5 ((apply Pt); (iterate 5 (k_is))))
    ((apply bM); (k_is); (apply bM); (k_is); (apply bM); (k_is); (apply bM); (k_is); (apply bM); (k_is); (apply bM); (k_is); (apply bM); (k_is); (apply bM); (k_is); (apply bM); (k_is); (apply bM); (k_is); (apply bM); (k_is); (apply bM); (k_is); (apply bM); (k_is); (apply bM); (k_is); (apply bM); (k_is); (apply bM); (k_is); (apply bM); (k_is); (apply bM); (k_is); (apply bM); (k_is); (exact trivial))
