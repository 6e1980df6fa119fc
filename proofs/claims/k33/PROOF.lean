import PyProof.Rows.All
import KE.KSortTup
import KE.KDictOf
import KE.KIntText
import KE.KFromBytes
import KE.KTryMore
import KE.KItemsList
import KE.KRevIter
import KE.KMinKey
import ObjForm.ListNI
import Wide.Line
import OpenK.KOwn
import OpenK.KWalk
import OpenK.KLine
import Lean
import PySem.Challenge.RW_oddlong_k33_distances_at_bounds
local macro_rules | `(∅) => `(by decide +kernel)
local macro_rules | `(⋯) => `(by lia)
set_option Elab.async false
set_option linter.all false
set_option maxRecDepth 100000
open PySem.W renaming Frag → Ja, nsIn → Jg, mg_of → Jj, findIn → J6, mg_none_of → Uc, kitOne → Ug, keepIn → Ui, kia_one → U8, fnOf → Yd, codeIn → Yp, emptyDict → Y3, instObj → Y5, plainGet → Wi, isFn → Wk
open PySem.Heap renaming get?_push_of_some → Jb, lt_size → Jf, get?_push_size → Ji, get?_update_self → J7, get?_update_other → Ua, size_push → Ue, SameBut → U6
open List renaming length_map → Jc, getElem?_eq_getElem → Jd, getElem?_map → Jk, mem_cons_of_mem → Jl, mem_cons_self → Jo, getElem?_eq_some_iff → Jq, length_cons → Jr, size_toArray → Ju, mem_append_right → Jv, length_append → Jw, mem_cons → Jx, mem_of_getElem? → Jy, mem_singleton → Jz, replicate → J0, map_cons → J3, map_append → J4, mem_iff_getElem? → Uk, lookup_cons → Ul, getElem_mem → Um, length_take → Uo, mem_append → Uq, mem_map → Uu, append_nil → Uv, getElem?_append_right → Ux, eq_nil_of_length_eq_zero → Uy, getElem?_append_left → Uz, pairwise_iff_getElem → U0, length_replicate → U1, range → U3, getD_eq_getElem?_getD → U5, take_of_length_le → U7, nodup_cons → U9, Perm → Yb, take_succ_eq_append_getElem → Yg, mem_append_left → Yh, getElem?_set_ne → Yi, getElem?_set_self → Yk, not_mem_nil → Yl, take_length → Ym, map_map → Yn, append_assoc → Yo, sum_cons → Yq, length_zip → Yr, getElem?_replicate → Ys, length_drop → Yt, mem_iff_getElem → Yu, eraseIdx_eq_take_drop_succ → Yy, getElem?_zip_eq_some → Yz, getElem_map → Y1, pairwise_append → Y2, length_range → Y4, length_nil → Y6, filterMap_cons → Y7, mem_map_of_mem → Y8, map_congr_left → Y9, any_cons → Wa, all_eq_true → Wc, length_set → We, lookup → Wg, flatMap_cons → Wh
open Nat renaming le_refl → Je, le_trans → Jh, ne_of_lt → Jm, lt_of_lt_of_le → Jt, lt_of_le_of_lt → Ub, lt_irrefl → Uh, ne_of_gt → Uj, le_add_right → Us, zero_le → Uw, le_of_lt → Yj, le_succ → Yx, succ_le_succ → Wb, not_lt_zero → Wf, lt_succ_self → Wj
open Bool renaming false_ne_true → Jn, and_eq_true → Js, true_and → Yc, eq_false_iff → Ye, false_and → Yv, false_eq_true → Y0, eq_iff_iff → Wd
open Array renaming getElem?_eq_getElem → J2, length_toList → Ud, getElem?_eq_none → Ur, getElem?_toList → U2, getElem?_eq_some_iff → U4, all_eq_true_iff_forall_mem → Yw
open Int renaming toNat_natCast → Ut
open Array renaming size_push → Qb7, toList_push → Qcg, eq_empty_of_size_eq_zero → Qeu, getElem?_push_size → Qfl, getElem?_push_lt → Qfz
open Bind renaming bind → QbV
open Bool renaming or_false → Qd9, not_true → Qfv
open Classical renaming propDecidable → Qbx, byContradiction → Qez
open False renaming elim → QaV
open ForInStep renaming yield → Qc9
open Int renaming emod_lt_of_pos → Qcc, pow_succ → Qcm, emod_nonneg → QcI, mul_comm → QcQ, fdiv_eq_ediv_of_nonneg → Qc2, le_refl → QdV, toNat_of_nonneg → Qd7, pow_pos → QeK, fmod_eq_emod_of_nonneg → Qfj, zero_add → Qf0
open List renaming drop_eq_getElem_cons → QbY, all_cons → Qb6, of_mem_zip → Qb8, prefix_append → Qb9, pairwise_singleton → Qcb, prefix_or_prefix_of_prefix → Qcq, getElem?_toArray → Qcs, getElem?_eq_none → Qct, replicate_succ → QcH, map_nil → QcL, drop_zero → QcU, reverse_cons → Qc7, prefix_refl → Qdl, map_reverse → Qdm, isEmpty_nil → Qdn, drop_length → Qdo, cons_append → Qdp, range_succ_eq_map → Qdx, length_singleton → QdH, length_eraseIdx → QdR, toList_toArray → Qd0, takeWhile_cons → Qd1, pairwise_map → Qel, map_id → QeE, take_left' → QeI, range_succ → QeJ, length_erase_of_mem → Qfs, getElem?_take_of_lt → Qft, append_cancel_left → Qfy, pairwise_lt_range → QfD, length_pos_of_mem → QfE, drop_of_length_le → QfF, any_map → QfG, length_filter_le → QfY, replicate_succ' → Qgb, perm_cons_erase → Qgc, length → Qgd
open List.Pairwise renaming sublist → Qc1, nil → Qe9
open Nat renaming lt_trans → Qck, lt_succ_of_lt → Qcl, pow_le_pow_right → QcD, pow_succ → QcP, succ_pos → QdE, div_div_eq_div_mul → QdF, add_lt_add_left → Qd6, mul_comm → Qeq, le_succ_of_le → Qer, two_pow_pos → QeW, le_total → QfX
open Ne renaming symm → QaA
open Option renaming map_some → Qds, isSome_some → Qga
open Option.some renaming inj → Qap
open Or renaming inl → Qag, inr → Qf9
open Prod renaming ext → QcC
open Prod.mk renaming inj → QaU
open PyProof renaming noPylong_small → Qdg
open PyProof.Rows renaming callWith_type1 → Qam, sortedS → Qa6, envOfC → QbG, seqObj → Qcy, AllBare → Qdy, toString_length_le → QdL, slot_tuple_getitem → QdM, slice_closes → Qef, IntsAre → Qem, risingS → QeH, zipApart_new → QeN, Subscript_ → QfT
open PySem renaming wpAny_bind → be, wpAny_pure → tz, Value → Fk, Addr → Gc, Shared → KE, sizeLine → Wp, mainGlobals → W1, model → Qab, wpAny → Qac, FuncData → Qad, PyData → Qae, Program → Qaf, World → Qah, wpAny_setField_rec → Qai, starEach → Qaj, wpAny_holding → Qak, wpAny_field → Qal, wpAny_callSpecial?_slot → Qao, wpAny_seqItems → Qau, wpAny_call_entry → Qav, Around → Qax, Expr → QaB, wpAny_isInstance → QaE, compareOp → QaF, codeAny_builtin → QaG, wpAny_Call_Name_kw → QaJ, eval → QaL, wpAny_setState_of → QaN, wpAny_newObj_type → QaQ, bootBuiltins → QaR, wpAny_attempt → QaS, rawInt → QaW, plainId_quiet → QaX, wpAny_typeOf → QaY, codeAny → QaZ, wpAny_raiseNew_none → Qa7, wpAny_updateSeq → Qba, wpAny_mono → Qbc, wpAny_askSetting → Qbd, codeAny_call_builtin → Qbf, strLen_append → Qbg, wpAny_truthy_bool → Qbh, foldedSetIterable → Qbi, wpAny_ite_split → Qbj, wpAny_nextOf_list_item → Qbk, IsPair → Qbl, wpAny_standAt → Qbm, attributeBase → Qbn, wpAny_ite → Qbo, wpAny_rule → Qbr, typeLookup → Qbs, isSubtype_stop → Qbt, binaryOp → Qbu, mem_of_lookup → Qbz, sysModules → QbB, wpAny_typeNameOfWhole_itemiter → QbF, KeyKind → QbH, sliceBounds → QbK, excClassObj → QbL, wpAny_passesOwn → QbQ, pyNext → QbS, builtinLookup_eq_fast → QbT, backTo → QbU, wpAny_updateSeq_pair → Qb1, call_meets → Qb2, Scope → Qb3, Result → Qb4, wpAny_letGo → Qcn, wpAny_getItem_str_slice → Qco, wpAny_pyIter_list → Qcu, wpAny_newTuple → Qcv, wpAny_loadPart_at → Qcw, wpAny_isOneOf_itemiter → Qcx, codeAny_mono → QcA, NameKind → QcB, wpAny_call → QcF, assignEach → QcG, wpAny_onRaise → QcJ, ZipApart → QcM, SetTable → QcO, wpAny_specialOf → QcW, wpAny_execs_nil → QcX, typeLookup_type → QcY, letOwnedTupleGo → QcZ, wpAny_dictSet_pairs → Qc3, cLine → Qc4, noteFrame → Qc8, wpAny_setField → Qda, tupleKind_room_in1 → Qdb, merged → Qdc, callType_codes → Qdd, sizeLine_eq → Qdu, wpAny_comprehension_free → Qdz, strLen_append → QdA, behindInMarks → QdB, Stmt → QdC, wpAny_pyIter_zip → QdI, pickOrder → QdJ, DictEntry → QdO, typeIs_str → QdT, post_val_or_str → QdX, strKind → QdZ, wpAny_notOrdered_dict → Qd2, wpAny_nextOf_list_end → Qd3, wpAny_newFunctionEnv → Qec, wpAny_fieldsOf → Qed, relayAll → Qee, tupleKind → Qeh, swapsWith → Qei, getItem → Qej, wpAny_pyIter_tuple → QeA, wpAny_load → QeB, stored → QeC, fits_of_scanBound → QeP, compPost → QeQ, call → QeT, Spec → QeV, GenState → QeX, plainObj_wpAny_Assign_Attribute → Qe2, scanBound → Qfc, pyIter → Qfd, kt_code_dict_new → Qfe, IsPart → Qfi, unsupported → Qfm, subscripted → Qfn, keywordEach → Qfo, theTreesLotGoes → Qfw, Within → Qfx, valueAt → QfA, callerA → QfB, Keyword → QfH, BindsTo → QfI, wpAny_tryCatch → QfK, wpAny_loadPart → QfL, typeIs_int → QfM, setsByText → QfN, raiseAttrError → QfO, field → QfP, assign → QfQ, PlainAttrs → QfV, Paired → QfW, IsZip → QfZ, evalArgs_none → Qf3
open PySem.Around renaming under_plainId → QfJ
open PySem.Builtin.Frozenset renaming addrOf → QdW
open PySem.Builtin.Int renaming intBits → QbD
open PySem.Builtin.List renaming listSameRef → Qa5, listExtendWith → Qbb, listLengthHint → QbC, listTooLong → Qen
open PySem.Builtin.Slice renaming slicePlaces → QbJ, sliceAdjust → Qeb
open PySem.Builtin.SmallTypes renaming nextOf → QdP
open PySem.Builtin.Str renaming strSliceIndices → QbO, strSub → QdG
open PySem.Calls renaming spliced_cons → Qa9, spliced_nil → Qbv, callWith_builtin → Qcf, Name_function_global → Qe1, call_function_entry → Qfb, evalArgs_plain → Qf2
open PySem.Challenge renaming rw_oddlong_k33_distances_at_bounds → Qaq, pw_oddlong_k33_distances_at_bounds → Qbe
open PySem.Code renaming quiet_builtin → QcV
open PySem.F renaming plainAttrs_str → QaC, slot_zip_next → QaM, plainAttrs_list → QaP, plain_extend_loop → Qa4, args_zip_next_1 → Qby, entry_zip_next → QbE, slot_dict_itemiterator_next → QbI, entry_extend_loop → QbR, type_list_append → QbW, slot_list_append → QbX, slot_tuple_iterator_next → QbZ, type_str_join → Qch, slot_str_join → Qci, type_str_split → Qde, slot_str_split → Qdf, slot_dict_get → Qdq, kt_typeCall_dict_1 → Qd8, args_str_split_2 → Qes, args_dict_init_2 → Qet, type_str_startswith → Qev, slot_str_startswith → Qew, slot_int_bit_length → Qex, entry_str_split → QeF, entry_dict_init → QeG, args_dict_itemiterator_next_1 → QeM, slot_str_split → QeY, kt_called_dict → QeZ, entry_dict_itemiterator_next → Qe0, slot_dict_items → Qe4, plain_list_iadd → Qe5, plainAttrs_dict → Qe6, args_dict_get_3 → Qe7, entry_dict_get → Qfh, args_tuple_iterator_next_1 → Qfk, entry_tuple_iterator_next → Qfu
open PySem.Heap renaming get?_none_of_le → QdS, MadeExcOf → Qfa
open PySem.Heap.DictOf renaming new → Qc6
open PySem.Heap.IsSliceOf renaming new → QeL
open PySem.Heap.Ns1 renaming of_empty → Qf1
open PySem.Manifest renaming find? → Qdw
open PySem.NameKind renaming free → Qa1, cell → QcT
open PySem.Obj renaming mapSeq → QaH, mapFields → QbN, data_mapFields → Qc0, isFreed_of_fields → QdN, putSet → Qeg
open PySem.Paired renaming length → Qe8
open PySem.PassesOwn renaming never → Qaz
open PySem.PyData renaming weightAll → Qay, weight → QaD, depthAll → Qbp, depth → Qbq, canLay0 → QbA, eqv → QbP, eqvAll → Qb0, canLayAll0 → Qce, str → Qcp, tuple → QcE, int → Qdk, shownAll → Qdr, shown → Qea, showable → Qey, showableAll → Qf8
open PySem.PyData.list renaming inj → Qd5
open PySem.SeqAt renaming shaped → QaK
open PySem.SeqAt.EqAt renaming bool_bool → Qdh, str_int → Qfq, int_str → Qfr
open PySem.SetTable renaming below → QaI, grown → QbM, has → Qe3, orStandIn → QfC
open PySem.SetTable.below renaming go → QeS
open PySem.SetTable.probe renaming go → Qdv
open PySem.Shared renaming TypeIs → Qa2
open PySem.Str renaming ofString → Qaa, empty → Qat
open PySem.Txt renaming slice → QaT, join → Qa0, split → Qcd, startswith → Qcj, slice_le → QcN, mul → QdY, stripChars → Qff
open PySem.Value renaming ref → Qan, type → Qa3, bool → Qbw, none → Qcr, str → QcK, isInt_shape → Qc5, int → QdQ, isStrOf_shape → QdU, float → QfR
open PySem.W renaming callWith_K → Qb5, hasDictIn → Qca, looks_findIn → Qcz, plainOver → QcS, makesIn → Qdi, KeysLit → Qdj, topFrom → Qdt, lookIn → QdD, plainGet_of → QdK, kitx_list → Qd4, takerIn → Qeo, OpenLaw → Qep, clsIn → QeR, mroIn → QeU, cellsFrom_some → Qfg, hideAll_get → Qfp, kitx_tuple → QfU, kitx_none → Qf4, kitx_dict → Qf5, kitx_bool → Qf6, kdx_alive → Qf7
open PySem.W.Fast renaming te14364793385576792824 → Qar, te14082659384304107361 → Qas, te4187177175401517315 → Qaw
open PySem.W.OpenLaw renaming row → Qek
open PySem.W.OpenRow renaming toRowW → QeD
open PySem.pickOrder renaming go → QeO
open Sum renaming inr → Qa8, inl → QfS
open Sum.inr renaming inj → QcR
open True renaming intro → QaO
noncomputable section
namespace L2
set_option genSizeOf false
set_option genInjectivity false
inductive eZ {α0 α1:Type}(P: α0 -> α1->Prop):Prop|mk (x0: α0) (x1: α1) (h:P x0 x1):eZ P
inductive qM {α0 α1 α2:Type}(P: α0 -> α1 -> α2->Prop):Prop|mk (x0: α0) (x1: α1) (x2: α2) (h:P x0 x1 x2):qM P
inductive tG {α0 α1 α2 α3:Type}(P: α0 -> α1 -> α2 -> α3->Prop):Prop|mk (x0: α0) (x1: α1) (x2: α2) (x3: α3) (h:P x0 x1 x2 x3):tG P
inductive zg {α0 α1 α2 α3 α4:Type}(P: α0 -> α1 -> α2 -> α3 -> α4->Prop):Prop|mk (x0: α0) (x1: α1) (x2: α2) (x3: α3) (x4: α4) (h:P x0 x1 x2 x3 x4):zg P
inductive FC {α0 α1 α2 α3 α4 α5:Type}(P: α0 -> α1 -> α2 -> α3 -> α4 -> α5->Prop):Prop|mk (x0: α0) (x1: α1) (x2: α2) (x3: α3) (x4: α4) (x5: α5) (h:P x0 x1 x2 x3 x4 x5):FC P
set_option genSizeOf true
set_option genInjectivity true
class aj (P:Prop) (F:outParam (Prop->Prop)):Prop where
 el:P->∀G:Prop,F G->G
def aj.go {P:Prop}{F:Prop->Prop}[i:aj P F]{G:Prop}(k:F G):P->G:=fun h=>i.el h G k
instance (priority:=low) elimBase {P:Prop}:aj P (fun G=>P->G):=⟨fun h _ k=>k h⟩
instance XR {α:Sort u} {P: α->Prop} {F: α->Prop->Prop} [h:∀x,aj (P x) (F x)]:aj (∃x,P x) (fun G=>∀x,F x G):=⟨fun⟨x,hx⟩ G k=>(h x).el hx G (k x)⟩
instance UW {A B:Prop} {F:Prop->Prop} [h:aj B F]:aj (A/\B) (fun G=>A->F G):=⟨fun⟨a,b⟩ G k=>h.el b G (k a)⟩
instance T3 {α0 α1:Type} {P: α0 -> α1->Prop} {F: α0 -> α1->Prop->Prop} [i:∀x0 x1,aj (P x0 x1) (F x0 x1)]:aj (eZ P) (fun G=>∀x0 x1,F x0 x1 G):=⟨fun⟨x0,x1,h⟩ G k=>(i x0 x1).el h G (k x0 x1)⟩
instance Va {α0 α1 α2:Type} {P: α0 -> α1 -> α2->Prop} {F: α0 -> α1 -> α2->Prop->Prop} [i:∀x0 x1 x2,aj (P x0 x1 x2) (F x0 x1 x2)]:aj (qM P) (fun G=>∀x0 x1 x2,F x0 x1 x2 G):=⟨fun⟨x0,x1,x2,h⟩ G k=>(i x0 x1 x2).el h G (k x0 x1 x2)⟩
instance TU {α0 α1 α2 α3:Type} {P: α0 -> α1 -> α2 -> α3->Prop} {F: α0 -> α1 -> α2 -> α3->Prop->Prop} [i:∀x0 x1 x2 x3,aj (P x0 x1 x2 x3) (F x0 x1 x2 x3)]:aj (tG P) (fun G=>∀x0 x1 x2 x3,F x0 x1 x2 x3 G):=⟨fun⟨x0,x1,x2,x3,h⟩ G k=>(i x0 x1 x2 x3).el h G (k x0 x1 x2 x3)⟩
instance TR {α0 α1 α2 α3 α4:Type} {P: α0 -> α1 -> α2 -> α3 -> α4->Prop} {F: α0 -> α1 -> α2 -> α3 -> α4->Prop->Prop} [i:∀x0 x1 x2 x3 x4,aj (P x0 x1 x2 x3 x4) (F x0 x1 x2 x3 x4)]:aj (zg P) (fun G=>∀x0 x1 x2 x3 x4,F x0 x1 x2 x3 x4 G):=⟨fun⟨x0,x1,x2,x3,x4,h⟩ G k=>(i x0 x1 x2 x3 x4).el h G (k x0 x1 x2 x3 x4)⟩
instance UD {α0 α1 α2 α3 α4 α5:Type} {P: α0 -> α1 -> α2 -> α3 -> α4 -> α5->Prop} {F: α0 -> α1 -> α2 -> α3 -> α4 -> α5->Prop->Prop} [i:∀x0 x1 x2 x3 x4 x5,aj (P x0 x1 x2 x3 x4 x5) (F x0 x1 x2 x3 x4 x5)]:aj (FC P) (fun G=>∀x0 x1 x2 x3 x4 x5,F x0 x1 x2 x3 x4 x5 G):=⟨fun⟨x0,x1,x2,x3,x4,x5,h⟩ G k=>(i x0 x1 x2 x3 x4 x5).el h G (k x0 x1 x2 x3 x4 x5)⟩
open PySem PySem.Spec PyProof.Rows
abbrev Key:=Sum Int Str
def uA:Key->Fk->Bool
 | .inl k,v=>Value.isInt k v
 | .inr x,v=>Value.isStrOf x v
def YS (w:Qah):Key->Int
 | .inl k=>hashInt k
 | .inr x=>hashStr w x
def bX:∀{k:Key} {v:Fk},uA k v=true->(∃i t,k=QfS i/\v=QdQ i t)\/(∃x t,k=Qa8 x/\v=QcK x t)
 | .inl i,v,h=>by
  obtain⟨t,e⟩:=Qc5 h;exact .inl ⟨i,t,rfl,e⟩
 | .inr x,v,h=>by
  obtain⟨t,e⟩:=QdU h;exact .inr ⟨x,t,rfl,e⟩
def DT (i:Int)(t:Tok):uA (.inl i) (.int i t)=true:=by simp[uA,Value.isInt]
def Er (x:Str)(t:Tok):uA (.inr x) (.str x t)=true:=by simp[uA,Value.isStrOf]
def NX (a b:Int):decide ((QfS a:Key)=QfS b)=(a==b):=by grind
def Pt (a b:Str):decide ((Qa8 a:Key)=Qa8 b)=decide (a=b):=by simp
def Ox (a:Int)(b:Str):decide ((QfS a:Key)=Qa8 b)=false:=decide_eq_false (nofun)
def Pe (a:Str)(b:Int):decide ((Qa8 a:Key)=QfS b)=false:=decide_eq_false (nofun)
def bD (prog:Qaf)(w:Qah):QbH prog w Key where
 is:=uA
 hash:=YS w
 inj:=fun v a b ha hb=>by
  rcases bX ha with ⟨i,t,rfl,rfl⟩|⟨x,t,rfl,rfl⟩
  ·rcases bX hb with ⟨j,u,rfl,e⟩|⟨y,u,rfl,e⟩
   ·injection e with e1 _;rw[e1]
   ·exact nomatch e
  ·rcases bX hb with ⟨j,u,rfl,e⟩|⟨y,u,rfl,e⟩
   ·exact nomatch e
   ·injection e with e1 _;rw[e1]
 byValue:=fun k v h=>by
  rcases bX h with ⟨i,t,rfl,rfl⟩|⟨x,t,rfl,rfl⟩<;>rfl
 pyHash:=fun hv h=>by
  rcases bX hv with ⟨i,t,rfl,rfl⟩|⟨x,t,rfl,rfl⟩
  ·exact wpAny_pyHash_int h
  ·exact wpAny_pyHash_str h
 eqBool:=fun hu hv h=>by
  rcases bX hu with ⟨i,t,rfl,rfl⟩|⟨x,t,rfl,rfl⟩
  ·rcases bX hv with ⟨j,u,rfl,rfl⟩|⟨y,u,rfl,rfl⟩
   ·rw[NX] at h;exact wpAny_eqBool_int h
   ·rw[Ox] at h;exact Qfr i t y u _ _ _ _ h
  ·rcases bX hv with ⟨j,u,rfl,rfl⟩|⟨y,u,rfl,rfl⟩
   ·rw[Pe] at h;exact Qfq x t j u _ _ _ _ h
   ·rw[Pt] at h;exact wpAny_eqBool_str h
 «strs»:=fun k x t v h=>by
  rcases bX h with ⟨i,u,rfl,e⟩|⟨y,u,rfl,e⟩
  ·exact nomatch e
  ·injection e with e1 _
   subst e1;cases v<;>rfl
def ye (prog:Qaf)(w:Qah)(i:Int)(t:Tok):(bD prog w).is (.inl i) (.int i t)=true:=DT i t
def xw (prog:Qaf)(w:Qah)(x:Str)(t:Tok):(bD prog w).is (.inr x) (.str x t)=true:=Er x t
inductive V where
 | non|bl (b:Bool)|int (i:Int)|str (x:Str)|byt (b:Array UInt8)|flt (b:UInt64)|ref (a:Gc)|ty (n:String)
 deriving DecidableEq
def RelV:V->Fk->Prop
 | .non,u=>u=Qcr
 | .bl b,u=>u=Qbw b
 | .int i,u=>∃t,u=QdQ i t
 | .str x,u=>∃t,u=QcK x t
 | .byt b,u=>∃t,u=Value.bytes b t
 | .flt b,u=>∃t,u=QfR b t
 | .ref a,u=>u=Qan a
 | .ty n,u=>u=Qa3 n
abbrev Vals:List V->List Fk->Prop:=QfW RelV
def Vals.length (r:Vals xs us):xs.length=us.length:=Qe8 r
def Vals.get:∀{xs:List V} {us:List Fk} {i:Nat} {x:V},Vals xs us->xs[i]? = some x->∃u,us[i]? = some u/\RelV x u
 | _,_,_,_,.nil,e=>by simp at e
 | _,_,0,_,.cons r _,e=>by simp at e;subst e;exact⟨_,rfl,r⟩
 | _,_,i+1,x,.cons _ t,e=>by
  obtain⟨u,h1,h2⟩:=Vals.get t (by simpa using e);exact⟨u,by simpa using h1,h2⟩
def Vals.set (r:RelV x u):∀{xs:List V} {us:List Fk} i,Vals xs us->Vals (xs.set i x) (us.set i u)
 | _,_,_,.nil =>.nil
 | _,_,0,.cons _ t =>.cons r t
 | _,_,i+1,.cons q t =>.cons q (Vals.set r i t)
def Vals.append {us ws:List Fk}(h:Vals xs us)(s:Vals ys ws):Vals (xs++ys) (us++ws):=by
 induction h with
 | nil=>exact s
 | cons r t ih=>exact .cons r ih
def Vals.take:∀{xs:List V} {us:List Fk} n,Vals xs us->Vals (xs.take n) (us.take n)
 | _,_,0,_ =>.nil
 | _,_,_+1,.nil =>.nil
 | _,_,n+1,.cons r t =>.cons r (Vals.take n t)
def Vals.drop:∀{xs:List V} {us:List Fk} n,Vals xs us->Vals (xs.drop n) (us.drop n)
 | _,_,0,r=>r
 | _,_,_+1,.nil =>.nil
 | _,_,n+1,.cons _ t=>Vals.drop n t
def iT:Option V->Option Fk->Prop
 | some v,some u=>RelV v u
 | none,none=>True
 | _,_=>False
def KV:List (κ×V)->List (κ×Fk)->Prop:=QfW fun p q=>p.1=q.1/\RelV p.2 q.2
def kV:Key->V
 | .inl i =>.int i
 | .inr x =>.str x
inductive HO where
 | lst (xs:List V)
 | tup (xs:List V)
 | dK (kvs:List (Key×V))|dT (kvs:List (List Key×V))
 | set (S:Int->Bool) (n:Nat)
 | ins (C dx:Gc) (fs:List (Str×V))
 | own (x:Gc)
 | xd (fs:List (Str×V))
 | met (f x:Gc)
 | rng (lo hi:Int)
 | frz (o:Obj) (u:HO)
 | tbl (ps:Array Fk)
 | ext (φ:Heap->Prop)
abbrev Hp:=Gc->Option HO
def upd (H:Hp)(a:Gc)(o:HO):Hp:=fun b=>if b=a then some o else H b
def au:upd H a o a=some o:=by unfold upd;rw[if_pos rfl]
def ao {a b:Gc}{o:HO}(h:b≠a):upd H a o b=H b:=by unfold upd;rw[if_neg h]
def Cd:upd (upd H a o) a u=upd H a u:=by
 funext b;unfold upd;split<;>rfl
def rj {H:Hp}{a b:Gc}{o u:HO}(h:H a=some o)(h':H b=some u)(d:o≠u):a≠b:=by grind
def ay {H:Hp}{a b:Gc}{o:HO}(h:H a=some o)(h':H b=none):a≠b:=by grind
def uS (h:Heap)(a:Gc)(items:Array Fk):Prop:=∃o,h.get? a=some o/\o.dict=none/\o.cls = .type "tuple" /\ ∃n,o.data = .seq items n
def uS.is:uS h a items->IsTup h a items:=fun⟨o,e,_,r⟩=>⟨o,e,r⟩
def uS.new (h:Heap)(items:Array Fk):uS (h.push { cls := .type "tuple",data := .seq items }) h.objs.size items:=⟨_,Ji _ rfl,rfl,rfl,_,rfl⟩
section
variable (P:Qaf)(w:Qah)
def bw (H:Hp)(h:Heap)(a:Gc):HO->Prop
 | .lst xs=>xs.length<=Wp/\eZ fun aw n=>Vals xs aw/\h.get? a=some { cls := .type "list",data := .seq aw.toArray n }
 | .tup xs=>xs.length<=Wp/\∃aw,Vals xs aw/\uS h a aw.toArray
 | .dK kvs=>kvs.length<=Wp/\(a==QbB)=false/\∃vs,KV kvs vs/\h.DictOf (bD P w) a vs
 | .dT kvs=>kvs.length<=Wp/\(a==QbB)=false/\∃xs,
   QfW (fun p q=>p.1=q.1/\H q.2.1=some (.tup (p.1.map kV))/\RelV p.2 q.2.2) kvs xs /\
   qM fun o es ep=>h.get? a=some o/\o.ExactDict/\o.data = .dict es ep/\es.toList=xs.map (entryOfKey (Qeh (bD P w)))/\(xs.map (·.1)).Nodup
 | .set S n=>h.SetOf (intKind P w) a S n
 | .ins C dx fs=>H dx=some (.own a)/\fs.length<=1000/\dx≠a/\h.get? a=some (Y5 C dx) /\
   ∃mA,h.Ns1 dx mA/\(∀f,iT (fs.lookup f) (mA f))/\Qfx mA (fs.map (·.1))
 | .own _=>∃o,h.get? a=some o
 | .xd fs=>∃mA,h.Ns1 a mA/\∀f,iT (fs.lookup f) (mA f)
 | .rng lo hi=>qM fun t u v=>h.get? a=some { cls := .type "range",data := .fields #[.int lo t,.int hi u,.int 1 v] }
 | .frz o u=>h.get? a=some o/\bw H h a u
 | .tbl ps=>h.get? a=some { cls := .none,data := .fields ps }
 | .met f x=>h.get? a=some (PySem.W.methodObj (.ref f) (.ref x))
 | .ext φ => φ h/\(∃o,h.get? a=some o)/\∀h1 h2, φ h1->(∀o,h1.get? a=some o->h2.get? a=some o) -> φ h2
def ji (H:Hp)(h:Heap):Prop:=∀a o,H a=some o->bw P w H h a o
end
section
variable {P:Qaf}{w:Qah}{H H':Hp}{h h':Heap}{a:Gc}{o:HO}
def bw.lt (x:bw P w H h a o):a<h.objs.size:=by
 cases o with
 | lst xs=>obtain⟨_,_,_,_,e⟩:=x;exact Jf e
 | tup xs=>obtain⟨_,_,_,p⟩:=x;exact p.is.lt
 | dK kvs=>obtain⟨_,_,_,_,o,_,_,e,_⟩:=x;exact Jf e
 | dT kvs=>obtain⟨_,_,_,_,o,_,_,e,_⟩:=x;exact Jf e
 | set S n=>obtain⟨o,_,_,_,e,_⟩:=x;exact Jf e
 | ins C dx fs=>obtain⟨_,_,_,e,_⟩:=x;exact Jf e
 | own y=>obtain⟨_,e⟩:=x;exact Jf e
 | xd fs=>obtain⟨_,⟨_,_,_,e,_⟩,_⟩:=x;exact Jf e
 | rng lo hi=>obtain⟨_,_,_,e⟩:=x;exact Jf e
 | frz ob u=>obtain⟨e,_⟩:=x;exact Jf e
 | tbl ps=>exact Jf (show h.get? a=some _ from x)
 | met f y=>exact Jf (show h.get? a=some _ from x)
 | ext φ=>obtain⟨_,⟨_,e⟩,_⟩:=x;exact Jf e
def Paired.SH {l₁:List α}{l₂:List β}(h:QfW F l₁ l₂)(f:∀a b,F a b->G a b):QfW G l₁ l₂:=by
 induction h with
 | nil=>exact .nil
 | cons r t ih=>exact .cons (f _ _ r) ih
def bw.gI (x:bw P w H h a o)(k:∀b u,(b=a\/H b=some (.own a))->h.get? b=some u->h'.get? b=some u)
  (ho:∀b,H b=some (.own a)->H' b=some (.own a)) (ht:∀b xs,H b=some (.tup xs)->H' b=some (.tup xs)):bw P w H' h' a o:=by
 induction o with
 | lst xs=>obtain⟨z,aw,n,r,e⟩:=x;exact⟨z,aw,n,r,k _ _ (.inl rfl) e⟩
 | tup xs=>obtain⟨z,aw,r,ob,e,c⟩:=x;exact⟨z,aw,r,ob,k _ _ (.inl rfl) e,c⟩
 | dK kvs=>obtain⟨z,y,vs,r,ob,es,ep,e,c⟩:=x;exact⟨z,y,vs,r,ob,es,ep,k _ _ (.inl rfl) e,c⟩
 | dT kvs=>
  obtain⟨z,y,xs,r,ob,es,ep,e,c⟩:=x;exact⟨z,y,xs,Paired.SH r fun p q z=>⟨z.1,ht _ _ z.2.1,z.2.2⟩,ob,es,ep,k _ _ (.inl rfl) e,c⟩
 | set S n=>obtain⟨ob,es,ep,t,e,c⟩:=x;exact⟨ob,es,ep,t,k _ _ (.inl rfl) e,c⟩
 | ins C dx fs=>
  obtain⟨d,z,ne,e,mA,⟨od,es,ep,e2,c⟩,r⟩:=x;exact⟨ho _ d,z,ne,k _ _ (.inl rfl) e,mA,⟨od,es,ep,k _ _ (.inr d) e2,c⟩,r⟩
 | own y=>obtain⟨ob,e⟩:=x;exact⟨ob,k _ _ (.inl rfl) e⟩
 | xd fs=>obtain⟨mA,⟨od,es,ep,e,c⟩,r⟩:=x;exact⟨mA,⟨od,es,ep,k _ _ (.inl rfl) e,c⟩,r⟩
 | rng lo hi=>obtain⟨t,u,v,e⟩:=x;exact⟨t,u,v,k _ _ (.inl rfl) e⟩
 | frz ob u ih=>obtain⟨e,q⟩:=x;exact⟨k _ _ (.inl rfl) e,ih q⟩
 | tbl ps=>
  have e:=x;exact k a _ (.inl rfl) e
 | met f y=>
  have e:=x;exact k a _ (.inl rfl) e
 | ext φ=>obtain⟨p,⟨o,e⟩,st⟩:=x;exact⟨st _ _ p fun o q=>k _ _ (.inl rfl) q,⟨o,k _ _ (.inl rfl) e⟩,st⟩
def ji.lt (x:ji P w H h)(e:H a=some o):a<h.objs.size:=(x a o e).lt
def ji.fresh (x:ji P w H h)(e:h.objs.size<=a):H a=none:=by
 cases q:H a with
 | none=>rfl
 | some u=>exact absurd (Jt (x.lt q) e) (Uh _)
def ji.kept (x:ji P w H h)(k:∀b u,h.get? b=some u->h'.get? b=some u):ji P w H h':=fun a o e=>
 (x a o e).gI (fun b u _ q=>k b u q) (fun _ q=>q) fun _ _ q=>q
def ji.laid (x:ji P w H h)(k:∀b u,h.get? b=some u->h'.get? b=some u)(hp:h.objs.size<=a)(new:bw P w (upd H a o) h' a o):ji P w (upd H a o) h':=fun b u e=>by
 have hn:=x.fresh hp
 by_cases hb:b=a
 ·subst hb;rw[au] at e;cases e;exact new
 ·rw[ao hb] at e;exact(x b u e).gI (fun c v _ q=>k c v q) (fun c q=>by rw[ao (ay q hn)];exact q) fun c xs q=>by rw[ao (ay q hn)];exact q
end
def Rd (H:Hp)(a:Gc)(u:HO):Prop:=H a=some u\/∃o,H a=some (.frz o u)
def Rd.ok {H:Hp}{h:Heap}{a:Gc}{u:HO}(r:Rd H a u)(x:ji P w H h):bw P w H h a u:=by
 rcases r with r|⟨o,r⟩
 ·exact x a u r
 ·obtain⟨_,q⟩:=x a _ r;exact q
def R0:Option HO->Prop
 | some (.lst _)=>True
 | some (.dK _)=>True
 | some (.dT _)=>True
 | some (.set _ _)=>True
 | some (.ins _ _ _)=>True
 | some (.ext _)=>True
 | _=>False
section
variable {P:Qaf}{w:Qah}{H:Hp}{h h':Heap}{x e:Gc}{o':HO}
def ji.write (ok:ji P w H h)(mu:R0 (H x))(he:e=x\/H e=some (.own x))(k:∀b u,b≠e->h.get? b=some u->h'.get? b=some u)(Qe:∃u,h'.get? e=some u)
  (new:bw P w (upd H x o') h' x o'):ji P w (upd H x o') h':=fun b u q=>by
 have Ri:∀c y,H c=some (.own y)->c≠x:=fun c y r z=>by subst z;rw[r] at mu;exact mu
 by_cases hb:b=x
 ·subst hb;rw[au] at q;cases q;exact new
 ·rw[ao hb] at q
  by_cases hbe:b=e
  ·have q':H b=some (.own x):=by
    rcases he with z|z
    ·exact absurd (hbe.trans z) hb
    ·rw[hbe];exact z
   rw[q] at q';cases q';obtain⟨v,hv⟩:=Qe;exact⟨v,by rw[hbe];exact hv⟩
  ·refine(ok b u q).gI (fun c v hc r=>k c v ?_ r) (fun c r=>by rw[ao (Ri c b r)];exact r) fun c xs r=>by rw[ao ((fun c xs r z=>by subst z;rw[r] at mu;exact mu) c xs r)];exact r
   rcases hc with rfl|hc
   ·exact hbe
   ·rintro rfl
    rcases he with z|z
    ·exact Ri c b hc z
    ·rw[hc] at z;cases z;exact hb rfl
end
structure Un (fs ex:List Gc)(H H':Hp)(h h':Heap):Prop where
 keep:∀b o,h.get? b=some o->H b=none->b∉fs->b∉ex->h'.get? b=some o
 slot:∀b o,h.get? b=some o->H b=none->b∈fs->b∉ex->∃sl,h'.get? b=some { o with slots:=sl }
 free:∀b o,h.get? b=some o->H b=none->b∉ex->H' b=none
 there:∀b o,h.get? b=some o->b∉ex->∃o',h'.get? b=some o'
 jQ:∀b xs,H b=some (.tup xs)->H' b=some (.tup xs)
 jr:∀b o u,H b=some (.frz o u)->H' b=some (.frz o u)
 ky:∀b ps,H b=some (.tbl ps)->∃more,H' b=some (.tbl (ps++more))
section
variable {fs fs' ex ex':List Gc}{H H1 H2:Hp}{h h1 h2 h':Heap}{a x e:Gc}{o:HO}
def Un.any (u:Un fs ex H H1 h h1){b:Gc}{ob:Obj}(q:h.get? b=some ob)(n:H b=none)(hx:b∉ex):∃sl,h1.get? b=some { ob with slots:=sl }:=by
 by_cases hb:b∈fs
 ·exact u.slot b ob q n hb hx
 ·exact⟨ob.slots,u.keep b ob q n hb hx⟩
def Un.kept (k:∀b u,h.get? b=some u->h'.get? b=some u):Un fs ex H H h h':=
 ⟨fun b ob q _ _ _=>k b ob q,fun b ob q _ _ _=>⟨ob.slots,k b ob q⟩,fun _ _ _ n _=>n,fun b ob q _=>⟨ob,k b ob q⟩,fun _ _ q=>q,fun _ _ _ q=>q,fun _ ps q=>⟨#[],by rw[q];simp⟩⟩
def Un.refl:Un fs ex H H h h:=Un.kept fun _ _ q=>q
def Un.laid (k:∀b u,h.get? b=some u->h'.get? b=some u)(hp:h.objs.size<=a)(hn:H a=none):Un fs ex H (upd H a o) h h' where
 keep:=fun b u q _ _ _=>k b u q
 slot:=fun b u q _ _ _=>⟨u.slots,k b u q⟩
 free:=fun b u q n _=>by rw[ao (Jm (Jt (Jf q) hp))];exact n
 there:=fun b u q _=>⟨u,k b u q⟩
 jQ:=fun b xs q=>by rw[ao (ay q hn)];exact q
 jr:=fun b u xs q=>by rw[ao (ay q hn)];exact q
 ky:=fun b ps q=>⟨#[],by rw[ao (ay q hn),q];simp⟩
def Un.write (mu:R0 (H x))(he:e=x\/H e=some (.own x))(k:∀b u,b≠e->h.get? b=some u->h'.get? b=some u)(Qe:∃u,h'.get? e=some u):Un fs ex H (upd H x o) h h':=by
 have hx:∀b,H b=none->b≠x:=fun b n z=>by subst z;rw[n] at mu;exact mu
 have hb:∀b,H b=none->b≠e:=fun b n z=>by
  subst z
  rcases he with r|r
  ·exact hx b n r
  ·rw[n] at r;cases r
 have hm:∀b u,H b=some u->¬R0 (some u)->b≠x:=fun b u q nm z=>by subst z;rw[q] at mu;exact nm mu
 refine⟨fun b u q n _ _=>k b u (hb b n) q,fun b u q n _ _=>⟨u.slots,k b u (hb b n) q⟩,fun b u q n _=>by rw[ao (hx b n)];exact n,fun b u q _ =>?_,
  fun b xs q=>by rw[ao (hm b _ q fun z=>z)];exact q,fun b u xs q=>by rw[ao (hm b _ q fun z=>z)];exact q,fun b ps q=>⟨#[],by rw[ao (hm b _ q fun z=>z),q];simp⟩⟩
 by_cases hbe:b=e
 ·subst hbe;exact Qe
 ·exact⟨u,k b u hbe q⟩
end
def Qq (h:Heap)(H:Hp):List Gc:=(U3 h.objs.size).filter fun a=>(H a).isSome
def Fu (h:Heap)(H:Hp):Heap:=PySem.W.hideAll h (Qq h H)
def FF (h:Heap)(H:Hp):(Fu h H).objs.size=h.objs.size:=PySem.W.hideAll_size _ _
def HL {H:Hp}{b:Gc}{o:Obj}(e:h.get? b=some o)(n:H b=none):(Fu h H).get? b=some o:=
 PySem.W.hideAll_get _ e fun hm=>by
  have q:=(List.mem_filter.mp hm).2;rw[n] at q;simp at q
def Mi (e:(Fu h H).get? b=some o):h.get? b=some o/\H b=none:=by
 have e':=PySem.W.of_hideAll (Qq h H) e;refine⟨e',?_⟩;cases q:H b with
 | none=>rfl
 | some x=>
  have z:(Fu h H).get? b=none:=PySem.W.hideAll_none (Qq h H) (List.mem_filter.mpr ⟨List.mem_range.mpr (Jf e'),by simp[q]⟩);rw[z] at e;cases e
structure Mod (K:Ja)(mg:Str->Option Fk)(base:Heap):Prop where
 zA:K.In base
 glob:base.Ns W1 mg
 blt:∃mb,base.Ns builtinsNs mb/\∀x:Str,x ≠ "__name__" -> mb x=QaR x
 nolimit:base.NoLimit
structure Cx where
 prog:Qaf
 w:Qah
 K:Ja
 mg:Str->Option Fk
 base:Heap
 A:Qax
 N:List Str
 s₀:KE
 H₀:Hp
 env:Env
 outer:List Env
 stack:List Env
 ex:List Gc
 fn:Str->Bool
 calm:Bool
 pn:List (Gc×Obj)
 xe:Fk->KE->Prop
def lI (l:List Env):List Gc:=l.filterMap (·.frame)
abbrev Cx.fs (X:Cx):List Gc:=lI X.outer
def Ra (sc:Qb3)(x:Str):Prop:=sc.names.lookup x=some .local\/sc.names.lookup x=some .cell\/sc.names.lookup x=some .free
def Loc (sc:Qb3)(x:Str):Prop:=sc.names.lookup x=some .local\/sc.names.lookup x=some .cell
def Look (env:Env)(h:Heap)(m:Str->Option Fk)(x:Str)(u:Fk):Prop:=
 (env.kindOf x=some .local/\m x=some u)\/((env.kindOf x=some .cell\/env.kindOf x=some .free)/\∃c,env.cells.lookup x=some c/\h.IsCell c (some u))
structure Cx.Ok (X:Cx):Prop where
 mod:Mod X.K X.mg X.base
 kind:X.env.scope.kind = .function
 glob:X.env.globals=W1
 blt:X.env.builtins=builtinsNs
 above:X.s₀.heap.objs.size<=X.env.locals
 inj:∀x y c,X.env.cells.lookup x=some c->X.env.cells.lookup y=some c->x=y
 has:∀x,(X.env.kindOf x=some .cell\/X.env.kindOf x=some .free)->∃c,X.env.cells.lookup x=some c
 cab:∀x c,X.fn x=true->X.env.cells.lookup x=some c->X.s₀.heap.objs.size<=c
 hd:X.calm=true->X.A.handled=none
 frames:X.A.frames=some X.stack
 stk:X.stack=X.outer\/(X.stack=X.env::X.outer/\X.env.frame=some X.env.locals)
 exf:∀b∈X.ex,b≠X.env.locals/\∀x c,X.env.cells.lookup x=some c->c≠b
 bs:∀b o,X.base.get? b=some o->X.s₀.heap.get? b=some o/\X.H₀ b=none
 bsz:X.base.objs.size<=X.s₀.heap.objs.size
 noex:∀b o,X.base.get? b=some o->b∉X.ex
 exfs:∀b∈X.ex,b∉X.fs
 km:X.s₀.heap.FunFrames X.base X.outer
 frf:∀b∈X.fs,X.H₀ b=none
structure Inv (X:Cx)(pins:List (Gc×Obj))(σ:List (Option V))(H:Hp)(s:KE):Prop where
 ok:X.Ok
 os:s.os=X.s₀.os
 bare:Qdy s.gens
 base:Un X.fs X.ex X.H₀ H X.s₀.heap s.heap
 loc:∃m,s.heap.Ns X.env.locals m/\∀(i:Nat) (x:Str) (v:V),X.N[i]? = some x -> σ[i]? = some (some v)->Ra X.env.scope x->∃u,RelV v u/\Look X.env s.heap m x u
 cell:∀x c,X.env.cells.lookup x=some c->∃v,s.heap.IsCell c v
 free:H X.env.locals=none
 freeC:∀x c,X.env.cells.lookup x=some c->H c=none
 pin:∀p∈X.pn++pins,s.heap.get? p.1=some p.2/\H p.1=none/\p.1≠X.env.locals/\p.1∉X.fs/\∀v,p.2.data ≠ .cell v
 bq:ji X.prog X.w H s.heap
 len: σ.length=X.N.length
section
variable {X:Cx}{pins:List (Gc×Obj)}{σ:List (Option V)}{H H':Hp}{s:KE}{h':Heap}
def Cx.Ok.V9 (ok:X.Ok){b:Gc}{o:Obj}(e:X.base.get? b=some o):b∉X.fs:=fun hb=>by
 have:=(ok.km.mem hb).1;rw[e] at this;cases this
def Inv.bs (I:Inv X pins σ H s):∀b o,X.base.get? b=some o->s.heap.get? b=some o/\H b=none:=fun b o e=>
 ⟨I.base.keep b o (I.ok.bs b o e).1 (I.ok.bs b o e).2 (I.ok.V9 e) (I.ok.noex b o e),I.base.free b o (I.ok.bs b o e).1 (I.ok.bs b o e).2 (I.ok.noex b o e)⟩
def Inv.bk (I:Inv X pins σ H s):∀b o,X.base.get? b=some o->s.heap.get? b=some o:=fun b o e=>(I.bs b o e).1
def Inv.mod (I:Inv X pins σ H s):Mod X.K X.mg X.base:=I.ok.mod
def Inv.iA (I:Inv X pins σ H s):X.K.In s.heap:=I.ok.mod.zA.keeps I.bk
def Inv.lt (I:Inv X pins σ H s):X.env.locals<s.heap.objs.size:=let ⟨_,hn,_⟩:=I.loc;hn.lt
def Inv.sz (I:Inv X pins σ H s):X.s₀.heap.objs.size<=s.heap.objs.size:=Jh I.ok.above (Yj I.lt)
def Inv.Tg (I:Inv X pins σ H s){a:Gc}(h:s.heap.objs.size<=a):a∉X.fs:=fun hb=>by
 obtain⟨_,o,ho,_⟩:=I.ok.km.mem hb;exact absurd (Jt (Jf ho) (Jh I.sz h)) (Uh _)
def Inv.Ln (I:Inv X pins σ H s):∀x c,X.env.cells.lookup x=some c->c≠X.env.locals:=fun x c e z=>by
 obtain⟨v,o,ho,hd⟩:=I.cell x c e;obtain⟨m,⟨o',es,ep,yx,FI,_⟩,_⟩:=I.loc;rw[z,yx] at ho;cases ho;rw[FI] at hd;cases hd
def Inv.km (I:Inv X pins σ H s):s.heap.FunFrames X.base X.outer:=by
 have all:∀l,(∀b∈lI l,b∈X.fs)->X.s₀.heap.FunFrames X.base l->s.heap.FunFrames X.base l:=by
  intro l
  induction l with
  | nil=>intro _ _;trivial
  | cons env r ih=>
   intro hs hl;obtain⟨hk,⟨L,o,hf,hn,ho,hd⟩,hr⟩:=hl;have hL:=hs L (by unfold lI;rw[Y7,hf];exact Jo);obtain⟨sl,e⟩:=I.base.slot L o ho (I.ok.frf L hL) hL fun z=>I.ok.exfs L z hL;exact⟨hk,⟨L,_,hf,hn,e,hd⟩,ih (fun b hb=>hs b (by unfold lI;rw[Y7,hf];exact Jl _ hb)) hr⟩
 exact all X.outer (fun _ hb=>hb) I.ok.km
def Inv.stack (I:Inv X pins σ H s):s.heap.FunFrames X.base X.stack:=by
 rcases I.ok.stk with e|⟨e,hf⟩
 ·rw[e];exact I.km
 ·rw[e];obtain⟨m,hn,_⟩:=I.loc;exact .cons (by rw[I.ok.kind];decide) hf hn (QdS (Jh I.ok.bsz I.ok.above)) I.km
def Inv.vn (I:Inv X pins σ H s):∀b∈lI X.stack,b∈X.env.locals::X.fs:=fun b hb=>by
 rcases I.ok.stk with e|⟨e,hf⟩
 ·rw[e] at hb;exact Jl _ hb
 ·rw[e] at hb;unfold lI at hb;rw[Y7,hf] at hb;exact hb
def Inv.vc (I:Inv X pins σ H s):∀b∈lI X.stack,H b=none:=fun b hb=>by
 rcases Jx.mp (I.vn b hb) with e|hb
 ·rw[e];exact I.free
 ·obtain⟨_,o,ho,_⟩:=I.ok.km.mem hb;exact I.base.free b o ho (I.ok.frf b hb) fun z=>I.ok.exfs b z hb
def Inv.step {d':Drawn}{ch:List Gc}(I:Inv X pins σ H s)
  (zE:∀b∈ch,(b∈X.ex\/X.s₀.heap.objs.size<=b)/\b≠X.env.locals/\(∀x c,X.env.cells.lookup x=some c->c≠b)/\∀p∈X.pn++pins,p.1≠b)
  (keep:∀b o,b≠X.env.locals->b∉X.fs->b∉ch->s.heap.get? b=some o->H b=none->h'.get? b=some o)
  (slot:∀b o,b≠X.env.locals->b∈X.fs->b∉ch->s.heap.get? b=some o->H b=none->∃sl,h'.get? b=some { o with slots:=sl }) (free:∀b o,b∉ch->s.heap.get? b=some o->H b=none->H' b=none)
  (there:∀b o,b∉ch->s.heap.get? b=some o->∃o',h'.get? b=some o')
  (jQ:∀b xs,H b=some (.tup xs)->H' b=some (.tup xs)) (jr:∀b o u,H b=some (.frz o u)->H' b=some (.frz o u)) (ky:∀b ps,H b=some (.tbl ps)->∃more,H' b=some (.tbl (ps++more)))
  (ns:∀m,s.heap.Ns X.env.locals m->h'.Ns X.env.locals m) (bq:ji X.prog X.w H' h') (hg:Qdy g') :
  Inv X pins σ H' { s with heap:=h',gens:=g',drawn:=d',toks:=t' }:=by
 have neL:∀b o,X.s₀.heap.get? b=some o->b≠X.env.locals:=fun b o e=>Jm (Jt (Jf e) I.ok.above);have T7:∀b o,X.s₀.heap.get? b=some o->b∉X.ex->b∉ch:=fun b o e hx hb=>by
  rcases(zE b hb).1 with z|z
  ·exact hx z
  ·exact absurd (Jt (Jf e) z) (Uh _)
 have cellK:∀x c,X.env.cells.lookup x=some c->∀v,s.heap.IsCell c v->h'.IsCell c v:=fun x c e v ⟨o,ho,hd⟩=>by
  have Nd:=fun z=>(zE c z).2.2.1 x c e rfl
  by_cases hc:c∈X.fs
  ·obtain⟨sl,q⟩:=slot c o (I.Ln x c e) hc Nd ho (I.freeC x c e);exact⟨_,q,hd⟩
  ·exact⟨o,keep c o (I.Ln x c e) hc Nd ho (I.freeC x c e),hd⟩
 refine⟨I.ok,I.os,hg,⟨fun b o e n hb hx =>?_,fun b o e n hb hx =>?_,fun b o e n hx =>?_,fun b o e hx =>?_,fun b xs e=>jQ b xs (I.base.jQ b xs e),fun b o xs e=>jr b o xs (I.base.jr b o xs e),fun b ps e =>?_⟩,?_,fun x c e =>?_,?_,fun x c e =>?_,fun p hp =>?_,bq,I.len⟩
 ·exact keep b o (neL b o e) hb (T7 b o e hx) (I.base.keep b o e n hb hx) (I.base.free b o e n hx)
 ·obtain⟨sl,e1⟩:=I.base.slot b o e n hb hx;obtain⟨sl',e2⟩:=slot b _ (neL b o e) hb (T7 b o e hx) e1 (I.base.free b o e n hx);exact⟨sl',e2⟩
 ·obtain⟨o',e1⟩:=I.base.there b o e hx;exact free b o' (T7 b o e hx) e1 (I.base.free b o e n hx)
 ·obtain⟨o',e1⟩:=I.base.there b o e hx;exact there b o' (T7 b o e hx) e1
 ·obtain⟨m1,e1⟩:=I.base.ky b ps e;obtain⟨m2,e2⟩:=ky b _ e1;exact⟨m1++m2,by rw[e2,Array.append_assoc]⟩
 ·obtain⟨m,hn,hl⟩:=I.loc;refine⟨m,ns m hn,fun i x v e1 e2 e3 =>?_⟩;obtain⟨u,r,l⟩:=hl i x v e1 e2 e3;refine⟨u,r,?_⟩
  rcases l with l|⟨k,c,e,z⟩
  ·exact .inl l
  ·exact .inr ⟨k,c,e,cellK x c e _ z⟩
 ·obtain⟨v,z⟩:=I.cell x c e;exact⟨v,cellK x c e v z⟩
 ·obtain⟨m,⟨o,_,_,ho,_⟩,_⟩:=I.loc;exact free _ o (fun z=>(zE _ z).2.1 rfl) ho I.free
 ·obtain⟨v,o,ho,hd⟩:=I.cell x c e;exact free c o (fun z=>(zE c z).2.2.1 x c e rfl) ho (I.freeC x c e)
 ·obtain⟨e,n,ne,nf,d⟩:=I.pin p hp;have Nd:=fun z=>(zE p.1 z).2.2.2 p hp rfl;exact⟨keep p.1 p.2 ne nf Nd e n,free p.1 p.2 Nd e n,ne,nf,d⟩
def Inv.un (I:Inv X pins σ H s)(u:Un X.fs [] H H' s.heap h')(bq:ji X.prog X.w H' h'):Inv X pins σ H' { s with heap:=h',toks:=t' }:=by
 obtain⟨m,⟨o,es,ep,ho,r⟩,_⟩:=id I.loc;obtain⟨sl,hL⟩:=u.any ho I.free (by simp);exact I.step (ch:=[]) (fun _ z=>nomatch z) (fun b o _ hb _ e n=>u.keep b o e n hb (by simp)) (fun b o _ hb _ e n=>u.slot b o e n hb (by simp)) (fun b o _ e n=>u.free b o e n (by simp)) (fun b o _ e=>u.there b o e (by simp)) u.jQ u.jr u.ky (fun m' hm=>by
  obtain⟨o',FO,ep',yx,r'⟩:=hm;rw[ho] at yx;cases yx;exact⟨_,FO,ep',hL,r'⟩) bq I.bare
def Inv.call {d':Drawn}{ch:List Gc}(I:Inv X pins σ H s)(u:Un (lI X.stack) ch H H' s.heap h')(bq:ji X.prog X.w H' h')(hg:Qdy g')
  (zE:∀b∈ch,(b∈X.ex\/X.s₀.heap.objs.size<=b)/\b≠X.env.locals/\(∀x c,X.env.cells.lookup x=some c->c≠b)/\∀p∈X.pn++pins,p.1≠b) :
  Inv X pins σ H' { s with heap:=h',gens:=g',drawn:=d',toks:=t' }:=by
 obtain⟨m,⟨o,es,ep,ho,r⟩,_⟩:=id I.loc;obtain⟨sl,hL⟩:=u.any ho I.free fun z=>(zE _ z).2.1 rfl;exact I.step zE (fun b o hL hb hc e n=>u.keep b o e n (fun z=>(Jx.mp (I.vn b z)).elim hL hb) hc) (fun b o _ _ hc e n=>u.any e n hc) (fun b o hc e n=>u.free b o e n hc) (fun b o hc e=>u.there b o e hc) u.jQ u.jr u.ky (fun m' hm=>by
  obtain⟨o',FO,ep',yx,r'⟩:=hm;rw[ho] at yx;cases yx;exact⟨_,FO,ep',hL,r'⟩) bq hg
def Inv.turned {it:Gc}(I:Inv X pins σ H s)(k:∀b o,b≠it->s.heap.get? b=some o->h'.get? b=some o)(hn:H it=none)(hL:it≠X.env.locals)
  (h1:it∈X.ex\/X.s₀.heap.objs.size<=it) (h2:∀x c,X.env.cells.lookup x=some c->c≠it) (h3:∀p∈X.pn++pins,p.1≠it):Inv X pins σ H { s with heap:=h',toks:=t' }:=by
 have Z7:∀b u,H b=some u->b≠it:=fun b u e z=>by rw[z,hn] at e;cases e
 refine I.step (ch:=[it]) (fun b hb =>?_) (fun b o _ _ hc e _=>k b o (fun z=>hc (by simp[z])) e) (fun b o _ _ hc e _=>⟨o.slots,k b o (fun z=>hc (by simp[z])) e⟩) (fun _ _ _ _ n=>n)
  (fun b o hc e=>⟨o,k b o (fun z=>hc (by simp[z])) e⟩) (fun _ _ e=>e) (fun _ _ _ e=>e) (fun b ps e=>⟨#[],by rw[e];simp⟩) (fun m hm =>?_) (fun b u e =>?_) I.bare
 ·have e:b=it:=by simpa using hb
  subst e;exact⟨h1,hL,h2,h3⟩
 ·obtain⟨o,es,ep,ho,r⟩:=hm;exact⟨o,es,ep,k _ o (QaA hL) ho,r⟩
 ·refine(I.bq b u e).gI (fun c v hc q=>k c v ?_ q) (fun _ q=>q) fun _ _ q=>q
  rcases hc with z|z
  ·rw[z];exact Z7 b u e
  ·exact Z7 c _ z
def Inv.tok (I:Inv X pins σ H s)(t:Nat):Inv X pins σ H { s with toks:=t }:=I.un Un.refl I.bq
def Inv.kept (I:Inv X pins σ H s)(k:∀b u,s.heap.get? b=some u->h'.get? b=some u):Inv X pins σ H { s with heap:=h',toks:=t' }:=I.un (Un.kept k) (I.bq.kept k)
def Inv.laid {a:Gc}{o:HO}{t':Nat}(I:Inv X pins σ H s)(k:∀b u,s.heap.get? b=some u->h'.get? b=some u)(hp:s.heap.objs.size<=a)(new:bw X.prog X.w (upd H a o) h' a o):
  Inv X pins σ (upd H a o) { s with heap:=h',toks:=t' }:=I.un (Un.laid k hp (I.bq.fresh hp)) (I.bq.laid k hp new)
def Inv.write (I:Inv X pins σ H s)(mu:R0 (H x))(he:e=x\/H e=some (.own x))(k:∀b u,b≠e->s.heap.get? b=some u->h'.get? b=some u)(Qe:∃u,h'.get? e=some u)
  (new:bw X.prog X.w (upd H x o) h' x o):Inv X pins σ (upd H x o) { s with heap:=h',toks:=t' }:=I.un (Un.write mu he k Qe) (I.bq.write mu he k Qe new)
def Inv.weak (I:Inv X pins σ H s)(hl: σ'.length = σ.length)(w:∀(i:Nat) v,σ'[i]? = some (some v) -> σ[i]? = some (some v)):Inv X pins σ' H s:=
 ⟨I.ok,I.os,I.bare,I.base,let ⟨m,hn,Dl⟩:=I.loc; ⟨m,hn,fun i x v e1 e2 e3=>Dl i x v e1 (w i v e2) e3⟩,I.cell,I.free,I.freeC,I.pin,I.bq,hl.trans I.len⟩
def Inv.pF (I:Inv X pins σ H s)(h:∀p∈oJ,s.heap.get? p.1=some p.2/\H p.1=none/\p.1≠X.env.locals/\p.1∉X.fs/\∀v,p.2.data ≠ .cell v):Inv X oJ σ H s:=
 ⟨I.ok,I.os,I.bare,I.base,I.loc,I.cell,I.free,I.freeC,fun p hp=>(Uq.mp hp).elim (fun z=>I.pin p (Yh _ z)) (h p),I.bq,I.len⟩
def rX {N:List Str}(hN:N.Nodup){i j:Nat}{x:Str}(a:N[i]? = some x)(b:N[j]? = some x):i=j:=by
 obtain⟨h1,e1⟩:=Jq.mp a;obtain⟨h2,e2⟩:=Jq.mp b;exact(List.getElem_inj hN).mp (e1.trans e2.symm)
def tJ {i:Nat}{x:Str}{v:V}{u:Fk}{Q:Unit->KE->Prop}(I:Inv X pins σ H s)(hN:X.N.Nodup)(hi:X.N[i]? = some x)(hx:Loc X.env.scope x)(r:RelV v u)
  (h:∀s',Inv X pins (σ.set i (some v)) H s'->(∃a,U6 a s.heap s'.heap/\(a=X.env.locals\/X.env.cells.lookup x=some a))->Q () s') (hf:X.fn x=true\/X.env.scope.names.lookup x=some .local:=by first|exact .inl rfl|exact .inr rfl|assumption):Qac M A (storeName X.env x u) Q E s:=by
 obtain⟨m,hn,hl⟩:=id I.loc;have Z6:i < σ.length:=by rw[I.len];exact(Jq.mp hi).1
 have Ln:=I.Ln;have tracked:∀{a:Gc} {h':Heap},(∃o,s.heap.get? a=some o/\H a=none)->U6 a s.heap h'->ji X.prog X.w H h':=fun{a h'} ha hs b ob e=>by
  obtain⟨_,_,CN⟩:=ha;refine(I.bq b ob e).gI (fun c w' hc q=>(hs.2 c ?_).trans q) (fun _ q=>q) fun _ _ q=>q;rintro rfl
  rcases hc with rfl|hc
  ·rw[CN] at e;cases e
  ·rw[CN] at hc;cases hc
 rcases hx with hk|hk
 ·refine wpAny_storeName_local hk hn (fun h' hn' hs =>?_) (by rw[I.ok.kind];rfl);obtain⟨oL,_,_,hoL,_⟩:=id hn;refine h _ ⟨I.ok,I.os,I.bare,⟨fun b o e n hb hx =>?_,fun b o e n hb hx =>?_,I.base.free,fun b o e hx =>?_,I.base.jQ,I.base.jr,I.base.ky⟩,⟨_,hn',fun j y v' e1 e2 e3 =>?_⟩,fun y c e =>?_,I.free,I.freeC,fun p hp =>?_,tracked ⟨oL,hoL,I.free⟩ hs,by simpa using I.len⟩ ⟨_,hs,.inl rfl⟩
  ·exact(hs.2 b (Jm (Jt (Jf e) I.ok.above))).trans (I.base.keep b o e n hb hx)
  ·obtain⟨sl,e1⟩:=I.base.slot b o e n hb hx;exact⟨sl,(hs.2 b (Jm (Jt (Jf e) I.ok.above))).trans e1⟩
  ·obtain⟨o',e1⟩:=I.base.there b o e hx;exact⟨o',(hs.2 b (Jm (Jt (Jf e) I.ok.above))).trans e1⟩
  ·by_cases hj:j=i
   ·subst hj;rw[hi] at e1;cases e1;rw[Yk Z6] at e2;cases e2;exact⟨u,r,.inl ⟨hk,by simp⟩⟩
   ·rw[Yi (QaA hj)] at e2;obtain⟨u',r',q⟩:=hl j y v' e1 e2 e3;refine⟨u',r',?_⟩
    rcases q with ⟨k,e⟩|⟨k,c,e,z⟩
    ·refine .inl ⟨k,?_⟩;have:y≠x:=fun e=>hj (rX hN e1 (e▸hi));simp[this,e]
    ·exact .inr ⟨k,c,e,z.sameBut hs (Ln y c e)⟩
  ·obtain⟨w',z⟩:=I.cell y c e;exact⟨w',z.sameBut hs (Ln y c e)⟩
  ·obtain⟨e,n,ne,nf,d⟩:=I.pin p hp;exact⟨(hs.2 p.1 ne).trans e,n,ne,nf,d⟩
 ·have ZE:X.fn x=true:=by
   rcases hf with z|z
   ·exact z
   ·rw[z] at hk;cases hk
  obtain⟨c,hc⟩:=I.ok.has x (.inl hk);obtain⟨w',z⟩:=I.cell x c hc;refine wpAny_storeName_cell I.ok.kind hk hc z (fun h' hc' hs =>?_);obtain⟨oc,hoc,hocd⟩:=id z;refine h { s with heap:=h' } ⟨I.ok,I.os,I.bare,⟨fun b o e n hb hx =>?_,fun b o e n hb hx =>?_,I.base.free,fun b o e hx =>?_,I.base.jQ,I.base.jr,I.base.ky⟩,⟨m,hn.sameBut hs (QaA (Ln x c hc)),fun j y v' e1 e2 e3 =>?_⟩,fun y c' e =>?_,I.free,I.freeC,fun p hp =>?_,tracked ⟨oc,hoc,I.freeC x c hc⟩ hs,by simpa using I.len⟩ ⟨c,hs,.inr hc⟩
  ·exact(hs.2 b (Jm (Jt (Jf e) (I.ok.cab x c ZE hc)))).trans (I.base.keep b o e n hb hx)
  ·obtain⟨sl,e1⟩:=I.base.slot b o e n hb hx;exact⟨sl,(hs.2 b (Jm (Jt (Jf e) (I.ok.cab x c ZE hc)))).trans e1⟩
  ·obtain⟨o',e1⟩:=I.base.there b o e hx;exact⟨o',(hs.2 b (Jm (Jt (Jf e) (I.ok.cab x c ZE hc)))).trans e1⟩
  ·by_cases hj:j=i
   ·subst hj;rw[hi] at e1;cases e1;rw[Yk Z6] at e2;cases e2;exact⟨u,r,.inr ⟨.inl hk,c,hc,hc'⟩⟩
   ·rw[Yi (QaA hj)] at e2;obtain⟨u',r',q⟩:=hl j y v' e1 e2 e3;refine⟨u',r',?_⟩
    rcases q with q|⟨k,c',e,z'⟩
    ·exact .inl q
    ·refine .inr ⟨k,c',e,z'.sameBut hs ?_⟩;rintro rfl;exact hj (rX hN e1 (I.ok.inj _ _ _ e hc▸hi))
  ·by_cases hcc:c'=c
   ·subst hcc;exact⟨_,hc'⟩
   ·obtain⟨w2,z2⟩:=I.cell y c' e;exact⟨w2,z2.sameBut hs hcc⟩
  ·obtain⟨e,n,ne,nf,d⟩:=I.pin p hp;refine⟨(hs.2 p.1 ?_).trans e,n,ne,nf,d⟩;intro q;rw[q,hoc] at e;exact d w' (by rw[<-(Qap e)];exact hocd)
def lT {i:Nat}{x:Str}{v:V}{u:Fk}{Q:Unit->KE->Prop}(I:Inv X pins σ H s)(hN:X.N.Nodup)(hi:X.N[i]? = some x)(hx:Loc X.env.scope x)(r:RelV v u)
  (h:∀s',Inv X pins (σ.set i (some v)) H s'->Q () s') (hf:X.fn x=true\/X.env.scope.names.lookup x=some .local:=by first|exact .inl rfl|exact .inr rfl|assumption):Qac M A (storeName X.env x u) Q E s:=
 tJ I hN hi hx r (fun s' I' _=>h s' I') hf
def Inv.Ca {ch:List Gc}(I:Inv X pins σ H s)(ho:s'.os=s.os)(u:Un (lI X.stack) ch H H' s.heap s'.heap)(bq:ji X.prog X.w H' s'.heap)(hg:Qdy s'.gens)
  (zE:∀b∈ch,(b∈X.ex\/X.s₀.heap.objs.size<=b)/\b≠X.env.locals/\(∀x c,X.env.cells.lookup x=some c->c≠b)/\∀p∈X.pn++pins,p.1≠b):Inv X pins σ H' s':=by
 obtain⟨h',g',d',t',o'⟩:=s';subst ho;exact I.call u bq hg zE
end
abbrev XK:=Fk->Option Gc->Hp->Prop
abbrev St:=List (Option V)
abbrev VK:=V->Hp->Prop
abbrev TE:=St->Hp->VK->Prop
abbrev TT:=St->Hp->(Bool->Hp->Prop)->Prop
abbrev TA:=St->Hp->(List V->Hp->Prop)->Prop
structure Ends where
 nx:St->Hp->Prop
 rt:VK
 bk:St->Hp->Prop:=fun _ _=>False
 ct:St->Hp->Prop:=fun _ _=>False
abbrev TS:=Ends->St->Hp->Prop
def EP (X:Cx)(pins:List (Gc×Obj))(σ:St)(Q:VK)(u:Fk)(s':KE):Prop:=eZ fun v H'=>Inv X pins σ H' s'/\RelV v u/\Q v H'
def TP (X:Cx)(pins:List (Gc×Obj))(σ:St)(Q:Bool->Hp->Prop)(b:Bool)(s':KE):Prop:=∃H',Inv X pins σ H' s'/\Q b H'
def AP (X:Cx)(pins:List (Gc×Obj))(σ:St)(Q:List V->Hp->Prop)(us:List Fk)(s':KE):Prop:=eZ fun vs H'=>Inv X pins σ H' s'/\Vals vs us/\Q vs H'
instance Vp {X:Cx} {pins:List (Gc×Obj)} {σ:St} {Q:VK} {u:Fk} {s':KE}:aj (EP X pins σ Q u s') (fun G=>∀v H',Inv X pins σ H' s'->RelV v u->Q v H'->G):=⟨fun⟨v,H',a,b,c⟩ _ k=>k v H' a b c⟩
instance V2 {X:Cx} {pins:List (Gc×Obj)} {σ:St} {Q:Bool->Hp->Prop} {b:Bool} {s':KE}:aj (TP X pins σ Q b s') (fun G=>∀H',Inv X pins σ H' s'->Q b H'->G):=⟨fun⟨H',a,c⟩ _ k=>k H' a c⟩
instance Xz {X:Cx} {pins:List (Gc×Obj)} {σ:St} {Q:List V->Hp->Prop} {us:List Fk} {s':KE}:aj (AP X pins σ Q us s') (fun G=>∀vs H',Inv X pins σ H' s'->Vals vs us->Q vs H'->G):=⟨fun⟨v,H',a,b,c⟩ _ k=>k v H' a b c⟩
def SP (X:Cx)(pins:List (Gc×Obj))(D:Ends)(f:Flow)(s':KE):Prop:=
 match f with
 | .next=>eZ fun σ' H'=>Inv X pins σ' H' s'/\D.nx σ' H'
 | .brk=>eZ fun σ' H'=>Inv X pins σ' H' s'/\D.bk σ' H'
 | .cont=>eZ fun σ' H'=>Inv X pins σ' H' s'/\D.ct σ' H'
 | .ret u=>qM fun v σ' H'=>Inv X pins σ' H' s'/\RelV v u/\D.rt v H'
def PE (X:Cx)(e:QaB)(t:TE):Prop:=
 ∀ ⦃pins:List (Gc×Obj)⦄ (s:KE) (σ:St) (H:Hp) (Q:VK),Inv X pins σ H s->t σ H Q->Qac (Qab X.prog X.w) X.A (QaL e X.env) (EP X pins σ Q) X.xe s
def PT (X:Cx)(e:QaB)(t:TT):Prop:=
 ∀ ⦃pins:List (Gc×Obj)⦄ (s:KE) (σ:St) (H:Hp) (Q:Bool->Hp->Prop),Inv X pins σ H s->t σ H Q->Qac (Qab X.prog X.w) X.A (isTrue e X.env (QaL e X.env)) (TP X pins σ Q) X.xe s
def PW (X:Cx)(e:QaB)(t:TT):Prop:=
 ∀ ⦃whole:Sem Fk⦄ ⦃pins:List (Gc×Obj)⦄ (s:KE) (σ:St) (H:Hp) (Q:Bool->Hp->Prop),Inv X pins σ H s->t σ H Q->Qac (Qab X.prog X.w) X.A (isTrue e X.env whole) (TP X pins σ Q) X.xe s
def PW.pt (h:PW X e t):PT X e t:=fun pins s σ H Q I q=>h s σ H Q I q
def PA (X:Cx)(es:List QaB)(t:TA):Prop:=
 ∀ ⦃pos:Pos⦄ ⦃pins:List (Gc×Obj)⦄ (s:KE) (σ:St) (H:Hp) (Q:List V->Hp->Prop),Inv X pins σ H s->t σ H Q->Qac (Qab X.prog X.w) X.A (spliced (QbU pos (Qaj es X.env))) (AP X pins σ Q) X.xe s
def PS (X:Cx)(st:QdC)(t:TS):Prop:=
 ∀ ⦃pins:List (Gc×Obj)⦄ (s:KE) (σ:St) (H:Hp) (D:Ends),Inv X pins σ H s->t D σ H->Qac (Qab X.prog X.w) X.A (exec st X.env) (SP X pins D) X.xe s
def zB (X:Cx)(st:List QdC)(t:TS):Prop:=
 ∀ ⦃pins:List (Gc×Obj)⦄ (s:KE) (σ:St) (H:Hp) (D:Ends),Inv X pins σ H s->t D σ H->Qac (Qab X.prog X.w) X.A (execs st X.env) (SP X pins D) X.xe s
def bg {M:Model}{A:Qax}{E:Fk->KE->Prop}{s:KE}(h:Qac M A t Q E s)(hQ:∀a s,Q a s->Q' a s):Qac M A t Q' E s:=Qbc h hQ fun _ _ x=>x
section
variable {X:Cx}
def Ow (i:Nat):TE:=fun σ H Q=>∃v,σ[i]? = some (some v)/\Q v H
def tC (v:V):TE:=fun _ H Q=>Q v H
def Oj {pos:Pos}(hN:X.N[i]? = some x)(hv:Ra X.env.scope x)(hd:(x==("__debug__" : Str))=false:=by decide)(zU:(x==("__classdict__" : Str))=false:=by decide):PE X (.Name x pos) (Ow i):=by
 intro pins s σ H Q I h;obtain⟨v,e,h⟩:=h;obtain⟨m,hn,hl⟩:=I.loc;obtain⟨u,r,l⟩:=hl i x v hN e hv;have fin:EP X pins σ Q u s:=⟨v,H,I,r,h⟩
 rcases l with ⟨hk,hm⟩|⟨hk,c,hc,hcell⟩
 ·exact wpAny_Name (wpAny_loadName_local I.ok.kind hk hn hm fin) hd
 ·rcases hk with hk|hk
  ·exact wpAny_Name (wpAny_loadName_cell I.ok.kind hk hc hcell fin) hd
  ·exact wpAny_Name (wpAny_loadName_free I.ok.kind hk hc hcell fin zU) hd
def ai:PE X (.Constant (.int i) j pos) (tC (.int i)):=fun _ _ _ H _ I h=>wpAny_Constant_int ⟨.int i,H,I.tok _,⟨_,rfl⟩,h⟩
def jH:PE X (.Constant (.bool b) j pos) (tC (.bl b)):=fun _ _ _ H _ I h=>Constant_bool ⟨.bl b,H,I,rfl,h⟩
def bR:PE X (.Constant .none j pos) (tC .non):=fun _ _ _ H _ I h=>Constant_none ⟨.non,H,I,rfl,h⟩
def ax:PE X (.Constant (.str x) j pos) (tC (.str x)):=fun _ _ _ H _ I h=>Calls.Constant_str ⟨.str x,H,I.tok _,⟨_,rfl⟩,h⟩
def Gl (X:Cx)(x:Str):Prop:=X.env.kindOf x=some .globalImplicit
def iL {pins:List (Gc×Obj)}{s:KE}{σ:St}{H:Hp}{x:Str}{u:Fk}{pos:Pos}{Q:Fk->KE->Prop}(I:Inv X pins σ H s)(hg:Gl X x)(hm:X.mg x=some u)(h:Q u s)
  (hd:(x==("__debug__" : Str))=false:=by decide):Qac (Qab X.prog X.w) X.A (QaL (.Name x pos) X.env) Q E s:=
 Qe1 I.ok.kind hg (Calls.loadGlobal_global (by rw[I.ok.glob];exact I.mod.glob.keeps I.bk) hm h) hd
def dW {E:Fk->KE->Prop}{pins:List (Gc×Obj)}{s:KE}{σ:St}{H:Hp}{x:Str}{u:Fk}{pos:Pos}{Q:Fk->KE->Prop}(I:Inv X pins σ H s)(hg:Gl X x)(hm:X.mg x=none)(hv:QaR x=some u)(h:Q u s)
  (hn:x ≠ "__name__":=by decide) (hd:(x==("__debug__" : Str))=false:=by decide):Qac (Qab X.prog X.w) X.A (QaL (.Name x pos) X.env) Q E s:=by
 obtain⟨mb,h1,h2⟩:=I.mod.blt;exact Qe1 I.ok.kind hg (Calls.loadGlobal_builtin (by rw[I.ok.glob];exact I.mod.glob.keeps I.bk) hm (by rw[I.ok.blt];exact h1.keeps I.bk) ((h2 x hn).trans hv) h) hd
def wH {u:Fk}{pos:Pos}(hg:Gl X x)(hm:X.mg x=some u)(r:RelV v u)(hd:(x==("__debug__" : Str))=false:=by decide):PE X (.Name x pos) (tC v):=
 fun _ _ _ H _ I h=>iL I hg hm ⟨v,H,I,r,h⟩ hd
def bH {u:Fk}{pos:Pos}(hg:Gl X x)(hm:X.mg x=none)(hv:QaR x=some u)(r:RelV v u)(hn:x ≠ "__name__":=by decide)(hd:(x==("__debug__" : Str))=false:=by decide):PE X (.Name x pos) (tC v):=
 fun _ _ _ H _ I h=>dW I hg hm hv ⟨v,H,I,r,h⟩ hn hd
variable {a b:QaB}{ta tb:TE}{pos:Pos}
def PC (X:Cx)(op:CmpOp)(a b:QaB)(t:TE):Prop:=
 ∀ ⦃pins:List (Gc×Obj)⦄ (s:KE) (σ:St) (H:Hp) (Q:VK),Inv X pins σ H s->t σ H Q ->
  Qac (Qab X.prog X.w) X.A (QaL a X.env) (fun v s₁=>Qac (Qab X.prog X.w) X.A (QaL b X.env) (fun u s₂=>Qac (Qab X.prog X.w) X.A (QaF op v u) (EP X pins σ Q) X.xe s₂) X.xe s₁) X.xe s
def tB (t:TE):TT:=fun σ H Q=>t σ H fun x H1=>∃c,x = .bl c/\Q c H1
def Oy (h:PC X op a b t)(h1:QdB op b=false:=by first|exact nobehind _ rfl rfl|rfl):PT X (.Compare a [op] [b] pos) (tB t):=by
 refine fun pins s σ H Q I hw=>wpAny_isTrue_Compare1 (bg (h s σ H _ I hw) fun v s1 h1=>bg h1 fun u s2 h2=>bg h2 fun c s3 hz_=>aj.el hz_ _ fun x H1 I1 r1 q1 =>?_) h1;obtain⟨d,rfl,q⟩:=q1;cases r1;exact Qbh ⟨H1,I1,q⟩
def cp (h:PE X e t)(he:∀whole,isTrue e X.env whole=(do let v <-whole;standAt e.pos;holding [v] (truthy v)):=by intro _;rfl):PT X e (tB t):=by
 refine fun pins s σ H Q I hw=>isTrue_plain (bg (h s σ H _ I hw) fun v s1 hz_=>aj.el hz_ _ fun x H1 I1 r1 q1 =>?_) (he _);obtain⟨d,rfl,q⟩:=q1;cases r1;exact Qbh ⟨H1,I1,q⟩
variable {tA tB':TT}{rest:List QaB}
def tOr (t u:TT):TT:=fun σ H Q=>t σ H fun c H1=>if c=true then Q true H1 else u σ H1 Q
def YW (t:TT):TT:=fun σ H Q=>t σ H fun c H1=>Q (!c) H1
def gR (ha:PT X a tA):PW X (.BoolOp .Or [a] pos) tA:=by
 refine fun wh pins s σ H Q I h=>isTrue_or (bg (ha s σ H Q I h) fun c s1 e =>?_);cases c with
 | false=>exact isTrue_or_nil e
 | true=>exact e
def jg (ha:PT X a tA)(hb:PW X (.BoolOp .Or (b::rest) pos) tB'):PW X (.BoolOp .Or (a::b::rest) pos) (tOr tA tB'):=by
 refine fun wh pins s σ H Q I h=>isTrue_or (bg (ha s σ H _ I h) fun c s1 hz_=>aj.el hz_ _ ?_);rintro H1 I1 q1;cases c with
 | true=>exact⟨H1,I1,q1⟩
 | false=>exact hb s1 σ H1 Q I1 q1
def de (ha:PT X a tA):PT X (.UnaryOp .Not a pos) (YW tA):=
 fun pins s σ H Q I h=>isTrue_not (ha s σ H (fun c H1=>Q (!c) H1) I h)
def SS (ta tb:TE):TE:=fun σ H Q=>ta σ H fun x H1=>∃c,x = .bl c/\if c=true then tb σ H1 Q else Q (.bl false) H1
def Qv (ta:TE):TE:=fun σ H Q=>ta σ H fun x H1=>∃c,x = .bl c/\Q (.bl (!c)) H1
def lD {t:TE}(h:PE X a t):PE X (.BoolOp op [a] pos) t:=fun pins s σ H Q I hw=>BoolOp_one (h s σ H Q I hw)
def fG (ha:PE X a ta)(hb:PE X (.BoolOp .And (b::rest) pos) tb):PE X (.BoolOp .And (a::b::rest) pos) (SS ta tb):=by
 refine fun pins s σ H Q I h=>BoolOp_and (bg (ha s σ H _ I h) fun v s1 hz_=>aj.el hz_ _ ?_);rintro x H1 I1 r1 q1;obtain⟨c,rfl,q1⟩:=q1;cases r1;refine Qbh ?_;cases c with
 | true=>exact hb s1 σ H1 Q I1 q1
 | false=>exact⟨.bl false,H1,I1,rfl,q1⟩
def HE (ha:PE X a ta):PE X (.UnaryOp .Not a pos) (Qv ta):=by
 refine fun pins s σ H Q I h=>UnaryOp_ (bg (ha s σ H _ I h) fun v s1 hz_=>aj.el hz_ _ ?_);rintro x H1 I1 r1 q1;obtain⟨c,rfl,q1⟩:=q1;cases r1;exact not_of (Qbh ⟨.bl (!c),H1,I1,rfl,q1⟩)
def V4 (t:TT)(ta tb:TE):TE:=fun σ H Q=>t σ H fun c H1=>if c=true then ta σ H1 Q else tb σ H1 Q
def iz (hc:PT X c tA)(ha:PE X a ta)(hb:PE X b tb):PE X (.IfExp c a b pos) (V4 tA ta tb):=by
 refine fun pins s σ H Q I h=>wpAny_IfExp (bg (hc s σ H _ I h) fun d s1 hz_=>aj.el hz_ _ ?_);rintro H1 I1 q1;cases d with
 | true=>exact ha s1 σ H1 Q I1 q1
 | false=>exact hb s1 σ H1 Q I1 q1
end
def bA (K:Ja)(H:Hp)(a:Gc)(xs:List V):Prop:=
 Rd H a (.lst xs) \/
  qM fun o aw n=>K.lookup a=some o/\o.cls = .type "list" /\ o.dict=none/\o.data = .seq aw n/\aw.size<=Wp/\Vals xs aw.toList
def bG (K:Ja)(H:Hp)(a:Gc)(xs:List V):Prop:=
 Rd H a (.tup xs) \/
  qM fun o aw n=>K.lookup a=some o/\o.cls = .type "tuple" /\ o.dict=none/\o.data = .seq aw n/\aw.size<=Wp/\Vals xs aw.toList
def WJ:Fk->Option V
 | .none=>some .non
 | .bool b=>some (.bl b)
 | .int i _=>some (.int i)
 | .str x _=>some (.str x)
 | .bytes b _=>some (.byt b)
 | .float b _=>some (.flt b)
 | .ref a=>some (.ref a)
 | .type n=>some (.ty n)
 | _=>none
def RelV.abs (r:RelV x u):WJ u=some x:=by
 cases x with
 | non=>cases r;rfl
 | bl _=>cases r;rfl
 | int _=>obtain⟨t,rfl⟩:=r;rfl
 | str _=>obtain⟨t,rfl⟩:=r;rfl
 | byt _=>obtain⟨t,rfl⟩:=r;rfl
 | flt _=>obtain⟨t,rfl⟩:=r;rfl
 | ref _=>cases r;rfl
 | ty _=>cases r;rfl
def RelV.inj {u:Fk}(r:RelV x u)(q:RelV y u):x=y:=Qap (r.abs.symm.trans q.abs)
def Vals.inj {us:List Fk}(h:Vals xs us)(h':Vals ys us):xs=ys:=by
 induction h generalizing ys with
 | nil=>cases h';rfl
 | cons r t ih=>cases h' with|cons r' t'=>rw[RelV.inj r r',ih t']
section
variable {X:Cx}{pins:List (Gc×Obj)}{σ:St}{H:Hp}{s:KE}{a:Gc}{xs ys:List V}
def bA.of {K:Ja}(h:H a=some (.lst xs)):bA K H a xs := .inl (.inl h)
def bG.of {K:Ja}(h:H a=some (.tup xs)):bG K H a xs := .inl (.inl h)
def Inv.list (I:Inv X pins σ H s)(h:bA X.K H a xs):∃aw,Vals xs aw/\PlainL s.heap a aw.toArray/\xs.length<=Wp:=by
 rcases h with h|⟨o,aw,n,hk,hc,hd,hs,hz,r⟩
 ·obtain⟨z,aw,n,r,e⟩:=h.ok I.bq;exact⟨aw,r,⟨_,n,e,rfl,rfl,rfl⟩,z⟩
 ·refine⟨aw.toList,r,⟨o,n,I.iA a o hk,hc,hd,by simpa using hs⟩,?_⟩;have e:=r.length;simp only[Ud] at e;lia
def Inv.tuple (I:Inv X pins σ H s)(h:bG X.K H a xs):∃aw,Vals xs aw/\IsTup s.heap a aw.toArray/\xs.length<=Wp:=by
 rcases h with h|⟨o,aw,n,hk,hc,hd,hs,hz,r⟩
 ·obtain⟨z,aw,r,p⟩:=h.ok I.bq;exact⟨aw,r,p.is,z⟩
 ·refine⟨aw.toList,r,⟨o,I.iA a o hk,hc,n,by simpa using hs⟩,?_⟩;have e:=r.length;simp only[Ud] at e;lia
def Inv.nY (I:Inv X pins σ H s)(h:bG X.K H a xs):∃aw,Vals xs aw/\uS s.heap a aw.toArray/\xs.length<=Wp:=by
 rcases h with h|⟨o,aw,n,hk,hc,hd,hs,hz,r⟩
 ·obtain⟨z,aw,r,p⟩:=h.ok I.bq;exact⟨aw,r,p,z⟩
 ·refine⟨aw.toList,r,⟨o,I.iA a o hk,hd,hc,n,by simpa using hs⟩,?_⟩;have e:=r.length;simp only[Ud] at e;lia
def Inv.pZ (I:Inv X pins σ H s)(h:bA X.K H a xs)(h':bA X.K H a ys):xs=ys:=by
 obtain⟨aw,r,⟨o,n,e,_,_,d⟩,_⟩:=I.list h;obtain⟨its',r',⟨o',n',e',_,_,d'⟩,_⟩:=I.list h';rw[e] at e';cases e';rw[d] at d'
 injection d' with d1 _
 have:aw=its':=by simpa using congrArg Array.toList d1
 subst this;exact r.inj r'
def Inv.tF (I:Inv X pins σ H s)(h:bG X.K H a xs)(h':bG X.K H a ys):xs=ys:=by
 obtain⟨aw,r,⟨o,e,_,n,d⟩,_⟩:=I.tuple h;obtain⟨its',r',⟨o',e',_,n',d'⟩,_⟩:=I.tuple h';rw[e] at e';cases e';rw[d] at d'
 injection d' with d1 _
 have:aw=its':=by simpa using congrArg Array.toList d1
 subst this;exact r.inj r'
end
abbrev Cx.sO (X:Cx)(E:Fk->KE->Prop):Cx:={ X with xe:=E }
abbrev Cx.UY (X:Cx):Cx:=X.sO fun _ _=>False
def Cx.Ok.sO {X:Cx}(ok:X.Ok)(E:Fk->KE->Prop):(X.sO E).Ok:=
 ⟨ok.mod,ok.kind,ok.glob,ok.blt,ok.above,ok.inj,ok.has,ok.cab,ok.hd,ok.frames,ok.stk,ok.exf,ok.bs,ok.bsz,ok.noex,ok.exfs,ok.km,ok.frf⟩
def Cx.Ok.jR {X:Cx}{E:Fk->KE->Prop}(ok:(X.sO E).Ok):X.Ok:=
 ⟨ok.mod,ok.kind,ok.glob,ok.blt,ok.above,ok.inj,ok.has,ok.cab,ok.hd,ok.frames,ok.stk,ok.exf,ok.bs,ok.bsz,ok.noex,ok.exfs,ok.km,ok.frf⟩
section
variable {X:Cx}{pins:List (Gc×Obj)}{σ:St}{H:Hp}{s:KE}{E:Fk->KE->Prop}
def Inv.sO (I:Inv X pins σ H s)(E:Fk->KE->Prop):Inv (X.sO E) pins σ H s:=⟨I.ok.sO E,I.os,I.bare,I.base,I.loc,I.cell,I.free,I.freeC,I.pin,I.bq,I.len⟩
def Inv.jR (I:Inv (X.sO E) pins σ H s):Inv X pins σ H s:=⟨I.ok.jR,I.os,I.bare,I.base,I.loc,I.cell,I.free,I.freeC,I.pin,I.bq,I.len⟩
def SP.jR (h:SP (X.sO E) pins D f s'):SP X pins D f s':=by
 cases f with
 | next=>obtain⟨σ',H',I,q⟩:=h;exact⟨σ',H',I.jR,q⟩
 | brk=>obtain⟨σ',H',I,q⟩:=h;exact⟨σ',H',I.jR,q⟩
 | cont=>obtain⟨σ',H',I,q⟩:=h;exact⟨σ',H',I.jR,q⟩
 | ret u=>obtain⟨v,σ',H',I,r,q⟩:=h;exact⟨v,σ',H',I.jR,r,q⟩
def zB.UY {st:List QdC}{t:TS}(h:zB X.UY st t):zB X st t:=fun pins s σ H D I hw=>
 Qbc (h s σ H D (I.sO _) hw) (fun _ _ q=>q.jR) fun _ _ z=>QaV z
end
section
variable {X:Cx}{st:QdC}{rest:List QdC}{t u:TS}{e:QaB}{te:TE}{pos:Pos}
def bK:TS:=fun D σ H=>D.nx σ H
def JS (t u:TS):TS:=fun D σ H=>t { D with nx:=u D } σ H
def aF:zB X [] bK:=fun _ _ σ H _ I h=>QcX ⟨σ,H,I,h⟩
def af (h1:PS X st t)(h2:zB X rest u):zB X (st::rest) (JS t u):=by
 refine fun pins s σ H D I h=>wpAny_execs_cons (bg (h1 s σ H { D with nx:=u D } I h) fun f s1 q =>?_);cases f with
 | next=>
  obtain⟨σ',H',I',q⟩:=q;exact h2 s1 σ' H' D I' q
 | ret v=>exact q
 | brk=>exact q
 | cont=>exact q
def ag (h1:PS X st t):zB X [st] t:=by
 refine fun pins s σ H D I h=>wpAny_execs_cons (bg (h1 s σ H D I h) fun f s1 q =>?_);cases f with
 | next=>exact QcX q
 | ret v=>exact q
 | brk=>exact q
 | cont=>exact q
def Tp:TS:=fun D σ H=>D.ct σ H
def xS:PS X (.Continue pos) Tp:=fun _ _ σ H _ I h=>wpAny_Continue ⟨σ,H,I,h⟩
def Inv.quiet {σ:St}{H:Hp}{s:KE}(I:Inv X pins σ H s):interactive X.env=false:=by simp[interactive,I.ok.kind]
def SN (te:TE):TS:=fun D σ H=>te σ H fun _ H1=>D.nx σ H1
def lX (he:PE X e te)(hs:Qei e none pos.line X.env=pure false:=by rfl):PS X (.Expr e pos) (SN te):=
 fun pins s σ H D I h=>wpAny_Expr_any (bg (he s σ H _ I h) fun v s1 hz_=>aj.el hz_ _ fun x H1 I1 r1 q1=>⟨σ,H1,I1,q1⟩) I.quiet hs
def X4 (te:TE):TS:=fun D σ H=>te σ H D.rt
def ar (he:PE X e te):PS X (.Return (some e) pos) (X4 te):=
 fun pins s σ H D I h=>wpAny_Return_some (bg (he s σ H _ I h) fun v s1 hz_=>aj.el hz_ _ fun x H1 I1 r1 q1=>⟨x,σ,H1,I1,r1,q1⟩)
def Ll (c:TT)(t u:TS):TS:=fun D σ H=>c σ H fun b H1=>if b=true then t D σ H1 else u D σ H1
def aY {tc:TT}(hc:PT X c tc)(ha:zB X a t)(hb:zB X b u):PS X (.If c a b pos) (Ll tc t u):=by
 refine fun pins s σ H D I h=>wpAny_If (bg (hc s σ H _ I h) fun d s1 hz_=>aj.el hz_ _ ?_);rintro H1 I1 q1;cases d with
 | true=>exact ha s1 σ H1 D I1 q1
 | false=>exact hb s1 σ H1 D I1 q1
end
abbrev TG:=V->St->Hp->(St->Hp->Prop)->Prop
abbrev FR:=List V->St->Hp->(St->Hp->Prop)->Prop
def PG (X:Cx)(target:QaB)(t:TG):Prop:=
 ∀ ⦃pins:List (Gc×Obj)⦄ (s:KE) (σ:St) (H:Hp) (v:V) (u:Fk) (Q:St->Hp->Prop),Inv X pins σ H s->RelV v u->t v σ H Q ->
  Qac (Qab X.prog X.w) X.A (QfQ target X.env u) (fun _ s'=>eZ fun σ' H'=>Inv X pins σ' H' s'/\Q σ' H') X.xe s
def QG (X:Cx)(ts:List QaB)(t:FR):Prop:=
 ∀ ⦃pins:List (Gc×Obj)⦄ (s:KE) (σ:St) (H:Hp) (vs:List V) (us:List Fk) (Q:St->Hp->Prop),Inv X pins σ H s->Vals vs us->t vs σ H Q ->
  Qac (Qab X.prog X.w) X.A (assignInOrder ((QcG ts X.env).map (·.2)) us) (fun _ s'=>eZ fun σ' H'=>Inv X pins σ' H' s'/\Q σ' H') X.xe s
abbrev OD:=V->V->V->Hp->(Hp->Prop)->Prop
def S9 (X:Cx)(t:OD):Prop:=
 ∀ ⦃pins:List (Gc×Obj)⦄ (s:KE) (σ:St) (H:Hp) (o i v:V) (ov iv u:Fk) (Q:Hp->Prop),Inv X pins σ H s->RelV o ov->RelV i iv->RelV v u->t o i v H Q ->
  Qac (Qab X.prog X.w) X.A (setItem ov iv u) (fun _ s'=>∃H',Inv X pins σ H' s'/\Q H') X.xe s
abbrev WX:=V->V->Hp->VK->Prop
def WW (X:Cx)(op:Operator)(t:WX):Prop:=
 ∀ ⦃pins:List (Gc×Obj)⦄ (s:KE) (σ:St) (H:Hp) (x y:V) (v u:Fk) (Q:VK),Inv X pins σ H s->RelV x v->RelV y u->t x y H Q ->
  Qac (Qab X.prog X.w) X.A (inplaceOp op v u) (EP X pins σ Q) X.xe s
section
variable {X:Cx}{pos:Pos}
def uh (i:Nat):TG:=fun v σ H Q=>Q (σ.set i (some v)) H
def aD (hN:X.N.Nodup)(hi:X.N[i]? = some x)(hx:Loc X.env.scope x)(hf:X.fn x=true\/X.env.scope.names.lookup x=some .local:=by first|exact .inl rfl|exact .inr rfl|assumption):PG X (.Name x pos) (uh i):=
 fun pins s σ H v u Q I r h=>wpAny_assign_Name (lT I hN hi hx r (fun s' I'=>⟨_,H,I',h⟩) hf)
def Nl:FR:=fun vs σ H Q=>vs=[]/\Q σ H
def Gz (t:TG)(u:FR):FR:=fun vs σ H Q=>eZ fun v r=>vs=v::r/\t v σ H fun σ' H'=>u r σ' H' Q
def bU:QG X [] Nl:=by
 intro pins s σ H vs us Q I r h;obtain⟨e,h⟩:=h;subst e;cases r;exact assignInOrder_nil ⟨σ,H,I,h⟩
def aM {t:TG}{u:FR}(h1:PG X e t)(h2:QG X es u)
  (hs:(QcG (e::es) X.env).map (·.2)=QfQ e X.env::(QcG es X.env).map (·.2):=by rfl):QG X (e::es) (Gz t u):=by
 intro pins s σ H vs us Q I r h;obtain⟨v,vr,e1,h⟩:=h;subst e1;cases r with
 | cons r rr=>
  rw[hs];refine assignInOrder_cons (bg (h1 s σ H _ _ _ I r h) fun _ s1 hz_=>aj.el hz_ _ ?_);rintro σ1 H1 I1 q1;exact h2 s1 σ1 H1 _ _ Q I1 rr q1
def NF (K:Ja)(n:Nat)(t:FR):TG:=fun v σ H Q=>eZ fun a xs=>v = .ref a/\bG K H a xs/\xs.length=n/\t xs σ H Q
def P0 {k:Nat}{t:FR}{n:Nat}(hc:X.calm=true)(h:QG X es t)
  (hn:(QcG es X.env).length=n:=by rfl) (kK:(QcG es X.env).findIdx? (·.1)=none:=by rfl):PG X (.Tuple es k pos) (NF X.K n t):=by
 intro pins s σ H v u Q I r hw;obtain⟨a,xs,e1,hq,hl,hw⟩:=hw;subst e1;cases r;obtain⟨aw,rv,ht,hz⟩:=I.tuple hq;refine assign_Tuple_tuple (I.ok.hd hc) ht (by simp[hn,<-hl,rv.length]) kK fun h' hx =>?_;have I1:Inv X pins σ H { s with heap:=h' }:=I.kept fun b o e=>hx b o (Jm (Jf e)) e;exact h _ σ H xs _ Q I1 (by simpa using rv) hw
def V0 (to ti:TE)(t:OD):TG:=fun v σ H Q=>to σ H fun o H1=>ti σ H1 fun i H2=>t o i v H2 fun H3=>Q σ H3
def P8 {to ti:TE}{t:OD}(ho:PE X o to)(hi:PE X i ti)(hs:S9 X t)
  (ha:∀v,QfQ (.Subscript o i pos) X.env v=(do
   let ov <-holding [v] (QaL o X.env)
   let iv <-holding [v,ov] (QaL i X.env)
   standAt pos
   holding [v,ov,iv] (setItem ov iv v)
   release [v,ov,iv] []):=by intro _;rfl):PG X (.Subscript o i pos) (V0 to ti t):=by
 refine fun pins s σ H v u Q I r h=>be (Qak (bg (ho s σ H _ I h) fun ov s1 hz_=>aj.el hz_ _ ?_));rintro x H1 I1 r1 q1;refine be (Qak (bg (hi s1 σ H1 _ I1 q1) fun iv s2 hz_=>aj.el hz_ _ ?_));rintro y H2 I2 r2 q2;refine be (Qbm (be (Qak (bg (hs s2 σ H2 x y v ov iv u _ I2 r1 r2 r q2) fun _ s3 hz_=>aj.el hz_ _ ?_))));rintro H3 I3 q3;exact wpAny_release ⟨σ,H3,I3,q3⟩
def Li (te:TE)(g:TG):TS:=fun D σ H=>te σ H fun x H1=>g x σ H1 D.nx
def j1 {tg e:QaB}{te:TE}{g:TG}(he:PE X e te)(hg:PG X tg g)(hs:swapsWithSole [tg] e pos.line X.env=pure false:=by rfl)(hw:swappedStores [tg] e X.env=pure none:=by rfl)
  (h1:(QcG [tg] X.env).map (·.2)=[QfQ tg X.env]:=by rfl):PS X (.Assign [tg] e pos) (Li te g):=by
 refine fun pins s σ H D I h=>wpAny_Assign_stores (bg (he s σ H _ I h) fun v s1 hz_=>aj.el hz_ _ fun x H1 I1 r1 q1 =>?_) hs hw;rw[h1];exact bg (hg s1 σ H1 x v _ I1 r1 q1) fun _ s2 q=>q
def aE (hN:X.N.Nodup)(hi:X.N[i]? = some x)(hx:Loc X.env.scope x)(he:PE X e te)(hs:Qei e (some (.Name x pos')) pos.line X.env=pure false:=by rfl)(hf:X.fn x=true\/X.env.scope.names.lookup x=some .local:=by first|exact .inl rfl|exact .inr rfl|assumption):
  PS X (.Assign [.Name x pos'] e pos) (Li te (uh i)):=
 fun pins s σ H D I h=>wpAny_Assign_Name (bg (he s σ H _ I h) fun v s1 hz_=>aj.el hz_ _ fun y H1 I1 r1 q1=>(lT I1 hN hi hx r1 (fun s2 I2=>⟨_,H1,I2,q1⟩) hf)) hs
def ZU (i:Nat)(te:TE)(ti:WX):TS:=fun D σ H=>∃x,σ[i]? = some (some x)/\te σ H fun y H1=>ti x y H1 fun z H2=>D.nx (σ.set i (some z)) H2
def vh (hN:X.N.Nodup)(hi:X.N[i]? = some x)(hx:Loc X.env.scope x)(he:PE X e te)(ho:WW X op ti)(hf:X.fn x=true\/X.env.scope.names.lookup x=some .local:=by first|exact .inl rfl|exact .inr rfl|assumption):
  PS X (.AugAssign (.Name x pos') op e pos) (ZU i te ti):=by
 intro pins s σ H D I h;obtain⟨v,e1,h⟩:=h;obtain⟨m,hn,hl⟩:=I.loc;obtain⟨u,r,l⟩:=hl i x v hi e1 (by rcases hx with k|k;exact .inl k;exact .inr (.inl k));refine wpAny_AugAssign_Name ?_;have go:Qac (Qab X.prog X.w) X.A (QaL e X.env) (fun w s₂=>Qac (Qab X.prog X.w) X.A (inplaceOp op u w) (fun r s₃=>Qac (Qab X.prog X.w) X.A (storeName X.env x r) (fun _=>SP X pins D .next) X.xe s₃) X.xe s₂) X.xe s:=by
  refine bg (he s σ H _ I h) fun w s1 hz_=>aj.el hz_ _ ?_;rintro y H1 I1 r1 q1;refine bg (ho s1 σ H1 v y u w _ I1 r r1 q1) fun z s2 hz_=>aj.el hz_ _ ?_;rintro zv H2 I2 r2 q2;exact lT I2 hN hi hx r2 (fun s3 I3=>⟨_,H2,I3,q2⟩) hf
 rcases l with ⟨hk,hm⟩|⟨hk,c,hc,hcell⟩
 ·exact wpAny_loadName_local I.ok.kind hk hn hm go
 ·rcases hk with hk|hk
  ·exact wpAny_loadName_cell I.ok.kind hk hc hcell go
  ·rcases hx with k|k
   ·have:X.env.scope.names.lookup x=some .free:=hk;rw[k] at this;cases this
   ·have:X.env.scope.names.lookup x=some .free:=hk;rw[k] at this;cases this
def ipI (f:Int->Int->Int):WX:=fun x y H Q=>eZ fun i j=>x = .int i/\y = .int j/\Q (.int (f i j)) H
def Gu:WW X .Add (ipI fun i j=>i+j):=by
 intro pins s σ H x y v u Q I r1 r2 h;obtain⟨i,j,e1,e2,q⟩:=h;subst e1;subst e2;obtain⟨t,rfl⟩:=r1;obtain⟨t',rfl⟩:=r2;exact iadd_int ⟨.int _,H,I.tok _,⟨_,rfl⟩,q⟩
def Ph:WW X .Sub (ipI fun i j=>i-j):=by
 intro pins s σ H x y v u Q I r1 r2 h;obtain⟨i,j,e1,e2,q⟩:=h;subst e1;subst e2;obtain⟨t,rfl⟩:=r1;obtain⟨t',rfl⟩:=r2;exact isub_int ⟨.int _,H,I.tok _,⟨_,rfl⟩,q⟩
end
section
variable {X:Cx}{pos:Pos}
def rO (c:TT)(tb:TS):TS:=fun D σ H=>∃W:Nat->St->Hp->Prop,(∃m,W m σ H)/\∀m σ H,W m σ H ->
 c σ H fun b H1=>if b=true then ∃N,(∀ σ' H',N σ' H'->∃m',m'<m/\W m' σ' H')/\tb { D with nx:=N,ct:=N,bk:=D.nx } σ H1 else D.nx σ H1
def rJ {tc:TT}{tb:TS}(hp:PassesOwn (Qab X.prog X.w) X.A X.env X.xe)(hc:PT X c tc)(hb:zB X body tb):PS X (.While c body [] pos) (rO tc tb):=by
 intro pins s σ H D I h;obtain⟨W,⟨m0,w0⟩,turn⟩:=h;refine wpAny_While (codeAny_whileLoop (fun n s'=>∃ σ' H',Inv X pins σ' H' s'/\W n σ' H') ?_ m0 ⟨σ,H,I,w0⟩);rintro n s1 ⟨σ1,H1,I1,w1⟩;refine QbQ hp (bg (hc s1 σ1 H1 _ I1 (turn n σ1 H1 w1)) fun b s2 hz_=>aj.el hz_ _ ?_);rintro H2 I2 q2;cases b with
 | true=>
  obtain⟨N,hN,q2⟩:=q2;refine QbQ hp (bg (hb s2 σ1 H2 _ I2 q2) fun f s3 q3 =>?_);cases f with
  | next=>
   obtain⟨σ3,H3,I3,n3⟩:=q3;obtain⟨m',hm,w3⟩:=hN σ3 H3 n3;exact⟨m',hm,σ3,H3,I3,w3⟩
  | cont=>
   obtain⟨σ3,H3,I3,n3⟩:=q3;obtain⟨m',hm,w3⟩:=hN σ3 H3 n3;exact⟨m',hm,σ3,H3,I3,w3⟩
  | brk=>exact q3
  | ret v=>exact q3
 | false=>
  exact QcX ⟨σ1,H2,I2,q2⟩
end
structure It where
 go:Nat->Hp->Prop
 yld:Nat->Hp->V->Hp->Prop
 stop:Nat->Hp->Prop
def gc (X:Cx)(pins:List (Gc×Obj))(H:Hp)(b:Gc):Prop:=
 H b=none/\b≠X.env.locals/\b∉X.fs/\(b∈X.ex\/X.s₀.heap.objs.size<=b)/\(∀x c,X.env.cells.lookup x=some c->c≠b)/\∀p∈X.pn++pins,p.1≠b
def Inv.eX {σ:St}{H H':Hp}{s:KE}{b:Gc}(I:Inv X pins σ H s)(hb:s.heap.objs.size<=b)(hn:H' b=none):gc X pins H' b:=by
 refine⟨hn,Uj (Jt I.lt hb),I.Tg hb,.inr (Jh I.sz hb),fun x c e z =>?_,fun p hp z =>?_⟩
 ·obtain⟨v,q⟩:=I.cell x c e;exact absurd (Jt q.lt (by rw[z];exact hb)) (Uh _)
 ·exact absurd (Jt (Jf (I.pin p hp).1) (by rw[z];exact hb)) (Uh _)
structure Turn (P:Qaf)(w:Qah)(K:Ja)(tg:QaB)(J:It)(fp:List Gc)(it:Gc)(tn:Nat->Heap->Prop):Prop where
 mem:it∈fp
 obj:∀i h,tn i h->∀b∈fp,∃o,h.get? b=some o/\∀v,o.data ≠ .cell v
 keep:∀i h h',tn i h->(∀b∈fp,∀o,h.get? b=some o->h'.get? b=some o)->tn i h'
 item:∀(X:Cx),X.prog=P->X.w=w->X.K=K->X.calm=true->∀(i:Nat) (pins:List (Gc×Obj)) (s:KE) (σ:St) (H:Hp) (E:Fk->KE->Prop),Inv X pins σ H s->(∀b∈fp,gc X pins H b)->tn i s.heap->J.go i H ->
  Qac (Qab P w) X.A (QbS (.ref it)) (fun r s1=>∃u,r=some u /\
   Qac (Qab P w) X.A (QcZ tg (.ref it) u) (fun _ s2=>∃x H',Inv X pins σ H' s2/\RelV x u/\J.yld i H x H'/\tn (i+1) s2.heap/\∀b∈fp,H' b=none) E s1) E s
 done:∀(X:Cx),X.prog=P->X.w=w->X.K=K->X.calm=true->∀(i:Nat) (pins:List (Gc×Obj)) (s:KE) (σ:St) (H:Hp) (E:Fk->KE->Prop),Inv X pins σ H s->(∀b∈fp,gc X pins H b)->tn i s.heap->J.stop i H ->
  Qac (Qab P w) X.A (QbS (.ref it)) (fun r s1=>r=none/\Inv X pins σ H s1) E s
 self:∀(A:Qax) (i:Nat) (s:KE) (Q:Fk->KE->Prop) (E:Fk->KE->Prop),tn i s.heap->Q (.ref it) s->Qac (Qab P w) A (Qfd (.ref it)) Q E s
abbrev TI:=St->Hp->(It->Hp->Prop)->Prop
def PIE (X:Cx)(pins:List (Gc×Obj))(σ:St)(tg:QaB)(R:It->Hp->Prop)(RH:Fk)(s2:KE):Prop:=
 zg fun it fp tn J H'=>RH = .ref it/\Inv X pins σ H' s2/\Turn X.prog X.w X.K tg J fp it tn/\tn 0 s2.heap/\(∀b∈fp,gc X pins H' b)/\R J H'
def PI (X:Cx)(tg iter:QaB)(wi:TI):Prop:=
 ∀ ⦃pins:List (Gc×Obj)⦄ (s:KE) (σ:St) (H:Hp) (R:It->Hp->Prop),Inv X pins σ H s->wi σ H R ->
  Qac (Qab X.prog X.w) X.A (QaL iter X.env) (fun v s1=>Qac (Qab X.prog X.w) X.A (Qfd v) (PIE X pins σ tg R) X.xe s1) X.xe s
def CH {s:KE}{tg:QaB}{it:Gc}{u:Fk}{o:Obj}{n:String}{vs:Array Fk}{Q:Unit->KE->Prop}(ho:s.heap.get? it=some o)(hc:o.cls = .type n)(hd:o.data = .fields vs)
  (hn:["enumerate", "zip", "dict_itemiterator", "dict_reverseitemiterator", "odict_iterator", "itertools.zip_longest", "itertools.pairwise"].contains n=false) (hQ:Q () s):Qac M A (QcZ tg (.ref it) u) Q E s:=by
 cases tg<;>first
  | exact tz hQ
  | (cases u<;>first
    | exact tz hQ
    | (refine be (QeB ho ?_)
       rw[hc,hd];show Qac M A (if (["enumerate", "zip", "dict_itemiterator", "dict_reverseitemiterator", "odict_iterator", "itertools.zip_longest", "itertools.pairwise"].contains n&&vs[0]? == some (QaW _))=true then _ else _) Q E s;rw[if_neg (by intro h;rw[hn,Yv] at h;cases h)];exact tz hQ))
def So (K:Ja)(a:Gc):It:=
 ⟨fun i H=>eZ fun xs x=>bA K H a xs/\xs[i]? = some x,fun i H x H'=>H'=H/\∀xs,bA K H a xs->xs[i]? = some x,fun i H=>∃xs,bA K H a xs/\xs.length<=i⟩
def Itt (K:Ja)(a:Gc):It:=
 ⟨fun i H=>eZ fun xs x=>bG K H a xs/\xs[i]? = some x,fun i H x H'=>H'=H/\∀xs,bG K H a xs->xs[i]? = some x,fun i H=>∃xs,bG K H a xs/\xs.length<=i⟩
def Qi (lo:Int)(n:Nat):It:=⟨fun i _=>i<n,fun i H x H'=>H'=H/\x = .int (lo+i),fun i _=>n<=i⟩
def Eo {K:Ja}{tg:QaB}(a it:Gc):Turn P w K tg (So K a) [it] it (fun i h=>h.IsListIter it a i) where
 mem:=by simp
 obj:=fun i h st b hb=>by
  have e:b=it:=by simpa using hb
  subst e;obtain⟨o,e,c,d⟩:=st;exact⟨o,e,fun v z=>by rw[d] at z;cases z⟩
 keep:=fun i h h' st k=>st.at fun o e=>k it (by simp) o e
 item:=by
  intro X hP hw hK hc i pins s σ H E I hf st hg;subst hP hw hK;obtain⟨xs,x,hq,hx⟩:=hg;obtain⟨aw,rv,p,hz⟩:=I.list hq;obtain⟨u,hu,ru⟩:=rv.get hx;obtain⟨f0,f1,f2,f3,f4,f5⟩:=hf it (by simp);refine wpAny_pyNext_list_item st p.isList (by simpa using hu) fun h' st' sb =>?_;have I1:Inv X pins σ H { s with heap:=h' }:=I.turned (fun b o hb e=>(sb.2 b hb).trans e) f0 f1 f3 f4 f5;obtain⟨o,e,c,d⟩:=id st';exact⟨u,rfl,CH e c d rfl ⟨x,H,I1,ru,⟨rfl,fun ys hy=>by rw[I.pZ hy hq];exact hx⟩,st',fun b hb=>(hf b hb).1⟩⟩
 done:=by
  intro X hP hw hK hc i pins s σ H E I hf st hg;subst hP hw hK;obtain⟨xs,hq,hx⟩:=hg;obtain⟨aw,rv,p,hz⟩:=I.list hq;obtain⟨f0,f1,f2,f3,f4,f5⟩:=hf it (by simp);have hl:=rv.length;exact wpAny_pyNext_list_end (I.ok.hd hc) st p.isList (by simp;lia) fun h' eb=>⟨rfl,I.turned (fun b o hb e=>eb b o hb e) f0 f1 f3 f4 f5⟩
 self:=fun _ _ _ _ _ st h=>wpAny_pyIter_listiter st h
def AB {K:Ja}{tg:QaB}(a it:Gc):Turn P w K tg (Itt K a) [it] it (fun i h=>h.IsTupleIter it a i) where
 mem:=by simp
 obj:=fun i h st b hb=>by
  have e:b=it:=by simpa using hb
  subst e;obtain⟨o,e,c,d⟩:=st;exact⟨o,e,fun v z=>by rw[d] at z;cases z⟩
 keep:=fun i h h' st k=>st.at fun o e=>k it (by simp) o e
 item:=by
  intro X hP hw hK hc i pins s σ H E I hf st hg;subst hP hw hK;obtain⟨xs,x,hq,hx⟩:=hg;obtain⟨aw,rv,p,hz⟩:=I.tuple hq;obtain⟨u,hu,ru⟩:=rv.get hx;obtain⟨f0,f1,f2,f3,f4,f5⟩:=hf it (by simp);refine wpAny_pyNext_tuple_item st (show s.heap.IsTuple a aw.toArray from p) (by simpa using hu) fun h' st' sb =>?_;have I1:Inv X pins σ H { s with heap:=h' }:=I.turned (fun b o hb e=>(sb.2 b hb).trans e) f0 f1 f3 f4 f5;obtain⟨o,e,c,d⟩:=id st';exact⟨u,rfl,CH e c d rfl ⟨x,H,I1,ru,⟨rfl,fun ys hy=>by rw[I.tF hy hq];exact hx⟩,st',fun b hb=>(hf b hb).1⟩⟩
 done:=by
  intro X hP hw hK hc i pins s σ H E I hf st hg;subst hP hw hK;obtain⟨xs,hq,hx⟩:=hg;obtain⟨aw,rv,p,hz⟩:=I.tuple hq;obtain⟨f0,f1,f2,f3,f4,f5⟩:=hf it (by simp);have hl:=rv.length;exact wpAny_pyNext_tuple_end (I.ok.hd hc) st (show s.heap.IsTuple a aw.toArray from p) (by simp;lia) fun h' eb=>⟨rfl,I.turned (fun b o hb e=>eb b o hb e) f0 f1 f3 f4 f5⟩
 self:=fun _ _ _ _ _ st h=>wpAny_pyIter_tupleiter st h
def zY {K:Ja}{tg:QaB}(it:Gc)(lo:Int)(n:Nat):Turn P w K tg (Qi lo n) [it] it (fun i h=>IsRangeIter h it (lo+(i:Nat)*1) ((n:Int)-(i:Nat)) 1) where
 mem:=by simp
 obj:=fun i h st b hb=>by
  have e:b=it:=by simpa using hb
  subst e;exact⟨_,st,fun v z=>by
   cases z⟩
 keep:=fun i h h' st k=>k it (by simp) _ st
 item:=by
  intro X hP hw hK hc i pins s σ H E I hf st hg;subst hP hw hK;obtain⟨f0,f1,f2,f3,f4,f5⟩:=hf it (by simp);refine(Walks.range (prog:=X.prog) (w:=X.w) (I.ok.hd hc) it lo 1 n).item i s _ _ hg st fun v h' tk hv st' kk =>?_;obtain⟨t,rfl⟩:=hv;have I1:Inv X pins σ H { s with heap:=h',toks:=tk }:=I.turned (fun b o hb e=>kk b o (by simpa using hb) e) f0 f1 f3 f4 f5;refine⟨_,rfl,CH st' rfl rfl rfl ⟨.int (lo+i),H,I1,⟨t,?_⟩,⟨rfl,rfl⟩,st',fun b hb=>(hf b hb).1⟩⟩;rw[Int.mul_one]
 done:=by
  intro X hP hw hK hc i pins s σ H E I hf st hg;obtain⟨f0,f1,f2,f3,f4,f5⟩:=hf it (by simp);exact wpAny_pyNext_range_end (I.ok.hd hc) st (by have:n<=i:=hg;lia) fun h' eb=>⟨rfl,I.turned (fun b o hb e=>eb b o hb e) f0 f1 f3 f4 f5⟩
 self:=fun _ _ _ _ _ st h=>wpAny_pyIter_rangeiter st h
section
variable {X:Cx}{tg:QaB}
def M0 (K:Ja)(tl:TE):TI:=fun σ H R=>tl σ H fun x H1=>∃a,x = .ref a/\(∃xs,bA K H1 a xs)/\R (So K a) H1
def SI (K:Ja)(tl:TE):TI:=fun σ H R=>tl σ H fun x H1=>∃a,x = .ref a/\(∃xs,bG K H1 a xs)/\R (Itt K a) H1
def L7 (hl:PE X l tl):PI X tg l (M0 X.K tl):=by
 refine fun pins s σ H R I h=>bg (hl s σ H _ I h) fun v s1 hz_=>aj.el hz_ _ ?_;rintro x H1 I1 r1 q1;obtain⟨a,e,⟨xs,hq⟩,q⟩:=q1;subst e;cases r1;obtain⟨aw,rv,p,hz⟩:=I1.list hq;refine Qcu p.isList ⟨s1.heap.objs.size,[s1.heap.objs.size],_,_,H1,rfl,I1.kept fun b o e=>Jb _ e,Eo a _,⟨_,Ji _ rfl,rfl,rfl⟩,fun b hb =>?_,q⟩;have e:b=s1.heap.objs.size:=by simpa using hb
 subst e;exact I1.eX (Je _) (I1.bq.fresh (Je _))
def NO (hl:PE X l tl):PI X tg l (SI X.K tl):=by
 refine fun pins s σ H R I h=>bg (hl s σ H _ I h) fun v s1 hz_=>aj.el hz_ _ ?_;rintro x H1 I1 r1 q1;obtain⟨a,e,⟨xs,hq⟩,q⟩:=q1;subst e;cases r1;obtain⟨aw,rv,p,hz⟩:=I1.tuple hq;refine QeA (show s1.heap.IsTuple a aw.toArray from p) ⟨s1.heap.objs.size,[s1.heap.objs.size],_,_,H1,rfl,I1.kept fun b o e=>Jb _ e,AB a _,⟨_,Ji _ rfl,rfl,rfl⟩,fun b hb =>?_,q⟩;have e:b=s1.heap.objs.size:=by simpa using hb
 subst e;exact I1.eX (Je _) (I1.bq.fresh (Je _))
def FZ {σ:St}{H:Hp}{s:KE}{R:It->Hp->Prop}{E:Fk->KE->Prop}{lo hi:Int}{t u v:Tok}{tk:Nat}(I:Inv X pins σ H s)(h1: -(2^62)<=lo)(h2:lo<2^62)(h3: -(2^62)<=hi)(h4:hi<2^62)
  (q:R (Qi lo (hi-lo).toNat) H):Qac (Qab X.prog X.w) X.A (Qfd (.ref s.heap.objs.size)) (PIE X pins σ tg R) E { s with heap:=s.heap.push { cls := .type "range",data := .fields #[.int lo t,.int hi u,.int 1 v] },toks:=tk }:=by
 refine wpAny_pyIter_range (IsRange.new ..) (small_one h1 h2 h3 h4) ?_;have I1:Inv X pins σ H { s with heap:=s.heap.push { cls := .type "range",data := .fields #[.int lo t,.int hi u,.int 1 v] },toks:=tk }:=I.kept fun b o e=>Jb _ e;refine⟨(s.heap.push { cls := .type "range",data := .fields #[.int lo t,.int hi u,.int 1 v] }).objs.size,[(s.heap.push { cls := .type "range",data := .fields #[.int lo t,.int hi u,.int 1 v] }).objs.size],_,_,H,rfl,
  I1.kept fun b o e=>Jb _ e,zY _ lo (hi-lo).toNat,?_,fun b hb =>?_,q⟩
 ·have e1:lo+((0:Nat):Int)*1=lo:=by simp
  have e2:(((hi-lo).toNat:Nat):Int)-((0:Nat):Int)=Builtin.Range.rangeSize lo hi 1:=by rw[rangeSize_one];split<;>lia
  rw[e1,e2];exact Ji _ rfl
 ·have e:b=(s.heap.push { cls := .type "range",data := .fields #[.int lo t,.int hi u,.int 1 v] }).objs.size:=by simpa using hb
  subst e;exact I1.eX (Je _) (I1.bq.fresh (Je _))
def R7 (ta:TA):TI:=fun σ H R=>ta σ H fun vs H1=>∃j,vs=[.int j] /\ -(2^62)<=j/\j<2^62/\R (Qi 0 j.toNat) H1
def fZ (hg:Gl X "range")(hm:X.mg "range" = none)(ha:PA X [a] ta)(hs:Qaj [a] X.env=[(false,QaL a X.env)]:=by rfl):PI X tg (.Call (.Name "range" p) [a] [] pos) (R7 ta):=by
 refine fun pins s σ H R I h=>Call_ (dW I hg hm boot_range (Qam (bg (ha s σ H _ I h) fun us s1 hz_=>aj.el hz_ _ fun vs H1 I1 r1 q1 =>?_) hs rfl));obtain⟨j,e,q1,q2,q⟩:=q1;subst e;cases r1 with
 | cons r rr=>
  cases rr;obtain⟨t,rfl⟩:=r;exact call_range_1 (FZ I1 ⋯ ⋯ q1 q2 (by simpa using q))
def DU (wi:TI)(g:TG)(tb:TS):TS:=fun D σ H=>wi σ H fun J H1=>∃W:Nat->Nat->St->Hp->Prop,(∃m,W 0 m σ H1)/\∀i m σ H,W i m σ H ->
 (J.stop i H/\D.nx σ H)\/(J.go i H/\∃N,(∀ σ' H',N σ' H'->∃m',m'<m/\W (i+1) m' σ' H')/\∀x H',J.yld i H x H'->g x σ H' fun σ2 H2=>tb { D with nx:=N,ct:=N,bk:=D.nx } σ2 H2)
def gX (fp:List Gc)(h:Heap):List (Gc×Obj):=fp.filterMap fun b=>(h.get? b).map fun o=>(b,o)
def df {b:Gc}{o:Obj}(hb:b∈fp)(e:h.get? b=some o):(b,o)∈gX fp h:=List.mem_filterMap.mpr ⟨b,hb,by rw[e];rfl⟩
def tP (hp:p∈gX fp h):p.1∈fp/\h.get? p.1=some p.2:=by
 obtain⟨b,hb,e⟩:=List.mem_filterMap.mp hp;cases q:h.get? b with
 | none=>rw[q] at e;cases e
 | some o=>
  rw[q] at e;have e':=Qap e;subst e';exact⟨hb,q⟩
def Inv.pinned {σ:St}{H:Hp}{s:KE}{fp:List Gc}(I:Inv X pins σ H s)(hf:∀b∈fp,gc X pins H b)(ho:∀b∈fp,∃o,s.heap.get? b=some o/\∀v,o.data ≠ .cell v):Inv X (pins++gX fp s.heap) σ H s:=
 I.pF fun p hp=>(Uq.mp hp).elim (fun z=>I.pin p (Jv _ z)) fun z=>by
  obtain⟨hb,e⟩:=tP z;obtain⟨f0,f1,f2,_⟩:=hf p.1 hb;obtain⟨o,e',d⟩:=ho p.1 hb;rw[e] at e';cases e';exact⟨e,f0,f1,f2,d⟩
def Inv.eA {σ:St}{H:Hp}{s:KE}(I:Inv X (pins++pl) σ H s):Inv X pins σ H s:=I.pF fun p hp=>I.pin p (Jv _ (Yh _ hp))
def eJ {wi:TI}{g:TG}{tb:TS}{pos:Pos}(hp:PassesOwn (Qab X.prog X.w) X.A X.env X.xe)(hc:X.calm=true)(hi:PI X tg iter wi)(hg:PG X tg g)(hb:zB X body tb)
  (hs:∀x,Qbi iter X.env x=pure x:=by intro _;rfl):PS X (.For tg iter body [] pos) (DU wi g tb):=by
 refine fun pins s σ H D I h=>wpAny_For (bg (hi s σ H _ I h) fun v s1 h1=>bg h1 fun RH s2 h2 =>?_) hs;obtain⟨it,fp,tn,J,H2,e,I2,T,kr,f2,W,⟨m0,w0⟩,turn⟩:=h2;subst e;have lr:∀{H':Hp},(∀b∈fp,H' b=none)->∀b∈fp,gc X pins H' b:=fun hn b hb=>⟨hn b hb,(f2 b hb).2⟩
 refine codeAny_forLoop_any (fun n s'=>∃i σ' H',Inv X pins σ' H' s'/\tn i s'.heap/\(∀b∈fp,H' b=none)/\W i n σ' H') ?_ m0 ⟨0,σ,H2,I2,kr,fun b hb=>(f2 b hb).1,w0⟩;rintro n s3 ⟨i,σ3,H3,I3,eQ,fr3,w3⟩
 rcases turn i n σ3 H3 w3 with ⟨stop,qn⟩|⟨go,N,hN,step⟩
 ·refine QbQ hp (bg (T.done X rfl rfl rfl hc i pins s3 σ3 H3 X.xe I3 (lr fr3) eQ stop) fun r s4 hz_ =>?_);refine aj.el hz_ _ ?_;rintro hr I4;subst hr;exact QcX ⟨σ3,H3,I4,qn⟩
 ·refine QbQ hp (bg (T.item X rfl rfl rfl hc i pins s3 σ3 H3 X.xe I3 (lr fr3) eQ go) fun r s4 hz_ =>?_);refine aj.el hz_ _ ?_;rintro u hr h4;subst hr;refine QbQ hp (bg h4 fun _ s5 hz_=>aj.el hz_ _ fun x H5 I5 r5 y5 dZ fr5=>QbQ hp (bg (hg s5 σ3 H5 x u _ (I5.pinned (lr fr5) (T.obj _ _ dZ)) r5 (step x H5 y5)) fun _ s6 hz_=>aj.el hz_ _ ?_));rintro σ6 H6 I6 q6;refine QbQ hp (bg (hb s6 σ6 H6 _ I6 q6) fun f s7 q7 =>?_);have again:∀{σ7:St} {H7:Hp},Inv X (pins++gX fp s5.heap) σ7 H7 s7->N σ7 H7->∃m,m<n/\∃i σ' H',Inv X pins σ' H' s7/\tn i s7.heap/\(∀b∈fp,H' b=none)/\W i m σ' H':=fun{σ7 H7} I7 n7=>by
   obtain⟨m',hm,w7⟩:=hN σ7 H7 n7;refine⟨m',hm,i+1,σ7,H7,I7.eA,T.keep _ _ _ dZ fun b hb o e=>(I7.pin (b,o) (Jv _ (Jv _ (df hb e)))).1,fun b hb =>?_,w7⟩;obtain⟨o,e,d⟩:=T.obj _ _ dZ b hb;exact(I7.pin (b,o) (Jv _ (Jv _ (df hb e)))).2.1
  cases f with
  | next=>obtain⟨σ7,H7,I7,n7⟩:=q7;exact again I7 n7
  | cont=>obtain⟨σ7,H7,I7,n7⟩:=q7;exact again I7 n7
  | brk=>obtain⟨σ7,H7,I7,q7⟩:=q7;exact⟨σ7,H7,I7.eA,q7⟩
  | ret v=>obtain⟨x7,σ7,H7,I7,r7,q7⟩:=q7;exact⟨x7,σ7,H7,I7.eA,r7,q7⟩
end
def GS {K:Ja}{a:Gc}{xs:List V}{g:TG}{tb:TS}{D:Ends}{σ:St}{H:Hp}(Pv:Nat->St->Hp->Prop)(h0:Pv 0 σ H)(hl:∀i σ H,i<=xs.length->Pv i σ H->bA K H a xs)
  (hs:∀i x σ H,xs[i]? = some x->Pv i σ H->g x σ H fun σ2 H2=>tb { D with nx:=Pv (i+1),ct:=Pv (i+1),bk:=D.nx } σ2 H2) (hd:∀ σ H,Pv xs.length σ H->D.nx σ H) :
  ∃W:Nat->Nat->St->Hp->Prop,(∃m,W 0 m σ H)/\∀i m σ H,W i m σ H ->
   ((So K a).stop i H/\D.nx σ H)\/((So K a).go i H/\∃N,(∀ σ' H',N σ' H'->∃m',m'<m/\W (i+1) m' σ' H')/\∀x H',(So K a).yld i H x H'->g x σ H' fun σ2 H2=>tb { D with nx:=N,ct:=N,bk:=D.nx } σ2 H2):=by
 refine⟨fun i m σ H=>m=xs.length-i/\i<=xs.length/\Pv i σ H,⟨xs.length,by simp,Uw _,h0⟩,?_⟩;rintro i m σ H ⟨rfl,hi,p⟩;have q:=hl i σ H hi p
 by_cases iC:i<xs.length
 ·refine .inr ⟨⟨xs,xs[i],q,by simp[]⟩,Pv (i+1),fun σ' H' p'=>⟨xs.length-(i+1),⋯,rfl,iC,p'⟩,fun x H' y =>?_⟩;obtain⟨e,y⟩:=y;subst e;exact hs i x σ _ (y xs q) p
 ·have e:i=xs.length:=by lia
  subst e;exact .inl ⟨⟨xs,q,Je _⟩,hd σ H p⟩
def ic {lo:Int}{n:Nat}{g:TG}{tb:TS}{D:Ends}{σ:St}{H:Hp}(Pv:Nat->St->Hp->Prop)(h0:Pv 0 σ H)
  (hs:∀i σ H,i<n->Pv i σ H->g (.int (lo+i)) σ H fun σ2 H2=>tb { D with nx:=Pv (i+1),ct:=Pv (i+1),bk:=D.nx } σ2 H2) (hd:∀ σ H,Pv n σ H->D.nx σ H) :
  ∃W:Nat->Nat->St->Hp->Prop,(∃m,W 0 m σ H)/\∀i m σ H,W i m σ H ->
   ((Qi lo n).stop i H/\D.nx σ H)\/((Qi lo n).go i H/\∃N,(∀ σ' H',N σ' H'->∃m',m'<m/\W (i+1) m' σ' H')/\∀x H',(Qi lo n).yld i H x H'->g x σ H' fun σ2 H2=>tb { D with nx:=N,ct:=N,bk:=D.nx } σ2 H2):=by
 refine⟨fun i m σ H=>m=n-i/\i<=n/\Pv i σ H,⟨n,by simp,Uw _,h0⟩,?_⟩;rintro i m σ H ⟨rfl,hi,p⟩
 by_cases iC:i<n
 ·refine .inr ⟨iC,Pv (i+1),fun σ' H' p'=>⟨n-(i+1),⋯,rfl,iC,p'⟩,fun x H' y =>?_⟩;obtain⟨e,y⟩:=y;subst e y;exact hs i σ _ iC p
 ·have e:i=n:=by lia
  subst e;exact .inl ⟨Je _,hd σ H p⟩
abbrev R2:=V->V->Hp->VK->Prop
def fL (X:Cx)(f:Fk->Fk->Sem Fk)(r:R2):Prop:=
 ∀ ⦃pins:List (Gc×Obj)⦄ (s:KE) (σ:St) (H:Hp) (x y:V) (v u:Fk) (Q:VK),Inv X pins σ H s->RelV x v->RelV y u->r x y H Q ->
  Qac (Qab X.prog X.w) X.A (f v u) (EP X pins σ Q) X.xe s
def Vn (X:Cx)(f:Fk->Sem Fk)(r:V->Hp->VK->Prop):Prop:=
 ∀ ⦃pins:List (Gc×Obj)⦄ (s:KE) (σ:St) (H:Hp) (x:V) (v:Fk) (Q:VK),Inv X pins σ H s->RelV x v->r x H Q ->
  Qac (Qab X.prog X.w) X.A (f v) (EP X pins σ Q) X.xe s
def bF (X:Cx)(f:Fk)(r:List V->Hp->VK->Prop):Prop:=
 ∀ ⦃pins:List (Gc×Obj)⦄ (s:KE) (σ:St) (H:Hp) (xs:List V) (us:List Fk) (Q:VK),Inv X pins σ H s->Vals xs us->r xs H Q ->
  Qac (Qab X.prog X.w) X.A (call f us) (EP X pins σ Q) X.xe s
def UT (r:R2)(ta tb:TE):TE:=fun σ H Q=>ta σ H fun x H1=>tb σ H1 fun y H2=>r x y H2 Q
def tUn (r:V->Hp->VK->Prop)(ta:TE):TE:=fun σ H Q=>ta σ H fun x H1=>r x H1 Q
def rI (C:Int->Int->Prop)(g:Int->Int->V):R2:=fun x y H Q=>eZ fun i j=>x = .int i/\y = .int j/\C i j/\Q (g i j) H
def M3 (g:Int->Int->V):R2:=fun x y H Q=>eZ fun i j=>x = .int i/\y = .int j/\Q (g i j) H
def rU (g:Int->V):V->Hp->VK->Prop:=fun x H Q=>∃i,x = .int i/\Q (g i) H
section
variable {X:Cx}{a b c:QaB}{ta tb tc:TE}{pos:Pos}
def NS (ha:PE X a ta)(hb:PE X b tb){pins:List (Gc×Obj)}{s:KE}{σ:St}{H:Hp}{R:V->V->Hp->Prop}(I:Inv X pins σ H s)
  (h:ta σ H fun x H1=>tb σ H1 fun y H2=>R x y H2) {Q:Fk->KE->Prop} {f:Fk->Fk->Sem Fk}
  (hf:∀v u s2 x y H2,Inv X pins σ H2 s2->RelV x v->RelV y u->R x y H2->Qac (Qab X.prog X.w) X.A (f v u) Q X.xe s2) :
  Qac (Qab X.prog X.w) X.A (QaL a X.env) (fun v s₁=>Qac (Qab X.prog X.w) X.A (QaL b X.env) (fun u s₂=>Qac (Qab X.prog X.w) X.A (f v u) Q X.xe s₂) X.xe s₁) X.xe s:=by
 refine bg (ha s σ H _ I h) fun v s1 hz_=>aj.el hz_ _ ?_;rintro x H1 I1 r1 q1;refine bg (hb s1 σ H1 _ I1 q1) fun u s2 hz_=>aj.el hz_ _ ?_;rintro y H2 I2 r2 q2;exact hf v u s2 x y H2 I2 r1 r2 q2
def aB (ho:fL X (Qbu op) r)(ha:PE X a ta)(hb:PE X b tb):PE X (.BinOp a op b pos) (UT r ta tb):=
 fun pins s σ H Q I h=>wpAny_BinOp (NS ha hb I h fun v u s2 x y H2 I2 rx ry q=>ho s2 σ H2 x y v u Q I2 rx ry q)
def oG (ho:Vn X (unaryOp op) r)(ha:PE X a ta):PE X (.UnaryOp op a pos) (tUn r ta):=
 fun pins s σ H Q I h=>UnaryOp_ (bg (ha s σ H _ I h) fun v s1 hz_=>aj.el hz_ _ fun x H1 I1 r1 q1=>ho s1 σ H1 x v Q I1 r1 q1)
def Qy {C:Int->Int->Prop}{g:Int->Int->Int}
  (rule:∀i j t u s Q E,C i j->Q (.int (g i j) s.toks) { s with toks:=s.toks+1 } -> Qac (Qab X.prog X.w) X.A (f (.int i t) (.int j u)) Q E s) :
  fL X f (rI C fun i j =>.int (g i j)):=by
 intro pins s σ H x y v u Q I rx ry h;obtain⟨i,j,rfl,rfl,hc,q⟩:=h;obtain⟨t,rfl⟩:=rx;obtain⟨t',rfl⟩:=ry;exact rule i j t t' s _ _ hc ⟨.int (g i j),H,I.tok _,⟨_,rfl⟩,q⟩
def Od {g:Int->Int->Int}
  (rule:∀i j t u s Q E,Q (.int (g i j) s.toks) { s with toks:=s.toks+1 } -> Qac (Qab X.prog X.w) X.A (f (.int i t) (.int j u)) Q E s) :
  fL X f (M3 fun i j =>.int (g i j)):=by
 intro pins s σ H x y v u Q I rx ry h;obtain⟨i,j,rfl,rfl,q⟩:=h;obtain⟨t,rfl⟩:=rx;obtain⟨t',rfl⟩:=ry;exact rule i j t t' s _ _ ⟨.int (g i j),H,I.tok _,⟨_,rfl⟩,q⟩
def O4 {g:Int->Int->Bool}
  (rule:∀i j t u s Q E,Q (.bool (g i j)) s->Qac (Qab X.prog X.w) X.A (f (.int i t) (.int j u)) Q E s) :
  fL X f (M3 fun i j =>.bl (g i j)):=by
 intro pins s σ H x y v u Q I rx ry h;obtain⟨i,j,rfl,rfl,q⟩:=h;obtain⟨t,rfl⟩:=rx;obtain⟨t',rfl⟩:=ry;exact rule i j t t' s _ _ ⟨.bl (g i j),H,I,rfl,q⟩
def LI (i j:Int):Prop:=0<j/\j<1073741824
def Xw (i j:Int):Prop:=0<=j/\j<=1000000/\i.natAbs<2^64
def zJ (i j:Int):Prop:=(-(2^64)<i/\i<2^64)\/(-(2^64)<j/\j<2^64)
def zJ.ok (h:zJ i j):IntMulOk i j:=by
 rcases h with ⟨h1,h2⟩|⟨h1,h2⟩
 ·exact .of_left (intBits_le_64 h1 h2)
 ·exact .of_right (intBits_le_64 h1 h2)
def N9:fL X (Qbu .Add) (M3 fun i j =>.int (i+j)):=Od fun _ _ _ _ _ _ _ q=>add_int q
def cn:fL X (Qbu .Sub) (M3 fun i j =>.int (i-j)):=Od fun _ _ _ _ _ _ _ q=>sub_int q
def NN:fL X (Qbu .Mult) (rI zJ fun i j =>.int (i*j)):=Qy fun _ _ _ _ _ _ _ hc q=>mul_int q hc.ok
def Cv:fL X (Qbu .FloorDiv) (rI LI fun i j =>.int (i / j)):=Qy fun i j _ _ _ _ _ hc q=>by
 have h1:=hc.1;have h2:=hc.2;exact floordiv_int ⋯ (by rw[Qc2 i ⋯];exact q) (.inl (Qdg ⋯))
def jw:fL X (Qbu .Mod) (rI (fun _ j=>0<j) fun i j =>.int (i%j)):=Qy fun i j _ _ _ _ _ hc q=>by
 exact mod_int' ⋯ (by rw[Qfj i ⋯];exact q)
def OE:fL X (Qbu .Pow) (rI Xw fun i j =>.int (i^j.toNat)):=Qy fun _ _ _ _ _ _ _ hc q=>pow_int_small hc.1 hc.2.1 hc.2.2 q
def NL:fL X (Qbu .BitAnd) (M3 fun i j =>.int (Builtin.bitAnd i j)):=Od fun _ _ _ _ _ _ _ q=>and_int q
def JW:fL X (inplaceOp .FloorDiv) (rI LI fun i j =>.int (i / j)):=Qy fun i j _ _ _ _ _ hc q=>by
 have h1:=hc.1;have h2:=hc.2;exact ifloordiv_int ⋯ (by rw[Qc2 i ⋯];exact q) (.inl (Qdg ⋯))
def unI {g:Int->Int}
  (rule:∀i t s Q E,Q (.int (g i) s.toks) { s with toks:=s.toks+1 } -> Qac (Qab X.prog X.w) X.A (f (.int i t)) Q E s) :
  Vn X f (rU fun i =>.int (g i)):=by
 intro pins s σ H x v Q I rx h;obtain⟨i,rfl,q⟩:=h;obtain⟨t,rfl⟩:=rx;exact rule i t s _ _ ⟨.int (g i),H,I.tok _,⟨_,rfl⟩,q⟩
def jv:Vn X (unaryOp .USub) (rU fun i =>.int (-i)):=unI fun _ _ _ _ _ q=>neg_int q
end
def Q3:V->V->Bool
 | .non,.non=>true | .non,.int _=>true | .int _,.non=>true | .non,.bl _=>true | .bl _,.non=>true | .non,.str _=>true | .str _,.non=>true
 | .int _,.int _=>true | .bl _,.bl _=>true | .str _,.str _=>true | .byt _,.byt _=>true
 | .int _,.str _=>true | .str _,.int _=>true | .bl _,.str _=>true | .str _,.bl _=>true
 | _,_=>false
def VW:R2:=fun x y H Q=>Q3 x y=true/\Q (.bl (decide (x=y))) H
def ZY:R2:=fun x y H Q=>Q3 x y=true/\Q (.bl (!decide (x=y))) H
def CS:decide (V.int i=V.int j)=(i==j):=by
 rw[Wd];simp
def HR:decide (V.bl i=V.bl j)=(i==j):=by
 rw[Wd];simp
def CJ:decide (V.str i=V.str j)=(i==j):=by
 rw[Wd];simp
def CD:decide (V.byt i=V.byt j)=(i.toList==j.toList):=by
 rw[Wd];cases i;cases j;simp
section
variable {X:Cx}{a b c:QaB}{ta tb tc:TE}{pos:Pos}
def bj {σ:St}{H:Hp}{s:KE}{Q:VK}{k k':Bool}(I:Inv X pins σ H s)(q:Q (.bl k) H)(e:k=k'):EP X pins σ Q (.bool k') s:=by
 subst e;exact⟨.bl k,H,I,rfl,q⟩
def SV:fL X (QaF .Eq) VW:=by
 intro pins s σ H x y v u Q I rx ry h;obtain⟨hs,q⟩:=h;cases x with
 | non=>
  cases rx;cases y with
  | non=>cases ry;exact PySem.EqNone.eq_none_none (bj I q (by simp))
  | bl j=>cases ry;exact PySem.EqNone.eq_none_bool (bj I q (by simp))
  | int j=>obtain⟨t',rfl⟩:=ry;exact PySem.EqNone.eq_none_int (bj I q (by simp))
  | str j=>obtain⟨t',rfl⟩:=ry;exact PySem.EqNone.eq_none_str (bj I q (by simp))
  | _=>exact absurd (show false=true from hs) Jn
 | bl i=>
  cases rx;cases y with
  | non=>cases ry;exact PySem.EqNone.eq_bool_none (bj I q (by simp))
  | bl j=>cases ry;exact eq_bool (bj I q HR)
  | str j=>obtain⟨t',rfl⟩:=ry;exact PySem.EqMixed.eq_bool_str (bj I q (by simp))
  | _=>exact absurd (show false=true from hs) Jn
 | int i=>
  obtain⟨t,rfl⟩:=rx;cases y with
  | non=>cases ry;exact PySem.EqNone.eq_int_none (bj I q (by simp))
  | int j=>obtain⟨t',rfl⟩:=ry;exact eq_int (bj I q CS)
  | str j=>obtain⟨t',rfl⟩:=ry;exact PySem.EqMixed.eq_int_str (bj I q (by simp))
  | _=>exact absurd (show false=true from hs) Jn
 | str i=>
  obtain⟨t,rfl⟩:=rx;cases y with
  | non=>cases ry;exact PySem.EqNone.eq_str_none (bj I q (by simp))
  | bl j=>cases ry;exact PySem.EqMixed.eq_str_bool (bj I q (by simp))
  | int j=>obtain⟨t',rfl⟩:=ry;exact PySem.EqMixed.eq_str_int (bj I q (by simp))
  | str j=>obtain⟨t',rfl⟩:=ry;exact eq_str (bj I q CJ)
  | _=>exact absurd (show false=true from hs) Jn
 | byt i=>
  obtain⟨t,rfl⟩:=rx;cases y with
  | byt j=>obtain⟨t',rfl⟩:=ry;exact PySem.W.eq_bytes (bj I q CD)
  | _=>exact absurd (show false=true from hs) Jn
 | _=>cases y<;>exact absurd (show false=true from hs) Jn
def R6:fL X (QaF .NotEq) ZY:=by
 intro pins s σ H x y v u Q I rx ry h;obtain⟨hs,q⟩:=h;cases x with
 | non=>
  cases rx;cases y with
  | non=>cases ry;exact PySem.EqNone.ne_none_none (bj I q (by simp))
  | bl j=>cases ry;exact PySem.EqNone.ne_none_bool (bj I q (by simp))
  | int j=>obtain⟨t',rfl⟩:=ry;exact PySem.EqNone.ne_none_int (bj I q (by simp))
  | str j=>obtain⟨t',rfl⟩:=ry;exact PySem.EqNone.ne_none_str (bj I q (by simp))
  | _=>exact absurd (show false=true from hs) Jn
 | bl i=>
  cases rx;cases y with
  | non=>cases ry;exact PySem.EqNone.ne_bool_none (bj I q (by simp))
  | bl j=>cases ry;exact ne_bool (bj I q (congrArg not HR))
  | str j=>obtain⟨t',rfl⟩:=ry;exact PySem.EqMixed.ne_bool_str (bj I q (by simp))
  | _=>exact absurd (show false=true from hs) Jn
 | int i=>
  obtain⟨t,rfl⟩:=rx;cases y with
  | non=>cases ry;exact PySem.EqNone.ne_int_none (bj I q (by simp))
  | int j=>obtain⟨t',rfl⟩:=ry;exact ne_int (bj I q (congrArg not CS))
  | str j=>obtain⟨t',rfl⟩:=ry;exact PySem.EqMixed.ne_int_str (bj I q (by simp))
  | _=>exact absurd (show false=true from hs) Jn
 | str i=>
  obtain⟨t,rfl⟩:=rx;cases y with
  | non=>cases ry;exact PySem.EqNone.ne_str_none (bj I q (by simp))
  | bl j=>cases ry;exact PySem.EqMixed.ne_str_bool (bj I q (by simp))
  | int j=>obtain⟨t',rfl⟩:=ry;exact PySem.EqMixed.ne_str_int (bj I q (by simp))
  | str j=>obtain⟨t',rfl⟩:=ry;exact ne_str (bj I q (congrArg not CJ))
  | _=>exact absurd (show false=true from hs) Jn
 | byt i=>
  obtain⟨t,rfl⟩:=rx;cases y with
  | byt j=>obtain⟨t',rfl⟩:=ry;exact PySem.W.ne_bytes (bj I q (congrArg not CD))
  | _=>exact absurd (show false=true from hs) Jn
 | _=>cases y<;>exact absurd (show false=true from hs) Jn
def kB:fL X (QaF .Lt) (M3 fun i j =>.bl (decide (i<j))):=O4 fun _ _ _ _ _ _ _ q=>lt_int q
def oM:fL X (QaF .LtE) (M3 fun i j =>.bl (decide (i<=j))):=O4 fun _ _ _ _ _ _ _ q=>le_int q
def Gg:fL X (QaF .GtE) (M3 fun i j =>.bl (decide (j<=i))):=O4 fun _ _ _ _ _ _ _ q=>ge_int q
def Px:fL X (QaF .Is) (fun x y H Q=>y = .non/\Q (.bl (decide (x = .non))) H):=by
 intro pins s σ H x y v u Q I rx ry h;obtain⟨rfl,q⟩:=h;cases ry;refine is_none_gen (bj I q ?_);cases x<;>first
  | (cases rx;rfl)
  | (obtain⟨t,rfl⟩:=rx;rfl)
def Kq:fL X (QaF .IsNot) (fun x y H Q=>y = .non/\Q (.bl (!decide (x = .non))) H):=by
 intro pins s σ H x y v u Q I rx ry h;obtain⟨rfl,q⟩:=h;cases ry;refine isnot_none_gen (bj I q ?_);cases x<;>first
  | (cases rx;rfl)
  | (obtain⟨t,rfl⟩:=rx;rfl)
def fL.or (h:fL X f r)(h':fL X f r'):fL X f (fun x y H Q=>r x y H Q\/r' x y H Q):=by
 intro pins s σ H x y v u Q I rx ry q
 rcases q with q|q
 ·exact h s σ H x y v u Q I rx ry q
 ·exact h' s σ H x y v u Q I rx ry q
def aK (b:QaB){op:CmpOp}(h:op ≠ .In:=by decide)(h2:op ≠ .NotIn:=by decide):QdB op b=false:=by
 have e1:(op==CmpOp.In)=false:=by cases op<;>first|rfl|exact absurd rfl h
 have e2:(op==CmpOp.NotIn)=false:=by cases op<;>first|rfl|exact absurd rfl h2
 cases b<;>simp[QdB,e1,e2]
def eG (ho:fL X (QaF op) r)(ha:PE X a ta)(hb:PE X b tb)(hm:QdB op b=false):PE X (.Compare a [op] [b] pos) (UT r ta tb):=
 fun pins s σ H Q I h=>wpAny_Compare1 (NS ha hb I h fun v u s2 x y H2 I2 rx ry q=>ho s2 σ H2 x y v u Q I2 rx ry q) hm
def Nb (t:TE):TT:=fun σ H Q=>t σ H fun x H'=>∃k,x = .bl k/\Q k H'
def aG (ho:fL X (QaF op) r)(ha:PE X a ta)(hb:PE X b tb)(hm:QdB op b=false):PT X (.Compare a [op] [b] pos) (Nb (UT r ta tb)):=by
 refine fun pins s σ H Q I h=>wpAny_isTrue_Compare1 (bg (ha s σ H _ I h) fun v s1 hz_=>aj.el hz_ _ fun x H1 I1 r1 q1=>bg (hb s1 σ H1 _ I1 q1) fun u s2 ⟨y,H2,I2,r2,q2⟩=>
  bg (ho s2 σ H2 x y v u _ I2 r1 r2 q2) fun c s3 ⟨z,H3,I3,r3,k,e,q3⟩=>?_) hm
 subst e;cases r3;exact Qbh ⟨H3,I3,q3⟩
def GQ (r r':R2)(ta tb tc:TE):TE:=fun σ H Q=>ta σ H fun x H1=>tb σ H1 fun y H2=>r x y H2 fun z H3=>∃k,z = .bl k /\
 (if k=true then tc σ H3 fun w' H4=>r' y w' H4 Q else Q (.bl false) H3)
def yk {r r':R2}(ho:fL X (QaF op) r)(yx:fL X (QaF op') r')(ha:PE X a ta)(hb:PE X b tb)(hc:PE X c tc)
  (hm:lastMarks [op,op'] [b,c]=false:=by with_unfolding_all rfl):PE X (.Compare a [op,op'] [b,c] pos) (GQ r r' ta tb tc):=by
 refine fun pins s σ H Q I h=>Compare_chain (bg (ha s σ H _ I h) fun v s1 hz_=>aj.el hz_ _ fun x H1 I1 r1 q1=>chain_link (bg (hb s1 σ H1 _ I1 q1) fun u s2 ⟨y,H2,I2,r2,q2⟩=>
  bg (ho s2 σ H2 x y v u _ I2 r1 r2 q2) fun d s3 ⟨z,H3,I3,r3,k,e,q3⟩=>?_)) hm
 subst e;cases r3;refine Qbh ?_;cases k with
 | false=>exact ite_ff ⟨.bl false,H3,I3,rfl,q3⟩
 | true=>exact ite_tt (chain_last (bg (hc s3 σ H3 _ I3 q3) fun w' s4 hz_=>aj.el hz_ _ fun z' H4 I4 r4 q4=>yx s4 σ H4 y z' u w' Q I4 r2 r4 q4))
def qO {r r':R2}(ho:fL X (QaF op) r)(yx:fL X (QaF op') r')(ha:PE X a ta)(hb:PE X b tb)(hc:PE X c tc)
  (hm:lastMarks [op,op'] [b,c]=false:=by with_unfolding_all rfl):PT X (.Compare a [op,op'] [b,c] pos) (Nb (GQ r r' ta tb tc)):=by
 refine fun pins s σ H Q I h=>isTrue_chain (bg (ha s σ H _ I h) fun v s1 hz_=>aj.el hz_ _ fun x H1 I1 r1 q1=>test_link (bg (hb s1 σ H1 _ I1 q1) fun u s2 ⟨y,H2,I2,r2,q2⟩=>
  bg (ho s2 σ H2 x y v u _ I2 r1 r2 q2) fun d s3 ⟨z,H3,I3,r3,k,e,q3⟩=>?_)) hm
 subst e;cases r3;refine Qbh ?_;cases k with
 | false=>
  obtain⟨k',e',q'⟩:=q3;cases e';exact ite_ff ⟨H3,I3,q'⟩
 | true=>
  refine ite_tt (test_last (bg (hc s3 σ H3 _ I3 q3) fun w' s4 hz_=>aj.el hz_ _ fun z' H4 I4 r4 q4=>bg (yx s4 σ H4 y z' u w' _ I4 r2 r4 q4) fun d' s5 hz_=>aj.el hz_ _ ?_));rintro z2 H5 I5 r5 ⟨k2,e2,q5⟩;subst e2;cases r5;exact Qbh ⟨H5,I5,q5⟩
def sy:(Wp:Nat)<2^63:=by rw[Qdu];decide
def AW:fL X (Qbu .Add) (fun x y H Q=>∃i j,x = .str i/\y = .str j/\i.length+j.length<=Wp/\Q (.str (i++j)) H):=by
 intro pins s σ H x y v u Q I rx ry h;obtain⟨i,j,rfl,rfl,hz,q⟩:=h;obtain⟨t,rfl⟩:=rx;obtain⟨t',rfl⟩:=ry;exact add_str (fun t' tk=>⟨.str (i++j),H,I.tok _,⟨_,rfl⟩,q⟩) hz
def vals1 (r:Vals [x] us):∃u,us=[u]/\RelV x u:=by
 cases r with
 | cons r1 r2=>cases r2;exact⟨_,rfl,r1⟩
def vals2 (r:Vals [x,y] us):∃u w',us=[u,w']/\RelV x u/\RelV y w':=by
 cases r with
 | cons r1 r2=>
  cases r2 with
  | cons r3 r4=>cases r4;exact⟨_,_,rfl,r1,r3⟩
def DM (hc:X.calm=true):bF X (.builtin "max") (fun xs H Q=>∃i j,xs=[.int i,.int j]/\Q (.int (if j>i then j else i)) H):=by
 intro pins s σ H xs us Q I r h;obtain⟨i,j,rfl,q⟩:=h;obtain⟨u,w',rfl,⟨t,rfl⟩,⟨t',rfl⟩⟩:=vals2 r;refine max_two_ints (I.ok.hd hc) fun h' tk k=>⟨_,H,I.kept k,?_,q⟩
 by_cases hj:j>i
 ·rw[if_pos hj,if_pos hj];exact⟨_,rfl⟩
 ·rw[if_neg hj,if_neg hj];exact⟨_,rfl⟩
def tK:bF X (.type "int") (fun xs H Q=>(∃i,xs=[.int i]/\Q (.int i) H)\/∃k,xs=[.bl k]/\Q (.int (if k then 1 else 0)) H):=by
 intro pins s σ H xs us Q I r h
 rcases h with ⟨i,rfl,q⟩|⟨k,rfl,q⟩
 ·obtain⟨u,rfl,t,rfl⟩:=vals1 r;exact call_int_int ⟨.int i,H,I,⟨_,rfl⟩,q⟩
 ·obtain⟨u,rfl,r1⟩:=vals1 r;cases r1;exact call_int_bool ⟨.int (if k then 1 else 0),H,I.tok _,⟨_,rfl⟩,q⟩
def mr:bF X (.type "str") (fun xs H Q=>∃i,xs=[.int i]/\i.natAbs.log2<1920/\Q (.str (toString i)) H):=by
 intro pins s σ H xs us Q I r h;obtain⟨i,rfl,hz,q⟩:=h;obtain⟨u,rfl,t,rfl⟩:=vals1 r;exact PySem.P.str_of_int hz ⟨.str _,H,I.tok _,⟨_,rfl⟩,q⟩
def RA (K:Ja)(x:V)(H:Hp)(n:Nat):Prop:=
 match x with
 | .str y=>y.length<=Wp/\n=y.length
 | .byt y=>y.size<=Wp/\n=y.size
 | .ref p=>(∃xs,bA K H p xs/\n=xs.length)\/∃xs,bG K H p xs/\n=xs.length
 | _=>False
def Go:bF X (.builtin "len") (fun xs H Q=>∃x n,xs=[x]/\RA X.K x H n/\Q (.int n) H):=by
 intro pins s σ H xs us Q I r h;obtain⟨x,n,rfl,e,q⟩:=h;obtain⟨u,rfl,rx⟩:=vals1 r;have hs:=Qdu;cases x with
 | str y=>
  obtain⟨t,rfl⟩:=rx;obtain⟨hy,e'⟩:y.length<=Wp/\n=y.length:=e;subst e';exact len_str ⋯ ⟨.int _,H,I.tok _,⟨_,rfl⟩,q⟩
 | byt y=>
  obtain⟨t,rfl⟩:=rx;obtain⟨hy,e'⟩:y.size<=Wp/\n=y.size:=e;subst e';exact PySem.W.len_bytes ⋯ ⟨.int _,H,I.tok _,⟨_,rfl⟩,q⟩
 | ref p=>
  cases rx;have e':=e
  rcases e' with ⟨xs,hx,e'⟩|⟨xs,hx,e'⟩
  ·subst e';obtain⟨aw,r',pl,hz⟩:=I.list hx;have hlen:=r'.length;exact Calls.call_len_list pl.isList (by simp only[Ju];lia) ⟨.int xs.length,H,I.tok _,⟨_,by simp only[Ju];rw[hlen]⟩,q⟩
  ·subst e';obtain⟨aw,r',pl,hz⟩:=I.tuple hx;have hlen:=r'.length;exact len_tuple pl (by simp only[Ju];lia) ⟨.int xs.length,H,I.tok _,⟨_,by simp only[Ju];rw[hlen]⟩,q⟩
 | _=>exact(show False from e).elim
def yu:bF X (.builtin "divmod") (fun xs H Q=>∃i j,xs=[.int i,.int j]/\LI i j/\∀p,H p=none->Q (.ref p) (upd H p (.tup [.int (i / j),.int (i%j)]))):=by
 intro pins s σ H xs us Q I r h;obtain⟨i,j,rfl,⟨h1,h2⟩,q⟩:=h;obtain⟨u,w',rfl,⟨t,rfl⟩,⟨t',rfl⟩⟩:=vals2 r;refine divmod_int ⋯ ?_ (.inl (Qdg ⋯));rw[Qc2 i ⋯,Qfj i ⋯];refine⟨.ref s.heap.objs.size,_,?_,rfl,q _ (I.bq.fresh (Je _))⟩;refine I.laid (fun b o e=>Jb _ e) (Je _) ⟨by simp only[Jr,Y6];rw[Qdu];decide,[.int (i / j) s.toks,.int (i%j) (s.toks+1)],.cons ⟨_,rfl⟩ (.cons ⟨_,rfl⟩ .nil),?_⟩;exact⟨_,Ji s.heap rfl,rfl,rfl,0,rfl⟩
end
structure BM (h:Heap)(x dx C:Gc)(mA:Str->Option Fk):Prop where
 obj:h.get? x=some (Y5 C dx)
 ns:h.Ns1 dx mA
 ne:dx≠x
def tQ {h:Heap}{dx:Gc}{mA:Str->Option Fk}(n:h.Ns1 dx mA):∃od,h.get? dx=some od/\∀name,QdD name od=some (mA name):=by
 obtain⟨o,es,ep,ho,hd,hk,_,hm⟩:=n;refine⟨o,ho,fun name =>?_⟩;have e:=hm name;unfold nsFind findBy at e;rw[<-Array.find?_toList] at e;unfold QdD;rw[hd];dsimp only
 split
 ·rename_i y q;rw[q] at e;exact congrArg some e
 ·rename_i q;rw[q] at e;have a:es.toList.any (·.refKey)=false:=by
   rw[List.any_eq_false];intro y hy;obtain⟨z,t,hkey⟩:=hk y (Array.mem_toList_iff.mp hy);simp[DictEntry.refKey,hkey]
  rw[if_neg (by rw[a];exact Jn)];exact congrArg some e
def BM.look (I:BM h x dx C mA):∃od,PySem.W.InstAt h x (Y5 C dx) C (some od)/\∀name,QdD name od=some (mA name):=
 let ⟨od,ho,hl⟩:=tQ I.ns
 ⟨od,⟨I.obj,rfl,rfl,ho⟩,hl⟩
section
variable {prog:Qaf}{w:Qah}{A:Qax}{E:Fk->KE->Prop}{s:KE}{K:Ja}{x dx C f:Gc}{mA:Str->Option Fk}{name:Str}{v:Fk}
def get_map {Q:Fk->KE->Prop}(X:K.In s.heap)(I:BM s.heap x dx C mA)(hg:Wi K C name=true)(hh:Qca K C=true)
  (ha:J6 K (.ref C) name=some none) (hv:mA name=some v) (UP:PySem.W.handedIn v=true) (h:Q v { s with toks:=s.toks+1 }) :
  Qac (Qab prog w) A (getAttr (.ref x) name expr) Q E s:=by
 obtain⟨od,J,hl⟩:=I.look;exact PySem.W.get_value X J (QdK hg).1 (PySem.W.findObj_own hh ha rfl (by rw[hl,hv])) UP h
def Hv {Q:Fk×List Fk->KE->Prop}(X:K.In s.heap)(I:BM s.heap x dx C mA)(hg:Wi K C name=true)
  (hf:J6 K (.ref C) name=some (some (.ref f))) (ht:Wk K (.ref f)=true) (hv:mA name=none) (h:Q (.ref f,[.ref x]) s) :
  Qac (Qab prog w) A (getMethod (.ref x) name pl) Q E s:=by
 obtain⟨od,J,hl⟩:=I.look;exact PySem.W.method_fn X J (QdK hg).1 (QdK hg).2 hf (beq_iff_eq.mp ht) (by show(QdD name od).map (·.isSome)=some false;rw[hl,hv];rfl) h
def LW (X:K.In s.heap)(I:BM s.heap x dx C mA)
  (hs:J6 K (.ref C) "__setattr__" = some (some (.builtin "object.__setattr__"))) (hp:QcS K C=true) (ht:Qeo K C name=some none) (hh:Qca K C=true)
  (hw:Qfx mA ns) (hsz:ns.length<=Wp)
  (h:∀h',BM h' x dx C (fun y=>if y=name then some v else mA y)->U6 dx s.heap h'->Q () { s with heap:=h',toks:=s.toks+2 }) :
  Qac (Qab prog w) A (setAttr (.ref x) name v) Q E s:=by
 obtain⟨od,J,hl⟩:=I.look;refine PySem.W.set_plain X J hs (PySem.W.osa_open X J hp ht fun b =>?_);obtain⟨cd,hc,FI⟩:=PySem.W.any_some hh;refine be (tz (be (be (QfL I.obj (be (PySem.W.Looks.here (PySem.W.looks_clsIn X hc) ?_))))));rw[FI];refine tz (be (tz (be (wpAny_nsSet1 I.ns fun h' L5 xZ =>?_))));obtain⟨oD,esD,epD,hoD,hdD,hcD⟩:=L5.count (PySem.Within.cons name v hw);exact be (wpAny_lookBehind hoD (by rw[hdD];exact pastItsLine_dict (Jh hcD (by rw[Jr];lia))) (tz (h _ ⟨(xZ.2 _ (QaA I.ne)).trans I.obj,L5,I.ne⟩ xZ)))
def GN {vs:List Fk}{kw:List (Str×Fk)}(X:K.In s.heap)(hm:Qdi K C=true)
  (hi:J6 K (.ref C) "__init__" = some (some (.ref f))) (hf:PySem.W.typeIn K (.ref f)=some (.type "function"))
  (h:QaZ (Qab prog w) (A.under (.builtin "type.__call__" ⟨.ref C::vs,kw⟩)) (.call (.ref f) ⟨.ref (s.heap.objs.size+1)::vs,kw⟩) (PySem.W.InitBack (s.heap.objs.size+1) R)
   { s with heap:=(s.heap.push Y3).push (Y5 C s.heap.objs.size) }) :
  QaZ (Qab prog w) A (.call (.ref C) ⟨vs,kw⟩) R s:=by
 obtain⟨hh,g,d,t,os⟩:=s;exact PySem.W.make_core (PySem.W.makes_of X hm) (PySem.W.looks_findIn X hi) (fun self=>PySem.W.bind_fn X self hf) (.inl rfl) h
end
def j2 (f:Str)(v:V):List (Str×V)->List (Str×V)
 | []=>[(f,v)]
 | (g,x)::r=>if g=f then (g,v)::r else (g,x)::j2 f v r
def oU (f g:Str)(v:V):∀fs,(j2 f v fs).lookup g=if g=f then some v else fs.lookup g
 | []=>by
  show Wg g [(f,v)]=_
  by_cases h:g=f
  ·have hb:=beq_iff_eq.mpr h;simp only[Wg,hb,if_pos h]
  ·have hb:=beq_eq_false_iff_ne.mpr h;simp only[Wg,hb,if_neg h]
 | (k,x)::r=>by
  rw[show j2 f v ((k,x)::r)=(if k=f then (k,v)::r else (k,x)::j2 f v r) from rfl]
  by_cases hk:k=f
  ·rw[if_pos hk]
   by_cases h:g=k
   ·have hb:=beq_iff_eq.mpr h;simp only[Wg,hb,if_pos (h.trans hk)]
   ·have hb:=beq_eq_false_iff_ne.mpr h;simp only[Wg,hb,if_neg (fun e:g=f=>h (e.trans hk.symm))]
  ·rw[if_neg hk]
   by_cases h:g=k
   ·have hb:=beq_iff_eq.mpr h;simp only[Wg,hb,if_neg (fun e:g=f=>hk (h.symm.trans e))]
   ·have hb:=beq_eq_false_iff_ne.mpr h;simp only[Wg,hb];exact oU f g v r
def om (f:Str)(v:V):∀fs,f∈(j2 f v fs).map (·.1)/\∀g,g∈fs.map (·.1)->g∈(j2 f v fs).map (·.1)
 | []=>⟨by simp[j2],fun g h=>by simp at h⟩
 | (k,x)::r=>by
  obtain⟨i1,i2⟩:=om f v r;rw[show j2 f v ((k,x)::r)=(if k=f then (k,v)::r else (k,x)::j2 f v r) from rfl]
  by_cases hk:k=f
  ·rw[if_pos hk];subst hk;exact⟨by simp,fun g h=>by simpa using h⟩
  ·rw[if_neg hk];refine⟨?_,fun g h =>?_⟩
   ·rw[J3];exact Jl _ i1
   ·rw[J3] at h ⊢
    rcases Jx.mp h with e|e
    ·exact Jx.mpr (.inl e)
    ·exact Jl _ (i2 g e)
def oE (f:Str)(v:V):∀fs,(j2 f v fs).length<=fs.length+1
 | []=>by simp[j2]
 | (k,x)::r=>by
  have ih:=oE f v r;rw[show j2 f v ((k,x)::r)=(if k=f then (k,v)::r else (k,x)::j2 f v r) from rfl]
  by_cases hk:k=f
  ·rw[if_pos hk,Jr,Jr];lia
  ·rw[if_neg hk,Jr,Jr];lia
def iT.wB (r:iT (some v) o):∃u,o=some u/\RelV v u:=by
 cases o with
 | none=>exact(show False from r).elim
 | some u=>exact⟨u,rfl,r⟩
def iT.none_of (r:iT none o):o=none:=by
 cases o with
 | none=>rfl
 | some u=>exact(show False from r).elim
def DG (r:RelV v u):PySem.W.handedIn u=true:=by
 cases v with
 | non=>cases (show u=Qcr from r);rfl
 | bl b=>cases (show u=Qbw b from r);rfl
 | int i=>obtain⟨t,e⟩:=(show ∃t,u=QdQ i t from r);cases e;rfl
 | str x=>obtain⟨t,e⟩:=(show ∃t,u=QcK x t from r);cases e;rfl
 | byt b=>obtain⟨t,e⟩:=(show ∃t,u=Value.bytes b t from r);cases e;rfl
 | flt b=>obtain⟨t,e⟩:=(show ∃t,u=QfR b t from r);cases e;rfl
 | ref a=>cases (show u=Qan a from r);rfl
 | ty n=>cases (show u=Qa3 n from r);rfl
section
variable {P:Qaf}{w:Qah}{H H':Hp}{h h':Heap}{a C dx:Gc}{fs fs':List (Str×V)}
def pf (bq:ji P w H h)(e:H a=some (.ins C dx fs)):∃mA,BM h a dx C mA/\(∀f,iT (fs.lookup f) (mA f))/\Qfx mA (fs.map (·.1))/\fs.length<=1000/\H dx=some (.own a):=by
 obtain⟨d,z,ne,ob,mA,n,r,q⟩:=(show bw P w H h a (.ins C dx fs) from bq a _ e)
 exact⟨mA,⟨ob,n,ne⟩,r,q,z,d⟩
end
structure BF (K:Ja)(C:Gc):Prop where
 pg:Wi K C Qat=true
 hd:Qca K C=true
 po:QcS K C=true
 sa:J6 K (.ref C) "__setattr__" = some (some (.builtin "object.__setattr__"))
def BF.get {K:Ja}{C:Gc}(c:BF K C)(f:Str):Wi K C f=true:=c.pg
def dH (K:Ja)(C:Gc)(f:Str):Prop:=J6 K (.ref C) f=some none
def dH.TB {K:Ja}{C:Gc}{f:Str}(n:dH K C f):Qeo K C f=some none:=by
 unfold Qeo;rw[show J6 K (.ref C) f=some none from n]
 rfl
structure xJ (K:Ja)(C:Gc)(m:Str)(f:Gc):Prop where
 at_:J6 K (.ref C) m=some (some (.ref f))
 fn:Wk K (.ref f)=true
 kp:Ui K (.ref f)=true
section
variable {X:Cx}{pins:List (Gc×Obj)}{σ:St}{H:Hp}{s:KE}{a C dx:Gc}{fs:List (Str×V)}{f:Str}{v:V}{A:Qax}{E:Fk->KE->Prop}
def Aq {Q:Fk->KE->Prop}(I:Inv X pins σ H s)(e:H a=some (.ins C dx fs))(c:BF X.K C)(n:dH X.K C f)(l:fs.lookup f=some v)
  (h:∀u s',Inv X pins σ H s'->RelV v u->Q u s'):Qac (Qab X.prog X.w) A (getAttr (.ref a) f b) Q E s:=by
 obtain⟨mA,O,r,_,_,_⟩:=pf I.bq e;obtain⟨u,hu,ru⟩:=iT.wB (by rw[<-l];exact r f);exact get_map I.iA O (c.get f) c.hd n hu (DG ru) (h u _ (I.tok _) ru)
def zI {Q:Fk×List Fk->KE->Prop}(I:Inv X pins σ H s)(e:H a=some (.ins C dx fs))(c:BF X.K C)(k:xJ X.K C m g)(l:fs.lookup m=none)
  (h:Q (.ref g,[.ref a]) s):Qac (Qab X.prog X.w) A (getMethod (.ref a) m pl) Q E s:=by
 obtain⟨mA,O,r,_,_,_⟩:=pf I.bq e;exact Hv I.iA O (c.get m) k.at_ k.fn (iT.none_of (by rw[<-l];exact r m)) h
def zS (I:Inv X pins σ H s)(e:H a=some (.ins C dx fs))(c:BF X.K C)(n:dH X.K C f)(hl:fs.length<1000)(ry:RelV y u)
  (h:∀s',Inv X pins σ (upd H a (.ins C dx (j2 f y fs))) s'->Q () s'):Qac (Qab X.prog X.w) A (setAttr (.ref a) f u) Q E s:=by
 obtain⟨mA,O,r,wi,_,ho⟩:=pf I.bq e;refine LW I.iA O c.sa c.po n.TB c.hd wi (by rw[Jc,Qdu];lia) fun h' O' sb=>h _ (I.write (by rw[e];exact QaO) (.inr ho) (fun b q hb z=>(sb.2 b hb).trans z) (let ⟨o,_,_,e',_⟩:=O'.ns; ⟨o,e'⟩) ⟨by rw[ao O.ne];exact ho,?_,O.ne,O'.obj,_,O'.ns,fun g =>?_,fun g hg =>?_⟩)
 ·have:=oE f y fs;lia
 ·show iT ((j2 f y fs).lookup g) (if g=f then some u else mA g);rw[oU]
  by_cases q:g=f
  ·rw[if_pos q,if_pos q];exact ry
  ·rw[if_neg q,if_neg q];exact r g
 ·by_cases q:g=f
  ·rw[q];exact(om f y fs).1
  ·refine(om f y fs).2 g (wi g fun z=>hg ?_);show(if g=f then some u else mA g)=none;rw[if_neg q];exact z
def Inv.made (I:Inv X pins σ H s):Inv X pins σ (upd (upd H s.heap.objs.size (.own (s.heap.objs.size+1))) (s.heap.objs.size+1) (.ins C s.heap.objs.size []))
  { s with heap:=(s.heap.push Y3).push (Y5 C s.heap.objs.size) }:=by
 have e1:(s.heap.push Y3).get? s.heap.objs.size=some Y3:=Ji s.heap rfl;have e2:((s.heap.push Y3).push (Y5 C s.heap.objs.size)).get? (s.heap.objs.size+1)=some (Y5 C s.heap.objs.size):=by
  have:=Ji (s.heap.push Y3) (o:=Y5 C s.heap.objs.size) rfl;rwa[Ue] at this
 refine(I.laid (o := .own (s.heap.objs.size+1)) (t':=s.toks) (fun b u q=>Jb _ q) (Je _) ⟨_,e1⟩).laid (fun b u q=>Jb _ q) (Nat.le_of_eq (Ue _ _)) ?_;have ne:s.heap.objs.size≠s.heap.objs.size+1:=Jm (Wj _);refine⟨by rw[ao ne,au],Uw _,ne,e2,fun _=>none,(Qf1 ⟨Y3,#[],_,e1,rfl,(fun e he=>absurd he (by simp)),fun _=>rfl⟩).at fun o q=>Jb _ q,fun _=>QaO,fun y hy=>absurd rfl hy⟩
def Cw {env:Env}{e:QaB}{f:Str}{pos:Pos}{s:KE}{Q:Fk->KE->Prop}(hb:Qbn e f env (QaL e env)=QaL e env)
  (h:Qac (Qab prog w) A (QaL e env) (fun o s₁=>Qac (Qab prog w) A (getAttr o f true) Q E s₁) E s):Qac (Qab prog w) A (QaL (.Attribute e f pos) env) Q E s:=
 Attribute_any_ h (by rw[arm_eval_Attribute,hb])
end
def S4 (K:Ja)(ta:TE)(f:Str):TE:=fun σ H Q=>ta σ H fun x H1=>zg fun a C dx fs v=>x = .ref a/\H1 a=some (.ins C dx fs)/\BF K C/\dH K C f/\fs.lookup f=some v/\Q v H1
def Py (K:Ja)(ta tv:TE)(f:Str):TS:=fun D σ H=>tv σ H fun y H1=>ta σ H1 fun x H2=>tG fun a C dx fs=>x = .ref a/\H2 a=some (.ins C dx fs)/\BF K C/\dH K C f/\fs.length<1000 /\
 D.nx σ (upd H2 a (.ins C dx (j2 f y fs)))
section
variable {X:Cx}{o e value:QaB}{f:Str}{pos pos' Vo:Pos}{ta tv:TE}
def PM (he:PE X e ta)(hb:Qbn e f X.env (QaL e X.env)=QaL e X.env):PE X (.Attribute e f pos) (S4 X.K ta f):=by
 refine fun pins s σ H Q I h=>Cw hb (bg (he s σ H _ I h) fun u s1 hz_=>aj.el hz_ _ ?_);rintro x H1 I1 rx ⟨a,C,dx,fs,v,ex,ea,c,n,l,q⟩;subst ex;obtain rfl:u=Qan a:=rx;exact Aq I1 ea c n l fun u' s2 I2 ru=>⟨v,H1,I2,ru,q⟩
def gW (ha:PE X o ta)(hv:PE X value tv)(hs:Qei value (some (.Attribute o f pos')) pos.line X.env=pure false):PS X (.Assign [.Attribute o f pos'] value pos) (Py X.K ta tv f):=by
 refine fun pins s σ H D I h=>Qe2 (bg (hv s σ H _ I h) fun u s1 ⟨y,H1,I1,ry,q⟩=>bg (ha s1 σ H1 _ I1 q) fun ov s2 ⟨x,H2,I2,rx,a,C,dx,fs,ex,ea,c,n,l,q2⟩=>?_) hs;subst ex;obtain rfl:ov=Qan a:=rx;exact zS I2 ea c n l ry fun s3 I3=>⟨σ,_,I3,q2⟩
end
section
variable {X:Cx}{pins:List (Gc×Obj)}{σ:St}{H:Hp}{s:KE}{A:Qax}{E:Fk->KE->Prop}{Q:Fk->KE->Prop}{c:Fk}{b:Bool}
inductive mh (K:Ja)(H:Hp):V->Fk->Prop where
 | non:mh K H .non (.type "NoneType")
 | bl (x:Bool):mh K H (.bl x) (.type "bool")
 | int (i:Int):mh K H (.int i) (.type "int")
 | str (x:Str):mh K H (.str x) (.type "str")
 | flt (x:UInt64):mh K H (.flt x) (.type "float")
 | lst {a:Gc} {xs:List V} (e:H a=some (.lst xs)):mh K H (.ref a) (.type "list")
 | frz {a:Gc} {o:Obj} {xs:List V} (e:H a=some (.frz o (.lst xs))):mh K H (.ref a) (.type "list")
 | tup {a:Gc} {xs:List V} (e:H a=some (.tup xs)):mh K H (.ref a) (.type "tuple")
 | dK {a:Gc} {kvs:List (Key×V)} (e:H a=some (.dK kvs)):mh K H (.ref a) (.type "dict")
 | dT {a:Gc} {kvs:List (List Key×V)} (e:H a=some (.dT kvs)):mh K H (.ref a) (.type "dict")
 | ins {a C dx:Gc} {fs:List (Str×V)} (e:H a=some (.ins C dx fs)) (cl:BF K C) (ha:J6 K (.ref C) "__class__" = some (some (.builtin "object.__class__")))
   (hn:PySem.W.specialIn K (.builtin "object.__class__") "__get__" = some (some (.builtin "getset_descriptor.__get__"))) (KL:PySem.W.takesIn K (.builtin "object.__class__")=some true)
   (hm:QeU K C (.type "object")=some true):mh K H (.ref a) (.ref C)
def EF (I:Inv X pins σ H s)(rx:RelV x u)(ty:mh X.K H x t)(e:Ug X.K t c=some b)(h:∀tk,Q (.bool b) { s with toks:=tk }):
  Qac (Qab X.prog X.w) A (call (.builtin "isinstance") [u,c]) Q E s:=by
 cases ty with
 | non=>cases (show u=Qcr from rx);exact U8 Qf4 I.iA QaO e (nofun) h
 | bl y=>cases (show u=Qbw y from rx);exact U8 Qf6 I.iA QaO e (nofun) h
 | int i=>obtain⟨t,q⟩:=(show ∃t,u=QdQ i t from rx);cases q;exact U8 PySem.W.kitx_int I.iA QaO e (nofun) h
 | str y=>obtain⟨t,q⟩:=(show ∃t,u=QcK y t from rx);cases q;exact U8 PySem.W.kitx_str I.iA QaO e (nofun) h
 | flt y=>obtain⟨t,q⟩:=(show ∃t,u=QfR y t from rx);cases q;exact U8 PySem.W.kitx_float I.iA QaO e (nofun) h
 | @lst a xs ea=>
  cases (show u=Qan a from rx);obtain⟨_,_,n,_,h1⟩:=(show bw X.prog X.w H s.heap a (.lst xs) from I.bq a _ ea)
  exact U8 Qd4 I.iA ⟨_,h1,rfl⟩ e (nofun) h
 | @frz a ob xs ea=>
  cases (show u=Qan a from rx);obtain⟨_,_,_,n,_,h1⟩:=(show bw X.prog X.w H s.heap a (.frz ob (.lst xs)) from I.bq a _ ea)
  exact U8 Qd4 I.iA ⟨_,h1,rfl⟩ e (nofun) h
 | @tup a xs ea=>
  cases (show u=Qan a from rx);obtain⟨_,_,_,p⟩:=(show bw X.prog X.w H s.heap a (.tup xs) from I.bq a _ ea)
  obtain⟨o,h1,_,h2,_⟩:=p;exact U8 QfU I.iA ⟨o,h1,h2⟩ e (nofun) h
 | @dK a kvs ea=>
  cases (show u=Qan a from rx);obtain⟨_,_,vs,_,p⟩:=(show bw X.prog X.w H s.heap a (.dK kvs) from I.bq a _ ea)
  obtain⟨o,es,ep,h1,h2,_⟩:=p;exact U8 Qf5 I.iA ⟨o,h1,h2.1⟩ e (nofun) h
 | @dT a kvs ea=>
  cases (show u=Qan a from rx);obtain⟨_,_,xs,_,o,es,ep,h1,h2,_⟩:=(show bw X.prog X.w H s.heap a (.dT kvs) from I.bq a _ ea)
  exact U8 Qf5 I.iA ⟨o,h1,h2.1⟩ e (nofun) h
 | @ins a C dx fs ea cl ha hn KL hm=>
  cases (show u=Qan a from rx);obtain⟨mA,O,_⟩:=pf I.bq ea;obtain⟨od,J,_⟩:=O.look;exact U8 (PySem.W.kitx_own (cl.get _) cl.hd ha hn KL hm) I.iA J e (nofun) h
end
structure da (k:Nat)(A:Qax):Prop where
 hd:A.handled=none
 dp:A.depth+3*k+5<recursionLimit
 un:A.units+16*k+200<Qc4
 gd:A.guards=some []
def da.mono {j k:Nat}{A:Qax}(r:da k A)(h:j<=k):da j A:=⟨r.hd,by have:=r.dp;lia,by have:=r.un;lia,r.gd⟩
def da.deeper (r:da (k+1) A)(env:Env):da k (A.deeper env):=
 ⟨r.hd,by have:=r.dp;show A.depth+1+3*k+5<_;lia,by have:=r.un;show A.units+3+16*k+200<_;lia,r.gd⟩
def zO {A:Qax}{C:Gc}{us:List Fk}{kw:List (Str×Fk)}:(A.under (.builtin "type.__call__" ⟨.ref C::us,kw⟩)).depth=A.depth+1:=rfl
def Ay {A:Qax}{C:Gc}{us:List Fk}{kw:List (Str×Fk)}:(A.under (.builtin "type.__call__" ⟨.ref C::us,kw⟩)).units=A.units+1:=rfl
def xT {A:Qax}{C:Gc}{us:List Fk}{kw:List (Str×Fk)}:(A.under (.builtin "type.__call__" ⟨.ref C::us,kw⟩)).guards=A.guards:=rfl
def da.make (r:da (k+1) A)(C:Gc)(us:List Fk)(kw:List (Str×Fk)):da k (A.under (.builtin "type.__call__" ⟨.ref C::us,kw⟩)):=
 ⟨r.hd,by have:=r.dp;rw[zO];lia,by have:=r.un;rw[Ay];lia,by rw[xT];exact r.gd⟩
def da.depth (r:da k A):A.depth<recursionLimit:=by have:=r.dp;lia
def da.units (r:da k A):A.units+64<Qc4:=by have:=r.un;lia
def La:TA:=fun _ H Q=>Q [] H
def MT (ta:TE)(tr:TA):TA:=fun σ H Q=>ta σ H fun x H1=>tr σ H1 fun xs H2=>Q (x::xs) H2
section
variable {X:Cx}{e:QaB}{es:List QaB}{te:TE}{t:TA}{pos:Pos}
def ae:PA X [] La:=fun _ _ _ _ H Q I h=>Qbv ⟨[],H,I,.nil,h⟩
def aa (ha:PE X e te)(hr:PA X es t)(hs:Qaj (e::es) X.env=(false,QaL e X.env)::Qaj es X.env:=by rfl):PA X (e::es) (MT te t):=by
 intro pos pins s σ H Q I h;rw[hs];refine Qa9 (bg (ha s σ H _ I h) fun u s1 hz_=>aj.el hz_ _ ?_);rintro x H1 I1 r1 q1;exact bg (hr s1 σ H1 _ I1 q1) fun us s2 hz_=>aj.el hz_ _ fun xs H2 I2 r2 q2=>⟨x::xs,H2,I2,.cons r1 r2,q2⟩
def Q6 (t:TA):TE:=fun σ H Q=>t σ H fun xs H1=>xs.length<=Wp/\∀p,H1 p=none->Q (.ref p) (upd H1 p (.tup xs))
def Se (t:TA):TE:=fun σ H Q=>t σ H fun xs H1=>xs.length<=Wp/\∀p,H1 p=none->Q (.ref p) (upd H1 p (.lst xs))
def G5 (h:PA X es t):PE X (.Tuple es x1 pos) (Q6 t):=by
 refine fun pins s σ H Q I hq=>wpAny_Tuple_spliced (bg (h s σ H _ I hq) fun us s1 ⟨xs,H1,I1,r,z,q⟩=>⟨by rw[<-r.length];exact z,⟨.ref s1.heap.objs.size,upd H1 s1.heap.objs.size (.tup xs),I1.laid (fun b u e=>Jb _ e) (Je _) ?_,rfl,q _ (I1.bq.fresh (Je _))⟩⟩);exact⟨z,us,r,⟨_,Ji _ rfl,rfl,rfl,_,rfl⟩⟩
def OY (h:PA X es t):PE X (.List es pos) (Se t):=by
 refine fun pins s σ H Q I hq=>wpAny_List_spliced (bg (h s σ H _ I hq) fun us s1 ⟨xs,H1,I1,r,z,q⟩=>⟨by rw[<-r.length];exact z,⟨.ref s1.heap.objs.size,upd H1 s1.heap.objs.size (.lst xs),I1.laid (fun b u e=>Jb _ e) (Je _) ?_,rfl,q _ (I1.bq.fresh (Je _))⟩⟩);exact⟨z,us,0,r,Ji _ rfl⟩
end
abbrev Sp:=List V->Hp->VK->XK->Prop
abbrev HD:=List Env->Hp->KE->XK->Fk->KE->Prop
structure EH (P:Qaf)(w:Qah)(K:Ja)(mg:Str->Option Fk)(base:Heap)(A:Qax)(outer:List Env)(s:KE)(H:Hp):Prop where
 frames:A.frames=some outer
 mod:Mod K mg base
 bs:∀b o,base.get? b=some o->s.heap.get? b=some o/\H b=none
 bsz:base.objs.size<=s.heap.objs.size
 km:s.heap.FunFrames base outer
 frf:∀b∈lI outer,H b=none
 bq:ji P w H s.heap
 bare:Qdy s.gens
def CE (outer:List Env)(P:Qaf)(w:Qah)(H:Hp)(s:KE)(Q:VK)(u:Fk)(s':KE):Prop:=
 eZ fun v H'=>s'.os=s.os/\Qdy s'.gens/\Un (lI outer) [] H H' s.heap s'.heap/\ji P w H' s'.heap/\RelV v u/\Q v H'
def CR (CX:HD)(outer:List Env)(P:Qaf)(w:Qah)(H:Hp)(s:KE)(Q:VK)(E:XK)(r:Qb4)(s':KE):Prop:=
 match r with
 | .ok (.ret u)=>CE outer P w H s Q u s'
 | .ok _=>False
 | .error e=>CX outer H s E e s'
structure aW (P:Qaf)(w:Qah)(K:Ja)(mg:Str->Option Fk)(base:Heap)(CX:HD)(k:Nat)(f:Gc)(fd:Qad)(ps:List Str)(sp:Sp):Prop where
 len:∀vs H Q E,sp vs H Q E->vs.length=ps.length
 run:∀(A:Qax) (outer:List Env) (s:KE) (H:Hp) (args:Args) (us:List Fk) (vs:List V) (Q:VK) (E:XK),da k A->EH P w K mg base A outer s H->QfI s fd args (ps.zip us)->Vals vs us->sp vs H Q E ->
  QaZ (Qab P w) A (.call (.ref f) args) (CR CX outer P w H s Q E) s
def aW.mono {K:Ja}{mg:Str->Option Fk}{base:Heap}{CX:HD}{j k:Nat}{f:Gc}{fd:Qad}{ps:List Str}{sp:Sp}(F:aW P w K mg base CX j f fd ps sp)(h:j<=k):
  aW P w K mg base CX k f fd ps sp:=⟨F.len,fun A outer s H args us vs Q E hr=>F.run A outer s H args us vs Q E (hr.mono h)⟩
def aW.imp {K:Ja}{mg:Str->Option Fk}{base:Heap}{CX:HD}{k:Nat}{f:Gc}{fd:Qad}{ps:List Str}{sp Na:Sp}(F:aW P w K mg base CX k f fd ps sp)
  (h:∀vs H Q E,Na vs H Q E->sp vs H Q E):aW P w K mg base CX k f fd ps Na:=
 ⟨fun vs H Q E q=>F.len vs H Q E (h _ _ _ _ q),fun A outer s H args us vs Q E hr he hb hv hs=>F.run A outer s H args us vs Q E hr he hb hv (h _ _ _ _ hs)⟩
def EH.make {K:Ja}{mg:Str->Option Fk}{base:Heap}{A:Qax}{outer:List Env}{s:KE}{H:Hp}(e:EH P w K mg base A outer s H)(C:Gc)(us:List Fk)(kw:List (Str×Fk)):
  EH P w K mg base (A.under (.builtin "type.__call__" ⟨.ref C::us,kw⟩)) outer s H:=⟨by first|exact e.frames|(simpa [Around.under,Code.envs,Code.isFrame,pushEnvs] using e.frames),e.mod,e.bs,e.bsz,e.km,e.frf,e.bq,e.bare⟩
section
variable {X:Cx}{pins:List (Gc×Obj)}{σ:St}{H:Hp}{s s':KE}
def Inv.KS (I:Inv X pins σ H s):EH X.prog X.w X.K X.mg X.base X.A X.stack s H:=
 ⟨I.ok.frames,I.ok.mod,I.bs,Jh I.ok.bsz I.sz,I.stack,I.vc,I.bq,I.bare⟩
def Inv.after (I:Inv X pins σ H s)(h:CE X.stack X.prog X.w H s Q u s'):EP X pins σ Q u s':=by
 obtain⟨v,H',os,bare,un,bq,r,q⟩:=h;obtain⟨hh,g,d,t,os'⟩:=s';obtain rfl:os'=s.os:=os;exact⟨v,H',I.call un bq bare (fun b z=>absurd z (by simp)),r,q⟩
end
def zr (sp:Sp)(tO:List V)(E:XK)(t:TA):TE:=fun σ H Q=>t σ H fun vs H1=>sp (vs++tO) H1 Q E
def Sj (C:Gc)(m:Str)(sp:Sp)(tO:List V)(E:XK)(ta:TE)(t:TA):TE:=fun σ H Q=>ta σ H fun x H1=>qM fun a dx fs=>x = .ref a/\H1 a=some (.ins C dx fs)/\fs.lookup m=none /\
 t σ H1 fun vs H2=>sp (x::(vs++tO)) H2 Q E
def RS (C:Gc)(sp:Sp)(tO:List V)(E:XK)(t:TA):TE:=fun σ H Q=>t σ H fun vs H1=>∀x dx,H1 x=none->H1 dx=none->dx≠x ->
 sp (.ref x::(vs++tO)) (upd (upd H1 dx (.own x)) x (.ins C dx [])) (fun v H2=>v = .non/\Q (.ref x) H2) E
def Binds (K:Ja)(fd:Qad)(ps:List Str)(ds:List Fk):Prop:=
 ∀s us,K.In s.heap->(us++ds).length=ps.length->QfI s fd ⟨us,[]⟩ (ps.zip (us++ds))
def Binds.all {K:Ja}{fd:Qad}{ps:List Str}(h:∀us,us.length=ps.length->bindArgs fd ⟨us,[]⟩=pure (ps.zip us)):Binds K fd ps []:=fun s us _ hl=>by
 rw[Uv] at hl ⊢;exact .of_eq (h us hl)
def Passes (CX:HD)(X:Cx)(E:XK):Prop:=∀pins (σ:St) (H:Hp) (s:KE) (e:Fk) (s':KE),Inv X pins σ H s->CX X.stack H s E e s'->X.xe e s'
section
variable {X:Cx}{CX:HD}{k:Nat}{f C:Gc}{fd:Qad}{ps:List Str}{sp:Sp}{tO:List V}{ds:List Fk}{E:XK}{x m:Str}{p pos apos:Pos}{e o:QaB}{es:List QaB}{ta:TE}{t:TA}
def BB {σ:St}{H:Hp}{s:KE}{Q:VK}{us:List Fk}{vs:List V}(F:aW X.prog X.w X.K X.mg X.base CX k f fd ps sp)(hr:da k X.A)(hb:Binds X.K fd ps ds)(hd:Vals tO ds)(hx:Passes CX X E)
  (I:Inv X pins σ H s) (r:Vals vs us) (h:sp (vs++tO) H Q E):Qac (Qab X.prog X.w) X.A (call (.ref f) us) (EP X pins σ Q) X.xe s:=by
 have r2:=r.append hd;refine QcF (QcA (F.run X.A X.stack s H ⟨us,[]⟩ (us++ds) (vs++tO) Q E hr I.KS (hb s us I.iA (by rw[<-r2.length];exact F.len _ _ _ _ h)) r2 h) fun r s' hq =>?_);cases r with
 | error e=>exact hx pins σ H s e s' I hq
 | ok fl=>
  cases fl with
  | ret u=>exact I.after hq
  | next=>exact QaV hq
  | brk=>exact QaV hq
  | cont=>exact QaV hq
def Ce (F:aW X.prog X.w X.K X.mg X.base CX k f fd ps sp)(hr:da k X.A)(hg:Gl X x)(hm:X.mg x=some (.ref f))(hk:Ui X.K (.ref f)=true)(hb:Binds X.K fd ps ds)(hd:Vals tO ds)(hx:Passes CX X E)
  (ha:PA X (e::es) t) (oC:(x==("__debug__" : Str))=false:=by decide) (he:Qaj (e::es) X.env=(false,QaL e X.env)::Qaj es X.env:=by rfl) (m7:(QbU pos (Qaj es X.env)).any (·.1)=false:=by rfl) :
  PE X (.Call (.Name x p) (e::es) [] pos) (zr sp tO E t):=
 fun pins s σ H Q I h=>QaJ (iL I hg hm (Qb5 I.ok.mod.zA hk (bg (ha s σ H _ I h) fun us s1 hz_=>aj.el hz_ _ fun vs H1 I1 r q=>⟨I1.iA,(BB F hr hb hd hx I1 r q)⟩) he m7) oC)
def JK (F:aW X.prog X.w X.K X.mg X.base CX k f fd ps sp)(hr:da k X.A)(hg:Gl X x)(hm:X.mg x=some (.ref f))(hk:Ui X.K (.ref f)=true)(hb:Binds X.K fd ps ds)(hd:Vals tO ds)(hx:Passes CX X E)
  (oC:(x==("__debug__" : Str))=false:=by decide):PE X (.Call (.Name x p) [] [] pos) (zr sp tO E La):=
 fun pins s σ H Q I h=>QaJ (iL I hg hm (PySem.W.callWith_K0 I.iA hk (BB F hr hb hd hx I .nil h)) oC)
def v8 {pl:Sem Bool}(he:PE X o ta)(c:BF X.K C)(hm:xJ X.K C m f)(F:aW X.prog X.w X.K X.mg X.base CX k f fd ps sp)(hr:da k X.A)(hb:Binds X.K fd ps ds)(hd:Vals tO ds)(hx:Passes CX X E)(ha:PA X (e::es) t)
  (kK:Qaj (e::es) X.env=(false,QaL e X.env)::Qaj es X.env:=by rfl) (m7:(QbU pos (Qaj es X.env)).any (·.1)=false:=by rfl)
  (ht:QaL (.Call (.Attribute o m apos) (e::es) [] pos) X.env=(do
   let ov <-QaL o X.env
   standAt apos.atName
   let (f,first) <-holding [ov] (getMethod ov m pl)
   callWith pos f first (QbU pos (Qaj (e::es) X.env)) (backToKw pos (Qfo [] X.env))):=by rfl) :
  PE X (.Call (.Attribute o m apos) (e::es) [] pos) (Sj C m sp tO E ta t):=by
 refine fun pins s σ H Q I h=>PySem.W.methodCall_KW (bg (he s σ H _ I h) fun u s1 ⟨x,H1,I1,rx,a,dx,fs,ex,ea,l,q⟩=>?_) ht;subst ex;obtain rfl:u=Qan a:=rx;exact zI I1 ea c hm l (Qb5 I.ok.mod.zA hm.kp (bg (ha s1 σ H1 _ I1 q) fun us s2 hz_=>aj.el hz_ _ fun vs H2 I2 r q2=>⟨I2.iA,(BB (vs := .ref a::vs) F hr hb hd hx I2 (.cons rfl r) q2)⟩) kK m7)
structure Mk (K:Ja)(C f:Gc):Prop where
 makes:Qdi K C=true
 init:J6 K (.ref C) "__init__" = some (some (.ref f))
 fn:Wk K (.ref f)=true
 kp:Ui K (.ref C)=true
def IL {σ:St}{H:Hp}{s:KE}{Q:VK}{us:List Fk}{vs:List V}(M:Mk X.K C f)(F:aW X.prog X.w X.K X.mg X.base CX k f fd ps sp)(hr:da (k+1) X.A)(hb:Binds X.K fd ps ds)(hd:Vals tO ds)
  (hx:Passes CX X E) (I:Inv X pins σ H s) (r:Vals vs us)
  (h:∀x dx,H x=none->H dx=none->dx≠x->sp (.ref x::(vs++tO)) (upd (upd H dx (.own x)) x (.ins C dx [])) (fun v H2=>v = .non/\Q (.ref x) H2) E) :
  Qac (Qab X.prog X.w) X.A (call (.ref C) us) (EP X pins σ Q) X.xe s:=by
 have hq:=h (s.heap.objs.size+1) s.heap.objs.size (I.bq.fresh (Yx _)) (I.bq.fresh (Je _)) (Jm (Wj _));have I2:=Inv.made (C:=C) I;have r2:Vals (V.ref (s.heap.objs.size+1)::(vs++tO)) (Qan (s.heap.objs.size+1)::(us++ds)) := .cons rfl (r.append hd);have hl:(Qan (s.heap.objs.size+1)::us++ds).length=ps.length:=by
  have e:=r2.length;rw[F.len _ _ _ _ hq] at e;exact e.symm
 refine QcF (GN I.iA M.makes M.init (beq_iff_eq.mp M.fn) (QcA (F.run _ X.stack _ _ ⟨Qan (s.heap.objs.size+1)::us,[]⟩ (Qan (s.heap.objs.size+1)::(us++ds)) _ _ E (hr.make C us [])
  (I2.KS.make C us []) (hb _ (Qan (s.heap.objs.size+1)::us) I2.iA hl) r2 hq) fun r s' hq' =>?_))
 cases r with
 | error e=>exact hx pins σ _ _ e s' I2 hq'
 | ok fl=>
  cases fl with
  | ret u=>
   obtain⟨v,H',I3,rv,ev,q3⟩:=I2.after hq';subst ev;exact⟨rv,⟨V.ref (s.heap.objs.size+1),H',I3,rfl,q3⟩⟩
  | next=>exact QaV hq'
  | brk=>exact QaV hq'
  | cont=>exact QaV hq'
def CP (M:Mk X.K C f)(F:aW X.prog X.w X.K X.mg X.base CX k f fd ps sp)(hr:da (k+1) X.A)(hg:Gl X x)(hm:X.mg x=some (.ref C))(hb:Binds X.K fd ps ds)(hd:Vals tO ds)(hx:Passes CX X E)
  (ha:PA X (e::es) t) (oC:(x==("__debug__" : Str))=false:=by decide) (he:Qaj (e::es) X.env=(false,QaL e X.env)::Qaj es X.env:=by rfl) (m7:(QbU pos (Qaj es X.env)).any (·.1)=false:=by rfl) :
  PE X (.Call (.Name x p) (e::es) [] pos) (RS C sp tO E t):=
 fun pins s σ H Q I h=>QaJ (iL I hg hm (Qb5 I.ok.mod.zA M.kp (bg (ha s σ H _ I h) fun us s1 hz_=>aj.el hz_ _ fun vs H1 I1 r q=>⟨I1.iA,(IL M F hr hb hd hx I1 r q)⟩) he m7) oC)
end
structure aA (N P:List Str)(sc:Qb3):Prop where
 kind:sc.kind = .function
 co:sc.isCoroutine=false
 gen:sc.isGenerator=false
 nd:N.Nodup
 pre:N.take P.length=P
 par:∀x∈P,sc.names.lookup x=some .local\/sc.names.lookup x=some .cell
 nofree:∀y∈sc.names,y.2 ≠ .free
def tR {kindOf:Str->Option QcB}{x:Str}:∀{binds:List (Str×Fk)} {m:Str->Option Fk},(∀v,(x,v)∉binds)->bindL kindOf binds m x=m x
 | [],_,_=>rfl
 | (n,v)::r,m,h=>by
  unfold bindL;rw[tR fun w hw=>h w (Jl _ hw)]
  split
  ·have:x≠n:=by rintro rfl;exact h v Jo
   simp[this]
  ·rfl
def tT {kindOf:Str->Option QcB}{x:Str}:∀{binds:List (Str×Fk)} {m:Str->Option Fk},(∀v,(x,v)∉binds)->bindC kindOf binds m x=m x
 | [],_,_=>rfl
 | (n,v)::r,m,h=>by
  unfold bindC;rw[tT fun w hw=>h w (Jl _ hw)]
  split
  ·rfl
  ·have:x≠n:=by rintro rfl;exact h v Jo
   simp[this]
def tM {kindOf:Str->Option QcB}{x:Str}{v:Fk}:∀{P:List Str} {vs:List Fk} {i:Nat} {m:Str->Option Fk},P.Nodup->P[i]? = some x->vs[i]? = some v->kindOf x=some .local ->
  bindL kindOf (P.zip vs) m x=some v
 | [],_,_,_,_,h,_,_=>by simp at h
 | _::_,[],_,_,_,_,h,_=>by simp at h
 | p::P,w::vs,0,m,nd,h1,h2,hk=>by
  simp at h1 h2;subst h1;subst h2;show bindL kindOf ((p,w)::P.zip vs) m p=_;unfold bindL;rw[tR fun v hv=>(U9.mp nd).1 (Qb8 hv).1,if_pos hk];simp
 | p::P,w::vs,i+1,m,nd,h1,h2,hk=>by
  show bindL kindOf ((p,w)::P.zip vs) m x=_;exact tM (U9.mp nd).2 (by simpa using h1) (by simpa using h2) hk
def uE {kindOf:Str->Option QcB}{x:Str}{v:Fk}:∀{P:List Str} {vs:List Fk} {i:Nat} {m:Str->Option Fk},P.Nodup->P[i]? = some x->vs[i]? = some v->kindOf x≠some .local ->
  bindC kindOf (P.zip vs) m x=some v
 | [],_,_,_,_,h,_,_=>by simp at h
 | _::_,[],_,_,_,_,h,_=>by simp at h
 | p::P,w::vs,0,m,nd,h1,h2,hk=>by
  simp at h1 h2;subst h1;subst h2;show bindC kindOf ((p,w)::P.zip vs) m p=_;unfold bindC;rw[tT fun v hv=>(U9.mp nd).1 (Qb8 hv).1,if_neg hk];simp
 | p::P,w::vs,i+1,m,nd,h1,h2,hk=>by
  show bindC kindOf ((p,w)::P.zip vs) m x=_;exact uE (U9.mp nd).2 (by simpa using h1) (by simpa using h2) hk
def start (N:List Str)(vs:List V):St:=vs.map some++J0 (N.length-vs.length) none
def kS (CX:HD)(P:Qaf)(w:Qah)(K:Ja)(mg:Str->Option Fk)(base:Heap)(N:List Str)(qual:Str)(scope:Qb3)(f:Gc)(cd:Fk)(A:Qax)(outer:List Env)(s:KE)(H:Hp)(E:XK):Cx where
 prog:=P
 w:=w
 K:=K
 mg:=mg
 base:=base
 A:=A.deeper (QbG qual scope s.heap.objs.size f cd)
 N:=N
 s₀:=s
 H₀:=H
 env:=QbG qual scope s.heap.objs.size f cd
 outer:=outer
 stack:=QbG qual scope s.heap.objs.size f cd::outer
 ex:=[]
 calm:=true
 fn:=fun _=>true
 pn:=[]
 xe:=fun e s'=>Qac (Qab P w) (A.deeper (QbG qual scope s.heap.objs.size f cd)) (leaving (QbG qual scope s.heap.objs.size f cd) e) (fun _ s''=>CX outer H s E e s'') (fun e' s''=>CX outer H s E e' s'') s'
def zw {sc:Qb3}{n:Nat}{x:Str}(h:sc.names.lookup x=some .cell):∃c,(cellsFrom n sc.names []).lookup x=some c:=
 Option.isSome_iff_exists.mp (Qfg sc.names n [] (.inl h))
def Dy {P:Qaf}{w:Qah}{K:Ja}{mg:Str->Option Fk}{base:Heap}{N ps:List Str}{qual:Str}{scope:Qb3}{f:Gc}{cd:Fk}{A:Qax}{outer:List Env}{s s1:KE}{H:Hp}{E:XK}{us:List Fk}{vs:List V}
  (S:aA N ps scope) (hd:A.handled=none) (e0:EH P w K mg base A outer s H) (hl:vs.length=ps.length) (r:Vals vs us)
  (x:InCallC s s.heap.objs.size (bindL (QbG qual scope s.heap.objs.size f cd).kindOf (ps.zip us) fun _=>none) (cellsFrom (s.heap.objs.size+1) scope.names []) (bindC (QbG qual scope s.heap.objs.size f cd).kindOf (ps.zip us) fun _=>none) s1) :
  Inv (kS CX P w K mg base N qual scope f cd A outer s H E) [] (start N vs) H s1:=by
 have m7:ps.length<=N.length:=by have:=congrArg Qgd S.pre;rw[Uo] at this;lia
 obtain⟨h1,tk,rfl,hk⟩:=x.done;have QI:∀b,b∉(kS CX P w K mg base N qual scope f cd A outer s H E).ex:=fun b z=>absurd (show b∈([]:List Gc) from z) (by simp);refine⟨⟨e0.mod,S.kind,rfl,rfl,Je _,fun y z c h1 h2 =>?_,fun y hy =>?_,fun y c _ h =>?_,fun _=>hd,Around.frames_deeper e0.frames,.inr ⟨rfl,rfl⟩,fun b z=>absurd z (QI b),e0.bs,e0.bsz,fun b _ _=>QI b,fun b z=>absurd z (QI b),e0.km,e0.frf⟩,
  rfl,e0.bare,Un.kept hk,⟨_,x.toInCall.ns,fun i y v h1 h2 h3 =>?_⟩,fun y c h=>⟨_,x.cell y c h⟩,e0.bq.fresh (Je _),fun y c h =>?_,fun p hp=>absurd (show p∈([]:List (Gc×Obj)) from hp) (by simp),e0.bq.kept hk,?_⟩
 ·exact name_of_addr x.apart (Qbz h1) (Qbz h2)
 ·have hy:=hy
  rcases hy with hy|hy
  ·exact zw hy
  ·exact absurd rfl (S.nofree _ (Qbz hy))
 ·exact Yj (x.above y c (Qbz h))
 ·have hi:i<vs.length:=by
   unfold start at h2
   by_cases hi:i<vs.length
   ·exact hi
   ·rw[Ux (by simpa using hi)] at h2;rw[Ys] at h2
    split at h2<;>cases h2
  have ha:vs[i]? = some v:=by
   unfold start at h2;rw[Uz (by simpa using hi),Jk] at h2;cases e:vs[i]? with
   | none=>rw[e] at h2;cases h2
   | some a=>rw[e] at h2;cases h2;rfl
  obtain⟨u,hu,rv⟩:=r.get ha;have hp:ps[i]? = some y:=by
   rw[<-S.pre,Qft ⋯];exact h1
  have ndP:ps.Nodup:=by rw[<-S.pre];exact S.nd.sublist (List.take_sublist _ _)
  refine⟨u,rv,?_⟩
  rcases S.par y (Jy hp) with k|k
  ·exact .inl ⟨k,tM ndP hp hu k⟩
  ·obtain⟨c,e⟩:=zw k;refine .inr ⟨.inl k,c,e,?_⟩;have q:=x.cell y c e;rw[uE ndP hp hu (by show scope.names.lookup y≠_;rw[k];decide)] at q;exact q
 ·exact e0.bq.fresh (Yj (x.above y c (Qbz h)))
 ·unfold start;show _=N.length;rw[Jw,Jc,U1];lia
def MU {K:Ja}{mg:Str->Option Fk}{base:Heap}{k:Nat}{f:Gc}{name qual:Str}{params:Arguments}{body:List QdC}{scope:Qb3}{dV kV doc pm cQ ct oc:Fk}{an od:Option Gc}
  {DD:Array (Option Fk)} {N ps:List Str} {sp:Sp} (lk:K.lookup f=some ⟨oc,od,.func (Yd name qual params body scope dV kV doc pm an cQ ct),DD⟩) (zU:Yp K cQ qual=true) (S:aA N ps scope)
  (len:∀vs H Q E,sp vs H Q E->vs.length=ps.length)
  (zu:∀A outer s H vs Q E,da k (A.deeper (QbG qual scope s.heap.objs.size f cQ))->sp vs H Q E ->
   ∃t,zB (kS CX P w K mg base N qual scope f cQ A outer s H E) body t/\t { nx:=fun _ H'=>Q .non H',rt:=Q } (start N vs) H) :
  aW P w K mg base CX (k+1) f (Yd name qual params body scope dV kV doc pm an cQ ct) ps sp:=by
 refine⟨len,fun A outer s H args us vs Q E hr e0 hb r Ke =>?_⟩;have KX:=e0.mod.zA.keeps fun b o e=>(e0.bs b o e).1;have Rf:∀y∈ps.zip us,scope.names.lookup y.1=some .local\/(scope.names.lookup y.1=some .cell/\((cellsFrom (s.heap.objs.size+1) scope.names []).lookup y.1).isSome=true):=fun⟨n,v⟩ hy=>by
  rcases S.par n (Qb8 hy).1 with q|q
  ·exact .inl q
  ·exact .inr ⟨q,Qfg _ _ _ (.inl q)⟩
 refine codeAny_call_function hr.depth (KX _ _ lk) rfl S.co S.gen rfl (PySem.W.codeRec_of KX zU) (hb _ _ _ _ (wpAny_newFunctionEnv_cells S.kind Rf fun env he s1 x =>?_));subst he;refine⟨(e0.mod.nolimit.keeps fun b o e=>(e0.bs b o e).1).keeps x.toInCall.keep,codeAny_func ?_⟩;obtain⟨t,ht,hq⟩:=zu A outer s H vs Q E (hr.deeper _) Ke;refine Qbc (ht s1 (start N vs) H _ (Dy S hr.hd e0 (len _ _ _ _ Ke) r x) hq) (fun fl s' hs =>?_) fun e s' hs=>hs;have fin:∀{σ':St} {H':Hp} {v:V} {u:Fk},Inv (kS CX P w K mg base N qual scope f cQ A outer s H E) [] σ' H' s'->RelV v u->Q v H'->CE outer P w H s Q u s':=
  fun{σ' H' v u} J rv q=>⟨v,H',J.os,J.bare,J.base,J.bq,rv,q⟩
 cases fl with
 | ret u=>
  obtain⟨v,σ',H',J,rv,q⟩:=hs;exact fin J rv q
 | next=>
  obtain⟨σ',H',J,q⟩:=hs;exact fin (v:=V.non) J rfl q
 | brk=>
  obtain⟨_,_,_,q⟩:=hs;exact QaV q
 | cont=>
  obtain⟨_,_,_,q⟩:=hs;exact QaV q
section
variable {X:Cx}{x:Str}{p pos:Pos}{e:QaB}{es:List QaB}{t:TA}{id T:String}{r:List V->Hp->VK->Prop}
def WG (r:List V->Hp->VK->Prop)(t:TA):TE:=fun σ H Q=>t σ H fun vs H1=>r vs H1 Q
def aq (hc:bF X (.builtin id) r)(hg:Gl X x)(hm:X.mg x=none)(hv:QaR x=some (.builtin id))(ha:PA X (e::es) t)(hn:x ≠ "__name__":=by decide)(oC:(x==("__debug__" : Str))=false:=by decide)
  (he:Qaj (e::es) X.env=(false,QaL e X.env)::Qaj es X.env:=by rfl) (m7:(QbU pos (Qaj es X.env)).any (·.1)=false:=by rfl):PE X (.Call (.Name x p) (e::es) [] pos) (WG r t):=
 fun pins s σ H Q I h=>QaJ (dW I hg hm hv (PyProof.Rows.callWith_builtin1 (bg (ha s σ H _ I h) fun us s1 hz_=>aj.el hz_ _ fun vs H1 I1 r1 q1=>hc s1 σ H1 vs us Q I1 r1 q1) he m7) hn oC)
def bh (hc:bF X (.type T) r)(hg:Gl X x)(hm:X.mg x=none)(hv:QaR x=some (.type T))(ha:PA X (e::es) t)(hn:x ≠ "__name__":=by decide)(oC:(x==("__debug__" : Str))=false:=by decide)
  (he:Qaj (e::es) X.env=(false,QaL e X.env)::Qaj es X.env:=by rfl) (m7:(QbU pos (Qaj es X.env)).any (·.1)=false:=by rfl):PE X (.Call (.Name x p) (e::es) [] pos) (WG r t):=
 fun pins s σ H Q I h=>QaJ (dW I hg hm hv (Qam (bg (ha s σ H _ I h) fun us s1 hz_=>aj.el hz_ _ fun vs H1 I1 r1 q1=>hc s1 σ H1 vs us Q I1 r1 q1) he m7) hn oC)
end
section
variable {κ:Type}[DecidableEq κ]
def dI (kvs:List (κ×V))(k: κ):Option V:=(kvs.find? fun kv=>decide (kv.1=k)).map (·.2)
def putK (kvs:List (κ×V))(k: κ)(v:V):List (κ×V):=
 if (kvs.any fun kv=>decide (kv.1=k))=true then kvs.map (fun kv=>if kv.1=k then (kv.1,v) else kv) else kvs++[(k,v)]
def cE {k: κ}(e:p.1=k):dI (p::r) k=some p.2:=by simp[dI,e]
def bW {k: κ}(e:¬p.1=k):dI (p::r) k=dI r k:=by simp[dI,e]
def ik (k: κ):∀kvs,(kvs.any fun kv=>decide (kv.1=k))=(dI kvs k).isSome
 | []=>rfl
 | p::r=>by
  rw[Wa]
  by_cases e:p.1=k
  ·simp only[cE e,decide_eq_true e,Bool.true_or,Qga]
  ·rw[bW e,decide_eq_false e,Bool.false_or];exact ik k r
def xC (k j: κ)(y:V):∀kvs,dI (kvs.map fun kv=>if kv.1=k then (kv.1,y) else kv) j=(dI kvs j).map fun x=>if j=k then y else x
 | []=>rfl
 | p::r=>by
  have ih:=xC k j y r;rw[J3]
  by_cases h:p.1=k
  ·rw[if_pos h]
   by_cases e:p.1=j
   ·rw[cE (p:=(p.1,y)) e,cE e,Qds,if_pos (e.symm.trans h)]
   ·rw[bW (p:=(p.1,y)) e,bW e,ih]
  ·rw[if_neg h]
   by_cases e:p.1=j
   ·rw[cE e,cE e,Qds,if_neg (fun z=>h (e.trans z))]
   ·rw[bW e,bW e,ih]
def nQ (k j: κ)(y:V):∀kvs,dI kvs k=none->dI (kvs++[(k,y)]) j=if j=k then some y else dI kvs j
 | [],_=>by
  by_cases e:k=j
  ·rw[if_pos e.symm];exact cE e
  ·rw[if_neg (fun z=>e z.symm)];exact bW e
 | p::r,hn=>by
  rw[Qdp];have hk:¬p.1=k:=fun z=>by rw[cE z] at hn;cases hn
  rw[bW hk] at hn
  by_cases e:p.1=j
  ·rw[cE e,cE e,if_neg (fun z=>hk (e.trans z))]
  ·rw[bW e,bW e,(nQ k j y r hn)]
def G6 (kvs:List (κ×V))(k j: κ)(y:V):dI (putK kvs k y) j=if j=k then some y else dI kvs j:=by
 unfold putK
 by_cases a:(kvs.any fun kv=>decide (kv.1=k))=true
 ·rw[if_pos a,xC];rw[ik] at a
  by_cases e:j=k
  ·obtain⟨x,hx⟩:=Option.isSome_iff_exists.mp a;rw[if_pos e,e,hx,Qds,if_pos rfl]
  ·rw[if_neg e];cases dI kvs j with
   | none=>rfl
   | some x=>rw[Qds,if_neg e]
 ·rw[if_neg a];refine nQ k j y kvs ?_;rw[ik] at a;cases q:dI kvs k with
  | none=>rfl
  | some x=>rw[q] at a;exact(a rfl).elim
def fj (kvs:List (κ×V))(k: κ)(v:V):(putK kvs k v).length<=kvs.length+1:=by
 unfold putK
 split
 ·rw[Jc];lia
 ·rw[Jw,Jr,Y6];lia
def yM {k: κ}(v:V)(h:dI kvs k=none):putK kvs k v=kvs++[(k,v)]:=by
 unfold putK;rw[ik,h];exact if_neg ∅
def iT.m8 (r:iT o u):o.isSome=u.isSome:=by
 cases o with
 | none=>cases u with
  | none=>rfl
  | some _=>exact(show False from r).elim
 | some _=>cases u with
  | none=>exact(show False from r).elim
  | some _=>rfl
def iT.getD (r:iT o u)(rd:RelV d d'):RelV (o.getD d) (u.getD d'):=by
 cases o with
 | none=>cases u with
  | none=>exact rd
  | some _=>exact(show False from r).elim
 | some _=>cases u with
  | none=>exact(show False from r).elim
  | some _=>exact r
def KV.val (r:KV kvs vs)(k: κ):iT (dI kvs k) (QfA vs k):=by
 induction r with
 | nil=>exact QaO
 | @cons p q ps qs h t ih=>
  obtain⟨h1,h2⟩:=h
  by_cases e:p.1=k
  ·have e':=h1.symm.trans e;have b:QfA (q::qs) k=some q.2:=by simp[QfA,e']
   rw[cE e,b];exact h2
  ·have e':¬q.1=k:=fun z=>e (h1.trans z);have b:QfA (q::qs) k=QfA qs k:=by simp[QfA,e']
   rw[bW e,b];exact ih
def KV.any (r:KV kvs vs)(k: κ):(kvs.any fun kv=>decide (kv.1=k))=vs.any fun kv=>decide (kv.1=k):=by
 induction r with
 | nil=>rfl
 | cons h t ih=>rw[Wa,Wa,ih,h.1]
def KV.PK (r:KV kvs vs)(k: κ){y:V}{u:Fk}(ry:RelV y u):
  KV (kvs.map fun kv=>if kv.1=k then (kv.1,y) else kv) (vs.map fun kv=>if kv.1=k then (kv.1,u) else kv):=by
 induction r with
 | nil=>exact .nil
 | @cons p q ps qs h t ih=>
  rw[J3,J3];refine .cons ?_ ih;obtain⟨h1,h2⟩:=h
  by_cases e:p.1=k
  ·rw[if_pos e,if_pos (h1.symm.trans e)];exact⟨h1,ry⟩
  ·rw[if_neg e,if_neg (fun z=>e (h1.trans z))];exact⟨h1,h2⟩
def KV.put (r:KV kvs vs)(k: κ){y:V}{u:Fk}(ry:RelV y u):KV (putK kvs k y) (QeC vs k u):=by
 unfold putK QeC;rw[r.any k]
 by_cases e:(vs.any fun kv=>decide (kv.1=k))=true
 ·rw[if_pos e,if_pos e];exact r.PK k ry
 ·rw[if_neg e,if_neg e];exact Paired.snoc r ⟨rfl,ry⟩
def KV.length {vs:List (κ×Fk)}(r:KV kvs vs):kvs.length=vs.length:=Qe8 r
end
def mW {k:Key}{u:Fk}(r:RelV (kV k) u):(bD P w).is k u=true:=by
 cases k with
 | inl i=>obtain⟨t,e⟩:=(show ∃t,u=QdQ i t from r);subst e;exact ye P w i t
 | inr x=>obtain⟨t,e⟩:=(show ∃t,u=QcK x t from r);subst e;exact xw P w x t
def uv:∀{ks:List Key} {us:List Fk},Vals (ks.map kV) us->ItemsAre (bD P w) ks us
 | [],_,r=>by rw[QcL] at r;cases r;exact .nil
 | k::ks,_,r=>by
  cases r with
  | cons h t=>exact .cons (mW h) (uv t)
abbrev KT (H:Hp):List (List Key×V)->List (List Key×Gc×Fk)->Prop:=QfW fun p q=>p.1=q.1/\H q.2.1=some (.tup (p.1.map kV))/\RelV p.2 q.2.2
def KT.val (r:KT H kvs xs)(k:List Key):iT (dI kvs k) ((atKey xs k).map (·.2)):=by
 induction r with
 | nil=>exact QaO
 | @cons p q ps qs h t ih=>
  obtain⟨h1,_,h2⟩:=h
  by_cases e:p.1=k
  ·have e':=h1.symm.trans e;have b:atKey (q::qs) k=some q.2:=by simp[atKey,e']
   rw[cE e,b];exact h2
  ·have e':¬q.1=k:=fun z=>e (h1.trans z);have b:atKey (q::qs) k=atKey qs k:=by simp[atKey,e']
   rw[bW e,b];exact ih
def KT.PK (r:KT H kvs xs)(k:List Key){y:V}{u:Fk}(ry:RelV y u):
  KT H (kvs.map fun kv=>if kv.1=k then (kv.1,y) else kv) (xs.map (putAt k u)):=by
 induction r with
 | nil=>exact .nil
 | @cons p q ps qs h t ih=>
  rw[J3,J3];refine .cons ?_ ih;obtain⟨h1,h2,h3⟩:=h;unfold putAt
  by_cases e:p.1=k
  ·rw[if_pos e,if_pos (h1.symm.trans e)];exact⟨h1,h2,ry⟩
  ·rw[if_neg e,if_neg (fun z=>e (h1.trans z))];exact⟨h1,h2,h3⟩
def KT.put (r:KT H kvs xs)(k:List Key){b:Gc}{y:V}{u:Fk}(hb:H b=some (.tup (k.map kV)))(ry:RelV y u):
  KT H (putK kvs k y) (storedH xs k b u):=by
 have e:(kvs.any fun kv=>decide (kv.1=k))=(atKey xs k).isSome:=by
  rw[ik,(r.val k).m8,Option.isSome_map]
 unfold putK storedH;rw[e]
 by_cases q:(atKey xs k).isSome=true
 ·rw[if_pos q,if_pos q];exact r.PK k ry
 ·rw[if_neg q,if_neg q];exact Paired.snoc r ⟨rfl,hb,ry⟩
def KT.keeps {kvs:List (List Key×V)}{xs:List (List Key×Gc×Fk)}(r:KT H kvs xs)(ht:∀b ys,H b=some (.tup ys)->H' b=some (.tup ys)):KT H' kvs xs:=
 Paired.SH r fun _ _ z=>⟨z.1,ht _ _ z.2.1,z.2.2⟩
section
variable {P:Qaf}{w:Qah}{H:Hp}{h:Heap}{a:Gc}
def MO (ok:ji P w H h)(e:Rd H a u):bw P w H h a u:=e.ok ok
def ug (ok:ji P w H h)(e:Rd H a (.dK kvs)):kvs.length<=Wp/\(a==QbB)=false/\∃vs,KV kvs vs/\h.DictOf (bD P w) a vs:=
 show bw P w H h a (.dK kvs) from MO ok e
def BU (ok:ji P w H h)(e:H a=some (.dK kvs)):kvs.length<=Wp/\(a==QbB)=false/\∃vs,KV kvs vs/\h.DictOf (bD P w) a vs:=ug ok (.inl e)
def rQ (ok:ji P w H h)(e:H a=some (.tup (ks.map kV))):(Qeh (bD P w)).is h ks a:=by
 obtain⟨_,aw,r,o,h1,_,h2,n,h3⟩:=(show bw P w H h a (.tup (ks.map kV)) from ok a _ e)
 exact⟨o,aw.toArray,n,h1,h2,h3,by simpa using uv r⟩
def tD (ok:ji P w H h)(e:Rd H a (.dT kvs)):kvs.length<=Wp/\(a==QbB)=false /\
  ∃xs,KT H kvs xs/\h.DictOfH (Qeh (bD P w)) a xs:=by
 obtain⟨z,y,xs,r,o,es,ep,h1,h2,h3,h4,h5⟩:=(show bw P w H h a (.dT kvs) from MO ok e)
 refine⟨z,y,xs,r,o,es,ep,h1,h2,h3,h4,fun x hx =>?_,h5⟩;have all:∀{l:List (List Key×V)} {m:List (List Key×Gc×Fk)},KT H l m->∀x∈m,(Qeh (bD P w)).is h x.1 x.2.1:=by
  intro l m q
  induction q with
  | nil=>intro x hx;exact nomatch hx
  | @cons p q ps qs hq t ih=>
   intro x hx
   rcases Jx.mp hx with e|hx
   ·subst e;exact rQ ok (by rw[<-hq.1];exact hq.2.1)
   ·exact ih x hx
 exact all r x hx
def SW (ok:ji P w H h)(e:H a=some (.dT kvs)):kvs.length<=Wp/\(a==QbB)=false /\
  ∃xs,KT H kvs xs/\h.DictOfH (Qeh (bD P w)) a xs:=tD ok (.inl e)
end
def dJ (H:Hp)(a:Gc)(y:V)(r:Option V):Prop:=
 (eZ fun kvs k=>Rd H a (.dK kvs)/\y=kV k/\r=dI kvs k)\/qM fun kvs k b=>Rd H a (.dT kvs)/\y = .ref b/\H b=some (.tup (k.map kV))/\r=dI kvs k
def tm (H:Hp)(a:Gc)(y v:V)(H':Hp):Prop:=
 (eZ fun kvs k=>H a=some (.dK kvs)/\y=kV k/\kvs.length<Wp/\H'=upd H a (.dK (putK kvs k v))) \/
 qM fun kvs k b=>H a=some (.dT kvs)/\y = .ref b/\H b=some (.tup (k.map kV))/\kvs.length<Wp/\H'=upd H a (.dT (putK kvs k v))
def dJ.k {k:Key}(e:H a=some (.dK kvs)):dJ H a (kV k) (dI kvs k) := .inl ⟨kvs,k,.inl e,rfl,rfl⟩
def tm.k {k:Key}{v:V}(e:H a=some (.dK kvs))(hl:kvs.length<Wp):tm H a (kV k) v (upd H a (.dK (putK kvs k v))) := .inl ⟨kvs,k,e,rfl,hl,rfl⟩
section
variable {X:Cx}{pins:List (Gc×Obj)}{σ:St}{H:Hp}{s:KE}{a:Gc}{y v:V}{u r:Fk}{o:Option V}{A:Qax}{E:Fk->KE->Prop}
def Inv.big (I:Inv X pins σ H s):QbB<s.heap.objs.size:=
 Qck ∅ ((I.mod.glob.keeps I.bk).lt)
def Fq (hu:A.units+1<Qc4)(I:Inv X pins σ H s)(g:dJ H a y (some v))(ry:RelV y u)(h:∀w' s',Inv X pins σ H s'->RelV v w'->Q w' s'):
  Qac (Qab X.prog X.w) A (Qej (.ref a) u) Q E s:=by
 rcases g with ⟨kvs,k,e,ey,l⟩|⟨kvs,k,b,e,ey,eb,l⟩
 ·subst ey;obtain⟨z,hd,vs,rel,dd⟩:=ug I.bq e;obtain⟨w',hw,rw'⟩:=iT.wB (by rw[l];exact rel.val k);exact wpAny_getItem_of (mW ry) dd.mapOf hw (h w' _ (I.tok _) rw')
 ·subst ey;cases (show u=Qan b from ry);obtain⟨z,hd,xs,rel,dd⟩:=tD I.bq e;obtain⟨w',hw,rw'⟩:=iT.wB (by rw[l];exact rel.val k);obtain⟨p,hp,Ly⟩:=Option.map_eq_some_iff.mp hw;refine wpAny_getItem_heap (Qdb hu) (rQ I.bq eb) dd hp ?_;rw[Ly];exact h w' _ (I.tok _) rw'
def Xq (hu:A.units+1<Qc4)(I:Inv X pins σ H s)(g:dJ H a y o)(ry:RelV y u)(h:∀s',Inv X pins σ H s'->Q (.bool o.isSome) s'):
  Qac (Qab X.prog X.w) A (QaF .In u (.ref a)) Q E s:=by
 rcases g with ⟨kvs,k,e,ey,l⟩|⟨kvs,k,b,e,ey,eb,l⟩
 ·subst ey;obtain⟨z,hd,vs,rel,dd⟩:=ug I.bq e;refine wpAny_in_of (mW ry) hd dd.mapOf ?_;rw[<-(rel.val k).m8,<-l];exact h _ (I.tok _)
 ·subst ey;cases (show u=Qan b from ry);obtain⟨z,hd,xs,rel,dd⟩:=tD I.bq e;refine wpAny_in_heap (Qdb hu) (rQ I.bq eb) hd dd ?_;have q:=(rel.val k).m8;rw[Option.isSome_map] at q;rw[<-q,<-l];exact h _ (I.tok _)
def mx {ob:HO}(I:Inv X pins σ H s)(mu:R0 (H a))(hs:U6 a s.heap h')(he:∃q,h'.get? a=some q)(new:bw X.prog X.w (upd H a ob) h' a ob):
  Inv X pins σ (upd H a ob) { s with heap:=h',toks:=t' }:=
 I.write mu (.inl rfl) (fun b q hb z=>(hs.2 b hb).trans z) he new
def AL {kvs:List (Key×V)}{vs:List (Key×Fk)}(z:kvs.length<=Wp)(hd:(a==QbB)=false)(rel:KV kvs vs)(dd:h'.DictOf (bD P w) a vs):
  bw P w H' h' a (.dK kvs):=⟨z,hd,vs,rel,dd⟩
def Es (hu:A.units+1<Qc4)(I:Inv X pins σ H s)(g:tm H a y v H')(ry:RelV y u)(rv:RelV v r)(h:∀s',Inv X pins σ H' s'->Q () s'):
  Qac (Qab X.prog X.w) A (setItem (.ref a) u r) Q E s:=by
 rcases g with ⟨kvs,k,e,ey,l,eH⟩|⟨kvs,k,b,e,ey,eb,l,eH⟩
 ·subst ey eH;obtain⟨z,hd,vs,rel,dd⟩:=BU I.bq e;have hz:vs.length<=Wp:=by rw[<-rel.length];exact z
  have hl:(putK kvs k v).length<=Wp:=by have:=fj kvs k v;lia
  exact wpAny_setItem_pairs (mW ry) dd fun h' dd' hs=>h _ (mx I (by rw[e];exact QaO) hs (let ⟨q,_,_,hq,_⟩:=dd'; ⟨q,hq⟩) (AL hl hd (rel.put k rv) dd'))
 ·subst ey eH;cases (show u=Qan b from ry);obtain⟨z,hd,xs,rel,dd⟩:=SW I.bq e;have hz:xs.length<=Wp:=by rw[<-Qe8 rel];exact z
  have hl:(putK kvs k v).length<=Wp:=by have:=fj kvs k v;lia
  refine wpAny_setItem_heap (Qdb hu) (rQ I.bq eb) dd fun h' dd' hs=>h _ ?_;obtain⟨q,es,ep,hq,h2,h3,h4,_,h5⟩:=dd';refine mx I (by rw[e];exact QaO) hs ⟨q,hq⟩ ⟨hl,hd,_,(rel.put k eb rv).keeps fun c ys ec =>?_,q,es,ep,hq,h2,h3,h4,h5⟩;rw[ao (rj ec e (nofun))];exact ec
end
def Ou (i:QaB):Prop:=∀ov iv,Qfn i false ov iv=operate [ov,iv] (Qej ov iv)
def BW {env:Env}{value slice:QaB}{pos:Pos}{T id:String}{Q:Fk->KE->Prop}
  (hl:Qbs (.type T) "__getitem__" = pure (some (.builtin id))) (hs:Ou slice)
  (h:Qac (Qab prog w) A (QaL value env) (fun o s₁=>Qac (Qab prog w) A (QaL slice env) (fun i s₂=>s₂.TypeIs o T/\Qac (Qab prog w) A (Qej o i) Q E s₂) E s₁) E s) :
  Qac (Qab prog w) A (QaL (.Subscript value slice pos) env) Q E s:=by
 refine QfT (Qbc h (fun o s₁ h₁=>Qbc h₁ (fun i s₂ h₂ =>?_) fun _ _ x=>x) fun _ _ x=>x);obtain⟨hT,h₂⟩:=h₂;refine be (be (QcW hT hl ?_));have fin:Qac (Qab prog w) A (Qfn slice false o i) (fun r s₃=>Qac (Qab prog w) A (letTemporaryGo value o r >>= fun _=>pure r) Q E s₃) E s₂:=by
  rw[hs o i];exact wpAny_operating (Qbc h₂ (fun r s₃ h₃=>be (wpAny_letTemporaryGo (tz h₃))) fun _ _ x=>x)
 first
  | exact tz (be fin)
  | exact be (tz (be fin))
  | exact be fin
def xU {σ:St}{H:Hp}{s:KE}{a:Gc}{y:V}{o:Option V}(I:Inv X pins σ H s)(g:dJ H a y o):s.TypeIs (.ref a) "dict":=by
 rcases g with ⟨kvs,k,e,_,_⟩|⟨kvs,k,b,e,_,_,_⟩
 ·obtain⟨_,_,vs,_,dd⟩:=ug I.bq e;exact dd.typeIs
 ·obtain⟨_,_,xs,_,dd⟩:=tD I.bq e;exact dd.typeIs
def SR (td ty:TE):TE:=fun σ H Q=>td σ H fun x H1=>ty σ H1 fun y H2=>eZ fun a v=>x = .ref a/\dJ H2 a y (some v)/\Q v H2
def YX (ty td:TE):TE:=fun σ H Q=>ty σ H fun y H1=>td σ H1 fun x H2=>eZ fun a o=>x = .ref a/\dJ H2 a y o/\Q (.bl o.isSome) H2
def QA (td ty tv:TE):TS:=fun D σ H=>tv σ H fun v H1=>td σ H1 fun x H2=>ty σ H2 fun y H3=>eZ fun a H4=>x = .ref a/\tm H3 a y v H4/\D.nx σ H4
section
variable {X:Cx}{o i e value:QaB}{pos pos' Vo:Pos}{td ty tv:TE}
def bO (hu:X.A.units+1<Qc4)(ho:PE X o td)(hi:PE X i ty)(hs:Ou i):PE X (.Subscript o i pos) (SR td ty):=by
 refine fun pins s σ H Q I h=>BW PySem.F.slot_dict_getitem.lookup hs (bg (ho s σ H _ I h) fun u s1 hz_=>aj.el hz_ _ fun x H1 I1 rx q1=>bg (hi s1 σ H1 _ I1 q1) fun iv s2 hz_=>aj.el hz_ _ ?_);rintro y H2 I2 ry ⟨a,v,ex,g,q2⟩;subst ex;obtain rfl:u=Qan a:=rx;exact⟨xU I2 g,Fq hu I2 g ry fun w' s3 I3 rw'=>⟨v,H2,I3,rw',q2⟩⟩
def N0 (hu:X.A.units+1<Qc4)(hi:PE X i ty)(ho:PE X o td):PC X .In i o (YX ty td):=by
 refine fun pins s σ H Q I h=>bg (hi s σ H _ I h) fun iv s1 hz_=>aj.el hz_ _ fun y H1 I1 ry q1=>bg (ho s1 σ H1 _ I1 q1) fun u s2 hz_=>aj.el hz_ _ ?_;rintro x H2 I2 rx ⟨a,ov,ex,g,q2⟩;subst ex;obtain rfl:u=Qan a:=rx;exact Xq hu I2 g ry fun s3 I3=>⟨.bl ov.isSome,H2,I3,rfl,q2⟩
def pH (hu:X.A.units+1<Qc4)(ho:PE X o td)(hi:PE X i ty)(hv:PE X value tv)(hs:Qei value (some (.Subscript o i pos')) pos.line X.env=pure false):
  PS X (.Assign [.Subscript o i pos'] value pos) (QA td ty tv):=by
 refine fun pins s σ H D I h=>wpAny_Assign_Subscript (bg (hv s σ H _ I h) fun r s1 ⟨v,H1,I1,rv,q1⟩=>bg (ho s1 σ H1 _ I1 q1) fun u s2 ⟨x,H2,I2,rx,q2⟩=>bg (hi s2 σ H2 _ I2 q2) fun iv s3 ⟨y,H3,I3,ry,a,H4,ex,g,q3⟩=>?_) hs;subst ex;obtain rfl:u=Qan a:=rx;exact Es hu I3 g ry rv fun s4 I4=>⟨σ,H4,I4,q3⟩
end
def rN (h:Heap)(hb:QbB<h.objs.size):bw P w H (h.push { cls := .type "dict",data := .dict #[] }) h.objs.size (.dK []):=
 ⟨Uw _,beq_eq_false_iff_ne.mpr (QaA (Jm hb)),[],.nil,Qc6 h⟩
def JN:TE:=fun _ H Q=>∀p,H p=none->Q (.ref p) (upd H p (.dK []))
section
variable {X:Cx}{pos:Pos}
def G8:PE X (.Dict [] [] pos) JN:=fun pins s σ H Q I h=>
 wpAny_Dict_empty ⟨.ref s.heap.objs.size,_,I.laid (fun _ _ q=>Jb _ q) (Je _) (rN s.heap I.big),rfl,h _ (I.bq.fresh (Je _))⟩
end
def pU:List (TE×TE)->St->Hp->(List (V×V)->Hp->Prop)->Prop
 | [],_,H,Q=>Q [] H
 | (tk,tv)::r,σ,H,Q=>tk σ H fun x H1=>tv σ H1 fun y H2=>pU r σ H2 fun ps H3=>Q ((x,y)::ps) H3
abbrev VV:List (V×V)->List (Fk×Fk)->Prop:=QfW fun p q=>RelV p.1 q.1/\RelV p.2 q.2
def S1 (X:Cx)(pos:Pos)(keys:List (Option QaB))(values:List QaB)(AF:List (TE×TE)):Prop:=
 ∀ ⦃pins:List (Gc×Obj)⦄ (s:KE) (σ:St) (H:Hp) (Q:List (V×V)->Hp->Prop),Inv X pins σ H s->pU AF σ H Q ->
  Qac (Qab X.prog X.w) X.A (evalPairs (pairTrees keys values X.env pos)) (fun vs s'=>eZ fun ps H'=>Inv X pins σ H' s'/\VV ps vs/\Q ps H') X.xe s
def Kr:S1 X pos [] [] []:=fun pins s σ H Q I h=>pairTrees_nil_walk ⟨[],H,I,.nil,h⟩
def ym {k v:QaB}{ks:List (Option QaB)}{vs:List QaB}{tk tv:TE}{AF:List (TE×TE)}(hk:PE X k tk)(hv:PE X v tv)(hr:S1 X pos ks vs AF):
  S1 X pos (some k::ks) (v::vs) ((tk,tv)::AF):=fun pins s σ H Q I h=>
 pairTrees_cons_walk (bg (hk s σ H _ I h) fun u s1 hz_=>aj.el hz_ _ fun x H1 I1 rx q1=>bg (hv s1 σ H1 _ I1 q1) fun w2 s2 ⟨y,H2,I2,ry,q2⟩=>
  bg (hr s2 σ H2 _ I2 q2) fun ws s3 hz_=>aj.el hz_ _ fun ps H3 I3 rel q3=>⟨(x,y)::ps,H3,I3,.cons ⟨rx,ry⟩ rel,q3⟩)
def cT (kvs more:List (Key×V)):List (Key×V):=more.foldl (fun acc kv=>putK acc kv.1 kv.2) kvs
def KV.merge:∀{more:List (Key×V)} {rs:List (Key×Fk)} {kvs:List (Key×V)} {vs:List (Key×Fk)},KV more rs->KV kvs vs->KV (cT kvs more) (Qdc vs rs):=by
 intro more rs kvs vs r
 induction r generalizing kvs vs with
 | nil=>intro q;exact q
 | @cons p q ps qs h t ih=>
  intro r0;have e:KV (putK kvs p.1 p.2) (QeC vs q.1 q.2):=by
   have:=r0.put p.1 h.2;rw[<-h.1];exact this
  exact ih e
def dQ:∀more kvs,(cT kvs more).length<=kvs.length+more.length
 | [],kvs=>by show kvs.length<=kvs.length+0;lia
 | p::r,kvs=>by
  have h1:=dQ r (putK kvs p.1 p.2);have h2:=fj kvs p.1 p.2;show(cT (putK kvs p.1 p.2) r).length<=_;rw[Jr];lia
def rM:∀{kvs:List (Key×V)} {ws:List (Fk×Fk)},VV (kvs.map fun kv=>(kV kv.1,kv.2)) ws->∃rs,Carries (bD P w) ws rs/\KV kvs rs
 | [],_,r=>by rw[QcL] at r;cases r;exact⟨[],QaO,.nil⟩
 | p::kvs,_,r=>by
  cases r with
  | @cons a b as bs h t=>
   obtain⟨rs,c,q⟩:=rM t;obtain⟨b1,b2⟩:=b;exact⟨(p.1,b2)::rs,⟨mW h.1,rfl,c⟩,.cons ⟨rfl,h.2⟩ q⟩
def HZ (AF:List (TE×TE)):TE:=fun σ H Q=>∀p,H p=none->pU AF σ (upd H p (.dK [])) fun ps H2=>H2 p=some (.dK [])/\∃kvs,ps=kvs.map (fun kv=>(kV kv.1,kv.2))/\kvs.length<=15/\Q (.ref p) (upd H2 p (.dK (cT [] kvs)))
def Ml (h:S1 X pos keys values AF)(jJ:keys.all (·.isSome)=true)(hl:keys.length=values.length)(h0:keys≠[])
  (ZV:keys.length<=15):PE X (.Dict keys values pos) (HZ AF):=by
 refine fun pins s σ H Q I q=>wpAny_Dict_walk (knd:=bD X.prog X.w) jJ hl h0 ZV (bg (h _ σ _ _ (I.laid (t':=s.toks) (fun _ _ q=>Jb _ q) (Je _) (rN s.heap I.big)) (q _ (I.bq.fresh (Je s.heap.objs.size)))) fun ws s2 hz_=>aj.el hz_ _ fun ps H2 I2 rel e kvs ep lk q2 =>?_);subst ep;obtain⟨rs,c,rk⟩:=rM rel;obtain⟨z,hd,vs0,r0,dd⟩:=BU I2.bq e;cases r0;refine⟨rs,c,dd,fun h' dd' hs=>⟨.ref s.heap.objs.size,_,?_,rfl,q2⟩⟩;have hz:(cT [] kvs).length<=Wp:=by
  have h1:=dQ kvs [];rw[Y6] at h1;rw[Qdu];lia
 exact mx I2 (by rw[e];exact QaO) hs (let ⟨q,_,_,hq,_⟩:=dd'; ⟨q,hq⟩) (AL hz hd (rk.merge .nil) dd')
structure M2 (X:Cx)(o:QaB)(m:Str)(apos:Pos)(e f:QaB)(dj:Pos):Prop where
 base:Qbn o m X.env (QaL o X.env)=QaL o X.env
 ze:((QbU dj (Qaj [e,f] X.env)).all (fun x => !x.1)&&(backToKw dj (Qfo [] X.env)).all (fun x=>x.1.isSome)
  && decide (([e,f]:List QaB).length+([]:List QfH).length+(if ([]:List QfH).isEmpty then 0 else 1)<30))=true
 line:(apos.endLine==dj.line)=true
 trees:QbU dj (Qaj [e,f] X.env)=[(false,QaL e X.env),(false,QaL f X.env)]
def IsD (H:Hp)(a:Gc):Prop:=(∃kvs,Rd H a (.dK kvs))\/∃kvs,Rd H a (.dT kvs)
def Pj {σ:St}{H:Hp}{s:KE}{a:Gc}(I:Inv X pins σ H s)(d:IsD H a):
  s.TypeIs (.ref a) "dict" /\ (∀b,Qan a = .ref b->∃ob,s.heap.get? b=some ob/\ob.dict=none)/\(a==QbB)=false:=by
 rcases d with ⟨kvs,e⟩|⟨kvs,e⟩
 ·obtain⟨_,hd,vs,_,dd⟩:=ug I.bq e;refine⟨dd.typeIs,fun b q =>?_,hd⟩;cases q;obtain⟨ob,_,_,h1,h2,_⟩:=dd;exact⟨ob,h1,h2.2.1⟩
 ·obtain⟨_,hd,xs,_,dd⟩:=tD I.bq e;refine⟨dd.typeIs,fun b q =>?_,hd⟩;cases q;obtain⟨ob,_,_,h1,h2,_⟩:=dd;exact⟨ob,h1,h2.2.1⟩
section
variable {X:Cx}{pins:List (Gc×Obj)}{σ:St}{H:Hp}{s:KE}{a:Gc}{y d:V}{u r:Fk}{o:Option V}{A:Qax}{E:Fk->KE->Prop}
def Ot (hu:A.units+1<Qc4)(I:Inv X pins σ H s)(g:dJ H a y o)(ry:RelV y u)(rd:RelV d r)(h:∀w' s',Inv X pins σ H s'->RelV (o.getD d) w'->Q w' s'):
  Qac (Qab X.prog X.w) A (call (.builtin "dict.get") [.ref a,u,r]) Q E s:=by
 rcases g with ⟨kvs,k,e,ey,l⟩|⟨kvs,k,b,e,ey,eb,l⟩
 ·subst ey;obtain⟨z,hd,vs,rel,dd⟩:=ug I.bq e;refine call_meetsIn Qdq dd.typeIs Qfh (Qe7 _ _ _) (meets_dict_get_default (bD X.prog X.w) a (mW ry) hd r) ⟨_,dd.mapOf,h _ _ (I.tok _) ?_⟩;rw[l];exact(rel.val k).getD rd
 ·subst ey;cases (show u=Qan b from ry);obtain⟨z,hd,xs,rel,dd⟩:=tD I.bq e;refine call_meetsIn Qdq dd.typeIs Qfh (Qe7 _ _ _) (meetsH_dict_get_default (Qeh (bD X.prog X.w)) a b hd r) ⟨Qdb hu,k,xs,rQ I.bq eb,dd,h _ _ (I.tok _) ?_⟩;rw[l];exact(rel.val k).getD rd
end
def Nu (td ty tx:TE):TE:=fun σ H Q=>td σ H fun x H1=>∃a,x = .ref a/\IsD H1 a/\ty σ H1 fun y H2=>tx σ H2 fun z H3=>∃o,dJ H3 a y o/\Q (o.getD z) H3
section
variable {X:Cx}{o e f:QaB}{apos dj:Pos}{td ty tx:TE}
def Gf (hu:X.A.units+1<Qc4)(ho:PE X o td)(he:PE X e ty)(hf:PE X f tx)(m:M2 X o "get" apos e f dj):PE X (.Call (.Attribute o "get" apos) [e,f] [] dj) (Nu td ty tx):=by
 refine fun pins s σ H Q I h=>wpAny_Call_method m.base m.ze m.line Qe6 Qdq PySem.F.type_dict_get (bg (ho s σ H _ I h) fun u s1 hz_=>aj.el hz_ _ ?_);rintro x H1 I1 rx ⟨a,ex,d,q1⟩;subst ex;obtain rfl:u=Qan a:=rx;obtain⟨t1,t2,_⟩:=Pj I1 d;refine⟨t1,t2,?_⟩;rw[m.trees];refine Qcf rfl (Qf2 (Qa9 (bg (he s1 σ H1 _ I1 q1) fun iv s2 ⟨y,H2,I2,ry,q2⟩=>
  Qa9 (bg (hf s2 σ H2 _ I2 q2) fun fv s3 ⟨z,H3,I3,rz,ov,g,q3⟩=>Qbv ?_))))
 exact Ot hu I3 g ry rz fun w' s4 I4 rw'=>⟨_,H3,I4,rw',q3⟩
end
end L2
namespace HT
open PySem PyProof.Rows
section
variable {prog:Qaf}{w:Qah}{A:Qax}{E:Fk->KE->Prop}{s:KE}
def eg (n d:Nat):Option Int->Nat
 | none=>d
 | some v=>if v<0 then (v+(n:Int)).toNat else min v.toNat n
def yo (n d:Nat):eg n d none=d:=rfl
def kg (n d k:Nat):eg n d (some (k:Int))=min k n:=rfl
def Cq (v:Int)(n d:Nat):(if v<0 then max (v+(n:Int)) 0 else min v (n:Int))=((eg n d (some v):Nat):Int):=by
 show(if v<0 then max (v+(n:Int)) 0 else min v (n:Int))=(((if v<0 then (v+(n:Int)).toNat else min v.toNat n):Nat):Int)
 by_cases hv:v<0
 ·simp only[if_pos hv];lia
 ·simp only[if_neg hv];lia
def A0 (lo hi:Option Int)(n:Nat):Qeb lo hi 1 (n:Int)=(((eg n 0 lo:Nat):Int),((eg n n hi:Nat):Int)):=by
 refine QcC ?_ ?_
 ·cases lo with
  | none=>rfl
  | some v=>exact Cq v n 0
 ·cases hi with
  | none=>rfl
  | some v=>exact Cq v n n
def zX (i j:Nat):QbJ (i:Int) (j:Int) 1=j-i:=by
 unfold QbJ
 split<;>lia
def qW (p:Qfi v o)(h:Q o s):Qac (Qab prog w) A (Builtin.Slice.slicePartIndex v) Q E s:=by
 cases p with
 | none=>exact slicePart_none h
 | int i t=>exact slicePart_int h
def oh {lo hi:Option Int}{n:Nat}{Q:Int×Int×Nat->KE->Prop}(hs:s.heap.IsSliceOf sl vl vu .none)(pl:Qfi vl lo)(pu:Qfi vu hi)
  (h:Q (((eg n 0 lo:Nat):Int),1,eg n n hi-eg n 0 lo) s):Qac (Qab prog w) A (Builtin.Slice.sliceApplied (.ref sl) (pure (n:Int))) Q E s:=by
 obtain⟨os,hos,FQ,hds⟩:=id hs;refine be (be (Qal hos hds rfl (be (Qal hos hds rfl (be (Qal hos hds rfl (tz (be (slicePart_none (be (qW pl (be (qW pu (be (tz ?_)))))))))))))));show Qac _ _ (match Qeb lo hi 1 (n:Int) with|(lo,hi)=>pure (lo,(1:Int),QbJ lo hi 1)) _ _ s;rw[A0 lo hi n];show Qac _ _ (pure (((eg n 0 lo:Nat):Int),(1:Int),QbJ ((eg n 0 lo:Nat):Int) ((eg n n hi:Nat):Int) 1)) _ _ s;rw[zX];exact tz h
def G4 (xs:Array Fk)(i k:Nat):((U3 k).filterMap fun(m:Nat)=>xs[((i:Int)+(m:Int)*1).toNat]?).toArray=((xs.toList.drop i).take k).toArray:=by
 have e:(fun(m:Nat)=>xs[((i:Int)+(m:Int)*1).toNat]?)=fun m=>xs[i+m]?:=by
  funext m
  have:((i:Int)+(m:Int)*1).toNat=i+m:=by lia
  rw[this]
 rw[e];have:=pick_run xs i k;rw[List.filterMap_map] at this;have e2:((fun x=>xs[x]?)∘fun x=>i+x)=fun m=>xs[i+m]?:=rfl;rw[e2] at this;rw[this]
def mD {items:Array Fk}{vl vu:Fk}{lo hi:Option Int}{Q:Fk->KE->Prop}(ht:IsTup s.heap t items)(hs:s.heap.IsSliceOf sl vl vu .none)(pl:Qfi vl lo)(pu:Qfi vu hi)
  (hw:¬(eg items.size 0 lo=0/\eg items.size items.size hi=items.size))
  (h:Q (.ref s.heap.objs.size) { s with heap:=s.heap.push { cls := .type "tuple",data := .seq ((items.toList.drop (eg items.size 0 lo)).take (eg items.size items.size hi-eg items.size 0 lo)).toArray } })
  (hsz:items.size<=Wp):Qac (Qab prog w) A (Qej (.ref t) (.ref sl)) Q E s:=by
 have CL:sizeOk (.seq ((items.toList.drop (eg items.size 0 lo)).take (eg items.size items.size hi-eg items.size 0 lo)).toArray):=by
  show((items.toList.drop (eg items.size 0 lo)).take (eg items.size items.size hi-eg items.size 0 lo)).toArray.size<=Wp;rw[Ju,Uo,Yt,Ud];lia
 obtain⟨os,hos,FQ,hds⟩:=id hs;unfold Qej
 try with_reducible refine Qak ?_
 first|refine be (tz ?_)|skip
 refine be (wpAny_sequenceKey ht.typeIs rfl (be (Qao ht.typeIs QdM
  (Qav QdM ht.typeIs entry_tuple_getitem ?_ (args_tuple_getitem _ _)))))
 show Qac _ _ (Builtin.Tuple.tupleItemsOf (.ref t) >>= _) _ _ s;refine be (tupleItemsOf_ ht (be (QaY ⟨os,hos,FQ⟩ (be (oh hs pl pu ?_)))));have M6:¬((((eg items.size 0 lo:Nat):Int)==0&&(1:Int)==1&&(eg items.size items.size hi-eg items.size 0 lo)==items.size)=true):=by
  intro q;rw[Js,Js] at q;have q1:=eq_of_beq q.1.1;have q2:=eq_of_beq q.2;exact hw ⟨⋯,⋯⟩
 show Qac _ _ (if (((eg items.size 0 lo:Nat):Int)==0&&(1:Int)==1&&(eg items.size items.size hi-eg items.size 0 lo)==items.size)=true then _ else _) _ _ s;rw[if_neg M6,G4]
 first
  | exact be (QaQ (tz ⟨_,rfl,tz h⟩) CL)
  | exact be (QaQ (be (tz (tz ⟨_,rfl,tz h⟩))) CL)
  | exact be (be (QaQ (tz (tz ⟨_,rfl,tz h⟩)) CL))
  | exact be (be (QaQ (tz ⟨_,rfl,tz h⟩) CL))
end
end HT
namespace L2
open PySem PySem.Spec PyProof.Rows
abbrev TO:=St->Hp->(Option Int->Hp->Prop)->Prop
def PO (X:Cx)(e:Option QaB)(t:TO):Prop:=
 ∀ ⦃pins:List (Gc×Obj)⦄ (s:KE) (σ:St) (H:Hp) (Q:Option Int->Hp->Prop),Inv X pins σ H s->t σ H Q ->
  Qac (Qab X.prog X.w) X.A (evalPart e X.env) (fun u s'=>eZ fun o H'=>Inv X pins σ H' s'/\Qfi u o/\Q o H') X.xe s
def Mo:TO:=fun _ H Q=>Q none H
def Sw (t:TE):TO:=fun σ H Q=>t σ H fun x H1=>∃i,x = .int i/\Q (some i) H1
section
variable {X:Cx}{e:QaB}{te:TE}{lo hi:Option QaB}{tl th:TO}{pos p2:Pos}
def je:PO X none Mo:=
 fun pins s σ H Q I h=>tz ⟨none,H,I,.none,h⟩
def cX (h:PE X e te):PO X (some e) (Sw te):=by
 refine fun pins s σ H Q I hw=>bg (h s σ H _ I hw) fun u s1 hz_=>aj.el hz_ _ ?_;rintro x H1 I1 r1 q1;obtain⟨i,rfl,q⟩:=q1;obtain⟨t,rfl⟩:=r1;exact⟨some i,H1,I1,.int i t,q⟩
def FJ (X:Cx)(r:V->Option Int->Option Int->Hp->VK->Prop):Prop:=
 ∀ ⦃pins:List (Gc×Obj)⦄ (s:KE) (σ:St) (H:Hp) (x:V) (v vl vu:Fk) (lo hi:Option Int) (sl:Gc) (Q:VK),Inv X pins σ H s->RelV x v->s.heap.IsSliceOf sl vl vu .none->Qfi vl lo->Qfi vu hi->r x lo hi H Q ->
  eZ fun T id=>Qbs (.type T) "__getitem__" = pure (some (.builtin id))/\s.TypeIs v T/\Qac (Qab X.prog X.w) X.A (Qej v (.ref sl)) (EP X pins σ Q) X.xe s
def FJ.or (h:FJ X r)(h':FJ X r'):FJ X (fun x lo hi H Q=>r x lo hi H Q\/r' x lo hi H Q):=by
 intro pins s σ H x v vl vu lo hi sl Q I rx hs pl pu q
 rcases q with q|q
 ·exact h s σ H x v vl vu lo hi sl Q I rx hs pl pu q
 ·exact h' s σ H x v vl vu lo hi sl Q I rx hs pl pu q
def tSl (r:V->Option Int->Option Int->Hp->VK->Prop)(te:TE)(tl th:TO):TE:=fun σ H Q=>te σ H fun x H1=>tl σ H1 fun l H2=>th σ H2 fun u H3=>r x l u H3 Q
def dN (hr:FJ X r)(he:PE X e te)(hl:PO X lo tl)(hu:PO X hi th):PE X (.Subscript e (.Slice lo hi none p2) pos) (tSl r te tl th):=by
 refine fun pins s σ H Q I h=>QfT (bg (he s σ H _ I h) fun v s1 hz_=>aj.el hz_ _ ?_);rintro x H1 I1 r1 q1;refine wpAny_Slice (bg (hl s1 σ H1 _ I1 q1) fun vl s2 hz_=>aj.el hz_ _ fun l H2 I2 pl q2=>bg (hu s2 σ H2 _ I2 q2) fun vu s3 hz_=>aj.el hz_ _ ?_);rintro u H3 I3 pu q3;refine tz ?_;have I4:Inv X pins σ H3 { s3 with heap:=s3.heap.push { cls := .type "slice",data := .fields #[vl,vu,.none] } }:=I3.kept fun b ob q=>Jb _ q;obtain⟨T,id,hT,ht,hg⟩:=hr { s3 with heap:=s3.heap.push { cls := .type "slice",data := .fields #[vl,vu,.none] } } σ H3 x v vl vu l u s3.heap.objs.size Q I4 r1 (QeL ..) pl pu q3;exact tail_any ht hT hg (by with_unfolding_all rfl)
def ly (xs:List V)(lo hi:Option Int):List V:=(xs.drop (HT.eg xs.length 0 lo)).take (HT.eg xs.length xs.length hi-HT.eg xs.length 0 lo)
def oy (xs:List V)(lo hi:Option Int):(ly xs lo hi).length<=xs.length:=by
 unfold ly;rw[Uo,Yt];lia
def ZA (K:Ja):V->Option Int->Option Int->Hp->VK->Prop:=fun x lo hi H Q=>eZ fun a xs=>x = .ref a/\bG K H a xs /\
 ¬(HT.eg xs.length 0 lo=0/\HT.eg xs.length xs.length hi=xs.length)/\∀p,H p=none->Q (.ref p) (upd H p (.tup (ly xs lo hi)))
def O0:FJ X (ZA X.K):=by
 intro pins s σ H x v vl vu lo hi sl Q I rx hs pl pu h;obtain⟨a,xs,rfl,hx,hw,q⟩:=h;cases rx;obtain⟨aw,r,ht,hz⟩:=I.tuple hx;have hlen:aw.toArray.size=xs.length:=by rw[Ju];exact r.length.symm
 refine⟨"tuple",_,PyProof.Rows.slot_tuple_getitem.lookup,ht.typeIs,(HT.mD ht hs pl pu (by rw[hlen];exact hw) ?_ (by rw[hlen];exact hz))⟩;rw[hlen];refine⟨.ref s.heap.objs.size,_,I.laid (fun b ob q=>Jb _ q) (Je _) ?_,rfl,q _ (I.bq.fresh (Je _))⟩;exact⟨Jh (oy xs lo hi) hz,_,(r.drop (HT.eg xs.length 0 lo)).take (HT.eg xs.length xs.length hi-HT.eg xs.length 0 lo),uS.new _ _⟩
end
def FT (n:Nat)(i:Int):Option Nat:=if 0<=i then (if i<n then some i.toNat else none) else if -(n:Int)<=i then some (i+n).toNat else none
def Ed {α:Type}(xs:List α)(i:Int):Option α:=(FT xs.length i).bind fun j=>xs[j]?
def va (h:FT n i=some j):seqIndex? i n=some j/\j<n /\ -(n:Int)<=i/\i<n:=by
 unfold FT at h
 by_cases h0:0<=i
 ·rw[if_pos h0] at h
  by_cases h1:i<n
  ·rw[if_pos h1] at h;have e:=Qap h;exact⟨by rw[seqIndex_of h0 h1,e],⋯,⋯,h1⟩
  ·rw[if_neg h1] at h;cases h
 ·rw[if_neg h0] at h
  by_cases h1: -(n:Int)<=i
  ·rw[if_pos h1] at h;have e:=Qap h;exact⟨by rw[seqIndex_neg ⋯ h1,e],⋯,h1,⋯⟩
  ·rw[if_neg h1] at h;cases h
def pJ (h:Ed xs i=some v):∃j,seqIndex? i xs.length=some j/\xs[j]? = some v/\j<xs.length /\ -(xs.length:Int)<=i/\i<xs.length:=by
 unfold Ed at h;cases e:FT xs.length i with
 | none=>rw[e] at h;cases h
 | some j=>
  rw[e] at h;obtain⟨h1,h2,h3,h4⟩:=va e;exact⟨j,h1,h,h2,h3,h4⟩
def mV {j:Nat}{v: α}(h:xs[j]? = some v):Ed xs (j:Int)=some v:=by
 have hj:=(Jq.mp h).1;have e:FT xs.length (j:Int)=some j:=by
  unfold FT;rw[if_pos ⋯,if_pos ⋯];simp
 unfold Ed;rw[e];exact h
def KH (b:QaB):Prop:=∀o i,Qfn b false o i=operate [o,i] (Qej o i)
def JX (X:Cx)(r:R2):Prop:=
 ∀ ⦃value slice:QaB⦄ ⦃pins:List (Gc×Obj)⦄ (s:KE) (σ:St) (H:Hp) (x y:V) (v u:Fk) (Q:VK),Inv X pins σ H s->RelV x v->RelV y u->r x y H Q ->
  Qfn slice false v u=operate [v,u] (Qej v u)->Qac (Qab X.prog X.w) X.A (subscriptTail value slice v u) (EP X pins σ Q) X.xe s
def Kd (X:Cx)(id:String)(r:V->List V->Hp->VK->Prop):Prop:=
 ∀ ⦃pins:List (Gc×Obj)⦄ (s:KE) (σ:St) (H:Hp) (x:V) (xs:List V) (v:Fk) (us:List Fk) (Q:VK),Inv X pins σ H s->RelV x v->Vals xs us->r x xs H Q ->
  Qac (Qab X.prog X.w) X.A (call (.builtin id) (v::us)) (EP X pins σ Q) X.xe s
section
variable {X:Cx}{a b:QaB}{ta tb:TE}{pos:Pos}
def JX.or (h:JX X r)(h':JX X r'):JX X (fun x y H Q=>r x y H Q\/r' x y H Q):=by
 intro value slice pins s σ H x y v u Q I rx ry q hs
 rcases q with q|q
 ·exact h s σ H x y v u Q I rx ry q hs
 ·exact h' s σ H x y v u Q I rx ry q hs
def bJ (hr:JX X r)(ha:PE X a ta)(hb:PE X b tb)(hs:KH b):PE X (.Subscript a b pos) (UT r ta tb):=
 fun pins s σ H Q I h=>QfT (NS ha hb I h fun v u s2 x y H2 I2 rx ry q=>hr s2 σ H2 x y v u Q I2 rx ry q (hs _ _))
def QP (K:Ja):R2:=fun x y H Q=>tG fun p xs i v=>x = .ref p/\y = .int i/\bA K H p xs/\Ed xs i=some v/\Q v H
def Ro (K:Ja):R2:=fun x y H Q=>tG fun p xs i v=>x = .ref p/\y = .int i/\bG K H p xs/\Ed xs i=some v/\Q v H
def Sr:R2:=fun x y H Q=>qM fun z i c=>x = .str z/\y = .int i/\z.length<=Wp/\Ed z.cps.toList i=some c/\Q (.str ⟨#[c]⟩) H
def K4:JX X (QP X.K):=by
 intro value slice pins s σ H x y v u Q I rx ry h hs;obtain⟨p,xs,i,z,rfl,rfl,hq,he,q⟩:=h;cases rx;obtain⟨t,rfl⟩:=ry;obtain⟨aw,r,pl,hz⟩:=I.list hq;obtain⟨j,h1,h2,h3,h4,h5⟩:=pJ he;obtain⟨w,ew,rw'⟩:=r.get h2;have hl:=r.length;have hn:=sy;have fin:EP X pins σ Q w s:=⟨z,H,I,rw',q⟩
 by_cases h0:0<=i
 ·have hj:i.toNat=j:=by
   rw[seqIndex_of h0 h5] at h1;exact Qap h1
  exact item_listR pl.isList h0 ⋯ (by rw[hj];simpa using ew) fin hs
 ·have hj:(i+(aw.toArray.size:Int)).toNat=j:=by
   rw[seqIndex_neg ⋯ h4] at h1;rw[Ju,<-hl];exact Qap h1
  exact subscriptTail_builtinR pl.isList.typeIs slot_list_getitem.lookup
   (wpAny_getItem_list_neg pl.isList ⋯ (by rw[Ju]<;>lia) ⋯ (by rw[hj];simpa using ew) ⟨rfl,fin⟩) hs
def O7:JX X (Ro X.K):=by
 intro value slice pins s σ H x y v u Q I rx ry h hs;obtain⟨p,xs,i,z,rfl,rfl,hq,he,q⟩:=h;cases rx;obtain⟨t,rfl⟩:=ry;obtain⟨aw,r,pl,hz⟩:=I.tuple hq;obtain⟨j,h1,h2,h3,h4,h5⟩:=pJ he;obtain⟨w,ew,rw'⟩:=r.get h2;have hn:=sy;exact subscriptTail_builtinR pl.typeIs slot_tuple_getitem.lookup
  (getItem_tuple pl ⋯ ⋯ (by rw[Ju,<-r.length];exact h1) (by simpa using ew) ⟨rfl,⟨z,H,I,rw',q⟩⟩) hs
def O1:JX X Sr:=by
 intro value slice pins s σ H x y v u Q I rx ry h hs;obtain⟨z,i,c,rfl,rfl,hz,he,q⟩:=h;obtain⟨t,rfl⟩:=rx;obtain⟨t',rfl⟩:=ry;obtain⟨j,h1,h2,h3,h4,h5⟩:=pJ he;have hl:z.cps.toList.length=z.length:=by simp[Str.length]
 rw[hl] at h1 h4 h5;have hn:=sy;exact tail_any (QdT s z t) slot_str_getitem.lookup (getItem_str (by
  rw[(decide_eq_false ⋯),(decide_eq_false ⋯),Qd9]) (by rw[h1];simpa using h2) ⟨.str ⟨#[c]⟩,H,I.tok _,⟨_,rfl⟩,q⟩) hs
def Z9 (K:Ja):R2:=fun x y H Q=>QP K x y H Q\/Ro K x y H Q\/Sr x y H Q
def NR:JX X (Z9 X.K):=K4.or (O7.or O1)
def AD (aw:List Fk)(n j:Nat)(u:Fk):QaH (·.setIfInBounds j u) { cls := .type "list",data := .seq aw.toArray n } = { cls := .type "list",data := .seq (aw.set j u).toArray n }:=by
 simp[QaH]
def Inv.lst {σ:St}{H:Hp}{s:KE}{p:Gc}{xs:List V}(I:Inv X pins σ H s)(h:H p=some (.lst xs)):
  ∃aw n,Vals xs aw/\s.heap.get? p=some { cls := .type "list",data := .seq aw.toArray n } /\ xs.length<=Wp:=by
 obtain⟨z,aw,n,r,e⟩:=I.bq p _ h;exact⟨aw,n,r,e,z⟩
def Inv.OJ {σ:St}{H:Hp}{s:KE}{p:Gc}{xs ys:List V}{aw its':List Fk}{n n':Nat}{f:Obj->Obj}(I:Inv X pins σ H s)(h:H p=some (.lst xs))
  (ho:s.heap.get? p=some { cls := .type "list",data := .seq aw.toArray n }) (hf:f { cls := .type "list",data := .seq aw.toArray n } = { cls := .type "list",data := .seq its'.toArray n' }) (r:Vals ys its') (hz:ys.length<=Wp) (t:Nat) :
  Inv X pins σ (upd H p (.lst ys)) { s with heap:=s.heap.update p f,toks:=t }:=by
 have e:(s.heap.update p f).get? p=some { cls := .type "list",data := .seq its'.toArray n' }:=by
  rw[J7 f ho (by rw[hf]<;>rfl),hf]
 refine I.write (by rw[h];trivial) (.inl rfl) (fun b u hb q=>(Ua _ _ (QaA hb)).trans q) ⟨_,e⟩ ?_;exact⟨hz,its',n',r,e⟩
def Sv:V->V->V->Hp->(Hp->Prop)->Prop:=fun o i v H Q=>tG fun p xs k j=>o = .ref p/\i = .int k/\H p=some (.lst xs)/\FT xs.length k=some j/\Q (upd H p (.lst (xs.set j v)))
def set_list:S9 X Sv:=by
 intro pins s σ H o i v ov iv u Q I ro ri rv h;obtain⟨p,xs,k,j,rfl,rfl,hp,hj,q⟩:=h;cases ro;obtain⟨t,rfl⟩:=ri;obtain⟨aw,n,r,ho,hz⟩:=I.lst hp;obtain⟨h1,h2,h3,h4⟩:=va hj;have hl:=r.length;have hn:=sy;have I':Inv X pins σ (upd H p (.lst (xs.set j v))) { s with heap:=s.heap.update p (QaH (·.setIfInBounds j u)) }:=
  I.OJ hp ho (AD aw n j u) (r.set rv j) (by rw[We];exact hz) s.toks
 by_cases h0:0<=k
 ·have hk:k.toNat=j:=by
   rw[seqIndex_of h0 h4] at h1;exact Qap h1
  exact PySem.W.ki_setAt ho h0 ⋯ (by rw[Ju,<-hl];exact h4) (by rw[hk];exact⟨_,I',q⟩)
 ·have hk:(k+(aw.toArray.size:Int)).toNat=j:=by
   rw[seqIndex_neg ⋯ h3] at h1;rw[Ju,<-hl];exact Qap h1
  exact PySem.W.ki_setBack ho ⋯ (by rw[Ju,<-hl];exact h3) ⋯ (by rw[hk];exact⟨_,I',q⟩)
def vA (lo hi:Option Int)(n:Nat):(QbK lo hi none n).1=((HT.eg n 0 lo:Nat):Int)/\(QbK lo hi none n).2.1=((HT.eg n n hi:Nat):Int)/\(QbK lo hi none n).2.2=1:=by
 refine⟨?_,?_,rfl⟩
 ·cases lo with
  | none=>simp[QbK,HT.eg]
  | some i=>
   simp only[QbK,HT.eg,Option.getD_none,if_true]
   by_cases h:i<0
   ·simp only[h,if_true]<;>lia
   ·simp only[h,if_false]<;>lia
 ·cases hi with
  | none=>simp[QbK,HT.eg]
  | some i=>
   simp only[QbK,HT.eg,Option.getD_none,if_true]
   by_cases h:i<0
   ·simp only[h,if_true]<;>lia
   ·simp only[h,if_false]<;>lia
def sX (aw:List Fk)(lo hi:Option Int):slicePick aw.toArray lo hi none=((aw.drop (HT.eg aw.length 0 lo)).take (HT.eg aw.length aw.length hi-HT.eg aw.length 0 lo)).toArray:=by
 obtain⟨h1,h2,h3⟩:=vA lo hi aw.toArray.size;unfold slicePick;rw[h1,h2,h3];simp only[sliceRange_one,pick_run,Ju]<;>rfl
def PD (K:Ja):V->Option Int->Option Int->Hp->VK->Prop:=fun x lo hi H Q=>eZ fun a xs=>x = .ref a/\bA K H a xs/\∀p,H p=none->Q (.ref p) (upd H p (.lst (ly xs lo hi)))
def MC:FJ X (PD X.K):=by
 intro pins s σ H x v vl vu lo hi sl Q I rx hs pl pu h;obtain⟨a,xs,rfl,hx,q⟩:=h;cases rx;obtain⟨aw,r,ht,hz⟩:=I.list hx;have hlen:=r.length;refine⟨"list",_,slot_list_getitem.lookup,ht.isList.typeIs,(wpAny_getItem_list_slice ht.isList hs pl pu .none (by simp) ?_ (by rw[Ju]<;>lia))⟩;rw[sX,<-hlen];refine⟨.ref s.heap.objs.size,_,I.laid (fun b ob q=>Jb _ q) (Je _) ?_,rfl,q _ (I.bq.fresh (Je _))⟩;exact⟨Jh (oy xs lo hi) hz,_,0,(r.drop (HT.eg xs.length 0 lo)).take (HT.eg xs.length xs.length hi-HT.eg xs.length 0 lo),Ji _ rfl⟩
def oO:V->Bool
 | .non=>true
 | .bl _=>true
 | .int _=>true
 | .str _=>true
 | _=>false
def KA:V->V->Bool
 | .non,.non=>true
 | .bl a,.bl b=>a==b
 | .bl a,.int b=>(if a then 1 else 0)==b
 | .int a,.bl b=>a==(if b then 1 else 0)
 | .int a,.int b=>a==b
 | .str a,.str b=>a==b
 | _,_=>false
def ND {y x:V}{u v:Fk}(ry:RelV y u)(rx:RelV x v)(fy:oO y=true)(fx:oO x=true):SeqAt.EqAt A s u v (KA y x):=by
 cases y with
 | non=>
  cases ry;cases x with
  | non=>cases rx;exact SeqAt.EqAt.same _
  | bl b=>cases rx;exact SeqAt.EqAt.none_bool b
  | int b=>obtain⟨t,rfl⟩:=rx;exact SeqAt.EqAt.none_int b t
  | str b=>obtain⟨t,rfl⟩:=rx;exact SeqAt.EqAt.none_str b t
  | _=>exact absurd (show false=true from fx) Jn
 | bl a=>
  cases ry;cases x with
  | non=>cases rx;exact SeqAt.EqAt.bool_none a
  | bl b=>cases rx;exact Qdh a b
  | int b=>obtain⟨t,rfl⟩:=rx;exact SeqAt.EqAt.bool_int a b t
  | str b=>obtain⟨t,rfl⟩:=rx;exact SeqAt.EqAt.bool_str a b t
  | _=>exact absurd (show false=true from fx) Jn
 | int a=>
  obtain⟨t',rfl⟩:=ry;cases x with
  | non=>cases rx;exact SeqAt.EqAt.int_none a t'
  | bl b=>cases rx;exact SeqAt.EqAt.int_bool a t' b
  | int b=>obtain⟨t,rfl⟩:=rx;exact SeqAt.EqAt.int_int a t' b t
  | str b=>obtain⟨t,rfl⟩:=rx;exact Qfr a t' b t
  | _=>exact absurd (show false=true from fx) Jn
 | str a=>
  obtain⟨t',rfl⟩:=ry;cases x with
  | non=>cases rx;exact SeqAt.EqAt.str_none a t'
  | bl b=>cases rx;exact SeqAt.EqAt.str_bool a t' b
  | int b=>obtain⟨t,rfl⟩:=rx;exact Qfq a t' b t
  | str b=>obtain⟨t,rfl⟩:=rx;exact SeqAt.EqAt.str_str a t' b t
  | _=>exact absurd (show false=true from fx) Jn
 | _=>exact absurd (show false=true from fy) Jn
def Kj (x:V)(u:Fk):Bool:=match u with
 | .none=>KA .non x
 | .bool b=>KA (.bl b) x
 | .int i _=>KA (.int i) x
 | .str z _=>KA (.str z) x
 | _=>false
def Ip {x y:V}{u:Fk}(r:RelV y u)(f:oO y=true):Kj x u=KA y x:=by
 cases y with
 | non=>cases r;rfl
 | bl b=>cases r;rfl
 | int i=>obtain⟨t,rfl⟩:=r;rfl
 | str z=>obtain⟨t,rfl⟩:=r;rfl
 | _=>exact absurd (show false=true from f) Jn
def u6:∀{xs:List V} {us:List Fk},Vals xs us->xs.all oO=true->us.any (Kj x)=xs.any fun y=>KA y x
 | _,_,.nil,_=>rfl
 | y::xs,u::us,.cons r t,f=>by
  rw[Qb6,Js] at f;rw[Wa,Wa,Ip r f.1,u6 t f.2]
def qa {x:V}{v:Fk}(rx:RelV x v)(fx:oO x=true):∀{xs:List V} {us:List Fk},Vals xs us->xs.all oO=true->∀u∈us,SeqAt.EqAt A s u v (Kj x u)
 | _,_,.nil,_=>fun u hu=>by cases hu
 | y::xs,u::us,.cons r t,f=>fun u' hu=>by
  rw[Qb6,Js] at f
  rcases Jx.mp hu with rfl|hu
  ·rw[Ip r f.1];exact ND r rx f.1 fx
  ·exact qa rx fx t f.2 u' hu
def MV (x:V)(xs:List V):Bool:=xs.any fun y=>KA y x
def rIn (K:Ja)(neg:Bool):R2:=fun x y H Q=>eZ fun p xs=>y = .ref p/\(bA K H p xs\/bG K H p xs)/\oO x=true/\xs.all oO=true/\Q (.bl (if neg then !MV x xs else MV x xs)) H
def Ei:fL X (QaF .In) (rIn X.K false):=by
 intro pins s σ H x y v u Q I rx ry h;obtain⟨p,xs,rfl,hq,fx,fs,q⟩:=h;cases ry
 rcases hq with hq|hq
 ·obtain⟨aw,r,pl,hz⟩:=I.list hq;refine SeqAt.in_listAt (Kj x) pl.isList (fun w hw=>qa rx fx r fs w (by simpa using hw)) ⟨.bl _,H,I,rfl,?_⟩;rw[show aw.toArray.any (Kj x)=aw.any (Kj x) by simp,u6 r fs];exact q
 ·obtain⟨aw,r,pl,hz⟩:=I.tuple hq;refine SeqAt.in_tupleAt (Kj x) pl (fun w hw=>qa rx fx r fs w (by simpa using hw)) ⟨.bl _,H,I,rfl,?_⟩;rw[show aw.toArray.any (Kj x)=aw.any (Kj x) by simp,u6 r fs];exact q
def bF.or (h:bF X f r)(h':bF X f r'):bF X f (fun xs H Q=>r xs H Q\/r' xs H Q):=by
 intro pins s σ H xs us Q I rs q
 rcases q with q|q
 ·exact h s σ H xs us Q I rs q
 ·exact h' s σ H xs us Q I rs q
def uZ:bF X (.type "list") (fun xs H Q=>∃p ys,xs=[.ref p]/\(bA X.K H p ys\/bG X.K H p ys)/\∀l,H l=none->Q (.ref l) (upd H l (.lst ys))):=by
 intro pins s σ H xs us Q I r h;obtain⟨p,ys,rfl,hq,q⟩:=h;obtain⟨u,rfl,rx⟩:=vals1 r;cases rx;have fin:∀aw,Vals ys aw->ys.length<=Wp->∀h' c',(∀b o',s.heap.get? b=some o'->h'.get? b=some o') ->
   h'.get? s.heap.objs.size=some { cls := .type "list",dict:=none,data := .seq aw.toArray c',slots := #[] } -> EP X pins σ Q (.ref s.heap.objs.size) { s with heap:=h' }:=fun aw r' hz h' c' kp e=>
  ⟨.ref s.heap.objs.size,_,I.laid kp (Je _) (show bw X.prog X.w _ h' _ (.lst ys) from⟨hz,aw,c',r',e⟩),rfl,q _ (I.bq.fresh (Je _))⟩
 rcases hq with hq|hq
 ·obtain⟨aw,r',pl,hz⟩:=I.list hq;have hlen:=r'.length;obtain⟨o,ho,hc,n,hd⟩:=pl.isList;exact call_list_seq p (.inl rfl) ho hc hd (fun h' c' kp e=>fin aw r' hz h' c' kp e) (by simp only[Ju]<;>lia)
 ·obtain⟨aw,r',pl,hz⟩:=I.tuple hq;have hlen:=r'.length;obtain⟨o,ho,hc,n,hd⟩:=pl;exact call_list_seq p (.inr rfl) ho hc hd (fun h' c' kp e=>fin aw r' hz h' c' kp e) (by simp only[Ju]<;>lia)
def sN:bF X (.type "tuple") (fun xs H Q=>∃p ys,xs=[.ref p]/\((bA X.K H p ys/\∀l,H l=none->Q (.ref l) (upd H l (.tup ys)))\/(bG X.K H p ys/\Q (.ref p) H))):=by
 intro pins s σ H xs us Q I r h;obtain⟨p,ys,rfl,h⟩:=h;obtain⟨u,rfl,rx⟩:=vals1 r;cases rx
 rcases h with ⟨hq,q⟩|⟨hq,q⟩
 ·obtain⟨aw,r',pl,hz⟩:=I.list hq;have hlen:=r'.length;refine call_tuple_list pl.isList (fun h' kp =>?_) (by simp only[Ju]<;>lia);have I1:Inv X pins σ H { s with heap:=h' }:=I.kept kp;have I2:Inv X pins σ (upd H h'.objs.size (.tup ys)) { s with heap:=h'.push { cls := .type "tuple",data := .seq aw.toArray } }:=
   I1.laid (fun b o e=>Jb _ e) (Je _) (show bw X.prog X.w _ _ _ (.tup ys) from⟨hz,aw,r',uS.new _ _⟩)
  exact⟨.ref h'.objs.size,_,I2,rfl,q _ (I1.bq.fresh (Je _))⟩
 ·obtain⟨aw,r',pl,hz⟩:=I.tuple hq;exact call_tuple_same pl ⟨.ref p,H,I,rfl,q⟩
def UC (K:Ja)(T:String)(x:V)(H:Hp):Prop:=match x with
 | .str _=>T = "str"
 | .int _=>T = "int"
 | .ref p=>(T = "list" /\ ∃xs,bA K H p xs)\/(T = "tuple" /\ ∃o,K.lookup p=some o/\o.cls = .type "tuple" /\ o.dict=none) \/
   (T = "dict" /\ ((∃kvs,H p=some (.dK kvs))\/∃kvs,H p=some (.dT kvs)))\/(T = "set" /\ eZ fun S n=>H p=some (.set S n))
 | _=>False
def zM {σ:St}{H:Hp}{s:KE}{T:String}{x:V}{v:Fk}(I:Inv X pins σ H s)(r:RelV x v)(ty:UC X.K T x H):
  s.TypeIs v T/\∀a,v = .ref a->∃ob,s.heap.get? a=some ob/\ob.dict=none:=by
 cases x with
 | str z=>
  obtain⟨t,rfl⟩:=r;cases (show T = "str" from ty);exact⟨QdT s z t,fun _ e=>nomatch e⟩
 | int i=>
  obtain⟨t,rfl⟩:=r;cases (show T = "int" from ty);exact⟨QfM s i t,fun _ e=>nomatch e⟩
 | ref p=>
  cases r
  rcases ty with ⟨rfl,xs,hq⟩|⟨rfl,o,hk,hc,hd⟩|⟨rfl,hk⟩|⟨rfl,S,n,hk⟩
  ·obtain⟨aw,_,pl,_⟩:=I.list hq;refine⟨pl.isList.typeIs,fun a e =>?_⟩;cases e;obtain⟨o,n,e,c,hd,_⟩:=pl;exact⟨o,e,hd⟩
  ·refine⟨⟨o,I.iA p o hk,hc⟩,fun a e =>?_⟩;cases e;exact⟨o,I.iA _ o hk,hd⟩
  ·have z:∃o,s.heap.get? p=some o/\o.ExactDict:=by
    rcases hk with ⟨kvs,hk⟩|⟨kvs,hk⟩
    ·obtain⟨_,_,_,_,o,_,_,e,ex,_⟩:=I.bq p _ hk;exact⟨o,e,ex⟩
    ·obtain⟨_,_,_,_,o,_,_,e,ex,_⟩:=I.bq p _ hk;exact⟨o,e,ex⟩
   obtain⟨o,e,ex⟩:=z;refine⟨⟨o,e,ex.1⟩,fun a e2 =>?_⟩;cases e2;exact⟨o,e,ex.2.1⟩
  ·obtain⟨o,_,_,_,e,ex,_⟩:=I.bq p _ hk;refine⟨⟨o,e,ex.1⟩,fun a e2 =>?_⟩;cases e2;exact⟨o,e,ex.2.1⟩
 | _=>exact QaV ty
def Rw (K:Ja)(T:String)(r:V->List V->Hp->VK->Prop)(to:TE):TE:=fun σ H Q=>to σ H fun x H1=>UC K T x H1/\r x [] H1 Q
def tBM (K:Ja)(T:String)(r:V->List V->Hp->VK->Prop)(to:TE)(t:TA):TE:=fun σ H Q=>to σ H fun x H1=>UC K T x H1/\t σ H1 fun xs H2=>r x xs H2 Q
variable {o e:QaB}{es:List QaB}{to:TE}{t:TA}{name:Str}{apos dj:Pos}{T id:String}{r:V->List V->Hp->VK->Prop}
def P4 (pa:QfV T)(slot:Slot T name id)(OU:typeOf (.builtin id)=pure (.type "method_descriptor"))(hm:Kd X id r)(ho:PE X o to)
  (lW:Qbn o name X.env (QaL o X.env)=QaL o X.env:=by rfl) (mB:(apos.endLine==dj.line)=true:=by rfl):PE X (.Call (.Attribute o name apos) [] [] dj) (Rw X.K T r to):=by
 refine fun pins s σ H Q I h=>wpAny_Call_method0_late lW mB (bg (ho s σ H _ I h) fun v s1 hz_=>aj.el hz_ _ ?_);rintro x H1 I1 r1 ⟨ty,q1⟩;obtain⟨h1,h2⟩:=zM I1 r1 ty;exact⟨T,id,pa,slot,OU,h1,h2,Qcf rfl (Qf3 (hm s1 σ H1 x [] v [] Q I1 r1 .nil q1))⟩
def Sz (pa:QfV T)(slot:Slot T name id)(OU:typeOf (.builtin id)=pure (.type "method_descriptor"))(hm:Kd X id r)(ho:PE X o to)(ha:PA X (e::es) t)
  (lW:Qbn o name X.env (QaL o X.env)=QaL o X.env:=by rfl)
  (Fg:((QbU dj (Qaj (e::es) X.env)).all (fun x => !x.1)&&(backToKw dj (Qfo [] X.env)).all (fun x=>x.1.isSome)
   && decide ((e::es).length+([]:List QfH).length+(if ([]:List QfH).isEmpty then 0 else 1)<30))=true:=by rfl)
  (mB:(apos.endLine==dj.line)=true:=by rfl) (hs:Qaj (e::es) X.env=(false,QaL e X.env)::Qaj es X.env:=by rfl) (Ba:(QbU dj (Qaj es X.env)).any (·.1)=false:=by rfl) :
  PE X (.Call (.Attribute o name apos) (e::es) [] dj) (tBM X.K T r to t):=by
 refine fun pins s σ H Q I h=>wpAny_Call_method_late lW Fg mB rfl (bg (ho s σ H _ I h) fun v s1 hz_=>aj.el hz_ _ ?_);rintro x H1 I1 r1 ⟨ty,q1⟩;obtain⟨h1,h2⟩:=zM I1 r1 ty;refine⟨T,id,pa,slot,OU,h1,h2,?_⟩;have hA:=ha (pos:=dj) s1 σ H1 _ I1 q1;rw[hs] at hA ⊢;exact Qcf (by show(false||(QbU dj (Qaj es X.env)).any (·.1))=false;rw[Ba]<;>rfl) (Qf2 (bg hA fun us s2 hz_=>aj.el hz_ _ fun vs H2 I2 r2 q2=>hm s2 σ H2 x vs v us Q I2 r1 r2 q2))
end
def OM (X:Cx)(id:String)(r:V->List V->Hp->VK->Prop):Prop:=
 ∀ ⦃pins:List (Gc×Obj)⦄ (s:KE) (σ:St) (H:Hp) (x:V) (xs:List V) (v:Fk) (us:List Fk) (Q:VK),Inv X pins σ H s->RelV x v->Vals xs us->r x xs H Q ->
  Qac (Qab X.prog X.w) X.A (call (.builtin id) (v::us)) (EP X pins σ Q) X.xe s
def Vals.hd (h:Vals (x::xs) us):∃u r,us=u::r/\RelV x u/\Vals xs r:=by
 cases h with|cons a b=>exact⟨_,_,rfl,a,b⟩
def Vals.one (h:Vals [x] us):∃u,us=[u]/\RelV x u:=by
 obtain⟨u,r,rfl,a,h⟩:=h.hd;cases h;exact⟨_,rfl,a⟩
def Vals.two (h:Vals [x,y] us):∃u v,us=[u,v]/\RelV x u/\RelV y v:=by
 obtain⟨u,r,rfl,a,h⟩:=h.hd;obtain⟨v,rfl,b⟩:=h.one;exact⟨_,_,rfl,a,b⟩
def Vals.eraseIdx:∀{xs:List V} {us:List Fk} i,Vals xs us->Vals (xs.eraseIdx i) (us.eraseIdx i)
 | _,_,_,.nil =>.nil
 | _,_,0,.cons _ t=>t
 | _,_,i+1,.cons r t =>.cons r (Vals.eraseIdx i t)
def Vals.rep (h:Vals xs us):∀k,Vals (J0 k xs).flatten (J0 k us).flatten
 | 0 =>.nil
 | k+1=>by
  exact Vals.append h (Vals.rep h k)
def tN {α:Type}:∀(l:List α) i,(l.eraseIdx i).length<=l.length
 | [],_=>Je _
 | _::_,0=>Yx _
 | _::r,i+1=>Wb (tN r i)
def foldl_rep (aw:List Fk):∀k acc,
  List.foldl (fun x1 x2=>x1++x2) acc.toArray (J0 k aw.toArray)=(acc++(J0 k aw).flatten).toArray
 | 0,acc=>by simp
 | k+1,acc=>by
  have e:acc.toArray++aw.toArray=(acc++aw).toArray:=by simp
  have e2:(acc++aw)++(J0 k aw).flatten=acc++(J0 (k+1) aw).flatten:=by
   rw[QcH,List.flatten_cons,Yo]
  rw[<-e2,<-foldl_rep aw k (acc++aw),<-e,QcH,List.foldl_cons]
section
variable {X:Cx}{pins:List (Gc×Obj)}{σ:St}{H:Hp}{s:KE}{l b:Gc}{xs ys zs:List V}
def Inv.Nk {aw its':List Fk}{n:Nat}{f:Array Fk->Array Fk}{t':Nat}(I:Inv X pins σ H s)(hH:H l=some (.lst xs))
  (e:s.heap.get? l=some { cls := .type "list",data := .seq aw.toArray n }) (hf:f aw.toArray=its'.toArray) (hv:Vals ys its') (hz:ys.length<=Wp) :
  Inv X pins σ (upd H l (.lst ys)) { s with heap:=s.heap.update l (QaH f),toks:=t' }:=by
 have q:=PySem.IsL.update e f;rw[hf] at q;refine I.write (by rw[hH];exact trivial) (.inl rfl) (fun b' u hb hu=>(Ua s.heap (QaH f) (QaA hb)).trans hu) ⟨_,q⟩ ?_;exact⟨hz,its',_,hv,q⟩
def Inv.R4 (I:Inv X pins σ H s)(hv:Vals ys aw)(hz:ys.length<=Wp):
  Inv X pins σ (upd H s.heap.objs.size (.lst ys)) { s with heap:=s.heap.push { cls := .type "list",data := .seq aw.toArray },toks:=t' }:=
 I.laid (fun _ _ q=>Jb _ q) (Je _) ⟨hz,aw,0,hv,Ji _ rfl⟩
def Inv.fresh (I:Inv X pins σ H s):H s.heap.objs.size=none:=I.bq.fresh (Je _)
def Inv.yS (I:Inv X pins σ H s)(hH:H l=some (.lst xs)):xs.length<=Wp/\∃aw n,Vals xs aw/\xs.length=aw.length/\s.heap.get? l=some { cls := .type "list",data := .seq aw.toArray n }:=by
 obtain⟨z,aw,n,r,e⟩:=I.bq l _ hH;exact⟨z,aw,n,r,r.length,e⟩
def JO (h:n<=Wp):Qen n=false:=
 decide_eq_false ⋯
end
section
variable {X:Cx}
def Kp:V->List V->Hp->VK->Prop:=fun x vs H Q=>qM fun l xs y=>x = .ref l/\vs=[y]/\H l=some (.lst xs)/\xs.length<Wp/\Q .non (upd H l (.lst (xs++[y])))
def Fw:OM X "list.append" Kp:=by
 intro pins s σ H x vs v us Q I rx rv h;obtain⟨l,xs,y,rfl,rfl,hH,hz,q⟩:=h;cases rx;obtain⟨u,rfl,ru⟩:=rv.one;obtain⟨z,aw,n,r,hl,e⟩:=I.yS hH;refine Qb2 F.slot_list_append ⟨_,e,rfl⟩ F.entry_list_append (F.args_list_append_2 _ _) (PySem.list_append l aw.toArray n u (by rw[Ju];lia)) ⟨e,⟨.non,_,I.Nk hH e (by simp) (r.append (.cons ru .nil)) ?_,rfl,q⟩⟩;rw[Jw,QdH];lia
def OV:V->List V->Hp->VK->Prop:=fun x vs H Q=>zg fun l xs i k y=>x = .ref l/\vs=[.int i]/\H l=some (.lst xs) /\ -(2^63)<=i/\i<2^63/\seqIndex? i xs.length=some k/\xs[k]? = some y/\Q y (upd H l (.lst (xs.eraseIdx k)))
def IQ:OM X "list.pop" OV:=by
 intro pins s σ H x vs v us Q I rx rv h;obtain⟨l,xs,i,k,y,rfl,rfl,hH,h1,h2,hk,hy,q⟩:=h;cases rx;obtain⟨u,rfl,ru⟩:=rv.one;obtain⟨t,rfl⟩:=ru;obtain⟨z,aw,n,r,hl,e⟩:=I.yS hH;obtain⟨w,hw,rw'⟩:=r.get hy;refine Qb2 F.slot_list_pop ⟨_,e,rfl⟩ F.entry_list_pop (F.args_list_pop_2 _ _)
  (MeetsSeq.list_pop_at l aw.toArray n i t k w (fitsIndex_both h1 h2) (by rw[Ju,<-hl];exact hk) (by rw[<-U2];exact hw) (by rw[Ju];lia)) ⟨e,?_⟩
 refine⟨y,_,I.Nk hH e ?_ (r.eraseIdx k) ?_,rw',q⟩
 ·show aw.toArray.eraseIdxIfInBounds k=(aw.eraseIdx k).toArray;rw[List.eraseIdxIfInBounds_toArray]
 ·have:=tN xs k;lia
def Rx:R2:=fun x y H Q=>tG fun l b xs zs=>x = .ref l/\y = .ref b/\H l=some (.lst xs)/\H b=some (.lst zs)/\xs.length+zs.length<=Wp/\∀p,H p=none->Q (.ref p) (upd H p (.lst (xs++zs)))
def P7:fL X (Qbu .Add) Rx:=by
 intro pins s σ H x y v u Q I rx ry h;obtain⟨l,b,xs,zs,rfl,rfl,hH,hB,hz,q⟩:=h;cases rx;cases ry;obtain⟨z,aw,n,r,hl,e⟩:=I.yS hH;obtain⟨z2,its2,n2,r2,xc,e2⟩:=I.yS hB;refine PySem.P.add_list e e2 ?_ (by rw[Ju,Ju];lia);have ea:aw.toArray++its2.toArray=(aw++its2).toArray:=by simp
 rw[ea];exact⟨.ref _,_,I.R4 (r.append r2) (by rw[Jw];lia),rfl,q _ I.fresh⟩
def SQ:R2:=fun x y H Q=>qM fun l k xs=>x = .ref l/\y = .int k/\H l=some (.lst xs) /\ -(2^63)<=k/\k<2^63/\xs.length*k.toNat<=Wp /\
 ∀p,H p=none->Q (.ref p) (upd H p (.lst (J0 k.toNat xs).flatten))
def Ms {α:Type}(xs:List α)(k:Nat):(J0 k xs).flatten.length=k*xs.length:=by simp
def PU:fL X (Qbu .Mult) SQ:=by
 intro pins s σ H x y v u Q I rx ry h;obtain⟨l,k,xs,rfl,rfl,hH,h1,h2,hz,q⟩:=h;cases rx;obtain⟨t,rfl⟩:=ry;obtain⟨z,aw,n,r,hl,e⟩:=I.yS hH;have hlen:aw.toArray.size*k.toNat<=Wp:=by rw[Ju,<-hl];exact hz
 have X5:¬aw.toArray.size*k.toNat>(2^63-1) / 8:=by
  have:(Wp:Nat)<=(2^63-1) / 8:=∅;lia
 have X7:¬(!Builtin.List.listFitsIndex k)=true:=by
  rw[fitsIndex_both h1 h2];exact Jn
 have Ti:¬Qen (aw.toArray.size*k.toNat)=true:=by
  rw[JO hlen];exact Jn
 have Vw:List.foldl (fun x1 x2=>x1++x2) #[] (J0 (if aw.toArray.isEmpty=true then 0 else k.toNat) aw.toArray)=(J0 k.toNat aw).flatten.toArray:=by
  have f0:∀m,List.foldl (fun x1 x2=>x1++x2) #[] (J0 m aw.toArray)=(J0 m aw).flatten.toArray:=fun m=>by
   have:=foldl_rep aw m [];exact this
  rw[f0];cases aw with
  | nil=>simp
  | cons a r'=>rw[if_neg (by simp)]
 refine wpAny_binaryOp_repeat_ref rfl ⟨_,e,rfl⟩ (fun s'=>QfM s' k t) noFill_list_mul F.fills_int_mul F.slot_int_rmul repeat_list F.slot_int_index.lookup
  (Qb2 F.slot_int_rmul (QfM s k t) F.entry_int_rmul (F.args_int_rmul_2 _ _) (int___rmul___int_list k t l aw.toArray n)
   ⟨e,rfl,⟨_,e,rfl⟩,Qb2 F.slot_list_mul ⟨_,e,rfl⟩ F.entry_list_mul (F.args_list_mul_2 _ _) (AutoListH.list___mul___list_int_3 l aw.toArray n k t X7 X5 Ti) ⟨e,?_⟩⟩)
 rw[Vw];exact⟨.ref _,_,I.R4 (r.rep k.toNat) (by rw[Ms,Qeq];exact hz),rfl,q _ I.fresh⟩
end
section
variable {prog:Qaf}{w:Qah}{A:Qax}{E:Fk->KE->Prop}{s:KE}
set_option maxRecDepth 100000 in
end
end L2
namespace Att
open PySem PySem.W PySem.Calls PyProof.Rows
def oZ:∀ns vs,WellAll P h vs (ns.map WData.int)->Qem vs ns:=by
 intro ns
 induction ns with
 | nil=>
  intro vs w;cases w;exact .nil
 | cons n ns ih=>
  intro vs w;cases w with
  | cons a b=>
   cases a;exact .cons _ _ (ih _ b)
def DQ {l:OpenLaw}{n:Nat}(hn:l.most=some n){P:Params}{h:Heap}{args:List WData}{vals:List Fk}
  (LJ:l.row.toRowW.claim.pre args=true) (YB:WellAll P h vals args) :
  ∃a vs ns,vals=[Qan a]/\args=[WData.list (ns.map WData.int)]/\h.get? a=some { cls := .type "list",data := .seq vs.toArray } /\ Qem vs ns/\ns.length<=n:=by
 obtain⟨d,r,rfl,h1,h2⟩:=hasAllW_cons ((pre_splitW LJ).1);obtain rfl:=hasAllW_nil h2;obtain⟨xs,rfl,h3⟩:=hasW_list h1;obtain⟨ns,rfl⟩:=items_int h3;have hlen:ns.length<=n:=by
  have h4:(WTm.not (.lt (.lit (.int (n:Int))) (.len (.arg 0)))).holds [] { args:=[.list (ns.map .int)] } = true:=by
   have h4:=(holds_andW ((pre_splitW LJ).2)).1;rw[hn] at h4;exact h4
  have h5:=condW_of h4 (w_not (w_lt w_lit (w_len_list (w_arg rfl))));refine Nat.le_of_not_lt fun q =>?_
  first
   | (rw[decide_eq_true q'] at h5;exact absurd h5 rfl)
   | (simp at h5;lia)
 cases YB with
 | cons w1 w2=>
  cases w2;cases w1 with
  | list ho jJ=>exact⟨_,_,ns,rfl,rfl,ho,oZ ns _ jJ,hlen⟩
def Ew (l:OpenLaw)(args:List WData):l.row.toRowW.claim.post args (.bool true) args=true:=
 postW_of
  (show WShape.has [] (.bool true) .bool=true by first|rfl|decide|simp[ WShape.armsAll])
  (show(WTm.eq .res (.lit (.bool true))).value [] { args:=args,res:=some (.bool true),after:=args } = some (.bool (true==true)) from w_eq_bool (w_res rfl) w_lit) rfl
def xV {l:OpenLaw}{n:Nat}{q:Qaf}{loose:List Str}{XP:(Str->Option Fk)->Heap->Prop}{YP:Qah->Heap->Prop}{d:DefRec}
  (hn:l.most=some n) (Qw:d.params.defaults=[])
  (call:∀w s₀ s₁ mg mb fa o pm cd doc a vs ns,
   Ground q loose [] XP w s₀ mg mb s₁.heap->YP w s₁.heap ->
   s₁.heap.get? fa=some o->o.data = .func (docDef d.name d.params d.body d.scope pm cd doc)->s₁.heap.CodeRec cd d.name->mg d.name=some (.ref fa) ->
   s₁.heap.get? a=some { cls := .type "list",data := .seq vs.toArray } -> Qem vs ns->ns.length<=n->s₁.gens = #[] ->
   QaZ (Qab l.prog w) QfB (.call (.ref fa) ⟨[.ref a],[]⟩) (fun r s'=>r = .ok (.ret (.bool true))/\OldK s₁.heap s'.heap/\s'.os=s₁.os/\Qdy s'.gens) s₁) :
  WalkO q loose XP YP l.row.toRowW d [] (fun f vs=>QeT f vs):=by
 intro w s₀ s₁ mg mb G Y fa o pm cd doc dV kV ho hd zU hD hmg hg args vals as LJ hlay hrd YB Lw;obtain rfl:dV = .none:=Dflts.none hD Qw;obtain rfl:kV = .none:=Dflts.noKw hD;obtain⟨a,vs,ns,rfl,rfl,hobj,hints,hlen⟩:=DQ hn LJ YB;refine enter_call (QcA (call w s₀ s₁ mg mb fa o pm cd doc a vs ns G Y ho (fd_plain hd) zU hmg hobj hints hlen hg) fun r s' hq =>?_);obtain⟨rfl,h2,h3,h4⟩:=hq;exact⟨.inl ⟨.bool true,.bool true,[],rfl,fun _=>rfl,.bool true,Ew l _,fun _=>⟨Qe9,fun _ hm=>(nomatch hm)⟩⟩,h2,h3,h4⟩
end Att
namespace L2
open PySem PySem.Spec PyProof.Rows
def EE (h:Qem vs ns):Vals (ns.map V.int) vs:=by
 induction h with
 | nil=>exact .nil
 | cons n t h ih=>exact .cons ⟨t,rfl⟩ ih
def Oi (H:Hp):Prop:=∀b,H b=none\/eZ fun o xs=>H b=some (.frz o (.lst xs))
def HV {K:Ja}{mg mb:Str->Option Fk}{CX:HD}{k:Nat}{fa a:Gc}{fd:Qad}{x:Str}{sp:Sp}{s₁:KE}{vs:List Fk}{ns:List Int}
  (KX:K.In s₁.heap) (IW:s₁.heap.Ns W1 mg) (hb:s₁.heap.Ns builtinsNs mb) (hbb:∀x:Str,x ≠ "__name__" -> mb x=QaR x) (ZM:s₁.heap.NoLimit) (hg:s₁.gens = #[])
  (ha:s₁.heap.get? a=some { cls := .type "list",data := .seq vs.toArray }) (hi:Qem vs ns) (hl:ns.length<=Wp) (hr:da k QfB)
  (F:∀base,K.In base->base.Ns W1 mg->aW P w K mg base CX k fa fd [x] sp) (Qz:∀(s:KE) (u:Fk),QfI s fd ⟨[u],[]⟩ [(x,u)])
  (Ke:∀H,Oi H->bA K H a (ns.map V.int)->sp [.ref a] H (fun v _=>v = .bl true) fun _ _ _=>False)
  (Zb:∀H e s',CX [] H s₁ (fun _ _ _=>False) e s'->False) :
  QaZ (Qab P w) QfB (.call (.ref fa) ⟨[.ref a],[]⟩) (fun r s'=>r = .ok (.ret (.bool true))/\OldK s₁.heap s'.heap/\s'.os=s₁.os/\Qdy s'.gens) s₁:=by
 have rv:=EE hi;have core:∀H,Oi H->bA K H a (ns.map V.int)->ji P w H s₁.heap->(∀b,H b≠none->b=a)->(H a≠none->K.lookup a=none) ->
   QaZ (Qab P w) QfB (.call (.ref fa) ⟨[.ref a],[]⟩) (fun r s'=>r = .ok (.ret (.bool true))/\OldK s₁.heap s'.heap/\s'.os=s₁.os/\Qdy s'.gens) s₁:=by
  intro H hO hS bq hA hK;have CK:∀{b:Gc} {o:Obj},s₁.heap.get? b=some o->H b=none->(Fu s₁.heap H).get? b=some o:=fun e n=>HL e n;have QI:∀{b:Gc} {o:Obj} {es:Array QdO} {ep:Nat},s₁.heap.get? b=some o->o.data = .dict es ep->H b=none:=fun{b o es ep} e d=>by
   cases q:H b with
   | none=>rfl
   | some u=>
    have e':=hA b (by rw[q];simp);subst e';rw[ha] at e;cases e;cases d
  have US:∀{b:Gc} {m:Str->Option Fk},s₁.heap.Ns b m->(Fu s₁.heap H).Ns b m:=fun{b m} ⟨o,es,ep,e,d,r⟩=>⟨o,es,ep,CK e (QI e d),d,r⟩
  have hKb:=fun b o e=>CK (KX b o e) (by
   cases q:H b with
   | none=>rfl
   | some u=>
    have e':=hA b (by rw[q];simp);subst e';rw[hK (by rw[q];simp)] at e;cases e)
  refine QcA ((F _ hKb (US IW)).run QfB [] s₁ H ⟨[.ref a],[]⟩ [.ref a] [.ref a] _ _ hr (⟨rfl,(⟨hKb,US IW,⟨mb,US hb,hbb⟩,let ⟨mc,h1,h2⟩:=ZM; ⟨mc,US h1,h2⟩⟩),fun b o e=>Mi e,Nat.le_of_eq (FF _ _),trivial,fun b hb=>absurd (show b∈([]:List Gc) from hb) (by simp),bq,.of_eq hg⟩) (Qz s₁ (.ref a)) (.cons rfl .nil) (Ke H hO hS)) fun r s' h =>?_;cases r with
  | error e=>exact(Zb H e s' h).elim
  | ok fl=>
   cases fl with
   | next=>exact QaV h
   | brk=>exact QaV h
   | cont=>exact QaV h
   | ret u=>
    obtain⟨v,H',os,bare,un,hok',r',q⟩:=h;subst q;obtain rfl:u=Qbw true:=r';refine⟨rfl,OldK.of_keep fun b o e =>?_,os,bare⟩;cases q:H b with
    | none=>exact un.keep b o e q (by intro z;exact absurd (show b∈([]:List Gc) from z) (by simp)) (by simp)
    | some u=>
     rcases hO b with z|⟨ob,xs,z⟩
     ·rw[q] at z;cases z
     ·have z2:=un.jr b ob _ z;obtain⟨e1,_⟩:=bq b _ z;obtain⟨e2,_⟩:=hok' b _ z2;rw[e] at e1;cases e1;exact e2
 cases hk:K.lookup a with
 | some o=>
  have e:=KX a o hk;rw[ha] at e;cases e;refine core (fun _=>none) (fun _ =>.inl rfl) (.inr ⟨_,vs.toArray,_,hk,rfl,rfl,rfl,by rw[Ju,hi.length];exact hl,by simpa using rv⟩) (fun b u z=>by have z':=z;cases z') (fun b z=>absurd rfl z) fun z=>absurd rfl z
 | none=>
  refine core (fun b=>if b=a then some (.frz { cls := .type "list",data := .seq vs.toArray } (.lst (ns.map V.int))) else none) (fun b =>?_) (.inl (.inr ⟨{ cls := .type "list",data := .seq vs.toArray },if_pos rfl⟩)) (fun b u z =>?_) (fun b z =>?_) fun _=>hk
  ·by_cases hb:b=a
   ·exact .inr ⟨_,_,if_pos hb⟩
   ·exact .inl (if_neg hb)
  ·by_cases hb:b=a
   ·have z':=(if_pos hb).symm.trans z;cases z';subst hb;exact⟨ha,by rw[Jc];exact hl,vs,_,rv,ha⟩
   ·have z':=(if_neg hb).symm.trans z;cases z'
  ·by_cases hb:b=a
   ·exact hb
   ·exact absurd (if_neg hb) z
def Kf {l:Qep}{n k:Nat}{q:Qaf}{loose:List Str}{XP:(Str->Option Fk)->Heap->Prop}{YP:Qah->Heap->Prop}{d:DefRec}{K:Params->Ja}{CX:Qah->HD}{sp:Qah->Sp}{x:Str}
  (hn:l.most=some n) (L5:n<=Wp) (Qw:d.params.defaults=[]) (hr:da k QfB)
  (hY:∀(w:Qah) (h:Heap),YP w h->(K w.params).In h)
  (F:∀w mg fa h,(K w.params).In h->h.Ns W1 mg->mg d.name=some (.ref fa) ->
   ∃fd,(∀s u,QfI s fd ⟨[u],[]⟩ [(x,u)]) /\
    ∀base,(K w.params).In base->base.Ns W1 mg->aW l.prog w (K w.params) mg base (CX w) k fa fd [x] (sp w))
  (Ke:∀(w:Qah) (H:Hp) (a:Gc) (ns:List Int),ns.length<=n->Oi H->bA (K w.params) H a (ns.map V.int)->sp w [.ref a] H (fun v _=>v = .bl true) fun _ _ _=>False)
  (Zb:∀(w:Qah) (H:Hp) (s:KE) (e:Fk) (s':KE),CX w [] H s (fun _ _ _=>False) e s'->False) :
  PySem.W.WalkO q loose XP YP l.row.toRowW d [] (fun f vs=>QeT f vs):=by
 refine Att.xV hn Qw fun w s₀ s₁ mg mb fa o pm cd doc a vs ns G Y ho hd zU hmg hobj hints hlen hg =>?_;have KX:=hY w _ Y;obtain⟨fd,hb,hF⟩:=F w mg fa _ KX G.T.g hmg;exact HV KX G.T.g G.T.b G.T.builtins G.T.nolimit hg hobj hints (Jh hlen L5) hr hF hb (fun H hO hS=>Ke w H a ns hlen hO hS) fun H e s'=>Zb w H s₁ e s'
def inClass (s:QdC)(j:Nat):QdC:=match s with
 | .ClassDef _ _ _ body _ _ _ _ _ _ _=>body.getD j (.Pass ⟨0,0,0,0⟩)
 | _ =>.Pass ⟨0,0,0,0⟩
def cJ (s:QdC):Arguments:=match s with
 | .FunctionDef _ a _ _ _ _ _ _ _ _=>a
 | _=>{ posonlyargs:=[],args:=[],vararg:=none,kwonlyargs:=[],kw_defaults:=[],kwarg:=none,defaults:=[] }
def bZ (s:QdC):List QdC:=match s with
 | .FunctionDef _ _ b _ _ _ _ _ _ _=>b
 | _=>[]
def ak (s:QdC):Qb3:=match s with
 | .FunctionDef _ _ _ _ _ _ sc _ _ _=>sc
 | _=>{ kind := .function,names:=[],isGenerator:=false,isCoroutine:=false }
abbrev d7:HD:=fun _ _ _ _ _ _=>False
abbrev E0:XK:=fun _ _ _=>False
def uJ:Passes d7 X E0:=fun _ _ _ _ _ _ _ h=>h.elim
structure bM (K:Ja)(x qual:Str)(st:QdC)(f:Gc)(fd:Qad):Prop where
 ex:∃(oc:Fk) (od:Option Gc) (kV doc pm:Fk) (an:Option Gc) (cQ ct:Fk) (DD:Array (Option Fk)),
  fd=Yd x qual (cJ st) (bZ st) (ak st) .none kV doc pm an cQ ct/\K.lookup f=some ⟨oc,od,.func fd,DD⟩/\Yp K cQ qual=true
 kp:Ui K (.ref f)=true
section
variable {P:Qaf}{w:Qah}{K:Ja}{mg:Str->Option Fk}{base:Heap}
def bM.ok {st:QdC}{f:Gc}{fd:Qad}{N ps:List Str}{k:Nat}{sp:Sp}(F:bM K x qual st f fd)(S:aA N ps (ak st))(len:∀vs H Q E,sp vs H Q E->vs.length=ps.length)
  (zu:∀cQ A outer s H vs Q E,da k (A.deeper (QbG qual (ak st) s.heap.objs.size f cQ))->sp vs H Q E ->
   ∃t,zB (kS d7 P w K mg base N qual (ak st) f cQ A outer s H E).UY (bZ st) t/\t { nx:=fun _ H'=>Q .non H',rt:=Q } (start N vs) H):aW P w K mg base d7 (k+1) f fd ps sp:=by
 obtain⟨oc,od,kV,doc,pm,an,cQ,ct,DD,rfl,lk,zU⟩:=F.ex;refine MU lk zU S len fun A outer s H vs Q E hr Ke =>?_;obtain⟨t,h,q⟩:=zu cQ A outer s H vs Q E hr Ke;exact⟨t,h.UY,q⟩
def bM.binds {st:QdC}{f:Gc}{fd:Qad}{ps:List Str}(F:bM K x qual st f fd)
  (h:∀kV doc pm an cQ ct us,us.length=ps.length->bindArgs (Yd x qual (cJ st) (bZ st) (ak st) .none kV doc pm an cQ ct) ⟨us,[]⟩=pure (ps.zip us)):Binds K fd ps []:=by
 obtain⟨oc,od,kV,doc,pm,an,cQ,ct,DD,rfl,lk,zU⟩:=F.ex;exact .all (h kV doc pm an cQ ct)
def aQ {st:QdC}{f:Gc}{oc:Fk}{od an:Option Gc}{DD:Array (Option Fk)}{kV doc pm cQ ct:Fk}(l:K.lookup f=some ⟨oc,od,.func (Yd x qual (cJ st) (bZ st) (ak st) .none kV doc pm an cQ ct),DD⟩)
  (c:Yp K cQ qual=true) (k:Ui K (.ref f)=true):bM K x qual st f (Yd x qual (cJ st) (bZ st) (ak st) .none kV doc pm an cQ ct):=⟨⟨oc,od,kV,doc,pm,an,cQ,ct,DD,rfl,l,c⟩,k⟩
end
def mn {k:Nat}(hr:da k A):A.units+1<Qc4:=Ub (Nat.add_le_add_left (by decide:1<=64) _) hr.units
section
variable {X:Cx}
def pv (i:Nat){x:Str}{pos:Pos}(hN:X.N[i]? = some x:=by rfl)(hv:Ra X.env.scope x:=by first|exact Qag rfl|exact Qf9 (Qag rfl)|exact Qf9 (Qf9 rfl))(hd:(x==("__debug__" : Str))=false:=by decide)
  (zU:(x==("__classdict__" : Str))=false:=by decide):PE X (.Name x pos) (Ow i):=Oj hN hv hd zU
end
def bC {A B:Prop}(h:B):if false=true then A else B:=by grind
def bN {A B:Prop}(h:A):if true=true then A else B:=
 h
def gj {c A B:Prop}[Decidable c](h1:c->A)(h2:¬c->B):if c then A else B:=by grind
def av (H H':Hp):Prop:=∀b o,H b=some o->H' b=some o
def av.refl (H:Hp):av H H:=fun _ _ h=>h
def av.trans (a:av H H1)(b:av H1 H2):av H H2:=fun c o h=>b c o (a c o h)
def av.free (e:av H H'){l:Gc}(h:H' l=Option.none):H l=Option.none:=by
 cases q:H l with
 | none=>rfl
 | some o=>
  rw[e l o q] at h;cases h
def av.seq {K:Ja}{H H':Hp}{a:Gc}{xs:List V}(e:av H H')(h:bA K H a xs):bA K H' a xs:=by
 rcases h with (h|⟨o,h⟩)|h
 ·exact .inl (.inl (e _ _ h))
 ·exact .inl (.inr ⟨o,e _ _ h⟩)
 ·exact .inr h
end L2
namespace Z
open PySem L2
def top (i:Nat):QdC:=PySem.Challenge.pw_oddlong_k33_distances_at_bounds.main.body.getD i (.Pass ⟨0,0,0,0⟩)
abbrev O5:Nat:=1
abbrev Qh:Nat:=2
abbrev Qk:Nat:=3
abbrev QN:Nat:=4
abbrev Qg:Nat:=5
abbrev ia:Nat:=6
abbrev iw:Nat:=7
abbrev OG:Nat:=8
abbrev SX:Nat:=9
abbrev nR:Nat:=18
abbrev nh:Nat:=19
abbrev nO:Nat:=20
abbrev qJ:Nat:=21
abbrev iZ:Nat:=22
abbrev jx:Nat:=23
abbrev nH:Nat:=24
abbrev jI:Nat:=25
abbrev jL:Nat:=27
abbrev nP:Nat:=28
abbrev kY:Nat:=31
abbrev kQ:Nat:=32
abbrev gH:Nat:=33
abbrev iK:Nat:=34
abbrev oj:Nat:=35
abbrev bf:Nat:=36
abbrev jD:Nat:=37
abbrev gA:Nat:=38
abbrev jC:Nat:=39
abbrev fK:Nat:=40
abbrev nj:Nat:=42
abbrev lN:Nat:=43
abbrev zV:Nat:=44
abbrev vG:Nat:=45
abbrev nB:Nat:=50
abbrev gU:Nat:=51
abbrev eC:Nat:=52
abbrev eW:Nat:=53
abbrev j9:Nat:=55
abbrev lO:Nat:=56
abbrev kW:Nat:=57
abbrev jX:Nat:=58
abbrev j3:Nat:=59
abbrev jY:Nat:=60
abbrev jM:Nat:=61
abbrev jz:Nat:=62
abbrev lG:Nat:=63
abbrev gY:Nat:=64
abbrev jW:Nat:=65
abbrev gb:Nat:=66
abbrev ow:Nat:=67
abbrev jB:Nat:=68
abbrev kN:Nat:=69
abbrev fI:Nat:=70
abbrev hV:Nat:=71
end Z
set_option maxHeartbeats 0
namespace Z
open PySem PySem.W PySem.Calls PyProof.Rows L2
def QE (s:QdC):Pos:=match s with
 | .FunctionDef _ _ _ _ _ _ _ _ _ p=>p
 | _=>default
@[reducible] noncomputable def hs (s:String) (t:Nat):Fk := .str (.ofString s) t
@[reducible] noncomputable def hy (P:Params) (s:String) (t:Nat) (v:Fk):QdO:=⟨PyData.keyHash P (.ofString s),.str (.ofString s) t,v⟩
@[reducible] noncomputable def ht (xs:Array Fk):Obj:=⟨.type "tuple",none,.seq xs 0,#[]⟩
@[reducible] noncomputable def hf (n q:String) (s:QdC) (m:Fk) (c:Gc):Obj:=⟨.type "function",none,.func (fnOf (.ofString n) (.ofString q) (cJ s) (bZ s) (ak s) .none .none .none m none (.ref c) .none),#[]⟩
@[reducible] noncomputable def hc (n:String) (t1:Nat) (q:String) (t2 t3:Nat) (i1 i2 i3:Int) (r1:Gc) (b:Bool) (i4:Int) (r2 r3 r4 r5:Gc) (i5 i6:Int) (t4:Nat):Obj:=⟨.type "code",none,.fields #[.str (.ofString n) t1,.str (.ofString q) t2,.str (.ofString "/claim/cut.py") t3,.int i1 0,.int i2 0,.int 0 0,.int 0 0,.int i3 0,.ref r1,.bool b,.int i4 0,.ref r2,.none,.ref r3,.ref r4,.ref r5,.int i5 0,.int i6 0,.str (.ofString "/claim/cut.py") t4],#[]⟩
def Xe:Params->Frag:=fun P=>
 (nat_lit 3,⟨(.type "dict"),none,(.dict #[hy P "__name__" 165 (hs "law_oddlong_k33_distances_at_bounds" 807),hy P "__doc__" 166 .none,hy P "__package__" 167 .none,hy P "__loader__" 168 (.builtin "__main__.__loader__#opaque"),hy P "__spec__" 169 .none,hy P "__annotations__" 170 (.ref 6),hy P "__builtins__" 171 (.ref 4),hy P "__file__" 173 (hs "/claim/cut.py" 172),hy P "__cached__" 174 .none,hy P "OddError" 206 (.ref 24),hy P "TooFull" 222 (.ref 37),hy P "NoPlace" 238 (.ref 49),hy P "NoName" 263 (.ref 68),hy P "BadText" 288 (.ref 87),hy P "NoForm" 313 (.ref 106),hy P "TooFar" 338 (.ref 125),hy P "NoTarget" 363 (.ref 144),hy P "BadRow" 388 (.ref 163),hy P "SIGNS" 392 (hs "01" 391),hy P "SMALL_LETTERS" 394 (hs "abcdefghijklmnopqrstuvwxyz" 393),hy P "LONGEST_NAME" 396 (.int 8 395),hy P "SPOT_NAMES" 401 (.ref 166),hy P "SIZE_NAMES" 411 (.ref 167),hy P "JUMPS" 414 (.ref 168),hy P "PARTS" 452 (.ref 169),hy P "made_of" 460 (.ref 187),hy P "is_name" 467 (.ref 194),hy P "is_code" 474 (.ref 201),hy P "two_to" 483 (.ref 208),hy P "figures_of" 493 (.ref 215),hy P "number_of" 502 (.ref 222),hy P "rest_of" 510 (.ref 229),hy P "is_number" 517 (.ref 236),hy P "lookup_of" 525 (.ref 241),hy P "code_at" 537 (.ref 248),hy P "SKIP_FIGURES" 541 (.int 3 540),hy P "put_bare" 552 (.ref 255),hy P "put_part" 562 (.ref 262),hy P "put_distance" 570 (.ref 269),hy P "is_reached" 579 (.ref 276),hy P "bare_at" 590 (.ref 283),hy P "Reader" 659 (.ref 321),hy P "name_from" 671 (.ref 332),hy P "figures_from" 682 (.ref 339),hy P "many_from" 692 (.ref 346),hy P "distance_from" 703 (.ref 353),hy P "is_book" 711 (.ref 358),hy P "is_entry" 718 (.ref 365),hy P "free" 725 (.ref 372),hy P "clash" 737 (.ref 379),hy P "LEAST_NEAR" 741 (.int 2 740),hy P "MOST_NEAR" 743 (.int 8 742),hy P "MOST_FAR" 745 (.int 16 744),hy P "Form" 783 (.ref 396),hy P "first_wrong" 794 (.ref 407),hy P "is_free_book_of" 800 (.ref 412),hy P "far_is_shorter" 806 (.ref 417),hy P "_law_begin" 816 (.ref 424),hy P "_law_take" 830 (.ref 431),hy P "_law_same" 836 (.ref 436),hy P "_law_mixed" 846 (.ref 443),hy P "_law_codes" 852 (.ref 448),hy P "_law_kinds" 858 (.ref 455),hy P "_law_sizes" 864 (.ref 462),hy P "_law_parts" 879 (.ref 469),hy P "_law_form" 886 (.ref 476),hy P "_law_figures" 896 (.ref 483),hy P "_law_power" 905 (.ref 490),hy P "_law_far_word" 912 (.ref 497),hy P "_law_put" 918 (.ref 502),hy P "_law_class" 927 (.ref 509),hy P "_law_told" 938 (.ref 516),hy P "_law_distances" 944 (.ref 521),hy P "law" 962 (.ref 528)] 74),#[]⟩) ::
 (nat_lit 23,⟨(.type "dict"),none,(.dict #[hy P "__module__" 196 (hs "oddlong.errors" 187),hy P "__firstlineno__" 200 (.int 2 199),hy P "__static_attributes__" 201 (.ref 22),hy P "__weakref__" 203 (.ref 25),hy P "__doc__" 204 .none] 3),#[]⟩) ::
 (nat_lit 24,⟨(.type "type"),none,(.cls ⟨(.ofString "OddError"),[(.type "ValueError")],[(.ref 24),(.type "ValueError"),(.type "Exception"),(.type "BaseException"),(.type "object")],23,(.ofString "OddError"),true,[],[(.ref 37),(.ref 49),(.ref 68),(.ref 87),(.ref 106),(.ref 125),(.ref 144),(.ref 163)],false,none,false⟩),#[(some (.ref 15)),none,(some (hs "OddError" 189)),(some (hs "OddError" 197)),(some (.builtin "ValueError.__new__")),(some (.bool true))]⟩) ::
 (nat_lit 37,⟨(.type "type"),none,(.cls ⟨(.ofString "TooFull"),[(.ref 24)],[(.ref 37),(.ref 24),(.type "ValueError"),(.type "Exception"),(.type "BaseException"),(.type "object")],36,(.ofString "TooFull"),true,[],[],false,none,false⟩),#[(some (.ref 28)),none,(some (hs "TooFull" 207)),(some (hs "TooFull" 215)),(some (.builtin "ValueError.__new__")),(some (.bool true))]⟩) ::
 (nat_lit 49,⟨(.type "type"),none,(.cls ⟨(.ofString "NoPlace"),[(.ref 24)],[(.ref 49),(.ref 24),(.type "ValueError"),(.type "Exception"),(.type "BaseException"),(.type "object")],48,(.ofString "NoPlace"),true,[],[],false,none,false⟩),#[(some (.ref 40)),none,(some (hs "NoPlace" 223)),(some (hs "NoPlace" 231)),(some (.builtin "ValueError.__new__")),(some (.bool true))]⟩) ::
 (nat_lit 68,⟨(.type "type"),none,(.cls ⟨(.ofString "NoName"),[(.ref 24)],[(.ref 68),(.ref 24),(.type "ValueError"),(.type "Exception"),(.type "BaseException"),(.type "object")],67,(.ofString "NoName"),true,[],[],false,none,false⟩),#[(some (.ref 52)),none,(some (hs "NoName" 239)),(some (hs "NoName" 247)),(some (.builtin "ValueError.__new__")),(some (.bool true))]⟩) ::
 (nat_lit 87,⟨(.type "type"),none,(.cls ⟨(.ofString "BadText"),[(.ref 24)],[(.ref 87),(.ref 24),(.type "ValueError"),(.type "Exception"),(.type "BaseException"),(.type "object")],86,(.ofString "BadText"),true,[],[],false,none,false⟩),#[(some (.ref 71)),none,(some (hs "BadText" 264)),(some (hs "BadText" 272)),(some (.builtin "ValueError.__new__")),(some (.bool true))]⟩) ::
 (nat_lit 102,hc "__init__" 301 "NoForm.__init__" 302 303 18 2 3 97 true 181 98 99 100 101 306 18 307) ::
 (nat_lit 103,hf "__init__" "NoForm.__init__" (inClass (top 6) 0) (hs "oddlong.errors" 187) 102) ::
 (nat_lit 105,⟨(.type "dict"),none,(.dict #[hy P "__module__" 296 (hs "oddlong.errors" 187),hy P "__firstlineno__" 300 (.int 16 299),hy P "__init__" 308 (.ref 103),hy P "__static_attributes__" 310 (.ref 104),hy P "__doc__" 311 .none] 2),#[]⟩) ::
 (nat_lit 106,⟨(.type "type"),none,(.cls ⟨(.ofString "NoForm"),[(.ref 24)],[(.ref 106),(.ref 24),(.type "ValueError"),(.type "Exception"),(.type "BaseException"),(.type "object")],105,(.ofString "NoForm"),true,[],[],false,none,false⟩),#[(some (.ref 90)),none,(some (hs "NoForm" 289)),(some (hs "NoForm" 297)),(some (.builtin "ValueError.__new__")),(some (.bool true))]⟩) ::
 (nat_lit 121,hc "__init__" 326 "TooFar.__init__" 327 328 22 2 3 116 true 181 117 118 119 120 331 22 332) ::
 (nat_lit 122,hf "__init__" "TooFar.__init__" (inClass (top 7) 0) (hs "oddlong.errors" 187) 121) ::
 (nat_lit 124,⟨(.type "dict"),none,(.dict #[hy P "__module__" 321 (hs "oddlong.errors" 187),hy P "__firstlineno__" 325 (.int 20 324),hy P "__init__" 333 (.ref 122),hy P "__static_attributes__" 335 (.ref 123),hy P "__doc__" 336 .none] 2),#[]⟩) ::
 (nat_lit 125,⟨(.type "type"),none,(.cls ⟨(.ofString "TooFar"),[(.ref 24)],[(.ref 125),(.ref 24),(.type "ValueError"),(.type "Exception"),(.type "BaseException"),(.type "object")],124,(.ofString "TooFar"),true,[],[],false,none,false⟩),#[(some (.ref 109)),none,(some (hs "TooFar" 314)),(some (hs "TooFar" 322)),(some (.builtin "ValueError.__new__")),(some (.bool true))]⟩) ::
 (nat_lit 144,⟨(.type "type"),none,(.cls ⟨(.ofString "NoTarget"),[(.ref 24)],[(.ref 144),(.ref 24),(.type "ValueError"),(.type "Exception"),(.type "BaseException"),(.type "object")],143,(.ofString "NoTarget"),true,[],[],false,none,false⟩),#[(some (.ref 128)),none,(some (hs "NoTarget" 339)),(some (hs "NoTarget" 347)),(some (.builtin "ValueError.__new__")),(some (.bool true))]⟩) ::
 (nat_lit 163,⟨(.type "type"),none,(.cls ⟨(.ofString "BadRow"),[(.ref 24)],[(.ref 163),(.ref 24),(.type "ValueError"),(.type "Exception"),(.type "BaseException"),(.type "object")],162,(.ofString "BadRow"),true,[],[],false,none,false⟩),#[(some (.ref 147)),none,(some (hs "BadRow" 364)),(some (hs "BadRow" 372)),(some (.builtin "ValueError.__new__")),(some (.bool true))]⟩) ::
 (nat_lit 166,ht #[(hs "a" 397),(hs "b" 398),(hs "c" 399),(hs "d" 400)]) ::
 (nat_lit 167,ht #[(hs "none" 402),(hs "one" 403),(hs "two" 404),(hs "three" 405),(hs "four" 406),(hs "five" 407),(hs "six" 408),(hs "seven" 409),(hs "eight" 410)]) ::
 (nat_lit 168,ht #[(hs "jump" 412),(hs "zero" 413)]) ::
 (nat_lit 169,⟨(.type "dict"),none,(.dict #[hy P "set" 415 (.ref 170),hy P "add" 418 (.ref 171),hy P "take" 421 (.ref 172),hy P "tell" 424 (.ref 173),hy P "ask" 426 (.ref 174),hy P "jump" 428 (.ref 175),hy P "zero" 430 (.ref 176),hy P "stop" 433 (.ref 177),hy P "farjump" 434 (.ref 178),hy P "farzero" 436 (.ref 179),hy P "skip" 439 (.ref 180)] 11),#[]⟩) ::
 (nat_lit 170,ht #[(hs "spot" 416),(hs "number" 417)]) ::
 (nat_lit 171,ht #[(hs "spot" 419),(hs "spot" 420)]) ::
 (nat_lit 172,ht #[(hs "spot" 422),(hs "spot" 423)]) ::
 (nat_lit 173,ht #[(hs "spot" 425)]) ::
 (nat_lit 174,ht #[(hs "spot" 427)]) ::
 (nat_lit 175,ht #[(hs "near" 429)]) ::
 (nat_lit 176,ht #[(hs "spot" 431),(hs "near" 432)]) ::
 (nat_lit 177,ht #[]) ::
 (nat_lit 178,ht #[(hs "far" 435)]) ::
 (nat_lit 179,ht #[(hs "spot" 437),(hs "far" 438)]) ::
 (nat_lit 180,ht #[(hs "many" 440)]) ::
 (nat_lit 186,hc "made_of" 453 "made_of" 454 455 40 2 3 181 true 181 182 183 184 185 458 40 459) ::
 (nat_lit 187,hf "made_of" "made_of" (top 18) (hs "oddlong.shared" 389) 186) ::
 (nat_lit 193,hc "is_name" 461 "is_name" 462 463 42 1 3 188 true 181 189 190 191 192 465 42 466) ::
 (nat_lit 194,hf "is_name" "is_name" (top 19) (hs "oddlong.shared" 389) 193) ::
 (nat_lit 200,hc "is_code" 468 "is_code" 469 470 44 1 3 195 true 181 196 197 198 199 472 44 473) ::
 (nat_lit 201,hf "is_code" "is_code" (top 20) (hs "oddlong.shared" 389) 200) ::
 (nat_lit 207,hc "two_to" 475 "two_to" 476 477 46 1 3 202 true 181 203 204 205 206 481 46 482) ::
 (nat_lit 208,hf "two_to" "two_to" (top 21) (hs "oddlong.shared" 389) 207) ::
 (nat_lit 214,hc "figures_of" 484 "figures_of" 485 486 51 2 3 209 true 181 210 211 212 213 491 51 492) ::
 (nat_lit 215,hf "figures_of" "figures_of" (top 22) (hs "oddlong.shared" 389) 214) ::
 (nat_lit 221,hc "number_of" 494 "number_of" 495 496 57 1 3 216 true 181 217 218 219 220 500 57 501) ::
 (nat_lit 222,hf "number_of" "number_of" (top 23) (hs "oddlong.shared" 389) 221) ::
 (nat_lit 228,hc "rest_of" 503 "rest_of" 504 505 62 2 3 223 true 181 224 225 226 227 508 62 509) ::
 (nat_lit 229,hf "rest_of" "rest_of" (top 24) (hs "oddlong.shared" 389) 228) ::
 (nat_lit 235,hc "is_number" 511 "is_number" 512 513 68 1 3 230 true 181 231 232 233 234 515 68 516) ::
 (nat_lit 236,hf "is_number" "is_number" (top 25) (hs "oddlong.shared" 389) 235) ::
 (nat_lit 240,⟨(.type "code"),none,(.fields #[(hs "lookup_of" 520),(hs "lookup_of" 521),(hs "/claim/cut.py" 522),(.int 71 0),(.int 1 0),(.int 0 0),(.int 0 0),(.int 3 0),(.ref 237),(.bool true),(.int 181 0),(.ref 238),.none,.none,.none,(.ref 239),(.int 523 0),(.int 71 0),(hs "/claim/cut.py" 524)]),#[]⟩) ::
 (nat_lit 241,hf "lookup_of" "lookup_of" (top 27) (hs "oddlong.texts" 518) 240) ::
 (nat_lit 247,hc "code_at" 526 "code_at" 527 528 73 4 3 242 true 181 243 244 245 246 535 73 536) ::
 (nat_lit 248,hf "code_at" "code_at" (top 28) (hs "oddlong.texts" 518) 247) ::
 (nat_lit 254,hc "put_bare" 542 "put_bare" 543 544 81 2 3 249 true 181 250 251 252 253 550 81 551) ::
 (nat_lit 255,hf "put_bare" "put_bare" (top 31) (hs "oddlong.bare" 538) 254) ::
 (nat_lit 261,hc "put_part" 553 "put_part" 554 555 86 3 3 256 true 181 257 258 259 260 560 86 561) ::
 (nat_lit 262,hf "put_part" "put_part" (top 32) (hs "oddlong.bare" 538) 261) ::
 (nat_lit 268,hc "put_distance" 563 "put_distance" 564 565 95 2 3 263 true 181 264 265 266 267 568 95 569) ::
 (nat_lit 269,hf "put_distance" "put_distance" (top 33) (hs "oddlong.bare" 538) 268) ::
 (nat_lit 275,hc "is_reached" 571 "is_reached" 572 573 101 2 3 270 true 181 271 272 273 274 577 101 578) ::
 (nat_lit 276,hf "is_reached" "is_reached" (top 34) (hs "oddlong.bare" 538) 275) ::
 (nat_lit 282,hc "bare_at" 580 "bare_at" 581 582 104 3 3 277 true 181 278 279 280 281 588 104 589) ::
 (nat_lit 283,hf "bare_at" "bare_at" (top 35) (hs "oddlong.bare" 538) 282) ::
 (nat_lit 296,hc "__init__" 603 "Reader.__init__" 604 605 111 2 3 291 true 181 292 293 294 295 608 111 609) ::
 (nat_lit 297,hf "__init__" "Reader.__init__" (inClass (top 36) 0) (hs "oddlong.bare" 538) 296) ::
 (nat_lit 303,hc "bare_from" 611 "Reader.bare_from" 612 613 118 3 3 298 true 181 299 300 301 302 622 118 623) ::
 (nat_lit 304,hf "bare_from" "Reader.bare_from" (inClass (top 36) 1) (hs "oddlong.bare" 538) 303) ::
 (nat_lit 310,hc "part_from" 625 "Reader.part_from" 626 627 130 4 3 305 true 181 306 307 308 309 632 130 633) ::
 (nat_lit 311,hf "part_from" "Reader.part_from" (inClass (top 36) 2) (hs "oddlong.bare" 538) 310) ::
 (nat_lit 317,hc "number_from" 635 "Reader.number_from" 636 637 139 3 3 312 true 181 313 314 315 316 644 139 645) ::
 (nat_lit 318,hf "number_from" "Reader.number_from" (inClass (top 36) 3) (hs "oddlong.bare" 538) 317) ::
 (nat_lit 320,⟨(.type "dict"),none,(.dict #[hy P "__module__" 598 (hs "oddlong.bare" 538),hy P "__firstlineno__" 602 (.int 109 601),hy P "__init__" 610 (.ref 297),hy P "bare_from" 624 (.ref 304),hy P "part_from" 634 (.ref 311),hy P "number_from" 646 (.ref 318),hy P "__static_attributes__" 652 (.ref 319),hy P "__dict__" 654 (.ref 322),hy P "__weakref__" 656 (.ref 323),hy P "__doc__" 657 .none] 4),#[]⟩) ::
 (nat_lit 321,⟨(.type "type"),none,(.cls ⟨(.ofString "Reader"),[(.type "object")],[(.ref 321),(.type "object")],320,(.ofString "Reader"),true,[],[],false,none,false⟩),#[none,none,(some (hs "Reader" 591)),(some (hs "Reader" 599)),(some (.builtin "object.__new__")),(some (.bool true))]⟩) ::
 (nat_lit 331,hc "name_from" 660 "name_from" 661 662 147 3 3 326 true 181 327 328 329 330 669 147 670) ::
 (nat_lit 332,hf "name_from" "name_from" (top 37) (hs "oddlong.bare" 538) 331) ::
 (nat_lit 338,hc "figures_from" 672 "figures_from" 673 674 153 4 3 333 true 181 334 335 336 337 680 153 681) ::
 (nat_lit 339,hf "figures_from" "figures_from" (top 38) (hs "oddlong.bare" 538) 338) ::
 (nat_lit 345,hc "many_from" 683 "many_from" 684 685 158 2 3 340 true 181 341 342 343 344 690 158 691) ::
 (nat_lit 346,hf "many_from" "many_from" (top 39) (hs "oddlong.bare" 538) 345) ::
 (nat_lit 352,hc "distance_from" 693 "distance_from" 694 695 163 3 3 347 true 181 348 349 350 351 701 163 702) ::
 (nat_lit 353,hf "distance_from" "distance_from" (top 40) (hs "oddlong.bare" 538) 352) ::
 (nat_lit 357,⟨(.type "code"),none,(.fields #[(hs "is_book" 706),(hs "is_book" 707),(hs "/claim/cut.py" 708),(.int 171 0),(.int 1 0),(.int 0 0),(.int 0 0),(.int 3 0),(.ref 354),(.bool true),(.int 181 0),(.ref 355),.none,.none,.none,(.ref 356),(.int 709 0),(.int 171 0),(hs "/claim/cut.py" 710)]),#[]⟩) ::
 (nat_lit 358,hf "is_book" "is_book" (top 42) (hs "oddlong.books" 704) 357) ::
 (nat_lit 364,hc "is_entry" 712 "is_entry" 713 714 177 1 3 359 true 181 360 361 362 363 716 177 717) ::
 (nat_lit 365,hf "is_entry" "is_entry" (top 43) (hs "oddlong.books" 704) 364) ::
 (nat_lit 371,hc "free" 719 "free" 720 721 179 1 3 366 true 181 367 368 369 370 723 179 724) ::
 (nat_lit 372,hf "free" "free" (top 44) (hs "oddlong.books" 704) 371) ::
 (nat_lit 378,hc "clash" 726 "clash" 727 728 181 1 3 373 true 181 374 375 376 377 735 181 736) ::
 (nat_lit 379,hf "clash" "clash" (top 45) (hs "oddlong.books" 704) 378) ::
 (nat_lit 392,hc "__init__" 758 "Form.__init__" 759 760 193 6 3 387 true 181 388 389 390 391 768 193 769) ::
 (nat_lit 393,hf "__init__" "Form.__init__" (inClass (top 50) 0) (hs "oddlong.forms" 738) 392) ::
 (nat_lit 395,⟨(.type "dict"),none,(.dict #[hy P "__module__" 753 (hs "oddlong.forms" 738),hy P "__firstlineno__" 757 (.int 191 756),hy P "__init__" 770 (.ref 393),hy P "__static_attributes__" 776 (.ref 394),hy P "__dict__" 778 (.ref 397),hy P "__weakref__" 780 (.ref 398),hy P "__doc__" 781 .none] 4),#[]⟩) ::
 (nat_lit 396,⟨(.type "type"),none,(.cls ⟨(.ofString "Form"),[(.type "object")],[(.ref 396),(.type "object")],395,(.ofString "Form"),true,[],[],false,none,false⟩),#[none,none,(some (hs "Form" 746)),(some (hs "Form" 754)),(some (.builtin "object.__new__")),(some (.bool true))]⟩) ::
 (nat_lit 406,hc "first_wrong" 784 "first_wrong" 785 786 202 5 3 401 true 181 402 403 404 405 792 202 793) ::
 (nat_lit 407,hf "first_wrong" "first_wrong" (top 51) (hs "oddlong.forms" 738) 406) ::
 (nat_lit 411,⟨(.type "code"),none,(.fields #[(hs "is_free_book_of" 795),(hs "is_free_book_of" 796),(hs "/claim/cut.py" 797),(.int 214 0),(.int 2 0),(.int 0 0),(.int 0 0),(.int 3 0),(.ref 408),(.bool true),(.int 181 0),(.ref 409),.none,.none,.none,(.ref 410),(.int 798 0),(.int 214 0),(hs "/claim/cut.py" 799)]),#[]⟩) ::
 (nat_lit 412,hf "is_free_book_of" "is_free_book_of" (top 52) (hs "oddlong.forms" 738) 411) ::
 (nat_lit 416,⟨(.type "code"),none,(.fields #[(hs "far_is_shorter" 801),(hs "far_is_shorter" 802),(hs "/claim/cut.py" 803),(.int 219 0),(.int 3 0),(.int 0 0),(.int 0 0),(.int 3 0),(.ref 413),(.bool true),(.int 181 0),(.ref 414),.none,.none,.none,(.ref 415),(.int 804 0),(.int 219 0),(hs "/claim/cut.py" 805)]),#[]⟩) ::
 (nat_lit 417,hf "far_is_shorter" "far_is_shorter" (top 53) (hs "oddlong.forms" 738) 416) ::
 (nat_lit 423,hc "_law_begin" 809 "_law_begin" 810 811 223 1 3 418 true 181 419 420 421 422 814 223 815) ::
 (nat_lit 424,hf "_law_begin" "_law_begin" (top 55) (hs "law_oddlong_k33_distances_at_bounds" 807) 423) ::
 (nat_lit 430,hc "_law_take" 817 "_law_take" 818 819 228 2 3 425 true 181 426 427 428 429 828 228 829) ::
 (nat_lit 431,hf "_law_take" "_law_take" (top 56) (hs "law_oddlong_k33_distances_at_bounds" 807) 430) ::
 (nat_lit 435,⟨(.type "code"),none,(.fields #[(hs "_law_same" 831),(hs "_law_same" 832),(hs "/claim/cut.py" 833),(.int 240 0),(.int 2 0),(.int 0 0),(.int 0 0),(.int 3 0),(.ref 432),(.bool true),(.int 181 0),(.ref 433),.none,.none,.none,(.ref 434),(.int 834 0),(.int 240 0),(hs "/claim/cut.py" 835)]),#[]⟩) ::
 (nat_lit 436,hf "_law_same" "_law_same" (top 57) (hs "law_oddlong_k33_distances_at_bounds" 807) 435) ::
 (nat_lit 442,hc "_law_mixed" 837 "_law_mixed" 838 839 254 2 3 437 true 181 438 439 440 441 844 254 845) ::
 (nat_lit 443,hf "_law_mixed" "_law_mixed" (top 58) (hs "law_oddlong_k33_distances_at_bounds" 807) 442) ::
 (nat_lit 447,⟨(.type "code"),none,(.fields #[(hs "_law_codes" 847),(hs "_law_codes" 848),(hs "/claim/cut.py" 849),(.int 260 0),(.int 3 0),(.int 0 0),(.int 0 0),(.int 3 0),(.ref 444),(.bool true),(.int 181 0),(.ref 445),.none,.none,.none,(.ref 446),(.int 850 0),(.int 260 0),(hs "/claim/cut.py" 851)]),#[]⟩) ::
 (nat_lit 448,hf "_law_codes" "_law_codes" (top 59) (hs "law_oddlong_k33_distances_at_bounds" 807) 447) ::
 (nat_lit 454,hc "_law_kinds" 853 "_law_kinds" 854 855 270 0 3 449 true 181 450 451 452 453 856 270 857) ::
 (nat_lit 455,hf "_law_kinds" "_law_kinds" (top 60) (hs "law_oddlong_k33_distances_at_bounds" 807) 454) ::
 (nat_lit 461,hc "_law_sizes" 859 "_law_sizes" 860 861 272 0 3 456 true 181 457 458 459 460 862 272 863) ::
 (nat_lit 462,hf "_law_sizes" "_law_sizes" (top 61) (hs "law_oddlong_k33_distances_at_bounds" 807) 461) ::
 (nat_lit 468,hc "_law_parts" 865 "_law_parts" 866 867 274 1 3 463 true 181 464 465 466 467 877 274 878) ::
 (nat_lit 469,hf "_law_parts" "_law_parts" (top 62) (hs "law_oddlong_k33_distances_at_bounds" 807) 468) ::
 (nat_lit 475,hc "_law_form" 880 "_law_form" 881 882 286 1 3 470 true 181 471 472 473 474 884 286 885) ::
 (nat_lit 476,hf "_law_form" "_law_form" (top 63) (hs "law_oddlong_k33_distances_at_bounds" 807) 475) ::
 (nat_lit 482,hc "_law_figures" 887 "_law_figures" 888 889 288 2 3 477 true 181 478 479 480 481 894 288 895) ::
 (nat_lit 483,hf "_law_figures" "_law_figures" (top 64) (hs "law_oddlong_k33_distances_at_bounds" 807) 482) ::
 (nat_lit 489,hc "_law_power" 897 "_law_power" 898 899 294 1 3 484 true 181 485 486 487 488 903 294 904) ::
 (nat_lit 490,hf "_law_power" "_law_power" (top 65) (hs "law_oddlong_k33_distances_at_bounds" 807) 489) ::
 (nat_lit 496,hc "_law_far_word" 906 "_law_far_word" 907 908 299 1 3 491 true 181 492 493 494 495 910 299 911) ::
 (nat_lit 497,hf "_law_far_word" "_law_far_word" (top 66) (hs "law_oddlong_k33_distances_at_bounds" 807) 496) ::
 (nat_lit 501,⟨(.type "code"),none,(.fields #[(hs "_law_put" 913),(hs "_law_put" 914),(hs "/claim/cut.py" 915),(.int 301 0),(.int 2 0),(.int 0 0),(.int 0 0),(.int 3 0),(.ref 498),(.bool true),(.int 181 0),(.ref 499),.none,.none,.none,(.ref 500),(.int 916 0),(.int 301 0),(hs "/claim/cut.py" 917)]),#[]⟩) ::
 (nat_lit 502,hf "_law_put" "_law_put" (top 67) (hs "law_oddlong_k33_distances_at_bounds" 807) 501) ::
 (nat_lit 508,hc "_law_class" 919 "_law_class" 920 921 320 1 3 503 true 181 504 505 506 507 925 320 926) ::
 (nat_lit 509,hf "_law_class" "_law_class" (top 68) (hs "law_oddlong_k33_distances_at_bounds" 807) 508) ::
 (nat_lit 515,hc "_law_told" 928 "_law_told" 929 930 332 2 3 510 true 181 511 512 513 514 936 332 937) ::
 (nat_lit 516,hf "_law_told" "_law_told" (top 69) (hs "law_oddlong_k33_distances_at_bounds" 807) 515) ::
 (nat_lit 520,⟨(.type "code"),none,(.fields #[(hs "_law_distances" 939),(hs "_law_distances" 940),(hs "/claim/cut.py" 941),(.int 339 0),(.int 2 0),(.int 0 0),(.int 0 0),(.int 3 0),(.ref 517),(.bool true),(.int 181 0),(.ref 518),.none,.none,.none,(.ref 519),(.int 942 0),(.int 339 0),(hs "/claim/cut.py" 943)]),#[]⟩) ::
 (nat_lit 521,hf "_law_distances" "_law_distances" (top 70) (hs "law_oddlong_k33_distances_at_bounds" 807) 520) ::
 (nat_lit 527,hc "law" 945 "law" 946 947 347 1 3 522 true 181 523 524 525 526 960 347 961) ::
 (nat_lit 528,hf "law" "law" (top 71) (hs "law_oddlong_k33_distances_at_bounds" 807) 527)::[]
def khA:List Gc:=3::23::24::37::49::68::87::102::103::105::106::121::122::124::125::144::163::166::167::168::169::170::171::172::173::174::175::176::177::178::179::180::186::187::193::194::200::201::207::208::214::215::221::222::228::229::235::236::240::241::247::248::254::255::261::262::268::269::275::276::282::283::296::297::303::304::310::311::317::318::320::321::331::332::338::339::345::346::352::353::357::358::364::365::371::372::378::379::392::393::395::396::406::407::411::412::416::417::423::424::430::431::435::436::442::443::447::448::454::455::461::462::468::469::475::476::482::483::489::490::496::497::501::502::508::509::515::516::520::521::527::528::[]
def EJ:Qaf:=view Qbe [1,2,3,4,5,6,7,8,9,11,12,13,14,15,16,17,18,19,20,21,22,23,24,25,27,28,30,31,32,33,34,35,36,37,38,39,40,42,43,44,45,47,48,49,50,51,52,53,55,56,57,58,59,60,61,62,63,64,65,66,67,68,69,70,71]
def N8:List Str:=[.ofString "PARTS"]
def OI:∀P,khA=(Xe P).map (·.1):=fun _=>by kernel_rfl
abbrev MS:Hook:=kHook Xe khA OI
abbrev khX:KE->Bool:=fun s=>xlAt EJ [] s&&recOk (RowW.records (QeD (Qek Qaq))) s
def LC {p q:Qaf}{loose:List Str}{Xt:KE->Bool}{α:Type}{Yf:KE -> α}{Ya:Qah -> α}{N:Nat}{g0:Bool}(e:opening p=plainProg p.main.scope.names)(hN:Nat.ble 600 N=true)(f:∀s,fenceModules? p s=some s)
  (h:∀w:Qah,(fun os=>(Qdt treeTable p w N ⟨boot_heap w.params,Array.mk [],boot_drawn,boot_toks,os⟩).map fun s=>(openSeen q loose (importedModules p.main.body) Xt g0 s,Yf s))=fun _=>some (openGood q loose,Ya w)):LeftO p q loose Xt Yf Ya N g0:=fun w=>by
 obtain⟨⟨hp,gs,d,k,os⟩,e1,e2⟩:=Option.map_eq_some_iff.mp (boot_open e hN f w);obtain⟨rfl,rfl,rfl,rfl⟩:hp=boot_heap w.params/\gs=Array.mk []/\d=boot_drawn/\k=boot_toks:=by simpa using e2
 unfold openEnds;rw[e1];exact congrFun (h w) os
def Kz:OpenLaw.wellSaid Qaq=true:=by
 rw[PySem.W.Fast.te9446332074065402090]
 kernel_rfl
abbrev Cy (w:Qah)(os:OsState):Option KE:=Qdt treeTable Qbe w 8794 ⟨boot_heap w.params,Array.mk [],boot_drawn,boot_toks,os⟩
abbrev xh (s:KE):=openSeen EJ N8 (importedModules PySem.Challenge.pw_oddlong_k33_distances_at_bounds.main.body) khX true s
abbrev E3 (w:Qah):Prop:=(fun os=>(Cy (w) os).map fun s=>((xh s).1,(xh s).2.1,(xh s).2.2.2.2.2.2.1,(xh s).2.2.2.2.2.2.2.2))=fun _=>some (expectedOf EJ,bltViewBooted,plainGoodD EJ N8,clsGoodW EJ N8)
def Fi (w:Qah):E3 (w.withFollow "special-get-raises" false):=by
 unfold E3 Cy xh Qdt;rw[Qas,Qar,Qaw]
 kernel_rfl
def Gy (w:Qah):E3 (w.withFollow "special-get-raises" true):=by
 unfold E3 Cy xh Qdt;rw[Qas,Qar,Qaw]
 kernel_rfl
def Tx (w:Qah):E3 w:=byRow2 "special-get-raises" (P:=E3) Fi Gy w
abbrev Ds (w:Qah):Prop:=(fun os=>(Cy (w) os).map fun s=>((xh s).2.2.1,(xh s).2.2.2.1))=fun _=>some (true,true)
def Ey (w:Qah):Ds (w.withFollow "special-get-raises" false):=by
 unfold Ds Cy xh Qdt;rw[Qas,Qar,Qaw]
 kernel_rfl
def IA (w:Qah):Ds (w.withFollow "special-get-raises" true):=by
 unfold Ds Cy xh Qdt;rw[Qas,Qar,Qaw]
 kernel_rfl
def Q2 (w:Qah):Ds w:=byRow2 "special-get-raises" (P:=Ds) Ey IA w
abbrev Ep (w:Qah):Prop:=(fun os=>(Cy (w) os).map fun s=>((xh s).2.2.2.2.1,(xh s).2.2.2.2.2.1))=fun _=>some (pinGoodD (drecsOf EJ),plainGoodE EJ (looseW EJ N8))
def DZ (w:Qah):Ep (w.withFollow "special-get-raises" false):=by
 unfold Ep Cy xh Qdt;rw[Qas,Qar,Qaw]
 kernel_rfl
def GF (w:Qah):Ep (w.withFollow "special-get-raises" true):=by
 unfold Ep Cy xh Qdt;rw[Qas,Qar,Qaw]
 kernel_rfl
def Rq (w:Qah):Ep w:=byRow2 "special-get-raises" (P:=Ep) DZ GF w
abbrev Ez (w:Qah):Prop:=(fun os=>(Cy (w) os).map fun s=>((xh s).2.2.2.2.2.2.2.1,Hook.obs MS s))=fun _=>some (wideGood EJ,Hook.val MS (w))
def Dg (w:Qah):Ez (w.withFollow "special-get-raises" false):=by
 unfold Ez Cy xh Qdt;rw[Qas,Qar,Qaw]
 kernel_rfl
def Hy (w:Qah):Ez (w.withFollow "special-get-raises" true):=by
 unfold Ez Cy xh Qdt;rw[Qas,Qar,Qaw]
 kernel_rfl
def SD (w:Qah):Ez w:=byRow2 "special-get-raises" (P:=Ez) Dg Hy w
def Pn {S A1 A2 A3 A4 A5 A6 A7 A8 A9 B:Type}{x:Option S}{f:S->A1×A2×A3×A4×A5×A6×A7×A8×A9}{o:S->B}{c1:A1}{c2:A2}{c3:A3}{c4:A4}{c5:A5}{c6:A6}{c7:A7}{c8:A8}{c9:A9}{b:B}
  (h:∀s,x=some s->(f s,o s)=((c1,c2,c3,c4,c5,c6,c7,c8,c9),b)) (h0:x=none->False):x.map (fun s=>(f s,o s))=some ((c1,c2,c3,c4,c5,c6,c7,c8,c9),b):=by
 cases x with
 | none=>exact(h0 rfl).elim
 | some s=>exact congrArg some (h s rfl)
def OA (w:Qah):(fun os=>(Cy w os).map fun s=>(xh s,Hook.obs MS s))=fun _=>some (openGood EJ N8,Hook.val MS w):=by
 funext os
 have e0:=congrFun (Tx w) os;have e1:=congrFun (Q2 w) os;have e2:=congrFun (Rq w) os;have e3:=congrFun (SD w) os;refine Pn (fun s hs =>?_) fun hs =>?_
 ·generalize Cy w os=x at hs e0 e1 e2 e3;subst hs;replace e0:=Qap e0;replace e1:=Qap e1;replace e2:=Qap e2;replace e3:=Qap e3;refine QcC ?_ (QaU e3).2;exact QcC ((QaU e0).1) (QcC ((QaU (QaU e0).2).1) (QcC ((QaU e1).1) (QcC ((QaU e1).2) (QcC ((QaU e2).1) (QcC ((QaU e2).2) (QcC ((QaU (QaU (QaU e0).2).2).1) (QcC ((QaU e3).1) ((QaU (QaU (QaU e0).2).2).2))))))))
 ·rw[hs] at e0;cases e0
def KJ:LeftO Qbe EJ N8 khX (Hook.obs MS) (Hook.val MS) 8794 true:=LC rfl rfl (fun _=>rfl) OA
def khD:DefRec:=⟨.ofString "law",cJ (top hV),bZ (top hV),ak (top hV),QE (top hV)⟩
def Mc (hw:RowW.promised (QeD (Qek Qaq)))(h:WalkO EJ N8 (XL EJ []) (InK Xe) (QeD (Qek Qaq)) khD [] fun f vs=>QeT f vs):OpenLaw.Holds Qaq:=
 holds_law Kz fun sd=>holds_open (r:=Qek Qaq) (d:=khD) (kwd:=[]) KJ (Hook.of MS) (Hook.keeps MS) (fun s e=>xl_of s (Bool.and_eq_true_iff.mp e).1) XL.keeps (by kernel_rfl) (by kernel_rfl) (by kernel_rfl) (fun s e=>recFacts_of (Bool.and_eq_true_iff.mp e).2) rfl sd ∅ ⟨rfl,rfl,rfl,rfl,rfl,∅⟩ hw h
end Z
set_option maxHeartbeats 4000000
namespace L2
open PySem PySem.Spec PyProof.Rows
abbrev nJ:Fk->KE->Prop:=fun _ _=>False
def cI {Q: α->KE->Prop}{E:Fk->KE->Prop}{s:KE}(h:Qac M A t Q nJ s):Qac M A t Q E s:=
 Qbc h (fun _ _ q=>q) fun _ _ z=>z.elim
def cj {a b:Gc}{n:Nat}(h:a<n)(h':n<=b):a≠b:=by grind
def mJ {a b:Gc}{n:Nat}(h:a<n)(h':n<=b):b≠a:=fun e=>cj h h' e.symm
def kT (env:Env):∀(names:List (Str×QcB)) (acc:List (Str×Gc)),
  (∀y∈names,y.2 = .free->∃c,env.cells.lookup y.1=some c)->(∀n c,acc.lookup n=some c->env.cells.lookup n=some c) ->
  ∃cl,(forIn names acc fun x cs=>(if (x.2==Qa1)=true then do
    let a <-cellOf env x.1
    pure (Qc9 ((x.1,a)::cs)) else pure (Qc9 cs):Sem (ForInStep (List (Str×Gc)))))=pure cl /\
   (∀n c,cl.lookup n=some c->env.cells.lookup n=some c)/\(∀n c,acc.lookup n=some c->∃c',cl.lookup n=some c')/\∀y∈names,y.2 = .free->∃c,cl.lookup y.1=some c
 | [],acc,_,h2=>⟨acc,rfl,h2,fun _ c h=>⟨c,h⟩,fun _ h=>nomatch h⟩
 | (n,k)::r,acc,h1,h2=>by
  have hr:=fun y hy=>h1 y (Jl _ hy)
  by_cases hk:k = .free
  ·subst hk;obtain⟨c,hc⟩:=h1 (n,.free) Jo rfl;obtain⟨cl,e,p1,p2,p3⟩:=kT env r ((n,c)::acc) hr (fun m d hm=>by
    rw[Ul] at hm
    by_cases q:m==n
    ·rw[q] at hm;have:m=n:=by simpa using q
     subst this;cases hm;exact hc
    ·have q':(m==n)=false:=by simpa using q
     rw[q'] at hm;exact h2 m d hm)
   refine⟨cl,?_,p1,fun m d hm =>?_,fun y hy hf =>?_⟩
   ·rw[List.forIn_cons];rw[<-e];unfold cellOf;rw[hc]
    rfl
   ·by_cases q:m=n
    ·subst q;exact p2 m c (by rw[Ul];simp)
    ·exact p2 m d (by rw[Ul];simp -iota only [beq_eq_false_iff_ne.mpr q];exact hm)
   ·rcases Jx.mp hy with rfl|hy
    ·exact p2 n c (by rw[Ul];simp)
    ·exact p3 y hy hf
  ·refine aj.el (kT env r acc hr h2) _ ?_;rintro cl e p1 p2 p3;refine⟨cl,?_,p1,p2,fun y hy hf =>?_⟩
   ·rw[List.forIn_cons,<-e];have hb:(k==Qa1)=false:=by simpa using hk
    simp -iota only [hb,if_false]
    rfl
   ·rcases Jx.mp hy with rfl|hy
    ·exact absurd hf hk
    ·exact p3 y hy hf
def lL (h:∀y∈scope.names,y.2 = .free->∃c,env.cells.lookup y.1=some c):
  ∃cl,closureFor scope env=pure cl/\(∀n c,cl.lookup n=some c->env.cells.lookup n=some c)/\∀y∈scope.names,y.2 = .free->∃c,cl.lookup y.1=some c:=by
 obtain⟨cl,e,p1,_,p3⟩:=kT env scope.names [] h (fun n c h=>by simp at h);refine⟨cl,(Eq.trans ?_ (congrArg (fun m=>m >>= fun cs=>(pure cs:Sem _)) e)),p1,p3⟩
 rfl
def pE (ifs:List QaB)(env:Env):Sem Bool:=forIn ifs true fun c r=>if r=true then do let ok <-isTrue c env (QaL c env);pure (Qc9 ok) else pure (Qc9 r)
section
variable {prog:Qaf}{w:Qah}{A:Qax}{R:Qb4->KE->Prop}{s:KE}
def BI {elt target iter:QaB}{ifs:List QaB}{scope:Qb3}{pos:Pos}{it acc:Fk}{env:Env}(I:Nat->KE->Prop)
  (turn:∀n s,I n s->Qac (Qab prog w) A (QbS it) (fun r s1=>match r with
   | none=>R (.ok .next) s1
   | some v=>Qac (Qab prog w) A (QcZ target it v) (fun _ s1'=>Qac (Qab prog w) A (QfQ target env v) (fun _ s2=>
     Qac (Qab prog w) A (pE ifs env) (fun ok s3=>
      if ok=true then Qac (Qab prog w) A (QaL elt env) (fun x s4=>
       Qac (Qab prog w) A (call (.builtin "list.append") [acc,x]) (fun _ s5=>∃m,m<n/\I m s5) nJ s4) nJ s3
      else ∃m,m<n/\I m s3) nJ s2) nJ s1') nJ s1) nJ s)
  (n:Nat) (h:I n s):QaZ (Qab prog w) A (.compLoop (.ListComp elt [⟨target,iter,ifs,0⟩] scope pos) 0 it acc env) R s:=by
 refine codeAny_loop rfl I (fun n s hI=>(show Qac _ A (Sem.onRaise (compTurn (.ListComp elt [⟨target,iter,ifs,0⟩] scope pos) 0 it acc env) (fun x=>do Qc8 x env;Qfw x)) _ _ s from wpAny_noted (be (Qbm (be (cI (bg (turn n s hI) fun r s1 h1 =>?_))))))) n h;cases r with
 | none=>exact tz h1
 | some v=>
  refine be (cI (bg h1 fun _ s1' M7=>be (cI (bg M7 fun _ s2 h2=>be (cI (bg h2 fun ok s3 h3 =>?_))))));cases ok with
  | false=>exact tz ⟨rfl,h3⟩
  | true=>exact be (be (cI (bg h3 fun x s4 h4=>be (cI (bg h4 fun _ s5 h5=>tz (tz ⟨rfl,h5⟩))))))
end
def ji.adopt (x:ji P w H h)(hn:H a=none)(new:bw P w (upd H a o) h a o):ji P w (upd H a o) h:=fun b u e=>by
 by_cases hb:b=a
 ·subst hb;rw[au] at e;cases e;exact new
 ·rw[ao hb] at e;exact(x b u e).gI (fun c v _ q=>q) (fun c q=>by rw[ao (ay q hn)];exact q) fun c xs q=>by rw[ao (ay q hn)];exact q
structure gD (X:Cx)(scope:Qb3)(Nc Fc:List Str)(js:List Nat):Prop where
 kind:scope.kind = .function
 nocell:∀y∈scope.names,y.2 ≠ .cell
 names:∀y∈scope.names,y.2 = .local->scope.names.lookup y.1=some .local
 free:∀y∈scope.names,y.2 = .free->X.env.kindOf y.1=some .cell\/X.env.kindOf y.1=some .free
 frees:∀(k:Nat) (x:Str),Fc[k]? = some x->scope.names.lookup x=some .free/\∃j,js[k]? = some j/\X.N[j]? = some x
 lens:js.length=Fc.length
def eB (σ:St)(js:List Nat):St:=js.map fun j=>(σ[j]?).join
def lQ (X:Cx)(Nc Fc:List Str)(scope:Qb3)(cl:List (Str×Gc))(C:Gc)(s:KE)(H:Hp)(fp:List Gc):Cx:=
 { X with N:=Nc++Fc,s₀:=s,H₀:=H,env:=compEnvC scope cl C X.env,outer:=X.stack,stack:=X.stack,ex:=fp,fn:=fun _=>false,pn:=[],xe:=nJ }
def iJ {env:Env}:∀{names:List (Str×QcB)} {x:Str} {k:QcB},(names.map fun(n,k)=>if (k==Qa1&&env.scope.kind == .function&&env.kindOf n==some .cell) then (n,QcT) else (n,k)).lookup x=some k ->
  names.lookup x=some k\/(k = .cell/\names.lookup x=some .free)
 | [],_,_,h=>by simp at h
 | (n,k0)::r,x,k,h=>by
  rw[J3] at h;dsimp only at h
  by_cases hx:x=n
  ·subst hx
   by_cases hc:(k0==Qa1&&env.scope.kind == .function&&env.kindOf x==some .cell)=true
   ·rw[if_pos hc] at h;simp -iota only [Ul,beq_self_eq_true] at h;have hk:k0 = .free:=by
     have:=(Js _ _).mp ((Js _ _).mp hc).1;simpa using this.1
    subst hk;cases h;exact .inr ⟨rfl,by simp only[Ul,beq_self_eq_true]⟩
   ·rw[if_neg hc] at h;simp -iota only [Ul,beq_self_eq_true] at h ⊢;exact .inl h
  ·have hb:=beq_eq_false_iff_ne.mpr hx;have e:=h;have e2:Wg x (r.map fun(n,k)=>if (k==Qa1&&env.scope.kind == .function&&env.kindOf n==some .cell) then (n,QcT) else (n,k))=some k:=by
    by_cases hc:(k0==Qa1&&env.scope.kind == .function&&env.kindOf n==some .cell)=true
    ·rw[if_pos hc] at e;simp -iota only [Ul,hb] at e;exact e
    ·rw[if_neg hc] at e;simp -iota only [Ul,hb] at e;exact e
   simp -iota only [Ul,hb];exact(@iJ env r x k) e2
def fF {env:Env}:∀{names:List (Str×QcB)} {x:Str},names.lookup x=some .free ->
  (names.map fun(n,k)=>if (k==Qa1&&env.scope.kind == .function&&env.kindOf n==some .cell) then (n,QcT) else (n,k)).lookup x=some .cell \/
  (names.map fun(n,k)=>if (k==Qa1&&env.scope.kind == .function&&env.kindOf n==some .cell) then (n,QcT) else (n,k)).lookup x=some .free
 | [],_,h=>by simp at h
 | (n,k0)::r,x,h=>by
  have ih := @fF env r x;rw[J3];dsimp only
  by_cases hx:x=n
  ·subst hx;simp -iota only [Ul,beq_self_eq_true] at h;cases h
   by_cases hc:(Qa1==Qa1&&env.scope.kind == .function&&env.kindOf x==some .cell)=true
   ·rw[if_pos hc];left;simp only[Ul,beq_self_eq_true]
   ·rw[if_neg hc];right;simp only[Ul,beq_self_eq_true]
  ·have hb:=beq_eq_false_iff_ne.mpr hx;simp -iota only [Ul,hb] at h
   by_cases hc:(k0==Qa1&&env.scope.kind == .function&&env.kindOf n==some .cell)=true
   ·rw[if_pos hc];simp -iota only [Ul,hb];exact ih h
   ·rw[if_neg hc];simp -iota only [Ul,hb];exact ih h
def cF:∀{l:List (Str×QcB)} {x:Str} {k:QcB},l.lookup x=some k->(x,k)∈l:=fun h=>Qbz h
section
variable {X:Cx}{pins:List (Gc×Obj)}{σ:St}{H:Hp}{s:KE}{scope:Qb3}{Nc Fc:List Str}{js:List Nat}{cl:List (Str×Gc)}{C D:Gc}{fp:List Gc}
def xq:(lQ X Nc Fc scope cl C s H fp).env.kindOf x=(scope.names.map fun(n,k)=>if (k==Qa1&&X.env.scope.kind == .function&&X.env.kindOf n==some .cell) then (n,QcT) else (n,k)).lookup x:=rfl
def rT (I:Inv X pins σ H s)(c:gD X scope Nc Fc js)(dU:∀n c,cl.lookup n=some c->X.env.cells.lookup n=some c)(kt:∀y∈scope.names,y.2 = .free->∃c,cl.lookup y.1=some c)
  (hC:s.heap.objs.size<=C) (hf:∀b∈fp,gc X pins H b) (ho:∀b∈fp,∃o,s.heap.get? b=some o):(lQ X Nc Fc scope cl C s H fp).Ok where
 mod:=I.ok.mod
 kind:=c.kind
 glob:=I.ok.glob
 blt:=I.ok.blt
 above:=hC
 inj:=fun x y a h1 h2=>I.ok.inj x y a (dU _ _ h1) (dU _ _ h2)
 has:=fun x hx=>by
  have key:scope.names.lookup x=some .free:=by
   rcases hx with h|h
   ·rcases iJ h with q|⟨_,q⟩
    ·exact absurd rfl (c.nocell _ (cF q))
    ·exact q
   ·rcases iJ h with q|⟨q,_⟩
    ·exact q
    ·cases q
  exact kt _ (cF key) rfl
 cab:=fun _ _ h=>nomatch h
 hd:=I.ok.hd
 frames:=I.ok.frames
 stk := .inl rfl
 exf:=fun b hb=>⟨fun z=>by
   obtain⟨o,e⟩:=ho b hb;exact cj (Jf e) hC z,fun x a e z=>(hf b hb).2.2.2.2.1 x a (dU _ _ e) z⟩
 bs:=fun b o e=>I.bs b o e
 bsz:=Jh I.ok.bsz I.sz
 noex:=fun b o e hb=>by
  rcases(hf b hb).2.2.2.1 with z|z
  ·exact I.ok.noex b o e z
  ·exact absurd (Jt (Jf (I.ok.bs b o e).1) z) (Uh _)
 exfs:=fun b hb z=>by
  rcases Jx.mp (I.vn b z) with q|q
  ·exact(hf b hb).2.1 q
  ·exact(hf b hb).2.2.1 q
 km:=I.stack
 frf:=I.vc
def LQ (I:Inv X pins σ H s)(c:gD X scope Nc Fc js)(dU:∀n c,cl.lookup n=some c->X.env.cells.lookup n=some c)(kt:∀y∈scope.names,y.2 = .free->∃c,cl.lookup y.1=some c)
  (hC:s.heap.objs.size<=C) (hD:s.heap.objs.size<=D) (Qr:D≠C) (hf:∀b∈fp,gc X pins H b) (ho:∀b∈fp,∃o,s.heap.get? b=some o) {h1:Heap} {t1:Nat} {m:Str->Option Fk} {ob:Obj}
  (hk:∀b o,s.heap.get? b=some o->h1.get? b=some o) (hm:h1.Ns C m) (Wn:h1.get? D=some ob) (hnc:∀v,ob.data ≠ .cell v) :
  Inv (lQ X Nc Fc scope cl C s H fp) [(D,ob)] (J0 Nc.length none++eB σ js) H { s with heap:=h1,toks:=t1 }:=by
 refine⟨rT I c dU kt hC hf ho,rfl,I.bare,Un.kept hk,⟨m,hm,fun i x v e1 e2 e3 =>?_⟩,fun x a e =>?_,I.bq.fresh hC,fun x a e=>I.freeC x a (dU x a e),fun p hp =>?_,I.bq.kept hk,?_⟩
 ·have e1:(Nc++Fc)[i]? = some x:=e1
  by_cases hi:i<Nc.length
  ·rw[Uz (by simpa using hi),Ys] at e2
   split at e2<;>cases e2
  ·rw[Ux ⋯] at e1;rw[Ux (by rw[U1];lia),U1] at e2;refine aj.el (c.frees _ _ e1) _ ?_;rintro xu j hj hN;have hv: σ[j]? = some (some v):=by
    unfold eB at e2;rw[Jk,hj] at e2;have e2:some ((σ[j]?).join)=some (some v):=e2;cases q: σ[j]? with
    | none=>rw[q] at e2;cases e2
    | some z=>rw[q] at e2;cases e2;rfl
   have kx:=c.free _ (cF xu) rfl;refine aj.el (I.loc) _ ?_;rintro m0 hn0 hl0;have Zi:Ra X.env.scope x:=by
    rcases kx with k|k
    ·exact .inr (.inl k)
    ·exact .inr (.inr k)
   refine aj.el (hl0 j x v hN hv Zi) _ ?_;rintro u ru lk;refine⟨u,ru,.inr ⟨?_,?_⟩⟩
   ·rw[xq];exact fF xu
   ·obtain⟨a,ha⟩:=kt _ (cF xu) rfl;refine⟨a,ha,?_⟩
    rcases lk with ⟨k,_⟩|⟨_,a',ha',hcell⟩
    ·rcases kx with q|q<;>(rw[k] at q;cases q)
    ·have e:=dU _ _ ha;rw[ha'] at e;cases e;exact hcell.keeps hk
 ·obtain⟨v,z⟩:=I.cell x a (dU x a e);exact⟨v,z.keeps hk⟩
 ·have hp:p=(D,ob):=by
   have:p∈[(D,ob)]:=hp;simpa using this
  subst hp;refine⟨Wn,I.bq.fresh hD,Qr,fun z =>?_,hnc⟩
  rcases Jx.mp (I.vn D z) with q|q
  ·exact mJ I.lt hD q
  ·exact I.Tg hD q
 ·show(J0 Nc.length none++eB σ js).length=(Nc++Fc).length;unfold eB;rw[Jw,Jw,U1,Jc,c.lens]
end
def L6 (X:Cx)(ifs:List QaB)(t:TT):Prop:=
 ∀ ⦃pins:List (Gc×Obj)⦄ (s:KE) (σ:St) (H:Hp) (Q:Bool->Hp->Prop),Inv X pins σ H s->t σ H Q->Qac (Qab X.prog X.w) X.A (pE ifs X.env) (TP X pins σ Q) X.xe s
def RM:TT:=fun _ H Q=>Q true H
def eF:L6 X [] RM:=fun _ _ _ H _ I h=>wpAny_tests_nil ⟨H,I,h⟩
def Mg (h:PT X c t):L6 X [c] t:=fun pins s σ H Q I hw=>wpAny_tests_one (h s σ H Q I hw)
def Ir (J:It)(n:Nat)(js:List Nat)(g:TG)(tc:TT)(te:TE)(σ:St)(H1:Hp)(fin:List V->Hp->Prop):Prop:=
 ∃W:Nat->Nat->List V->Hp->Prop,(∃m,W 0 m [] H1)/\∀i m ys H,W i m ys H ->
  (J.stop i H/\fin ys H) \/
  (J.go i H/\ys.length<Wp/\∀x H',J.yld i H x H'->g x (J0 n none++eB σ js) H' fun σ2 H2=>tc σ2 H2 fun b H3=>
   if b=true then te σ2 H3 fun y H4=>∃m',m'<m/\W (i+1) m' (ys++[y]) H4 else ∃m',m'<m/\W (i+1) m' ys H3)
def MW (wi:TI)(n:Nat)(js:List Nat)(g:TG)(tc:TT)(te:TE):TE:=fun σ H Q=>wi σ H fun J H1=>
 Ir J n js g tc te σ H1 fun ys H2=>∀p,H2 p=none->Q (.ref p) (upd H2 p (.lst ys))
def Gk (n:Nat)(g:TG):Prop:=∀x σ H Q,g x σ H Q->g x σ H fun σ' H'=>Q σ' H'/\(∀j,n<=j -> σ'[j]? = σ[j]?) /\ σ'.length = σ.length
def UR (n:Nat)(g:FR):Prop:=∀x σ H Q,g x σ H Q->g x σ H fun σ' H'=>Q σ' H'/\(∀j,n<=j -> σ'[j]? = σ[j]?) /\ σ'.length = σ.length
def cf {n i:Nat}(h:i<n:=by decide):Gk n (uh i):=fun x σ H Q q=>⟨q,fun j hj=>Yi ⋯,We⟩
def mK:UR n Nl:=fun x σ H Q q=>⟨q.1,q.2,fun _ _=>rfl,rfl⟩
def dP (h1:Gk n t)(h2:UR n u)(mt:∀x σ H Q Q',(∀a b,Q a b->Q' a b)->t x σ H Q->t x σ H Q')(mu:∀x σ H Q Q',(∀a b,Q a b->Q' a b)->u x σ H Q->u x σ H Q'):UR n (Gz t u):=fun x σ H Q q=>by
 obtain⟨v,r,e,q⟩:=q;refine⟨v,r,e,mt _ _ _ _ _ (fun σ1 H1 z=>(aj.el (z) _ ?_)) (h1 _ _ _ _ q)⟩;rintro z k1 l1;exact mu _ _ _ _ _ (fun σ2 H2 ⟨z2,k2,l2⟩=>⟨z2,fun j hj=>(k2 j hj).trans (k1 j hj),l2.trans l1⟩) (h2 _ _ _ _ z)
def pK {K:Ja}{n m:Nat}{t:FR}(h:UR n t):Gk n (NF K m t):=fun x σ H Q q=>by
 obtain⟨a,xs,e,h1,h2,q⟩:=q;exact⟨a,xs,e,h1,h2,h _ _ _ _ q⟩
def tW {elt tg iter:QaB}{ifs:List QaB}{scope:Qb3}{pos:Pos}{Nc Fc:List Str}{js:List Nat}{wi:TI}{g:TG}{tc:TT}{te:TE}{use:Option (Fk->Sem Unit)}{QV:Fk->KE->Prop}
  (fM:X.calm=true) (c:gD X scope Nc Fc js) (hi:PI X tg iter wi)
  (hg:∀cl C s H fp,PG (lQ X Nc Fc scope cl C s H fp) tg g) (FG:∀cl C s H fp,L6 (lQ X Nc Fc scope cl C s H fp) ifs tc) (Lc:∀cl C s H fp,PE (lQ X Nc Fc scope cl C s H fp) elt te) (gk:Gk Nc.length g)
  {pins:List (Gc×Obj)} {s:KE} {σ:St} {H:Hp} {fin:List V->Hp->Prop} (I:Inv X pins σ H s)
  (h:wi σ H fun J H1=>Ir J Nc.length js g tc te σ H1 fin)
  (behind:∀C D m ys H2 s2,Inv X pins σ (upd H2 D (.lst ys)) s2->s2.heap.Ns C m->gc X pins (upd H2 D (.lst ys)) C->H2 D=none->fin ys H2->QeQ (Qab X.prog X.w) X.A X.xe use QV (.ref D) C (.ok .next) s2)
  (hs:∀x,Qbi iter X.env x=pure x) :
  Qac (Qab X.prog X.w) X.A (comprehension (.ListComp elt [⟨tg,iter,ifs,0⟩] scope pos) scope X.env (firstIterPos [⟨tg,iter,ifs,0⟩] pos) (newList []) false (QaL iter X.env) use) QV X.xe s:=by
 obtain⟨cl,hclos,dU,kt⟩:=lL fun y hy hf=>I.ok.has y.1 (c.free y hy hf);refine Qdz rfl hs hclos c.kind c.names (bg (hi s σ H _ I h) fun v s1 h1=>bg h1 fun RH s2 h2 =>?_);obtain⟨it,fp,tn,J,H2,e,I2,T,kr,f2,W,⟨m0,w0⟩,turn⟩:=h2;subst e;refine QaQ (Qec c.nocell (by intro y hy;simp at hy) (fun h1 hns1 hsb1 =>?_) c.kind);generalize hG:s2.heap.push { cls := .type "list",dict:=none,data := .seq ([]:List Fk).toArray } = G at hns1 hsb1 ⊢;have hC:G.objs.size=s2.heap.objs.size+1:=by rw[<-hG,Ue]
 have Qr:s2.heap.objs.size≠G.objs.size:=by rw[hC];exact Jm (Wj _)
 have hle:s2.heap.objs.size<=G.objs.size:=by rw[hC];exact Yx _
 have old:=fun b o e=>
  hsb1.extBut b o (cj (Jf e) hle) (Jb _ (hG▸Jb _ e))
 have hR:h1.PlainList s2.heap.objs.size #[]:=⟨_,hsb1.extBut _ _ Qr (Jb _ (hG▸Ji _ rfl))⟩
 obtain⟨n0,hR⟩:=hR;have fo:∀b∈fp,∃o,s2.heap.get? b=some o:=fun b hb=>let ⟨o,e,_⟩:=T.obj 0 _ kr b hb; ⟨o,e⟩;have sM:=fun b hb=>let ⟨o,e⟩:=fo b hb;Jf e
 let Xc:Cx:=lQ X Nc Fc scope cl G.objs.size s2 H2 fp
 let D:Gc:=s2.heap.objs.size
 have lr:∀{pl:List (Gc×Obj)} {H':Hp},(∀p∈pl,p.1=D)->(∀b∈fp,H' b=none)->∀b∈fp,gc Xc pl H' b:=fun{pl H'} hp hn b hb=>by
  refine⟨hn b hb,?_,?_,.inl hb,fun x a e =>?_,fun p hq =>?_⟩
  ·exact cj (sM b hb) hle
  ·exact(rT I2 c dU kt hle f2 fo).exfs b hb
  ·exact(f2 b hb).2.2.2.2.1 x a (dU _ _ e)
  ·have q:p∈([]:List (Gc×Obj))++pl:=hq;rw[hp p (by simpa using q)];exact mJ (sM b hb) (Je _)
 have loop:∀t1,QaZ (Qab X.prog X.w) X.A (.compLoop (.ListComp elt [⟨tg,iter,ifs,0⟩] scope pos) 0 (.ref it) (.ref s2.heap.objs.size) (compEnvC scope cl G.objs.size X.env))
   (QeQ (Qab X.prog X.w) X.A X.xe use QV (.ref s2.heap.objs.size) G.objs.size) { s2 with heap:=h1,toks:=t1 }:=by
  refine fun t1=>BI (fun n s'=>∃i ys H' aw k,Inv Xc [(D,{ cls := .type "list",data := .seq aw k })] (J0 Nc.length none++eB σ js) H' s'/\Vals ys aw.toList/\ys.length<=Wp/\tn i s'.heap/\(∀b∈fp,H' b=none)/\W i n ys H') ?_ m0
   ⟨0,[],H2,#[],n0,LQ I2 c dU kt hle (Je _) Qr f2 fo old hns1 hR (fun _ z=>nomatch z),.nil,Uw _,T.keep _ _ _ kr (fun b hb o e=>old b o e),fun b hb=>(f2 b hb).1,w0⟩
  refine fun n s3 hz_=>aj.el hz_ _ ?_;rintro i ys H3 aw k I3 rv hz eQ fr3 w3;have FY:∀p∈[(D,({ cls := .type "list",data := .seq aw k }:Obj))],p.1=D:=fun p hp=>congrArg Prod.fst (Jz.mp hp)
  rcases turn i n ys H3 w3 with ⟨stop,qn⟩|⟨go,iC,step⟩
  ·refine bg (T.done Xc rfl rfl rfl fM i _ s3 _ H3 nJ I3 (lr FY fr3) eQ stop) fun r s4 hz_ =>?_;refine aj.el hz_ _ ?_;rintro hr I4;subst hr;obtain⟨hDo,hDn,hDne,hDfs,_⟩:=I4.pin (D,_) (Jv _ Jo);refine aj.el (I4.loc) _ ?_;rintro mC hmC _;have u:=I4.base;have PB:=I2.bq.fresh (Je _);have u':Un (lI X.stack) fp H2 (upd H3 D (.lst ys)) s2.heap s4.heap:=
    ⟨u.keep,u.slot,fun b o e n hx=>by rw[ao ((fun b o e=>Jm (Jf e)) b o e)];exact u.free b o e n hx,u.there,
      fun b xs e=>by rw[ao (ay e PB)];exact u.jQ b xs e,fun b o xs e=>by rw[ao (ay e PB)];exact u.jr b o xs e,
      fun b ps e=>by rw[ao (ay e PB)];exact u.ky b ps e⟩
   have zE:∀b∈fp,(b∈X.ex\/X.s₀.heap.objs.size<=b)/\b≠X.env.locals/\(∀x c,X.env.cells.lookup x=some c->c≠b)/\∀p∈X.pn++pins,p.1≠b:=fun b hb=>
    ⟨(f2 b hb).2.2.2.1,(f2 b hb).2.1,(f2 b hb).2.2.2.2.1,(f2 b hb).2.2.2.2.2⟩
   refine behind G.objs.size D mC ys H3 s4 (I2.Ca I4.os u' (I4.bq.adopt hDn ⟨hz,aw.toList,k,rv,by simpa using hDo⟩) I4.bare zE) hmC (I2.eX hle ?_) hDn qn;rw[ao (QaA Qr)];exact I4.free
  ·refine bg (T.item Xc rfl rfl rfl fM i _ s3 _ H3 nJ I3 (lr FY fr3) eQ go) fun r s4 hz_ =>?_;refine aj.el hz_ _ ?_;rintro u hr h4;subst hr;refine bg h4 fun _ s5 hz_=>aj.el hz_ _ ?_;rintro x H5 I5 r5 y5 dZ fr5;refine bg (hg cl G.objs.size s2 H2 fp s5 _ H5 x u _ (I5.pinned (lr FY fr5) (T.obj _ _ dZ)) r5 (gk _ _ _ _ (step x H5 y5))) fun _ s6 hz_=>aj.el hz_ _ ?_;rintro σ6 H6 I6 q6 kσ kl;refine bg (FG cl G.objs.size s2 H2 fp s6 σ6 H6 _ I6 q6) fun b s7 hz_=>aj.el hz_ _ ?_;rintro H7 I7 q7;have later:∀{σ':St} {H':Hp} {s':KE},Inv Xc ([(D,({ cls := .type "list",data := .seq aw k }:Obj))]++gX fp s5.heap) σ' H' s'->tn (i+1) s'.heap/\∀b∈fp,H' b=none:=fun{σ' H' s'} Iz=>by
    refine⟨T.keep _ _ _ dZ fun b hb o e=>(Iz.pin (b,o) (Jv _ (Jv _ (df hb e)))).1,fun b hb=>aj.el (T.obj _ _ dZ b hb) _ ?_⟩;rintro o e d;exact(Iz.pin (b,o) (Jv _ (Jv _ (df hb e)))).2.1
   have back:∀{pl:List (Gc×Obj)} {H':Hp} {s':KE},Inv Xc pl σ6 H' s'->Inv Xc pl (J0 Nc.length none++eB σ js) H' s':=fun{pl H' s'} Iz=>by
    refine Iz.weak (by rw[<-kl]) fun j v hj =>?_
    by_cases hn:j<Nc.length
    ·rw[Uz (by simpa using hn),Ys] at hj
     split at hj<;>cases hj
    ·rw[kσ j ⋯];exact hj
   cases b with
   | false=>
    rw[if_neg Jn] at q7 ⊢;refine aj.el (q7) _ ?_;rintro m' BP w7;obtain⟨l1,l2⟩:=later I7;exact⟨m',BP,i+1,ys,H7,aw,k,back I7.eA,rv,hz,l1,l2,w7⟩
   | true=>
    refine bg (Lc cl G.objs.size s2 H2 fp s7 σ6 H7 _ I7 q7) fun yv s8 hz_=>aj.el hz_ _ ?_;rintro y H8 I8 r8 q8;refine aj.el (q8) _ ?_;rintro m' BP w8;obtain⟨hDo,hDn,hDne,hDfs,_⟩:=I8.pin (D,_) (Jv _ (Yh _ Jo));obtain⟨l1,l2⟩:=later I8;have hits:aw.size=ys.length:=by
     have e1:=rv.length;simp -iota only [Ud] at e1;lia
    refine wpAny_list_append_plain ⟨k,hDo⟩ fun h9 hl9 hs9 =>?_;obtain⟨k9,hD9⟩:=hl9;have Xm:∀p∈gX fp s5.heap,p.1≠D:=fun p hp=>by
     obtain⟨hb,_⟩:=tP hp;exact cj (sM _ hb) (Je _)
    have I9:Inv Xc (gX fp s5.heap) σ6 H8 { s8 with heap:=h9,toks:=s8.toks }:=(I8.pF fun p hp=>I8.pin p (Jv _ (Jv _ hp))).turned (fun b o hb e=>hs9.extBut b o hb e) hDn Qr (.inr (Je _))
     (fun x a e z=>by
      obtain⟨v,q⟩:=I2.cell x a (dU _ _ e);exact cj q.lt (Je _) z) (fun p hp=>Xm p (by
       have hp:p∈([]:List (Gc×Obj))++gX fp s5.heap:=hp;simpa using hp))
    obtain⟨mv,fr9⟩:tn (i+1) h9/\∀b∈fp,H8 b=none:=by
     exact⟨T.keep _ _ _ l1 fun b hb o e=>hs9.extBut b o (cj (sM _ hb) (Je _)) e,l2⟩
    refine⟨m',BP,i+1,ys++[y],H8,aw.push yv,k9,back (I9.pF fun p hp =>?_),?_,?_,mv,fr9,w8⟩
    ·cases Jz.mp hp;exact⟨hD9,hDn,hDne,hDfs,fun _ z=>nomatch z⟩
    ·rw[Qcg];exact rv.append (.cons r8 .nil)
    ·rw[Jw,QdH];lia
 exact codeAny_compStart_list (loop _) (T.self _ 0 _ _ _ (T.keep _ _ _ kr fun b hb o e=>old b o e) (loop _))
def gE {elt tg iter:QaB}{ifs:List QaB}{scope:Qb3}{pos:Pos}{Nc Fc:List Str}{js:List Nat}{wi:TI}{g:TG}{tc:TT}{te:TE}
  (fM:X.calm=true) (c:gD X scope Nc Fc js) (hi:PI X tg iter wi) (gk:Gk Nc.length g)
  (hg:∀cl C s H fp,PG (lQ X Nc Fc scope cl C s H fp) tg g) (FG:∀cl C s H fp,L6 (lQ X Nc Fc scope cl C s H fp) ifs tc) (Lc:∀cl C s H fp,PE (lQ X Nc Fc scope cl C s H fp) elt te)
  (hs:∀x,Qbi iter X.env x=pure x:=by intro _;rfl) :
  PE X (.ListComp elt [⟨tg,iter,ifs,0⟩] scope pos) (MW wi Nc.length js g tc te):=
 fun pins s σ H Q I h=>tW fM c hi hg FG Lc gk I h (fun C D m ys H2 s2 I2 hm hC hD q=>⟨m,hm,fun h' hs'=>⟨.ref D,_,I2.turned (fun b o hb e=>hs'.extBut b o hb e) hC.1 (hC.2.1) hC.2.2.2.1 hC.2.2.2.2.1 hC.2.2.2.2.2,rfl,q D hD⟩⟩) hs
def rA {i:Nat}{y:Str}{elt tg iter:QaB}{ifs:List QaB}{scope:Qb3}{pos pos' py:Pos}{Nc Fc:List Str}{js:List Nat}{wi:TI}{g:TG}{tc:TT}{te:TE}(hN:X.N.Nodup)(hy:X.N[i]? = some y)(hl:Loc X.env.scope y)
  (fM:X.calm=true) (c:gD X scope Nc Fc js) (hi:PI X tg iter wi) (gk:Gk Nc.length g)
  (hg:∀cl C s H fp,PG (lQ X Nc Fc scope cl C s H fp) tg g) (FG:∀cl C s H fp,L6 (lQ X Nc Fc scope cl C s H fp) ifs tc) (Lc:∀cl C s H fp,PE (lQ X Nc Fc scope cl C s H fp) elt te)
  (hsw:Qei (.ListComp elt [⟨tg,iter,ifs,0⟩] scope pos) (some (.Name y py)) pos'.line X.env=pure true:=by rfl)
  (hs:∀x,Qbi iter X.env x=pure x:=by intro _;rfl)
  (hf:X.fn y=true\/X.env.scope.names.lookup y=some .local:=by first|exact .inl rfl|exact .inr rfl|assumption) :
  PS X (.Assign [.Name y py] (.ListComp elt [⟨tg,iter,ifs,0⟩] scope pos) pos') (Li (MW wi Nc.length js g tc te) (uh i)):=by
 intro pins s σ H E I h;rw[exec_Assign_Name_used _ _ _ _ hsw];refine be (Qbm (be (be (bg (tW fM c hi hg FG Lc gk I h (fun C D m ys H2 s2 I2 hm hC hD q=>(wpAny_assign_Name (tJ I2 hN hy hl (v := .ref D) rfl (fun s3 I3 ⟨a,hsa,ha⟩=>?_) hf))) hs) fun _ s' hq=>tz (tz hq)))));have Cf:C≠a:=by
  rcases ha with e|e
  ·rw[e];exact hC.2.1
  ·exact fun z=>hC.2.2.2.2.1 _ _ e z.symm
 exact⟨m,hm.at' fun o e=>hsa.extBut _ o Cf e,fun h' hs'=>⟨_,_,I3.turned (fun b o hb e=>hs'.extBut b o hb e) hC.1 hC.2.1 hC.2.2.2.1 hC.2.2.2.2.1 hC.2.2.2.2.2,q D hD⟩⟩
section
variable {X:Cx}{pins:List (Gc×Obj)}{σ:St}{H:Hp}{s:KE}{p:Gc}{ys:List V}
def tw (hh:A.handled=none)(I:Inv X pins σ H s)(hq:bA X.K H p ys){R:Fk->KE->Prop}{E:Fk->KE->Prop}
  (h:∀aw it s2,Vals ys aw->aw.length<=Wp ->
   Walks X.prog X.w A it [it,p] [it] aw.toArray.size (fun i v=>aw.toArray[i]? = some v) (fun i h=>h.IsListIter it p i/\h.IsList p aw.toArray)->(s2.heap.IsListIter it p 0/\s2.heap.IsList p aw.toArray)->(∀b∈[it,p],b<s2.heap.objs.size) ->
   (∀h' tk,(∀b o,b∉[it]->s2.heap.get? b=some o->h'.get? b=some o)->Inv X pins σ H { s2 with heap:=h',toks:=tk })->R (.ref it) s2) :
  Qac (Qab X.prog X.w) A (Qfd (.ref p)) R E s:=by
 obtain⟨aw,rv,pl,hz⟩:=I.list hq;have hl:=pl.isList;have hp:p<s.heap.objs.size:=by obtain⟨o,e,_⟩:=hl;exact Jf e
 refine Qcu hl (h aw s.heap.objs.size _ rv (by have:=rv.length;lia) (Walks.list hh _ p (Jm hp) aw.toArray) ⟨⟨_,Ji _ rfl,rfl,rfl⟩,hl.push _⟩ (fun b hb =>?_) fun h' tk hk =>?_)
 ·show b<(s.heap.push _).objs.size;rw[Ue]
  rcases Jx.mp hb with rfl|hb
  ·exact Wj _
  ·rw[Jz.mp hb];exact Qcl hp
 ·exact I.kept fun b o e=>hk b o (fun z=>cj (Jf e) (Je _) (Jz.mp z)) (Jb _ e)
def l6 (r:Vals ys aw){i:Nat}{v:Fk}(e:aw.toArray[i]? = some v):∃y,ys[i]? = some y/\RelV y v:=by
 have e':aw[i]? = some v:=by simpa using e
 have hi:=(Jq.mp e').1;have hl:=r.length;obtain⟨u,h1,h2⟩:=r.get (i:=i) (x:=ys[i]'⋯) (by simp);rw[e'] at h1;cases h1;exact⟨_,by simp,h2⟩
def DS (bs:List Bool):(U3 bs.length).all (fun i=>bs.getD i false)=bs.all id:=by
 induction bs with
 | nil=>rfl
 | cons b r ih=>
  rw[Jr,Qdx,Qb6,List.all_map,Qb6,<-ih]
  rfl
def Ej (bs:List Bool):(U3 bs.length).any (fun i=>bs.getD i false)=bs.any id:=by
 induction bs with
 | nil=>rfl
 | cons b r ih=>
  rw[Jr,Qdx,Wa,QfG,Wa,<-ih]
  rfl
def y8 {bs:List Bool}{aw:List Fk}(r:Vals (bs.map V.bl) aw):TruthOf X.prog X.w A (fun i v=>aw.toArray[i]? = some v) (fun i=>bs.getD i false):=by
 intro i v s Q E e hQ;obtain⟨y,h1,h2⟩:=l6 r e;rw[Jk] at h1;cases q:bs[i]? with
 | none=>rw[q] at h1;cases h1
 | some b=>
  rw[q] at h1;cases h1;cases h2;have:bs.getD i false=b:=by simp[ q]
  have hQ:Q (bs.getD i false) s:=hQ;rw[this] at hQ;exact tz hQ
def xj (hc:X.calm=true):bF X (.builtin "all") (fun xs H Q=>∃(p:Gc) (bs:List Bool),xs=[.ref p]/\bA X.K H p (bs.map V.bl)/\Q (.bl (bs.all id)) H):=by
 intro pins s σ H xs us Q I r h;obtain⟨p,bs,rfl,hq,q⟩:=h;obtain⟨u,rfl,ru⟩:=vals1 r;cases ru;refine call_all_walk (tw (A:=X.A.in1) (I.ok.hd hc) I hq fun aw it s2 rv hz W st iC hI=>⟨it,_,_,_,_,_,fun i=>bs.getD i false,rfl,W,st,y8 rv,fun h' tk hk =>?_⟩);have hl:aw.toArray.size=bs.length:=by have:=rv.length;simp at this ⊢;lia
 rw[hl,DS];exact⟨.bl _,H,hI h' tk hk,rfl,q⟩
def yN (hc:X.calm=true):bF X (.builtin "any") (fun xs H Q=>∃(p:Gc) (bs:List Bool),xs=[.ref p]/\bA X.K H p (bs.map V.bl)/\Q (.bl (bs.any id)) H):=by
 intro pins s σ H xs us Q I r h;obtain⟨p,bs,rfl,hq,q⟩:=h;obtain⟨u,rfl,ru⟩:=vals1 r;cases ru;refine call_any_walk (tw (A:=X.A.in1) (I.ok.hd hc) I hq fun aw it s2 rv hz W st iC hI=>⟨it,_,_,_,_,_,fun i=>bs.getD i false,rfl,W,st,y8 rv,fun h' tk hk =>?_⟩);have hl:aw.toArray.size=bs.length:=by have:=rv.length;simp at this ⊢;lia
 rw[hl,Ej];exact⟨.bl _,H,hI h' tk hk,rfl,q⟩
def Rc (K:Ja)(hc:X.calm=true)(hK:X.K=K:=by rfl):bF X (.builtin "all") (fun xs H Q=>∃(p:Gc) (bs:List Bool),xs=[.ref p]/\bA K H p (bs.map V.bl)/\Q (.bl (bs.all id)) H):=by subst hK;exact xj hc
def Vq (K:Ja)(hc:X.calm=true)(hK:X.K=K:=by rfl):bF X (.builtin "any") (fun xs H Q=>∃(p:Gc) (bs:List Bool),xs=[.ref p]/\bA K H p (bs.map V.bl)/\Q (.bl (bs.any id)) H):=by subst hK;exact yN hc
def kA:Kd X "str.startswith" (fun x vs H Q=>∃a b,x = .str a/\vs=[.str b]/\Q (.bl (Qcj a b)) H):=by
 intro pins s σ H x vs v us Q I rx rv h;obtain⟨a,b,rfl,rfl,q⟩:=h;obtain⟨t,rfl⟩:=rx;obtain⟨u,rfl,t',rfl⟩:=rv.one;exact SC.startswith ⟨.bl _,H,I,rfl,q⟩
def En:Kd X "str.strip" (fun x vs H Q=>∃a b,x = .str a/\vs=[.str b]/\a.length<=Wp/\Q (.str (Qff a b)) H):=by
 intro pins s σ H x vs v us Q I rx rv h;obtain⟨a,b,rfl,rfl,hz,q⟩:=h;obtain⟨t,rfl⟩:=rx;obtain⟨u,rfl,t',rfl⟩:=rv.one;exact SC.stripChars (fun t' k=>⟨.str _,H,I.tok _,⟨_,rfl⟩,q⟩) hz
def Iq:∀{xs:List Str} {aw:List Fk},Vals (xs.map V.str) aw->StrsAre aw xs:=by
 intro xs aw r
 induction xs generalizing aw with
 | nil=>cases r;exact StrsAre.nil
 | cons x xs ih=>
  cases r with
  | cons r1 r2=>
   obtain⟨t,rfl⟩:=r1;exact StrsAre.cons x t (ih r2)
def Lj:Kd X "str.join" (fun x vs H Q=>∃sep p xs,x = .str sep/\vs=[.ref p]/\bA X.K H p (xs.map V.str)/\(xs.map (·.length)).sum+xs.length*sep.length<=16777216/\Q (.str (Qa0 sep xs)) H):=by
 intro pins s σ H x vs v us Q I rx rv h;obtain⟨sep,p,xs,rfl,rfl,hq,hz,q⟩:=h;obtain⟨t,rfl⟩:=rx;obtain⟨u,rfl,ru⟩:=rv.one;cases ru;obtain⟨aw,r',pl,_⟩:=I.list hq;exact join_list pl.isList (Iq r') hz fun t' k=>⟨.str _,H,I.tok _,⟨_,rfl⟩,q⟩
end
mutual
def Den (K:Ja)(H:Hp):Qae->V->Prop
 | .none,v=>v = .non
 | .bool b,v=>v = .bl b
 | .int i,v=>v = .int i
 | .str x,v=>v = .str x
 | .list ds,v=>eZ fun a vs=>v = .ref a/\bA K H a vs/\aV K H ds vs
 | .tuple ds,v=>eZ fun a vs=>v = .ref a/\bG K H a vs/\aV K H ds vs
 | .dict _,_=>False
def aV (K:Ja)(H:Hp):List Qae->List V->Prop
 | [],vs=>vs=[]
 | d::ds,vs=>eZ fun v r=>vs=v::r/\Den K H d v/\aV K H ds r
end
def av.cL {K:Ja}{H H':Hp}{a:Gc}{xs:List V}(e:av H H')(h:bG K H a xs):bG K H' a xs:=by
 rcases h with (h|⟨o,h⟩)|h
 ·exact .inl (.inl (e _ _ h))
 ·exact .inl (.inr ⟨o,e _ _ h⟩)
 ·exact .inr h
mutual
def Den.same {K:Ja}{H H':Hp}(e:av H H'):∀{d:Qae} {v:V},Den K H d v->Den K H' d v
 | .none,_,h=>by unfold Den at h ⊢;exact h
 | .bool _,_,h=>by unfold Den at h ⊢;exact h
 | .int _,_,h=>by unfold Den at h ⊢;exact h
 | .str _,_,h=>by unfold Den at h ⊢;exact h
 | .list ds,_,h=>by
  unfold Den at h ⊢;obtain⟨a,vs,h1,h2,h3⟩:=h;exact⟨a,vs,h1,e.seq h2,aV.same e h3⟩
 | .tuple ds,_,h=>by
  unfold Den at h ⊢;obtain⟨a,vs,h1,h2,h3⟩:=h;exact⟨a,vs,h1,e.cL h2,aV.same e h3⟩
 | .dict _,_,h=>by unfold Den at h;exact h.elim
def aV.same {K:Ja}{H H':Hp}(e:av H H'):∀{ds:List Qae} {vs:List V},aV K H ds vs->aV K H' ds vs
 | [],_,h=>by unfold aV at h ⊢;exact h
 | d::ds,_,h=>by
  obtain⟨v,r,h1,h2,h3⟩:=h;exact⟨v,r,h1,Den.same e h2,aV.same e h3⟩
end
mutual
def Den.reads {X:Cx}{pins:List (Gc×Obj)}{σ:St}{H:Hp}{s:KE}(I:Inv X pins σ H s):∀{d:Qae} {v:V} {u:Fk},Den X.K H d v->RelV v u->∃as,Reads s.heap u d as
 | .none,_,_,h,r=>by unfold Den at h;subst h;cases r;exact⟨_,.none⟩
 | .bool _,_,_,h,r=>by unfold Den at h;subst h;cases r;exact⟨_,.bool _⟩
 | .int _,_,_,h,r=>by unfold Den at h;subst h;obtain⟨t,rfl⟩:=r;exact⟨_,.int _ _⟩
 | .str _,_,_,h,r=>by unfold Den at h;subst h;obtain⟨t,rfl⟩:=r;exact⟨_,.str _ _⟩
 | .list ds,_,_,h,r=>by
  unfold Den at h;obtain⟨a,vs,rfl,h2,h3⟩:=h;cases r;obtain⟨aw,rv,⟨o,n,e1,e2,_,e4⟩,_⟩:=I.list h2;obtain⟨as,q⟩:=aV.reads I h3 rv;exact⟨_,.list e1 e2 e4 (by simpa using q)⟩
 | .tuple ds,_,_,h,r=>by
  unfold Den at h;obtain⟨a,vs,rfl,h2,h3⟩:=h;cases r;obtain⟨aw,rv,⟨o,e1,e2,n,e4⟩,_⟩:=I.tuple h2;obtain⟨as,q⟩:=aV.reads I h3 rv;exact⟨_,.tuple e1 e2 e4 (by simpa using q)⟩
 | .dict _,_,_,h,_=>by unfold Den at h;exact h.elim
def aV.reads {σ:St}{H:Hp}{s:KE}(I:Inv X pins σ H s):∀{ds:List Qae} {vs:List V} {us:List Fk},aV X.K H ds vs->Vals vs us->∃as,ReadsAll s.heap us ds as
 | [],_,_,h,r=>by unfold aV at h;subst h;cases r;exact⟨_,.nil⟩
 | d::ds,_,_,h,r=>by
  obtain⟨v,q,rfl,h2,h3⟩:=h;cases r with
  | cons r1 r2=>
   obtain⟨as,q1⟩:=Den.reads I h2 r1;obtain⟨bs,q2⟩:=aV.reads I h3 r2;exact⟨_,.cons q1 q2⟩
end
section
variable {X:Cx}
open PySem.SeqAt in
def NM (hu:X.A.units+64<Qc4):fL X (QaF .Eq) (fun x y H Q=>∃d e,Den X.K H d x/\Den X.K H e y/\shaped d=true/\shaped e=true/\Q (.bl (QbP d e)) H):=by
 intro pins s σ H x y v u Q I rx ry h;obtain⟨d,e,hd,he,sd,se,q⟩:=h;obtain⟨as,r1⟩:=hd.reads I rx;obtain⟨bs,r2⟩:=he.reads I ry;exact eq_dataH r1 r2 sd se hu ⟨.bl _,H,I,rfl,q⟩
open PySem.SeqAt in
def Nv (hu:X.A.units+64<Qc4):fL X (QaF .NotEq) (fun x y H Q=>∃d e,Den X.K H d x/\Den X.K H e y/\shaped d=true/\shaped e=true/\Q (.bl (!PyData.eqv d e)) H):=by
 intro pins s σ H x y v u Q I rx ry h;obtain⟨d,e,hd,he,sd,se,q⟩:=h;obtain⟨as,r1⟩:=hd.reads I rx;obtain⟨bs,r2⟩:=he.reads I ry;exact ne_dataH r1 r2 sd se hu ⟨.bl _,H,I,rfl,q⟩
def Ol:fL X (QaF .Is) (fun x y H Q=>∃a b,x = .bl a/\y = .bl b/\Q (.bl (decide (a=b))) H):=by
 intro pins s σ H x y v u Q I rx ry h;obtain⟨a,b,rfl,rfl,q⟩:=h;cases rx;cases ry;refine wpAny_is_plain rfl (bj I q ?_);cases a<;>cases b<;>rfl
def Eb:fL X (QaF .IsNot) (fun x y H Q=>∃a b,x = .bl a/\y = .bl b/\Q (.bl (!decide (a=b))) H):=by
 intro pins s σ H x y v u Q I rx ry h;obtain⟨a,b,rfl,rfl,q⟩:=h;cases rx;cases ry;refine wpAny_isNot_plain rfl (bj I q ?_);cases a<;>cases b<;>rfl
def Gh:bF X (.builtin "isinstance") (fun xs H Q=>∃x T t b,xs=[x,.ty T]/\mh X.K H x t/\Ug X.K t (.type T)=some b/\Q (.bl b) H):=by
 intro pins s σ H xs us Q I r h;obtain⟨x,T,t,b,rfl,ty,e,q⟩:=h;obtain⟨u,w',rfl,r1,r2⟩:=vals2 r;cases r2;exact EF I r1 ty e fun tk=>⟨.bl b,H,I.tok _,rfl,q⟩
def NP:FJ X (fun x lo hi H Q=>∃z,x = .str z/\z.length<=Wp/\Q (.str (QaT z lo hi)) H):=by
 intro pins s σ H x v vl vu lo hi sl Q I rx hs pl pu q;obtain⟨z,rfl,hz,q⟩:=q;obtain⟨t,rfl⟩:=rx;refine⟨"str",_,F.slot_str_getitem.lookup,QdT _ _ _,?_⟩;have fin:∀t' k,EP X pins σ Q (.str (QaT z lo hi) t') { s with toks:=k }:=fun t' k=>⟨.str _,H,I.tok _,⟨_,rfl⟩,q⟩
 cases pl with
 | none=>
  cases pu with
  | none=>exact Qco (l:=none) (u:=none) (st:=none) hs rfl (QdX ⟨Jh (QcN z _ _) hz,fin⟩)
  | int j uj=>exact Qco (l:=none) (u:=some (j,uj)) (st:=none) hs rfl (QdX ⟨Jh (QcN z _ _) hz,fin⟩)
 | int i ui=>
  cases pu with
  | none=>exact Qco (l:=some (i,ui)) (u:=none) (st:=none) hs rfl (QdX ⟨Jh (QcN z _ _) hz,fin⟩)
  | int j uj=>exact Qco (l:=some (i,ui)) (u:=some (j,uj)) (st:=none) hs rfl (QdX ⟨Jh (QcN z _ _) hz,fin⟩)
end
section
variable {X:Cx}{pins:List (Gc×Obj)}{σ:St}{H:Hp}{s:KE}{h':Heap}
def Inv.iter {ch:List Gc}(I:Inv X pins σ H s)(hf:∀b∈ch,gc X pins H b)(keep:∀b o,b∉ch->s.heap.get? b=some o->h'.get? b=some o):Inv X pins σ H { s with heap:=h',toks:=t' }:=by
 have Nd:∀b u,H b=some u->b∉ch:=fun b u e z=>by rw[(hf b z).1] at e;cases e
 refine I.step (fun b hb=>⟨(hf b hb).2.2.2.1,(hf b hb).2.1,(hf b hb).2.2.2.2.1,(hf b hb).2.2.2.2.2⟩) (fun b o _ _ hc e _=>keep b o hc e) (fun b o _ _ hc e _=>⟨o.slots,keep b o hc e⟩)
  (fun _ _ _ _ n=>n) (fun b o hc e=>⟨o,keep b o hc e⟩) (fun _ _ e=>e) (fun _ _ _ e=>e) (fun b ps e=>⟨#[],by rw[e];simp⟩) (fun m hm=>hm.at' fun o e=>keep _ o (fun z=>(hf _ z).2.1 rfl) e) (fun b u e =>?_) I.bare
 refine(I.bq b u e).gI (fun c v hc q=>keep c v ?_ q) (fun _ q=>q) fun _ _ q=>q
 rcases hc with z|z
 ·rw[z];exact Nd b u e
 ·exact Nd c _ z
def Inv.adopt (I:Inv X pins σ H s)(hT:gc X pins H T)(hex:X.s₀.heap.objs.size<=T)(new:bw X.prog X.w (upd H T o) s.heap T o):Inv X pins σ (upd H T o) s:=
 ⟨I.ok,I.os,I.bare,⟨I.base.keep,I.base.slot,fun b ob e n hx=>by rw[ao (cj (Jf e) hex)];exact I.base.free b ob e n hx,I.base.there,
   fun b xs e=>by rw[ao (ay (I.base.jQ b xs e) hT.1)];exact I.base.jQ b xs e,fun b ob xs e=>by rw[ao (ay (I.base.jr b ob xs e) hT.1)];exact I.base.jr b ob xs e,
   fun b ps e=>by
    obtain⟨m,q⟩:=I.base.ky b ps e;exact⟨m,by rw[ao (ay q hT.1)];exact q⟩⟩,
  I.loc,I.cell,by rw[ao (QaA hT.2.1)];exact I.free,fun x c e=>by rw[ao (hT.2.2.2.2.1 x c e)];exact I.freeC x c e,
  fun p hp=>by
   refine aj.el (I.pin p hp) _ ?_;rintro a b c d f;exact⟨a,by rw[ao (hT.2.2.2.2.2 p hp)];exact b,c,d,f⟩,I.bq.adopt hT.1 new,I.len⟩
end
def pV {i:Nat}{x:V}(r:Vals xs aw)(e:xs[i]? = some x):∃u,aw.toArray[i]? = some u/\RelV x u:=by
 refine aj.el (r.get e) _ ?_;rintro u h1 h2;exact⟨u,by simpa using h1,h2⟩
def Ite (K:Ja)(a:Gc):It:=
 ⟨fun i H=>eZ fun xs x=>bA K H a xs/\xs[i]? = some x,
   fun i H v H'=>∃T,v = .ref T/\H T=none/\∀xs x,bA K H a xs->xs[i]? = some x->H'=upd H T (.tup [.int i,x]),
   fun i H=>∃xs,bA K H a xs/\xs.length<=i⟩
def Dk {K:Ja}{elts:List QaB}{k:Nat}{tp:Pos}(e it l:Gc)(hei:e≠it)(hle:l≠e)(hli:l≠it):
  Turn P w K (.Tuple elts k tp) (Ite K l) [e,it] e (fun i h=>(∃old,IsEnum h e it i old)/\h.IsListIter it l i) where
 mem:=by simp
 obj:=fun i h st b hb=>by
  obtain⟨⟨_,h1⟩,⟨o4,h4,_,d4⟩⟩:=st;simp at hb
  rcases hb with rfl|rfl
  ·exact⟨_,h1,fun _ z=>nomatch z⟩
  ·exact⟨_,h4,fun v q=>by rw[d4] at q;cases q⟩
 keep:=fun i h h' st hk=>by
  obtain⟨⟨a,h1⟩,h4⟩:=st;exact⟨⟨a,hk e (by simp) _ h1⟩,h4.at fun o e=>hk it (by simp) o e⟩
 item:=fun X hP hw hK hc i pins s σ H E I hf st go=>by
  subst hP hw hK;obtain⟨⟨old,he⟩,h1⟩:=st;obtain⟨xs,x,q1,e1⟩:=go;obtain⟨its1,r1,p1,_⟩:=I.list q1;obtain⟨u1,g1,ru1⟩:=pV r1 e1;refine wpAny_pyNext_enum_item he h1 p1.isList g1 hei fun h' a1 a3 a5 a6 a7=>⟨_,rfl,(wpAny_letOwnedTupleGo_enum a1 fun h'' b1 b2 =>?_)⟩
  have kp:∀c o,c∉[e,it]->s.heap.get? c=some o->h''.get? c=some o:=fun c o hc z=>by
   simp only[Jx,Yl,or_false,not_or] at hc;exact b2.extBut c o hc.1 (a7 c o hc.1 hc.2 z)
  have I1:Inv X pins σ H { s with heap:=h'',toks:=s.toks+1 }:=I.iter hf kp;have fT:=I.eX (Je _) (I.bq.fresh (Je _));refine⟨.ref s.heap.objs.size,_,(I1.adopt (o := .tup [.int i,x]) fT I.sz ⟨by show 2<=Wp;decide,[.int i s.toks,u1],.cons ⟨_,rfl⟩ (.cons ru1 .nil),⟨_,(b2.extBut _ _ (mJ (Jf he) (Je _)) a5),rfl,rfl,_,rfl⟩⟩),rfl,⟨_,rfl,fT.1,fun xs' x' q1' e1' =>?_⟩,⟨⟨_,by
   have z:(((i+1:Nat):Int))=(i:Int)+1:=by lia
   rw[z];exact b1⟩,a3.extBut b2.extBut (QaA hei)⟩,fun c hc =>?_⟩
  ·rw[I.pZ q1' q1] at e1';rw[e1] at e1';cases e1';rfl
  ·have FQ:c<s.heap.objs.size:=by
    simp at hc;obtain⟨_,h1,_⟩:=h1
    rcases hc with rfl|rfl
    ·exact Jf he
    ·exact Jf h1
   rw[ao (cj FQ (Je _))];exact(hf c hc).1
 done:=fun X hP hw hK hc i pins s σ H E I hf st stop=>by
  subst hP hw hK;obtain⟨⟨old,he⟩,h1⟩:=st;obtain⟨xs,q1,e⟩:=stop;obtain⟨its1,r1,p1,_⟩:=I.list q1;have l1':=r1.length;exact wpAny_pyNext_enum_end (I.ok.hd hc) he h1 p1.isList (by simp;lia) fun h' kp=>⟨rfl,(I.iter (ch:=[it]) (fun c hc=>hf c (by simp at hc ⊢;simp[hc])) fun c o hc z=>kp c o (fun q=>hc (by simp[q])) z)⟩
 self:=fun A i s Q E st hQ=>by
  obtain⟨⟨old,he⟩,_⟩:=st;exact wpAny_pyIter_enum he hQ
section
variable {X:Cx}
def QO (K:Ja)(ta:TA):TI:=fun σ H R=>ta σ H fun vs H1=>∃a,vs=[.ref a]/\(∃xs,bA K H1 a xs)/\R (Ite K a) H1
def LV {elts:List QaB}{k:Nat}{tp:Pos}{a:QaB}{ta:TA}{p pos:Pos}(hg:Gl X "enumerate")(hm:X.mg "enumerate" = none)(ha:PA X [a] ta)(hb:QaR "enumerate" = some (.type "enumerate"):=by first|rfl|decide)(hs:Qaj [a] X.env=[(false,QaL a X.env)]:=by rfl):
  PI X (.Tuple elts k tp) (.Call (.Name "enumerate" p) [a] [] pos) (QO X.K ta):=by
 refine fun pins s σ H R I h=>Call_ (dW I hg hm hb (Qam (bg (ha s σ H _ I h) fun us s1 hz_=>aj.el hz_ _ fun vs H1 I1 r1 q1 =>?_) hs rfl));obtain⟨l1,e,⟨xs,q1⟩,q⟩:=q1;subst e;obtain⟨u,rfl,ru⟩:=vals1 r1;cases ru;obtain⟨its1,rv1,p1,_⟩:=I1.list q1;have a1:l1<s1.heap.objs.size:=by obtain⟨_,e,_⟩:=p1.isList;exact Jf e
 refine call_enumerate_list p1.isList (fun h' he hi1 hsz hk=>wpAny_pyIter_enum he ?_);have I2:Inv X pins σ H1 { s1 with heap:=h' }:=I1.kept hk;refine⟨_,_,_,_,H1,rfl,I2,Dk _ _ _ (Nat.succ_ne_self _) (Jm (Qcl a1)) (Jm a1),⟨⟨_,he⟩,hi1⟩,fun c hc =>?_,q⟩;have FQ:s1.heap.objs.size<=c:=by
  simp at hc
  rcases hc with rfl|rfl
  ·exact Us _ _
  ·exact Je _
 exact I1.eX FQ (I1.bq.fresh FQ)
end
section
variable {X:Cx}
def Ss:R2:=fun x y H Q=>(eZ fun i j=>x = .int i/\y = .int j/\Q (.int (i+j)) H)\/(∃i j,x = .str i/\y = .str j/\i.length+j.length<=Wp/\Q (.str (i++j)) H)\/Rx x y H Q
def RR:fL X (Qbu .Add) Ss:=N9.or (AW.or P7)
def Sy:R2:=fun x y H Q=>(eZ fun i j=>x = .int i/\y = .int j/\zJ i j/\Q (.int (i*j)) H)\/SQ x y H Q
def Q1:fL X (Qbu .Mult) Sy:=NN.or PU
structure Fn (P:Qaf)(w:Qah)(K:Ja)(mg:Str->Option Fk)(base:Heap)(k:Nat)(x:Str)(ps:List Str)(sp:Sp):Prop where
 ex:∃f fd,aW P w K mg base d7 k f fd ps sp/\Binds K fd ps []/\Ui K (.ref f)=true/\mg x=some (.ref f)
def Fn.mono {K:Ja}{mg:Str->Option Fk}{base:Heap}{j k:Nat}{x:Str}{ps:List Str}{sp:Sp}(F:Fn P w K mg base j x ps sp)(h:j<=k):Fn P w K mg base k x ps sp:=by
 refine aj.el (F.ex) _ ?_;rintro f fd a b c d;exact⟨f,fd,a.mono h,b,c,d⟩
def aH {p pos:Pos}{e:QaB}{es:List QaB}{t:TA}(F:Fn X.prog X.w X.K X.mg X.base k x ps sp)(hr:da k X.A)(hg:Gl X x)
  (ha:PA X (e::es) t) (oC:(x==("__debug__" : Str))=false:=by decide) (he:Qaj (e::es) X.env=(false,QaL e X.env)::Qaj es X.env:=by rfl) (m7:(QbU pos (Qaj es X.env)).any (·.1)=false:=by rfl) :
  PE X (.Call (.Name x p) (e::es) [] pos) (zr sp [] E0 t):=by
 refine aj.el (F.ex) _ ?_;rintro f fd a b c d;exact Ce a hr hg d c b .nil uJ ha oC he m7
end
def CT (pn sn:List (Str×QcB))(N Fc:List Str)(js:List Nat):Bool:=
 sn.all (fun y=>y.2 != .cell)&&sn.all (fun y=>y.2 != .local||sn.lookup y.1==some .local)&&sn.all (fun y=>y.2 != .free||pn.lookup y.1==some .cell||pn.lookup y.1==some .free)&&js.length==Fc.length &&
 (U3 Fc.length).all fun k=>match Fc[k]?,js[k]? with
  | some x,some j=>sn.lookup x==some .free&&N[j]? == some x
  | _,_=>false
def dS {X:Cx}{scope:Qb3}{Nc Fc:List Str}{js:List Nat}(hk:scope.kind = .function:=by rfl)(h:CT X.env.scope.names scope.names X.N Fc js=true:=by rfl):gD X scope Nc Fc js:=by
 unfold CT at h;simp -iota only [Js,Wc,Bool.or_eq_true,bne_iff_ne,beq_iff_eq,ne_eq] at h;obtain⟨⟨⟨⟨h1,h2⟩,h3⟩,h4⟩,h5⟩:=h;refine⟨hk,h1,fun y hy hl=>(h2 y hy).resolve_left (fun z=>z hl),fun y hy hf =>?_,fun k x hx =>?_,h4⟩
 ·rcases h3 y hy with (z|z)|z
  ·exact absurd hf z
  ·exact .inl z
  ·exact .inr z
 ·have hk':=(Jq.mp hx).1;have q:=h5 k (List.mem_range.mpr hk');have hj:k<js.length:=by lia
  rw[hx,Jd hj] at q;simp only[Js,beq_iff_eq] at q;exact⟨q.1,_,Jd hj,q.2⟩
section
variable {X:Cx}
def W9 (hu:X.A.units+64<Qc4):fL X (QaF .Eq) (fun x y H Q=>VW x y H Q\/(∃d e,Den X.K H d x/\Den X.K H e y/\QaK d=true/\QaK e=true/\Q (.bl (QbP d e)) H)):=SV.or (NM hu)
def XW (hu:X.A.units+64<Qc4):fL X (QaF .NotEq) (fun x y H Q=>ZY x y H Q\/(∃d e,Den X.K H d x/\Den X.K H e y/\QaK d=true/\QaK e=true/\Q (.bl (!PyData.eqv d e)) H)):=R6.or (Nv hu)
def xD:fL X (QaF .Is) (fun x y H Q=>(y = .non/\Q (.bl (decide (x = .non))) H)\/(∃a b,x = .bl a/\y = .bl b/\Q (.bl (decide (a=b))) H)):=Px.or Ol
def CW:fL X (QaF .IsNot) (fun x y H Q=>(y = .non/\Q (.bl (!decide (x = .non))) H)\/(∃a b,x = .bl a/\y = .bl b/\Q (.bl (!decide (a=b))) H)):=Kq.or Eb
def SO:FJ X (fun x lo hi H Q=>PD X.K x lo hi H Q\/(∃z,x = .str z/\z.length<=Wp/\Q (.str (QaT z lo hi)) H)):=MC.or NP
structure Nm (mg:Str->Option Fk):Prop where
 n_len:mg "len" = none
 n_range:mg "range" = none
 n_max:mg "max" = none
 n_min:mg "min" = none
 n_sum:mg "sum" = none
 n_all:mg "all" = none
 n_any:mg "any" = none
 n_list:mg "list" = none
 n_tuple:mg "tuple" = none
 n_int:mg "int" = none
 n_str:mg "str" = none
 n_bool:mg "bool" = none
 n_zip:mg "zip" = none
 n_enumerate:mg "enumerate" = none
 n_isinstance:mg "isinstance" = none
 n_divmod:mg "divmod" = none
end
def fc {n:Nat}{js:List Nat}{g:TG}{tc:TT}{te:TE}{σ:St}{H1:Hp}{fin:List V->Hp->Prop}(N:Nat)(Pv:Nat->List V->Hp->Prop)(h0:Pv 0 [] H1)
  (go:∀i ys H (Nx:List V->Hp->Prop),i<N->Pv i ys H->(∀ys' H',Pv (i+1) ys' H'->Nx ys' H')->J.go i H/\ys.length<Wp /\
   ∀x H',J.yld i H x H'->g x (J0 n none++eB σ js) H' fun σ2 H2=>tc σ2 H2 fun b H3=>if b=true then te σ2 H3 fun y H4=>Nx (ys++[y]) H4 else Nx ys H3)
  (stop:∀ys H,Pv N ys H->J.stop N H/\fin ys H):Ir J n js g tc te σ H1 fin:=by
 refine⟨fun i m ys H=>m=N-i/\i<=N/\Pv i ys H,⟨N,by simp,Uw _,h0⟩,(fun i m ys H hz_=>aj.el hz_ _ ?_)⟩;rintro rfl hi p
 by_cases iC:i<N
 ·exact .inr (go i ys H (fun ys' H'=>∃m',m'<N-i/\(m'=N-(i+1)/\i+1<=N/\Pv (i+1) ys' H')) iC p fun ys' H' q=>⟨_,⋯,rfl,iC,q⟩)
 ·have e:i=N:=by lia
  subst e;exact .inl (stop ys H p)
section
variable {X:Cx}(K:Ja)
def kq (hK:X.K=K:=by rfl):JX X (Z9 K):=by subst hK;exact NR
def VA (hK:X.K=K:=by rfl):FJ X (fun x lo hi H Q=>PD K x lo hi H Q\/(∃z,x = .str z/\z.length<=Wp/\Q (.str (QaT z lo hi)) H)):=by subst hK;exact SO
def hX (hK:X.K=K:=by rfl):bF X (.builtin "len") (fun xs H Q=>∃x n,xs=[x]/\RA K x H n/\Q (.int n) H):=by subst hK;exact Go
def Cg (hK:X.K=K:=by rfl):Kd X "str.join" (fun x vs H Q=>∃sep p xs,x = .str sep/\vs=[.ref p]/\bA K H p (xs.map V.str)/\(xs.map (·.length)).sum+xs.length*sep.length<=16777216/\Q (.str (Qa0 sep xs)) H):=by subst hK;exact Lj
def MY {tg l:QaB}{tl:TE}(hl:PE X l tl)(hK:X.K=K:=by rfl):PI X tg l (M0 K tl):=by subst hK;exact L7 hl
def tupK {pos:Pos}{es:List QaB}{k:Nat}{t:FR}(n:Nat)(hc:X.calm=true)(h:QG X es t)(hn:(QcG es X.env).length=n:=by rfl)(kK:(QcG es X.env).findIdx? (·.1)=none:=by rfl)(hK:X.K=K:=by rfl):PG X (.Tuple es k pos) (NF K n t):=by subst hK;exact P0 hc h hn kK
def xg {to:TE}{t:TA}{name:Str}{apos dj:Pos}{T id:String}{r:V->List V->Hp->VK->Prop}(pa:QfV T)(slot:Slot T name id)(OU:typeOf (.builtin id)=pure (.type "method_descriptor"))(hm:Kd X id r)(ho:PE X o to)(ha:PA X (e::es) t)
  (lW:Qbn o name X.env (QaL o X.env)=QaL o X.env:=by rfl)
  (Fg:((QbU dj (Qaj (e::es) X.env)).all (fun x => !x.1)&&(backToKw dj (Qfo [] X.env)).all (fun x=>x.1.isSome)
   && decide ((e::es).length+([]:List QfH).length+(if ([]:List QfH).isEmpty then 0 else 1)<30))=true:=by rfl)
  (mB:(apos.endLine==dj.line)=true:=by rfl) (hs:Qaj (e::es) X.env=(false,QaL e X.env)::Qaj es X.env:=by rfl) (Ba:(QbU dj (Qaj es X.env)).any (·.1)=false:=by rfl) (hK:X.K=K:=by rfl) :
  PE X (.Call (.Attribute o name apos) (e::es) [] dj) (tBM K T r to t):=by subst hK;exact Sz pa slot OU hm ho ha lW Fg mB hs Ba
def W6 {name:Str}{apos dj:Pos}{T id:String}{r:V->List V->Hp->VK->Prop}(pa:QfV T)(slot:Slot T name id)(OU:typeOf (.builtin id)=pure (.type "method_descriptor"))(hm:Kd X id r)(ho:PE X o to)
  (lW:Qbn o name X.env (QaL o X.env)=QaL o X.env:=by rfl) (mB:(apos.endLine==dj.line)=true:=by rfl) (hK:X.K=K:=by rfl):PE X (.Call (.Attribute o name apos) [] [] dj) (Rw K T r to):=by subst hK;exact P4 pa slot OU hm ho lW mB
def qd (hu:X.A.units+64<Qc4)(hK:X.K=K:=by rfl):fL X (QaF .Eq) (fun x y H Q=>VW x y H Q\/(∃d e,Den K H d x/\Den K H e y/\QaK d=true/\QaK e=true/\Q (.bl (QbP d e)) H)):=by subst hK;exact W9 hu
def IK (hu:X.A.units+64<Qc4)(hK:X.K=K:=by rfl):fL X (QaF .NotEq) (fun x y H Q=>ZY x y H Q\/(∃d e,Den K H d x/\Den K H e y/\QaK d=true/\QaK e=true/\Q (.bl (!PyData.eqv d e)) H)):=by subst hK;exact XW hu
end
abbrev Keeps (g h:Heap)(c:Gc->Prop):Prop:=∀b o,¬c b->g.get? b=some o->h.get? b=some o
structure yn (prog:Qaf)(w:Qah)(A:Qax)(it S:Gc)(T:String)(fp:Gc->Prop)(n:Nat)(P:Nat->Fk->Heap->Prop)(R:Fk->Fk->Prop)(St:Nat->Heap->Prop):Prop where
 sfp:¬fp S
 ne:it≠S
 ty:∀i h,St i h->∃o,h.get? it=some o/\o.cls = .type T
 self:∀(s:KE) (Q:Fk->KE->Prop) (E:Fk->KE->Prop),St 0 s.heap->Q (.ref it) s->Qac (Qab prog w) A (Qfd (.ref it)) Q E s
 item:∀i (s:KE) (Q:Option Fk->KE->Prop) (E:Fk->KE->Prop),i<n->St i s.heap->S<s.heap.objs.size ->
  (∀v h' tk,Keeps s.heap h' fp->St (i+1) h'->P i v h'->(∀j u,P j u s.heap->R u v)->Q (some v) { s with heap:=h',toks:=tk })->Qac (Qab prog w) A (QbS (.ref it)) Q E s
 stop:∀(s:KE) (Q:Option Fk->KE->Prop) (E:Fk->KE->Prop),St n s.heap->S<s.heap.objs.size->(∀h' tk,Keeps s.heap h' fp->Q none { s with heap:=h',toks:=tk })->Qac (Qab prog w) A (QbS (.ref it)) Q E s
 keepS:∀i h h',St i h->Keeps h h' (· = S)->St i h'
 keepP:∀j v h h',P j v h->Keeps h h' (fun b=>fp b\/b=S)->P j v h'
 nolen:Qbs (.type T) "__len__" = pure none
 nohint:Qbs (.type T) "__length_hint__" = pure none
 nl:(Qa3 T==Qa3 "list")=false
 nt:(Qa3 T==Qa3 "tuple")=false
structure oI (h:Heap)(S:Gc)(i:Nat)(P:Nat->Fk->Heap->Prop)(R:Fk->Fk->Prop)(acc:Array Fk)(c:Nat):Prop where
 ob:h.get? S=some { cls := .type "list",data := .seq acc c }
 sz:acc.size=i
 pw:acc.toList.Pairwise R
 all:∀(j:Nat) v,acc[j]? = some v->P j v h
abbrev p8 (prog:Qaf)(w:Qah)(A:Qax)(R:Qb4->KE->Prop):Fin->KE->Prop:=fun fin s'=>match fin with
 | .done f=>R (.ok f) s'
 | .again c'=>c'.quiet=true/\QaZ (Qab prog w) A c' R s'
section
variable {prog:Qaf}{w:Qah}{A:Qax}{it S:Gc}{T:String}{fp:Gc->Prop}{n:Nat}{P:Nat->Fk->Heap->Prop}{R:Fk->Fk->Prop}{St:Nat->Heap->Prop}
abbrev pG (g:Heap)(S:Gc)(fp:Gc->Prop)(n:Nat)(P:Nat->Fk->Heap->Prop)(R:Fk->Fk->Prop)(s:KE)(Z:KE->Prop):Prop:=
 ∀h' tk acc c,Keeps g h' (fun b=>fp b\/b=S)->oI h' S n P R acc c->Z { s with heap:=h',toks:=tk }
def tL (Fd:yn prog w A.in1 it S T fp n P R St)(hn:n<=Wp){s:KE}{Z:Qb4->KE->Prop}{res:Fk}{g:Heap}(fin:pG g S fp n P R s (Z (.ok (.ret res)))):
  ∀k i h tk acc c,i+k=n->St i h->oI h S i P R acc c->Keeps g h (fun b=>fp b\/b=S) ->
   QaZ (Qab prog w) A (.builtin "list.extend.loop" ⟨[.ref S,.ref it,res],[]⟩) Z { s with heap:=h,toks:=tk }
 | 0,i,h,tk,acc,c,hk,kK,G,kp=>by
  have e:i=n:=by lia
  subst e;exact QaG QbR (be (Fd.stop { s with heap:=h,toks:=tk } _ _ kK (Jf G.ob) fun h' tk' k'=>tz (fin h' tk' acc c (fun b o nb q=>k' b o (fun z=>nb (.inl z)) (kp b o nb q)) ⟨k' _ _ Fd.sfp G.ob,G.sz,G.pw,fun j v e=>Fd.keepP _ _ _ _ (G.all j v e) fun b o nb q=>k' b o (fun z=>nb (.inl z)) q⟩)))
 | k+1,i,h,tk,acc,c,hk,kK,G,kp=>by
  refine QaG QbR (be (Fd.item i { s with heap:=h,toks:=tk } _ _ ⋯ kK (Jf G.ob) fun v h' tk' k' st' pv rv =>?_));have Pa:=k' _ _ Fd.sfp G.ob;have other:Keeps h' (h'.update S (QaH (·.push v))) (· = S):=fun b o nb q=>(Ua _ _ (QaA nb)).trans q;have k2:Keeps h (h'.update S (QaH (·.push v))) (fun b=>fp b\/b=S):=fun b o nb q=>other b o (fun z=>nb (.inr z)) (k' b o (fun z=>nb (.inl z)) q);have sz:=G.sz;refine be (Qba Pa rfl (tz ⟨QaX Qa4 _,(tL Fd hn fin k (i+1) _ tk' (acc.push v) _ ⋯ (Fd.keepS _ _ _ st' other) ⟨J7 _ Pa rfl,by rw[Qb7,sz],?_,fun j u e =>?_⟩ (fun b o nb q=>k2 b o nb (kp b o nb q)))⟩) (by rw[sz];lia) (by show(acc.push v).size<=Wp+1;rw[Qb7,sz];lia))
  ·rw[Qcg];refine Y2.mpr ⟨G.pw,Qcb _ _,fun a ha b hb =>?_⟩;obtain⟨j,hj⟩:=Uk.mp ha;rw[Jz.mp hb];exact rv j a (G.all j a (by simpa using hj))
  ·by_cases hj:j<i
   ·rw[Qfz ⋯] at e;exact Fd.keepP _ _ _ _ (G.all j u (by rw[J2 ⋯];exact e)) k2
   ·have NA:j=i:=by
     have:=(U4.mp e).1;rw[Qb7] at this;lia
    subst NA;have e':(acc.push v)[acc.size]? = some u:=by rw[sz];exact e
    rw[Qfl] at e';cases e';exact Fd.keepP _ _ _ _ pv fun b o nb q=>other b o (fun z=>nb (.inr z)) q
def xE (Fd:yn prog w A.in1 it S T fp n P R St)(hn:n<=Wp){s:KE}{Z:Qb4->KE->Prop}{res:Fk}{c₀:Nat}(kK:St 0 s.heap)(hS:s.heap.get? S=some { cls := .type "list",data := .seq #[] c₀ })
  (fin:pG s.heap S fp n P R s (Z (.ok (.ret res)))) :
  Qac (Qab prog w) A.in1 (Qbb (.ref S) (.ref it) res) (p8 prog w A Z) (fun e s'=>Z (.error e) s') s:=by
 have go:∀h c tk,Keeps s.heap h (· = S)->h.get? S=some { cls := .type "list",data := .seq #[] c } -> QaZ (Qab prog w) A (.builtin "list.extend.loop" ⟨[.ref S,.ref it,res],[]⟩) Z { s with heap:=h,toks:=tk }:=
  fun h c tk k o=>tL Fd hn fin n 0 h tk #[] c ⋯ (Fd.keepS _ _ _ kK k) ⟨o,rfl,.nil,fun j v e=>by simp at e⟩ fun b o nb q=>k b o (fun z=>nb (.inr z)) q
 obtain⟨oi,hoi,hci⟩:=Fd.ty 0 _ kK;have hT:s.TypeIs (.ref it) T:=⟨oi,hoi,hci⟩
 have zj:Qa5 (.ref S) (.ref it)=false:=by simp[Qa5,QaA Fd.ne]
 refine be (QaY hT ?_);simp only[zj,Fd.nl,Fd.nt,if_false];refine be (Fd.self s _ _ kK ?_);have hint:∀Q,Q true s->Qac (Qab prog w) A.in1 (QbC (.ref it)) Q (fun e s'=>Z (.error e) s') s:=fun Q q=>by
  exact be (QcW hT Fd.nolen (Qbj (fun z=>absurd z ∅) fun _=>Qbj (fun z=>absurd z ∅) fun _=>be (QcW hT Fd.nohint (tz q))))
 refine be (Qak (hint _ (Qbj (fun _=>(be (Qbr (be ?_)))) fun _=>tz ⟨QaX Qa4 _,go _ c₀ _ (fun _ _ _ q=>q) hS⟩)));have o1:=J7 (QaH (·.push Qcr)) hS rfl;refine be (Qba hS rfl (Qba o1 rfl (tz ⟨QaX Qa4 _,go _ _ _ (fun b o nb q =>?_) (J7 (QaH (·.pop)) o1 rfl)⟩)));exact(Ua _ _ (QaA nb)).trans ((Ua _ _ (QaA nb)).trans q)
def EU (Fd:yn prog w A.in1 it S T fp n P R St)(hn:n<=Wp){s:KE}{Z:Qb4->KE->Prop}(kK:St 0 s.heap)(hS:s.heap.get? S=some { cls := .type "list",data := .seq #[] })
  (fin:pG s.heap S fp n P R s (Z (.ok (.ret .none)))) :
  Qac (Qab prog w) A.in1 (Builtin.«list.__init__» ⟨[.ref S,.ref it],[]⟩) (p8 prog w A Z) (fun e s'=>Z (.error e) s') s:=by
 refine be (be (Qau hS rfl (tz ?_)));have k1:Keeps s.heap (s.heap.update S (QaH (fun _=>(#[]:Array Fk)))) (· = S):=fun b o nb q=>(Ua _ _ (QaA nb)).trans q;refine be (Qba hS rfl (be (Qcn (xE Fd hn (Fd.keepS _ _ _ kK k1) (J7 (QaH (fun _=>(#[]:Array Fk))) hS rfl) fun h' tk acc c k G =>?_))));exact fin h' tk acc c (fun b o nb q=>k b o nb (k1 b o (fun z=>nb (.inr z)) q)) G
def uI {Q:Fk->KE->Prop}{E:Fk->KE->Prop}(Fd:yn prog w A.in1.in1 it s.heap.objs.size T fp n P R St)(hn:n<=Wp)(kK:∀o,St 0 (s.heap.push o))
  (fin:∀h' tk acc c,Keeps s.heap h' fp->oI h' s.heap.objs.size n P R acc c->Q (.ref s.heap.objs.size) { s with heap:=h',toks:=tk }) :
  Qac (Qab prog w) A (call (.type "list") [.ref it]) Q E s:=by
 refine Qdd (Q₁:=fun obj s₁=>obj = .ref s.heap.objs.size/\s₁={ s with heap:=s.heap.push { cls := .type "list",data := .seq #[] } }) F.called_list (F.typeCall_list_1 _) F.entry_list_init
  (code_list_new _ ⟨rfl,rfl⟩) fun obj s₁ h₁ =>?_
 obtain⟨rfl,rfl⟩:=h₁;have hS:(s.heap.push { cls := .type "list",data := .seq #[] }).get? s.heap.objs.size=some { cls := .type "list",data := .seq #[] }:=Ji _ rfl;exact⟨⟨_,hS,rfl⟩,F.args_list_init_2 _ _,EU Fd hn (kK _) hS fun h' tk acc c k G=>⟨rfl,fin h' tk acc c (fun b o nb q=>(k b o (fun z=>z.elim nb fun z=>cj (Jf q) (Je _) z) (Jb _ q))) G⟩⟩
end
abbrev gT (h:Heap)(z TI TO a:Gc)(f:Bool):Prop:=
 h.get? z=some { cls := .type "zip",dict:=none,data := .fields #[QaW a,.bool f,.bool false,.ref TI,.ref TO],slots := #[] }
section
variable {prog:Qaf}{w:Qah}{A:Qax}{E:Fk->KE->Prop}{s:KE}{z TI TO i1 i2 l1 l2 a:Gc}{f:Bool}{oa:Obj}
def mS (hz:gT s.heap z TI TO a f)(ha:s.heap.get? a=some oa)
  (q:∀h,gT h z TI TO a true->U6 z s.heap h->Q false { s with heap:=h }):Qac (Qab prog w) A (Builtin.SmallTypes.ownedTupleIsFree (.ref z)) Q E s:=by
 refine be (Qal hz rfl rfl (be (Qf7 ha (be (Qal hz rfl rfl ?_)))));cases f
 ·exact be (Qai hz (by simp) fun h e k=>tz (q h e k))
 ·exact tz (q s.heap hz (U6.refl _ _))
def vP (D:QcM z TI TO i1 i2 l1 l2)(hz:gT s.heap z TI TO a f)(ha:s.heap.get? a=some oa)(sH:Qbl s.heap TI (.ref i1) (.ref i2))
  (h1:s.heap.IsListIter i1 l1 k) (h2:s.heap.IsListIter i2 l2 k) (tf:s.heap.IsList l1 xs) (xc:s.heap.IsList l2 ys) (hx:xs[k]? = some x) (hy:ys[k]? = some y)
  (q:∀h',gT h' z TI TO a true->h'.IsListIter i1 l1 (k+1)->h'.IsListIter i2 l2 (k+1)->Qbl h' s.heap.objs.size x y->Keeps s.heap h' (fun b=>b=z\/b=i1\/b=i2)->Q (some (.ref s.heap.objs.size)) { s with heap:=h' }) :
  Qac (Qab prog w) A (QbS (.ref z)) Q E s:=by
 have hT:s.TypeIs (.ref z) "zip":=⟨_,hz,rfl⟩
 refine be (QaS (Qao hT QaM (Qav QaM hT QbE ?_ (Qby _))));change Qac _ _ (QbV (QfP (.ref z) 2) _) _ _ _;refine be (Qal hz rfl rfl (be (Qal hz rfl rfl (be (Qau sH rfl (be (mS hz ha fun h0 z0 k0=>be (be (be (Qak (be (Qbk (h1.extBut k0.extBut D.i1z) (tf.extBut k0.extBut D.l1z) hx fun h4 e4 k4=>tz (tz (be (be (Qak (be (Qbk ((h2.extBut k0.extBut D.i2z).extBut k4.extBut D.i12.symm) ((xc.extBut k0.extBut D.l2z).extBut k4.extBut D.l2i1) hy fun h5 e5 k5=>tz (tz (tz (be (Qcv (hsz:=by show 2<=Wp;decide) (tz ⟨_,rfl,tz ?_⟩)))))))))))))))))))))));have hsz:h5.objs.size=s.heap.objs.size:=by rw[k5.1,k4.1,k0.1]
 rw[hsz];refine q (h5.push { cls := .type "tuple",data := .seq #[x,y] }) (Jb _ (k5.extBut _ _ D.i2z.symm (k4.extBut _ _ D.i1z.symm z0))) ((e4.extBut k5.extBut D.i12).at fun o e=>Jb _ e) (e5.at fun o e=>Jb _ e) (by rw[<-hsz];exact Ji _ rfl) fun b o nb e =>?_;exact Jb _ (k5.extBut _ _ (fun z=>nb (.inr (.inr z))) (k4.extBut _ _ (fun z=>nb (.inr (.inl z))) (k0.extBut _ _ (fun z=>nb (.inl z)) e)))
def vo (hh:A.handled=none)(D:QcM z TI TO i1 i2 l1 l2)(hz:gT s.heap z TI TO a f)(ha:s.heap.get? a=some oa)(sH:Qbl s.heap TI (.ref i1) (.ref i2))
  (h1:s.heap.IsListIter i1 l1 k) (h2:s.heap.IsListIter i2 l2 k) (tf:s.heap.IsList l1 xs) (xc:s.heap.IsList l2 ys) (he:xs[k]? = none\/ys[k]? = none)
  (q:∀h',Keeps s.heap h' (fun b=>b=z\/b=i1\/b=i2)->Q none { s with heap:=h' }) :
  Qac (Qab prog w) A (QbS (.ref z)) Q E s:=by
 have hT:s.TypeIs (.ref z) "zip":=⟨_,hz,rfl⟩
 refine be (QaS (Qao hT QaM (Qav QaM hT QbE ?_ (Qby _))));change Qac _ _ (QbV (QfP (.ref z) 2) _) _ _ _;refine be (Qal hz rfl rfl (be (Qal hz rfl rfl (be (Qau sH rfl (be (mS hz ha fun h0 z0 k0=>be (be (be (Qak ?_))))))))));cases hx:xs[k]? with
 | none=>
  refine be (Qd3 hh (h1.extBut k0.extBut D.i1z) (tf.extBut k0.extBut D.l1z) hx fun h4 e k4 oe=>aj.el (oe) _ ?_);rintro o ho hc;exact be (QaE ⟨o,ho,hc⟩ Qbt (tz (q h4 fun b o nb x=>k4 _ _ (fun z=>nb (.inr (.inl z))) (k0.extBut _ _ (fun z=>nb (.inl z)) x))))
 | some x=>
  refine be (Qbk (h1.extBut k0.extBut D.i1z) (tf.extBut k0.extBut D.l1z) hx fun h4 e4 k4=>tz (tz (be (be (Qak (be (Qd3 hh ((h2.extBut k0.extBut D.i2z).extBut k4.extBut D.i12.symm) ((xc.extBut k0.extBut D.l2z).extBut k4.extBut D.l2i1) (he.resolve_left (by rw[hx];exact nofun)) fun h5 e k5 oe=>aj.el (oe) _ ?_)))))));rintro o ho hc;exact be (QaE ⟨o,ho,hc⟩ Qbt (tz (q h5 fun b o nb x=>k5 _ _ (fun z=>nb (.inr (.inr z))) (k4.extBut _ _ (fun z=>nb (.inr (.inl z))) (k0.extBut _ _ (fun z=>nb (.inl z)) x)))))
end
structure yF (z TI TO i1 i2 l1 l2 S:Gc)(xs ys:Array Fk)(i:Nat)(h:Heap):Prop where
 ti:Qbl h TI (.ref i1) (.ref i2)
 to:∃a b,Qbl h TO a b
 it1:h.IsListIter i1 l1 i
 it2:h.IsListIter i2 l2 i
 a1:h.IsList l1 xs
 a2:h.IsList l2 ys
 zp:QfZ h z TI TO .none\/0<i/\∃a f oa,gT h z TI TO a f/\h.get? a=some oa/\S<a
abbrev rH (z TO i1 i2:Gc)(b:Gc):Prop:=b=z\/b=TO\/b=i1\/b=i2
abbrev B6 (S:Gc)(xs ys:Array Fk)(j:Nat)(v:Fk)(h:Heap):Prop:=qM fun a x y=>v = .ref a/\S<a/\xs[j]? = some x/\ys[j]? = some y/\Qbl h a x y
abbrev jS (u v:Fk):Prop:=∃a b,u = .ref a/\v = .ref b/\a<b
def zh {z TI TO i1 i2 l1 l2 S:Gc}{xs ys:Array Fk}(hh:A.handled=none)(D:QcM z TI TO i1 i2 l1 l2)(b1:z<S)(b2:TI<S)(b3:TO<S)(b4:i1<S)(b5:i2<S)(b6:l1<S)(b7:l2<S):
  yn prog w A z S "zip" (rH z TO i1 i2) (min xs.size ys.size) (B6 S xs ys) jS (yF z TI TO i1 i2 l1 l2 S xs ys) where
 sfp:=fun q=>by
  rcases q with q|q|q|q<;>(rw[q] at b1 b3 b4 b5;first|exact absurd b1 (Uh _)|exact absurd b3 (Uh _)|exact absurd b4 (Uh _)|exact absurd b5 (Uh _))
 ne:=Jm b1
 ty:=fun i h st=>by
  rcases st.zp with q|⟨_,a,f,oa,q,_⟩
  ·exact⟨_,q,rfl⟩
  ·exact⟨_,q,rfl⟩
 self:=fun s Q E st q=>by
  rcases st.zp with r|⟨r,_⟩
  ·exact QdI r q
  ·exact absurd r (Uh _)
 item:=fun i s Q E hi st hS q=>by
  obtain⟨ti,⟨a,b,to⟩,it1,it2,a1,a2,zp⟩:=st;have hx:xs[i]? = some (xs[i]'⋯):=J2 ⋯;have hy:ys[i]? = some (ys[i]'⋯):=J2 ⋯;have old:∀j u,B6 S xs ys j u s.heap->jS u (.ref s.heap.objs.size):=fun j u hz_=>aj.el hz_ _ fun a x y e _ _ _ p=>⟨a,_,e,rfl,Jf p⟩
  rcases zp with r|⟨hi0,c,f,oc,r,oc',hc⟩
  ·refine wpAny_pyNext_zip_item D r ti to it1 it2 a1 a2 hx hy fun h' r1 r2 r3 r4 r5 r6 r7 =>?_;have kp:Keeps s.heap h' (rH z TO i1 i2):=fun b o nb e=>r7 b o (fun z=>nb (.inl z)) (fun z=>nb (.inr (.inl z))) (fun z=>nb (.inr (.inr (.inl z)))) (fun z=>nb (.inr (.inr (.inr z)))) e;refine q _ h' s.toks kp ⟨r7 _ _ D.TIz D.TITO D.TIi1 D.TIi2 ti,⟨_,_,r2⟩,r3,r4,a1.at fun o e=>r7 _ _ D.l1z D.l1TO D.l1i1 D.l1i2 e,a2.at fun o e=>r7 _ _ D.l2z D.l2TO D.l2i1 D.l2i2 e,.inr ⟨QdE _,_,_,_,r1,r5,hS⟩⟩ ⟨_,_,_,rfl,hS,hx,hy,r5⟩ old
  ·have ne:∀{b:Gc},b<S->c≠b:=fun hb=>Uj (Qck hb hc);refine vP D r oc' ti it1 it2 a1 a2 hx hy fun h' r1 r2 r3 r4 r5 =>?_;have kp:Keeps s.heap h' (rH z TO i1 i2):=fun b o nb e=>r5 b o (fun z=>z.elim (fun z=>nb (.inl z)) fun z=>nb (.inr (.inr z))) e;refine q _ h' s.toks kp ⟨r5 _ _ (fun z=>z.elim D.TIz fun z=>z.elim D.TIi1 D.TIi2) ti,⟨_,_,r5 _ _ (fun z=>z.elim D.TOz fun z=>z.elim D.TOi1 D.TOi2) to⟩,r2,r3,a1.at fun o e=>r5 _ _ (fun z=>z.elim D.l1z fun z=>z.elim D.l1i1 D.l1i2) e,a2.at fun o e=>r5 _ _ (fun z=>z.elim D.l2z fun z=>z.elim D.l2i1 D.l2i2) e,
    .inr ⟨QdE _,_,_,_,r1,r5 _ _ (fun z=>z.elim (ne b1) fun z=>z.elim (ne b4) (ne b5)) oc',hc⟩⟩ ⟨_,_,_,rfl,hS,hx,hy,r4⟩ old
 stop:=fun s Q E st hS q=>by
  obtain⟨ti,⟨a,b,to⟩,it1,it2,a1,a2,zp⟩:=st;have he:xs[min xs.size ys.size]? = none\/ys[min xs.size ys.size]? = none:=by
   rcases QfX xs.size ys.size with h|h
   ·exact .inl (Ur ⋯)
   ·exact .inr (Ur ⋯)
  rcases zp with r|⟨hi0,c,f,oc,r,oc',hc⟩
  ·exact wpAny_pyNext_zip_end hh D r ti to it1 it2 a1 a2 he fun h' k=>q h' s.toks fun b o nb e=>k b o (fun z=>nb (.inl z)) (fun z=>nb (.inr (.inl z))) (fun z=>nb (.inr (.inr (.inl z)))) (fun z=>nb (.inr (.inr (.inr z)))) e
  ·exact vo hh D r oc' ti it1 it2 a1 a2 he fun h' k=>q h' s.toks fun b o nb e=>k b o (fun z=>z.elim (fun z=>nb (.inl z)) fun z=>nb (.inr (.inr z))) e
 keepS:=fun i h h' st k=>by
  obtain⟨ti,⟨a,b,to⟩,it1,it2,a1,a2,zp⟩:=st;refine⟨k _ _ (Jm b2) ti,⟨a,b,k _ _ (Jm b3) to⟩,it1.at fun o e=>k _ o (Jm b4) e,it2.at fun o e=>k _ o (Jm b5) e,a1.at fun o e=>k _ o (Jm b6) e,a2.at fun o e=>k _ o (Jm b7) e,?_⟩
  rcases zp with r|⟨hi0,c,f,oc,r,oc',hc⟩
  ·exact .inl (k _ _ (Jm b1) r)
  ·exact .inr ⟨hi0,c,f,oc,k _ _ (Jm b1) r,k _ _ (Uj hc) oc',hc⟩
 keepP:=fun j v h h' ⟨a,x,y,e,ha,h1,h2,p⟩ k=>by
  have ne:∀{b:Gc},b<S->a≠b:=fun hb=>Uj (Qck hb ha);exact⟨a,x,y,e,ha,h1,h2,k _ _ (fun z=>z.elim (fun z=>z.elim (ne b1) fun z=>z.elim (ne b3) fun z=>z.elim (ne b4) (ne b5)) (Uj ha)) p⟩
 nolen:=by rw[QcY,QbT];kernel_rfl
 nohint:=by rw[QcY,QbT];kernel_rfl
 nl:=∅
 nt:=∅
def Inv.mT {σ:St}:∀(as:List Gc) (ps:List (List V)) {H:Hp} {s:KE},Inv X pins σ H s->as.Nodup->as.length=ps.length->(∀a∈as,gc X pins H a/\X.s₀.heap.objs.size<=a) ->
  (∀(j:Nat) a p,as[j]? = some a->ps[j]? = some p->p.length<=Wp/\∃aw,Vals p aw/\uS s.heap a aw.toArray) ->
  ∃H',Inv X pins σ H' s/\av H H'/\(∀b,b∉as->H' b=H b)/\∀(j:Nat) a p,as[j]? = some a->ps[j]? = some p->H' a=some (.tup p)
 | [],ps,H,s,I,_,_,_,_=>⟨H,I,av.refl H,fun _ _=>rfl,fun j a p h _=>by simp at h⟩
 | a::as,[],H,s,I,_,hl,_,_=>by simp at hl
 | a::as,p::ps,H,s,I,nd,hl,hf,ho=>by
  obtain⟨na,Rk⟩:=U9.mp nd;obtain⟨fa,sa⟩:=hf a Jo;obtain⟨hz,aw,rv,ht⟩:=ho 0 a p rfl rfl;obtain⟨H',I',sm,same,all⟩:=Inv.mT as ps (I.adopt (o := .tup p) fa sa ⟨hz,aw,rv,ht⟩) Rk (by simpa using hl) (fun b hb=>by
   obtain⟨fb,sb⟩:=hf b (Jl _ hb);exact⟨⟨by rw[ao (fun e=>na (by rw[<-e];exact hb))];exact fb.1,fb.2⟩,sb⟩) (fun j b q h1 h2=>ho (j+1) b q h1 h2)
  refine⟨H',I',fun b o e=>sm b o (by rw[ao (ay e fa.1)];exact e),fun b hb =>?_,fun j b q h1 h2 =>?_⟩
  ·rw[same b fun z=>hb (Jl _ z),ao (fun z=>hb (by rw[z];exact Jo))]
  ·cases j with
   | zero=>
    cases h1;cases h2;rw[same a na];exact au
   | succ j=>exact all j b q h1 h2
def pI:∀{l:List Fk},(∀v∈l,∃a,v = .ref a)->∃as:List Gc,l=as.map Qan
 | [],_=>⟨[],rfl⟩
 | v::r,h=>by
  obtain⟨a,rfl⟩:=h v Jo;obtain⟨as,rfl⟩:=pI fun u hu=>h u (Jl _ hu);exact⟨a::as,rfl⟩
section
variable {X:Cx}
def tLZ (K:Ja)(ta:TA):TE:=fun σ H Q=>ta σ H fun vs H1=>tG fun l1 l2 xs ys=>vs=[.ref l1,.ref l2]/\bA K H1 l1 xs/\bA K H1 l2 ys /\
 ∀H' p (as:List Gc),av H1 H'->H1 p=none->H' p=some (.lst (as.map V.ref))->as.length=min xs.length ys.length ->
  (∀(j:Nat) a x y,as[j]? = some a->xs[j]? = some x->ys[j]? = some y->H1 a=none/\H' a=some (.tup [x,y]))->Q (.ref p) H'
def tH {xs ys:List V}(j:Nat)(x y:V)(hx:xs[j]? = some x)(hy:ys[j]? = some y):((xs.zip ys).map fun q=>[q.1,q.2])[j]? = some [x,y]:=by grind
def Bh {p p2 pos kU:Pos}(hc:X.calm=true)(Lx:Gl X "list")(LY:X.mg "list" = none)(Rz:Gl X "zip")(Ta:X.mg "zip" = none)(ha:PA X [a,b] ta)
  (Du:QaR "list" = some (.type "list"):=by first|rfl|decide) (SU:QaR "zip" = some (.type "zip"):=by first|rfl|decide)
  (Ma:Qaj [.Call (.Name "zip" p2) [a,b] [] kU] X.env=[(false,QaL (.Call (.Name "zip" p2) [a,b] [] kU) X.env)]:=by rfl)
  (hs:Qaj [a,b] X.env=[(false,QaL a X.env),(false,QaL b X.env)]:=by rfl) (xZ:Qaj [b] X.env=[(false,QaL b X.env)]:=by rfl) :
  PE X (.Call (.Name "list" p) [.Call (.Name "zip" p2) [a,b] [] kU] [] pos) (tLZ X.K ta):=by
 refine fun pins s σ H Q I h=>QaJ (dW I Lx LY Du (Qam (Qa9 (Call_ (dW I Rz Ta SU (Qam (bg (ha s σ H _ I h) fun us s1 hz_=>aj.el hz_ _ fun vs H1 I1 r1 q1 =>?_) (by rw[hs,xZ]) (by rw[xZ];rfl))))) Ma rfl));obtain⟨l1,l2,xs,ys,e,q1,q2,q⟩:=q1;subst e;obtain⟨u,w',rfl,r1,r2⟩:=vals2 r1;cases r1;cases r2;obtain⟨its1,rv1,p1,hz1⟩:=I1.list q1;refine aj.el (I1.list q2) _ ?_;rintro its2 rv2 p2 hz2;have e1:=rv1.length;have e2:=rv2.length;have a1:l1<s1.heap.objs.size:=by obtain⟨_,e,_⟩:=p1.isList;exact Jf e
 have a2:l2<s1.heap.objs.size:=by obtain⟨_,e,_⟩:=p2.isList;exact Jf e
 refine call_zip_2 p1.isList p2.isList fun h' hz sH Bf hi1 hi2 hsz hk=>Qbv ?_;have uw:s1.heap.objs.size<=h'.objs.size:=by rw[hsz];exact Us _ _
 have fw:∀n,n<5->s1.heap.objs.size+n<h'.objs.size:=fun n hn=>by rw[hsz];exact Qd6 hn _
 have zs:∀o,yF (s1.heap.objs.size+4) (s1.heap.objs.size+2) (s1.heap.objs.size+3) s1.heap.objs.size (s1.heap.objs.size+1) l1 l2 h'.objs.size its1.toArray its2.toArray 0 (h'.push o):=fun o=>
  ⟨Jb _ sH,⟨_,_,Jb _ Bf⟩,hi1.at fun o e=>Jb _ e,hi2.at fun o e=>Jb _ e,(p1.isList.at fun o e=>hk _ o e).push _,(p2.isList.at fun o e=>hk _ o e).push _,.inl (Jb _ hz)⟩
 refine uI (zh (I.ok.hd hc) (QeN a1 a2) (fw 4 ∅) (fw 2 ∅) (fw 3 ∅) (fw 0 ∅) (fw 1 ∅) (Jt a1 uw) (Jt a2 uw)) (by simp;lia) zs fun h2 tk acc c hk2 G =>?_;obtain⟨hS2,hsz2,hpw,jJ⟩:=G;obtain⟨as,hR⟩:=pI (l:=acc.toList) fun v hv=>by
  obtain⟨j,hj⟩:=Uk.mp hv;obtain⟨a,_,_,e,_⟩:=jJ j v (by simpa using hj);exact⟨a,e⟩
 have jK:∀j a,as[j]? = some a->∃x y,h'.objs.size<a/\its1.toArray[j]? = some x/\its2.toArray[j]? = some y/\Qbl h2 a x y:=fun j a h=>by
  obtain⟨a',x,y,e,g⟩:=jJ j (.ref a) (by
   have:acc.toList[j]? = some (.ref a):=by rw[hR,Jk,h];rfl
   simpa using this)
  cases e;exact⟨x,y,g⟩
 have above:∀a∈as,h'.objs.size<a:=fun a ha=>by
  obtain⟨j,hj⟩:=Uk.mp ha;obtain⟨_,_,g,_⟩:=jK j a hj;exact g
 have old:∀b o,s1.heap.get? b=some o->h2.get? b=some o:=fun b o e=>by
  have gt:∀n,b≠s1.heap.objs.size+n:=fun n=>Jm (Jt (Jf e) (Us _ _));exact hk2 b o (fun z=>z.elim (gt 4) fun z=>z.elim (gt 3) fun z=>z.elim (gt 0) (gt 1)) (hk b o e)
 have I2:Inv X pins σ H1 { s1 with heap:=h2,toks:=tk }:=I1.kept old;have uz:=fun a ha=>Yj (Ub uw (above a ha));have nd:as.Nodup:=by
  rw[hR,Qel] at hpw;exact hpw.imp fun hz_=>aj.el hz_ _ fun a b e1 e2 h=>by cases e1;cases e2;exact Jm h
 have eX:∀a,s1.heap.objs.size<=a->gc X pins H1 a/\X.s₀.heap.objs.size<=a:=fun a ha=>⟨I1.eX ha (I1.bq.fresh ha),Jh I1.sz ha⟩
 have K5:as.length=min xs.length ys.length:=by
  have z:acc.toList.length=as.length:=by rw[hR,Jc]
  simp at z hsz2;lia
 obtain⟨H',I',sm,same,all⟩:=I2.mT as ((xs.zip ys).map fun q=>[q.1,q.2]) nd (by rw[Jc,Yr];lia) (fun a ha=>eX a (uz a ha)) (fun j a pp h1 h2'=>by
  refine aj.el (jK j a h1) _ ?_;rintro x y _ g1 g2 g3;refine aj.el (l6 rv1 g1) _ ?_;rintro vx gx rx;refine aj.el (l6 rv2 g2) _ ?_;rintro vy gy ry;have z:=tH j vx vy gx gy;rw[z] at h2';cases h2';exact⟨by show 2<=Wp;decide,[x,y],.cons rx (.cons ry .nil),⟨_,g3,rfl,rfl,_,rfl⟩⟩)
 have Gp:=fun hm=>Uh _ (above _ hm);have nC:=I1.bq.fresh uw;obtain⟨fS,sS⟩:=eX h'.objs.size uw;have I3:=I'.adopt (o := .lst (as.map V.ref)) ⟨by rw[same _ Gp];exact nC,fS.2⟩ sS ⟨by rw[Jc];lia,acc.toList,c,by
  rw[hR];clear hS2 hR all same I' sm uz nd K5 Gp above jK
  induction as with
  | nil=>exact .nil
  | cons a r ih=>exact .cons rfl ih,by simpa using hS2⟩
 refine⟨.ref h'.objs.size,_,I3,rfl,q _ _ as (fun b o e =>?_) nC au K5 fun j a x y h1 h2' h3'=>⟨(eX a (uz a (Jy h1))).1.1,?_⟩⟩
 ·rw[ao (ay e nC)];exact sm b o e
 ·rw[ao (fun z=>Gp (by rw[<-z];exact Jy h1))];exact all j a [x,y] h1 (tH j x y h2' h3')
end
structure hW (H:Hp)(p:Gc)(o:HO)(H':Hp):Prop where
 nn:H p=none
 eq:H'=upd H p o
def hW.at {p:Gc}{o:HO}(n:hW H p o H'):H' p=some o:=by rw[n.eq];exact au
def hW.ne {p a:Gc}{o:HO}(n:hW H p o H')(h:a≠p):H' a=H a:=by rw[n.eq];exact ao h
def hW.same {p:Gc}{o:HO}(n:hW H p o H'):av H H':=fun a u e=>by rw[n.ne (ay e n.nn)];exact e
def hW.back {p a:Gc}{o:HO}(n:hW H p o H')(h:H' a=none):H a=none:=by
 cases e:H a with
 | none=>rfl
 | some u=>rw[n.same a u e] at h;cases h
structure JA (H:Hp)(p:Gc)(o:HO)(H':Hp):Prop where
 eq:H'=upd H p o
def JA.at {p:Gc}{o:HO}(n:JA H p o H'):H' p=some o:=by rw[n.eq];exact au
def JA.ne {p a:Gc}{o:HO}(n:JA H p o H')(h:a≠p):H' a=H a:=by rw[n.eq];exact ao h
def ph {F:Gc->Hp->Prop}:(∀p,H p=none->F p (upd H p o)) = ∀p H',hW H p o H'->F p H':=
 propext ⟨fun h p H' n=>by rw[n.eq];exact h p n.nn,fun h p hp=>h p _ ⟨hp,rfl⟩⟩
def Mt {F:Hp->Prop}:F (upd H p o) = ∀H',JA H p o H'->F H':=
 propext ⟨fun h H' n=>by rw[n.eq];exact h,fun h=>h _ ⟨rfl⟩⟩
section
variable {X:Cx}{pos:Pos}{es:List QaB}{t:TA}
def MK (t:TA):TE:=fun σ H Q=>t σ H fun xs H1=>xs.length<=Wp/\∀p H',hW H1 p (.tup xs) H'->Q (.ref p) H'
def Ni (t:TA):TE:=fun σ H Q=>t σ H fun xs H1=>xs.length<=Wp/\∀p H',hW H1 p (.lst xs) H'->Q (.ref p) H'
def eN (h:PA X es t):PE X (.Tuple es x1 pos) (MK t):=by
 have e:MK t=Q6 t:=by
  funext σ H Q
  show t σ H _=t σ H _
  congr 1;funext xs H1
  exact congrArg (_ /\ ·) (ph).symm
 rw[e];exact G5 h
def il (h:PA X es t):PE X (.List es pos) (Ni t):=by
 have e:Ni t=Se t:=by
  funext σ H Q
  show t σ H _=t σ H _
  congr 1;funext xs H1
  exact congrArg (_ /\ ·) (ph).symm
 rw[e];exact OY h
def BD (AF:List (TE×TE)):TE:=fun σ H Q=>∀p H0,hW H p (.dK []) H0->pU AF σ H0 fun ps H2=>H2 p=some (.dK [])/\∃kvs,ps=kvs.map (fun kv=>(kV kv.1,kv.2))/\kvs.length<=15/\∀H3,JA H2 p (.dK (cT [] kvs)) H3->Q (.ref p) H3
def RN (h:S1 X pos keys values AF)(jJ:keys.all (·.isSome)=true)(hl:keys.length=values.length)(h0:keys≠[])
  (ZV:keys.length<=15):PE X (.Dict keys values pos) (BD AF):=by
 have e:BD AF=HZ AF:=by
  funext σ H Q
  unfold BD HZ;rw[ph (F:=fun p H0=>pU AF σ H0 fun ps H2=>H2 p=some (.dK [])/\∃kvs,ps=kvs.map (fun kv=>(kV kv.1,kv.2))/\kvs.length<=15/\Q (.ref p) (upd H2 p (.dK (cT [] kvs))))];simp only[<-Mt]
 rw[e];exact Ml h jJ hl h0 ZV
end
section
variable {X:Cx}(K:Ja)
def Xa (K:Ja):V->Option Int->Option Int->Hp->VK->Prop:=fun x lo hi H Q=>(eZ fun a xs=>x = .ref a/\bA K H a xs/\∀p H',hW H p (.lst (ly xs lo hi)) H'->Q (.ref p) H')\/(∃z,x = .str z/\z.length<=Wp/\Q (.str (QaT z lo hi)) H)
def Vb (hK:X.K=K:=by rfl):FJ X (Xa K):=by
 subst hK;refine fun pins s σ H x v vl vu lo hi sl Q I rx hs pl pu q=>SO s σ H x v vl vu lo hi sl Q I rx hs pl pu ?_
 rcases q with ⟨a,xs,e,h,q⟩|q
 ·exact .inl ⟨a,xs,e,h,fun p hp=>q p _ ⟨hp,rfl⟩⟩
 ·exact .inr q
def FX (hK:X.K=K:=by rfl):bF X (.type "list") (fun xs H Q=>∃p ys,xs=[.ref p]/\(bA K H p ys\/bG K H p ys)/\∀l H',hW H l (.lst ys) H'->Q (.ref l) H'):=by
 subst hK;refine fun pins s σ H xs us Q I r h=>aj.el (h) _ ?_;rintro p ys e h q;exact uZ s σ H xs us Q I r ⟨p,ys,e,h,fun l hl=>q l _ ⟨hl,rfl⟩⟩
def nY (hK:X.K=K:=by rfl):bF X (.type "tuple") (fun xs H Q=>∃p ys,xs=[.ref p]/\((bA K H p ys/\∀l H',hW H l (.tup ys) H'->Q (.ref l) H')\/(bG K H p ys/\Q (.ref p) H))):=by
 subst hK;refine fun pins s σ H xs us Q I r h=>aj.el (h) _ ?_;rintro p ys e h;refine sN s σ H xs us Q I r ⟨p,ys,e,?_⟩
 rcases h with ⟨h,q⟩|h
 ·exact .inl ⟨h,fun l hl=>q l _ ⟨hl,rfl⟩⟩
 ·exact .inr h
end
section
variable {X:Cx}
def Te:R2:=fun x y H Q=>(eZ fun i j=>x = .int i/\y = .int j/\Q (.int (i+j)) H)\/(∃i j,x = .str i/\y = .str j/\i.length+j.length<=Wp/\Q (.str (i++j)) H) \/
 tG fun l b xs zs=>x = .ref l/\y = .ref b/\H l=some (.lst xs)/\H b=some (.lst zs)/\xs.length+zs.length<=Wp/\∀p H',hW H p (.lst (xs++zs)) H'->Q (.ref p) H'
def cu:fL X (Qbu .Add) Te:=by
 refine fun pins s σ H x y v u Q I rx ry h=>RR s σ H x y v u Q I rx ry ?_
 rcases h with h|h|⟨l,b,xs,zs,e1,e2,h1,h2,h3,q⟩
 ·exact .inl h
 ·exact .inr (.inl h)
 ·exact .inr (.inr ⟨l,b,xs,zs,e1,e2,h1,h2,h3,fun p hp=>q p _ ⟨hp,rfl⟩⟩)
def ML:R2:=fun x y H Q=>(eZ fun i j=>x = .int i/\y = .int j/\zJ i j/\Q (.int (i*j)) H) \/
 qM fun l k xs=>x = .ref l/\y = .int k/\H l=some (.lst xs) /\ -(2^63)<=k/\k<2^63/\xs.length*k.toNat<=Wp/\∀p H',hW H p (.lst (J0 k.toNat xs).flatten) H'->Q (.ref p) H'
def rD:fL X (Qbu .Mult) ML:=by
 refine fun pins s σ H x y v u Q I rx ry h=>Q1 s σ H x y v u Q I rx ry ?_
 rcases h with h|⟨l,k,xs,e1,e2,h1,h2,h3,h4,q⟩
 ·exact .inl h
 ·exact .inr ⟨l,k,xs,e1,e2,h1,h2,h3,h4,fun p hp=>q p _ ⟨hp,rfl⟩⟩
def KG:bF X (.builtin "divmod") (fun xs H Q=>∃i j,xs=[.int i,.int j]/\LI i j/\∀p H',hW H p (.tup [.int (i / j),.int (i%j)]) H'->Q (.ref p) H'):=by
 refine fun pins s σ H xs us Q I r h=>aj.el (h) _ ?_;rintro i j e c q;exact yu s σ H xs us Q I r ⟨i,j,e,c,fun p hp=>q p _ ⟨hp,rfl⟩⟩
def pB:OM X "list.append" (fun x vs H Q=>∃l xs y,x = .ref l/\vs=[y]/\H l=some (.lst xs)/\xs.length<Wp/\∀H',JA H l (.lst (xs++[y])) H'->Q .non H'):=by
 refine fun pins s σ H x xs v us Q I rx rv h=>aj.el (h) _ ?_;rintro l ys y e1 e2 h1 h2 q;exact Fw s σ H x xs v us Q I rx rv ⟨l,ys,y,e1,e2,h1,h2,q _ ⟨rfl⟩⟩
def Pf:OM X "list.pop" (fun x vs H Q=>∃l xs i y,x = .ref l/\vs=[.int i]/\H l=some (.lst xs)/\0<=i/\i<2^63/\xs[i.toNat]? = some y/\∀H',JA H l (.lst (xs.eraseIdx i.toNat)) H'->Q y H'):=by
 refine fun pins s σ H x xs v us Q I rx rv h=>aj.el (h) _ ?_;rintro l ys i y e1 e2 h1 h2 h3 h4 q;refine IQ s σ H x xs v us Q I rx rv ⟨l,ys,i,i.toNat,y,e1,e2,h1,⋯,h3,?_,h4,q _ ⟨rfl⟩⟩;obtain⟨j,hj,hj2,_⟩:=pJ (mV h4);have:FT ys.length i=some i.toNat:=by unfold FT;rw[if_pos h2,if_pos ⋯]
 exact(va this).1
end
def kZ {i:Int}{v: α}(h0:0<=i)(h:xs[i.toNat]? = some v):Ed xs i=some v:=by
 have q:=mV h;have e:((i.toNat:Nat):Int)=i:=by lia
 rw[e] at q;exact q
def FP:Qae->String
 | .none => "NoneType"
 | .bool _ => "bool"
 | .int _ => "int"
 | .str _ => "str"
 | .list _ => "list"
 | .tuple _ => "tuple"
 | .dict _ => "dict"
def RX (d:Qae)(T:String):Bool:=FP d==T||(FP d == "bool" && T == "int")
def uU (K:Ja)(d:Qae):Ug K (.type (FP d)) (.type "bool")=some (RX d "bool")/\Ug K (.type (FP d)) (.type "int")=some (RX d "int")/\Ug K (.type (FP d)) (.type "str")=some (RX d "str") /\
  Ug K (.type (FP d)) (.type "list")=some (RX d "list")/\Ug K (.type (FP d)) (.type "tuple")=some (RX d "tuple"):=by
 cases d<;>exact⟨rfl,rfl,rfl,rfl,rfl⟩
section
variable {X:Cx}
def B7 {σ:St}{H:Hp}{s:KE}{x:V}{u:Fk}{d:Qae}(I:Inv X pins σ H s)(rx:RelV x u)(h:Den X.K H d x):∃HH,PySem.W.KitX X.K u (.type (FP d)) HH/\HH s.heap/\u ≠ .builtin "__main__.__loader__#opaque":=by
 cases d with
 | none=>unfold Den at h;subst h;cases rx;exact⟨_,Qf4,QaO,nofun⟩
 | bool b=>unfold Den at h;subst h;cases rx;exact⟨_,Qf6,QaO,nofun⟩
 | int i=>unfold Den at h;subst h;obtain⟨t,rfl⟩:=rx;exact⟨_,PySem.W.kitx_int,QaO,nofun⟩
 | str y=>unfold Den at h;subst h;obtain⟨t,rfl⟩:=rx;exact⟨_,PySem.W.kitx_str,QaO,nofun⟩
 | list ds=>
  unfold Den at h;refine aj.el (h) _ ?_;rintro a vs rfl h2 _;cases rx;obtain⟨aw,_,⟨o,n,e1,e2,_⟩,_⟩:=I.list h2;exact⟨_,Qd4,⟨o,e1,e2⟩,nofun⟩
 | tuple ds=>
  unfold Den at h;refine aj.el (h) _ ?_;rintro a vs rfl h2 _;cases rx;obtain⟨aw,_,⟨o,e1,e2,_⟩,_⟩:=I.tuple h2;exact⟨_,QfU,⟨o,e1,e2⟩,nofun⟩
 | dict _=>unfold Den at h;exact h.elim
def EC:bF X (.builtin "isinstance") (fun xs H Q=>∃x T d b,xs=[x,.ty T]/\Den X.K H d x/\Ug X.K (.type (FP d)) (.type T)=some b/\Q (.bl b) H):=by
 refine fun pins s σ H xs us Q I r h=>aj.el (h) _ ?_;rintro x T d b rfl hd e q;refine aj.el (vals2 r) _ ?_;rintro u w' rfl r1 r2;cases r2;refine aj.el (B7 I r1 hd) _ ?_;rintro HH Z hh hx;exact U8 Z I.iA hh e hx fun tk=>⟨.bl b,H,I.tok _,rfl,q⟩
def Aj:bF X (.builtin "isinstance") (fun xs H Q=>∃(x:V) (p:Gc) (Ts:List String) (d:Qae) (b:Bool),xs=[x,.ref p]/\H p=some (.tup (Ts.map V.ty))/\Den X.K H d x/\PySem.W.kitAny X.K (.type (FP d)) (Ts.map Qa3)=some b/\Q (.bl b) H):=by
 refine fun pins s σ H xs us Q I r h=>aj.el (h) _ ?_;rintro x p Ts d b rfl hp hd e q;refine aj.el (vals2 r) _ ?_;rintro u w' rfl r1 r2;cases r2;refine aj.el (B7 I r1 hd) _ ?_;rintro HH Z hh hx;obtain⟨hz,aw,rv,o,h1,rS,h2,n,h3⟩:=(show bw X.prog X.w H s.heap p (.tup (Ts.map V.ty)) from I.bq p _ hp)
 have ei:aw=Ts.map Qa3:=by
  clear e hp h3 h2 h1 rS hz
  induction Ts generalizing aw with
  | nil=>cases rv;rfl
  | cons T Ts ih=>
   cases rv with
   | cons q1 q2=>cases q1;rw[ih _ q2];rfl
 subst ei;obtain⟨cls,dd,data,sl⟩:=o;subst h2 h3;exact PySem.W.kia_tup Z I.iA hh h1 e hx fun tk=>⟨.bl b,H,I.tok _,rfl,q⟩
def Zz (K:Ja):List V->Hp->VK->Prop:=fun xs H Q=>(∃x T d b,xs=[x,.ty T]/\Den K H d x/\Ug K (.type (FP d)) (.type T)=some b/\Q (.bl b) H) \/
 ∃x T t b,xs=[x,.ty T]/\mh K H x t/\Ug K t (.type T)=some b/\Q (.bl b) H
def jo (K:Ja)(hK:X.K=K:=by rfl):bF X (.builtin "isinstance") (Zz K):=by subst hK;exact EC.or Gh
def Rt (K:Ja):List V->Hp->VK->Prop:=fun xs H Q=>∃(x:V) (p:Gc) (Ts:List String) (d:Qae) (b:Bool),xs=[x,.ref p]/\H p=some (.tup (Ts.map V.ty))/\Den K H d x/\PySem.W.kitAny K (.type (FP d)) (Ts.map Qa3)=some b/\Q (.bl b) H
def R1 (K:Ja)(hK:X.K=K:=by rfl):bF X (.builtin "isinstance") (Rt K):=by subst hK;exact Aj
end
def YV (k:Bool):String:=if k then "tuple" else "list"
def GB (k:Bool):String:=if k then "tuple_iterator" else "list_iterator"
def fh (k:Bool)(h:Heap)(a:Gc)(aw:Array Fk):Prop:=∃o,h.get? a=some o/\o.cls = .type (YV k)/\∃n,o.data = .seq aw n
def jj (k:Bool)(h:Heap)(it a:Gc)(i:Nat):Prop:=∃o,h.get? it=some o/\o.cls = .type (GB k)/\o.data = .fields #[.ref a,.int i 0]
def fh.at {a:Gc}{aw:Array Fk}(x:fh k h a aw)(e:∀o,h.get? a=some o->h'.get? a=some o):fh k h' a aw:=let ⟨o,ho,r⟩:=x; ⟨o,e _ ho,r⟩
def jj.at {it a:Gc}{i:Nat}(x:jj k h it a i)(e:∀o,h.get? it=some o->h'.get? it=some o):jj k h' it a i:=let ⟨o,ho,r⟩:=x; ⟨o,e _ ho,r⟩
def fh.lt (x:fh k h a aw):a<h.objs.size:=let ⟨_,e,_⟩:=x;Jf e
def jj.lt (x:jj k h it a i):it<h.objs.size:=let ⟨_,e,_⟩:=x;Jf e
section
variable {prog:Qaf}{w:Qah}{A:Qax}{E:Fk->KE->Prop}{s:KE}{k:Bool}{it a:Gc}{i:Nat}{aw:Array Fk}
def qC (h1:jj k s.heap it a i)(h2:fh k s.heap a aw)(hx:aw[i]? = some x)
  (q:∀h',jj k h' it a (i+1)->U6 it s.heap h'->Q x { s with heap:=h' }):Qac (Qab prog w) A (QdP (.ref it)) Q E s:=by
 cases k with
 | false=>exact Qbk h1 h2 hx q
 | true=>
  obtain⟨o,ho,hc,hd⟩:=h1;obtain⟨ol,hol,_,nl,hdl⟩:=h2;have hT:s.TypeIs (.ref it) "tuple_iterator":=⟨o,ho,hc⟩
  refine be (Qao hT QbZ (Qav QbZ hT Qfu ?_ (Qfk _)));change Qac _ _ (QbV (QfP (.ref it) 0) _) _ _ s;refine be (Qal ho hd rfl (be (Qal ho hd rfl (be (Qau hol hdl ?_)))));simp only[Ut,hx];refine be (Qda ho hd (by simp) (tz ⟨x,rfl,tz (q _ ⟨_,J7 _ ho (QdN (Qc0 hd _)),(Obj.cls_mapFields ..).trans hc,?_⟩ (U6.update ..))⟩));rw[Qc0 hd];simp[QaW]
def yd (hh:A.handled=none)(h1:jj k s.heap it a i)(h2:fh k s.heap a aw)(hx:aw[i]? = none)
  (q:∀h' e,Heap.ExtBut it s.heap h'->(∃o,h'.get? e=some o/\o.cls = .type "StopIteration")->E (.ref e) { s with heap:=h' }):Qac (Qab prog w) A (QdP (.ref it)) Q E s:=by
 cases k with
 | false=>exact Qd3 hh h1 h2 hx q
 | true=>
  obtain⟨o,ho,hc,hd⟩:=h1;obtain⟨ol,hol,_,nl,hdl⟩:=h2;have hT:s.TypeIs (.ref it) "tuple_iterator":=⟨o,ho,hc⟩
  refine be (Qao hT QbZ (Qav QbZ hT Qfu ?_ (Qfk _)));change Qac _ _ (QbV (QfP (.ref it) 0) _) _ _ s;refine be (Qal ho hd rfl (be (Qal ho hd rfl (be (Qau hol hdl ?_)))));simp only[Ut,hx];refine be (Qbr (be (Qda ho hd (by simp) (be (be (QaQ (be (wpAny_of_eq (by first|rfl|(simp only[];rfl)) (QaQ (be (wpAny_handled ?_)) (by size_fits)))) (by size_fits)))))));rw[show A.in1.handled=none from hh];exact be (tz (wpAny_throw (q _ _ (((U6.update ..).extBut.push _).push _) ⟨_,Ji _ rfl,rfl⟩)))
end
structure yi (k1 k2:Bool)(z TI TO i1 i2 l1 l2:Gc)(i:Nat)(h:Heap):Prop where
 zp:QfZ h z TI TO .none
 ti:Qbl h TI (.ref i1) (.ref i2)
 to:∃a b,Qbl h TO a b
 it1:jj k1 h i1 l1 i
 it2:jj k2 h i2 l2 i
section
variable {prog:Qaf}{w:Qah}{A:Qax}{E:Fk->KE->Prop}{s:KE}{k1 k2:Bool}{z TI TO i1 i2 l1 l2:Gc}{i:Nat}{xs ys:Array Fk}
abbrev NQ (z TO i1 i2:Gc)(b:Gc):Prop:=b=z\/b=TO\/b=i1\/b=i2
def ET (D:QcM z TI TO i1 i2 l1 l2)(st:yi k1 k2 z TI TO i1 i2 l1 l2 i s.heap)(tf:fh k1 s.heap l1 xs)(xc:fh k2 s.heap l2 ys)(hx:xs[i]? = some x)(hy:ys[i]? = some y)
  (q:∀h',QfZ h' z TI TO (QaW s.heap.objs.size)->Qbl h' TO x y->jj k1 h' i1 l1 (i+1)->jj k2 h' i2 l2 (i+1)->Qbl h' s.heap.objs.size x y->Keeps s.heap h' (NQ z TO i1 i2)->Q (some (.ref s.heap.objs.size)) { s with heap:=h' }) :
  Qac (Qab prog w) A (QbS (.ref z)) Q E s:=by
 obtain⟨hz,sH,⟨a,b,Bf⟩,h1,h2⟩:=st;have hT:s.TypeIs (.ref z) "zip":=⟨_,hz,rfl⟩
 refine be (QaS (Qao hT QaM (Qav QaM hT QbE ?_ (Qby _))));change Qac _ _ (QbV (QfP (.ref z) 2) _) _ _ _;refine be (Qal hz rfl rfl (be (Qal hz rfl rfl (be (Qau sH rfl (be (be (Qal hz rfl rfl (tz (be (Qbr (be (Qal hz rfl rfl (be (Qai hz (by simp) fun g1 z1 e1=>be (be (be (QcJ (be (qC (h1.at fun o e=>e1.extBut _ _ D.i1z e) (tf.at fun o e=>e1.extBut _ _ D.l1z e) hx fun g2 it1 e2=>tz ?_))))))))))))))))))));have to2:=e2.extBut _ _ D.TOi1 (e1.extBut _ _ D.TOz Bf);refine be (Qau to2 rfl (be (Qb1 to2 fun g3 to3 e3=>be (Qcn (tz ?_)))));have EO:Keeps s.heap g3 (fun c=>c=z\/c=i1\/c=TO):=fun c o nc e=>e3.extBut _ _ (fun q=>nc (.inr (.inr q))) (e2.extBut _ _ (fun q=>nc (.inr (.inl q))) (e1.extBut _ _ (fun q=>nc (.inl q)) e));refine be (be (QcJ (be (qC (h2.at fun o e=>EO _ _ (fun q=>q.elim D.i2z fun q=>q.elim D.i12.symm D.TOi2.symm) e) (xc.at fun o e=>EO _ _ (fun q=>q.elim D.l2z fun q=>q.elim D.l2i1 D.l2TO) e) hy fun g4 it2 e4=>tz ?_))));have QY:=e4.extBut _ _ D.TOi2 to3;refine be (Qau QY rfl (be (Qb1 QY fun g5 K1 e5=>be (Qcn (tz (tz ?_))))));have K1:Qbl g5 TO x y:=K1;refine be (Qau K1 rfl (be (Qcv ?_)));have hsz:g5.objs.size=s.heap.objs.size:=by rw[e5.1,e4.1,e3.1,e2.1,e1.1]
 have z5:=e5.extBut _ _ D.TOz.symm (e4.extBut _ _ D.i2z.symm (e3.extBut _ _ D.TOz.symm (e2.extBut _ _ D.i1z.symm z1)));have k5:Keeps s.heap g5 (NQ z TO i1 i2):=fun c o nc e=>e5.extBut _ _ (fun q=>nc (.inr (.inl q))) (e4.extBut _ _ (fun q=>nc (.inr (.inr (.inr q)))) (EO c o (fun q=>q.elim (fun q=>nc (.inl q)) fun q=>q.elim (fun q=>nc (.inr (.inr (.inl q)))) fun q=>nc (.inr (.inl q))) e));have RK:=Jf z5;refine be ?_;have z6:QfZ (g5.push { cls := .type "tuple",data := .seq #[x,y] }) z TI TO .ellipsis:=Jb _ z5;refine be (Qai z6 (by simp) fun g7 z7 e7=>Qai z7 (by simp) fun g8 z8 e8=>tz ⟨_,rfl,tz ?_⟩);have up:∀c o,c≠z->g5.get? c=some o->g8.get? c=some o:=fun c o c1 e=>e8.extBut _ _ c1 (e7.extBut _ _ c1 (Jb _ e));have tp:=e8.extBut _ _ (Uj RK) (e7.extBut _ _ (Uj RK) (Ji _ rfl));rw[hsz] at z8 tp ⊢;exact q g8 z8 (up _ _ D.TOz K1) ((it1.at fun o e=>e5.extBut _ _ D.TOi1.symm (e4.extBut _ _ D.i12 (e3.extBut _ _ D.TOi1.symm e))).at fun o e=>up _ o D.i1z e) ((it2.at fun o e=>e5.extBut _ _ D.TOi2.symm e).at fun o e=>up _ o D.i2z e) tp fun c o nc e=>up c o (fun q=>nc (.inl q)) (k5 c o nc e)
def DE (hh:A.handled=none)(D:QcM z TI TO i1 i2 l1 l2)(st:yi k1 k2 z TI TO i1 i2 l1 l2 i s.heap)(tf:fh k1 s.heap l1 xs)(xc:fh k2 s.heap l2 ys)(Vj:xs[i]? = none\/ys[i]? = none)
  (q:∀h',Keeps s.heap h' (NQ z TO i1 i2)->Q none { s with heap:=h' }):Qac (Qab prog w) A (QbS (.ref z)) Q E s:=by
 obtain⟨hz,sH,⟨a,b,Bf⟩,h1,h2⟩:=st;have hT:s.TypeIs (.ref z) "zip":=⟨_,hz,rfl⟩
 refine be (QaS (Qao hT QaM (Qav QaM hT QbE ?_ (Qby _))));change Qac _ _ (QbV (QfP (.ref z) 2) _) _ _ _;refine be (Qal hz rfl rfl (be (Qal hz rfl rfl (be (Qau sH rfl (be (be (Qal hz rfl rfl (tz (be (Qbr (be (Qal hz rfl rfl (be (Qai hz (by simp) fun g1 z1 e1=>be (be (be (QcJ ?_))))))))))))))))));cases hx:xs[i]? with
 | none=>
  refine be (yd hh (h1.at fun o e=>e1.extBut _ _ D.i1z e) (tf.at fun o e=>e1.extBut _ _ D.l1z e) hx fun g2 e e2 oe=>aj.el (oe) _ ?_);rintro o ho hc;have z2:=e2 _ _ D.i1z.symm z1;have ez:e≠z:=fun q=>by subst q;rw[z2] at ho;cases ho;simp at hc
  exact Qai z2 (by simp) fun g3 _ e3=>be (QaE ⟨o,e3.extBut _ _ ez ho,hc⟩ Qbt (tz (q g3 fun c o nc h=>e3.extBut _ _ (fun q=>nc (.inl q)) (e2 _ _ (fun q=>nc (.inr (.inr (.inl q)))) (e1.extBut _ _ (fun q=>nc (.inl q)) h)))))
 | some x=>
  refine be (qC (h1.at fun o e=>e1.extBut _ _ D.i1z e) (tf.at fun o e=>e1.extBut _ _ D.l1z e) hx fun g2 it1 e2=>tz ?_);have to2:=e2.extBut _ _ D.TOi1 (e1.extBut _ _ D.TOz Bf);refine be (Qau to2 rfl (be (Qb1 to2 fun g3 to3 e3=>be (Qcn (tz ?_)))));have EO:Keeps s.heap g3 (fun c=>c=z\/c=i1\/c=TO):=fun c o nc e=>e3.extBut _ _ (fun q=>nc (.inr (.inr q))) (e2.extBut _ _ (fun q=>nc (.inr (.inl q))) (e1.extBut _ _ (fun q=>nc (.inl q)) e));refine be (be (QcJ (be (yd hh (h2.at fun o e=>EO _ _ (fun q=>q.elim D.i2z fun q=>q.elim D.i12.symm D.TOi2.symm) e) (xc.at fun o e=>EO _ _ (fun q=>q.elim D.l2z fun q=>q.elim D.l2i1 D.l2TO) e) (Vj.resolve_left (by rw[hx];exact nofun)) fun g4 e e4 oe=>aj.el (oe) _ ?_))));rintro o ho hc;have z4:=e4 _ _ D.i2z.symm (e3.extBut _ _ D.TOz.symm (e2.extBut _ _ D.i1z.symm z1));have ez:e≠z:=fun q=>by subst q;rw[z4] at ho;cases ho;simp at hc
  exact Qai z4 (by simp) fun g5 _ e5=>be (QaE ⟨o,e5.extBut _ _ ez ho,hc⟩ Qbt (tz (q g5 fun c o nc h=>e5.extBut _ _ (fun q=>nc (.inl q)) (e4 _ _ (fun q=>nc (.inr (.inr (.inr q)))) (EO c o (fun q=>q.elim (fun q=>nc (.inl q)) fun q=>q.elim (fun q=>nc (.inr (.inr (.inl q)))) fun q=>nc (.inr (.inl q))) h)))))
def yz (h:fh k s.heap a aw)(q:Q (.ref s.heap.objs.size) { s with heap:=s.heap.push { cls := .type (GB k),data := .fields #[.ref a,.int 0 0] } }):Qac (Qab prog w) A (Qfd (.ref a)) Q E s:=by
 cases k with
 | false=>exact Qcu h q
 | true=>exact QeA h q
end
abbrev Lk (k:Bool)(a:Gc):Obj:={ cls := .type (GB k),data := .fields #[.ref a,.int 0 0] }
abbrev zpH (k1 k2:Bool)(h:Heap)(a b:Gc):Heap:=((((h.push (Lk k1 a)).push (Lk k2 b)).push { cls := .type "tuple",data := .seq #[.ref h.objs.size,.ref (h.objs.size+1)] }).push { cls := .type "tuple",data := .seq #[.none,.none] }).push
 { cls := .type "zip",data := .fields #[.none,.bool false,.bool false,.ref (h.objs.size+2),.ref (h.objs.size+3)] }
def GK (k1 k2:Bool)(a b:Gc)(xs ys:Array Fk):
  Meets (Builtin.«zip.__new__» ⟨[.type "zip",.ref a,.ref b],[]⟩) (fun _ R s=>fh k1 s.heap a xs/\fh k2 s.heap b ys/\R (.ok (.ret (.ref (s.heap.objs.size+4)))) { s with heap:=zpH k1 k2 s.heap a b }):=
 .of_wp fun prog w A R s h=>by
  obtain⟨hp,g,d,tk,os⟩:=s;obtain⟨tf,xc,h⟩:=h;have dU:=sub_zip
  wp_walk using yz tf,yz (xc.at fun o e=>Jb _ e)
  refine⟨_,rfl,?_⟩;simp only[Ue] at h ⊢;exact h
section
variable {prog:Qaf}{w:Qah}{A:Qax}{E:Fk->KE->Prop}{s:KE}
def E5 {a b:Gc}{xs ys:Array Fk}{Q:Fk->KE->Prop}(h1:fh k1 s.heap a xs)(h2:fh k2 s.heap b ys)
  (q:∀h',yi k1 k2 (s.heap.objs.size+4) (s.heap.objs.size+2) (s.heap.objs.size+3) s.heap.objs.size (s.heap.objs.size+1) a b 0 h'->(∀c o,s.heap.get? c=some o->h'.get? c=some o)->Q (.ref (s.heap.objs.size+4)) { s with heap:=h' }) :
  Qac (Qab prog w) A (call (.type "zip") [.ref a,.ref b]) Q E s:=by
 refine callType_new F.called_zip rfl (F.typeCall_zip_2 _ _) (F.newCall_zip_2 _ _) (fun obj=>F.args_object_init_3 obj _ _) F.entry_zip_new (GK k1 k2 a b xs ys) ⟨h1,h2,?_⟩;have up:∀{h:Heap} {c:Gc} {o:Obj} p,h.get? c=some o->(h.push p).get? c=some o:=fun p e=>Jb p e;have last:∀{h:Heap} {n:Nat} {p:Obj},h.objs.size=n->p.isFreed=false->(h.push p).get? n=some p:=fun e hf=>by rw[<-e];exact Ji _ hf
 have z1:(s.heap.push (Lk k1 a)).objs.size=s.heap.objs.size+1:=Ue ..;have z2:((s.heap.push (Lk k1 a)).push (Lk k2 b)).objs.size=s.heap.objs.size+2:=by rw[Ue,z1]
 have z3:(((s.heap.push (Lk k1 a)).push (Lk k2 b)).push { cls := .type "tuple",data := .seq #[.ref s.heap.objs.size,.ref (s.heap.objs.size+1)] }).objs.size=s.heap.objs.size+3:=by rw[Ue,z2]
 have z4:((((s.heap.push (Lk k1 a)).push (Lk k2 b)).push { cls := .type "tuple",data := .seq #[.ref s.heap.objs.size,.ref (s.heap.objs.size+1)] }).push { cls := .type "tuple",data := .seq #[.none,.none] }).objs.size=s.heap.objs.size+4:=by rw[Ue,z3]
 have st:yi k1 k2 (s.heap.objs.size+4) (s.heap.objs.size+2) (s.heap.objs.size+3) s.heap.objs.size (s.heap.objs.size+1) a b 0 (zpH k1 k2 s.heap a b):=
  ⟨last z4 rfl,up _ (up _ (last z2 rfl)),⟨.none,.none,up _ (last z3 rfl)⟩,⟨_,up _ (up _ (up _ (up _ (last rfl rfl)))),rfl,rfl⟩,⟨_,up _ (up _ (up _ (last z1 rfl))),rfl,rfl⟩⟩
 exact⟨⟨_,st.zp,rfl⟩,q _ st (fun c o e=>up _ (up _ (up _ (up _ (up _ e)))))⟩
end
def oX (k:Bool)(K:Ja)(H:Hp)(a:Gc)(xs:List V):Prop:=if k=true then bG K H a xs else bA K H a xs
def Inv.Ek {σ:St}{H:Hp}{s:KE}{k:Bool}{a:Gc}{xs:List V}(I:Inv X pins σ H s)(h:oX k X.K H a xs):∃aw,Vals xs aw/\fh k s.heap a aw.toArray/\xs.length<=Wp:=by
 cases k with
 | false=>
  obtain⟨aw,r,⟨o,n,e1,e2,_,e4⟩,z⟩:=I.list h;exact⟨aw,r,⟨o,e1,e2,n,e4⟩,z⟩
 | true=>
  obtain⟨aw,r,⟨o,e1,e2,n,e4⟩,z⟩:=I.tuple h;exact⟨aw,r,⟨o,e1,e2,n,e4⟩,z⟩
def Inv.xo {σ:St}{H:Hp}{s:KE}{k:Bool}{a:Gc}{xs ys:List V}(I:Inv X pins σ H s)(h:oX k X.K H a xs)(h':oX k X.K H a ys):xs=ys:=by
 cases k with
 | false=>exact I.pZ h h'
 | true=>exact I.tF h h'
def Rm (K:Ja)(k1 k2:Bool)(a b:Gc):It:=
 ⟨fun i H=>tG fun xs ys x y=>oX k1 K H a xs/\oX k2 K H b ys/\xs[i]? = some x/\ys[i]? = some y,
   fun i H v H'=>∃T,v = .ref T/\∀xs ys x y,oX k1 K H a xs->oX k2 K H b ys->xs[i]? = some x->ys[i]? = some y->hW H T (.tup [x,y]) H',
   fun i H=>eZ fun xs ys=>oX k1 K H a xs/\oX k2 K H b ys/\(xs.length<=i\/ys.length<=i)⟩
def EK {K:Ja}{elts:List QaB}{k:Nat}{tp:Pos}(k1 k2:Bool)(z TI TO i1 i2 l1 l2:Gc)(D:QcM z TI TO i1 i2 l1 l2):
  Turn P w K (.Tuple elts k tp) (Rm K k1 k2 l1 l2) [z,TI,TO,i1,i2] z (yi k1 k2 z TI TO i1 i2 l1 l2) where
 mem:=by simp
 obj:=fun i h st b hb=>by
  obtain⟨h1,h2,⟨_,_,h3⟩,⟨o4,h4,_,d4⟩,⟨o5,h5,_,d5⟩⟩:=st;simp at hb
  rcases hb with rfl|rfl|rfl|rfl|rfl
  ·exact⟨_,h1,fun _ z=>nomatch z⟩
  ·exact⟨_,h2,fun _ z=>nomatch z⟩
  ·exact⟨_,h3,fun _ z=>nomatch z⟩
  ·exact⟨_,h4,fun v q=>by rw[d4] at q;cases q⟩
  ·exact⟨_,h5,fun v q=>by rw[d5] at q;cases q⟩
 keep:=fun i h h' st hk=>by
  obtain⟨h1,h2,⟨a,b,h3⟩,h4,h5⟩:=st;exact⟨hk z (by simp) _ h1,hk TI (by simp) _ h2,⟨a,b,hk TO (by simp) _ h3⟩,h4.at fun o e=>hk i1 (by simp) o e,h5.at fun o e=>hk i2 (by simp) o e⟩
 item:=fun X hP hw hK hc i pins s σ H E I hf st go=>by
  subst hP hw hK;obtain⟨xs,ys,x,y,q1,q2,e1,e2⟩:=go;refine aj.el (I.Ek q1) _ ?_;rintro its1 r1 p1 _;refine aj.el (I.Ek q2) _ ?_;rintro its2 r2 p2 _;refine aj.el (pV r1 e1) _ ?_;rintro u1 g1 ru1;refine aj.el (pV r2 e2) _ ?_;rintro u2 g2 ru2;have hz:=st.zp;have sH:=st.ti;refine ET D st p1 p2 g1 g2 fun h' a1 a2 a3 a4 a5 a7=>⟨_,rfl,(wpAny_letOwnedTupleGo_zip a1 fun h'' b1 b2 =>?_)⟩
  have kp:∀c o,c∉[z,TO,i1,i2]->s.heap.get? c=some o->h''.get? c=some o:=fun c o hc e=>by
   simp only[Jx,Yl,or_false] at hc;exact b2.extBut c o (fun q=>hc (.inl q)) (a7 c o hc e)
  have I1:Inv X pins σ H { s with heap:=h'',toks:=s.toks }:=I.iter (fun c hc=>hf c (by simp at hc ⊢;rcases hc with q|q|q|q<;>simp[q])) kp;have fT:=I.eX (Je _) (I.bq.fresh (Je _));refine⟨.ref s.heap.objs.size,_,(I1.adopt (o := .tup [x,y]) fT I.sz ⟨by show 2<=Wp;decide,[u1,u2],.cons ru1 (.cons ru2 .nil),⟨_,(b2.extBut _ _ (mJ (Jf hz) (Je _)) a5),rfl,rfl,_,rfl⟩⟩),rfl,⟨_,rfl,fun xs' ys' x' y' q1' q2' e1' e2' =>?_⟩,⟨b1,b2.extBut _ _ D.TIz (a7 _ _ (fun q=>q.elim D.TIz fun q=>q.elim D.TITO fun q=>q.elim D.TIi1 D.TIi2) sH),⟨_,_,b2.extBut _ _ D.TOz a2⟩,a3.at fun o e=>b2.extBut _ _ D.i1z e,a4.at fun o e=>b2.extBut _ _ D.i2z e⟩,fun c hc =>?_⟩
  ·rw[I.xo q1' q1] at e1';rw[I.xo q2' q2] at e2';rw[e1] at e1';rw[e2] at e2';cases e1';cases e2';exact⟨fT.1,rfl⟩
  ·obtain⟨_,_,⟨_,_,Bf⟩,h1,h2⟩:=st;have FQ:c<s.heap.objs.size:=by
    simp at hc
    rcases hc with rfl|rfl|rfl|rfl|rfl
    ·exact Jf hz
    ·exact Jf sH
    ·exact Jf Bf
    ·exact h1.lt
    ·exact h2.lt
   rw[ao (cj FQ (Je _))];exact(hf c hc).1
 done:=fun X hP hw hK hc i pins s σ H E I hf st stop=>by
  subst hP hw hK;obtain⟨xs,ys,q1,q2,e⟩:=stop;refine aj.el (I.Ek q1) _ ?_;rintro its1 r1 p1 _;refine aj.el (I.Ek q2) _ ?_;rintro its2 r2 p2 _;have l1':=r1.length;have l2':=r2.length;refine DE (I.ok.hd hc) D st p1 p2 ?_ fun h' kp=>⟨rfl,?_⟩
  ·rcases e with e|e
   ·exact .inl (by simp;lia)
   ·exact .inr (by simp;lia)
  ·refine I.iter (ch:=[z,TO,i1,i2]) (fun c hc=>hf c (by simp at hc ⊢;rcases hc with q|q|q|q<;>simp[q])) fun c o hc e =>?_;simp only[Jx,Yl,or_false] at hc;exact kp c o hc e
 self:=fun A i s Q E st hQ=>QdI st.zp hQ
section
variable {X:Cx}
def RI (K:Ja)(ta:TA):TI:=fun σ H R=>ta σ H fun vs H1=>tG fun k1 k2 a b=>vs=[.ref a,.ref b]/\(∃xs,oX k1 K H1 a xs)/\(∃ys,oX k2 K H1 b ys)/\R (Rm K k1 k2 a b) H1
def Cb (K:Ja){elts:List QaB}{k:Nat}{tp:Pos}{a b:QaB}{ta:TA}{p pos:Pos}(hg:Gl X "zip")(hm:X.mg "zip" = none)(ha:PA X [a,b] ta)(hb:QaR "zip" = some (.type "zip"):=by first|rfl|decide)
  (hs:Qaj [a,b] X.env=[(false,QaL a X.env),(false,QaL b X.env)]:=by rfl) (xZ:Qaj [b] X.env=[(false,QaL b X.env)]:=by rfl) (hK:X.K=K:=by rfl) :
  PI X (.Tuple elts k tp) (.Call (.Name "zip" p) [a,b] [] pos) (RI K ta):=by
 subst hK;refine fun pins s σ H R I h=>Call_ (dW I hg hm hb (Qam (bg (ha s σ H _ I h) fun us s1 ⟨vs,H1,I1,r1,q1⟩=>?_) (by rw[hs,xZ]) (by rw[xZ];rfl)));obtain⟨k1,k2,l1,l2,e,⟨xs,q1⟩,⟨ys,q2⟩,q⟩:=q1;subst e;refine aj.el (vals2 r1) _ ?_;rintro u w' rfl r1 r2;cases r1;cases r2;refine aj.el (I1.Ek q1) _ ?_;rintro its1 rv1 p1 _;refine aj.el (I1.Ek q2) _ ?_;rintro its2 rv2 p2 _;refine E5 p1 p2 fun h' st hk=>QdI st.zp ?_;have I2:Inv X pins σ H1 { s1 with heap:=h' }:=I1.kept hk;refine⟨_,_,_,_,H1,rfl,I2,EK k1 k2 _ _ _ _ _ _ _ (QeN p1.lt p2.lt),st,fun c hc =>?_,q⟩;have FQ:s1.heap.objs.size<=c:=by
  simp at hc
  rcases hc with rfl|rfl|rfl|rfl|rfl
  ·exact Us _ _
  ·exact Us _ _
  ·exact Us _ _
  ·exact Je _
  ·exact Us _ _
 exact I1.eX FQ (I1.bq.fresh FQ)
end
def Itx (z:Str):It:=⟨fun i _=>i<z.cps.size,fun i H x H'=>H'=H/\∀c,z.cps[i]? = some c->x = .str ⟨#[c]⟩,fun i _=>z.cps.size<=i⟩
def DW {K:Ja}{tg:QaB}(it:Gc)(z:Str)(t:Tok):Turn P w K tg (Itx z) [it] it (fun i h=>h.IsStrIter it "str_ascii_iterator" z t i) where
 mem:=by simp
 obj:=fun i h st b hb=>by
  have e:b=it:=by simpa using hb
  subst e;obtain⟨o,h1,h2,h3⟩:=st;exact⟨o,h1,fun v q=>by rw[h3] at q;cases q⟩
 keep:=fun i h h' st k=>by
  obtain⟨o,h1,r⟩:=st;exact⟨o,k it (by simp) o h1,r⟩
 item:=by
  intro X hP hw hK hc i pins s σ H E I hf st hg;obtain⟨f0,f1,f2,f3,f4,f5⟩:=hf it (by simp);have hg:i<z.cps.size:=hg;refine wpAny_pyNext_ascii_item st (c:=z.cps[i]) (by simp[]) fun h' st' hs' =>?_;have I1:Inv X pins σ H { s with heap:=h',toks:=s.toks+1 }:=I.turned (fun b o hb e=>hs'.extBut b o hb e) f0 f1 f3 f4 f5;obtain⟨o,h1,h2,h3⟩:=id st';refine⟨_,rfl,CH h1 h2 h3 rfl ⟨.str ⟨#[z.cps[i]]⟩,H,I1,⟨_,rfl⟩,⟨rfl,fun c e =>?_⟩,st',fun b hb=>(hf b hb).1⟩⟩;rw[J2 hg] at e;cases e;rfl
 done:=by
  intro X hP hw hK hc i pins s σ H E I hf st hg;obtain⟨f0,f1,f2,f3,f4,f5⟩:=hf it (by simp);exact wpAny_pyNext_ascii_end (I.ok.hd hc) st (Ur hg) fun h' eb=>⟨rfl,I.turned (fun b o hb e=>eb b o hb e) f0 f1 f3 f4 f5⟩
 self:=fun _ _ _ _ _ st h=>wpAny_pyIter_striter_ascii st h
def YZ (tl:TE):TI:=fun σ H R=>tl σ H fun x H1=>∃z,x = .str z/\z.cps.all (· < 128)=true/\R (Itx z) H1
section
variable {X:Cx}{tg:QaB}
def LR (hl:PE X l tl):PI X tg l (YZ tl):=by
 refine fun pins s σ H R I h=>bg (hl s σ H _ I h) fun v s1 hz_=>aj.el hz_ _ ?_;rintro x H1 I1 r1 q1;obtain⟨z,e,hz,q⟩:=q1;subst e;obtain⟨t,rfl⟩:=r1;refine wpAny_pyIter_ascii hz ⟨s1.heap.objs.size,[s1.heap.objs.size],_,_,H1,rfl,I1.kept fun b o e=>Jb _ e,DW _ z t,⟨_,Ji _ rfl,rfl,rfl⟩,fun b hb =>?_,q⟩;have e:b=s1.heap.objs.size:=by simpa using hb
 subst e;exact I1.eX (Je _) (I1.bq.fresh (Je _))
def gO (K:Ja){l:QaB}{tl:TE}(hl:PE X l tl)(hK:X.K=K:=by rfl):PI X tg l (SI K tl):=by subst hK;exact NO hl
end
def Eg (n:Nat):sliceRange (QbK none none (some (-1)) n).1 (QbK none none (some (-1)) n).2.1 (QbK none none (some (-1)) n).2.2=(U3 n).map fun k=>n-1-k:=by
 rw[<-(PyProof.Rows.picked_rev n)]
 rfl
def HB {α β:Type}{f: α->Option β}{g: α -> β}:∀{l:List α},(∀k∈l,f k=some (g k))->l.filterMap f=l.map g
 | [],_=>rfl
 | a::l,h=>by
  rw[List.filterMap_cons_some (h a Jo),J3,HB fun k hk=>h k (Jl _ hk)]
def Hg (aw:List Fk):slicePick aw.toArray none none (some (-1))=aw.reverse.toArray:=by
 unfold slicePick;rw[Eg,Ju]
 congr 1
 apply List.ext_getElem?;intro i;rw[List.filterMap_map];have hm:∀k∈U3 aw.length,((fun x=>aw.toArray[x]?)∘fun k=>aw.length-1-k) k=some (aw.reverse.getD k .none):=fun k hk=>by
  have hk:=List.mem_range.mp hk;simp only[Function.comp];rw[U5,List.getElem?_reverse (by omega +splitMinMax),Qcs,Jd (by omega +splitMinMax)]
  rfl
 have e2:(U3 aw.length).filterMap ((fun x=>aw.toArray[x]?)∘fun k=>aw.length-1-k)=(U3 aw.length).map fun k=>aw.reverse.getD k .none:=by
  exact HB hm
 rw[e2,Jk]
 by_cases hi:i<aw.length
 ·rw[List.getElem?_range hi,Jd (by simpa using hi)];simp[ hi]
 ·rw[Qct (by simp;lia),Qct (by simp;lia)]
  rfl
section
variable {X:Cx}{e:QaB}{te:TE}{pos p2 p3 p4:Pos}{j:Nat}
def YK (K:Ja)(te:TE):TE:=fun σ H Q=>te σ H fun x H1=>eZ fun a xs=>x = .ref a/\bA K H1 a xs/\∀p H',hW H1 p (.lst xs.reverse) H'->Q (.ref p) H'
def Vals.rev:∀{xs:List V} {us:List Fk},Vals xs us->Vals xs.reverse us.reverse:=by
 intro xs us t
 induction t with
 | nil=>exact .nil
 | cons r _ ih=>
  rw[Qc7,Qc7];exact ih.append (.cons r .nil)
def Oq (K:Ja)(he:PE X e te)(hK:X.K=K:=by rfl):PE X (.Subscript e (.Slice none none (some (.UnaryOp .USub (.Constant (.int 1) j p4) p3)) p2) pos) (YK K te):=by
 subst hK;refine fun pins s σ H Q I h=>QfT (bg (he s σ H _ I h) fun v s1 hz_=>aj.el hz_ _ ?_);rintro x H1 I1 r1 q1;obtain⟨a,xs,rfl,hx,q⟩:=q1;cases r1;refine wpAny_Slice (tz (tz ?_));have hs:PE X (.UnaryOp .USub (.Constant (.int 1) j p4) p3) (tUn (rU fun i =>.int (-i)) (tC (.int 1))):=oG jv ai;refine bg (cX hs s1 σ H1 (fun o H2=>o=some (-1)/\H2=H1) I1 ⟨1,rfl,-1,rfl,rfl,rfl⟩) fun vs s3 hz_=>aj.el hz_ _ ?_;rintro o H3 I3 ps eo eh;subst eo eh;have I4:Inv X pins σ H3 { s3 with heap:=s3.heap.push { cls := .type "slice",data := .fields #[.none,.none,vs] } }:=I3.kept fun b ob q=>Jb _ q;obtain⟨aw,r,ht,hz⟩:=I4.list hx;have hlen:=r.length;refine tail_any ht.isList.typeIs slot_list_getitem.lookup (wpAny_getItem_list_slice ht.isList (QeL ..) .none .none ps ∅ ?_ (by rw[Ju];lia)) (by with_unfolding_all rfl);rw[Hg];refine⟨.ref _,_,I4.laid (fun b ob q=>Jb _ q) (Je _) ?_,rfl,q _ _ ⟨I4.bq.fresh (Je _),rfl⟩⟩;exact⟨by rw[List.length_reverse];exact hz,_,0,r.rev,Ji _ rfl⟩
end
section
variable {X:Cx}(K:Ja)
def XO (hK:X.K=K:=by rfl):fL X (QaF .In) (rIn K false):=by subst hK;exact Ei
end
section
variable {prog:Qaf}{w:Qah}{A:Qax}{R:Qb4->KE->Prop}{s:KE}
def y7 {kx vx target iter:QaB}{ifs:List QaB}{scope:Qb3}{pos:Pos}{it:Fk}{D:Gc}{env:Env}(I:Nat->KE->Prop)
  (turn:∀n s,I n s->Qac (Qab prog w) A (QbS it) (fun r s1=>match r with
   | none=>R (.ok .next) s1
   | some v=>Qac (Qab prog w) A (QcZ target it v) (fun _ s1'=>Qac (Qab prog w) A (QfQ target env v) (fun _ s2=>
     Qac (Qab prog w) A (pE ifs env) (fun ok s3=>
      if ok=true then Qac (Qab prog w) A (QaL kx env) (fun kv s4=>Qac (Qab prog w) A (QaL vx env) (fun vv s5=>
       Qac (Qab prog w) A (dictSet D kv vv) (fun _ s6=>∃m,m<n/\I m s6) nJ s5) nJ s4) nJ s3
      else ∃m,m<n/\I m s3) nJ s2) nJ s1') nJ s1) nJ s)
  (n:Nat) (h:I n s):QaZ (Qab prog w) A (.compLoop (.DictComp kx vx [⟨target,iter,ifs,0⟩] scope pos) 0 it (.ref D) env) R s:=by
 refine codeAny_loop rfl I (fun n s hI=>(show Qac _ A (Sem.onRaise (compTurn (.DictComp kx vx [⟨target,iter,ifs,0⟩] scope pos) 0 it (.ref D) env) (fun x=>do Qc8 x env;Qfw x)) _ _ s from wpAny_noted (be (Qbm (be (cI (bg (turn n s hI) fun r s1 h1 =>?_))))))) n h;cases r with
 | none=>exact tz h1
 | some v=>
  refine be (cI (bg h1 fun _ s1' M7=>be (cI (bg M7 fun _ s2 h2=>be (cI (bg h2 fun ok s3 h3 =>?_))))));cases ok with
  | false=>exact tz ⟨rfl,h3⟩
  | true=>
   exact be (be (cI (bg h3 fun kv s4 h4=>be (Qak (cI (bg h4 fun vv s5 h5=>be (Qbm (Qak (cI (bg h5 fun _ s6 h6=>tz ⟨rfl,h6⟩))))))))))
end
section
variable {X:Cx}{pins:List (Gc×Obj)}{σ:St}{H:Hp}{s:KE}{a:Gc}{y v:V}{u r:Fk}{A:Qax}{E:Fk->KE->Prop}
def Dz (I:Inv X pins σ H s)(e:H a=some (.dK kvs))(l:kvs.length<Wp)(ry:RelV (kV k) u)(rv:RelV v r)
  (h:∀s',Inv X pins σ (upd H a (.dK (putK kvs k v))) s'->Q () s'):Qac (Qab X.prog X.w) A (dictSet a u r) Q E s:=by
 refine aj.el (BU I.bq e) _ ?_;rintro z hd vs rel dd;have hz:vs.length<=Wp:=by rw[<-rel.length];exact z
 exact Qc3 (mW ry) dd fun h' dd' hs=>h _ (mx I (by rw[e];exact QaO) hs (let ⟨q,_,_,hq,_⟩:=dd'; ⟨q,hq⟩) (AL (by have:=fj kvs k v;lia) hd (rel.put k rv) dd'))
end
section
variable {X:Cx}{pins:List (Gc×Obj)}{σ:St}{H:Hp}{s:KE}{scope:Qb3}{Nc Fc:List Str}{js:List Nat}{cl:List (Str×Gc)}{C:Gc}{fp:List Gc}
def yX (I:Inv X pins σ H s)(c:gD X scope Nc Fc js)(dU:∀n c,cl.lookup n=some c->X.env.cells.lookup n=some c)(kt:∀y∈scope.names,y.2 = .free->∃c,cl.lookup y.1=some c)
  (hC:s.heap.objs.size<=C) (hf:∀b∈fp,gc X pins H b) (ho:∀b∈fp,∃o,s.heap.get? b=some o) {h1:Heap} {t1:Nat} {m:Str->Option Fk}
  (hk:∀b o,s.heap.get? b=some o->h1.get? b=some o) (hm:h1.Ns C m) :
  Inv (lQ X Nc Fc scope cl C s H fp) [] (J0 Nc.length none++eB σ js) H { s with heap:=h1,toks:=t1 }:=by
 refine⟨rT I c dU kt hC hf ho,rfl,I.bare,Un.kept hk,⟨m,hm,fun i x v e1 e2 e3 =>?_⟩,fun x a e =>?_,I.bq.fresh hC,fun x a e=>I.freeC x a (dU x a e),fun p hp =>?_,I.bq.kept hk,?_⟩
 ·have e1:(Nc++Fc)[i]? = some x:=e1
  by_cases hi:i<Nc.length
  ·rw[Uz (by simpa using hi),Ys] at e2
   split at e2<;>cases e2
  ·rw[Ux ⋯] at e1;rw[Ux (by rw[U1];lia),U1] at e2;refine aj.el (c.frees _ _ e1) _ ?_;rintro xu j hj hN;have hv: σ[j]? = some (some v):=by
    unfold eB at e2;rw[Jk,hj] at e2;have e2:some ((σ[j]?).join)=some (some v):=e2;cases q: σ[j]? with
    | none=>rw[q] at e2;cases e2
    | some z=>rw[q] at e2;cases e2;rfl
   have kx:=c.free _ (cF xu) rfl;refine aj.el (I.loc) _ ?_;rintro m0 hn0 hl0;have Zi:Ra X.env.scope x:=by
    rcases kx with k|k
    ·exact .inr (.inl k)
    ·exact .inr (.inr k)
   refine aj.el (hl0 j x v hN hv Zi) _ ?_;rintro u ru lk;refine⟨u,ru,.inr ⟨?_,?_⟩⟩
   ·rw[xq];exact fF xu
   ·obtain⟨a,ha⟩:=kt _ (cF xu) rfl;refine⟨a,ha,?_⟩
    rcases lk with ⟨k,_⟩|⟨_,a',ha',hcell⟩
    ·rcases kx with q|q<;>(rw[k] at q;cases q)
    ·have e:=dU _ _ ha;rw[ha'] at e;cases e;exact hcell.keeps hk
 ·obtain⟨v,z⟩:=I.cell x a (dU x a e);exact⟨v,z.keeps hk⟩
 ·have hp:=hp;cases hp
 ·show(J0 Nc.length none++eB σ js).length=(Nc++Fc).length;unfold eB;rw[Jw,Jw,U1,Jc,c.lens]
end
def M1 (J:It)(n:Nat)(js:List Nat)(g:TG)(tc:TT)(tk tv:TE)(σ:St)(D:Gc)(H1:Hp)(fin:Hp->Prop):Prop:=
 ∃W:Nat->Nat->Hp->Prop,(∃m,W 0 m H1)/\∀i m H,W i m H ->
  (J.stop i H/\fin H) \/
  (J.go i H/\∀x H',J.yld i H x H'->g x (J0 n none++eB σ js) H' fun σ2 H2=>tc σ2 H2 fun b H3=>
   if b=true then tk σ2 H3 fun y H4=>tv σ2 H4 fun z H5=>eZ fun kvs k=>H5 D=some (.dK kvs)/\y=kV k/\kvs.length<Wp/\∃m',m'<m/\W (i+1) m' (upd H5 D (.dK (putK kvs k z))) else ∃m',m'<m/\W (i+1) m' H3)
def Oh (wi:TI)(n:Nat)(js:List Nat)(g:TG)(tc:TT)(tk tv:TE):TE:=fun σ H Q=>wi σ H fun J H1=>∀D,H1 D=none->M1 J n js g tc tk tv σ D (upd H1 D (.dK [])) fun H2=>Q (.ref D) H2
def Bu {kx vx tg iter:QaB}{ifs:List QaB}{scope:Qb3}{pos:Pos}{Nc Fc:List Str}{js:List Nat}{wi:TI}{g:TG}{tc:TT}{tk tv:TE}{use:Option (Fk->Sem Unit)}{QV:Fk->KE->Prop}
  (fM:X.calm=true) (c:gD X scope Nc Fc js) (hi:PI X tg iter wi)
  (hg:∀cl C s H fp,PG (lQ X Nc Fc scope cl C s H fp) tg g) (FG:∀cl C s H fp,L6 (lQ X Nc Fc scope cl C s H fp) ifs tc) (KL:∀cl C s H fp,PE (lQ X Nc Fc scope cl C s H fp) kx tk) (WB:∀cl C s H fp,PE (lQ X Nc Fc scope cl C s H fp) vx tv) (gk:Gk Nc.length g)
  {pins:List (Gc×Obj)} {s:KE} {σ:St} {H:Hp} {fin:Gc->Hp->Prop} (I:Inv X pins σ H s)
  (h:wi σ H fun J H1=>∀D,H1 D=none->M1 J Nc.length js g tc tk tv σ D (upd H1 D (.dK [])) (fin D))
  (behind:∀(C D:Gc) (m:Str->Option Fk) (H2:Hp) (s2:KE),Inv X pins σ H2 s2->s2.heap.Ns C m->gc X pins H2 C->fin D H2->QeQ (Qab X.prog X.w) X.A X.xe use QV (.ref D) C (.ok .next) s2)
  (hs:∀x,Qbi iter X.env x=pure x) :
  Qac (Qab X.prog X.w) X.A (comprehension (.DictComp kx vx [⟨tg,iter,ifs,0⟩] scope pos) scope X.env (firstIterPos [⟨tg,iter,ifs,0⟩] pos) newDict false (QaL iter X.env) use) QV X.xe s:=by
 obtain⟨cl,hclos,dU,kt⟩:=lL fun y hy hf=>I.ok.has y.1 (c.free y hy hf);refine Qdz rfl hs hclos c.kind c.names (bg (hi s σ H _ I h) fun v s1 h1=>bg h1 fun RH s2 h2 =>?_);obtain⟨it,fp,tn,J,H2,e,I2,T,kr,f2,all⟩:=h2;subst e;refine QaQ (Qec c.nocell (by intro y hy;simp at hy) (fun h1 hns1 hsb1 =>?_) c.kind);have GA:=I2.laid (t':=s2.toks) (fun _ _ q=>Jb _ q) (Je _) (rN s2.heap I2.big);obtain⟨W,⟨m0,w0⟩,turn⟩:=all _ (I2.bq.fresh (Je _));have QL:∀b∈fp,∃o,s2.heap.get? b=some o:=fun b hb=>let ⟨o,e,_⟩:=T.obj 0 _ kr b hb; ⟨o,e⟩;have sM:=fun b hb=>let ⟨o,e⟩:=QL b hb;Jf e;generalize hG:s2.heap.push { cls := .type "dict",dict:=none,data := .dict #[] } = G at hns1 hsb1 GA ⊢;have toG:∀b o,s2.heap.get? b=some o->G.get? b=some o:=fun b o e=>hG▸Jb _ e;have hC:G.objs.size=s2.heap.objs.size+1:=by rw[<-hG,Ue]
 have old:=fun b o e=>
  hsb1.extBut b o (cj (Jf e) (Je _)) (Jb _ e)
 let D:Gc:=s2.heap.objs.size
 let s2':KE:={ s2 with heap:=G,toks:=s2.toks }
 let H2':Hp:=upd H2 D (.dK [])
 have O9:∀b∈fp,gc X pins H2' b:=fun b hb=>by
  obtain⟨a1,a2⟩:=f2 b hb;refine⟨?_,a2⟩;show upd H2 D (.dK []) b=none;rw[ao (Jm (sM b hb))];exact a1
 have fo:∀b∈fp,∃o,s2'.heap.get? b=some o:=fun b hb=>let ⟨o,e⟩:=QL b hb; ⟨o,toG b o e⟩;have VD:∀b∈fp,b<G.objs.size:=fun b hb=>by have:=sM b hb;rw[hC];exact Qcl this
 let Xc:Cx:=lQ X Nc Fc scope cl G.objs.size s2' H2' fp
 have lr:∀{H':Hp},(∀b∈fp,H' b=none)->∀b∈fp,gc Xc [] H' b:=fun{H'} hn b hb=>by
  refine⟨hn b hb,?_,?_,.inl hb,fun x a e =>?_,fun p hq =>?_⟩
  ·exact cj (VD b hb) (Je _)
  ·exact(rT GA c dU kt (Je _) O9 fo).exfs b hb
  ·exact(f2 b hb).2.2.2.2.1 x a (dU _ _ e)
  ·have q:p∈([]:List (Gc×Obj))++[]:=hq;simp at q
 have loop:∀t1,QaZ (Qab X.prog X.w) X.A (.compLoop (.DictComp kx vx [⟨tg,iter,ifs,0⟩] scope pos) 0 (.ref it) (.ref s2.heap.objs.size) (compEnvC scope cl G.objs.size X.env))
   (QeQ (Qab X.prog X.w) X.A X.xe use QV (.ref s2.heap.objs.size) G.objs.size) { s2 with heap:=h1,toks:=t1 }:=by
  refine fun t1=>y7 (fun n s'=>∃i H',Inv Xc [] (J0 Nc.length none++eB σ js) H' s'/\tn i s'.heap/\(∀b∈fp,H' b=none)/\W i n H') ?_ m0
   ⟨0,H2',yX GA c dU kt (Je _) O9 fo old hns1,T.keep _ _ _ kr (fun b hb o e=>old b o (toG b o e)),fun b hb=>(O9 b hb).1,w0⟩
  refine fun n s3 hz_=>aj.el hz_ _ ?_;rintro i H3 I3 eQ fr3 w3
  rcases turn i n H3 w3 with ⟨stop,qn⟩|⟨go,step⟩
  ·refine bg (T.done Xc rfl rfl rfl fM i _ s3 _ H3 nJ I3 (lr fr3) eQ stop) fun r s4 hz_ =>?_;refine aj.el hz_ _ ?_;rintro hr I4;subst hr;refine aj.el (I4.loc) _ ?_;rintro mC hmC _;have u:=I4.base;have zE:∀b∈fp,(b∈X.ex\/X.s₀.heap.objs.size<=b)/\b≠X.env.locals/\(∀x c,X.env.cells.lookup x=some c->c≠b)/\∀p∈X.pn++pins,p.1≠b:=fun b hb=>
    ⟨(f2 b hb).2.2.2.1,(f2 b hb).2.1,(f2 b hb).2.2.2.2.1,(f2 b hb).2.2.2.2.2⟩
   exact behind G.objs.size D mC H3 s4 (GA.Ca I4.os u I4.bq I4.bare zE) hmC (GA.eX (Je _) I4.free) qn
  ·refine bg (T.item Xc rfl rfl rfl fM i _ s3 _ H3 nJ I3 (lr fr3) eQ go) fun r s4 hz_ =>?_;refine aj.el hz_ _ ?_;rintro u hr h4;subst hr;refine bg h4 fun _ s5 hz_=>aj.el hz_ _ ?_;rintro x H5 I5 r5 y5 dZ fr5;refine bg (hg cl G.objs.size s2' H2' fp s5 _ H5 x u _ (I5.pinned (lr fr5) (T.obj _ _ dZ)) r5 (gk _ _ _ _ (step x H5 y5))) fun _ s6 hz_=>aj.el hz_ _ ?_;rintro σ6 H6 I6 q6 kσ kl;refine bg (FG cl G.objs.size s2' H2' fp s6 σ6 H6 _ I6 q6) fun b s7 hz_=>aj.el hz_ _ ?_;rintro H7 I7 q7;have later:∀{σ':St} {H':Hp} {s':KE},Inv Xc ([]++gX fp s5.heap) σ' H' s'->tn (i+1) s'.heap/\∀b∈fp,H' b=none:=fun{σ' H' s'} Iz=>by
    refine⟨T.keep _ _ _ dZ fun b hb o e=>(Iz.pin (b,o) (Jv _ (Jv _ (df hb e)))).1,fun b hb=>aj.el (T.obj _ _ dZ b hb) _ ?_⟩;rintro o e d;exact(Iz.pin (b,o) (Jv _ (Jv _ (df hb e)))).2.1
   have back:∀{pl:List (Gc×Obj)} {H':Hp} {s':KE},Inv Xc pl σ6 H' s'->Inv Xc pl (J0 Nc.length none++eB σ js) H' s':=fun{pl H' s'} Iz=>by
    refine Iz.weak (by rw[<-kl]) fun j v hj =>?_
    by_cases hn:j<Nc.length
    ·rw[Uz (by simpa using hn),Ys] at hj
     split at hj<;>cases hj
    ·rw[kσ j ⋯];exact hj
   cases b with
   | false=>
    rw[if_neg Jn] at q7 ⊢;refine aj.el (q7) _ ?_;rintro m' BP w7;obtain⟨l1,l2⟩:=later I7;exact⟨m',BP,i+1,H7,back I7.eA,l1,l2,w7⟩
   | true=>
    refine bg (KL cl G.objs.size s2' H2' fp s7 σ6 H7 _ I7 q7) fun yv s8 hz_=>aj.el hz_ _ ?_;rintro y H8 I8 r8 q8;refine bg (WB cl G.objs.size s2' H2' fp s8 σ6 H8 _ I8 q8) fun zv s9 hz_=>aj.el hz_ _ ?_;rintro z H9 I9 r9 q9;refine aj.el (q9) _ ?_;rintro kvs k eD ey hl m' BP w9;subst ey;refine Dz (X:=Xc) I9 eD hl r8 r9 fun s10 I10 =>?_;obtain⟨l1,l2⟩:=later I10;exact⟨m',BP,i+1,_,back I10.eA,l1,l2,w9⟩
 exact codeAny_compStart_dict (loop _) (T.self _ 0 _ _ _ (T.keep _ _ _ kr fun b hb o e=>old b o (toG b o e)) (loop _))
def JD {kx vx tg iter:QaB}{ifs:List QaB}{scope:Qb3}{pos:Pos}{Nc Fc:List Str}{js:List Nat}{wi:TI}{g:TG}{tc:TT}{tk tv:TE}
  (fM:X.calm=true) (c:gD X scope Nc Fc js) (hi:PI X tg iter wi) (gk:Gk Nc.length g)
  (hg:∀cl C s H fp,PG (lQ X Nc Fc scope cl C s H fp) tg g) (FG:∀cl C s H fp,L6 (lQ X Nc Fc scope cl C s H fp) ifs tc) (KL:∀cl C s H fp,PE (lQ X Nc Fc scope cl C s H fp) kx tk) (WB:∀cl C s H fp,PE (lQ X Nc Fc scope cl C s H fp) vx tv)
  (hs:∀x,Qbi iter X.env x=pure x:=by intro _;rfl) :
  PE X (.DictComp kx vx [⟨tg,iter,ifs,0⟩] scope pos) (Oh wi Nc.length js g tc tk tv):=
 fun pins s σ H Q I h=>Bu fM c hi hg FG KL WB gk I h (fun C D m H2 s2 I2 hm hC q=>⟨m,hm,fun h' hs'=>⟨.ref D,_,I2.turned (fun b o hb e=>hs'.extBut b o hb e) hC.1 (hC.2.1) hC.2.2.2.1 hC.2.2.2.2.1 hC.2.2.2.2.2,rfl,q⟩⟩) hs
def mj:∀{ns:List Int} {us:List Fk},Qem us ns->Vals (ns.map V.int) us
 | _,_,.nil =>.nil
 | _,_,.cons _ _ h =>.cons ⟨_,rfl⟩ (mj h)
open PySem.W
def UO (h base:Heap)(e:Gc)(cls a0:Fk)(dx:Option Gc)(fl:Fk):Prop:=∃oe vs T oT ts,
 h.get? e=some oe/\oe.cls=cls/\oe.dict=dx/\oe.data = .fields vs/\vs[0]? = some a0/\vs[1]? = some (.ref T)/\base.get? T=none/\T≠e/\h.get? T=some oT/\oT.data = .fields ts/\ts[3]? = some fl
def qP (base:Heap)(l:List Env)(e:Gc)(cls a0:Fk)(dx:Option Gc)(h:Heap):Prop:=base.StaysIn h/\base.get? e=none/\h.FunFrames base l/\UO h base e cls a0 dx .none
def MQ (base:Heap)(l:List Env)(e:Gc)(cls a0:Fk)(dx:Option Gc)(L:Gc)(h:Heap):Prop:=base.StaysIn h/\base.get? e=none/\h.FunFrames base l/\UO h base e cls a0 dx (QaW L)
def qP.own {l:List Env}{e:Gc}{cls a0:Fk}{dx:Option Gc}(x:qP base l e cls a0 dx h):∃o,h.get? e=some o/\o.cls=cls/\o.dict=dx/\∃vs,o.data = .fields vs:=by
 obtain⟨_,_,_,oe,vs,T,oT,ts,a1,a2,a3,a4,_⟩:=x;exact⟨oe,a1,a2,a3,vs,a4⟩
section
variable {M:Model}{A:Qax}{E:Fk->KE->Prop}{s:KE}{base:Heap}{env:Env}{outer:List Env}{L e:Gc}{cls a0:Fk}{dx:Option Gc}{Q:Unit->KE->Prop}
def rR {hn:Bool}(xu:A.frames=some (env::outer))(mN:s.heap.FunFrames base (env::outer))(hf:env.frame=some L)(he:s.heap.get? e=some oe)(gI:base.StaysIn s.heap)(new:base.get? e=none)
  (hd:oe.data = .fields vs) (sz:1<vs.size) (h0:vs[0]? = some a0)
  (q:∀h',base.StaysIn h'->h'.FunFrames base (env::outer)->UO h' base e oe.cls a0 oe.dict (QaW L)->s.heap.UpToSlots h'->Q () { s with heap:=h' }) :
  Qac M A (do let a <-frameOf env;let pl <-entryPlaceOf L hn;let b <-EntryCells.newEntry head a .none (QaW L) .none pl;setField (.ref e) 1 b) Q E s:=by
 have apart:e∉(env::outer).filterMap (·.frame):=fun m=>by
  obtain⟨_,o,ho,nf⟩:=mN.mem m;rw[he] at ho;cases ho;exact nf vs hd
 refine be (wpAny_frameOf_fun xu mN hf fun h1 so=>be (wpAny_entryPlaceOf fun pl isp=>be (QaQ ?_ (isp.sizeOk5 _ _ _ _ _))));obtain⟨tr,etr⟩:∃tr:Obj,tr={ cls := .type "traceback",dict:=none,data := .fields ([head,.ref L,.none,QaW L,.none]++(if pl.isEmpty then J0 6 Qcr else pl)).toArray }:=⟨_,rfl⟩
 rw[<-etr];have e1:=(so.2.1 e apart).trans he;have xf:base.StaysIn h1:=fun b o x=>(so.2.1 b fun m=>by rw[(mN.mem m).1] at x;cases x).trans (gI b o x);have e2:(h1.push tr).get? e=some oe:=Jb _ e1;refine Qda e2 hd sz (q _ ?_ ?_ ?_ ?_)
 all_goals have nT:=Uj (Jf e1)
 all_goals have kp:∀b o,b≠e->h1.get? b=some o->((h1.push tr).update e (QbN (·.setIfInBounds 1 (Qan h1.objs.size)))).get? b=some o:=fun b o nb x=>(Ua _ _ (QaA nb)).trans (Jb _ x)
 all_goals have nr:∀b o,s.heap.get? b=some o->(∀ws,o.data ≠ .fields ws)->b≠e:=fun b o x nf z=>(by rw[z,he] at x;cases x;exact nf vs hd)
 ·exact fun b o x=>kp b o (fun z=>by rw[z,new] at x;cases x) (xf b o x)
 ·refine mN.of_keeps fun b o x nf =>?_;obtain⟨sl,hs⟩:=so.2.2 b o x;exact⟨_,kp b _ (nr b o x nf) hs,rfl⟩
 ·have d3:=Qc0 hd (·.setIfInBounds 1 (Qan h1.objs.size));refine⟨_,_,h1.objs.size,tr,_,(J7 (QbN (·.setIfInBounds 1 (Qan h1.objs.size))) e2 (QdN d3)),Obj.cls_mapFields _ _,?_,d3,by rw[Array.getElem?_setIfInBounds_ne ∅];exact h0,by simp[sz],xf.fresh,nT,(Ua _ _ (QaA nT)).trans (Ji h1 (by rw[etr];rfl)),by rw[etr],?_⟩
  ·obtain⟨c1,c2,c3,c4⟩:=oe;cases c3<;>rfl
  ·first
    | (simp;done)
    | (rcases isp with rfl|⟨_,_,_,_,_,_,_,rfl⟩<;>simp)
 ·intro b o x nf;obtain⟨sl,hs⟩:=so.2.2 b o x;exact⟨sl,kp b _ (nr b o x nf) hs⟩
def Bg (xu:A.frames=some (env::outer))(mN:s.heap.FunFrames base (env::outer))(hf:env.frame=some L)(he:s.heap.get? e=some oe)(gI:base.StaysIn s.heap)(new:base.get? e=none)
  (hd:oe.data = .fields vs) (h1:vs[1]? = some .none) (h0:vs[0]? = some a0) (q:∀h',MQ base (env::outer) e oe.cls a0 oe.dict L h'->s.heap.UpToSlots h'->Q () { s with heap:=h' }):Qac M A (Qc8 (.ref e) env) Q E s:=by
 unfold Qc8;simp only[hf];exact be (Qal he hd h1 (rR xu mN hf he gI new hd (U4.mp h1).1 h0 fun h' k1 k2 k3 k4=>q h' ⟨k1,new,k2,k3⟩ k4))
def slot_set (hT:s.heap.get? T=some oT)(dT:oT.data = .fields ts)(nT:base.get? T=none)(gI:base.StaysIn s.heap){l:List Env}(mN:s.heap.FunFrames base l):
  (∀b,b≠T->(s.heap.update T (QbN (·.setIfInBounds 3 x))).get? b=s.heap.get? b)/\base.StaysIn (s.heap.update T (QbN (·.setIfInBounds 3 x)))/\(s.heap.update T (QbN (·.setIfInBounds 3 x))).FunFrames base l /\
   ∀b o,s.heap.get? b=some o->(∀ws,o.data ≠ .fields ws)->(s.heap.update T (QbN (·.setIfInBounds 3 x))).get? b=some o:=by
 have off:∀b,b≠T->(s.heap.update T (QbN (·.setIfInBounds 3 x))).get? b=s.heap.get? b:=fun b nb=>Ua _ _ (QaA nb);have kp:∀b o,s.heap.get? b=some o->(∀ws,o.data ≠ .fields ws)->(s.heap.update T (QbN (·.setIfInBounds 3 x))).get? b=some o:=fun b o z nf=>
  (off b fun w=>by rw[w,hT] at z;cases z;exact nf ts dT).trans z
 exact⟨off,fun b o z=>(off b fun w=>by rw[w,nT] at z;cases z).trans (gI b o z),mN.of_keeps fun b o z nf=>⟨o,kp b o z nf,rfl⟩,kp⟩
def B1 (xu:A.frames=some (env::outer))(hf:env.frame=some L)(uD:qP base (env::outer) e cls a0 dx s.heap)(q:∀h',MQ base (env::outer) e cls a0 dx L h'->s.heap.UpToSlots h'->Q () { s with heap:=h' }):Qac M A (Qc8 (.ref e) env) Q E s:=by
 obtain⟨gI,new,mN,oe,vs,T,oT,ts,he,rfl,rfl,hd,h0,h1,nT,ne,hT,dT,h3⟩:=uD;obtain⟨off,kr,fu2,kp⟩:=slot_set hT dT nT gI mN;unfold Qc8;simp only[hf];refine be (Qal he hd h1 (be (Qal hT dT h3 (be (Qda hT dT (U4.mp h3).1 ?_)))));refine rR xu fu2 hf ((off e (QaA ne)).trans he) kr new hd (U4.mp h1).1 h0 fun h' k1 k2 k3 k4=>q h' ⟨k1,new,k2,k3⟩ fun b o z nf=>k4 b o (kp b o z nf) nf
def Cn (gI:base.StaysIn s.heap)(new:base.get? e=none)(mN:s.heap.FunFrames base l)(tr:UO s.heap base e cls a0 dx fl)(q:∀h',qP base l e cls a0 dx h'->s.heap.UpToSlots h'->Q () { s with heap:=h' }):
  Qac M A (setFlight (.ref e) none) Q E s:=by
 obtain⟨oe,vs,T,oT,ts,he,rfl,rfl,hd,h0,h1,nT,ne,hT,dT,h3⟩:=tr;have Ql:=(U4.mp h3).1;obtain⟨off,kr,fu2,kp⟩:=slot_set hT dT nT gI mN;refine be (Qal he hd h1 ?_);have dT':=Qc0 dT (·.setIfInBounds 3 ((none:Option Gc).elim Qcr fun f=>QaW f));exact Qda hT dT Ql (q _ ⟨kr,new,fu2,oe,vs,T,_,_,(off e (QaA ne)).trans he,rfl,rfl,hd,h0,h1,nT,ne,J7 _ hT (QdN dT'),dT',by simp[Ql]⟩ fun b o z nf=>⟨o.slots,kp b o z nf⟩)
def qP.tail (x:qP base (env::outer) e cls a0 dx h):qP base outer e cls a0 dx h:=let ⟨a,b,⟨_,_,c⟩,d⟩:=x; ⟨a,b,c,d⟩
def Ft (xu:A.frames=some (env::outer))(hf:env.frame=some L)(uD:qP base (env::outer) e cls a0 dx s.heap)(q:∀h',qP base outer e cls a0 dx h'->s.heap.UpToSlots h'->Q () { s with heap:=h' }):Qac M A (leaving env (.ref e)) Q E s:=
 be (B1 xu hf uD fun h1 hd up=>Cn hd.1 hd.2.1 hd.2.2.1 hd.2.2.2 fun h2 fly2 up2=>q h2 fly2.tail (up.trans up2))
def v9 (xu:A.frames=some (env::outer))(mN:s.heap.FunFrames base (env::outer))(hf:env.frame=some L)(he:s.heap.get? e=some oe)(gI:base.StaysIn s.heap)(new:base.get? e=none)
  (hd:oe.data = .fields vs) (h1:vs[1]? = some .none) (h0:vs[0]? = some a0) (q:∀h',qP base outer e oe.cls a0 oe.dict h'->s.heap.UpToSlots h'->Q () { s with heap:=h' }):Qac M A (leaving env (.ref e)) Q E s:=
 be (Bg xu mN hf he gI new hd h1 h0 fun h1 hd up=>Cn hd.1 hd.2.1 hd.2.2.1 hd.2.2.2 fun h2 fly2 up2=>q h2 fly2.tail (up.trans up2))
end
def bw.ex (x:bw P w H h a o):∃q,h.get? a=some q:=by
 cases o with
 | lst xs=>obtain⟨_,_,_,_,e⟩:=x;exact⟨_,e⟩
 | tup xs=>obtain⟨_,_,_,_,e,_⟩:=x;exact⟨_,e⟩
 | dK kvs=>obtain⟨_,_,_,_,_,_,_,e,_⟩:=x;exact⟨_,e⟩
 | dT kvs=>obtain⟨_,_,_,_,_,_,_,e,_⟩:=x;exact⟨_,e⟩
 | set S n=>obtain⟨_,_,_,_,e,_⟩:=x;exact⟨_,e⟩
 | ins C dx fs=>exact⟨_,x.2.2.2.1⟩
 | own y=>exact x
 | xd fs=>obtain⟨_,⟨_,_,_,e,_⟩,_⟩:=x;exact⟨_,e⟩
 | rng lo hi=>obtain⟨_,_,_,e⟩:=x;exact⟨_,e⟩
 | frz ob u=>exact⟨_,x.1⟩
 | tbl ps=>exact⟨_,x⟩
 | met f y=>exact⟨_,x⟩
 | ext φ=>exact x.2.1
def ji.part {h h' B:Heap}(x:ji P w H h)(hB:B.StaysIn h)(hB':B.StaysIn h')(fw:∀b u,H b=some u->∃o,B.get? b=some o):ji P w H h':=fun a o e=>
 (x a o e).gI (fun b u hb q=>by
  obtain⟨o',eo⟩:∃o',B.get? b=some o':=by
   rcases hb with hb|hb
   ·subst hb;exact fw _ _ e
   ·exact fw _ _ hb
  have:=hB b o' eo;rw[q] at this;cases this;exact hB' b _ eo) (fun _ q=>q) fun _ _ q=>q
def mF (H:Hp)(a:Gc):Hp:=fun b=>if b=a then none else H b
def fk:mF H a a=none:=if_pos rfl
def cV {a b:Gc}(h:b≠a):mF H a b=H b:=if_neg h
def tj (P:Qaf)(w:Qah)(base:Heap):HD:=fun outer H s E e s'=>FC fun ea cls t B H' dx=>e = .ref ea/\s'.os=s.os/\Qdy s'.gens/\Un (lI outer) [] H H' s.heap s'.heap/\ji P w H' s'.heap /\
 base.StaysIn B/\(∀b o,s.heap.get? b=some o->b∉lI outer->∃o',B.get? b=some o')/\(∀b u,H' b=some u->∃o',B.get? b=some o')/\qP B outer ea cls (.ref t) dx s'.heap/\E cls dx H'
def mq {base h:Heap}:∀{l:List Env} {b:Gc},h.FunFrames base l->b∈lI l->∃o,h.get? b=some o/\∀vs,o.data ≠ .fields vs:=fun{l b} hl hb=>by
 refine aj.el (hl.mem hb) _ ?_;rintro _ o e n;exact⟨o,e,n⟩
section
variable {P:Qaf}{w:Qah}{K:Ja}{mg:Str->Option Fk}{base:Heap}{N:List Str}{qual:Str}{scope:Qb3}{f:Gc}{cd:Fk}{A:Qax}{outer:List Env}{s0:KE}{H0:Hp}{E:XK}
def Ag {σ:St}{H:Hp}{s:KE}{e t:Gc}{oe:Obj}{vs:Array Fk}
  (I:Inv (kS (tj P w base) P w K mg base N qual scope f cd A outer s0 H0 E) pins σ H s) (he:s.heap.get? e=some oe) (new:s0.heap.get? e=none) (hd:oe.data = .fields vs) (v1:vs[1]? = some .none) (v0:vs[0]? = some (.ref t))
  (S5:H e=none\/∃ φ,H e=some (.ext φ)) (hE:E oe.cls oe.dict (mF H e)):(kS (tj P w base) P w K mg base N qual scope f cd A outer s0 H0 E).xe (.ref e) s:=by
 let env:=QbG qual scope s0.heap.objs.size f cd
 let B:=hideAll s.heap (e::lI (env::outer))
 have kK:B.StaysIn s.heap:=fun b o q=>of_hideAll _ q;have O6:s.heap.FunFrames base (env::outer):=I.stack;have W7:∀b o,s0.heap.get? b=some o->b≠s0.heap.objs.size:=fun b o q=>Jm (Jf q);have EZ:∀b o,s0.heap.get? b=some o->b≠e:=fun b o q z=>by rw[z,new] at q;cases q
 have NJ:=fun b hb=>by
  have:b∈(env::outer).filterMap (·.frame):=hb;exact Jx.mp this
 have hbs:=fun b o q z=>by
  exact EZ b _ (I.ok.bs b o q).1 z
 have fw:∀b u,mF H e b=some u->∃o,B.get? b=some o:=fun b u q=>by
  have nb:b≠e:=fun z=>by rw[z,fk] at q;cases q
  rw[cV nb] at q;obtain⟨o,eo⟩:=(I.bq b u q).ex;refine⟨o,Qfp _ eo fun z =>?_⟩
  rcases Jx.mp z with z|z
  ·exact nb z
  ·have:=I.vc b z;rw[q] at this;cases this
 have TQ:base.StaysIn B:=fun b o q=>by
  refine Qfp _ (I.bs b o q).1 fun z =>?_
  rcases Jx.mp z with z|z
  ·exact hbs b o q z
  ·have:=(O6.mem z).1;rw[q] at this;cases this
 have ub:Un (lI outer) [] H0 H s0.heap s.heap:=I.base;refine v9 I.ok.frames (funFrames_hide O6 fun v hv a ha=>Jl _ (List.mem_filterMap.mpr ⟨v,hv,ha⟩)) rfl he kK (hideAll_none _ (Jo ..)) hd v1 v0 fun h' uD up =>?_;have hk:=fun b o ne hb q=>uD.1 b o (Qfp _ q fun z=>(Jx.mp z).elim ne hb);have yL:∀b o,b∈lI (env::outer)->s.heap.get? b=some o->∃sl,h'.get? b=some { o with slots:=sl }:=fun b o hb q=>by
  refine aj.el (mq O6 hb) _ ?_;rintro o' e' nf;rw[q] at e';cases e';exact up b o q nf
 have old:=fun b o q hb z=>(NJ b z).elim (W7 b o q) hb;have QZ:ji P w (mF H e) s.heap:=fun b u q=>by
  have nb:b≠e:=fun z=>by rw[z,fk] at q;cases q
  rw[cV nb] at q;refine(I.bq b u q).gI (fun _ _ _ z=>z) (fun c z =>?_) fun c xs z =>?_
  all_goals
   have nc:c≠e:=fun y=>by
    rw[y] at z
    rcases S5 with l|⟨φ,l⟩<;>(rw[l] at z;cases z)
   rw[cV nc];exact z
 have Gr:∀b o,H0 b=some o->(∀ φ,H b≠some (.ext φ))->H b≠none->mF H e b=H b:=fun b o q n1 n2=>by
  refine cV fun z =>?_;rw[z] at n1 n2
  rcases S5 with l|⟨φ,l⟩
  ·exact n2 l
  ·exact n1 φ l
 refine⟨e,oe.cls,t,B,mF H e,oe.dict,rfl,I.os,I.bare,⟨?_,?_,?_,?_,?_,?_,?_⟩,QZ.part kK uD.1 fw,TQ,?_,fw,uD,hE⟩
 ·exact fun b o q n hb rY=>hk b o (EZ b o q) (old b o q hb) (ub.keep b o q n hb rY)
 ·intro b o q n hb rY;obtain⟨sl,e1⟩:=ub.slot b o q n hb rY;obtain⟨sl',e2⟩:=yL b _ (by show b∈(env::outer).filterMap (·.frame);rw[Y7];exact Jl _ hb) e1;exact⟨sl',e2⟩
 ·intro b o q n rY;rw[cV (EZ b o q)];exact ub.free b o q n rY
 ·intro b o q rY;obtain⟨o1,e1⟩:=ub.there b o q rY
  by_cases hb:b∈lI (env::outer)
  ·obtain⟨sl,e2⟩:=yL b o1 hb e1;exact⟨_,e2⟩
  ·exact⟨o1,hk b o1 (EZ b o q) hb e1⟩
 ·intro b xs q;have z:=ub.jQ b xs q;rw[Gr b _ q (fun φ y=>by rw[z] at y;cases y) (fun y=>by rw[z] at y;cases y)];exact z
 ·intro b o u q;have z:=ub.jr b o u q;rw[Gr b _ q (fun φ y=>by rw[z] at y;cases y) (fun y=>by rw[z] at y;cases y)];exact z
 ·intro b ps q;obtain⟨m,z⟩:=ub.ky b ps q;refine⟨m,?_⟩;rw[Gr b _ q (fun φ y=>by rw[z] at y;cases y) (fun y=>by rw[z] at y;cases y)];exact z
 ·intro b o q hb;obtain⟨o1,e1⟩:=ub.there b o q (by simp);exact⟨o1,Qfp _ e1 fun z=>(Jx.mp z).elim (EZ b o q) (old b o q hb)⟩
def tV (hE:∀c d H,E' c d H->E c d H):Passes (tj P w base) (kS (tj P w base) P w K mg base N qual scope f cd A outer s0 H0 E) E':=by
 intro pins σ H s ev s' I h
 let env:=QbG qual scope s0.heap.objs.size f cd
 obtain⟨e,cls,t,B,H',dx,rfl,os',bare',u1,hok',TQ,hold,fw,uD,q⟩:=h;have ub:Un (lI outer) [] H0 H s0.heap s.heap:=I.base;have W7:∀b o,s0.heap.get? b=some o->b≠s0.heap.objs.size:=fun b o q=>Jm (Jf q);have NJ:=fun b hb=>by
  have:b∈(env::outer).filterMap (·.frame):=hb;exact Jx.mp this
 have dU:=fun b hb=>by
  show b∈(env::outer).filterMap (·.frame);rw[Y7];exact Jl _ hb
 have old:=fun b o q hb z=>(NJ b z).elim (W7 b o q) hb;refine Ft I.ok.frames rfl uD fun h' EY up =>?_;have step:∀b o,s.heap.get? b=some o->b∉lI (env::outer)->∀o1,s'.heap.get? b=some o1->h'.get? b=some o1:=fun b o q hb o1 e1=>by
  obtain⟨o',eo⟩:=hold b o q hb;have e2:=uD.1 b o' eo;rw[e1] at e2;cases e2;exact EY.1 b _ eo
 have yL:∀b o,b∈lI (env::outer)->s'.heap.get? b=some o->∃sl,h'.get? b=some { o with slots:=sl }:=fun b o hb q=>by
  refine aj.el (mq uD.2.2.1 hb) _ ?_;rintro o' e' nf;rw[q] at e';cases e';exact up b o q nf
 refine⟨e,cls,t,B,H',dx,rfl,(os'.trans I.os),bare',⟨?_,?_,?_,?_,?_,?_,?_⟩,hok'.part uD.1 EY.1 fw,TQ,?_,fw,EY,hE _ _ _ q⟩
 ·intro b o q n hb rY;have e1:=ub.keep b o q n hb rY;have n1:=ub.free b o q n rY;have vB:=old b o q hb;exact step b o e1 vB o (u1.keep b o e1 n1 vB (by simp))
 ·intro b o q n hb rY;obtain⟨sl,e1⟩:=ub.slot b o q n hb rY;have n1:=ub.free b o q n rY;obtain⟨sl1,e2⟩:=u1.slot b _ e1 n1 (dU b hb) (by simp);obtain⟨sl2,e3⟩:=yL b _ (dU b hb) e2;exact⟨sl2,e3⟩
 ·intro b o q n rY;have n1:=ub.free b o q n rY;obtain⟨o1,e1⟩:=ub.there b o q rY;exact u1.free b o1 e1 n1 (by simp)
 ·intro b o q rY;obtain⟨o1,e1⟩:=ub.there b o q rY;obtain⟨o2,e2⟩:=u1.there b o1 e1 (by simp)
  by_cases hb:b∈lI (env::outer)
  ·obtain⟨sl,e3⟩:=yL b o2 hb e2;exact⟨_,e3⟩
  ·exact⟨o2,step b o1 e1 hb o2 e2⟩
 ·exact fun b xs q=>u1.jQ b xs (ub.jQ b xs q)
 ·exact fun b o u q=>u1.jr b o u (ub.jr b o u q)
 ·intro b ps q;obtain⟨m1,e1⟩:=ub.ky b ps q;obtain⟨m2,e2⟩:=u1.ky b _ e1;exact⟨m1++m2,by rw[e2,Array.append_assoc]⟩
 ·intro b o q hb;obtain⟨o1,e1⟩:=ub.there b o q (by simp);exact hold b o1 e1 (old b o q hb)
end
def Et (X:Cx)(pins:List (Gc×Obj))(σ0:St)(E':XK):Fk->KE->Prop:=fun e s'=>qM fun oJ H s=>Inv X (pins++oJ) σ0 H s/\tj X.prog X.w X.base X.stack H s E' e s'
def xB (X:Cx)(pins:List (Gc×Obj))(σ0:St)(E':XK):Cx:={ X with pn:=X.pn++pins,xe:=Et X pins σ0 E' }
def xH (X:Cx)(e:Gc):Cx:={ X with A:=X.A.mark (some (.ref e)),calm:=false,xe:=fun _ _=>False }
section
variable {X:Cx}{pins oJ:List (Gc×Obj)}{σ σ0:St}{E':XK}{H:Hp}{s:KE}
def Inv.toB (I:Inv X pins σ H s):Inv (xB X pins σ0 E') [] σ H s:=
 ⟨⟨I.ok.mod,I.ok.kind,I.ok.glob,I.ok.blt,I.ok.above,I.ok.inj,I.ok.has,I.ok.cab,I.ok.hd,I.ok.frames,I.ok.stk,I.ok.exf,I.ok.bs,I.ok.bsz,I.ok.noex,I.ok.exfs,I.ok.km,I.ok.frf⟩,I.os,I.bare,I.base,I.loc,I.cell,I.free,I.freeC,
  fun p hp=>I.pin p (by have hp:p∈(X.pn++pins)++[]:=hp;simpa using hp),I.bq,I.len⟩
def Inv.QC (I:Inv (xB X pins σ0 E') oJ σ H s):Inv X (pins++oJ) σ H s:=
 ⟨⟨I.ok.mod,I.ok.kind,I.ok.glob,I.ok.blt,I.ok.above,I.ok.inj,I.ok.has,I.ok.cab,I.ok.hd,I.ok.frames,I.ok.stk,I.ok.exf,I.ok.bs,I.ok.bsz,I.ok.noex,I.ok.exfs,I.ok.km,I.ok.frf⟩,I.os,I.bare,I.base,I.loc,I.cell,I.free,I.freeC,
  fun p hp=>I.pin p (by show p∈(X.pn++pins)++oJ;simpa [Yo] using hp),I.bq,I.len⟩
def Inv.toH (I:Inv X pins σ H s):Inv (xH X e) pins σ H s:=
 ⟨⟨I.ok.mod,I.ok.kind,I.ok.glob,I.ok.blt,I.ok.above,I.ok.inj,I.ok.has,I.ok.cab,fun z=>Bool.noConfusion z,I.ok.frames,I.ok.stk,I.ok.exf,I.ok.bs,I.ok.bsz,I.ok.noex,I.ok.exfs,I.ok.km,I.ok.frf⟩,I.os,I.bare,I.base,I.loc,I.cell,I.free,I.freeC,I.pin,I.bq,I.len⟩
def Inv.UX (k:X.Ok)(I:Inv (xH X e) pins σ H s):Inv X pins σ H s:=
 ⟨k,I.os,I.bare,I.base,I.loc,I.cell,I.free,I.freeC,I.pin,I.bq,I.len⟩
def CB (σ0:St)(sp:Sp)(E:XK)(t:TA):TE:=fun σ H Q =>σ = σ0/\t σ H fun vs H1=>sp vs H1 Q E
def N6 {p pos:Pos}(F:aW X.prog X.w X.K X.mg X.base (tj X.prog X.w X.base) k f fd ps sp)(hr:da k X.A)(hg:Gl X x)(hm:X.mg x=some (.ref f))
  (hk:Ui X.K (.ref f)=true) (hb:Binds X.K fd ps []) (ha:PA (xB X pins σ0 E') (e::es) t) (oC:(x==("__debug__" : Str))=false:=by decide)
  (he:Qaj (e::es) X.env=(false,QaL e X.env)::Qaj es X.env:=by rfl) (m7:(QbU pos (Qaj es X.env)).any (·.1)=false:=by rfl) :
  PE (xB X pins σ0 E') (.Call (.Name x p) (e::es) [] pos) (CB σ0 sp E' t):=by
 intro pl s σ H Q I h;obtain⟨hσ,h⟩:=h;subst hσ;refine QaJ (iL I hg hm (Qb5 I.ok.mod.zA hk (bg (ha s σ H _ I h) fun us s1 hz_=>aj.el hz_ _ fun vs H1 I1 r q=>⟨I1.iA,?_⟩) he m7) oC);have J1:=I1.QC;refine QcF (QcA (F.run X.A X.stack s1 H1 ⟨us,[]⟩ us vs Q E' hr J1.KS (by simpa using(hb s1 us J1.iA (by simpa using(by rw[<-r.length];exact F.len _ _ _ _ q)))) r q) fun r s' hq =>?_);cases r with
 | error e=>exact⟨pl,H1,s1,J1,hq⟩
 | ok fl=>
  cases fl with
  | ret u=>exact I1.after hq
  | next=>exact QaV hq
  | brk=>exact QaV hq
  | cont=>exact QaV hq
end
def Un.land {st:List Env}{H H':Hp}{h h1 h3 B:Heap}(u:Un (lI st) [] H H' h h1)(hold:∀b o,h.get? b=some o->b∉lI st->∃o',B.get? b=some o')(k1:B.StaysIn h1)(k3:B.StaysIn h3)(hf:h1.FunFrames B st)(up:h1.UpToSlots h3):
  Un (lI st) [] H H' h h3:=by
 have step:∀b o,h.get? b=some o->b∉lI st->∀o1,h1.get? b=some o1->h3.get? b=some o1:=fun b o q hb o1 e1=>by
  obtain⟨o',eo⟩:=hold b o q hb;have e2:=k1 b o' eo;rw[e1] at e2;cases e2;exact k3 b _ eo
 have sl:∀b o,b∈lI st->h1.get? b=some o->∃l,h3.get? b=some { o with slots:=l }:=fun b o hb q=>by
  refine aj.el (mq hf hb) _ ?_;rintro o' e' nf;rw[q] at e';cases e';exact up b o q nf
 refine⟨fun b o q n hb hx=>step b o q hb o (u.keep b o q n hb hx),fun b o q n hb hx =>?_,u.free,fun b o q hx =>?_,u.jQ,u.jr,u.ky⟩
 ·obtain⟨l1,e1⟩:=u.slot b o q n hb hx;obtain⟨l2,e2⟩:=sl b _ hb e1;exact⟨l2,e2⟩
 ·obtain⟨o1,e1⟩:=u.there b o q hx
  by_cases hb:b∈lI st
  ·obtain⟨l,e2⟩:=sl b o1 hb e1;exact⟨_,e2⟩
  ·exact⟨o1,step b o q hb o1 e1⟩
def DJ {o:Obj}(he:h.get? e=some o):Looks M h (typeOf (.ref e)) o.cls:=
 (Looks.ld he).andThen .now
section
variable {X:Cx}{L:Gc}{pins:List (Gc×Obj)}{σ:St}{H:Hp}{s:KE}
def kd {i:Nat}{n:Str}{pos:Pos}{Q:Unit->KE->Prop}(I:Inv X pins σ H s)(hN:X.N.Nodup)(hi:X.N[i]? = some n)(Lw:X.env.kindOf n=some .local)
  (h:∀s',Inv X pins (σ.set i none) H s'->Q () s'):Qac M A (do bindName X.env n .none;unbindBehindTheSuite X.env n pos) Q E s:=by
 refine aj.el (id I.loc) _ ?_;rintro m hn hl;have hp:(X.env.scope.kind == .class||(X.env.scope.kind == .module&&X.env.locals != X.env.globals))=false:=by rw[I.ok.kind];rfl
 obtain⟨oL,_,_,hoL,_⟩:=id hn;refine wpAny_nameGoes_keeps Lw hn hp fun h' v hn' hs=>h _ ?_;have off:=fun b hb=>hs.2 b hb;have old:∀b o,X.s₀.heap.get? b=some o->b≠X.env.locals:=fun b o e=>Jm (Jt (Jf e) I.ok.above);have Qq:∀b u,H b=some u->b≠X.env.locals:=fun b u e z=>by have:=I.free;rw[<-z,e] at this;cases this
 refine⟨I.ok,I.os,I.bare,⟨fun b o e n hb hx =>?_,fun b o e n hb hx =>?_,I.base.free,fun b o e hx =>?_,I.base.jQ,I.base.jr,I.base.ky⟩,⟨_,hn',fun j y w e1 e2 e3 =>?_⟩,fun y c e =>?_,I.free,I.freeC,fun p hp =>?_,?_,by simpa using I.len⟩
 ·rw[off b (old b o e)];exact I.base.keep b o e n hb hx
 ·rw[off b (old b o e)];exact I.base.slot b o e n hb hx
 ·rw[off b (old b o e)];exact I.base.there b o e hx
 ·have hj:j≠i:=fun z=>by
   subst z;rw[Yk (by rw[I.len];exact(Jq.mp hi).1)] at e2;cases e2
  have hy:y≠n:=fun z=>hj (rX hN e1 (z▸hi));rw[Yi (QaA hj)] at e2;refine aj.el (hl j y w e1 e2 e3) _ ?_;rintro u ru lk;refine⟨u,ru,?_⟩
  rcases lk with ⟨k1,k2⟩|⟨k1,c,k2,k3⟩
  ·exact .inl ⟨k1,by show(if y=n then v else m y)=some u;rw[if_neg hy];exact k2⟩
  ·refine .inr ⟨k1,c,k2,?_⟩;have hc:=I.Ln y c k2;exact k3.sameBut hs hc
 ·obtain⟨w,z⟩:=I.cell y c e;exact⟨w,z.sameBut hs (I.Ln y c e)⟩
 ·refine aj.el (I.pin p hp) _ ?_;rintro p1 p2 p3 p4 p5;exact⟨by rw[off _ p3];exact p1,p2,p3,p4,p5⟩
 ·refine fun b u e=>(I.bq b u e).gI (fun c w hc q =>?_) (fun _ q=>q) fun _ _ q=>q;rw[off c (by
   rcases hc with hc|hc
   ·subst hc;exact Qq _ _ e
   ·exact Qq _ _ hc)]
  exact q
end
def Q5 (e:Gc)(cls:Fk):HO := .ext fun h=>∃o,h.get? e=some o/\o.cls=cls
def RB (e:Gc)(cls:Fk)(d:Gc):HO := .ext fun h=>∃o,h.get? e=some o/\o.cls=cls/\o.dict=some d/\notCls o=true
def mH (e:Gc)(cls:Fk):Option Gc->HO
 | none=>Q5 e cls
 | some d=>RB e cls d
def JV {o:Obj}{cls:Fk}{dx:Option Gc}{vs:Array Fk}(h1:h.get? e=some o)(h2:o.cls=cls)(h3:o.dict=dx)(h4:o.data = .fields vs):bw P w H h e (mH e cls dx):=by
 cases dx with
 | none=>exact⟨⟨o,h1,h2⟩,⟨o,h1⟩,fun a b ⟨o,e1,r⟩ k=>⟨o,k _ e1,r⟩⟩
 | some d=>exact⟨⟨o,h1,h2,h3,by obtain⟨_,_,dt,_⟩:=o;cases h4;rfl⟩,⟨o,h1⟩,fun a b ⟨o,e1,r⟩ k=>⟨o,k _ e1,r⟩⟩
section
variable {X:Cx}{L:Gc}{pins:List (Gc×Obj)}{σ:St}{H:Hp}{s:KE}
def Inv.zT (I:Inv X pins σ H s)(h0:H e=none)(h1:e≠X.env.locals)(h2:∀x c,X.env.cells.lookup x=some c->c≠e)(h3:∀p∈X.pn++pins,p.1≠e)(h4:∀b u,X.s₀.heap.get? b=some u->b≠e)
  (new:bw X.prog X.w (upd H e o) s.heap e o):Inv X pins σ (upd H e o) s:=by
 refine⟨I.ok,I.os,I.bare,⟨I.base.keep,I.base.slot,fun b u q n hx =>?_,I.base.there,fun b xs q =>?_,fun b u xs q =>?_,fun b ps q =>?_⟩,I.loc,I.cell,?_,fun x c q =>?_,fun p hp =>?_,I.bq.adopt h0 new,I.len⟩
 ·rw[ao (h4 b u q)];exact I.base.free b u q n hx
 ·have z:=I.base.jQ b xs q;rw[ao (ay z h0)];exact z
 ·have z:=I.base.jr b u xs q;rw[ao (ay z h0)];exact z
 ·obtain⟨m,z⟩:=I.base.ky b ps q;exact⟨m,by rw[ao (ay z h0)];exact z⟩
 ·rw[ao (QaA h1)];exact I.free
 ·rw[ao (h2 x c q)];exact I.freeC x c q
 ·obtain⟨p1,p2,p3⟩:=I.pin p hp;exact⟨p1,by rw[ao (h3 p hp)];exact p2,p3⟩
def Ends.gone (D:Ends)(j:Nat):Ends:={ nx:=fun σ H=>D.nx (σ.set j none) H,rt:=D.rt,bk:=fun σ H=>D.bk (σ.set j none) H,ct:=fun σ H=>D.ct (σ.set j none) H }
def MP (K:Ja)(C:Gc)(j:Nat)(tb:St->XK->TS)(th:TS):TS:=fun D σ H=>∃E',tb σ E' D σ H /\
 ∀cls dx H',E' cls dx H'->exmOne K cls (.ref C)=some true/\∀e,H' e=none->th (D.gone j) (σ.set j (some (.ref e))) (upd H' e (mH e cls dx))
def Lm {c n:Str}{j:Nat}{C:Gc}{body M8:List QdC}{b0:QdC}{tb:St->XK->TS}{th:TS}{np hp pos:Pos}(kK:X.stack=X.env::X.outer)(hfm:X.env.frame=some L)(hN:X.N.Nodup)(hj:X.N[j]? = some n)(Lw:X.env.kindOf n=some .local)
  (hg:Gl X c) (hm:X.mg c=some (.ref C)) (hb:∀pins σ0 E',zB (xB X pins σ0 E') body (tb σ0 E')) (hh:∀e,zB (xH X e) (b0::M8) th) (hd:(c==("__debug__" : Str))=false:=by decide) (hex:X.ex=[]:=by rfl) :
  PS X (.Try body [.ExceptHandler (some (.Name c np)) (some n) (b0::M8) hp] [] [] pos) (MP X.K C j tb th):=by
 intro pins s σ H D I h;obtain⟨E',vB,hc⟩:=h;refine wpAny_Try_except (Qbc (hb pins σ E' s σ H D I.toB vB) (fun f s1 q =>?_) fun ev s1 q =>?_)
 ·cases f with
  | next=>
   obtain⟨σ',H',J,q⟩:=q;have J:=J.QC;rw[Uv] at J;exact QcX ⟨σ',H',J,q⟩
  | brk=>
   obtain⟨σ',H',J,q⟩:=q;have J:=J.QC;rw[Uv] at J;exact⟨σ',H',J,q⟩
  | cont=>
   obtain⟨σ',H',J,q⟩:=q;have J:=J.QC;rw[Uv] at J;exact⟨σ',H',J,q⟩
  | ret u=>
   obtain⟨v,σ',H',J,r,q⟩:=q;have J:=J.QC;rw[Uv] at J;exact⟨v,σ',H',J,r,q⟩
 ·obtain⟨oJ,H1,s0,J,ea,cls,t,B,H',dx,rfl,os',bare',u1,hok',TQ,hold,fw,uD,q⟩:=q;obtain⟨hx,ht⟩:=hc _ _ _ q;have hnB:=uD.2.1;have BC:∃oe vs,s1.heap.get? ea=some oe/\oe.data = .fields vs:=by
   refine aj.el (uD.own) _ ?_;rintro oe e1 _ _ vs e3;exact⟨oe,vs,e1,e3⟩
  have hnf:ea∉lI X.stack:=fun z=>by
   refine aj.el (mq uD.2.2.1 z) _ ?_;rintro o e1 e2;refine aj.el (BC) _ ?_;rintro oe vs e3 e4;rw[e1] at e3;cases e3;exact e2 vs e4
  have IW:∀b o,s0.heap.get? b=some o->b≠ea:=fun b o e z=>by
   subst z;obtain⟨o',e'⟩:=hold b o e hnf;rw[hnB] at e';cases e'
  have hnH:H' ea=none:=by
   cases e:H' ea with
   | none=>rfl
   | some u=>obtain⟨o',e'⟩:=fw _ _ e;rw[hnB] at e';cases e'
  have EY:=uD;rw[kK] at EY;refine B1 (by rw[<-kK];exact J.ok.frames) hfm EY fun h4 held4 up4=>Cn held4.1 held4.2.1 held4.2.2.1 held4.2.2.2 fun h5 fly5 up5 =>?_;have at_:=fun{h9} k9 up9=>
   (J.Ca (s':={ s1 with heap:=h9 }) os' (u1.land hold uD.1 k9 uD.2.2.1 up9) (hok'.part uD.1 k9 fw) bare' (fun b z=>absurd z (by simp))).eA
  have J5:=at_ fly5.1 (up4.trans up5);obtain⟨ob,Wn,Cc,_⟩:=fly5.own;refine wpAny_handleBy_cons (codeAny_handlers_test (iL J5.toH hg hm (exm_one J5.iA (by rw[<-Cc];exact DJ Wn) hx _ _ _ _ (fun b o z=>z) (codeAny_handlers_suite_as (Cn fly5.1 fly5.2.1 fly5.2.2.1 fly5.2.2.2 fun h6 fly6 up6=>aj.el (fly6.own) _ ?_))) hd)) (by intro z;cases z);rintro o6 ho6 hc6 Qc w6 hw6;have K6:Inv X pins σ (upd H' ea (mH ea cls dx)) { s1 with heap:=h6 }:=by
   refine(at_ fly6.1 ((up4.trans up5).trans up6)).zT hnH (fun z =>?_) (fun x k e =>?_) (fun p hp =>?_) (fun b u e =>?_) (JV ho6 hc6 Qc hw6)
   ·obtain⟨m,⟨oL,_,_,e,_⟩,_⟩:=J.loc;exact IW _ _ e z.symm
   ·obtain⟨v,o,e1,_⟩:=J.cell x k e;exact IW _ _ e1
   ·exact IW _ _ (J.pin p (by
     rcases Uq.mp hp with z|z
     ·exact Yh _ z
     ·exact Jv _ (Yh _ z))).1
   ·obtain⟨o',e'⟩:=J.base.there b u e (by rw[hex];simp);exact IW _ _ e'
  refine lT (X:=xH X ea) (K6.toH) hN hj (.inl Lw) (v := .ref ea) rfl (fun s7 K7=>(Qbc (hh ea _ _ _ (D.gone j) K7 (ht ea hnH)) (fun f s8 q8 =>?_) fun _ _ z=>QaV z)) (.inr Lw);cases f with
  | next=>obtain⟨σ',H8,J8,q8⟩:=q8;exact kd (J8.UX J.ok) hN hj Lw fun s9 J9=>⟨_,_,J9,q8⟩
  | brk=>obtain⟨σ',H8,J8,q8⟩:=q8;exact kd (J8.UX J.ok) hN hj Lw fun s9 J9=>⟨_,_,J9,q8⟩
  | cont=>obtain⟨σ',H8,J8,q8⟩:=q8;exact kd (J8.UX J.ok) hN hj Lw fun s9 J9=>⟨_,_,J9,q8⟩
  | ret u=>obtain⟨v,σ',H8,J8,r,q8⟩:=q8;exact kd (J8.UX J.ok) hN hj Lw fun s9 J9=>⟨v,_,_,J9,r,q8⟩
end
section
variable {P:Qaf}{w:Qah}{K:Ja}{mg:Str->Option Fk}{base:Heap}
def bM.SM {st:QdC}{f:Gc}{fd:Qad}{N ps:List Str}{k:Nat}{sp:Sp}(F:bM K x qual st f fd)(S:aA N ps (ak st))(len:∀vs H Q E,sp vs H Q E->vs.length=ps.length)
  (zu:∀cQ A outer s H vs Q E,da k (A.deeper (QbG qual (ak st) s.heap.objs.size f cQ))->sp vs H Q E ->
   ∃t,zB (kS (tj P w base) P w K mg base N qual (ak st) f cQ A outer s H E) (bZ st) t/\t { nx:=fun _ H'=>Q .non H',rt:=Q } (start N vs) H):aW P w K mg base (tj P w base) (k+1) f fd ps sp:=by
 refine aj.el (F.ex) _ ?_;rintro oc od kV doc pm an cQ ct DD rfl lk zU;exact MU lk zU S len fun A outer s H vs Q E hr Ke=>zu cQ A outer s H vs Q E hr Ke
structure BN (P:Qaf)(w:Qah)(K:Ja)(mg:Str->Option Fk)(base:Heap)(k:Nat)(x:Str)(ps:List Str)(sp:Sp):Prop where
 ex:∃f fd,aW P w K mg base (tj P w base) k f fd ps sp/\Binds K fd ps []/\Ui K (.ref f)=true/\mg x=some (.ref f)
def BN.mono {x:Str}{ps:List Str}{sp:Sp}(F:BN P w K mg base j x ps sp)(h:j<=k):BN P w K mg base k x ps sp:=by
 refine aj.el (F.ex) _ ?_;rintro f fd a b c d;exact⟨f,fd,a.mono h,b,c,d⟩
def HW {k:Nat}{x:Str}{ps:List Str}{sp:Sp}{p pos:Pos}{e:QaB}{es:List QaB}{t:TA}
  (F:BN P w K mg base k x ps sp) (hr:da k (A.deeper (QbG qual scope s0.heap.objs.size fa cd))) (hg:Gl (kS (tj P w base) P w K mg base N qual scope fa cd A outer s0 H0 E) x) (hE:∀c d H,E' c d H->E c d H)
  (ha:PA (kS (tj P w base) P w K mg base N qual scope fa cd A outer s0 H0 E) (e::es) t) (oC:(x==("__debug__" : Str))=false:=by decide)
  (he:Qaj (e::es) (QbG qual scope s0.heap.objs.size fa cd)=(false,QaL e (QbG qual scope s0.heap.objs.size fa cd))::Qaj es (QbG qual scope s0.heap.objs.size fa cd):=by rfl)
  (m7:(QbU pos (Qaj es (QbG qual scope s0.heap.objs.size fa cd))).any (·.1)=false:=by rfl) :
  PE (kS (tj P w base) P w K mg base N qual scope fa cd A outer s0 H0 E) (.Call (.Name x p) (e::es) [] pos) (zr sp [] E' t):=by
 refine aj.el (F.ex) _ ?_;rintro f fd a b c d;exact Ce a hr hg d c b .nil (tV hE) ha oC he m7
def O8 {k:Nat}{x:Str}{ps:List Str}{sp:Sp}{p pos:Pos}{e:QaB}{es:List QaB}{t:TA}(F:BN X.prog X.w X.K X.mg X.base k x ps sp)(hr:da k X.A)(hg:Gl X x)
  (ha:PA (xB X pins σ0 E') (e::es) t) (oC:(x==("__debug__" : Str))=false:=by decide) (he:Qaj (e::es) X.env=(false,QaL e X.env)::Qaj es X.env:=by rfl) (m7:(QbU pos (Qaj es X.env)).any (·.1)=false:=by rfl) :
  PE (xB X pins σ0 E') (.Call (.Name x p) (e::es) [] pos) (CB σ0 sp E' t):=by
 refine aj.el (F.ex) _ ?_;rintro f fd a b c d;exact N6 a hr hg d c b ha oC he m7
end
section
variable {X:Cx}{pos:Pos}
def JJ:TE:=fun _ H Q=>∀p H',hW H p (.dK []) H'->Q (.ref p) H'
def TK:PE X (.Dict [] [] pos) JJ:=by
 have e:JJ=JN:=by
  funext σ H Q
  exact(ph (F:=fun p H'=>Q (.ref p) H')).symm
 rw[e];exact G8
end
def BN.calm {P:Qaf}{w:Qah}{K:Ja}{mg:Str->Option Fk}{base:Heap}{k:Nat}{x:Str}{ps:List Str}{sp Na:Sp}(F:BN P w K mg base k x ps sp)(h:∀vs H Q E,Na vs H Q E->sp vs H Q (fun _ _ _=>False)):Fn P w K mg base k x ps Na:=by
 refine aj.el (F.ex) _ ?_;rintro f fd a b c d;refine⟨f,fd,⟨fun vs H Q E q=>a.len _ _ _ _ (h _ _ _ _ q),fun A outer s H args us vs Q E hr he hb hv hs=>QcA (a.run A outer s H args us vs Q _ hr he hb hv (h _ _ _ _ hs)) fun r s' q =>?_⟩,b,c,d⟩;cases r with
 | error e=>obtain⟨_,_,_,_,_,_,_,_,_,_,_,_,_,_,_,z⟩:=q;exact z
 | ok fl=>cases fl<;>exact q
open PySem.Calls Builtin Builtin.ObjectAttr Builtin.Getset_descriptor
def ExcAt (e C:Gc)(h:Heap):Prop:=∃o,h.get? e=some o/\o.cls = .ref C
structure jF (K:Frag)(C:Gc):Prop where
 cl:(QeR K C).isSome=true
 ga:findIn K (.ref C) "__getattribute__" = some (some (.builtin "BaseException.__getattribute__"))
 gt:findIn K (.ref C) "__getattr__" = some none
 ca:findIn K (.ref C) "__class__" = some (some (.builtin "object.__class__"))
 cg:specialIn K (.builtin "object.__class__") "__get__" = some (some (.builtin "getset_descriptor.__get__"))
 ct:takesIn K (.builtin "object.__class__")=some true
 mo:mroIn K C (.type "object")=some true
 mb:mroIn K C (.type "BaseException")=some true
section
variable {K:Frag}{e C:Gc}
def hU {h:Heap}(p:ExcAt e C h):Looks M h (typeOf (.ref e)) (.ref C):=by
 obtain⟨o,h1,h2⟩:=p;exact h2▸(Looks.ld h1).andThen .now
def Gn {h:Heap}{self:Fk}(X:K.In h)(O:jF K C):Looks M h (find self (.ref C) "__class__") (.bind (.builtin "getset_descriptor.__get__") (.builtin "object.__class__")):=by
 have d:Looks M h (dataDescriptor? (some (.builtin "object.__class__")) (some (.builtin "getset_descriptor.__get__"))) (some (.builtin "getset_descriptor.__get__",.builtin "object.__class__")):=(looks_takesIn (M:=M) X O.ct).andThen .now;exact(Qcz (M:=M) X O.ca).andThen ((looks_specialIn X O.cg).andThen (d.andThen (Looks.tag .now)))
variable {prog:Qaf}{w:Qah}{A:Qax}{E:Fk->KE->Prop}{s:KE}
def IY (X:K.In s.heap)(O:jF K C)(p:ExcAt e C s.heap)(h:R (.ok (.ret (.ref C))) s):
  QaZ (Qab prog w) A (.call (.builtin "getset_descriptor.__get__") ⟨[.builtin "object.__class__",.ref e,tp],[]⟩) R s:=by
 obtain⟨hh,g,dr,t,os⟩:=s;have T0:=hU (M:=Qab prog w) p;have T1:=looks_mroIn (M:=Qab prog w) X O.mo;refine Qbf KF.slot_gs.plain KF.entry_gs (KF.slot_gs.check _ _ _ _ _ _ _ _ KF.type_class (KF.args_gs _ _ _) (be (tz ?_)));unfold descrGetter descrCheckInstance descrNameAndClass isInstance;simp only[KF.owner_class]
 repeat lk
 refine⟨QcV _ ∅,(QaG KF.entry_class ?_)⟩
 repeat lk
 exact h
def Ff {Q:Fin->KE->Prop}(X:K.In s.heap)(O:jF K C)(p:ExcAt e C s.heap)(h:Q (.done (.ret (.ref C))) s):
  Qac (Qab prog w) A (Builtin.«object.__getattribute__» ⟨[.ref e,.str "__class__" tk],[]⟩) Q E s:=by
 obtain⟨hh,g,dr,t,os⟩:=s;exact be (tz (be (tz (be ((hU (M:=Qab prog w) p).at (be ((Gn (M:=Qab prog w) (self := .ref e) X O).at (be (Qak (QcF (IY X O p (tz h))))))))))))
def uy {Q:Unit->KE->Prop}(X:K.In s.heap)(O:jF K C)(p:ExcAt e C s.heap)(h:Q () s):Qac (Qab prog w) A (checkBuiltinCall "BaseException.__getattribute__" ⟨[.ref e,nameV],[]⟩) Q E s:=by
 obtain⟨hh,g,dr,t,os⟩:=s;have T0:=hU (M:=Qab prog w) p;have T1:=looks_mroIn (M:=Qab prog w) X O.mb;have k1:builtinKind "BaseException.__getattribute__" = some .slot:=∅;have k2:splitId "BaseException.__getattribute__" = some ("BaseException", "__getattribute__"):=∅;simp only[checkBuiltinCall,k2]
 repeat (first|lk|wp_step)
 exact h
def GJ (X:K.In s.heap)(O:jF K C)(p:ExcAt e C s.heap)(h:Q (some (.ref C)) { s with toks:=s.toks+1 }):Qac (Qab prog w) A (getAttr? (.ref e) "__class__") Q E s:=by
 obtain⟨hh,g,dr,t,os⟩:=s;exact be (wpAny_mkText (be (QaS (Qak (be ((hU (M:=Qab prog w) p).at (be ((Qcz (M:=Qab prog w) X O.ga).at (be ((Qcz (M:=Qab prog w) X O.gt).at (be (QaS (Qak (be (tz (QcF (Qbf F.attr_ValueError.ga.plain F.entry_bexc_ga (uy X O p (Ff X O p (handed_on rfl (tz h)))))))))))))))))))))
def Ga (O:jF K C):KitX K (.ref e) (.ref C) (ExcAt e C) where
 ty:=fun _ _ _ p=>hU p
 it:=fun _ _ X _=>by
  have z:=O.cl;cases q:K.lookup C with
  | none=>simp[QeR,q] at z
  | some o=>
   obtain⟨c1,c2,c3,c4⟩:=o;cases c3<;>simp[QeR,q] at z
   exact fun A Q E s k h=>be (QfL (k _ _ (X _ _ q)) (tz h))
 ne:=fun h tp dd aw n sl X htp=>Ye.mpr fun z=>by
  have z:=Value.ref.inj (beq_iff_eq.mp z);subst z;have z:=O.cl;cases q:K.lookup C with
  | none=>simp[QeR,q] at z
  | some o=>
   cases ((X _ _ q).symm.trans htp);simp[QeR,q] at z
 ca:=fun X p h=>GJ X O p h
def gL (h1:QeR K D=some cd)(h2:typeIn K (.ref D)=some (.type "type"))(h3:subIn K (.ref C) (.ref D)=some b)(Cf:(Qan C==Qan D)=false):kitOne K (.ref C) (.ref D)=some b:=by
 unfold kitOne kitCls;rw[if_neg (by rw[Cf];decide)];simp[h1,h2,h3]
def Kl (h1:subIn K (.ref D) (.type "BaseException")=some true)(h2:QeR K D=some cd)(h3:typeIn K (.ref D)=some (.type "type"))(h4:subIn K (.ref C) (.ref D)=some true):exmOne K (.ref C) (.ref D)=some true:=by
 unfold exmOne kitCls;rw[h1];simp[h2,h3,h4]
def II (h:QeR K C=some cd):(QeR K C).isSome=true:=by rw[h];rfl
def IH:kitOne K (.ref C) (.ref C)=some true:=by
 unfold kitOne;rw[if_pos (beq_iff_eq.mpr rfl)]
def NT (h1:kitMeta T=true)(h3:subIn K (.ref C) (.type T)=some b):kitOne K (.ref C) (.type T)=some b:=by
 unfold kitOne kitCls;simp[h1,h3]
end
section
variable {X:Cx}
def cy (hg:Gl X x)(hm:X.mg x=some (.ref C))(hd:(x==("__debug__" : Str))=false:=by decide):PE X (.Name x pos) (tC (.ref C)):=wH hg hm rfl hd
def SA:V->Option Fk
 | .ref D=>some (.ref D)
 | .ty T=>some (.type T)
 | _=>none
end
section
variable {X:Cx}
def Kv:fL X (Qbu .Mult) (fun x y H Q=>∃(z:Str) (n:Int),x = .str z/\y = .int n/\MulOk z n/\Q (.str (QdY z n)) H):=by
 intro pins s σ H x y v u Q I rx ry h;obtain⟨z,n,rfl,rfl,ok,q⟩:=h;obtain⟨t,rfl⟩:=rx;obtain⟨t',rfl⟩:=ry;exact SB.mul ok fun t' k=>⟨.str _,H,I.tok _,⟨_,rfl⟩,q⟩
def S2:R2:=fun x y H Q=>ML x y H Q\/∃(z:Str) (n:Int),x = .str z/\y = .int n/\MulOk z n/\Q (.str (QdY z n)) H
def To:fL X (Qbu .Mult) S2:=rD.or Kv
def oH {z:Str}{n:Int}(h1:z.length<=1000)(h2:n<=1000)(h3: -1000<=n):MulOk z n:=by
 refine⟨?_,fun a _ =>?_,fun a _ =>?_⟩
 ·rw[decide_eq_false ⋯,decide_eq_false ⋯];rfl
 ·have:(1000:Int)<=(2^63-1) / n:=by
   rw[Int.le_ediv_iff_mul_le ⋯];lia
  lia
 ·have:z.length*n.toNat<=1000*1000:=Nat.mul_le_mul h1 ⋯;show decide (_>Wp)=false;simp;exact Jh this ∅
end
def oneMore {K:Type}[DecidableEq K](D:List K)(k:K):List K:=if k∈D then D else D++[k]
def bV {K:Type}[DecidableEq K](ks:Nat->K):Nat->List K
 | 0=>[]
 | i+1=>oneMore (bV ks i) (ks i)
def ll {K:Type}[DecidableEq K](ks:Nat->K):∀i,(bV ks i).length<=i
 | 0=>Je _
 | i+1=>by
  have:=ll ks i;unfold bV oneMore
  split
  ·lia
  ·rw[Jw];exact Wb this
section
variable {prog:Qaf}{w:Qah}{K:Type}[DecidableEq K]{knd:QbH prog w K}
def lY (knd:QbH prog w K)(h:Heap)(a:Gc)(D:List K):Prop:=h.SetOf knd a (fun k=>decide (k∈D)) D.length
def lY.at' {h h':Heap}{a:Gc}{D:List K}(x:lY knd h a D)(k:∀o,h.get? a=some o->h'.get? a=some o):lY knd h' a D:=by
 obtain⟨o,es,ep,t,e,r⟩:=x;exact⟨o,es,ep,t,k _ e,r⟩
variable {A:Qax}{R:Qb4->KE->Prop}{I:Gc}{fp wr:List Gc}{G:Array QeX->Array QeX->Prop}{n:Nat}{P:Nat->Fk->Prop}{St:Nat->KE->Prop}
end
abbrev pA (led:Bool):Obj:={ cls := .type "set",dict:=none,data := .set #[] 0 (.fresh 0 0 led) }
def Up (xs:List Nat):Prop:=xs.Pairwise (· < ·)
def Up.lt {xs:Array Nat}(h:Up xs.toList){i j:Nat}(hj:j<xs.size)(AX:i<j):xs[i]<xs[j]:=by
 have:=U0.mp h i j (by simpa using Qck AX hj) (by simpa using hj) AX;simpa using this
structure Cut (xs:Array Nat)(j p:Nat):Prop where
 le:p<=xs.size
 lo:∀i (h:i<xs.size),i<p->xs[i]<j
 hi:∀i (h:i<xs.size),p<=i->j<=xs[i]
def qx (u:Up xs.toList)(j:Nat):∀fuel lo hi,hi-lo<=fuel->lo<=hi->hi<=xs.size->(∀i h,i<lo->xs[i]<j)->(∀i h,hi<=i->j<=xs[i])->Cut xs j (QeS xs j fuel lo hi)
 | 0,lo,hi,hf,hl,hs,h1,h2=>by
  have e:lo=hi:=by lia
  subst e;exact⟨hs,h1,h2⟩
 | fuel+1,lo,hi,hf,hl,hs,h1,h2=>by
  unfold QeS
  by_cases iC:lo<hi
  ·rw[if_pos iC];have hm:(lo+hi) / 2<xs.size:=by lia
   have e:xs.getD ((lo+hi) / 2) j=xs[(lo+hi) / 2]:=by simp[ hm]
   dsimp only;rw[e]
   by_cases hc:xs[(lo+hi) / 2]<j
   ·rw[if_pos hc];refine qx u j fuel _ _ ⋯ ⋯ hs (fun i h zC =>?_) h2
    by_cases q:i=(lo+hi) / 2
    ·subst q;exact hc
    ·exact Qck (u.lt hm ⋯) hc
   ·rw[if_neg hc];refine qx u j fuel _ _ ⋯ ⋯ ⋯ h1 (fun i h zC =>?_)
    by_cases q:i=(lo+hi) / 2
    ·subst q;lia
    ·have:=u.lt h (show(lo+hi) / 2<i by lia);lia
  ·rw[if_neg iC];have e:lo=hi:=by lia
   subst e;exact⟨hs,h1,h2⟩
def ig (u:Up xs.toList)(j:Nat):Cut xs j (QaI xs j):=
 qx u j _ _ _ ⋯ (Uw _) (Je _) (fun i h z=>absurd z (Wf _)) fun i h z=>absurd h ⋯
def Cut.next {xs:Array Nat}{p i:Nat}(u:Up xs.toList)(h:i<xs.size)(c:Cut xs (xs[i]+1) p):p=i+1:=by
 have h1:¬p<i+1:=fun z=>by have:=c.hi i h ⋯;lia
 have h2:¬i+1<p:=fun z=>by
  have hs:i+1<xs.size:=by have:=c.le;lia
  have a:=c.lo (i+1) hs z;have b:=u.lt hs (Wj i);lia
 lia
def dF (t:QcO):Prop:=t.dummies = #[]/\Up t.place.toList
def AN:dF (SetTable.fresh a b led):=⟨rfl,Qe9⟩
def iY (t:QcO)(n:Nat):dF (t.standIn n):=⟨rfl,by
 show List.Pairwise _ (Array.range n).toList;rw[Array.toList_range];exact QfD⟩
def has_none (j:Nat):Qe3 #[] j=false:=by
 unfold Qe3;simp
def EV (g:dF t)(j:Nat):t.slot j = .empty\/∃i,t.slot j = .live i:=by
 unfold SetTable.slot;dsimp only
 split
 ·exact .inr ⟨_,rfl⟩
 ·rw[g.1,has_none];exact .inl rfl
def Dj {t:QcO}(g:dF t){j:Nat}(h:t.slot j = .empty):j∉t.place.toList:=fun hm=>by
 obtain⟨i,hi,e⟩:=Yu.mp hm;have zC:i<t.place.size:=by simpa using hi
 have e':t.place[i]=j:=by simpa using e
 have c:=ig g.2 j;have hp:QaI t.place j=i:=by
  have h1:¬i<QaI t.place j:=fun z=>by have:=c.lo i zC z;lia
  have h2:¬QaI t.place j<i:=fun z=>by
   have hs:QaI t.place j<t.place.size:=by lia
   have a:=c.hi _ hs (Je _);have b:=g.2.lt zC z;lia
  lia
 unfold SetTable.slot at h;dsimp only at h;rw[hp,J2 zC,e'] at h;simp at h
def rF (g:dF t){h:Int}{j:Nat}{d:Option Nat}:∀fuel p,p.dummy=none->Qdv t (fun _=>h+1) h fuel p=some (.empty j d)->t.slot j = .empty/\d=none
 | 0,p,hp,e=>by unfold Qdv at e;cases e
 | fuel+1,p,hp,e=>by
  unfold Qdv at e
  rcases EV g p.j with q|⟨i,q⟩
  ·rw[q] at e;cases e;exact⟨q,hp⟩
  ·rw[q] at e;dsimp only at e;rw[if_neg (by rw[beq_iff_eq];lia)] at e;refine rF g fuel _ ?_ e;unfold SetTable.advance
   split
   ·exact hp
   ·exact hp
def Ig (g:dF t){j:Nat}(h:t.slot j = .empty):dF (t.put j).1:=by
 have c:=ig g.2 j;refine⟨?_,?_⟩
 ·show(if Qe3 t.dummies j=true then _ else t.dummies) = #[];rw[g.1,has_none,if_neg Jn]
 ·show Up (SetTable.insertAt t.place _ j).toList;rw[SetTable.toList_insertAt];have u:=g.2;refine Y2.mpr ⟨Qc1 (List.take_sublist _ _) u,List.pairwise_cons.mpr ⟨fun x hx =>?_,Qc1 (List.drop_sublist _ _) u⟩,fun x hx y hy =>?_⟩
  ·obtain⟨i,hi,e⟩:=Yu.mp hx;have zC:QaI t.place j+i<t.place.size:=by rw[Yt] at hi;simp at hi;lia
   have:=c.hi _ zC (Us _ _);have e':t.place[QaI t.place j+i]=x:=by simpa using e
   have Cf:j≠x:=fun z=>(Dj g h) (by rw[z];exact List.mem_of_mem_drop hx);lia
  ·have hxj:x<j:=by
    obtain⟨i,hi,e⟩:=Yu.mp hx;rw[Uo] at hi;have zC:i<t.place.size:=by simp at hi;lia
    have:=c.lo i zC ⋯;have e':t.place[i]=x:=by simpa using e
    lia
   rcases Jx.mp hy with rfl|hy
   ·exact hxj
   ·obtain⟨i,hi,e⟩:=Yu.mp hy;have zC:QaI t.place j+i<t.place.size:=by rw[Yt] at hi;simp at hi;lia
    have:=c.hi _ zC (Us _ _);have e':t.place[QaI t.place j+i]=y:=by simpa using e
    lia
def L4 (g:dF t)(n:Nat):dF (t.orStandIn n):=by
 unfold QfC
 split
 ·exact g
 ·exact iY t n
def G9 (g:dF t)(es:Array (Int×Fk))(h:Int)(x:Fk):dF (layNew t es h x).2.1/\(layNew t es h x).2.1.led=t.led:=by
 unfold layNew
 split
 ·rename_i slot wasDummy hs;dsimp only;have CN:t.slot slot = .empty:=by
   unfold SetTable.freeSlot at hs
   split at hs
   ·rename_i j d hp;obtain⟨h1,h2⟩:=rF g _ _ rfl hp;subst h2;cases hs;exact h1
   ·cases hs
  refine⟨L4 (Ig g CN) _,?_⟩;unfold QfC
  split<;>rfl
 ·exact⟨iY t _,rfl⟩
def pM {β:Type}(f:Nat->Option β):∀l,List.Sublist ((l.filterMap fun j=>(f j).map (j, ·)).map (·.1)) l
 | []=>List.Sublist.refl _
 | j::l=>by
  rw[Y7];cases f j with
  | none=>exact List.Sublist.cons _ (pM f l)
  | some b=>exact List.Sublist.cons_cons _ (pM f l)
def DP {led plain:Bool}{hs:Array Int}{t:QcO}{order:Array Nat}(e:SetTable.laid mask finger moves led plain hs=some (t,order)):dF t/\t.led=led:=by
 unfold SetTable.laid at e;cases q:SetTable.layClean mask hs with
 | none=>rw[q] at e;cases e
 | some owner=>
  rw[q] at e;cases e;exact⟨⟨rfl,(Qc1 (pM _ _) QfD)⟩,rfl⟩
def Am (es:Array (Int×Fk))(n:Nat):dF (Qee t es n).2.1/\(Qee t es n).2.1.led=t.led:=by
 unfold Qee
 split
 ·rename_i t' order hr;dsimp only
  split
  ·unfold SetTable.relaid at hr;exact DP hr
  ·exact⟨iY t _,rfl⟩
 ·exact⟨iY t _,rfl⟩
section
variable {prog:Qaf}{w:Qah}{K:Type}[DecidableEq K]{knd:QbH prog w K}{A:Qax}{E:Fk->KE->Prop}{s:KE}{a:Gc}
def mX (w:Qah)(h:Heap)(a:Gc):Prop:=∃o es ep t,h.get? a=some o/\o.data = .set es ep t/\dF t/\(w.params.followText "set-order" = false->t.led=true)
def mX.at' (x:mX w h a)(k:∀o,h.get? a=some o->h'.get? a=some o):mX w h' a:=by
 obtain⟨o,es,ep,t,e,r⟩:=x;exact⟨o,es,ep,t,k _ e,r⟩
def dn (knd:QbH prog w K)(h:Heap)(a:Gc)(D:List K):Prop:=lY knd h a D/\mX w h a
def yZ (ho:s.heap.get? a=some o)(hd:o.data = .set es ep t){FO:Array (Int×Fk)}{t':QcO}(g:dF t')(l:w.params.followText "set-order" = false->t'.led=true):
  (s.heap.update a (Qeg FO t')).get? a=some { o with data := .set FO (ep+1) t' } /\ mX w (s.heap.update a (Qeg FO t')) a:=by
 have e:=J7 (Qeg FO t') ho (by rw[putSet_of FO t' hd];rfl);rw[putSet_of FO t' hd] at e;exact⟨e,_,_,_,_,e,rfl,g,l⟩
def Au {k:K}{x:Fk}{Q:Bool->KE->Prop}(hk:knd.is k x=true)(hx:x.scannable=true)(S:dn knd s.heap a D)(room:D.length+1<Qfc)
  (fin:∀b h',U6 a s.heap h'->dn knd h' a (oneMore D k)->Q b { s with heap:=h' }):Qac (Qab prog w) A (setAddHashed a x (knd.hash k)) Q E s:=by
 obtain⟨HK,o',FO,ep',t',yx,FI,gt',ld'⟩:=S;obtain⟨o,es,ep,t,ho,ex,hd,el,mem,bnd,fit,len⟩:=id HK;obtain⟨gt,ld⟩:dF t/\(w.params.followText "set-order" = false->t.led=true):=by
  rw[ho] at yx;cases yx;rw[hd] at FI;cases FI;exact⟨gt',ld'⟩
 refine Qak (be (QaN ho hd fit ?_));dsimp only;rw[(byScan_of hx bnd el),if_pos rfl];refine be (be (Qbr (be (wpAny_setScan_of hk ho hd fit el ?_))));have QT:∀b {s1:KE} {Q':Unit->KE->Prop},Q' () s1->Qac (Qab prog w) A (match b with|true=>rule "set.scan.the-table-gave-way" | false=>pure ()) Q' E s1:=fun b s1 Q' q=>by
  cases b
  ·exact tz q
  ·exact Qbr q
 cases hr:es.toList.findIdx? (fun e=>knd.is k e.2) with
 | some j=>
  obtain⟨hj,hp,_⟩:=List.findIdx?_eq_some_iff_getElem.mp hr;refine tz (tz ?_);have q:=fin false s.heap (U6.refl a s.heap) (by
   unfold oneMore;rw[if_pos (of_decide_eq_true ((mem k).mpr ⟨_,Um hj,hp⟩))];exact⟨HK,_,_,_,_,ho,hd,gt,ld⟩)
  exact q
 | none=>
  have Pd:k∉D:=fun z=>by
   obtain⟨e,he,hp⟩:=(mem k).mp (decide_eq_true z);have:=List.findIdx?_eq_none_iff.mp hr e he;rw[hp] at this;cases this
  have more:∀k',decide (k'∈oneMore D k)=(decide (k'∈D)||decide (k'=k)):=fun k'=>by
   unfold oneMore;rw[if_neg Pd];simp[]
  obtain⟨g1,l1⟩:=G9 gt es (knd.hash k) x;have pm:=layNew_perm t es (knd.hash k) x;have ft:=layNew_fits t es (knd.hash k) x;generalize layNew t es (knd.hash k) x=L at g1 l1 pm ft ⊢;obtain⟨es1,t1,dummy,gv⟩:=L;rw[Qcg] at pm;have el1:=(el.push hk hx).perm pm;have S8:∀k',decide (k'∈oneMore D k)=true ↔ ∃e∈es1.toList,knd.is k' e.2=true:=fun k'=>by
   rw[more];exact mem_push_iff hk mem pm k'
  have Qm:es1.size=(oneMore D k).length:=by
   unfold oneMore;rw[if_neg Pd,<-Ud,pm.length_eq,Jw,Jw,Ud,len];rfl
  have OH:(oneMore D k).length=D.length+1:=by
   unfold oneMore;rw[if_neg Pd,Jw];rfl
  have Su:es1.size<Qfc:=by lia
  have XE:=fun z=>l1.trans (ld z);have tail:∀t2,dF t2->(w.params.followText "set-order" = false->t2.led=true)->t2.fits es1.size=true->∀c,
    Qac (Qab prog w) A (do
     storeSet a es1 t2
     if c=true then do
       (match (Qee t2 es1 (QbM es1.size)).2.2 with|true=>rule "set.scan.the-table-gave-way" | false=>pure ())
       storeSet a (Qee t2 es1 (QbM es1.size)).1 (Qee t2 es1 (QbM es1.size)).2.1
       pure (some true)
      else pure (some true)) (fun r s'=>r=some true/\∃h',s'={ s with heap:=h' } /\ U6 a s.heap h'/\dn knd h' a (oneMore D k)) E s:=by
   refine fun t2 g2 ld2 ft2 c=>be (wpAny_storeSet_of ho hd ?_ (QeP Su));obtain⟨e1,gs1⟩:=yZ ho hd g2 ld2;have Ka:=U6.update s.heap a (Qeg es1 t2);cases c with
   | false=>
    exact tz ⟨rfl,_,rfl,Ka,⟨_,_,_,_,e1,ex,rfl,el1,S8,Su,ft2,Qm⟩,gs1⟩
   | true=>
    have Kc:=relayAll_perm t2 es1 (QbM es1.size);have Xb:=relayAll_fits t2 es1 (QbM es1.size);obtain⟨g3,l3⟩:=Am es1 (QbM es1.size);generalize Qee t2 es1 (QbM es1.size)=L2 at Kc Xb g3 l3 ⊢;obtain⟨es2,t3,gv2⟩:=L2;dsimp only at Kc Xb g3 l3 ⊢;have QB:es2.size=es1.size:=by rw[<-Ud,Kc.length_eq,Ud]
    refine be (QT _ (be (wpAny_storeSet_of e1 rfl ?_ (QeP ⋯))));obtain⟨e2,gs2⟩:=yZ (s:={ s with heap:=s.heap.update a (Qeg es1 t2) }) e1 rfl g3 (fun z=>l3.trans (ld2 z));refine tz ⟨rfl,_,rfl,Ka.trans (U6.update _ a _),⟨_,_,_,_,e2,ex,rfl,el1.perm Kc,fun k'=>(S8 k').trans ⟨fun hz_=>aj.el hz_ _ fun e he q=>⟨e,Kc.mem_iff.mpr he,q⟩,fun hz_=>aj.el hz_ _ fun e he q=>⟨e,Kc.mem_iff.mp he,q⟩⟩,⋯,Xb,QB.trans Qm⟩,gs2⟩
  have out:∀r s',(r=some true/\∃h',s'={ s with heap:=h' } /\ U6 a s.heap h'/\dn knd h' a (oneMore D k))->Qac (Qab prog w) A (match r with|some added=>pure added|none=>setAddHashedIn a x (knd.hash k) 99999) Q E s':=by
   rintro r s' ⟨rfl,h',rfl,sb,sk⟩;exact tz (fin true h' sb sk)
  refine be (QT _ ?_);cases m7:t1.plain with
  | false=>
   exact be (tz (Qbc (tail t1 g1 XE ft _) (fun r s' q=>out r s' q) fun _ _ z=>z))
  | true=>
   refine be ?_;rw[hashByValue_scannable 8 hx];refine tz ?_;cases plainKind x with
   | true=>
    exact Qbc (tail t1 g1 XE ft _) (fun r s' q=>out r s' q) fun _ _ z=>z
   | false=>
    exact Qbc (tail { t1 with plain:=false } g1 XE (SetTable.fits_plain_off ft) _) (fun r s' q=>out r s' q) fun _ _ z=>z
def dn.at' {h h':Heap}(x:dn knd h a D)(k:∀o,h.get? a=some o->h'.get? a=some o):dn knd h' a D:=⟨x.1.at' k,x.2.at' k⟩
def HP {k:K}{x:Fk}{Q:Fk->KE->Prop}(hk:knd.is k x=true)(hx:x.scannable=true)(S:dn knd s.heap a D)(room:D.length+1<Qfc)
  (fin:∀h',U6 a s.heap h'->dn knd h' a (oneMore D k)->Q .none { s with heap:=h',toks:=s.toks+1 }):Qac (Qab prog w) A (call (.builtin "set.add") [.ref a,x]) Q E s:=by
 refine Qav F.slot_set_add (show s.heap.SetOf knd a _ _ from S.1).typeIs F.entry_set_add ?_ (F.args_set_add_2 _ _);unfold Builtin.«set.add» Builtin.Frozenset.oneOther QdW setAdd;simp only[Qdn,bind_assoc];exact be (tz (be (tz (be (Qak (be (knd.pyHash hk (Au hk hx S room fun b h' sb sk=>tz ⟨_,rfl,fin h' sb sk⟩))))))))
end
structure sv (P:Qaf)(w:Qah)(K:Type)[DecidableEq K] where
 knd:QbH P w K
 v:K->V
 ok:∀k u,RelV (v k) u->knd.is k u=true/\u.scannable=true
def Me (P:Qaf)(w:Qah):sv P w Str:=⟨strKind P w,V.str,fun k u r=>by obtain⟨t,rfl⟩:=r;exact⟨strKind_is _ _ _ _,rfl⟩⟩
def C4 (P:Qaf)(w:Qah):sv P w Int:=⟨intKind P w,V.int,fun k u r=>by obtain⟨t,rfl⟩:=r;exact⟨intKind_is _ _ _ _,rfl⟩⟩
def gJ {K:Type}[DecidableEq K](kv:sv P w K)(a:Gc)(D:List K):HO := .ext fun h=>dn kv.knd h a D
def CO {K:Type}[DecidableEq K]{kv:sv P w K}{a:Gc}{D:List K}{H:Hp}{h:Heap}(x:dn kv.knd h a D):bw P w H h a (gJ kv a D):=by
 obtain⟨o,es,ep,t,e,rest⟩:=x.1;exact⟨x,⟨o,e⟩,fun h1 h2 y k=>dn.at' y k⟩
section
variable {prog:Qaf}{w:Qah}{A:Qax}{R:Qb4->KE->Prop}{s:KE}
def yh {ex target iter:QaB}{ifs:List QaB}{scope:Qb3}{pos:Pos}{it:Fk}{D:Gc}{env:Env}(I:Nat->KE->Prop)
  (turn:∀n s,I n s->Qac (Qab prog w) A (QbS it) (fun r s1=>match r with
   | none=>R (.ok .next) s1
   | some v=>Qac (Qab prog w) A (QcZ target it v) (fun _ s1'=>Qac (Qab prog w) A (QfQ target env v) (fun _ s2=>
     Qac (Qab prog w) A (pE ifs env) (fun ok s3=>
      if ok=true then Qac (Qab prog w) A (QaL ex env) (fun ev s4=>Qac (Qab prog w) A (call (.builtin "set.add") [.ref D,ev]) (fun _ s6=>∃m,m<n/\I m s6) nJ s4) nJ s3
      else ∃m,m<n/\I m s3) nJ s2) nJ s1') nJ s1) nJ s)
  (n:Nat) (h:I n s):QaZ (Qab prog w) A (.compLoop (.SetComp ex [⟨target,iter,ifs,0⟩] scope pos) 0 it (.ref D) env) R s:=by
 refine codeAny_loop rfl I (fun n s hI=>(show Qac _ A (Sem.onRaise (compTurn (.SetComp ex [⟨target,iter,ifs,0⟩] scope pos) 0 it (.ref D) env) (fun x=>do Qc8 x env;Qfw x)) _ _ s from wpAny_noted (be (Qbm (be (cI (bg (turn n s hI) fun r s1 h1 =>?_))))))) n h;cases r with
 | none=>exact tz h1
 | some v=>
  refine be (cI (bg h1 fun _ s1' M7=>be (cI (bg M7 fun _ s2 h2=>be (cI (bg h2 fun ok s3 h3 =>?_))))));cases ok with
  | false=>exact tz ⟨rfl,h3⟩
  | true=>
   exact be (be (cI (bg h3 fun ev s4 h4=>be (Qbm (be (cI (bg h4 fun _ s6 h6=>tz (tz ⟨rfl,h6⟩))))))))
def xN {ex target iter ifs rest scope pos it acc env}(h0:QaZ (Qab prog w) A (.compLoop (.SetComp ex (⟨target,iter,ifs,0⟩::rest) scope pos) 0 it acc env) R s)
  (h:Qac (Qab prog w) A (Qfd it) (fun it' s'=>QaZ (Qab prog w) A (.compLoop (.SetComp ex (⟨target,iter,ifs,0⟩::rest) scope pos) 0 it' acc env) R s') (notedBy (Qab prog w) A env fun x s'=>R (.error x) s') s) :
  QaZ (Qab prog w) A (.compStart (.SetComp ex (⟨target,iter,ifs,0⟩::rest) scope pos) 0 it acc env) R s:=by
 refine codeAny_of_tree (show Qac _ A ((compStart (.SetComp ex (⟨target,iter,ifs,0⟩::rest) scope pos) 0 it acc env).onRaise (fun x=>do Qc8 x env;standAt theWindowsPlace)) _ _ s from wpAny_notedAt (be (Qbd (Qbo ?_))))
 split
 ·first
   | exact be (tz (tz ⟨rfl,h0⟩))
   | exact tz ⟨rfl,h0⟩
 ·refine be (Qbr ?_);exact be (Qbm (be (Qbc h (fun it' s' h'=>tz ⟨rfl,h'⟩) fun _ _ x=>x)))
end
section
variable {X:Cx}{pins:List (Gc×Obj)}{σ:St}{H:Hp}{s:KE}{a:Gc}{u:Fk}{A:Qax}{E:Fk->KE->Prop}{K:Type}[DecidableEq K]{kv:sv X.prog X.w K}
def Tt (I:Inv X pins σ H s)(e:H a=some (gJ kv a D))(l:D.length<=4000)(ry:RelV (kv.v k) u)
  (h:∀v s',Inv X pins σ (upd H a (gJ kv a (oneMore D k))) s'->Q v s'):Qac (Qab X.prog X.w) A (call (.builtin "set.add") [.ref a,u]) Q E s:=by
 obtain⟨h1,h2⟩:=kv.ok k u ry;refine HP h1 h2 ((show bw X.prog X.w H s.heap a (gJ kv a D) from I.bq a _ e).1) (by unfold Qfc;lia) fun h' sb y =>?_;obtain⟨o,es,ep,t,eo,_⟩:=y.1;exact h _ _ (mx I (by rw[e];exact QaO) sb ⟨o,eo⟩ (CO y))
end
def JF {KT:Type}[DecidableEq KT](kv:sv P w KT)(J:It)(n:Nat)(js:List Nat)(g:TG)(tc:TT)(te:TE)(σ:St)(D:Gc)(H1:Hp)(fin:Hp->Prop):Prop:=
 ∃W:Nat->Nat->Hp->Prop,(∃m,W 0 m H1)/\∀i m H,W i m H ->
  (J.stop i H/\fin H) \/
  (J.go i H/\∀x H',J.yld i H x H'->g x (J0 n none++eB σ js) H' fun σ2 H2=>tc σ2 H2 fun b H3=>
   if b=true then te σ2 H3 fun y H4=>∃ks k,H4 D=some (gJ kv D ks)/\y=kv.v k/\ks.length<=4000/\∃m',m'<m/\W (i+1) m' (upd H4 D (gJ kv D (oneMore ks k))) else ∃m',m'<m/\W (i+1) m' H3)
def Oc {KT:Type}[DecidableEq KT](kv:sv P w KT)(wi:TI)(n:Nat)(js:List Nat)(g:TG)(tc:TT)(te:TE):TE:=fun σ H Q=>wi σ H fun J H1=>∀D,H1 D=none->JF kv J n js g tc te σ D (upd H1 D (gJ kv D [])) fun H2=>Q (.ref D) H2
def L1 {s:KE}{Q:Fk->KE->Prop}{E:Fk->KE->Prop}(h:∀led,(w.params.followText "set-order" = false->led=true)->Q (.ref s.heap.objs.size) { s with heap:=s.heap.push (pA led) }):Qac (Qab prog w) A (newSet (.type "set")) Q E s:=
 be (be (Qbd (tz (be (wpAny_alloc (tz (h _ fun z=>by show(!w.params.followText "set-order")=true;rw[z];rfl)))))))
def AM {K:Type}[DecidableEq K]{knd:QbH prog w K}{h:Heap}{a:Gc}{led:Bool}(e:h.get? a=some (pA led)):lY knd h a []:=
 (setObjOf_fresh (knd:=knd) led).setOf e ∅
def BO {K:Type}[DecidableEq K]{knd:QbH prog w K}{h:Heap}{a:Gc}{led:Bool}(l:w.params.followText "set-order" = false->led=true)(e:h.get? a=some (pA led)):dn knd h a []:=⟨AM e,_,_,_,_,e,rfl,AN,l⟩
def Ad {KT:Type}[DecidableEq KT](kv:sv X.prog X.w KT){ex tg iter:QaB}{ifs:List QaB}{scope:Qb3}{pos:Pos}{Nc Fc:List Str}{js:List Nat}{wi:TI}{g:TG}{tc:TT}{te:TE}{use:Option (Fk->Sem Unit)}{QV:Fk->KE->Prop}
  (fM:X.calm=true) (c:gD X scope Nc Fc js) (hi:PI X tg iter wi)
  (hg:∀cl C s H fp,PG (lQ X Nc Fc scope cl C s H fp) tg g) (FG:∀cl C s H fp,L6 (lQ X Nc Fc scope cl C s H fp) ifs tc) (Lc:∀cl C s H fp,PE (lQ X Nc Fc scope cl C s H fp) ex te) (gk:Gk Nc.length g)
  {pins:List (Gc×Obj)} {s:KE} {σ:St} {H:Hp} {fin:Gc->Hp->Prop} (I:Inv X pins σ H s)
  (h:wi σ H fun J H1=>∀D,H1 D=none->JF kv J Nc.length js g tc te σ D (upd H1 D (gJ kv D [])) (fin D))
  (behind:∀(C D:Gc) (m:Str->Option Fk) (H2:Hp) (s2:KE),Inv X pins σ H2 s2->s2.heap.Ns C m->gc X pins H2 C->fin D H2->QeQ (Qab X.prog X.w) X.A X.xe use QV (.ref D) C (.ok .next) s2)
  (hs:∀x,Qbi iter X.env x=pure x) :
  Qac (Qab X.prog X.w) X.A (comprehension (.SetComp ex [⟨tg,iter,ifs,0⟩] scope pos) scope X.env (firstIterPos [⟨tg,iter,ifs,0⟩] pos) (newSet (.type "set")) false (QaL iter X.env) use) QV X.xe s:=by
 obtain⟨cl,hclos,dU,kt⟩:=lL fun y hy hf=>I.ok.has y.1 (c.free y hy hf);refine Qdz rfl hs hclos c.kind c.names (bg (hi s σ H _ I h) fun v s1 h1=>bg h1 fun RH s2 h2 =>?_);obtain⟨it,fp,tn,J,H2,e,I2,T,kr,f2,all⟩:=h2;subst e;refine L1 fun led hled=>(Qec c.nocell (by intro y hy;simp at hy) (fun h1 hns1 hsb1 =>?_) c.kind)
 have GA:=I2.laid (o:=gJ kv s2.heap.objs.size []) (t':=s2.toks) (fun _ _ q=>Jb _ q) (Je _) (CO (BO hled (Ji _ rfl)));obtain⟨W,⟨m0,w0⟩,turn⟩:=all _ (I2.bq.fresh (Je _));have QL:∀b∈fp,∃o,s2.heap.get? b=some o:=fun b hb=>let ⟨o,e,_⟩:=T.obj 0 _ kr b hb; ⟨o,e⟩;have sM:=fun b hb=>let ⟨o,e⟩:=QL b hb;Jf e;generalize hG:s2.heap.push (pA led)=G at hns1 hsb1 GA ⊢;have toG:∀b o,s2.heap.get? b=some o->G.get? b=some o:=fun b o e=>hG▸Jb _ e;have hC:G.objs.size=s2.heap.objs.size+1:=by rw[<-hG,Ue]
 have old:=fun b o e=>
  hsb1.extBut b o (cj (Jf e) (Je _)) (Jb _ e)
 let D:Gc:=s2.heap.objs.size
 let s2':KE:={ s2 with heap:=G,toks:=s2.toks }
 let H2':Hp:=upd H2 D (gJ kv D [])
 have O9:∀b∈fp,gc X pins H2' b:=fun b hb=>by
  obtain⟨a1,a2⟩:=f2 b hb;refine⟨?_,a2⟩;show upd H2 D (gJ kv D []) b=none;rw[ao (Jm (sM b hb))];exact a1
 have fo:∀b∈fp,∃o,s2'.heap.get? b=some o:=fun b hb=>let ⟨o,e⟩:=QL b hb; ⟨o,toG b o e⟩;have VD:∀b∈fp,b<G.objs.size:=fun b hb=>by have:=sM b hb;rw[hC];exact Qcl this
 let Xc:Cx:=lQ X Nc Fc scope cl G.objs.size s2' H2' fp
 have lr:∀{H':Hp},(∀b∈fp,H' b=none)->∀b∈fp,gc Xc [] H' b:=fun{H'} hn b hb=>by
  refine⟨hn b hb,?_,?_,.inl hb,fun x a e =>?_,fun p hq =>?_⟩
  ·exact cj (VD b hb) (Je _)
  ·exact(rT GA c dU kt (Je _) O9 fo).exfs b hb
  ·exact(f2 b hb).2.2.2.2.1 x a (dU _ _ e)
  ·have q:p∈([]:List (Gc×Obj))++[]:=hq;simp at q
 have loop:∀t1,QaZ (Qab X.prog X.w) X.A (.compLoop (.SetComp ex [⟨tg,iter,ifs,0⟩] scope pos) 0 (.ref it) (.ref s2.heap.objs.size) (compEnvC scope cl G.objs.size X.env))
   (QeQ (Qab X.prog X.w) X.A X.xe use QV (.ref s2.heap.objs.size) G.objs.size) { s2 with heap:=h1,toks:=t1 }:=by
  refine fun t1=>yh (fun n s'=>∃i H',Inv Xc [] (J0 Nc.length none++eB σ js) H' s'/\tn i s'.heap/\(∀b∈fp,H' b=none)/\W i n H') ?_ m0
   ⟨0,H2',yX GA c dU kt (Je _) O9 fo old hns1,T.keep _ _ _ kr (fun b hb o e=>old b o (toG b o e)),fun b hb=>(O9 b hb).1,w0⟩
  refine fun n s3 hz_=>aj.el hz_ _ ?_;rintro i H3 I3 eQ fr3 w3
  rcases turn i n H3 w3 with ⟨stop,qn⟩|⟨go,step⟩
  ·refine bg (T.done Xc rfl rfl rfl fM i _ s3 _ H3 nJ I3 (lr fr3) eQ stop) fun r s4 ⟨hr,I4⟩=>?_;subst hr;refine aj.el (I4.loc) _ ?_;rintro mC hmC _;have u:=I4.base;have zE:∀b∈fp,(b∈X.ex\/X.s₀.heap.objs.size<=b)/\b≠X.env.locals/\(∀x c,X.env.cells.lookup x=some c->c≠b)/\∀p∈X.pn++pins,p.1≠b:=fun b hb=>
    ⟨(f2 b hb).2.2.2.1,(f2 b hb).2.1,(f2 b hb).2.2.2.2.1,(f2 b hb).2.2.2.2.2⟩
   exact behind G.objs.size D mC H3 s4 (GA.Ca I4.os u I4.bq I4.bare zE) hmC (GA.eX (Je _) I4.free) qn
  ·refine bg (T.item Xc rfl rfl rfl fM i _ s3 _ H3 nJ I3 (lr fr3) eQ go) fun r s4 hz_=>aj.el hz_ _ fun u hr h4 =>?_;subst hr;refine bg h4 fun _ s5 hz_=>aj.el hz_ _ fun x H5 I5 r5 y5 dZ fr5=>bg (hg cl G.objs.size s2' H2' fp s5 _ H5 x u _ (I5.pinned (lr fr5) (T.obj _ _ dZ)) r5 (gk _ _ _ _ (step x H5 y5))) fun _ s6 hz_=>aj.el hz_ _ fun σ6 H6 I6 q6 kσ kl=>bg (FG cl G.objs.size s2' H2' fp s6 σ6 H6 _ I6 q6) fun b s7 hz_=>aj.el hz_ _ fun H7 I7 q7 =>?_;have later:∀{σ':St} {H':Hp} {s':KE},Inv Xc ([]++gX fp s5.heap) σ' H' s'->tn (i+1) s'.heap/\∀b∈fp,H' b=none:=fun{σ' H' s'} Iz=>by
    refine⟨T.keep _ _ _ dZ fun b hb o e=>(Iz.pin (b,o) (Jv _ (Jv _ (df hb e)))).1,fun b hb=>aj.el (T.obj _ _ dZ b hb) _ ?_⟩;rintro o e d;exact(Iz.pin (b,o) (Jv _ (Jv _ (df hb e)))).2.1
   have back:∀{pl:List (Gc×Obj)} {H':Hp} {s':KE},Inv Xc pl σ6 H' s'->Inv Xc pl (J0 Nc.length none++eB σ js) H' s':=fun{pl H' s'} Iz=>by
    refine Iz.weak (by rw[<-kl]) fun j v hj =>?_
    by_cases hn:j<Nc.length
    ·rw[Uz (by simpa using hn),Ys] at hj
     split at hj<;>cases hj
    ·rw[kσ j ⋯];exact hj
   cases b with
   | false=>
    rw[if_neg Jn] at q7 ⊢;refine aj.el (q7) _ ?_;rintro m' BP w7;obtain⟨l1,l2⟩:=later I7;exact⟨m',BP,i+1,H7,back I7.eA,l1,l2,w7⟩
   | true=>
    refine bg (Lc cl G.objs.size s2' H2' fp s7 σ6 H7 _ I7 q7) fun yv s8 hz_=>aj.el hz_ _ fun y H8 I8 r8 q8=>aj.el (q8) _ ?_;rintro ks k eD ey hl m' BP w9;subst ey;refine Tt (X:=Xc) I8 eD hl r8 fun _ s10 I10 =>?_;obtain⟨l1,l2⟩:=later I10;exact⟨m',BP,i+1,_,back I10.eA,l1,l2,w9⟩
 exact xN (loop _) (T.self _ 0 _ _ _ (T.keep _ _ _ kr fun b hb o e=>old b o (toG b o e)) (loop _))
def yP {KT:Type}[DecidableEq KT](kv:sv X.prog X.w KT){ex tg iter:QaB}{ifs:List QaB}{scope:Qb3}{pos:Pos}{Nc Fc:List Str}{js:List Nat}{wi:TI}{g:TG}{tc:TT}{te:TE}
  (fM:X.calm=true) (c:gD X scope Nc Fc js) (hi:PI X tg iter wi) (gk:Gk Nc.length g)
  (hg:∀cl C s H fp,PG (lQ X Nc Fc scope cl C s H fp) tg g) (FG:∀cl C s H fp,L6 (lQ X Nc Fc scope cl C s H fp) ifs tc) (Lc:∀cl C s H fp,PE (lQ X Nc Fc scope cl C s H fp) ex te)
  (hs:∀x,Qbi iter X.env x=pure x:=by intro _;rfl) :
  PE X (.SetComp ex [⟨tg,iter,ifs,0⟩] scope pos) (Oc kv wi Nc.length js g tc te):=
 fun pins s σ H Q I h=>Ad kv fM c hi hg FG Lc gk I h (fun C D m H2 s2 I2 hm hC q=>⟨m,hm,fun h' hs'=>⟨.ref D,_,I2.turned (fun b o hb e=>hs'.extBut b o hb e) hC.1 (hC.2.1) hC.2.2.2.1 hC.2.2.2.2.1 hC.2.2.2.2.2,rfl,q⟩⟩) hs
def C6 {KT:Type}[DecidableEq KT](kv:sv X.prog X.w KT):bF X (.builtin "len") (fun xs H Q=>∃a D,xs=[.ref a]/\H a=some (gJ kv a D)/\Q (.int (D.length:Nat)) H):=by
 refine fun pins s σ H xs us Q I r h=>aj.el (h) _ ?_;rintro a D rfl ha q;refine aj.el (vals1 r) _ ?_;rintro u rfl ru;cases ru;obtain⟨o,es,ep,t,h1,h2,h3,h4,h5,h6,h7,h8⟩:=(show bw X.prog X.w H s.heap a (gJ kv a D) from I.bq a _ ha).1.1;have hb:Qfc=4096:=rfl;refine call_len_set h1 h2 h3 h7 ⋯ ⟨.int (D.length:Nat),H,I.tok _,⟨_,by rw[h8]⟩,q⟩
def yO {KT:Type}[DecidableEq KT]{kv:sv P w KT}{J:It}{n:Nat}{js:List Nat}{g:TG}{tc:TT}{te:TE}{σ:St}{D:Gc}{H1:Hp}{fin:Hp->Prop}(N:Nat)(Pv:Nat->Hp->Prop)(h0:Pv 0 H1)
  (go:∀i H (Nx:Hp->Prop),i<N->Pv i H->(∀H',Pv (i+1) H'->Nx H')->J.go i H /\
   ∀x H',J.yld i H x H'->g x (J0 n none++eB σ js) H' fun σ2 H2=>tc σ2 H2 fun b H3=>if b=true then te σ2 H3 fun y H4=>∃ks k,H4 D=some (gJ kv D ks)/\y=kv.v k/\ks.length<=4000/\Nx (upd H4 D (gJ kv D (oneMore ks k))) else Nx H3)
  (stop:∀H,Pv N H->J.stop N H/\fin H):JF kv J n js g tc te σ D H1 fin:=by
 refine⟨fun i m H=>m=N-i/\i<=N/\Pv i H,⟨N,by simp,Uw _,h0⟩,(fun i m H hz_=>aj.el hz_ _ ?_)⟩;rintro rfl hi p
 by_cases iC:i<N
 ·obtain⟨g1,g2⟩:=go i H (fun H'=>∃m',m'<N-i/\(m'=N-(i+1)/\i+1<=N/\Pv (i+1) H')) iC p fun H' q=>⟨_,⋯,rfl,iC,q⟩
  exact .inr ⟨g1,fun x H' y=>g2 x H' y⟩
 ·have e:i=N:=by lia
  subst e;exact .inl (stop H p)
section
variable {X:Cx}
def vq {x:Str}{z:Str}{t:Tok}{pos:Pos}(hg:Gl X x)(hm:X.mg x=some (.str z t))(hd:(x==("__debug__" : Str))=false:=by decide):PE X (.Name x pos) (tC (.str z)):=wH (v := .str z) hg hm ⟨t,rfl⟩ hd
def lS {x:Str}{z:Int}{t:Tok}{pos:Pos}(hg:Gl X x)(hm:X.mg x=some (.int z t))(hd:(x==("__debug__" : Str))=false:=by decide):PE X (.Name x pos) (tC (.int z)):=wH (v := .int z) hg hm ⟨t,rfl⟩ hd
end
def mf:∀{ss:List Str} {us:List Fk},StrsAre us ss->Vals (ss.map V.str) us:=by
 intro ss us h
 induction h with
 | nil=>exact .nil
 | cons _ _ _ ih=>exact .cons ⟨_,rfl⟩ ih
def iX:∀{ss:List Str} {us:List Fk},Vals (ss.map V.str) us->StrsAre us ss
 | [],_,.nil =>.nil
 | _::_,_,.cons ⟨_,e⟩ t=>by subst e;exact .cons _ _ (iX t)
section
variable {X:Cx}(K:Ja)
def sortedS (hK:X.K=K:=by rfl):bF X (.builtin "sorted") (fun xs H Q=>∃p ss,xs=[.ref p]/\bA K H p (ss.map V.str)/\ss.length<64 /\
  ∀ms q H',ms.Perm ss->Qa6 ms=true->hW H q (.lst (ms.map V.str)) H'->Q (.ref q) H'):=by
 subst hK;intro pins s σ H xs us Q I r h;obtain⟨p,ss,rfl,hq,hl,q⟩:=h;obtain⟨u,rfl,ru⟩:=vals1 r;cases ru;obtain⟨aw,rv,pl,hz⟩:=I.list hq;have hn:aw.length=ss.length:=by have:=rv.length;rw[Jc] at this;exact this.symm
 refine sorted_strs pl.isList (iX rv) ⋯ fun out ms a1 a2 a3 =>?_;obtain⟨e,he⟩:=sortedAll_at s.heap aw out;have hm:=a2.length_eq;refine⟨.ref (s.heap.objs.size+1),_,I.laid (o := .lst (ms.map V.str)) (fun _ _=>sortedAll_old) (Yx _) ⟨?_,out.toList,e,(mf a1),?_⟩,rfl,q ms _ _ a2 a3 ⟨I.bq.fresh (Yx _),rfl⟩⟩
 ·rw[Jc];exact Jh (show ms.length<=64 by lia) ∅
 ·simpa [Qcy] using he
end
def KO {X:Cx}{st:QdC}:PS X st (fun _ _ _=>False):=by
 intro pins s σ H D I h;exact h.elim
section
variable {X:Cx}
def rE:∀{xs:List V} {us:List Fk} (j:Nat),Vals xs us->Vals (xs.eraseIdx j) (us.eraseIdx j)
 | _,_,_,.nil=>by simp;exact .nil
 | _,_,0,.cons _ t=>by simpa using t
 | _,_,j+1,.cons h t=>by simpa using .cons h (rE j t)
end
def PE.weak (h:PE X e t)(w:∀ σ H Q,t' σ H Q->t σ H Q):PE X e t':=fun _ s σ H Q I q=>h s σ H Q I (w σ H Q q)
def PA.weak (h:PA X es t)(w:∀ σ H Q,t' σ H Q->t σ H Q):PA X es t':=fun _ _ s σ H Q I q=>h s σ H Q I (w σ H Q q)
def newOf (H H':Hp):Hp:=fun a=>match H a with
 | none=>H' a
 | some _=>none
def lh (h:H a=none):newOf H H' a=H' a:=by unfold newOf;rw[h]
def ka (h:newOf H H' a=some o):H a=none/\H' a=some o:=by
 unfold newOf at h;cases e:H a with
 | none=>rw[e] at h;exact⟨rfl,h⟩
 | some u=>rw[e] at h;cases h
def GH:av (newOf H H') H':=fun _ _ h=>(ka h).2
def rh {H H1 H2:Hp}(s:av H1 H2):av (newOf H H1) (newOf H H2):=fun a o h=>by
 rw[lh (ka h).1];exact s a o (ka h).2
def AU (s:av H H1):av (newOf H1 H2) (newOf H H2):=fun a o h=>by
 rw[lh (s.free (ka h).1)];exact(ka h).2
def Pr (K:Ja)(d:Qae):TE:=fun _ H Q=>∀v H',av H H'->Den K (newOf H H') d v->Q v H'
def B0 (K:Ja)(ds:List Qae):TA:=fun _ H Q=>∀vs H',av H H'->aV K (newOf H H') ds vs->Q vs H'
section
variable {X:Cx}{K:Ja}
def lit_int:PE X (.Constant (.int i) j pos) (Pr K (.int i)):=ai.weak fun σ H Q h=>h _ H (av.refl _) (by unfold Den;rfl)
def JC:PA X [] (B0 K []):=ae.weak fun σ H Q h=>h [] H (av.refl _) (by unfold aV;rfl)
def eV {d:Qae}{ds:List Qae}(h:PE X e (Pr K d))(hs:PA X es (B0 K ds))(kK:Qaj (e::es) X.env=(false,QaL e X.env)::Qaj es X.env:=by rfl):PA X (e::es) (B0 K (d::ds)):=
 (aa h hs kK).weak fun σ H Q q v H1 s1 d1 vs H2 s2 d2=>q (v::vs) H2 (s1.trans s2) (by
  exact⟨v,vs,rfl,d1.same (rh s2),d2.same (AU s1)⟩)
def Cz:∀{ds:List Qae} {vs:List V},aV K H ds vs->vs.length=ds.length
 | [],_,h=>by unfold aV at h;subst h;rfl
 | d::ds,vs,h=>by
  obtain⟨v,r,rfl,h1,h2⟩:=h;rw[Jr,Jr,Cz h2]
def Km (h:PA X es (B0 K ds))(hl:ds.length<=1000:=by decide):PE X (.List es pos) (Pr K (.list ds)):=
 (il h).weak fun σ H Q q vs H1 s1 d1=>⟨Jh (by rw[Cz d1];exact hl) (show 1000<=Wp by decide),fun p H' n=>q _ _ (s1.trans n.same) (by
  exact⟨p,vs,rfl,bA.of (by rw[lh (s1.free n.nn)];exact n.at),d1.same (rh n.same)⟩)⟩
end
structure MM (K:Ja)(w:Qah)(a:Gc):Prop where
 ex:∃es n,K.lookup a=some ⟨.type "dict",none,.dict es n,#[]⟩/\Qdj w.params es.toList
def Tu (K:Ja)(w:Qah)(td ty:TE):TE:=fun σ H Q=>td σ H fun x H1=>ty σ H1 fun y H2=>∃a k u v,x = .ref a/\y = .str k/\MM K w a/\Jg K a k=some (some u)/\RelV v u/\Q v H2
section
variable {X:Cx}{o i:QaB}{td ty:TE}{pos:Pos}
def Ck (K:Ja)(w:Qah)(ho:PE X o td)(hi:PE X i ty)(hs:Ou i)(hK:X.K=K:=by rfl)(hw:X.w=w:=by rfl):PE X (.Subscript o i pos) (Tu K w td ty):=by
 subst hK hw;refine fun pins s σ H Q I h=>BW PySem.F.slot_dict_getitem.lookup hs (bg (ho s σ H _ I h) fun u s1 hz_=>aj.el hz_ _ fun x H1 I1 rx q1=>bg (hi s1 σ H1 _ I1 q1) fun iv s2 hz_=>aj.el hz_ _ ?_);rintro y H2 I2 ry ⟨a,k,u',v,ex,ey,cd,e,rv,q2⟩;subst ex ey;obtain rfl:u=Qan a:=rx;obtain⟨t,rfl⟩:=ry;obtain⟨es,n,hl,hk⟩:=cd.ex;have hm:=PySem.W.mapOf_K (prog:=X.prog) I2.iA hl hk;exact⟨hm.typeIs,wpAny_getItem_of (strKind_is X.prog X.w k t) hm (PySem.W.find_K hl e) ⟨v,H2,I2.tok _,rv,q2⟩⟩
end
section
variable {X:Cx}
def Sa (K:Ja):V->Option Int->Option Int->Hp->VK->Prop:=fun x lo hi H Q=>eZ fun a xs=>x = .ref a/\bG K H a xs /\
 ¬(HT.eg xs.length 0 lo=0/\HT.eg xs.length xs.length hi=xs.length)/\∀p H',hW H p (.tup (ly xs lo hi)) H'->Q (.ref p) H'
def P2 (K:Ja)(hK:X.K=K:=by rfl):FJ X (Sa K):=by
 subst hK;refine fun pins s σ H x v vl vu lo hi sl Q I rx hs pl pu q=>O0 s σ H x v vl vu lo hi sl Q I rx hs pl pu ?_;obtain⟨a,xs,e,h,nw,q⟩:=q;exact⟨a,xs,e,h,nw,fun p hp=>q p _ ⟨hp,rfl⟩⟩
end
def dX {K:Ja}{a:Gc}{aw:List Fk}{n:Nat}{sl:Array (Option Fk)}{xs:List V}(h:K.lookup a=some ⟨.type "tuple",none,.seq aw.toArray n,sl⟩)(hv:Vals xs aw)(hz:xs.length<=1000)(H:Hp):bG K H a xs:=
 .inr ⟨_,aw.toArray,n,h,rfl,rfl,rfl,Jh (by rw[Ju,<-hv.length];exact hz) (show 1000<=Wp by decide),by simpa using hv⟩
def Kk (r:da k A):A.units+66<Qc4:=by have:=r.un;lia
def AG {k:Nat}{x:Str}{ps:List Str}{sp:Sp}{p pos:Pos}(F:Fn X.prog X.w X.K X.mg X.base k x ps sp)(hr:da k X.A)(hg:Gl X x)(oC:(x==("__debug__" : Str))=false:=by decide):
  PE X (.Call (.Name x p) [] [] pos) (zr sp [] E0 La):=by
 obtain⟨f,fd,a,b,c,d⟩:=F.ex;exact JK a hr hg d c b .nil uJ oC
abbrev eR:List Fk:=[.type "ValueError",.type "Exception",.type "BaseException",.type "object"]
structure kG (K:Frag)(C:Gc)(f:Str):Prop where
 sa:findIn K (.ref C) "__setattr__" = some (some (.builtin "object.__setattr__"))
 na:findIn K (.ref C) f=some none
 mo:mroIn K C (.type "object")=some true
 cl:∃cd D,QeR K C=some cd/\cd.mro = .ref C :: .ref D::eR/\cd.hasDict=true
def Raw (o:Obj):Prop:=∃t,o.data = .fields #[.ref t,.none,.none,.none,.bool false,.none]
def Raw.nc (h:Raw o):notCls o=true:=by
 obtain⟨_,_,dt,_⟩:=o;obtain⟨t,h⟩:=h;cases h;rfl
def zk (e C:Gc):HO := .ext fun h=>∃o,h.get? e=some o/\o.cls = .ref C/\o.dict=none/\Raw o
def Fp (e C dx:Gc):HO := .ext fun h=>∃o,h.get? e=some o/\o.cls = .ref C/\o.dict=some dx/\Raw o
section
variable {prog:Qaf}{w:Qah}{A:Qax}{K:Frag}{C e:Gc}{s:KE}{E:Fk->KE->Prop}{f:Str}{v:Fk}
def C7 (X:K.In s.heap)(O:kG K C f)(hx:s.heap.get? e=some o)(hc:o.cls = .ref C)(hd:o.dict=none)(hn:notCls o=true)
  (k:∀h' tk,h'.get? e=some { o with dict:=some s.heap.objs.size } -> h'.Ns1 s.heap.objs.size (fun y=>if y=f then some v else none)->(∀b ob,b≠e->s.heap.get? b=some ob->h'.get? b=some ob)->Q () { s with heap:=h',toks:=tk }) :
  Qac (Qab prog w) A (setAttr (.ref e) f v) Q E s:=by
 have J:InstAt s.heap e o C none:=⟨hx,hc,hn,by rw[hd];trivial⟩
 refine aj.el (O.cl) _ ?_;rintro cd D c1 c2 c3;have SF:=PySem.F.store_object;have X3:Looks (Qab prog w) s.heap (mroOf (.ref C)) cd.mro:=(looks_clsIn X c1).andThen .now;refine set_plain X J O.sa (Qbf SF.slot.plain SF.entry (@check_slot (Qab prog w) _ _ { s with toks:=s.toks+1 } "object.__setattr__" "object" "__setattr__" (.ref e) [.str f s.toks,v] [] _ SF.kind SF.split (J.type.andThen (looks_mroIn X O.mo)) (SF.args (.ref e) (.str f s.toks) v) ?_));rw[osa_eq,refuse_eq];refine be (be (J.type.here (s:={ s with toks:=s.toks+1 }) (be (X3.here (s:={ s with toks:=s.toks+1 }) ?_))));rw[c2,refuseLoop_ref,refuseLoop_ref,PySem.F.store_ValueError.passes];refine tz (be (J.type.here (s:={ s with toks:=s.toks+1 }) (be ((Qcz X O.na).here (s:={ s with toks:=s.toks+1 }) (be (tz ?_))))));obtain⟨oc,od,odt,DD⟩:=o;subst hc hd;have EZ:=Jm (Jf hx);refine be (tz (be (be (QfL hx (be ((looks_clsIn X c1).here (s:={ s with toks:=s.toks+1 }) ?_))))));rw[c3];dsimp only;rw[if_neg ∅,if_neg (by simp[typeHasDict])]
 split
 ·rename_i c;exact absurd hn (by simp[notCls])
 have Qj:(s.heap.push { cls := .type "dict",data := .dict #[] }).get? e=some ⟨.ref C,none,odt,DD⟩:=Jb _ hx;refine be (wpAny_alloc' (be (wpAny_update' Qj (tz ?_))));obtain⟨G,hG⟩:∃G,G=(s.heap.push { cls := .type "dict",data := .dict #[] }).update e fun o=>{ cls:=o.cls,dict:=some s.heap.objs.size,data:=o.data,slots:=o.slots }:=⟨_,rfl⟩
 have gd:G.get? s.heap.objs.size=some { cls := .type "dict",data := .dict #[] }:=by
  rw[hG];exact(Heap.get?_update_ne _ _ _ _ EZ.symm).trans (Heap.get?_push_at rfl rfl)
 have ge:G.get? e=some ⟨.ref C,some s.heap.objs.size,odt,DD⟩:=by
  rw[hG];refine J7 _ Qj ?_;cases odt<;>first|rfl|exact(Heap.get?_some_iff.mp hx).2
 have go:∀b ob,b≠e->s.heap.get? b=some ob->G.get? b=some ob:=fun b ob nb q=>by
  rw[hG];exact(Heap.get?_update_ne _ _ _ _ nb).trans (Jb _ q)
 rw[<-hG];refine be (tz (be (wpAny_nsSet1 (Qf1 ⟨_,#[],_,gd,rfl,(fun a ha=>absurd ha (by simp)),fun _=>rfl⟩) fun h2 ns2 sb=>aj.el (ns2.count (Within.cons f v Within.nil)) _ ?_)));rintro oD eD pD hoD dD cD;refine be (wpAny_lookBehind hoD ?_ ?_)
 ·rw[dD];refine pastItsLine_dict (Jh cD ?_);rw[Jr,Y6,Qdu];lia
 exact tz (k h2 _ ((sb.2 e EZ).trans ge) ns2 fun b ob nb q=>(sb.2 b (Jm (Jf q))).trans (go b ob nb q))
def Gw {dx:Gc}{Q:Fk->KE->Prop}(X:K.In s.heap)(O:jF K C)(S:kG K C f)(hx:s.heap.get? e=some o)(hc:o.cls = .ref C)(hd:o.dict=some dx)(hn:notCls o=true)(ho:s.heap.get? dx=some od)
  (hl:lookIn f od=some (some v)) (hv:handedIn v=true) (k:Q v { s with toks:=s.toks+1 }):Qac (Qab prog w) A (getAttr (.ref e) f true) Q E s:=by
 have p:ExcAt e C s.heap:=⟨o,hx,hc⟩
 refine aj.el (S.cl) _ ?_;rintro cd D c1 c2 c3;have fo:findObj K C (some od) f=some (.value v):=by
  unfold findObj PySem.W.ownOf;simp only[c1,S.na,Option.bind_some,c3,if_true,hl]
 obtain⟨hh,g,dr,t,os⟩:=s;have T0:=hU (M:=Qab prog w) p;exact be (wpAny_mkText (Qak (be (T0.at (be ((Qcz (M:=Qab prog w) X O.ga).at (be ((Qcz (M:=Qab prog w) X O.gt).at (be (QaS (Qak (be (tz (QcF (Qbf F.attr_ValueError.ga.plain F.entry_bexc_ga (uy X O p (be (tz (be (tz (be (T0.at (be ((looks_find (M:=Qab prog w) X ⟨hx,hc,hn,by rw[hd];exact ho⟩ fo).at (tz (handed_on hv k))))))))))))))))))))))))))
end
section
variable {prog:Qaf}{w:Qah}{A:Qax}{E:Fk->KE->Prop}{h0:Heap}{g0:Array QeX}{d0:Drawn}{t0:Nat}{TV:OsState}{nm qn:Str}{C N fi:Gc}{bs up tail:List Fk}{hdct:Bool}{sn:List Str}{sub:List Fk}{ab:Bool}
 {col:Option Bool} {dd:Option Gc} {k0 k1 k2 k3 k5:Option Fk} {B newId HC:String}
def Fs (FB:ExcBaseFacts B newId HC tail)(TL:OwnTail h0 tail up){vs:List Fk}{oi:Obj}{Q:Fin->KE->Prop}
  (Cc:h0.get? C=some (QbL nm qn C N bs up hdct sn sub ab col dd k0 k1 k2 k3 k5 newId)) (fw:∀h1,(∀b o,h0.get? b=some o->h1.get? b=some o)->Looks (Qab prog w) h1 (Qbs (.ref C) "__init__") (some (.ref fi))) (VP:h0.get? fi=some oi) (ZR:oi.cls = .type "function") (fit:vs.length<=Wp)
  (run:∀h' e,Qfa h0 h' e (.ref C) vs->Qac (Qab prog w) A (call (.ref fi) (.ref e::vs)) (fun r s'=>r = .none/\Q (.done (.ret (.ref e))) s') E ⟨h',g0,d0,t0,TV⟩) :
  Qac (Qab prog w) A (Builtin.«type.__call__» ⟨.ref C::vs,[]⟩) Q E ⟨h0,g0,d0,t0,TV⟩:=by
 repeat (first
  | with_reducible refine Qcw Cc ?_
  | with_reducible refine wpAny_madeBy_exc Cc ?_
  | wp_step)
 refine codeAny_call_builtin_code (QcV _ FB.quiet) (wpAny_check_new_subT FB TL Cc (codeAny_exc_new_subT FB TL Cc ?_ fit));obtain⟨H1,e1⟩:∃H1,H1=(h0.push { cls := .type "tuple",data := .seq vs.toArray }).push { cls := .ref C,data := .fields #[.ref h0.objs.size,.none,.none,.none,.bool false,.none] }:=⟨_,rfl⟩
 have kp:∀b o,h0.get? b=some o->H1.get? b=some o:=fun b o z=>by
  rw[e1];exact Jb _ (Jb _ z)
 have me:H1.get? (h0.objs.size+1)=some { cls := .ref C,data := .fields #[.ref h0.objs.size,.none,.none,.none,.bool false,.none] }:=by
  rw[e1]
  heap_get
 have mt:H1.get? h0.objs.size=some { cls := .type "tuple",data := .seq vs.toArray }:=by
  rw[e1];exact Jb _ (Heap.get?_push_at rfl rfl)
 rw[<-e1];have self:(Qan C::up).contains (.ref C)=true:=by simp
 repeat (first
  | with_reducible refine Qcw me ?_
  | (with_reducible refine wpAny_isSubtype_exc (kp _ _ Cc) ?_;rw[self])
  | wp_step)
 refine(fw H1 kp).at (Qak (be (be (QaY ⟨_,kp _ _ VP,ZR⟩ (tz (be (Qbc (run H1 _ ⟨kp,QdS (Yx _),h0.objs.size,me,QdS (Je _),mt⟩) (fun r s' hr =>?_) fun _ _ x=>x)))))));obtain⟨rfl,q⟩:=hr
 wp_walk
 exact q
def Ry (FB:ExcBaseFacts B newId HC tail)(TL:OwnTail h0 tail up){vs:List Fk}{oi:Obj}{Q:Fk->KE->Prop}
  (Cc:h0.get? C=some (QbL nm qn C N bs up hdct sn sub ab col dd k0 k1 k2 k3 k5 newId)) (fw:∀h1,(∀b o,h0.get? b=some o->h1.get? b=some o)->Looks (Qab prog w) h1 (Qbs (.ref C) "__init__") (some (.ref fi))) (VP:h0.get? fi=some oi) (ZR:oi.cls = .type "function") (fit:vs.length<=Wp)
  (run:∀h' e,Qfa h0 h' e (.ref C) vs->Qac (Qab prog w) (A.under (.builtin "type.__call__" ⟨.ref C::vs,[]⟩)) (call (.ref fi) (.ref e::vs)) (fun r s'=>r = .none/\Q (.ref e) s') E ⟨h',g0,d0,t0,TV⟩) :
  Qac (Qab prog w) A (call (.ref C) vs) Q E ⟨h0,g0,d0,t0,TV⟩:=by
 have b1:=tc_lookup;have b2:=tc_bind (.ref C);refine QcF (codeAny_of_tree ?_)
 repeat (any_goals (first
  | assumption
  | with_reducible refine Qcw Cc ?_
  | wp_step))
 exact⟨rfl,codeAny_call_builtin_at (QcV _ ∅) entry_typeCall (wpAny_check_type_call_sub Cc (Fs FB TL Cc fw VP ZR fit fun h' e m=>run h' e m))⟩
end
section
variable {X:Cx}{pins:List (Gc×Obj)}{σ:St}{H:Hp}{s:KE}{e C:Gc}
def Lb {H:Hp}{h:Heap}{o:Obj}(h1:h.get? e=some o)(h2:o.cls = .ref C)(h3:o.dict=none)(h4:Raw o):bw P w H h e (zk e C):=
 ⟨⟨o,h1,h2,h3,h4⟩,⟨o,h1⟩,fun a b ⟨o,e1,r⟩ k=>⟨o,k _ e1,r⟩⟩
def LK {H:Hp}{h:Heap}{o:Obj}{dx:Gc}(h1:h.get? e=some o)(h2:o.cls = .ref C)(h3:o.dict=some dx)(h4:Raw o):bw P w H h e (Fp e C dx):=
 ⟨⟨o,h1,h2,h3,h4⟩,⟨o,h1⟩,fun a b ⟨o,e1,r⟩ k=>⟨o,k _ e1,r⟩⟩
def Inv.noObj (I:Inv X pins σ H s)(h:s.heap.get? e=none):H e=none:=by
 cases z:H e with
 | none=>rfl
 | some o=>obtain⟨q,hq⟩:=(I.bq e o z).ex;rw[hq] at h;cases h
def Inv.SJ (I:Inv X pins σ H s)(m:Qfa s.heap h' e (.ref C) us)(hex:X.ex=[]):Inv X pins σ (upd H e (zk e C)) { s with heap:=h',toks:=tk }:=by
 obtain⟨k,ne,t0,me,nt,mt⟩:=m;have I2:Inv X pins σ H { s with heap:=h',toks:=tk }:=I.kept k;have hs:∀b o,s.heap.get? b=some o->b≠e:=fun b o q z=>by rw[z,ne] at q;cases q
 refine I2.zT (I.noObj ne) (fun z =>?_) (fun x c q =>?_) (fun p hp =>?_) (fun b u q =>?_) (Lb me rfl rfl ⟨_,rfl⟩)
 ·obtain⟨m,⟨oL,_,_,q,_⟩,_⟩:=I.loc;exact hs _ _ q z.symm
 ·obtain⟨v,o,e1,_⟩:=I.cell x c q;exact hs _ _ e1
 ·exact hs _ _ (I.pin p hp).1
 ·obtain⟨o',q'⟩:=I.base.there b u q (by rw[hex];exact nofun);exact hs _ _ q'
structure OQ (K:Frag)(C fi:Gc):Prop where
 cl:∃nm qn N bs D hdct sn sub ab col dd k0 k1 k2 k3 k5,K.lookup C=some (QbL nm qn C N bs (.ref D::eR) hdct sn sub ab col dd k0 k1 k2 k3 k5 "ValueError.__new__")/\∀h:Heap,K.In h->OwnTail h eR (.ref D::eR)
 ini:findIn K (.ref C) "__init__" = some (some (.ref fi))
 fn:∃oi:Obj,K.lookup fi=some oi/\oi.cls = .type "function"
 kp:keepIn K (.ref C)=true
def IM (C:Gc)(sp:Sp)(t:TA):TE:=fun σ H Q=>t σ H fun vs H1=>vs.length<=1000/\∀e,H1 e=none->sp (.ref e::vs) (upd H1 e (zk e C)) (fun v H2=>v = .non/\Q (.ref e) H2) E0
def E1 {fi:Gc}{fd:Qad}{ps:List Str}{sp:Sp}{Q:VK}{us:List Fk}{vs:List V}(M:OQ X.K C fi)(F:aW X.prog X.w X.K X.mg X.base d7 k fi fd ps sp)(hr:da (k+1) X.A)(hb:Binds X.K fd ps [])(hex:X.ex=[])
  (I:Inv X pins σ H s) (r:Vals vs us) (hl:vs.length<=1000) (h:∀e,H e=none->sp (.ref e::vs) (upd H e (zk e C)) (fun v H2=>v = .non/\Q (.ref e) H2) E0):Qac (Qab X.prog X.w) X.A (call (.ref C) us) (EP X pins σ Q) X.xe s:=by
 refine aj.el (M.cl) _ ?_;rintro nm qn N bs D hdct sn sub ab col dd k0 k1 k2 k3 k5 lk TL;refine aj.el (M.fn) _ ?_;rintro oi l2 ft;have zA:=I.iA;refine Ry PySem.F.excBase_ValueError (TL _ zA) (zA _ _ lk) (fun h1 kp=>Qcz (fun a o z=>kp a o (zA a o z)) M.ini) (zA _ _ l2) ft (by rw[<-r.length];exact Jh hl ∅) fun h' e m =>?_;have I2:Inv X pins σ (upd H e (zk e C)) { s with heap:=h',toks:=s.toks }:=I.SJ m hex;have hq:=h e (I.noObj m.2);have r2:Vals (V.ref e::vs) (Qan e::us) := .cons rfl r;have UN:=hb { s with heap:=h',toks:=s.toks } (Qan e::us) I2.iA (by rw[Uv];exact(by rw[<-r2.length];exact F.len _ _ _ _ hq));rw[Uv] at UN;refine QcF (QcA (F.run _ X.stack { s with heap:=h',toks:=s.toks } _ ⟨Qan e::us,[]⟩ (Qan e::us) _ _ E0 (hr.make C us []) (I2.KS.make C us []) UN r2 hq) fun rr s' hq' =>?_);cases rr with
 | error x=>exact hq'.elim
 | ok fl=>
  cases fl with
  | ret u=>
   obtain⟨v,H',I3,rv,ev,q3⟩:=I2.after hq';subst ev;exact⟨rv,⟨V.ref e,H',I3,rfl,q3⟩⟩
  | next=>exact hq'.elim
  | brk=>exact hq'.elim
  | cont=>exact hq'.elim
def GW {fi:Gc}{fd:Qad}{ps:List Str}{sp:Sp}{x:Str}{p pos:Pos}{a:QaB}{as:List QaB}{t:TA}(M:OQ X.K C fi)(F:aW X.prog X.w X.K X.mg X.base d7 k fi fd ps sp)(hr:da (k+1) X.A)(hg:Gl X x)(hm:X.mg x=some (.ref C))
  (hb:Binds X.K fd ps []) (ha:PA X (a::as) t) (hex:X.ex=[]:=by rfl) (oC:(x==("__debug__" : Str))=false:=by decide) (he:Qaj (a::as) X.env=(false,QaL a X.env)::Qaj as X.env:=by rfl) (m7:(QbU pos (Qaj as X.env)).any (·.1)=false:=by rfl) :
  PE X (.Call (.Name x p) (a::as) [] pos) (IM C sp t):=
 fun pins s σ H Q I h=>QaJ (iL I hg hm (Qb5 I.ok.mod.zA M.kp (bg (ha s σ H _ I h) fun us s1 hz_=>aj.el hz_ _ fun vs H1 I1 r q=>⟨I1.iA,(E1 M F hr hb hex I1 r q.1 q.2)⟩) he m7) oC)
def SK (K:Frag)(to tv:TE)(f:Str):TS:=fun D σ H=>tv σ H fun v H1=>to σ H1 fun x H2=>∃e C,x = .ref e/\H2 e=some (zk e C)/\kG K C f/\∀dx,H2 dx=none->dx≠e->D.nx σ (upd (upd H2 e (Fp e C dx)) dx (.xd [(f,v)]))
def CM {to tv:TE}{pos pos':Pos}(ho:PE X o to)(hv:PE X value tv)(hs:Qei value (some (.Attribute o f pos')) pos.line X.env=pure false):PS X (.Assign [.Attribute o f pos'] value pos) (SK X.K to tv f):=by
 refine fun pins s σ H D I h=>Qe2 (bg (hv s σ H _ I h) fun u s1 ⟨v,H1,I1,ru,q⟩=>bg (ho s1 σ H1 _ I1 q) fun ov s2 ⟨x,H2,I2,rx,e,C,ex,ee,S,q2⟩=>?_) hs;subst ex;obtain rfl:ov=Qan e:=rx;obtain⟨ob,b1,b2,b3,b4⟩:=(show bw X.prog X.w H2 s2.heap e (zk e C) from I2.bq e _ ee).1;have EZ:=Jm (Jf b1);refine C7 I2.iA S b1 b2 b3 b4.nc fun h' tk a1 a2 a3 =>?_;have I3:Inv X pins σ (upd H2 e (Fp e C s2.heap.objs.size)) { s2 with heap:=h',toks:=tk }:=I2.write (by rw[ee];exact QaO) (.inl rfl) a3 ⟨_,a1⟩ (LK a1 b2 rfl b4);have hd:=I2.bq.fresh (Je _);have fp:=I2.eX (Je _) hd;refine⟨σ,_,?_,q2 _ hd EZ.symm⟩;refine I3.zT (by rw[ao EZ.symm];exact hd) fp.2.1 fp.2.2.2.2.1 fp.2.2.2.2.2 (fun b u q z =>?_) ⟨_,a2,fun g =>?_⟩
 ·have:=Jf q;rw[z] at this;exact absurd (Jt this I2.sz) (Uh _)
 ·show iT (Wg g [(f,v)]) (if g=f then some u else none)
  by_cases z:g=f
  ·rw[if_pos z,z,List.lookup_cons_self];exact ru
  ·rw[if_neg z];have:Wg g [(f,v)]=none:=by
    rw[Ul];have:(g==f)=false:=by simpa using z
    rw[this];rfl
   rw[this];trivial
end
section
variable {K:Frag}{C D N:Gc}{nm qn:Str}{bs up:List Fk}{hdct:Bool}{sn:List Str}{sub:List Fk}{ab:Bool}{col:Option Bool}{dd:Option Gc}{k0 k1 k2 k3 k5:Option Fk}
def E6 (lk:K.lookup C=some (QbL nm qn C N bs up hdct sn sub ab col dd k0 k1 k2 k3 k5 "ValueError.__new__"))(made:excIn K C eR "ValueError.__new__" = true):nsOkIn K N=true/\nsIn K N "__init__" = some none:=by
 have h:(C==C && "ValueError.__new__" == "ValueError.__new__" && !false&&tailIn K eR up&&nsOkIn K N&&nsIn K N "__init__" == some none)=true:=by
  unfold excIn at made;rw[lk] at made;exact made
 have h1:=Bool.and_eq_true_iff.mp h;exact⟨(Bool.and_eq_true_iff.mp h1.1).2,beq_iff_eq.mp h1.2⟩
def xr (lk:K.lookup C=some (QbL nm qn C N bs eR hdct sn sub ab col dd k0 k1 k2 k3 k5 "ValueError.__new__"))(made:excIn K C eR "ValueError.__new__" = true)(h:Heap)(zA:K.In h):OwnTail h eR (.ref C::eR):=by
 obtain⟨a,b⟩:=E6 lk made;exact .own (zA _ _ lk) (.of_isNs (isNs_of_in zA a)) (nsMap_none_of_in zA a b) .base
def yA (lk:K.lookup C=some (QbL nm qn C N bs (.ref D::eR) true sn sub ab col dd k0 k1 k2 k3 k5 "ValueError.__new__"))(sa:findIn K (.ref C) "__setattr__" = some (some (.builtin "object.__setattr__")))(na:findIn K (.ref C) f=some none)
  (mo:mroIn K C (.type "object")=some true):kG K C f:=by
 refine⟨sa,na,mo,⟨{ name:=nm,bases:=bs,mro := .ref C :: .ref D::eR,ns:=N,qualname:=qn,hasDict:=true,slotNames:=sn,subclasses:=sub,abstract:=ab,collection:=col,hasDel:=false },D,?_,rfl,rfl⟩⟩;unfold QeR;rw[lk]
end
structure CA (K:Ja)(P:Qaf)(w:Qah)(a:Gc)(es:Array QdO)(n:Nat)(kvs:List (Str×Fk)):Prop where
 l:K.lookup a=some ⟨.type "dict",none,.dict es n,#[]⟩
 k:Qdj w.params es.toList
 p:Pairs (QdZ P w) es.toList kvs
 nd:(kvs.map (·.1)).Nodup
 ns:(a==QbB)=false
def CA.at {K:Ja}{P:Qaf}{w:Qah}{a:Gc}{es:Array QdO}{n:Nat}{kvs:List (Str×Fk)}{h:Heap}(D:CA K P w a es n kvs)(X:K.In h):h.DictAt (QdZ P w) a kvs n:=
 ⟨_,es,X _ _ D.l,⟨rfl,rfl,rfl⟩,rfl,fun e he=>by
  obtain⟨x,t,e1,e2⟩:=D.k.all e (Array.mem_toList_iff.mpr he);exact⟨x,by rw[e1];exact strKind_is P w x t,e2⟩,D.p,D.nd⟩
def RW:Kd X "int.bit_length" (fun x vs H Q=>∃a,x = .int a/\vs=[]/\Q (.int ((QbD a:Nat):Int)) H):=by
 intro pins s σ H x vs v us Q I rx rv h;obtain⟨a,rfl,rfl,q⟩:=h;obtain⟨t,rfl⟩:=rx;cases rv;exact call_gives Qex (QfM _ _ _) PySem.F.entry_int_bit_length (PySem.F.args_int_bit_length_1 _) (PySem.AutoIntG2.int_bit_length_int_0 a t) ⟨.int _,H,I.tok _,⟨_,rfl⟩,q⟩
structure zL (h:Heap)(S it d:Gc)(i n ep:Nat):Prop where
 ex:∃(x0:Fk) (f:Bool) (ok ov:Fk),h.get? it=some { cls := .type "dict_itemiterator",dict:=none,data := .fields #[x0,.bool f,.ref d,.int i 0,.int n 0,.int ep 0,ok,ov],slots := #[] } /\ (x0 = .none\/∃(a:Gc) (oa:Obj),x0=QaW a/\h.get? a=some oa/\a≠it/\a≠S)
section
variable {prog:Qaf}{w:Qah}{K:Type}[DecidableEq K]{knd:KeyKind prog w K}{A:Qax}{E:Fk->KE->Prop}{s:KE}
def Dh (st:zL s.heap S it d i n ep)(hS:S<s.heap.objs.size)
  (q:∀h',zL h' S it d i n ep->h'.get? s.heap.objs.size=some { cls := .type "tuple",data := .seq #[key,val] } -> h'.objs.size=s.heap.objs.size+1->(∀b o,b≠it->s.heap.get? b=some o->h'.get? b=some o)->Q (.ref s.heap.objs.size) { s with heap:=h' }) :
  Qac (Qab prog w) A (Builtin.Dict_items.pairFromOwner (.ref it) 6 key val) Q E s:=by
 obtain⟨⟨x0,f,ok,ov,e,JZ⟩⟩:=st;have low:=Jf e;refine be (Qcv ?_);obtain⟨h2,eh2⟩:∃h2,h2=s.heap.push { cls := .type "tuple",data := .seq #[key,val] }:=⟨_,rfl⟩
 have t2:h2.get? s.heap.objs.size=some { cls := .type "tuple",data := .seq #[key,val] }:=by rw[eh2];exact Ji _ rfl
 have z2:h2.objs.size=s.heap.objs.size+1:=by rw[eh2,Ue]
 have k2:∀b o,s.heap.get? b=some o->h2.get? b=some o:=fun b o x=>by rw[eh2];exact Jb _ x
 have e2:=k2 _ _ e;rw[<-eh2];refine be ?_
 rcases JZ with rfl|⟨a,oa,rfl,ha,na,nS⟩
 ·refine be (Qal e2 rfl rfl (tz ?_));refine be (Qal e2 rfl rfl (be (Qal e2 rfl rfl (be (Qai e2 (by simp) fun h3 e3 s3=>be (Qai e3 (by simp) fun h4 e4 s4=>be (Qai e4 (by simp) fun h5 e5 s5=>be (Qai e5 (by simp) fun h6 e6 s6 =>?_))))))));have kk:=fun b o nb x=>s6.extBut b o nb (s5.extBut b o nb (s4.extBut b o nb (s3.extBut b o nb x)));have t6:=kk _ _ (Uj low) t2;exact be (Qcn (tz (q h6 ⟨_,_,_,_,e6,.inr ⟨_,_,rfl,t6,Uj low,Uj hS⟩⟩ t6 (by rw[s6.1,s5.1,s4.1,s3.1];exact z2) fun b o nb x=>kk b o nb (k2 b o x))))
 ·refine be (Qal e2 rfl rfl ?_);refine be (Qf7 (k2 _ _ ha) (be (Qal e2 rfl rfl ?_)));cases f
  ·refine be (Qai e2 (by simp) fun h3 e3 s3=>tz ?_);exact tz (q h3 ⟨_,_,_,_,e3,.inr ⟨a,oa,rfl,s3.extBut _ _ na (k2 _ _ ha),na,nS⟩⟩ (s3.extBut _ _ (Uj low) t2) (by rw[s3.1];exact z2) fun b o nb x=>s3.extBut b o nb (k2 b o x))
  ·refine tz ?_;exact tz (q h2 ⟨_,_,_,_,e2,.inr ⟨a,oa,rfl,k2 _ _ ha,na,nS⟩⟩ t2 z2 fun b o nb x=>k2 b o x)
def AZ (zq:zL s.heap S it d i kvs.length ep)(hS:S<s.heap.objs.size)
  (hm:s.heap.DictAt knd d kvs ep) (hx:kvs[i]? = some (k,v))
  (hQ:∀key h',knd.is k key=true->zL h' S it d (i+1) kvs.length ep->h'.get? s.heap.objs.size=some { cls := .type "tuple",data := .seq #[key,v] } -> h'.objs.size=s.heap.objs.size+1 ->
   (∀b o,b≠it->s.heap.get? b=some o->h'.get? b=some o)->Q (some (.ref s.heap.objs.size)) { s with heap:=h' }) :
  Qac (Qab prog w) A (QbS (.ref it)) Q E s:=by
 obtain⟨⟨x0,f,ok,ov,e,JZ⟩⟩:=zq;obtain⟨od,es,hod,zU,hdd,hk,EL,hn⟩:=id hm;have hT:s.TypeIs (.ref it) "dict_itemiterator":=⟨_,e,rfl⟩
 have hsz:es.size=kvs.length:=by rw[<-EL.length];simp
 have iC:i<es.size:=by rw[hsz];exact(Jq.mp hx).1
 obtain⟨hkey,hval⟩:=EL.get? (e:=es[i]) (by simp[]) hx;refine be (QaS (Qao hT QbI (Qav QbI hT Qe0 ?_ (QeM _))))
 repeat (first
  | with_reducible refine QbF hT ?_
  | with_reducible refine wpAny_typeNameOf_itemiter hT ?_
  | with_reducible refine Qed e rfl ?_
  | with_reducible refine wpAny_dictEntries hod hdd ?_
  | with_reducible refine wpAny_dictEpoch hod hdd ?_
  | with_reducible refine Qcx hT ?_
  | wp_step)
 simp only[ Ut,J2 iC];refine be (be (QbF hT (tz (be (Qcx hT ?_)))));change Qac _ _ (QbV (setField (.ref it) 3 (QaW ((i:Int)+1))) _) _ _ _;refine be (Qai e (by simp) fun h1 e1 s1 =>?_);have z:((i+1:Nat):Int)=(i:Int)+1:=by lia
 have xf:zL h1 S it d (i+1) kvs.length ep:=⟨x0,f,ok,ov,by rw[z];exact e1,JZ.imp id fun⟨a,oa,h1,h2,h3,h4⟩=>⟨a,oa,h1,s1.extBut _ _ h3 h2,h3,h4⟩⟩
 have FL:Qa2 { s with heap:=h1 } (.ref it) "dict_itemiterator":=⟨_,e1,rfl⟩
 refine be (Qak (be (Qcx FL (be (Qcx FL (Dh xf (by show S<h1.objs.size;rw[s1.1];exact hS) fun h' st' t' z' k' =>?_))))));rw[s1.1] at t' z' ⊢;refine tz ⟨_,rfl,tz (hQ _ h' hkey st' (by rw[<-hval];exact t') z' fun b o nb x=>k' b o nb (s1.extBut b o nb x))⟩
def AV (hh:A.handled=none)(zq:zL s.heap S it d i kvs.length ep)
  (hm:s.heap.DictAt knd d kvs ep) (hx:kvs[i]? = none) (hQ:∀h',Heap.ExtBut it s.heap h'->Q none { s with heap:=h' }) :
  Qac (Qab prog w) A (QbS (.ref it)) Q E s:=by
 obtain⟨⟨x0,f,ok,ov,e,JZ⟩⟩:=zq;obtain⟨od,es,hod,zU,hdd,hk,EL,hn⟩:=id hm;have hT:s.TypeIs (.ref it) "dict_itemiterator":=⟨_,e,rfl⟩
 have hsz:es.size=kvs.length:=by rw[<-EL.length];simp
 refine be (QaS (Qao hT QbI (Qav QbI hT Qe0 ?_ (QeM _))))
 repeat (first
  | with_reducible refine QbF hT ?_
  | with_reducible refine Qed e rfl ?_
  | with_reducible refine wpAny_dictEntries hod hdd ?_
  | with_reducible refine wpAny_dictEpoch hod hdd ?_
  | wp_step)
 simp only[ Ut,Ur (by rw[hsz];simpa using hx)];refine be (be (QbF hT (tz ?_)));change Qac _ _ (QbV (setField (.ref it) 2 .none) _) _ _ _;refine be (Qai e (by simp) fun h1 e1 s1 =>?_)
 wp_walk
 refine Qa7 hh (be (QaE ⟨_,Ji _ rfl,rfl⟩ Qbt (tz (hQ _ fun b o nb x =>?_))));exact Jb _ (Jb _ (s1.extBut b o nb x))
end
structure HN (prog:Qaf)(w:Qah)(A:Qax)(it S:Gc)(fp:Gc->Prop)(n:Nat)(P:Nat->Fk->Heap->Prop)(R:Fk->Fk->Prop)(St:Nat->Heap->Prop):Prop where
 sfp:¬fp S
 item:∀i (s:KE) (Q:Option Fk->KE->Prop) (E:Fk->KE->Prop),i<n->St i s.heap->S<s.heap.objs.size ->
  (∀v h' tk,Keeps s.heap h' fp->St (i+1) h'->P i v h'->(∀j u,P j u s.heap->R u v)->Q (some v) { s with heap:=h',toks:=tk })->Qac (Qab prog w) A (QbS (.ref it)) Q E s
 stop:∀(s:KE) (Q:Option Fk->KE->Prop) (E:Fk->KE->Prop),St n s.heap->S<s.heap.objs.size->(∀h' tk,Keeps s.heap h' fp->Q none { s with heap:=h',toks:=tk })->Qac (Qab prog w) A (QbS (.ref it)) Q E s
 keepS:∀i h h',St i h->Keeps h h' (· = S)->St i h'
 keepP:∀j v h h',P j v h->Keeps h h' (fun b=>fp b\/b=S)->P j v h'
section
variable {prog:Qaf}{w:Qah}{A:Qax}{it S:Gc}{fp:Gc->Prop}{n:Nat}{P:Nat->Fk->Heap->Prop}{R:Fk->Fk->Prop}{St:Nat->Heap->Prop}
def lM (Fd:HN prog w A.in1 it S fp n P R St)(hn:n<=Wp){s:KE}{Z:Qb4->KE->Prop}{res:Fk}{g:Heap}(fin:pG g S fp n P R s (Z (.ok (.ret res)))):
  ∀k i h tk acc c,i+k=n->St i h->oI h S i P R acc c->Keeps g h (fun b=>fp b\/b=S) ->
   QaZ (Qab prog w) A (.builtin "list.extend.loop" ⟨[.ref S,.ref it,res],[]⟩) Z { s with heap:=h,toks:=tk }
 | 0,i,h,tk,acc,c,hk,kK,G,kp=>by
  have e:i=n:=by lia
  subst e;exact QaG QbR (be (Fd.stop { s with heap:=h,toks:=tk } _ _ kK (Jf G.ob) fun h' tk' k'=>tz (fin h' tk' acc c (fun b o nb q=>k' b o (fun z=>nb (.inl z)) (kp b o nb q)) ⟨k' _ _ Fd.sfp G.ob,G.sz,G.pw,fun j v e=>Fd.keepP _ _ _ _ (G.all j v e) fun b o nb q=>k' b o (fun z=>nb (.inl z)) q⟩)))
 | k+1,i,h,tk,acc,c,hk,kK,G,kp=>by
  refine QaG QbR (be (Fd.item i { s with heap:=h,toks:=tk } _ _ ⋯ kK (Jf G.ob) fun v h' tk' k' st' pv rv =>?_));have Pa:=k' _ _ Fd.sfp G.ob;have other:Keeps h' (h'.update S (QaH (·.push v))) (· = S):=fun b o nb q=>(Ua _ _ (QaA nb)).trans q;have k2:Keeps h (h'.update S (QaH (·.push v))) (fun b=>fp b\/b=S):=fun b o nb q=>other b o (fun z=>nb (.inr z)) (k' b o (fun z=>nb (.inl z)) q);have sz:=G.sz;refine be (Qba Pa rfl (tz ⟨QaX Qa4 _,(lM Fd hn fin k (i+1) _ tk' (acc.push v) _ ⋯ (Fd.keepS _ _ _ st' other) ⟨J7 _ Pa rfl,by rw[Qb7,sz],?_,fun j u e =>?_⟩ (fun b o nb q=>k2 b o nb (kp b o nb q)))⟩) (by rw[sz];lia) (by show(acc.push v).size<=Wp+1;rw[Qb7,sz];lia))
  ·rw[Qcg];refine Y2.mpr ⟨G.pw,Qcb _ _,fun a ha b hb =>?_⟩;obtain⟨j,hj⟩:=Uk.mp ha;rw[Jz.mp hb];exact rv j a (G.all j a (by simpa using hj))
  ·by_cases hj:j<i
   ·rw[Qfz ⋯] at e;exact Fd.keepP _ _ _ _ (G.all j u (by rw[J2 ⋯];exact e)) k2
   ·have NA:j=i:=by
     have:=(U4.mp e).1;rw[Qb7] at this;lia
    subst NA;have e':(acc.push v)[acc.size]? = some u:=by rw[sz];exact e
    rw[Qfl] at e';cases e';exact Fd.keepP _ _ _ _ pv fun b o nb q=>other b o (fun z=>nb (.inr z)) q
end
section
variable {prog:Qaf}{w:Qah}{K:Type}[DecidableEq K]{knd:KeyKind prog w K}
abbrev mI (knd:KeyKind prog w K)(it S:Gc)(kvs:List (K×Fk))(j:Nat)(v:Fk)(h:Heap):Prop:=∃a k key val,v = .ref a/\S<a/\it<a/\kvs[j]? = some (k,val)/\knd.is k key=true/\a<h.objs.size/\h.get? a=some { cls := .type "tuple",data := .seq #[key,val] }
def BQ {it d S:Gc}{kvs:List (K×Fk)}{ep:Nat}(hh:A.handled=none)(n1:it≠S)(n2:d≠it)(n3:d≠S):
  HN prog w A it S (· = it) kvs.length (mI knd it S kvs) jS (fun i h=>zL h S it d i kvs.length ep/\h.DictAt knd d kvs ep) where
 sfp:=fun z=>n1 z.symm
 item:=fun i s Q E hi st hS q=>by
  obtain⟨st,hm⟩:=st;refine AZ st hS hm (Jd hi) fun key h' hk st' t' z' k' =>?_;refine q _ h' s.toks (fun b o nb x=>k' b o nb x) ⟨st',?_⟩ ⟨_,_,key,_,rfl,hS,(by obtain⟨⟨_,_,_,_,e,_⟩⟩:=st;exact Jf e),Jd hi,hk,by rw[z'];exact Wj _,t'⟩ fun j u hu =>?_
  ·obtain⟨o,es,ho,r⟩:=hm;exact⟨o,es,k' _ _ n2 ho,r⟩
  ·refine aj.el (hu) _ ?_;rintro a _ _ _ rfl _ _ _ _ ha _;exact⟨a,_,rfl,rfl,ha⟩
 stop:=fun s Q E st hS q=>by
  obtain⟨st,hm⟩:=st;exact AV hh st hm (Qct (Je _)) fun h' kb=>q h' s.toks fun b o nb x=>kb b o nb x
 keepS:=fun i h h' st k=>by
  obtain⟨⟨⟨x0,f,ok,ov,e,hx⟩⟩,⟨o,es,ho,r⟩⟩:=st;exact⟨⟨x0,f,ok,ov,k _ _ n1 e,hx.imp id fun⟨a,oa,h1,h2,h3,h4⟩=>⟨a,oa,h1,k _ _ h4 h2,h3,h4⟩⟩,⟨o,es,k _ _ n3 ho,r⟩⟩
 keepP:=fun j v h h' p k=>by
  refine aj.el (p) _ ?_;rintro a kk key val h1 h2 h3 h4 h5 h6 h7;have z:=k a _ (fun z=>z.elim (fun z=>Uh _ (z▸h3)) fun z=>Uh _ (z▸h2)) h7;exact⟨a,kk,key,val,h1,h2,h3,h4,h5,Jf z,z⟩
def E8:isSubtype (.type "dict_items") (.type "dict_items")=pure true:=rfl
def xi {S vw d:Gc}{kvs:List (K×Fk)}{ep:Nat}(hh:A.in1.handled=none){s:KE}{Z:Qb4->KE->Prop}{res:Fk}{c₀:Nat}(hv:s.heap.IsItemsView vw d)(hm:s.heap.DictAt knd d kvs ep)(hn:kvs.length<=Wp)
  (UZ:vw≠S) (T9:d≠S) (hS:s.heap.get? S=some { cls := .type "list",data := .seq #[] c₀ })
  (fin:∀h' tk acc c,Keeps s.heap h' (· = S)->oI h' S kvs.length (mI knd s.heap.objs.size S kvs) jS acc c->Z (.ok (.ret res)) { s with heap:=h',toks:=tk }) :
  Qac (Qab prog w) A.in1 (Qbb (.ref S) (.ref vw) res) (p8 prog w A Z) (fun e s'=>Z (.error e) s') s:=by
 have zj:Qa5 (.ref S) (.ref vw)=false:=by simp[Qa5,QaA UZ]
 refine be (QaY hv.typeIs ?_);simp only[zj,if_false];refine be (wpAny_pyIter_items hv hm ?_);obtain⟨h1,eh1⟩:∃h1,h1=s.heap.push { cls := .type "dict_itemiterator",data := .fields #[.none,.bool false,.ref d,.int 0 0,.int kvs.length 0,.int ep 0,.none,.none] }:=⟨_,rfl⟩
 have k1:∀b o,s.heap.get? b=some o->h1.get? b=some o:=fun b o x=>by rw[eh1];exact Jb _ x
 rw[<-eh1];have FL:Qa2 { s with heap:=h1 } (.ref vw) "dict_items":=by
  obtain⟨o,ho,hc,_⟩:=hv;exact⟨o,k1 _ _ ho,hc⟩
 have hint:∀Q,Q false { s with heap:=h1 } -> Qac (Qab prog w) A.in1 (QbC (.ref vw)) Q (fun e s'=>Z (.error e) s') { s with heap:=h1 }:=fun Q q=>by
  exact be (QcW FL F.slot_dict_items_len.lookup (be (QaE FL E8 (Qbj (fun z=>absurd z ∅) fun _=>Qbj (fun _=>(be (QaY FL (tz q)))) fun z=>absurd (show _=true by decide +kernel) z))))
 refine be (Qak (hint _ ?_));have nC:=k1 _ _ hS;have go:∀h c tk,Keeps h1 h (· = S)->h.get? S=some { cls := .type "list",data := .seq #[] c } -> QaZ (Qab prog w) A (.builtin "list.extend.loop" ⟨[.ref S,.ref s.heap.objs.size,res],[]⟩) Z { s with heap:=h,toks:=tk }:=
  fun h c tk k o=>by
   have Fd:=BQ (knd:=knd) (kvs:=kvs) (ep:=ep) hh (Uj (Jf hS)) (Jm hm.lt_size) T9;obtain⟨od,es,ho,r⟩:=hm;refine lM Fd hn (fun h' tk acc c k' G=>fin h' tk acc c (fun b o nb q=>k' b o (fun z=>z.elim (fun z=>Uh _ (z▸Jf q)) nb) (k1 b o q)) G) kvs.length 0 h tk #[] c ⋯ (Fd.keepS _ _ _ ⟨⟨.none,false,.none,.none,by rw[eh1];exact Ji _ rfl,.inl rfl⟩,od,es,k1 _ _ ho,r⟩ k) ⟨o,rfl,.nil,fun j v e=>by simp at e⟩ fun b o nb q=>k b o (fun z=>nb (.inr z)) q
 refine Qbj (fun _=>(be (Qbr (be ?_)))) fun z=>absurd (show _=true by decide +kernel) z;have o1:=J7 (QaH (·.push Qcr)) nC rfl;refine be (Qba nC rfl (Qba o1 rfl (tz ⟨QaX Qa4 _,go _ _ _ (fun b o nb q =>?_) (J7 (QaH (·.pop)) o1 rfl)⟩)));exact(Ua _ _ (QaA nb)).trans ((Ua _ _ (QaA nb)).trans q)
def EW {S vw d:Gc}{kvs:List (K×Fk)}{ep:Nat}(hh:A.in1.handled=none){s:KE}{Z:Qb4->KE->Prop}(hv:s.heap.IsItemsView vw d)(hm:s.heap.DictAt knd d kvs ep)(hn:kvs.length<=Wp)
  (UZ:vw≠S) (T9:d≠S) (hS:s.heap.get? S=some { cls := .type "list",data := .seq #[] })
  (fin:∀h' tk acc c,Keeps s.heap h' (· = S)->oI h' S kvs.length (mI knd s.heap.objs.size S kvs) jS acc c->Z (.ok (.ret .none)) { s with heap:=h',toks:=tk }) :
  Qac (Qab prog w) A.in1 (Builtin.«list.__init__» ⟨[.ref S,.ref vw],[]⟩) (p8 prog w A Z) (fun e s'=>Z (.error e) s') s:=by
 refine be (be (Qau hS rfl (tz ?_)));have k1:Keeps s.heap (s.heap.update S (QaH (fun _=>(#[]:Array Fk)))) (· = S):=fun b o nb q=>(Ua _ _ (QaA nb)).trans q;refine be (Qba hS rfl (be (Qcn ?_)));have hz:(s.heap.update S (QaH (fun _=>(#[]:Array Fk)))).objs.size=s.heap.objs.size:=Heap.size_update ..;obtain⟨ov,hov,c1,c2⟩:=hv;obtain⟨od,es,ho,r⟩:=hm;refine xi hh ⟨ov,k1 _ _ UZ hov,c1,c2⟩ ⟨od,es,k1 _ _ T9 ho,r⟩ hn UZ T9 (J7 (QaH (fun _=>(#[]:Array Fk))) hS rfl) fun h' tk acc c k G =>?_;refine fin h' tk acc c (fun b o nb q=>k b o nb (k1 b o nb q)) ?_;rw[hz.symm];exact G
def C9 {vw d:Gc}{kvs:List (K×Fk)}{ep:Nat}(hh:A.handled=none){s:KE}{Q:Fk->KE->Prop}(hv:s.heap.IsItemsView vw d)(hm:s.heap.DictAt knd d kvs ep)(hn:kvs.length<=Wp)
  (fin:∀h' tk acc c,(∀b o,s.heap.get? b=some o->h'.get? b=some o)->oI h' s.heap.objs.size kvs.length (mI knd (s.heap.objs.size+1) s.heap.objs.size kvs) jS acc c->Q (.ref s.heap.objs.size) { s with heap:=h',toks:=tk }) :
  Qac (Qab prog w) A (call (.type "list") [.ref vw]) Q E s:=by
 refine Qdd (Q₁:=fun obj s₁=>obj = .ref s.heap.objs.size/\s₁={ s with heap:=s.heap.push { cls := .type "list",data := .seq #[] } }) F.called_list (F.typeCall_list_1 _) F.entry_list_init
  (code_list_new _ ⟨rfl,rfl⟩) fun obj s₁ h₁ =>?_
 obtain⟨rfl,rfl⟩:=h₁;have hS:(s.heap.push { cls := .type "list",data := .seq #[] }).get? s.heap.objs.size=some { cls := .type "list",data := .seq #[] }:=Ji _ rfl;obtain⟨ov,hov,c1,c2⟩:=hv;obtain⟨od,es,ho,r⟩:=hm;refine⟨⟨_,hS,rfl⟩,F.args_list_init_2 _ _,EW (A:=A.in1) hh ⟨ov,Jb _ hov,c1,c2⟩ ⟨od,es,Jb _ ho,r⟩ hn (Jm (Jf hov)) (Jm (Jf ho)) hS fun h' tk acc c k G=>⟨rfl,fin h' tk acc c (fun b o q =>?_) ?_⟩⟩
 ·exact k b o (Jm (Jf q)) (Jb _ q)
 ·have e:(s.heap.push { cls := .type "list",data := .seq #[] }).objs.size=s.heap.objs.size+1:=Ue ..;rw[<-e];exact G
end
def Sl (h:(bD P w).is k u=true):RelV (kV k) u:=by
 cases k with
 | inl i=>exact Qc5 h
 | inr x=>exact QdU h
def TH (r:KV kvs vs):∀{j:Nat} {k:Key} {u:Fk},vs[j]? = some (k,u)->∃v,kvs[j]? = some (k,v)/\RelV v u:=by
 induction r with
 | nil=>intro j k u h;simp at h
 | @cons p q ps qs h t ih=>
  intro j k u e;cases j with
  | zero=>
   cases e;have h1:p.1=k:=h.1;exact⟨p.2,by rw[<-h1];rfl,h.2⟩
  | succ j=>exact ih e
section
variable {X:Cx}
def tLI (to:TE):TE:=fun σ H Q=>to σ H fun x H1=>∃a kvs,x = .ref a/\H1 a=some (.dK kvs) /\
 ∀H' p (as:List Gc),av H1 H'->H1 p=none->H' p=some (.lst (as.map V.ref))->as.length=kvs.length ->
  (∀(j:Nat) b k v,as[j]? = some b->kvs[j]? = some (k,v)->H1 b=none/\H' b=some (.tup [kV k,v]))->Q (.ref p) H'
def Dq {p pos apos dj:Pos}(hc:X.calm=true)(Lx:Gl X "list")(LY:X.mg "list" = none)(ho:PE X o to)
  (Du:QaR "list" = some (.type "list"):=by first|rfl|decide)
  (Ma:Qaj [.Call (.Attribute o "items" apos) [] [] dj] X.env=[(false,QaL (.Call (.Attribute o "items" apos) [] [] dj) X.env)]:=by rfl)
  (lW:Qbn o "items" X.env (QaL o X.env)=QaL o X.env:=by rfl) (mB:(apos.endLine==dj.line)=true:=by rfl) :
  PE X (.Call (.Name "list" p) [.Call (.Attribute o "items" apos) [] [] dj] [] pos) (tLI to):=by
 refine fun pins s σ H Q I h=>QaJ (dW I Lx LY Du (Qam (Qa9 (wpAny_Call_method0_late lW mB (bg (ho s σ H _ I h) fun v s1 ⟨x,H1,I1,r1,q1⟩=>(aj.el (q1) _ ?_)))) Ma rfl));rintro a kvs rfl ea q;cases r1;obtain⟨h1,h2⟩:=zM I1 (x := .ref a) rfl (show UC X.K "dict" (.ref a) H1 from .inr (.inr (.inl ⟨rfl,.inl ⟨kvs,ea⟩⟩)));refine aj.el (BU I1.bq ea) _ ?_;rintro hz hsm vs rel dd;refine⟨"dict", "dict.items",Qe6,Qe4,PySem.F.type_dict_items,h1,h2,Qcf rfl (Qf3 (call_meetsIn Qe4 h1 PySem.F.entry_dict_items (PySem.F.args_dict_items_1 _) (meets_dict_items (bD X.prog X.w) a hsm) ⟨⟨vs,dd⟩,(Qbv ?_)⟩))⟩;obtain⟨ep,dat⟩:=dd.dictAt;obtain⟨hp,ehp⟩:∃hp,hp=s1.heap.push { cls := .type "dict_items",data := .fields #[.ref a] }:=⟨_,rfl⟩
 have hk:∀b o,s1.heap.get? b=some o->hp.get? b=some o:=fun b o x=>by rw[ehp];exact Jb _ x
 have hsz:hp.objs.size=s1.heap.objs.size+1:=by rw[ehp,Ue]
 have uw:s1.heap.objs.size<=hp.objs.size:=by rw[hsz];exact Yx _
 rw[<-ehp];have rl:=rel.length;refine C9 (I.ok.hd hc) ⟨_,by rw[ehp];exact Ji _ rfl,rfl,rfl⟩ (dat.keep hk) (by rw[<-rl];exact hz) fun h' tk acc c hk2 G =>?_;obtain⟨gob,gsz,gpw,gall⟩:=G;obtain⟨as,hR⟩:=pI (l:=acc.toList) fun v hv=>by
  obtain⟨j,hj⟩:=Uk.mp hv;obtain⟨b,_,_,_,e,_⟩:=gall j v (by simpa using hj);exact⟨b,e⟩
 have jK:∀j b,as[j]? = some b->∃k key val,hp.objs.size<b/\vs[j]? = some (k,val)/\(bD X.prog X.w).is k key=true/\h'.get? b=some { cls := .type "tuple",data := .seq #[key,val] }:=fun j b hb=>by
  obtain⟨b',k,key,val,e,g1,_,g3,g4,_,g6⟩:=gall j (.ref b) (by
   have:acc.toList[j]? = some (.ref b):=by rw[hR,Jk,hb];rfl
   simpa using this)
  cases e;exact⟨k,key,val,g1,g3,g4,g6⟩
 have above:∀b∈as,hp.objs.size<b:=fun b hb=>by
  obtain⟨j,hj⟩:=Uk.mp hb;obtain⟨_,_,_,g,_⟩:=jK j b hj;exact g
 have I2:Inv X pins σ H1 { s1 with heap:=h',toks:=tk }:=I1.kept fun b o e=>hk2 b o (hk b o e);have uz:=fun b hb=>Yj (Ub uw (above b hb));have nd:as.Nodup:=by
  rw[hR,Qel] at gpw;exact gpw.imp fun⟨a,b,e1,e2,h⟩=>by cases e1;cases e2;exact Jm h
 have eX:∀b,s1.heap.objs.size<=b->gc X pins H1 b/\X.s₀.heap.objs.size<=b:=fun b hb=>⟨I1.eX hb (I1.bq.fresh hb),Jh I1.sz hb⟩
 have K5:as.length=kvs.length:=by
  have z:acc.toList.length=as.length:=by rw[hR,Jc]
  simp at z gsz;lia
 obtain⟨H',I',sm,same,all⟩:=I2.mT as (kvs.map fun q=>[kV q.1,q.2]) nd (by rw[Jc];exact K5) (fun b hb=>eX b (uz b hb)) (fun j b pp g1 g2=>by
  refine aj.el (jK j b g1) _ ?_;rintro k key val _ c1 c2 c3;refine aj.el (TH rel c1) _ ?_;rintro v c4 c5;rw[Jk,c4] at g2;cases g2;exact⟨by show 2<=Wp;decide,[key,val],.cons (Sl c2) (.cons c5 .nil),⟨_,c3,rfl,rfl,_,rfl⟩⟩)
 have Gp:=fun hm=>Uh _ (above _ hm);have nC:=I1.bq.fresh uw;obtain⟨fS,sS⟩:=eX hp.objs.size uw;have I3:=I'.adopt (o := .lst (as.map V.ref)) ⟨by rw[same _ Gp];exact nC,fS.2⟩ sS ⟨by rw[Jc];lia,acc.toList,c,by
  rw[hR];clear gob hR all same I' sm uz nd K5 Gp above jK
  induction as with
  | nil=>exact .nil
  | cons a r ih=>exact .cons rfl ih,by simpa using gob⟩
 refine⟨.ref hp.objs.size,_,I3,rfl,q _ _ as (fun b o e =>?_) nC au K5 fun j b k v g1 g2=>⟨(eX b (uz b (Jy g1))).1.1,?_⟩⟩
 ·rw[ao (ay e nC)];exact sm b o e
 ·rw[ao (fun z=>Gp (by rw[<-z];exact Jy g1))];exact all j b [kV k,v] g1 (by rw[Jk,g2];rfl)
end
def fz:Slot "set_iterator" "__next__" "set_iterator.__next__":=by
 refine .of (owner := "set_iterator") (n := "__next__") ?_ ?_ ?_ ?_ ?_ ?_
 ·rw[QcY,QbT];kernel_rfl
 ·decide +kernel
 ·decide +kernel
 ·decide +kernel
 ·first
   | exact .inl ∅
   | exact .inr ∅
 ·rw[isSubtype_type];kernel_rfl
def mi:entryFor table "set_iterator.__next__" = some Builtin.«set_iterator.__next__»:=entryFor_of_fast (by kernel_rfl)
def oB (a:Fk):argsOk "set_iterator.__next__" ⟨[a],[]⟩:=by
 unfold argsOk;rw[signature?_of (id := "set_iterator.__next__") (n := "__txen__".toList) (o := "rotareti_tes".toList) (rows:=Manifest.sig_set_iterator) (by kernel_rfl) (by kernel_rfl)]
 kernel_rfl
def qK:entryFor table "set.__iter__" = some Builtin.«frozenset.__iter__»:=entryFor_alias (id' := "frozenset.__iter__") (by kernel_rfl) rfl ∅ (by kernel_rfl)
def eS {α:Type}:∀{l:List α} {i:Nat} (h:i<l.length),Yb (l[i]::l.eraseIdx i) l
 | x::l,0,h=>Yb.refl _
 | x::l,i+1,h=>by
  rw[List.eraseIdx_cons_succ,List.getElem_cons_succ];exact(Yb.swap _ _ _).trans ((eS (Nat.lt_of_succ_lt_succ h)).cons x)
def B2 {α:Type}(next:Nat->Nat):∀(n k:Nat) (left:List α) (out:Array α),left.length=n->Yb (QeO next n k left out).toList (out.toList++left)
 | 0,k,left,out,h=>by
  unfold QeO;rw[Uy h,Uv]
 | n+1,k,left,out,h=>by
  unfold QeO;have hp:next k%left.length<left.length:=Nat.mod_lt _ ⋯;rw[Jd hp];dsimp only;refine(B2 next n (k+1) _ _ (by rw[QdR,if_pos hp];lia)).trans ?_;rw[Qcg,Yo];refine Yb.append_left _ ?_;rw[List.singleton_append];exact eS hp
def Dw {α:Type}(next:Nat->Nat)(xs:Array α):Yb (QdJ next xs).toList xs.toList:=B2 next _ 0 _ #[] rfl
def Ao {M:Model}{A:Qax}{E:Fk->KE->Prop}{α:Type}:∀(n:Nat) (xs:List α) (s:KE) (Q:List α->KE->Prop),xs.length=n ->
  (∀ys d,Yb ys xs->Q ys { s with drawn:=d })->Qac M A (drawOrder n xs) Q E s:=by
 intro n
 induction n with
 | zero=>
  intro xs s Q h q;unfold drawOrder;exact tz (q [] s.drawn (by rw[Uy h]))
 | succ n ih=>
  intro xs s Q h q;cases xs with
  | nil=>cases h
  | cons x xs=>
   unfold drawOrder;refine be (fun Γ p hΓ =>?_);unfold choose;rw[Sem.wp_choose];refine⟨by simp,?_⟩;have hp:M.w.draws .order (s.drawn.get .order)%(x::xs).length<(x::xs).length:=Nat.mod_lt _ (by simp);generalize M.w.draws .order (s.drawn.get .order)%(x::xs).length=i at hp ⊢;rw[Sem.wp_pure];dsimp only;rw[Jd hp];refine be (ih _ _ _ (by rw[QdR,if_pos hp];lia) fun ys d hy=>tz (q _ d ?_));exact(hy.cons _).trans (eS hp)
def Oz (w:Qah):Bool:=w.params.followText "set-order"
inductive IJ (w:Qah)(a:Gc)(es:Array (Int×Fk))(ep:Nat)(t:QcO)(lo i:Nat)(h:Heap)(it:Gc):Fk->List Fk->Prop
 | text (b:Oz w=true):IJ w a es ep t lo i h it (.int 0 0) ((QdJ (w.params.setOrder a ep) es).toList.map (·.2))
 | places (b:Oz w=false) (d:(!t.plain&&decide (es.size>1))=false) (l:t.led=true) (z:Nat) (c:Cut t.place z i):IJ w a es ep t lo i h it (.int (z:Int) 0) (es.toList.map (·.2))
 | drawn (ys:List Nat) (p:Yb ys (U3 es.size)) (tp:Gc) (low:lo<=tp) (ne:tp≠it) (o:Obj) (n:Nat) (e:h.get? tp=some o) (d:o.data = .seq (ys.map fun(k:Nat)=>QaW k).toArray n):IJ w a es ep t lo i h it (.ref tp) (ys.map fun k=>(es.toList.map (·.2)).getD k .none)
structure Ng (w:Qah)(a:Gc)(es:Array (Int×Fk))(ep:Nat)(t:QcO)(lo:Nat)(vals:List Fk)(it:Gc)(i:Nat)(h:Heap):Prop where
 set:∃o,h.get? a=some o/\o.data = .set es ep t
 fit:t.fits es.size=true
 good:dF t
 ne:a≠it
 low:lo<=it
 ex:∃first,IJ w a es ep t lo i h it first vals/\h.get? it=some { cls := .type "set_iterator",data := .fields #[first,.int i 0,.ref a,.int es.size 0,.int ep 0] }
def Ng.keep {w:Qah}{a:Gc}{es:Array (Int×Fk)}{ep:Nat}{t:QcO}{lo:Nat}{vals:List Fk}{it:Gc}{i:Nat}{h h':Heap}(x:Ng w a es ep t lo vals it i h)(k:∀b o,h.get? b=some o->(b=a\/lo<=b)->h'.get? b=some o):Ng w a es ep t lo vals it i h':=by
 obtain⟨⟨o,e1,e2⟩,ft,g,ne,low,first,so,e3⟩:=x;refine⟨⟨o,k _ _ e1 (.inl rfl),e2⟩,ft,g,ne,low,first,?_,k _ _ e3 (.inr low)⟩;cases so with
 | text b=>exact .text b
 | places b d l z c=>exact .places b d l z c
 | drawn ys p tp tl ne o n e d=>exact .drawn ys p tp tl ne o n (k _ _ e (.inr tl)) d
section
variable {prog:Qaf}{w:Qah}{A:Qax}{E:Fk->KE->Prop}{s:KE}{a:Gc}{es:Array (Int×Fk)}{ep:Nat}{t:QcO}{o:Obj}{lo:Nat}
def GZ {Q:Fk->KE->Prop}(ho:s.heap.get? a=some o)(hx:o.ExactSet)(hd:o.data = .set es ep t)(hf:t.fits es.size=true)(g:dF t)(l:Oz w=false->t.led=true)(hz:es.size<=Wp)
  (fin:∀it h' d vals,vals.length=es.size->Yb vals (es.toList.map (·.2))->s.heap.objs.size<=it->(∀b o,s.heap.get? b=some o->h'.get? b=some o)->Ng w a es ep t s.heap.objs.size vals it 0 h'->Q (.ref it) { s with heap:=h',drawn:=d }) :
  Qac (Qab prog w) A (Qfd (.ref a)) Q E s:=by
 have hT:s.TypeIs (.ref a) "set":=⟨o,ho,hx.1⟩
 have low:a<s.heap.objs.size:=Jf ho;refine wpAny_pyIter_slot hT F.slot_set_iter (Qav F.slot_set_iter hT qK ?_ (F.args_set_iter_1 _));unfold Builtin.«frozenset.__iter__» Builtin.Frozenset.slot0 slotArgs QdW Builtin.Frozenset.sizeOf setEntries setDrawn setEpoch QfN;simp -iota only [Qdn,Qfv,Y0, ↓reduceIte,bind_assoc,Y6,bne_self_eq_false];dsimp only
 try simp -iota only [bind_assoc,Y0, ↓reduceIte]
 refine be (tz (be (tz (be (QaN ho hd hf (be (tz (be (tz (be (QaN ho hd hf ?_)))))))))));refine be (Qbd (be (tz (be (tz ?_)))));have last:∀(s1:KE) (d:Drawn) (first:Fk) (vals:List Fk),s1.drawn=d->s1.gens=s.gens->s1.toks=s.toks->s1.os=s.os->(∀b o,s.heap.get? b=some o->s1.heap.get? b=some o)->s.heap.objs.size<=s1.heap.objs.size->vals.length=es.size->Yb vals (es.toList.map (·.2)) ->
   (∀h' it,s1.heap.objs.size<=it->(∀b o,s1.heap.get? b=some o->h'.get? b=some o)->IJ w a es ep t s.heap.objs.size 0 h' it first vals) ->
   Qac (Qab prog w) A.in1 (do
    let x <-setState a
    let y <-pure x.2.1
    let z <-newFields "set_iterator" [first,QaW 0,.ref a,QaW es.size,QaW y]
    ret z) (fun fin s'=>∃v,fin = .done (.ret v)/\∃T' r,s'.TypeIs v T'/\Qbs (.type T') (Qaa "__next__")=pure (some r)/\Q v s') E s1:=by
  intro s1 d first vals e1 e2 e3 e4 k1 z1 hl hp so
  refine be (QaN (k1 _ _ ho) hd hf (be (tz ?_)));unfold newFields;refine be (QaQ (tz ?_));refine⟨_,rfl, "set_iterator",_,⟨_,Ji _ rfl,rfl⟩,fz.lookup,?_⟩;have k2:∀b o,s1.heap.get? b=some o->(s1.heap.push { cls := .type "set_iterator",data := .fields [first,QaW 0,.ref a,QaW es.size,QaW ep].toArray }).get? b=some o:=fun b o x=>Jb _ x;have q:=fin s1.heap.objs.size (s1.heap.push { cls := .type "set_iterator",data := .fields [first,QaW 0,.ref a,QaW es.size,QaW ep].toArray }) d vals hl hp z1 (fun b o x=>k2 b o (k1 b o x)) ⟨⟨o,k2 _ _ (k1 _ _ ho),hd⟩,hf,g,Jm (Jt low z1),z1,first,so _ _ (Je _) k2,Ji _ rfl⟩;subst e1;rw[<-e2,<-e3,<-e4] at q;exact q
 have lv:(es.toList.map (·.2)).length=es.size:=by rw[Jc,Ud]
 cases hb:Oz w with
 | true=>
  have vB:w.params.followText "set-order" = true:=hb;refine Qbo ?_;rw[if_neg (by show ¬((!w.params.followText "set-order" && _)=true);rw[vB];exact Jn)];refine be (tz ?_);have pm:=Dw (w.params.setOrder a ep) es;exact last s s.drawn _ _ rfl rfl rfl rfl (fun _ _ x=>x) (Je _) (by rw[Jc,pm.length_eq,Ud]) (pm.map _) fun h' it _ _ =>.text hb
 | false=>
  have vB:w.params.followText "set-order" = false:=hb;refine Qbo ?_;cases hc:(!t.plain&&decide (es.size>1)) with
  | false=>
   rw[if_neg (by show ¬((!w.params.followText "set-order" && (!t.plain&&decide (es.size>1)))=true);rw[vB,hc];exact Jn)];refine be (tz ?_);exact last s s.drawn _ _ rfl rfl rfl rfl (fun _ _ x=>x) (Je _) lv (Yb.refl _) fun h' it _ _ =>.places hb hc (l hb) 0 ⟨Uw _,fun i _ z=>absurd z (Wf _),fun i _ _=>Uw _⟩
  | true=>
   rw[if_pos (by show(!w.params.followText "set-order" && (!t.plain&&decide (es.size>1)))=true;rw[vB,hc];rfl)];refine be (Ao _ _ _ _ Y4 fun ys d hy =>?_);have UU:ys.length=es.size:=by rw[hy.length_eq,Y4]
   refine be (Qcv ?_ (by rw[Jc,UU];exact hz));have rm:Yb (ys.map fun k=>(es.toList.map (·.2)).getD k .none) (es.toList.map (·.2)):=by
    refine(hy.map _).trans ?_;have:(U3 es.size).map (fun k=>(es.toList.map (·.2)).getD k .none)=es.toList.map (·.2):=by
     refine List.ext_getElem (by rw[Jc,Y4,lv]) fun i h1 h2 =>?_;rw[Y1,List.getElem_range,U5,Jd h2];rfl
    rw[this]
   refine last { s with heap:=s.heap.push { cls := .type "tuple",data := .seq (ys.map fun(i:Nat)=>QaW i).toArray },drawn:=d } d _ _ rfl rfl rfl rfl (fun b o x=>Jb _ x) (by show _<=(s.heap.push _).objs.size;rw[Ue];exact Yx _) (by rw[Jc,UU]) rm fun h' it zq k' =>?_;refine .drawn ys hy _ (Je _) ?_ _ 0 (k' _ _ (Ji _ rfl)) rfl;have zq:(s.heap.push { cls := .type "tuple",data := .seq (ys.map fun(i:Nat)=>QaW i).toArray }).objs.size<=it:=zq;rw[Ue] at zq;exact Jm zq
def tU {Q:Array (Int×Fk)->KE->Prop}(b:Oz w=true)(ho:s.heap.get? a=some o)(hd:o.data = .set es ep t)(hf:t.fits es.size=true)(q:Q (QdJ (w.params.setOrder a ep) es) s):Qac (Qab prog w) A (setWalk a) Q E s:=by
 unfold setWalk QfN;have b':w.params.followText "set-order" = true:=b;refine be (QaN ho hd hf (be (be (Qbd (tz ?_)))));refine Qbo ?_;rw[if_pos (show({ program:=(Qab prog w).prog,params:=(Qab prog w).w.params }:Setting).params.followText "set-order" = true from b')];exact be (Qbd (tz q))
def IE {vals:List Fk}{it:Gc}{i:Nat}{v:Fk}{Q:Option Fk->KE->Prop}(st:Ng w a es ep t lo vals it i s.heap)(hv:vals[i]? = some v)
  (fin:∀h',(∀b o,b≠it->s.heap.get? b=some o->h'.get? b=some o)->h'.objs.size=s.heap.objs.size->Ng w a es ep t lo vals it (i+1) h'->Q (some v) { s with heap:=h' }) :
  Qac (Qab prog w) A (QbS (.ref it)) Q E s:=by
 obtain⟨⟨o,ho,hd⟩,hf,g,ne,low,first,so,e⟩:=st;have hT:s.TypeIs (.ref it) "set_iterator":=⟨_,e,rfl⟩
 refine be (QaS (Qao (name:=Qaa "__next__") hT fz (Qav fz hT mi ?_ (oB _))));unfold Builtin.«set_iterator.__next__» slotArgs setEntries setNext QfN;simp -iota only [Qdn,Qfv,Y0, ↓reduceIte,bind_assoc,Y6,bne_self_eq_false];dsimp only
 try simp -iota only [bind_assoc,Y0, ↓reduceIte]
 refine be (tz (be (Qed e rfl ?_)));dsimp only;refine be (QaN ho hd hf (be (tz ?_)));refine Qbo ?_;rw[if_neg (by simp)];cases so with
 | text b=>
  have b':w.params.followText "set-order" = true:=b;refine be (QaN ho hd hf (be (Qbd (be (tz ?_)))));refine be (Qbo ?_);rw[if_pos (show({ program:=(Qab prog w).prog,params:=(Qab prog w).w.params }:Setting).params.followText "set-order" = true from b')];refine Qbo ?_;rw[if_neg (by simp)];refine be (tU b ho hd hf (tz ?_));have hx:((QdJ (w.params.setOrder a ep) es)[(i:Int).toNat]?).map (fun e=>(e.2,(0:Int).toNat))=some (v,0):=by
   rw[Ut,<-U2];rw[Jk] at hv;cases q:(QdJ (w.params.setOrder a ep) es).toList[i]? with
   | none=>rw[q] at hv;cases hv
   | some y=>rw[q] at hv;cases hv;rfl
  rw[hx];refine be (Qai e (by simp) fun h1 e1 s1=>be (Qai (s:={ s with heap:=h1 }) e1 (by simp) fun h2 e2 s2 =>?_));refine tz ⟨_,rfl,tz (fin h2 (fun b o nb x=>s2.extBut b o nb (s1.extBut b o nb x)) (s2.1.trans s1.1) ⟨⟨o,s2.extBut _ _ ne (s1.extBut _ _ ne ho),hd⟩,hf,g,ne,low,_,.text b,?_⟩)⟩;simpa [QaW] using e2
 | places b d l z c=>
  have b':w.params.followText "set-order" = false:=b;have hps:t.place.size=es.size:=by
   have:=hf;simp only[SetTable.fits,Js,beq_iff_eq] at this;exact this.1
  have hi:i<es.size:=by
   have:=(Jq.mp hv).1;rwa[Jc,Ud] at this
  refine be (QaN ho hd hf (be (Qbd (be (tz ?_)))));refine be (Qbo ?_);rw[if_neg (by show ¬(w.params.followText "set-order" = true);rw[b'];exact Jn)];refine Qbo ?_;rw[if_neg (by show ¬((!t.plain&&decide (es.size>1))=true);rw[d];exact Jn)];refine be ?_;show Qac _ _ (if (!t.led && !es.isEmpty)=true then Qfm "set:maker-not-led" else pure ()) _ _ _;rw[l];refine tz ?_;have Du:QaI t.place ((z:Int)).toNat=i:=by
   rw[Ut];have c2:=ig g.2 z;have h1:¬QaI t.place z<i:=fun q=>by
    have hs:QaI t.place z<t.place.size:=by lia
    have:=c2.hi _ hs (Je _);have:=c.lo _ hs q;lia
   have h2:¬i<QaI t.place z:=fun q=>by
    have hs:i<t.place.size:=by lia
    have:=c2.lo _ hs q;have:=c.hi _ hs (Je _);lia
   lia
  refine tz ?_;dsimp only;rw[Du,J2 hi,J2 (show i<t.place.size by lia)];have UP:es[i].2=v:=by
   rw[Jk,U2,J2 hi] at hv
   injection hv
  dsimp only;rw[UP];refine be (Qai e (by simp) fun h1 e1 s1=>be (Qai (s:={ s with heap:=h1 }) e1 (by simp) fun h2 e2 s2 =>?_));refine tz ⟨_,rfl,tz (fin h2 (fun b o nb x=>s2.extBut b o nb (s1.extBut b o nb x)) (s2.1.trans s1.1) ⟨⟨o,s2.extBut _ _ ne (s1.extBut _ _ ne ho),hd⟩,hf,g,ne,low,_,.places b d l (t.place[i]+1) ?_,?_⟩)⟩
  ·have c3:=ig g.2 (t.place[i]+1);rw[Cut.next g.2 ⋯ c3] at c3;exact c3
  ·simpa [QaW] using e2
 | drawn ys p tp tl nt ot n et dt=>
  dsimp only;unfold seqItems?;refine be (be (QeB et ?_));rw[dt];refine tz ?_;dsimp only;rw[Jk] at hv;cases hy:ys[i]? with
  | none=>rw[hy] at hv;cases hv
  | some y=>
   rw[hy] at hv
   injection hv with hv
   have hyr:y<es.size:=List.mem_range.mp (p.mem_iff.mp (Jy hy));have m7:(ys.map fun(k:Nat)=>QaW k).toArray[(i:Int).toNat]? = some (QaW y):=by
    rw[Ut,Qcs,Jk,hy];rfl
   rw[m7];have EZ:es[y].2=v:=by
    rw[<-hv];dsimp only;rw[U5,Jk,U2,J2 hyr];rfl
   show Qac _ _ (setNextDrawn a ((y:Int)).toNat ((ep:Int)).toNat >>= _) _ _ _;rw[Ut,Ut];unfold setNextDrawn;refine be (be (QaN ho hd hf ?_));dsimp only;refine Qbo ?_;rw[if_neg (by simp),J2 hyr];refine tz ?_;show Qac _ _ (setField (.ref it) 1 (QaW ((i:Int)+1)) >>= fun _=>ret es[y].2) _ _ _;rw[EZ];refine be (Qai e (by simp) fun h1 e1 s1 =>?_);refine tz ⟨_,rfl,tz (fin h1 (fun b o nb x=>s1.extBut b o nb x) s1.1 ⟨⟨o,s1.extBut _ _ ne ho,hd⟩,hf,g,ne,low,_,.drawn ys p tp tl nt ot n (s1.extBut _ _ nt et) dt,?_⟩)⟩;simpa [QaW] using e1
def GX {vals:List Fk}{it:Gc}{Q:Option Fk->KE->Prop}(hh:A.handled=none)(st:Ng w a es ep t lo vals it es.size s.heap)(hl:vals.length=es.size)
  (fin:∀h',(∀b o,b≠it->s.heap.get? b=some o->h'.get? b=some o)->Q none { s with heap:=h' }) :
  Qac (Qab prog w) A (QbS (.ref it)) Q E s:=by
 obtain⟨⟨o,ho,hd⟩,hf,g,ne,low,first,so,e⟩:=st;have hT:s.TypeIs (.ref it) "set_iterator":=⟨_,e,rfl⟩
 refine be (QaS (Qao (name:=Qaa "__next__") hT fz (Qav fz hT mi ?_ (oB _))));unfold Builtin.«set_iterator.__next__» slotArgs setEntries setNext QfN;simp -iota only [Qdn,Qfv,Y0, ↓reduceIte,bind_assoc,Y6,bne_self_eq_false];dsimp only
 try simp -iota only [bind_assoc,Y0, ↓reduceIte]
 refine be (tz (be (Qed e rfl ?_)));dsimp only;refine be (QaN ho hd hf (be (tz ?_)));refine Qbo ?_;rw[if_neg (by simp)];cases so with
 | text b=>
  have b':w.params.followText "set-order" = true:=b;refine be (QaN ho hd hf (be (Qbd (be (tz ?_)))));refine be (Qbo ?_);rw[if_pos (show({ program:=(Qab prog w).prog,params:=(Qab prog w).w.params }:Setting).params.followText "set-order" = true from b')];refine Qbo ?_;rw[if_neg (by simp)];refine be (tU b ho hd hf (tz ?_));have hx:((QdJ (w.params.setOrder a ep) es)[(es.size:Int).toNat]?).map (fun e=>(e.2,(0:Int).toNat))=none:=by
   have:(QdJ (w.params.setOrder a ep) es).size=es.size:=by rw[<-hl,Jc,Ud]
   rw[Ut,Ur ⋯];rfl
  rw[hx];refine be (Qai e (by simp) fun h1 e1 s1 =>?_)
  wp_walk
  refine Qa7 hh (be (QaE (T := "StopIteration") (b:=true) ⟨_,Ji _ rfl,rfl⟩ Qbt (tz (fin _ fun b o nb x =>?_))));exact Jb _ (Jb _ (s1.extBut b o nb x))
 | places b d l z c=>
  have b':w.params.followText "set-order" = false:=b;have hps:t.place.size=es.size:=by
   have:=hf;simp only[SetTable.fits,Js,beq_iff_eq] at this;exact this.1
  refine be (QaN ho hd hf (be (Qbd (be (tz ?_)))));refine be (Qbo ?_);rw[if_neg (by show ¬(w.params.followText "set-order" = true);rw[b'];exact Jn)];refine Qbo ?_;rw[if_neg (by show ¬((!t.plain&&decide (es.size>1))=true);rw[d];exact Jn)];refine be ?_;show Qac _ _ (if (!t.led && !es.isEmpty)=true then Qfm "set:maker-not-led" else pure ()) _ _ _;rw[l];refine tz ?_;have Du:es.size<=QaI t.place ((z:Int)).toNat:=by
   rw[Ut];have c2:=ig g.2 z;refine Nat.not_lt.mp fun q =>?_;have hs:QaI t.place z<t.place.size:=by lia
   have:=c2.hi _ hs (Je _);have:=c.lo _ hs q;lia
  refine tz ?_;dsimp only;rw[Ur Du];dsimp only;refine be (Qai e (by simp) fun h1 e1 s1 =>?_)
  wp_walk
  refine Qa7 hh (be (QaE (T := "StopIteration") (b:=true) ⟨_,Ji _ rfl,rfl⟩ Qbt (tz (fin _ fun b o nb x =>?_))));exact Jb _ (Jb _ (s1.extBut b o nb x))
 | drawn ys p tp tl nt ot n et dt=>
  dsimp only;unfold seqItems?;refine be (be (QeB et ?_));rw[dt];refine tz ?_;dsimp only;have UU:ys.length=es.size:=by rw[p.length_eq,Y4]
  have m7:(ys.map fun(k:Nat)=>QaW k).toArray[(es.size:Int).toNat]? = none:=by
   rw[Ut,Ur (by rw[Ju,Jc,UU];exact Je _)]
  rw[m7];refine be (Qai e (by simp) fun h0 e0 s0=>be (Qai (s:={ s with heap:=h0 }) e0 (by simp) fun h1 e1 s1 =>?_))
  wp_walk
  refine Qa7 hh (be (QaE (T := "StopIteration") (b:=true) ⟨_,Ji _ rfl,rfl⟩ Qbt (tz (fin _ fun b o nb x =>?_))));exact Jb _ (Jb _ (s1.extBut b o nb (s0.extBut b o nb x)))
end
section
variable {prog:Qaf}{w:Qah}{a:Gc}{es:Array (Int×Fk)}{ep:Nat}{t:QcO}{lo:Nat}
def Ia {A:Qax}{it S:Gc}{vals:List Fk}(hh:A.handled=none)(hl:vals.length=es.size)(n1:it≠S)(n2:a≠S)(hS:S<lo):
  HN prog w A it S (· = it) es.size (fun i v _=>vals[i]? = some v) (fun _ _=>True) (fun i h=>Ng w a es ep t lo vals it i h) where
 sfp:=fun z=>n1 z.symm
 item:=fun i s Q E hi st _ q=>IE st (v:=vals[i]) (Jd ⋯) fun h' k' z' st'=>q _ h' s.toks (fun b o nb x=>k' b o nb x) st' (Jd ⋯) fun _ _ _=>trivial
 stop:=fun s Q E st _ q=>GX hh st hl fun h' k'=>q h' s.toks fun b o nb x=>k' b o nb x
 keepS:=fun i h h' st k=>st.keep fun b o e hb=>k b o (fun z=>by
  rcases hb with rfl|hb
  ·exact n2 z
  ·subst z;exact absurd hS (Nat.not_lt.mpr hb)) e
 keepP:=fun j v h h' p k=>p
def KC:isSubtype (.type "set") (.type "set")=pure true:=by
 first|rfl|decide|(unfold isSubtype;rfl)
def Bk {A:Qax}{S:Gc}{o:Obj}(hh:A.in1.handled=none){s:KE}{Z:Qb4->KE->Prop}{res:Fk}{c0:Nat}(ho:s.heap.get? a=some o)(hx:o.ExactSet)(hd:o.data = .set es ep t)(hf:t.fits es.size=true)(g:dF t)(l:Oz w=false->t.led=true)(hz:es.size<=Wp)
  (haS:a≠S) (hS:s.heap.get? S=some { cls := .type "list",data := .seq #[] c0 })
  (fin:∀h' tk d acc c vals,Keeps s.heap h' (· = S)->vals.length=es.size->Yb vals (es.toList.map (·.2))->oI h' S es.size (fun i v _=>vals[i]? = some v) (fun _ _=>True) acc c->Z (.ok (.ret res)) { s with heap:=h',toks:=tk,drawn:=d }) :
  Qac (Qab prog w) A.in1 (Qbb (.ref S) (.ref a) res) (p8 prog w A Z) (fun e s'=>Z (.error e) s') s:=by
 have hT:s.TypeIs (.ref a) "set":=⟨o,ho,hx.1⟩
 have zj:Qa5 (.ref S) (.ref a)=false:=by simp[Qa5,QaA haS]
 have low:=Jf hS;unfold Qbb;refine be (QaY hT ?_);simp only[zj,show(Qa3 "set" == Qa3 "list")=false by decide,show(Qa3 "set" == Qa3 "tuple")=false by decide,Qd9,Y0,if_false];refine be (GZ ho hx hd hf g l hz fun it h1 d vals hl hp zq k1 xf =>?_);have FL:Qa2 { s with heap:=h1,drawn:=d } (.ref a) "set":=⟨o,k1 _ _ ho,hx.1⟩
 have hint:∀(Q:Bool->KE->Prop),Q false { s with heap:=h1,drawn:=d } -> Qac (Qab prog w) A.in1 (QbC (.ref a)) Q (fun e s'=>Z (.error e) s') { s with heap:=h1,drawn:=d }:=fun Q q=>by
  unfold QbC;refine be (QcW FL F.slot_set_len.lookup ?_);refine be (QaE (T := "set") (b:=true) FL KC ?_);refine Qbj (fun z=>absurd z ∅) fun _=>Qbj (fun _ =>?_) fun z=>absurd (show _=true by decide +kernel) z;exact be (QaY FL (tz q))
 refine be (Qak (hint _ ?_));have nC:=k1 _ _ hS;have nS:it≠S:=fun z=>by subst z;exact absurd low (Nat.not_lt.mpr zq)
 have go:∀(h:Heap) (c tk:Nat),Keeps h1 h (· = S)->h.get? S=some { cls := .type "list",data := .seq #[] c } -> QaZ (Qab prog w) A (.builtin "list.extend.loop" ⟨[.ref S,.ref it,res],[]⟩) Z { s with heap:=h,toks:=tk,drawn:=d }:=fun h c tk k ob=>by
  have Fd:=Ia (prog:=prog) (w:=w) (ep:=ep) (t:=t) (vals:=vals) (A:=A.in1) hh hl nS haS low;refine lM Fd hz (s:={ s with drawn:=d }) (g:=h1) (fun h' tk acc c k' G=>fin h' tk d acc c vals (fun b o nb q=>k' b o (fun z=>z.elim (fun z=>by subst z;exact absurd (Jf q) (Nat.not_lt.mpr zq)) nb) (k1 b o q)) hl hp G) es.size 0 h tk #[] c ⋯ (Fd.keepS _ _ _ xf k) ⟨ob,rfl,.nil,fun j v e=>by simp at e⟩ fun b o nb q=>k b o (fun z=>nb (.inr z)) q
 refine Qbj (fun _ =>?_) fun z=>absurd (show _=true by decide +kernel) z;refine be (Qbr (be ?_));have o1:=J7 (QaH (·.push Qcr)) nC rfl;have o2:=J7 (QaH (·.pop)) o1 rfl;refine be (Qba (s:={ s with heap:=h1,drawn:=d }) nC rfl (Qba (hz:=by seq_fits) o1 rfl (tz ⟨QaX Qa4 _,go _ _ _ (fun b o nb q =>?_) o2⟩)));exact(Ua _ _ (QaA nb)).trans ((Ua _ _ (QaA nb)).trans q)
def yC {A:Qax}{E:Fk->KE->Prop}{o:Obj}(hh:A.handled=none){s:KE}{Q:List Fk->KE->Prop}(ho:s.heap.get? a=some o)(hx:o.ExactSet)(hd:o.data = .set es ep t)(hf:t.fits es.size=true)(g:dF t)(l:Oz w=false->t.led=true)(hz:es.size<=Wp)
  (fin:∀h' tk d vals,s.heap.objs.size<=h'.objs.size->(∀b o,s.heap.get? b=some o->h'.get? b=some o)->Yb vals (es.toList.map (·.2))->Q vals { s with heap:=h',toks:=tk,drawn:=d }):Qac (Qab prog w) A (collect (.ref a)) Q E s:=by
 unfold collect;refine be (wpAny_runValue (QaG PySem.F.entry_proto_collect ?_));rw[QfJ PySem.F.plain_proto_collect _];show Qac _ A.in1 (newList [] >>= fun l=>again (.builtin "list.__iadd__" ⟨[l,.ref a],[]⟩)) _ _ s;refine be (QaQ (tz ⟨QaX Qe5 _,QaG PySem.F.entry_list_iadd ?_⟩));rw[QfJ Qe5 _];have k0:∀b o,s.heap.get? b=some o->(s.heap.push { cls := .type "list",data := .seq ([]:List Fk).toArray }).get? b=some o:=fun b o x=>Jb _ x;refine Bk (s:={ s with heap:=s.heap.push { cls := .type "list",data := .seq ([]:List Fk).toArray } }) (A:=A) (res := .ref s.heap.objs.size)
  (Z:=fun(r:Qb4) s'=>match r with
   | .ok (.ret v)=>Qac (Qab prog w) A (match v with
    | .ref a=>(load a >>= fun o=>match o.data with
     | .seq xs _=>pure xs.toList
     | _=>Qfm "internal:collect")
    | _=>Qfm "internal:collect") Q E s'
   | .ok _=>False
   | .error e=>E e s') hh (k0 _ _ ho) hx hd hf g l hz (Jm (Jf ho)) (Ji _ rfl) fun h' tk d acc c vals k hl hp G =>?_
 refine be (QeB G.ob (tz ?_));have e:acc.toList=vals:=by
  refine List.ext_getElem? fun j =>?_
  by_cases hj:j<acc.size
  ·rw[U2,J2 hj];exact(G.all j _ (J2 hj)).symm
  ·rw[U2,Ur ⋯,Qct (by have:=G.sz;lia)]
 rw[e];exact fin h' tk d vals (Yj (Jf G.ob)) (fun b o x=>k b o (Jm (Jf x)) (k0 b o x)) hp
end
def oA {α:Type}[DecidableEq α]:∀{D ns:List α},D.Nodup->(∀k∈D,k∈ns)->ns.length<=D.length->Yb ns D
 | [],ns,_,_,hl=>by rw[Uy (Nat.le_zero.mp hl)]
 | k::D,ns,nd,sub,hl=>by
  obtain⟨nk,Rk⟩:=U9.mp nd;have hk:=sub k Jo;refine(Qgc hk).trans (Yb.cons k (oA Rk (fun x hx =>?_) ?_))
  ·exact(List.mem_erase_of_ne (fun z=>nk (by rw[<-z];exact hx))).mpr (sub x (Jl _ hx))
  ·rw[Qfs hk];rw[Jr] at hl;lia
def zc:∀{vs:List Fk},(∀v∈vs,∃k t,v = .int k t)->∃ns,Qem vs ns/\∀k,k∈ns ↔ ∃t,QdQ k t∈vs
 | [],_=>⟨[],.nil,fun k=>⟨(nofun),(fun⟨_,h⟩=>nomatch h)⟩⟩
 | v::vs,h=>by
  obtain⟨ns,h1,h2⟩:=zc (vs:=vs) fun u hu=>h u (Jl _ hu);obtain⟨k,t,rfl⟩:=h v Jo;refine⟨k::ns,.cons k t h1,fun j=>⟨fun hj =>?_,fun⟨u,hu⟩=>?_⟩⟩
  ·rcases Jx.mp hj with rfl|hj
   ·exact⟨t,Jo⟩
   ·obtain⟨u,hu⟩:=(h2 j).mp hj;exact⟨u,Jl _ hu⟩
  ·rcases Jx.mp hu with e|hu
   ·cases e;exact Jo
   ·exact Jl _ ((h2 j).mpr ⟨u,hu⟩)
def xI:∀{vs:List Fk} {ns:List Int},Qem vs ns->vs.length=ns.length
 | _,_,.nil=>rfl
 | _,_,.cons _ _ h=>by rw[Jr,Jr,xI h]
def Inv.drawn {X:Cx}{pins:List (Gc×Obj)}{σ:St}{H:Hp}{s:KE}(d:Drawn)(I:Inv X pins σ H s):Inv X pins σ H { s with drawn:=d }:=⟨I.ok,I.os,I.bare,I.base,I.loc,I.cell,I.free,I.freeC,I.pin,I.bq,I.len⟩
def Bv {X:Cx}(hc:X.calm=true):bF X (.builtin "sorted") (fun xs H Q=>∃(a:Gc) (D:List Int),xs=[.ref a]/\H a=some (gJ (C4 X.prog X.w) a D)/\D.Nodup/\D.length<64 /\
  ∀(ms:List Int) (q:Gc) (H':Hp),ms.Perm D->ms.Pairwise (· <= ·)->hW H q (.lst (ms.map V.int)) H'->Q (.ref q) H'):=by
 intro pins s σ H xs us Q I r h;obtain⟨a,D,rfl,ha,nd,hl,q⟩:=h;obtain⟨u,rfl,ru⟩:=vals1 r;cases ru;obtain⟨HK,o',FO,ep',t',yx,FI,g',l'⟩:=(show bw X.prog X.w H s.heap a (gJ (C4 X.prog X.w) a D) from I.bq a _ ha).1;obtain⟨o,es,ep,t,ho,ex,hd,el,mem,bnd,fit,len⟩:=id HK;obtain⟨g,l⟩:dF t/\(X.w.params.followText "set-order" = false->t.led=true):=by
  rw[ho] at yx;cases yx;rw[hd] at FI;cases FI;exact⟨g',l'⟩
 refine Qfb kind_sorted plain_sorted entry_sorted (args_sorted1 _) ?_;unfold Builtin.«sorted»;refine be (m:=checkCount "sorted" 1 1 _) (tz ?_);refine be (yC (A:=X.A.in1) (show X.A.in1.handled=none from I.ok.hd hc) ho ex hd fit g l (QeP bnd) fun h1 tk d vals hle k1 pm =>?_);have hv:∀v∈vals,∃k t,v = .int k t:=fun v hv=>by
  obtain⟨e,he,rfl⟩:=Uu.mp (pm.mem_iff.mp hv);obtain⟨⟨k,hk,_⟩,_⟩:=el e he;obtain⟨t,ht⟩:=Qc5 hk;exact⟨k,t,ht⟩
 obtain⟨ns,hI,IW⟩:=zc hv;have hlen:vals.length=D.length:=by rw[pm.length_eq,Jc,Ud,len]
 have hnl:=xI hI;have pD:Yb ns D:=oA nd (fun k hk=>by
  obtain⟨e,he,h2⟩:=(mem k).mp (decide_eq_true hk);obtain⟨t,ht⟩:=Qc5 h2;exact(IW k).mpr ⟨t,by rw[<-ht];exact pm.mem_iff.mpr (Uu.mpr ⟨e,he,rfl⟩)⟩) ⋯
 refine be (wpAny_newList ?_ (Jh (show vals.length<=64 by lia) ∅));have ob:(h1.push (Qcy "list" vals.toArray 0)).get? h1.objs.size=some (Qcy "list" vals.toArray 0):=Ji _ rfl;refine be (Qak (Qav slot_list_sort ⟨_,ob,rfl⟩ entry_list_sort (list_sort_tree ob hI ⋯ fun out ms a1 a2 a3=>⟨_,rfl,tz ⟨_,rfl,?_⟩⟩) (args_list_sort _)));obtain⟨e,he⟩:=sortedHeap_at (out:=out) ob;have hm:ms.length=D.length:=(a2.trans pD).length_eq;have hr:=mj a1;have kk:∀b o,s.heap.get? b=some o->(sortedHeap (h1.push (Qcy "list" vals.toArray 0)) h1.objs.size vals out).get? b=some o:=fun b Pa x=>by
  have x1:=k1 b Pa x;rw[sortedHeap_old (Jm (Jf x1)) (by rw[size_push'];exact Qcl (Jf x1)),Heap.get?_push_ne _ _ _ (Jm (Jf x1))];exact x1
 refine⟨.ref h1.objs.size,_,(I.laid (a:=h1.objs.size) (o := .lst (ms.map V.int)) (t':=tk) kk hle ⟨?_,out.toList,e,hr,?_⟩).drawn d,rfl,q ms _ _ (a2.trans pD) a3 ⟨I.bq.fresh hle,rfl⟩⟩
 ·rw[Jc];exact Jh (show ms.length<=64 by lia) ∅
 ·simpa [Qcy] using he
def Lg:Qbs (.type "list") "keys" = pure none:=rfl
def R5:Qbs (.type "list") "__getattr__" = pure none:=rfl
def oq:isSubtype (.type "AttributeError") (.type "AttributeError")=pure true:=rfl
section
variable {prog:Qaf}{w:Qah}{A:Qax}{E:Fk->KE->Prop}{h:Heap}{g:Array QeX}{d:Drawn}{t:Nat}{os:OsState}{a:Gc}{o:Obj}
def Bj {tk:Tok}{Q:Fin->KE->Prop}(hx:h.get? a=some o)(hc:o.cls = .type "list")(rS:o.dict=none){xs:Array Fk}{n:Nat}(hd:o.data = .seq xs n)(hh:A.handled=none)
  (hq:∀e h' t',(∀b o,h.get? b=some o->h'.get? b=some o)->(∃oe,h'.get? e=some oe/\oe.cls = .type "AttributeError")->E (.ref e) ⟨h',g,d,t',os⟩) :
  Qac (Qab prog w) A (Builtin.«object.__getattribute__» ⟨[.ref a,.str "keys" tk],[]⟩) Q E ⟨h,g,d,t,os⟩:=by
 have hT:(⟨h,g,d,t,os⟩:KE).TypeIs (.ref a) "list":=⟨_,hx,hc⟩
 have f4:=Lg
 repeat (any_goals (first|assumption|wp_step))
 rw[hd]
 repeat (any_goals (first|assumption|wp_step))
 rw[rS,hc]
 repeat (any_goals (first|assumption|wp_step))
 have f9:=oq;unfold QfO noteAttr
 wp_walk
 repeat (any_goals (first|assumption|wp_step))
 refine Qa7 hh (hq _ _ _ (fun b o' x =>?_) ⟨_,J7 _ (Ji _ rfl) rfl,rfl⟩);have x1:=Jb { cls:=Qa3 "tuple",data:=Data.seq #[QcK (Qaa (toString "'" ++ toString ((Qdw "list").elim "list" fun x=>x.tpName)++toString "' object has no attribute '")++Qaa "keys" ++ Qaa "'") t] } x;rw[Ua _ _ (Uj (Jf x1))];exact Jb _ x1
def DV {R:Qb4->KE->Prop}(hx:h.get? a=some o)(hc:o.cls = .type "list")(rS:o.dict=none){xs:Array Fk}{n:Nat}(hd:o.data = .seq xs n)(hh:A.handled=none)
  (hq:∀e h' t',(∀b o,h.get? b=some o->h'.get? b=some o)->(∃oe,h'.get? e=some oe/\oe.cls = .type "AttributeError")->R (.error (.ref e)) ⟨h',g,d,t',os⟩) :
  QaZ (Qab prog w) A (.call (.builtin "list.__getattribute__") ⟨[.ref a,.str "keys" tk],[]⟩) R ⟨h,g,d,t,os⟩:=
 Qbf F.slot_list_getattribute.plain F.entry_list_ga (F.slot_list_getattribute.check _ _ _ _ _ _ _ _ (show(⟨h,g,d,t,os⟩:KE).TypeIs (.ref a) "list" from⟨_,hx,hc⟩) (F.args_list_getattribute_2 _ _) (Bj hx hc rS hd hh hq))
def DY (hx:h.get? a=some o)(hc:o.cls = .type "list")(rS:o.dict=none){xs:Array Fk}{n:Nat}(hd:o.data = .seq xs n)(hh:A.handled=none)
  (hq:∀h' t',(∀b o,h.get? b=some o->h'.get? b=some o)->Q none ⟨h',g,d,t',os⟩):Qac (Qab prog w) A (getAttr? (.ref a) "keys") Q E ⟨h,g,d,t,os⟩:=by
 have hT:(⟨h,g,d,t+1,os⟩:KE).TypeIs (.ref a) "list":=⟨_,hx,hc⟩
 have f2:=F.slot_list_getattribute.lookup;have f3:=F.slot_list_getattribute.bind (.ref a);have f4:=R5
 repeat (any_goals (first|assumption|wp_step))
 refine DV hx hc rS hd hh fun e h' t' k hoe =>?_;have Rv:Qa2 ⟨h',g,d,t',os⟩ (.ref e) "AttributeError":=hoe;have f5:=oq;refine be (QaE Rv f5 ?_)
 repeat (any_goals (first|assumption|wp_step))
 exact hq h' t' k
end
def cC:entryFor table "dict.update.loop" = some Builtin.«dict.update.loop»:=entryFor_of_fast (by kernel_rfl)
def cB:plainId "dict.update.loop" = true:=∅
section
variable {prog:Qaf}{w:Qah}{K:Type}[DecidableEq K]{knd:KeyKind prog w K}{A:Qax}{E:Fk->KE->Prop}
def lC (knd:KeyKind prog w K)(h:Heap)(v:Fk)(kv:K×Fk):Prop:=∃tp o n ku,v = .ref tp/\h.get? tp=some o/\o.cls = .type "tuple" /\ o.data = .seq #[ku,kv.2] n/\knd.is kv.1 ku=true
def p9 {s:KE}{R:Qb4->KE->Prop}{it l d:Gc}{items:Array Fk}{kvs:List (K×Fk)}{g:Heap}(hh:A.in1.handled=none)(hl:g.IsList l items)(hn:items.size=kvs.length)(hz:kvs.length<=100000)
  (hp:∀(j:Nat) v kv,items[j]? = some v->kvs[j]? = some kv->lC knd g v kv) (lit:∀b o,g.get? b=some o->b≠it/\b≠d) (ne:d≠it)
  (fin:∀h tk,(∀b o,b≠d->b≠it->g.get? b=some o->h.get? b=some o)->h.DictOf knd d (Qdc [] kvs)->R (.ok (.ret .none)) { s with heap:=h,toks:=tk }) :
  ∀k i h tk acc,i+k=kvs.length->acc.length<=i->Qdc acc (kvs.drop i)=Qdc [] kvs->(∀b o,b≠d->b≠it->g.get? b=some o->h.get? b=some o)->h.IsListIter it l i->h.DictOf knd d acc ->
   QaZ (Qab prog w) A (.builtin "dict.update.loop" ⟨[.ref d,.ref it,QaW i,.none],[]⟩) R { s with heap:=h,toks:=tk }
 | 0,i,h,tk,acc,hk,ha,hm,kp,hi,hd=>by
  have e:i=kvs.length:=by lia
  subst e;have Dl:h.IsList l items:=by
   obtain⟨o,ho,r⟩:=hl;exact⟨o,kp _ _ (lit _ _ ho).2 (lit _ _ ho).1 ho,r⟩
  refine QaG cC (be (wpAny_pyNext_list_end hh hi Dl (by rw[Ur ⋯]) fun h' eb =>?_));refine be (tz (tz (fin h' tk (fun b o nd ni x=>eb b o ni (kp b o nd ni x)) ?_)));rw[Qdo] at hm;rw[<-hm];obtain⟨o,es,ep,ho,r⟩:=hd;exact⟨o,es,ep,eb _ _ ne ho,r⟩
 | k+1,i,h,tk,acc,hk,ha,hm,kp,hi,hd=>by
  have iC:i<kvs.length:=by lia
  have Dl:h.IsList l items:=by
   obtain⟨o,ho,r⟩:=hl;exact⟨o,kp _ _ (lit _ _ ho).2 (lit _ _ ho).1 ho,r⟩
  have zq:items[i]? = some items[i]:=J2 ⋯;obtain⟨tp,o,n,ku,ev,ho,hc,BC,hkey⟩:=hp i _ _ zq (Jd iC);refine QaG cC (be (wpAny_pyNext_list_item hi Dl zq fun h1 hi1 Ka =>?_));rw[ev];have Nh:=Ka.extBut _ _ (lit _ _ ho).1 (kp _ _ (lit _ _ ho).2 (lit _ _ ho).1 ho);have Le:h1.DictOf knd d acc:=by
   obtain⟨o,es,ep,ho,r⟩:=hd;exact⟨o,es,ep,Ka.extBut _ _ ne ho,r⟩
  have hT:Qa2 { s with heap:=h1,toks:=tk } (.ref tp) "tuple":=⟨o,Nh,hc⟩
  refine be (Qak (be (QfK (be (QaY hT (be (Qau Nh BC (tz (Qak (Qc3 hkey Le (fun h2 Ps sb2=>(tz ⟨QaX cB _,?_⟩)) (Jh (show acc.length<=100000 by lia) ∅)))))))))));have:=p9 hh hl hn hz hp lit ne fin k (i+1) h2 (tk+1) (QeC acc kvs[i].1 kvs[i].2) ⋯ ?_ ?_ (fun b o nd ni x=>sb2.extBut b o nd (Ka.extBut b o ni (kp b o nd ni x))) ?_ Ps
  ·exact this
  ·refine Jh ?_ (Wb ha);unfold QeC
   split
   ·rw[Jc];exact Yx _
   ·rw[Jw];exact Je _
  ·rw[<-hm,QbY iC]
   rfl
  ·obtain⟨oi,e1,r⟩:=hi1;exact⟨oi,sb2.extBut _ _ (QaA ne) e1,r⟩
def BE {Q:Fk->KE->Prop}{l:Gc}{items:Array Fk}{kvs:List (K×Fk)}{ol:Obj}{n:Nat}(hh:A.handled=none)(ho:s.heap.get? l=some ol)(hc:ol.cls = .type "list")(rS:ol.dict=none)(hd:ol.data = .seq items n)(hn:items.size=kvs.length)(hz:kvs.length<=100000)
  (hp:∀(j:Nat) v kv,items[j]? = some v->kvs[j]? = some kv->lC knd s.heap v kv)
  (fin:∀h tk,(∀b o,s.heap.get? b=some o->h.get? b=some o)->h.DictOf knd s.heap.objs.size (Qdc [] kvs)->Q (.ref s.heap.objs.size) { s with heap:=h,toks:=tk }) :
  Qac (Qab prog w) A (call (.type "dict") [.ref l]) Q E s:=by
 refine Qdd (Q₁:=fun obj s₁=>obj = .ref s.heap.objs.size/\s₁={ s with heap:=s.heap.push { cls := .type "dict",data := .dict #[] } }) QeZ (Qd8 _) QeG (Qfe _ ⟨rfl,rfl⟩) ?_;rintro obj s1 ⟨rfl,rfl⟩;have new:(s.heap.push { cls := .type "dict",data := .dict #[] }).DictOf knd s.heap.objs.size []:=Qc6 s.heap;have k0:∀b o,s.heap.get? b=some o->(s.heap.push { cls := .type "dict",data := .dict #[] }).get? b=some o:=fun b o x=>Jb _ x;refine⟨new.typeIs,Qet _ _,(be (be (Qd2 new.typeIs (tz ?_))))⟩;have hT:Qa2 { s with heap:=s.heap.push { cls := .type "dict",data := .dict #[] } } (.ref l) "list":=⟨ol,k0 _ _ ho,hc⟩
 refine be (QaY hT (be (DY (k0 _ _ ho) hc rS hd hh fun h1 t1 k1 =>?_)));have kk:=fun b o x=>k1 b o (k0 b o x);refine be (Qbr (be (Qcu ⟨ol,kk _ _ ho,hc,n,hd⟩ ?_)));have hS:s.heap.objs.size<h1.objs.size:=by
  obtain⟨o,es,ep,e,_⟩:=new;exact Jf (k1 _ _ e)
 refine tz ⟨QaX cB _,?_⟩;have low:∀b o,s.heap.get? b=some o->b≠h1.objs.size/\b≠s.heap.objs.size:=fun b o x=>⟨Jm (Jf (kk b o x)),Jm (Jf x)⟩
 refine p9 (A:=A.in1) hh ⟨ol,ho,hc,n,hd⟩ hn hz hp low (Jm hS) (fun h tk k dd=>⟨rfl,fin h tk (fun b o x=>k b o (low b o x).2 (low b o x).1 x) dd⟩) kvs.length 0 _ _ [] ⋯ (Je _) rfl (fun b o nd ni x=>Jb _ (kk b o x)) ⟨_,Ji _ rfl,rfl,rfl⟩ ?_;obtain⟨o,es,ep,e,r⟩:=new;exact⟨o,es,ep,Jb _ (k1 _ _ e),r⟩
end
section
variable {X:Cx}{pins:List (Gc×Obj)}{σ:St}{H:Hp}{s:KE}
def ud (I:Inv X pins σ H s)(as:List Gc):∀{kvs:List (Key×V)},as.length=kvs.length->(∀(j:Nat) b kv,as[j]? = some b->kvs[j]? = some kv->bG X.K H b [kV kv.1,kv.2]) ->
  ∃vs,KV kvs vs/\∀(j:Nat) b kv,as[j]? = some b->vs[j]? = some kv->lC (bD X.prog X.w) s.heap (.ref b) kv:=by
 induction as with
 | nil=>
  intro kvs hl _;rw[Uy hl.symm];exact⟨[],.nil,fun j b kv h=>by simp at h⟩
 | cons a as ih=>
  intro kvs hl h;cases kvs with
  | nil=>cases hl
  | cons p kvs=>
  obtain⟨vs,h1,h2⟩:=ih (by simpa using hl) fun j b kv e1 e2=>h (j+1) b kv e1 e2;obtain⟨aw,r,⟨o,e1,e2,n,e3⟩,_⟩:=I.tuple (h 0 a p rfl rfl);obtain⟨ku,vu,rfl,r1,r2⟩:=r.two;refine⟨(p.1,vu)::vs,.cons ⟨rfl,r2⟩ h1,fun j b kv e4 e5 =>?_⟩;cases j with
  | zero=>
   cases e4;cases e5;exact⟨a,o,n,ku,rfl,e1,e2,e3,mW r1⟩
  | succ j=>exact h2 j b kv e4 e5
def lB:∀{as:List Gc} {aw:List Fk},Vals (as.map V.ref) aw->aw=as.map Qan
 | [],_,rv=>by cases rv;rfl
 | a::as,_,rv=>by
  obtain⟨v,r,rfl,rv1,rv2⟩:=rv.hd;cases rv1;rw[lB rv2];rfl
def BS (K:Ja)(hc:X.calm=true)(hK:X.K=K:=by rfl):bF X (.type "dict") (fun xs H Q=>∃(p:Gc) (as:List Gc) (kvs:List (Key×V)),xs=[.ref p]/\bA K H p (as.map V.ref)/\as.length=kvs.length/\kvs.length<=100000 /\
  (∀(j:Nat) b kv,as[j]? = some b->kvs[j]? = some kv->bG K H b [kV kv.1,kv.2])/\∀d H',hW H d (.dK (cT [] kvs)) H'->Q (.ref d) H'):=by
 subst hK;intro pins s σ H xs us Q I r h;obtain⟨p,as,kvs,rfl,hp,hl,hz,ht,q⟩:=h;obtain⟨u,rfl,ru⟩:=vals1 r;cases ru;obtain⟨aw,rv,⟨o,n,e1,e2,e3,e4⟩,_⟩:=I.list hp;obtain⟨vs,kv,pa⟩:=ud I _ hl ht;have hits:=lB rv;have kl:=kv.length;refine BE (knd:=bD X.prog X.w) (kvs:=vs) (I.ok.hd hc) e1 e2 e3 e4 (by rw[hits];simp;lia) ⋯ (fun j v kw h1 h2 =>?_) fun h1 tk k1 dd =>?_
 ·rw[hits] at h1;simp only[Qcs,Jk] at h1;cases e:as[j]? with
  | none=>rw[e] at h1;cases h1
  | some b=>rw[e] at h1;cases h1;exact pa j b kw e h2
 ·have ml:=dQ kvs [];exact⟨.ref s.heap.objs.size,_,I.laid (o := .dK (cT [] kvs)) k1 (Je _) ⟨Jh (show _<=100000 by simp at ml;lia) ∅,(beq_eq_false_iff_ne.mpr (Uj I.big)),_,KV.merge kv .nil,dd⟩,rfl,q _ _ ⟨I.bq.fresh (Je _),rfl⟩⟩
end
section
variable {X:Cx}
def KM:OM X "list.remove" (fun x vs H Q=>∃(l:Gc) (xs:List Str) (y:Str),x = .ref l/\vs=[.str y]/\H l=some (.lst (xs.map V.str))/\y∈xs/\∀H',JA H l (.lst ((xs.erase y).map V.str)) H'->Q .non H'):=by
 intro pins s σ H x vs v us Q I rx rv h;obtain⟨l,xs,y,rfl,rfl,hH,hy,q⟩:=h;cases rx;obtain⟨u,rfl,ru⟩:=vals1 rv;obtain⟨t,rfl⟩:=ru;obtain⟨z,aw,n,r,hl,e⟩:=I.yS hH;have hlen:=r.length;rw[Jc] at hlen;obtain⟨j,hj⟩:∃j,j=xs.idxOf y:=⟨_,rfl⟩
 have jl:j<xs.length:=by rw[hj];exact List.idxOf_lt_length_iff.mpr hy
 have jy:xs[j]=y:=by simp only[hj];exact List.getElem_idxOf (by rw[<-hj];exact jl)
 have jn:∀m (hm:m<xs.length),m<j->xs[m]≠y:=fun m hm hmj w=>by
  have:m<List.findIdx (· == y) xs:=by rw[hj] at hmj;exact hmj
  have:=List.not_of_lt_findIdx this;rw[w] at this;simp at this
 let ev:Fk->Bool:=fun u=>match u with | .str a _=>a==y|_=>false
 have at':∀m (hm:m<aw.length),∃t',aw[m] = .str (xs[m]'⋯) t':=fun m hm=>by
  obtain⟨a,h1,h2⟩:=l6 r (i:=m) (v:=aw[m]) (by simp[hm]);rw[Jk,Jd ⋯] at h1;cases h1;exact h2
 refine Qb2 F.slot_list_remove ⟨_,e,rfl⟩ F.entry_list_remove (F.args_list_remove_2 _ _) (MeetsSeq.list_remove l aw.toArray n (.str y t) ev (fun w hw =>?_) j (by rw[Ju];lia) ?_ ?_ (by rw[Ju];lia)) ⟨e,?_⟩
 ·have hw:w∈aw:=by simpa using hw
  obtain⟨i,hi,ew⟩:=Yu.mp hw;obtain⟨t',e'⟩:=at' i hi;rw[<-ew,e'];have z:=SeqRoads2.EqGives.str (xs[i]'⋯) y t' t;rw[show((xs[i]'⋯).cps.toList==y.cps.toList)=((xs[i]'⋯)==y) from by rw[Wd,beq_iff_eq,beq_iff_eq,Array.toList_inj];exact⟨fun q=>by generalize xs[i]'⋯=x at q ⊢;cases x;cases y;simp_all,fun q=>by rw[q]⟩] at z;exact z
 ·obtain⟨t',e'⟩:=at' j ⋯;show ev aw[j]=true;rw[e'];show(xs[j]==y)=true;rw[jy];simp
 ·intro m hm hmj;have BP:m<aw.length:=by rw[Ju] at hm;exact hm
  obtain⟨t',e'⟩:=at' m BP;show ev aw[m]=false;rw[e'];show(xs[m]==y)=false;simpa using jn m ⋯ hmj
 ·have ex:(xs.map V.str).eraseIdx j=(xs.erase y).map V.str:=by
   rw[List.erase_eq_eraseIdx_of_idxOf (i:=j) hj.symm,Yy,Yy,J4,List.map_take,List.map_drop]
  refine⟨.non,_,I.Nk (ys:=(xs.map V.str).eraseIdx j) (its':=aw.eraseIdx j) hH e ?_ (rE j r) (by rw[QdR];split<;>lia),rfl,?_⟩
  ·simp[Array.eraseIdxIfInBounds,show j<aw.length by lia]
  ·exact q _ ⟨by rw[ex]⟩
end
section
variable {M:Model}{A:Qax}{E:Fk->KE->Prop}{s:KE}{env:Env}
variable {nm q:Str}{C N:Gc}{bs bm:List Fk}{hdct:Bool}{sn:List Str}{sub:List Fk}{ab:Bool}{col:Option Bool}{dd:Option Gc}{k0 k1 k2 k3 k5:Option Fk}{newId:String}
def ES (hh:A.handled=none)(hb:bm.contains (.type "BaseException")=true)
  (h:Qac M A (QaL x env) (fun v s1=>∃e o,v = .ref e/\s1.heap.get? C=some (QbL nm q C N bs bm hdct sn sub ab col dd k0 k1 k2 k3 k5 newId)/\s1.heap.get? e=some o/\o.cls = .ref C/\Raw o/\E (.ref e) s1) E s) :
  Qac M A (exec (.Raise (some x) none pos) env) Q E s:=by
 have hcB:(Qan C::bm).contains (.type "BaseException")=true:=by rw[List.contains_cons,hb,Bool.or_true]
 refine be (Qbm (be (be (Qbc h (fun v s1 h1=>be (Qbm (tz ?_))) fun _ _ z=>z))));obtain⟨e,o,rfl,hC,he,hc,⟨t,hd⟩,hE⟩:=h1;obtain⟨oc,od,odt,DD⟩:=o;subst hc hd;obtain⟨hp,g,d,tk,os⟩:=s1
 repeat (first|with_reducible refine Qcw he ?_|with_reducible refine Qcw hC ?_|(with_reducible refine wpAny_isSubtype_exc hC ?_;rw[hcB])|wp_step)
 exact Qa7 hh hE
end
section
variable {P:Qaf}{w:Qah}{K:Ja}{mg:Str->Option Fk}{base:Heap}{N:List Str}{qual:Str}{scope:Qb3}{f:Gc}{cd:Fk}{A:Qax}{outer:List Env}{s0:KE}{H0:Hp}{E:XK}
def L8 (C:Gc)(H0:Hp)(E:XK)(sp:Sp)(t:TA):TS:=fun _ σ H=>IM C sp t σ H fun v H2=>∃e dx,v = .ref e/\H2 e=some (Fp e C dx)/\H0 e=none/\E (.ref C) (some dx) (mF H2 e)
def um {fi C:Gc}{fd:Qad}{ps:List Str}{sp:Sp}{x:Str}{p dj pos:Pos}{a:QaB}{as:List QaB}{t:TA}(M:OQ K C fi)(F:aW P w K mg base d7 k fi fd ps sp)(hr:da (k+1) (A.deeper (QbG qual scope s0.heap.objs.size f cd)))
  (hg:Gl (kS (tj P w base) P w K mg base N qual scope f cd A outer s0 H0 E) x) (hm:mg x=some (.ref C)) (hb:Binds K fd ps []) (ha:PA (kS (tj P w base) P w K mg base N qual scope f cd A outer s0 H0 E) (a::as) t) (oC:(x==("__debug__" : Str))=false:=by decide)
  (he:Qaj (a::as) (QbG qual scope s0.heap.objs.size f cd)=(false,QaL a (QbG qual scope s0.heap.objs.size f cd))::Qaj as (QbG qual scope s0.heap.objs.size f cd):=by rfl) (m7:(QbU dj (Qaj as (QbG qual scope s0.heap.objs.size f cd))).any (·.1)=false:=by rfl) :
  PS (kS (tj P w base) P w K mg base N qual scope f cd A outer s0 H0 E) (.Raise (some (.Call (.Name x p) (a::as) [] dj)) none pos) (L8 C H0 E sp t):=by
 intro pins s σ H D I h;obtain⟨nm,qn,Nn,bs,Db,hdct,sn,sub,ab,col,dd,k0,k1,k2,k3,k5,lk,TL⟩:=id M.cl;refine ES (C:=C) (nm:=nm) (q:=qn) (N:=Nn) (bs:=bs) (bm := .ref Db::eR) (hdct:=hdct) (sn:=sn) (sub:=sub) (ab:=ab) (col:=col) (dd:=dd) (k0:=k0) (k1:=k1) (k2:=k2) (k3:=k3) (k5:=k5) (newId := "ValueError.__new__")
  (I.ok.hd rfl) (by simp[]) (bg (GW (p:=p) M F hr hg hm hb ha rfl oC he m7 s σ H _ I h) fun v s1 ⟨y,H1,I1,ry,e,dx,ey,ee,h0,hE⟩=>?_)
 subst ey;obtain rfl:v=Qan e:=ry;obtain⟨ob,b1,b2,b3,b4⟩:=(show bw P w H1 s1.heap e (Fp e C dx) from I1.bq e _ ee).1;obtain⟨t0,b5⟩:=id b4;have ub:Un (lI outer) [] H0 H1 s0.heap s1.heap:=I1.base;refine⟨e,ob,rfl,I1.iA _ _ lk,b1,b2,b4,Ag I1 b1 ?_ b5 rfl rfl (.inr ⟨_,ee⟩) (by rw[b2,b3];exact hE)⟩;cases z:s0.heap.get? e with
 | none=>rfl
 | some o=>
  have:=ub.free e o z h0 (by simp);rw[ee] at this;cases this
end
section
variable {X:Cx}
def P1 (K:Frag)(to:TE)(f:Str):TE:=fun σ H Q=>to σ H fun x H1=>∃e C dx fs v,x = .ref e/\H1 e=some (mH e (.ref C) (some dx))/\H1 dx=some (.xd fs)/\fs.lookup f=some v/\jF K C/\kG K C f/\((∃i,v = .int i)\/∃z,v = .str z)/\Q v H1
def qy {to:TE}{pos:Pos}(K:Frag)(ho:PE X o to)(hb:Qbn o f X.env (QaL o X.env)=QaL o X.env:=by rfl)(hK:X.K=K:=by rfl):PE X (.Attribute o f pos) (P1 K to f):=by
 subst hK;refine fun pins s σ H Q I h=>Cw hb (bg (ho s σ H _ I h) fun ov s1 hz_=>aj.el hz_ _ ?_);rintro x H1 I1 rx ⟨e,C,dx,fs,v,ex,ee,ed,el,O,S,hv,q⟩;subst ex;obtain rfl:ov=Qan e:=rx;obtain⟨ob,b1,b2,b3,b4⟩:=(show bw X.prog X.w H1 s1.heap e (RB e (.ref C) dx) from I1.bq e _ ee).1;obtain⟨mA,n1,n2⟩:=I1.bq dx _ ed;obtain⟨od,c1,c2⟩:=tQ n1;have hf:=n2 f;rw[el] at hf;cases hm:mA f with
 | none=>rw[hm] at hf;exact hf.elim
 | some u=>
  rw[hm] at hf;have ru:=hf;refine Gw I1.iA O S b1 b2 b3 b4 c1 (by rw[c2,hm]) ?_ ⟨v,H1,I1.tok _,ru,q⟩
  rcases hv with ⟨i,rfl⟩|⟨z,rfl⟩
  ·obtain⟨t,rfl⟩:=ru;rfl
  ·obtain⟨t,rfl⟩:=ru;rfl
def Ie (x:bw P w H h e (mH e (.ref C) dx)):ExcAt e C h:=by
 cases dx with
 | none=>exact x.1
 | some d=>obtain⟨o,a,b,_⟩:=x.1;exact⟨o,a,b⟩
def VB (K:Frag):List V->Hp->VK->Prop:=fun xs H Q=>FC fun e C dx c cv b=>xs=[.ref e,c]/\H e=some (mH e (.ref C) dx)/\jF K C/\SA c=some cv/\kitOne K (.ref C) cv=some b/\Q (.bl b) H
def sQ (K:Frag)(hK:X.K=K:=by rfl):bF X (.builtin "isinstance") (VB K):=by
 subst hK;intro pins s σ H xs us Q I r h;obtain⟨e,C,dx,c,cv,b,rfl,hE,O,hc,hk,q⟩:=h;obtain⟨u,w',rfl,r1,r2⟩:=vals2 r;cases r1;have ew:w'=cv:=by
  cases c<;>simp[SA] at hc
  ·subst hc;cases r2;rfl
  ·subst hc;cases r2;rfl
 subst ew;exact kia_one (Ga O) I.iA (Ie (I.bq e _ hE)) hk (nofun) fun tk=>⟨.bl b,H,I.tok _,rfl,q⟩
end
def VQ {X:Cx}:bF X (.type "int") (fun xs H Q=>∃x n,xs=[.str x]/\PySem.intText? x=some n/\x.length<=640/\Q (.int n) H):=by
 intro pins s σ H xs us Q I r h;obtain⟨x,n,rfl,e,hl,q⟩:=h;obtain⟨u,rfl,t,rfl⟩:=vals1 r;exact KIN.call_text e hl ⟨.int n,H,I.tok _,⟨_,rfl⟩,q⟩
def dg {h h':Heap}{it:Gc}{ty:String}{z:Str}{t:Tok}{i:Nat}(x:h.IsStrIter it ty z t i)(k:∀o,h.get? it=some o->h'.get? it=some o):h'.IsStrIter it ty z t i:=
 let ⟨o,a,r⟩:=x; ⟨o,k o a,r⟩
open Builtin.Str
def lV:∀tk xs,Vals (xs.map V.str) (strValues (numbered tk xs))
 | _,[] =>.nil
 | tk,x::r =>.cons ⟨tk,rfl⟩ (lV (tk+1) r)
section
variable {X:Cx}
def Bm:Kd X "str.split" (fun x vs H Q=>eZ fun a b=>x = .str a/\vs=[.str b]/\b.length≠0/\a.length<=10000000/\(Qcd a b).length<=10000000/\∀p H',hW H p (.lst ((Qcd a b).map V.str)) H'->Q (.ref p) H'):=by
 intro pins s σ H x vs v us Q I rx rv h;obtain⟨a,b,rfl,rfl,hb,ha,hn,q⟩:=h;obtain⟨t,rfl⟩:=rx;obtain⟨u,rfl,t',rfl⟩:=rv.one;have vB:(b.length==0)=false:=by simpa using hb
 have new:∀tk aw,Vals ((Qcd a b).map V.str) aw->EP X pins σ Q (.ref s.heap.objs.size) { s with toks:=tk,heap:=s.heap.push { cls := .type "list",data := .seq aw.toArray } }:=fun tk aw r=>
  ⟨.ref _,_,I.laid (o := .lst ((Qcd a b).map V.str)) (fun _ _ e=>Jb _ e) (Je _) ⟨by rw[Jc];exact Jh hn ∅,aw,0,r,Ji _ rfl⟩,rfl,q _ _ ⟨I.bq.fresh (Je _),rfl⟩⟩
 have self:Qcd a b=[a]->Vals ((Qcd a b).map V.str) [.str a t]:=fun e=>by rw[e];exact .cons ⟨t,rfl⟩ .nil
 by_cases h1:(decide (a.length<b.length)||decide (strKind a<strKind b))=true
 ·exact Qb2 QeY (QdT _ _ _) QeF (Qes _ _) (meets_str_split_cannot_occur a b t t' h1) (new s.toks _ (self (if_pos h1)))
 have M7:=Ye.mpr h1
 by_cases hf:(occurrences a b 0 a.length (a.length+1)).isEmpty=true
 ·exact Qb2 QeY (QdT _ _ _) QeF (Qes _ _) (meets_str_split_not_found a b t t' M7 vB hf) (new s.toks _ (self ((if_neg h1).trans (if_pos hf))))
 have e:Qcd a b=partsBetween a (occurrences a b 0 a.length (a.length+1)) b.length:=(if_neg h1).trans (if_neg hf);refine Qb2 QeY (QdT _ _ _) QeF (Qes _ _) (meets_str_split_sep a b t t' M7 vB (Ye.mpr hf) (Jh ha ∅) (by rw[<-e];exact Jh hn ∅)) (new _ _ ?_);rw[<-e,strsFrom_eq];exact lV _ _
end
section
variable {prog:Qaf}{w:Qah}{A:Qax}{E:Fk->KE->Prop}{s:KE}
def BH {n:Nat}{Q:List Fk->KE->Prop}(ho:s.heap.get? l=some o)(hc:o.cls = .type "tuple")(hd:o.data = .seq vs.toArray n)(hz:vs.length<=Wp)
  (h:Q vs { s with heap:=(s.heap.push (Qcy "list" #[] 0)).update s.heap.objs.size (QaH (· ++ vs.toArray)) }):Qac (Qab prog w) A (collect (.ref l)) Q E s:=by
 have ho2:(s.heap.push (Qcy "list" #[] 0)).get? l=some o:=Jb _ ho;have hn:(s.heap.push (Qcy "list" #[] 0)).get? s.heap.objs.size=some (Qcy "list" #[] 0):=Ji _ rfl;refine be (wpAny_runValue (QaG entry_proto_collect' (be (wpAny_newList (tz ⟨QcV _ ∅,QaG entry_list_iadd' ?_⟩)))));show Qac _ _ (Qbb (.ref s.heap.objs.size) (.ref l) (.ref s.heap.objs.size)) _ _ { s with heap:=s.heap.push (Qcy "list" #[] 0) };refine be (QaY ⟨o,ho2,hc⟩ ?_);rw[if_pos (by simp)];refine be (listItems_at ho2 hd (be (listItems_at hn rfl (be (listUpdate_at hn rfl (tz (be (QeB (get?_update_seq hn _) ?_))) (Uw _) (by rw[Array.size_append,Ju];exact Jh (by show 0+vs.length<=vs.length;lia) (Qer hz)))))));have e:((#[]:Array Fk)++vs.toArray).toList=vs:=by simp
 refine tz ?_;rw[e];exact h
def Ai {n:Nat}{ss:List Str}{Q:Fk->KE->Prop}(ho:s.heap.get? l=some o)(hc:o.cls = .type "tuple")(hd:o.data = .seq vs.toArray n)(hS:StrsAre vs ss)(ze:vs.length<64)
  (h:∀out ms,StrsAre out.toList ms->ms.Perm ss->Qa6 ms=true->Q (.ref (s.heap.objs.size+1)) { s with heap:=sortedAll s.heap vs out }):Qac (Qab prog w) A (call (.builtin "sorted") [.ref l]) Q E s:=by
 have k1:((s.heap.push (Qcy "list" #[] 0)).update s.heap.objs.size (QaH (· ++ vs.toArray))).objs.size=s.heap.objs.size+1:=(Heap.size_update ..).trans (size_push' _ _);have k2:(((s.heap.push (Qcy "list" #[] 0)).update s.heap.objs.size (QaH (· ++ vs.toArray))).push (Qcy "list" vs.toArray 0)).get? _=some (Qcy "list" vs.toArray 0):=Ji _ rfl;refine Qfb kind_sorted plain_sorted entry_sorted (args_sorted1 _) (be (tz (be (BH ho hc hd (Jh (Yj ze) ∅) (be (wpAny_newList ?_))))));rw[k1] at k2;rw[k1];refine be (Qak (Qav slot_list_sort ⟨_,k2,rfl⟩ entry_list_sort (list_sort_treeK strKind_oneLt k2 hS.keysOf (fun v₁ v₂ rest e=>keyKind_strs (by rw[<-e];exact hS)) ze fun st a1 a2=>⟨_,rfl,tz ⟨_,rfl,?_⟩⟩) (args_list_sort _)));obtain⟨ms,h1,h2,h3⟩:=sorted_out_str hS a1 a2;exact h _ ms h1 h2 h3
end
section
variable {X:Cx}(K:Ja)
def Iv (hK:X.K=K:=by rfl):bF X (.builtin "sorted") (fun xs H Q=>∃p ss,xs=[.ref p]/\bG K H p (ss.map V.str)/\ss.length<64 /\
  ∀ms q H',ms.Perm ss->Qa6 ms=true->hW H q (.lst (ms.map V.str)) H'->Q (.ref q) H'):=by
 subst hK;intro pins s σ H xs us Q I r h;obtain⟨p,ss,rfl,hq,hl,q⟩:=h;obtain⟨u,rfl,ru⟩:=vals1 r;cases ru;obtain⟨aw,rv,⟨o,ho,hc,n,hd⟩,hz⟩:=I.tuple hq;have hn:aw.length=ss.length:=by have:=rv.length;rw[Jc] at this;exact this.symm
 refine Ai ho hc hd (iX rv) ⋯ fun out ms a1 a2 a3 =>?_;obtain⟨e,he⟩:=sortedAll_at s.heap aw out;have hm:=a2.length_eq;refine⟨.ref (s.heap.objs.size+1),_,I.laid (o := .lst (ms.map V.str)) (fun _ _=>sortedAll_old) (Yx _) ⟨?_,out.toList,e,mf a1,?_⟩,rfl,q ms _ _ a2 a3 ⟨I.bq.fresh (Yx _),rfl⟩⟩
 ·rw[Jc];exact Jh (show ms.length<=64 by lia) ∅
 ·simpa [Qcy] using he
def xG (hK:X.K=K:=by rfl):bF X (.builtin "sorted") (fun xs H Q=>∃p ss,xs=[.ref p]/\(bA K H p (ss.map V.str)\/bG K H p (ss.map V.str))/\ss.length<64 /\
  ∀ms q H',ms.Perm ss->Qa6 ms=true->hW H q (.lst (ms.map V.str)) H'->Q (.ref q) H'):=by
 intro pins s σ H xs us Q I r h;obtain⟨p,ss,e,hq,hl,q⟩:=h
 rcases hq with hq|hq
 ·exact L2.sortedS K hK s σ H xs us Q I r ⟨p,ss,e,hq,hl,q⟩
 ·exact Iv K hK s σ H xs us Q I r ⟨p,ss,e,hq,hl,q⟩
end
def FU:Qbs (.type "tuple") "keys" = pure none:=rfl
def NI:Qbs (.type "tuple") "__getattr__" = pure none:=by intros;rfl
section
variable {prog:Qaf}{w:Qah}{A:Qax}{E:Fk->KE->Prop}{h:Heap}{g:Array QeX}{d:Drawn}{t:Nat}{os:OsState}{a:Gc}{o:Obj}
def xY {tk:Tok}{Q:Fin->KE->Prop}(hx:h.get? a=some o)(hc:o.cls = .type "tuple")(rS:o.dict=none){xs:Array Fk}{n:Nat}(hd:o.data = .seq xs n)(hh:A.handled=none)
  (hq:∀e h' t',(∀b o,h.get? b=some o->h'.get? b=some o)->(∃oe,h'.get? e=some oe/\oe.cls = .type "AttributeError")->E (.ref e) ⟨h',g,d,t',os⟩) :
  Qac (Qab prog w) A (Builtin.«object.__getattribute__» ⟨[.ref a,.str "keys" tk],[]⟩) Q E ⟨h,g,d,t,os⟩:=by
 have hT:(⟨h,g,d,t,os⟩:KE).TypeIs (.ref a) "tuple":=⟨_,hx,hc⟩
 have f4:=FU
 repeat (any_goals (first|assumption|wp_step))
 rw[hd]
 repeat (any_goals (first|assumption|wp_step))
 rw[rS,hc]
 repeat (any_goals (first|assumption|wp_step))
 have f9:=oq;unfold QfO noteAttr
 wp_walk
 repeat (any_goals (first|assumption|wp_step))
 refine Qa7 hh (hq _ _ _ (fun b o' x =>?_) ⟨_,J7 _ (Ji _ rfl) rfl,rfl⟩);have x1:=Jb { cls:=Qa3 "tuple",data:=Data.seq #[QcK (Qaa (toString "'" ++ toString ((Qdw "tuple").elim "tuple" fun x=>x.tpName)++toString "' object has no attribute '")++Qaa "keys" ++ Qaa "'") t] } x;rw[Ua _ _ (Uj (Jf x1))];exact Jb _ x1
def Be {R:Qb4->KE->Prop}(hx:h.get? a=some o)(hc:o.cls = .type "tuple")(rS:o.dict=none){xs:Array Fk}{n:Nat}(hd:o.data = .seq xs n)(hh:A.handled=none)
  (hq:∀e h' t',(∀b o,h.get? b=some o->h'.get? b=some o)->(∃oe,h'.get? e=some oe/\oe.cls = .type "AttributeError")->R (.error (.ref e)) ⟨h',g,d,t',os⟩) :
  QaZ (Qab prog w) A (.call (.builtin "tuple.__getattribute__") ⟨[.ref a,.str "keys" tk],[]⟩) R ⟨h,g,d,t,os⟩:=
 Qbf F.slot_tuple_getattribute.plain F.entry_tuple_ga (F.slot_tuple_getattribute.check _ _ _ _ _ _ _ _ (show(⟨h,g,d,t,os⟩:KE).TypeIs (.ref a) "tuple" from⟨_,hx,hc⟩) (F.args_tuple_getattribute_2 _ _) (xY hx hc rS hd hh hq))
def AI (hx:h.get? a=some o)(hc:o.cls = .type "tuple")(rS:o.dict=none){xs:Array Fk}{n:Nat}(hd:o.data = .seq xs n)(hh:A.handled=none)
  (hq:∀h' t',(∀b o,h.get? b=some o->h'.get? b=some o)->Q none ⟨h',g,d,t',os⟩):Qac (Qab prog w) A (getAttr? (.ref a) "keys") Q E ⟨h,g,d,t,os⟩:=by
 have hT:(⟨h,g,d,t+1,os⟩:KE).TypeIs (.ref a) "tuple":=⟨_,hx,hc⟩
 have f2:=F.slot_tuple_getattribute.lookup;have f3:=F.slot_tuple_getattribute.bind (.ref a);have f4:=NI
 repeat (any_goals (first|assumption|wp_step))
 refine Be hx hc rS hd hh fun e h' t' k hoe =>?_;have Rv:Qa2 ⟨h',g,d,t',os⟩ (.ref e) "AttributeError":=hoe;have f5:=oq;refine be (QaE Rv f5 ?_)
 repeat (any_goals (first|assumption|wp_step))
 exact hq h' t' k
end
section
variable {prog:Qaf}{w:Qah}{K:Type}[DecidableEq K]{knd:KeyKind prog w K}{A:Qax}{E:Fk->KE->Prop}
def oQ {s:KE}{R:Qb4->KE->Prop}{it l d:Gc}{items:Array Fk}{kvs:List (K×Fk)}{g:Heap}(hh:A.in1.handled=none)(hl:g.IsTuple l items)(hn:items.size=kvs.length)(hz:kvs.length<=100000)
  (hp:∀(j:Nat) v kv,items[j]? = some v->kvs[j]? = some kv->lC knd g v kv) (lit:∀b o,g.get? b=some o->b≠it/\b≠d) (ne:d≠it)
  (fin:∀h tk,(∀b o,b≠d->b≠it->g.get? b=some o->h.get? b=some o)->h.DictOf knd d (Qdc [] kvs)->R (.ok (.ret .none)) { s with heap:=h,toks:=tk }) :
  ∀k i h tk acc,i+k=kvs.length->acc.length<=i->Qdc acc (kvs.drop i)=Qdc [] kvs->(∀b o,b≠d->b≠it->g.get? b=some o->h.get? b=some o)->h.IsTupleIter it l i->h.DictOf knd d acc ->
   QaZ (Qab prog w) A (.builtin "dict.update.loop" ⟨[.ref d,.ref it,QaW i,.none],[]⟩) R { s with heap:=h,toks:=tk }
 | 0,i,h,tk,acc,hk,ha,hm,kp,hi,hd=>by
  have e:i=kvs.length:=by lia
  subst e;have Dl:h.IsTuple l items:=by
   obtain⟨o,ho,r⟩:=hl;exact⟨o,kp _ _ (lit _ _ ho).2 (lit _ _ ho).1 ho,r⟩
  refine QaG cC (be (wpAny_pyNext_tuple_end hh hi Dl (by rw[Ur ⋯]) fun h' eb =>?_));refine be (tz (tz (fin h' tk (fun b o nd ni x=>eb b o ni (kp b o nd ni x)) ?_)));rw[Qdo] at hm;rw[<-hm];obtain⟨o,es,ep,ho,r⟩:=hd;exact⟨o,es,ep,eb _ _ ne ho,r⟩
 | k+1,i,h,tk,acc,hk,ha,hm,kp,hi,hd=>by
  have iC:i<kvs.length:=by lia
  have Dl:h.IsTuple l items:=by
   obtain⟨o,ho,r⟩:=hl;exact⟨o,kp _ _ (lit _ _ ho).2 (lit _ _ ho).1 ho,r⟩
  have zq:items[i]? = some items[i]:=J2 ⋯;obtain⟨tp,o,n,ku,ev,ho,hc,BC,hkey⟩:=hp i _ _ zq (Jd iC);refine QaG cC (be (wpAny_pyNext_tuple_item hi Dl zq fun h1 hi1 Ka =>?_));rw[ev];have Nh:=Ka.extBut _ _ (lit _ _ ho).1 (kp _ _ (lit _ _ ho).2 (lit _ _ ho).1 ho);have Le:h1.DictOf knd d acc:=by
   obtain⟨o,es,ep,ho,r⟩:=hd;exact⟨o,es,ep,Ka.extBut _ _ ne ho,r⟩
  have hT:Qa2 { s with heap:=h1,toks:=tk } (.ref tp) "tuple":=⟨o,Nh,hc⟩
  refine be (Qak (be (QfK (be (QaY hT (be (Qau Nh BC (tz (Qak (Qc3 hkey Le (fun h2 Ps sb2=>(tz ⟨QaX cB _,?_⟩)) (Jh (show acc.length<=100000 by lia) ∅)))))))))));have:=oQ hh hl hn hz hp lit ne fin k (i+1) h2 (tk+1) (QeC acc kvs[i].1 kvs[i].2) ⋯ ?_ ?_ (fun b o nd ni x=>sb2.extBut b o nd (Ka.extBut b o ni (kp b o nd ni x))) ?_ Ps
  ·exact this
  ·refine Jh ?_ (Wb ha);unfold QeC
   split
   ·rw[Jc];exact Yx _
   ·rw[Jw];exact Je _
  ·rw[<-hm,QbY iC]
   rfl
  ·obtain⟨oi,e1,r⟩:=hi1;exact⟨oi,sb2.extBut _ _ (QaA ne) e1,r⟩
def yQ {Q:Fk->KE->Prop}{l:Gc}{items:Array Fk}{kvs:List (K×Fk)}{ol:Obj}{n:Nat}(hh:A.handled=none)(ho:s.heap.get? l=some ol)(hc:ol.cls = .type "tuple")(rS:ol.dict=none)(hd:ol.data = .seq items n)(hn:items.size=kvs.length)(hz:kvs.length<=100000)
  (hp:∀(j:Nat) v kv,items[j]? = some v->kvs[j]? = some kv->lC knd s.heap v kv)
  (fin:∀h tk,(∀b o,s.heap.get? b=some o->h.get? b=some o)->h.DictOf knd s.heap.objs.size (Qdc [] kvs)->Q (.ref s.heap.objs.size) { s with heap:=h,toks:=tk }) :
  Qac (Qab prog w) A (call (.type "dict") [.ref l]) Q E s:=by
 refine Qdd (Q₁:=fun obj s₁=>obj = .ref s.heap.objs.size/\s₁={ s with heap:=s.heap.push { cls := .type "dict",data := .dict #[] } }) QeZ (Qd8 _) QeG (Qfe _ ⟨rfl,rfl⟩) ?_;rintro obj s1 ⟨rfl,rfl⟩;have new:(s.heap.push { cls := .type "dict",data := .dict #[] }).DictOf knd s.heap.objs.size []:=Qc6 s.heap;have k0:∀b o,s.heap.get? b=some o->(s.heap.push { cls := .type "dict",data := .dict #[] }).get? b=some o:=fun b o x=>Jb _ x;refine⟨new.typeIs,Qet _ _,(be (be (Qd2 new.typeIs (tz ?_))))⟩;have hT:Qa2 { s with heap:=s.heap.push { cls := .type "dict",data := .dict #[] } } (.ref l) "tuple":=⟨ol,k0 _ _ ho,hc⟩
 refine be (QaY hT (be (AI (k0 _ _ ho) hc rS hd hh fun h1 t1 k1 =>?_)));have kk:=fun b o x=>k1 b o (k0 b o x);refine be (Qbr (be (QeA ⟨ol,kk _ _ ho,hc,n,hd⟩ ?_)));have hS:s.heap.objs.size<h1.objs.size:=by
  obtain⟨o,es,ep,e,_⟩:=new;exact Jf (k1 _ _ e)
 refine tz ⟨QaX cB _,?_⟩;have low:∀b o,s.heap.get? b=some o->b≠h1.objs.size/\b≠s.heap.objs.size:=fun b o x=>⟨Jm (Jf (kk b o x)),Jm (Jf x)⟩
 refine oQ (A:=A.in1) hh ⟨ol,ho,hc,n,hd⟩ hn hz hp low (Jm hS) (fun h tk k dd=>⟨rfl,fin h tk (fun b o x=>k b o (low b o x).2 (low b o x).1 x) dd⟩) kvs.length 0 _ _ [] ⋯ (Je _) rfl (fun b o nd ni x=>Jb _ (kk b o x)) ⟨_,Ji _ rfl,rfl,rfl⟩ ?_;obtain⟨o,es,ep,e,r⟩:=new;exact⟨o,es,ep,Jb _ (k1 _ _ e),r⟩
end
section
variable {X:Cx}{pins:List (Gc×Obj)}{σ:St}{H:Hp}{s:KE}
def Pc (K:Ja)(hc:X.calm=true)(hK:X.K=K:=by rfl):bF X (.type "dict") (fun xs H Q=>∃(p:Gc) (as:List Gc) (kvs:List (Key×V)),xs=[.ref p]/\bG K H p (as.map V.ref)/\as.length=kvs.length/\kvs.length<=100000 /\
  (∀(j:Nat) b kv,as[j]? = some b->kvs[j]? = some kv->bG K H b [kV kv.1,kv.2])/\∀d H',hW H d (.dK (cT [] kvs)) H'->Q (.ref d) H'):=by
 subst hK;intro pins s σ H xs us Q I r h;obtain⟨p,as,kvs,rfl,hp,hl,hz,ht,q⟩:=h;obtain⟨u,rfl,ru⟩:=vals1 r;cases ru;obtain⟨aw,rv,⟨o,e1,e3,e2,n,e4⟩,_⟩:=I.nY hp;obtain⟨vs,kv,pa⟩:=ud I _ hl ht;have hits:=lB rv;have kl:=kv.length;refine yQ (knd:=bD X.prog X.w) (kvs:=vs) (I.ok.hd hc) e1 e2 e3 e4 (by rw[hits];simp;lia) ⋯ (fun j v kw h1 h2 =>?_) fun h1 tk k1 dd =>?_
 ·rw[hits] at h1;simp only[Qcs,Jk] at h1;cases e:as[j]? with
  | none=>rw[e] at h1;cases h1
  | some b=>rw[e] at h1;cases h1;exact pa j b kw e h2
 ·have ml:=dQ kvs [];exact⟨.ref s.heap.objs.size,_,I.laid (o := .dK (cT [] kvs)) k1 (Je _) ⟨Jh (show _<=100000 by simp at ml;lia) ∅,(beq_eq_false_iff_ne.mpr (Uj I.big)),_,KV.merge kv .nil,dd⟩,rfl,q _ _ ⟨I.bq.fresh (Je _),rfl⟩⟩
def vW (K:Ja)(hc:X.calm=true)(hK:X.K=K:=by rfl):bF X (.type "dict") (fun xs H Q=>∃(p:Gc) (as:List Gc) (kvs:List (Key×V)),xs=[.ref p]/\(bA K H p (as.map V.ref)\/bG K H p (as.map V.ref))/\as.length=kvs.length/\kvs.length<=100000 /\
  (∀(j:Nat) b kv,as[j]? = some b->kvs[j]? = some kv->bG K H b [kV kv.1,kv.2])/\∀d H',hW H d (.dK (cT [] kvs)) H'->Q (.ref d) H'):=by
 intro pins s σ H xs us Q I r h;obtain⟨p,as,kvs,e,hp,hl⟩:=h
 rcases hp with hp|hp
 ·exact BS K hc hK s σ H xs us Q I r ⟨p,as,kvs,e,hp,hl⟩
 ·exact Pc K hc hK s σ H xs us Q I r ⟨p,as,kvs,e,hp,hl⟩
def OO (hc:X.calm=true):bF X (.type "list") (fun xs H Q=>tG fun d es n kvs=>xs=[.ref d]/\CA X.K X.prog X.w d es n kvs/\kvs.length<=1000/\∀p H',hW H p (.lst ((kvs.map (·.1)).map V.str)) H'->Q (.ref p) H'):=by
 intro pins s σ H xs us Q I r h;obtain⟨d,es,n,kvs,rfl,D,ze,q⟩:=h;obtain⟨u,rfl,ru⟩:=vals1 r;cases ru;refine kdl_call (kdl_dict D.ns) (I.ok.hd hc) (D.at I.iA) (Jh ze ∅) fun h' tk acc c k hS items=>⟨.ref s.heap.objs.size,_,I.laid (o := .lst ((kvs.map (·.1)).map V.str)) k (Je _) ⟨by rw[Jc,Jc];exact Jh ze ∅,acc.toList,c,?_,by simpa using hS⟩,rfl,q _ _ ⟨I.bq.fresh (Je _),rfl⟩⟩
 have hi:=fun j v ej=>items.2 j v (by rw[<-U2];exact ej);have hl:acc.toList.length=kvs.length:=by rw[Ud];exact items.1
 generalize acc.toList=aw at hi hl;clear D items q ze
 induction kvs generalizing aw with
 | nil=>rw[Uy hl];exact .nil
 | cons p kvs ih=>
  cases aw with
  | nil=>cases hl
  | cons v aw=>
   refine .cons ?_ (ih aw (fun j u e=>hi (j+1) u e) (Nat.succ.inj hl));obtain⟨k,x,e1,e2⟩:=hi 0 v rfl;cases e1;obtain⟨t,e3⟩:=QdU e2;exact⟨t,e3⟩
end
section
variable {X:Cx}
def sD:∀{xs:List Bool} {aw:List Fk},Vals (xs.map V.bl) aw->aw=xs.map Qbw
 | [],_,h=>by cases h;rfl
 | b::xs,_,h=>by
  cases h with
  | cons r1 r2=>rw[J3,sD r2,show _=Qbw b from r1]
def LL:Fk->Bool
 | .bool b=>b==true
 | _=>false
def PN:OM X "list.count" (fun x vs H Q=>∃(l:Gc) (xs:List Bool),x = .ref l/\vs=[.bl true]/\H l=some (.lst (xs.map V.bl))/\Q (.int (xs.countP (· == true):Nat)) H):=by
 intro pins s σ H x vs v us Q I rx rv h;obtain⟨l,xs,rfl,rfl,hH,q⟩:=h;cases rx;obtain⟨u,rfl,ru⟩:=vals1 rv;cases ru;obtain⟨z,aw,n,r,hl,e⟩:=I.yS hH;obtain rfl:=sD r;refine Qb2 F.slot_list_count ⟨_,e,rfl⟩ F.entry_list_count (F.args_list_count_2 _ _) (SeqAt.list_countAt l _ n none #[] (.bool true) LL) ⟨e,fun w hw =>?_,?_⟩
 ·have hw:w∈xs.map Qbw:=by simpa using hw
  obtain⟨b,_,rfl⟩:=Uu.mp hw;exact Qdh b true
 ·have ec:(xs.map Qbw).toArray.toList.countP LL=xs.countP (· == true):=by
   rw[List.countP_map];rfl
  exact⟨.int _,H,I.tok _,⟨_,by rw[ec]⟩,q⟩
def PH:OM X "list.index" (fun x vs H Q=>∃(l:Gc) (xs:List Bool) (j:Nat),x = .ref l/\vs=[.bl true]/\H l=some (.lst (xs.map V.bl))/\xs[j]? = some true/\(∀m,m<j->xs[m]? ≠ some true)/\Q (.int (j:Nat)) H):=by
 intro pins s σ H x vs v us Q I rx rv h;obtain⟨l,xs,j,rfl,rfl,hH,hj,M6,q⟩:=h;cases rx;obtain⟨u,rfl,ru⟩:=vals1 rv;cases ru;obtain⟨z,aw,n,r,hl,e⟩:=I.yS hH;obtain rfl:=sD r;have jl:=(Jq.mp hj).1;have zl:(xs.map Qbw).toArray.size=xs.length:=by rw[Ju,Jc]
 have hn:=sy;rw[Jc] at z;have at':∀m (hm:m<(xs.map Qbw).toArray.size),LL (xs.map Qbw).toArray[m]=(xs[m]'⋯==true):=fun m hm=>by
  simp only[List.getElem_toArray,Y1];rfl
 refine Qb2 F.slot_list_index ⟨_,e,rfl⟩ F.entry_list_index (F.args_list_index_2 _ _) (SeqAt.list_indexAt l _ n none #[] (.bool true) LL j ⋯ ⋯ ?_ ?_) ⟨e,fun w hw =>?_,?_⟩
 ·rw[at' j ⋯,(Jq.mp hj).2];rfl
 ·intro m hm hmj;rw[at' m hm];have:=M6 m hmj;rw[Jd ⋯] at this;cases ev:xs[m]'⋯ with
  | false=>rfl
  | true=>rw[ev] at this;exact absurd rfl this
 ·have hw:w∈xs.map Qbw:=by simpa using hw
  obtain⟨b,_,rfl⟩:=Uu.mp hw;exact Qdh b true
 ·exact⟨.int _,H,I.tok _,⟨_,rfl⟩,q⟩
end
def Hz:Qbs (.type "zip") "keys" = pure none:=by intros;rfl
def PR:Qbs (.type "zip") "__getattr__" = pure none:=by intros;rfl
def N1:entryFor table "zip.__getattribute__" = some Builtin.«object.__getattribute__»:=entryFor_alias (id' := "object.__getattribute__") (by kernel_rfl) ∅ ∅ (by kernel_rfl)
section
variable {prog:Qaf}{w:Qah}{A:Qax}{E:Fk->KE->Prop}{h:Heap}{g:Array QeX}{d:Drawn}{t:Nat}{os:OsState}{a:Gc}{o:Obj}{fs:Array Fk}
def yw {tk:Tok}{Q:Fin->KE->Prop}(hx:h.get? a=some o)(hc:o.cls = .type "zip")(rS:o.dict=none)(hd:o.data = .fields fs)(hh:A.handled=none)
  (hq:∀e h' t',(∀b o,h.get? b=some o->h'.get? b=some o)->(∃oe,h'.get? e=some oe/\oe.cls = .type "AttributeError")->E (.ref e) ⟨h',g,d,t',os⟩) :
  Qac (Qab prog w) A (Builtin.«object.__getattribute__» ⟨[.ref a,.str "keys" tk],[]⟩) Q E ⟨h,g,d,t,os⟩:=by
 have hT:(⟨h,g,d,t,os⟩:KE).TypeIs (.ref a) "zip":=⟨_,hx,hc⟩
 have f4:=Hz
 repeat (any_goals (first|assumption|wp_step))
 rw[hd];dsimp only;unfold instanceDict
 repeat (any_goals (first|assumption|wp_step))
 rw[rS,hc]
 repeat (any_goals (first|assumption|wp_step))
 have f9:=oq;unfold QfO noteAttr
 wp_walk
 rw[show(Qdw "AttributeError").elim false (fun t=>t.mro.contains "StopIteration" || t.mro.contains "SystemExit")=false by decide +kernel,if_neg Jn]
 repeat (any_goals (first|assumption|wp_step))
 refine Qa7 hh (hq _ _ _ (fun b o' x =>?_) ⟨_,J7 _ (Ji _ rfl) rfl,rfl⟩);have x1:=Jb (h:=h) { cls:=Qa3 "tuple",data:=Data.seq #[QcK (Qaa (toString "'" ++ toString ((Qdw "zip").elim "zip" fun x=>x.tpName)++toString "' object has no attribute '")++Qaa "keys" ++ Qaa "'") t] } x;rw[Ua _ _ (Uj (Jf x1))];exact Jb _ x1
def BA {Q:Option Fk->KE->Prop}(hx:h.get? a=some o)(hc:o.cls = .type "zip")(rS:o.dict=none)(hd:o.data = .fields fs)(hh:A.handled=none)
  (hq:∀h' t',(∀b o,h.get? b=some o->h'.get? b=some o)->Q none ⟨h',g,d,t',os⟩):Qac (Qab prog w) A (getAttr? (.ref a) "keys") Q E ⟨h,g,d,t,os⟩:=by
 have hT:(⟨h,g,d,t+1,os⟩:KE).TypeIs (.ref a) "zip":=⟨_,hx,hc⟩
 have f2:=F.slot_zip_getattribute.lookup;have f3:=F.slot_zip_getattribute.bind (.ref a);have f4:=PR
 repeat (any_goals (first|assumption|wp_step))
 refine Qbf F.slot_zip_getattribute.plain N1 (F.slot_zip_getattribute.check _ _ _ _ _ _ _ _ hT (F.args_zip_getattribute_2 _ _) (yw hx hc rS hd hh fun e h' t' k hoe =>?_));have Rv:Qa2 ⟨h',g,d,t',os⟩ (.ref e) "AttributeError":=hoe;have f5:=oq;refine be (QaE Rv f5 ?_)
 repeat (any_goals (first|assumption|wp_step))
 exact hq h' t' k
end
section
variable {prog:Qaf}{w:Qah}{K:Type}[DecidableEq K]{knd:KeyKind prog w K}{A:Qax}{E:Fk->KE->Prop}
variable {it d:Gc}{T:String}{fp:Gc->Prop}{n:Nat}{P:Nat->Fk->Heap->Prop}{R:Fk->Fk->Prop}{St:Nat->Heap->Prop}
def za {s:KE}{Z:Qb4->KE->Prop}{kvs:List (K×Fk)}{g:Heap}(Fd:yn prog w A.in1 it d T fp n P R St)(hn:n=kvs.length)(hz:kvs.length<=100000)
  (hp:∀(j:Nat) v kv h,P j v h->kvs[j]? = some kv->lC knd h v kv)
  (fin:∀h tk,Keeps g h (fun b=>fp b\/b=d)->h.DictOf knd d (Qdc [] kvs)->Z (.ok (.ret .none)) { s with heap:=h,toks:=tk }) :
  ∀k i h tk acc,i+k=kvs.length->acc.length<=i->Qdc acc (kvs.drop i)=Qdc [] kvs->Keeps g h (fun b=>fp b\/b=d)->St i h->h.DictOf knd d acc ->
   QaZ (Qab prog w) A (.builtin "dict.update.loop" ⟨[.ref d,.ref it,QaW i,.none],[]⟩) Z { s with heap:=h,toks:=tk }
 | 0,i,h,tk,acc,hk,ha,hm,kp,hi,hd=>by
  have e:i=n:=by lia
  subst e;refine QaG cC ?_;have dl:d<h.objs.size:=by obtain⟨o,es,ep,ho,r⟩:=hd;exact Jf ho
  refine be (Fd.stop { s with heap:=h,toks:=tk } _ _ hi dl fun h' tk' k'=>be (tz (tz (fin h' tk' (fun b o nb x=>k' b o (fun z=>nb (.inl z)) (kp b o nb x)) ?_))));rw[hn,Qdo] at hm;rw[<-hm];obtain⟨o,es,ep,ho,r⟩:=hd;exact⟨o,es,ep,k' _ _ Fd.sfp ho,r⟩
 | k+1,i,h,tk,acc,hk,ha,hm,kp,hi,hd=>by
  have iC:i<kvs.length:=by lia
  have dl:d<h.objs.size:=by obtain⟨o,es,ep,ho,r⟩:=hd;exact Jf ho
  refine QaG cC (be (Fd.item i { s with heap:=h,toks:=tk } _ _ ⋯ hi dl fun v h1 tk1 k1 xf p1 r1 =>?_));obtain⟨tp,o,m,ku,ev,Nh,hc,BC,hkey⟩:=hp i _ _ _ p1 (Jd iC);subst ev;have Le:h1.DictOf knd d acc:=by
   obtain⟨o,es,ep,ho,r⟩:=hd;exact⟨o,es,ep,k1 _ _ Fd.sfp ho,r⟩
  have hT:Qa2 { s with heap:=h1,toks:=tk1 } (.ref tp) "tuple":=⟨o,Nh,hc⟩
  refine be (Qak (be (QfK (be (QaY hT (be (Qau Nh BC (tz (Qak (Qc3 hkey Le (fun h2 Ps sb2=>(tz ⟨QaX cB _,?_⟩)) (Jh (show acc.length<=100000 by lia) ∅)))))))))));have kp2:=fun b o nb x=>sb2.extBut b o nb x;refine za Fd hn hz hp fin k (i+1) h2 _ (QeC acc kvs[i].1 kvs[i].2) ⋯ ?_ ?_ (fun b o nb x=>kp2 b o (fun z=>nb (.inr z)) (k1 b o (fun z=>nb (.inl z)) (kp b o nb x))) (Fd.keepS _ _ _ xf kp2) Ps
  ·refine Jh ?_ (Wb ha);unfold QeC
   split
   ·rw[Jc];exact Yx _
   ·rw[Jw];exact Je _
  ·rw[<-hm,QbY iC]
   rfl
def GR {Q:Fk->KE->Prop}{kvs:List (K×Fk)}{oz:Obj}{fs:Array Fk}(hh:A.handled=none)(hT:T = "zip")(ho:s.heap.get? it=some oz)(hc:oz.cls = .type "zip")(rS:oz.dict=none)(hd:oz.data = .fields fs)
  (Fd:yn prog w A.in1.in1 it s.heap.objs.size T fp n P R St) (hn:n=kvs.length) (hz:kvs.length<=100000) (hp:∀(j:Nat) v kv h,P j v h->kvs[j]? = some kv->lC knd h v kv) (kK:∀h',(∀b o,s.heap.get? b=some o->h'.get? b=some o)->St 0 h')
  (fin:∀h tk,Keeps s.heap h fp->h.DictOf knd s.heap.objs.size (Qdc [] kvs)->Q (.ref s.heap.objs.size) { s with heap:=h,toks:=tk }) :
  Qac (Qab prog w) A (call (.type "dict") [.ref it]) Q E s:=by
 refine Qdd (Q₁:=fun obj s₁=>obj = .ref s.heap.objs.size/\s₁={ s with heap:=s.heap.push { cls := .type "dict",data := .dict #[] } }) QeZ (Qd8 _) QeG (Qfe _ ⟨rfl,rfl⟩) ?_;rintro obj s1 ⟨rfl,rfl⟩;have new:(s.heap.push { cls := .type "dict",data := .dict #[] }).DictOf knd s.heap.objs.size []:=Qc6 s.heap;have k0:∀b o,s.heap.get? b=some o->(s.heap.push { cls := .type "dict",data := .dict #[] }).get? b=some o:=fun b o x=>Jb _ x;refine⟨new.typeIs,Qet _ _,(be (be (Qd2 new.typeIs (tz ?_))))⟩;have hTy:Qa2 { s with heap:=s.heap.push { cls := .type "dict",data := .dict #[] } } (.ref it) "zip":=⟨oz,k0 _ _ ho,hc⟩
 refine be (QaY hTy (be (BA (k0 _ _ ho) hc rS hd hh fun h1 t1 k1 =>?_)));have kk:=fun b o x=>k1 b o (k0 b o x);have xf:=kK h1 kk;have Vu:h1.DictOf knd s.heap.objs.size []:=by
  obtain⟨o,es,ep,e,r⟩:=new;exact⟨o,es,ep,k1 _ _ e,r⟩
 exact be (Qbr (be (Fd.self ⟨h1,s.gens,s.drawn,t1,s.os⟩ _ _ xf (tz ⟨QaX cB _,(za Fd hn hz hp (fun h tk k dd=>⟨rfl,fin h tk (fun b o nb x=>k b o (fun z=>z.elim nb fun z=>cj (Jf x) (Je _) z) x) dd⟩) kvs.length 0 _ _ [] ⋯ (Je _) rfl (fun b o nb x=>kk b o x) xf Vu)⟩))))
end
section
variable {X:Cx}
def Ov:∀{ks:List Key} {aw:List Fk},Vals (ks.map kV) aw->∀(i:Nat) k u,ks[i]? = some k->aw[i]? = some u->RelV (kV k) u
 | ks,aw,r,i,k,u,h1,h2=>by
  obtain⟨u',h3,r3⟩:=r.get (by rw[Jk,h1];rfl);rw[h2] at h3;cases h3;exact r3
def Z2 (K:Ja)(ta:TA):TE:=fun σ H Q=>ta σ H fun vs H1=>tG fun l1 l2 (ks:List Key) ys=>vs=[.ref l1,.ref l2]/\bA K H1 l1 (ks.map kV)/\bA K H1 l2 ys/\ks.length=ys.length/\ks.length<=100000 /\
 ∀d H',hW H1 d (.dK (cT [] (ks.zip ys))) H'->Q (.ref d) H'
def AY {p p2 pos kU:Pos}(hc:X.calm=true)(Lx:Gl X "dict")(LY:X.mg "dict" = none)(Rz:Gl X "zip")(Ta:X.mg "zip" = none)(ha:PA X [a,b] ta)
  (Du:QaR "dict" = some (.type "dict"):=by first|rfl|decide) (SU:QaR "zip" = some (.type "zip"):=by first|rfl|decide)
  (Ma:Qaj [.Call (.Name "zip" p2) [a,b] [] kU] X.env=[(false,QaL (.Call (.Name "zip" p2) [a,b] [] kU) X.env)]:=by rfl)
  (hs:Qaj [a,b] X.env=[(false,QaL a X.env),(false,QaL b X.env)]:=by rfl) (xZ:Qaj [b] X.env=[(false,QaL b X.env)]:=by rfl) :
  PE X (.Call (.Name "dict" p) [.Call (.Name "zip" p2) [a,b] [] kU] [] pos) (Z2 X.K ta):=by
 refine fun pins s σ H Q I h=>QaJ (dW I Lx LY Du (Qam (Qa9 (Call_ (dW I Rz Ta SU (Qam (bg (ha s σ H _ I h) fun us s1 hz_=>aj.el hz_ _ fun vs H1 I1 r1 q1 =>?_) (by rw[hs,xZ]) (by rw[xZ];rfl))))) Ma rfl));obtain⟨l1,l2,ks,ys,e,q1,q2,el,ez,q⟩:=q1;subst e;obtain⟨u,w',rfl,r1,r2⟩:=vals2 r1;cases r1;cases r2;obtain⟨its1,rv1,p1,hz1⟩:=I1.list q1;refine aj.el (I1.list q2) _ ?_;rintro its2 rv2 p2 hz2;have e1:=rv1.length;have e2:=rv2.length;rw[Jc] at e1;have a1:l1<s1.heap.objs.size:=by obtain⟨_,e,_⟩:=p1.isList;exact Jf e
 have a2:l2<s1.heap.objs.size:=by obtain⟨_,e,_⟩:=p2.isList;exact Jf e
 refine call_zip_2 p1.isList p2.isList fun h' hz sH Bf hi1 hi2 hsz hk=>Qbv ?_;have uw:s1.heap.objs.size<=h'.objs.size:=by rw[hsz];exact Us _ _
 have fw:∀n,n<5->s1.heap.objs.size+n<h'.objs.size:=fun n hn=>by rw[hsz];exact Qd6 hn _
 have kvL:KV (ks.zip ys) (ks.zip its2):=by
  have:∀{ks:List Key} {ys:List V} {aw:List Fk},Vals ys aw->ks.length=ys.length->KV (ks.zip ys) (ks.zip aw):=by
   intro ks
   induction ks with
   | nil=>intro ys aw r e;exact .nil
   | cons k ks ih=>
    intro ys aw r e;cases ys with
    | nil=>cases e
    | cons y ys=>
     obtain⟨v,r',rfl,rv1,rv2⟩:=r.hd;exact .cons ⟨rfl,rv1⟩ (ih rv2 (by simpa using e))
  exact this rv2 el
 have zl:(ks.zip its2).length=ks.length:=by rw[Yr];lia
 refine GR (knd:=bD X.prog X.w) (kvs:=ks.zip its2) (I1.ok.hd hc) rfl hz rfl rfl rfl
  (zh (I.ok.hd hc) (QeN a1 a2) (fw 4 ∅) (fw 2 ∅) (fw 3 ∅) (fw 0 ∅) (fw 1 ∅) (Jt a1 uw) (Jt a2 uw)) (by simp;lia) ⋯ (fun j v kv h hP hkv =>?_) (fun h2 k2=>⟨k2 _ _ sH,⟨_,_,k2 _ _ Bf⟩,hi1.at fun o e=>k2 _ _ e,hi2.at fun o e=>k2 _ _ e,(p1.isList.at fun o e=>hk _ o e).at fun o e=>k2 _ o e,(p2.isList.at fun o e=>hk _ o e).at fun o e=>k2 _ o e,.inl (k2 _ _ hz)⟩) fun h2 tk k2 dd =>?_
 ·obtain⟨a,x,y,rfl,_,gx,gy,pr⟩:=hP;have z:=(Yz).mp hkv;have gy:its2[j]? = some y:=by simpa using gy
  have ey:=Qap (gy.symm.trans z.2);subst ey;exact⟨a,_,_,x,rfl,pr,rfl,rfl,mW (Ov rv1 j kv.1 x z.1 (by simpa using gx))⟩
 ·have kk:∀b o,s1.heap.get? b=some o->h2.get? b=some o:=fun b o e=>by
   have gt:∀n,b≠s1.heap.objs.size+n:=fun n=>Jm (Jt (Jf e) (Us _ _));exact k2 b o (fun z=>z.elim (gt 4) fun z=>z.elim (gt 3) fun z=>z.elim (gt 0) (gt 1)) (hk b o e)
  have ml:=dQ (ks.zip ys) [];exact⟨.ref h'.objs.size,_,I1.laid (o := .dK (cT [] (ks.zip ys))) kk uw ⟨Jh (show _<=100000 by simp at ml;lia) ∅,(beq_eq_false_iff_ne.mpr (Uj (Jt I1.big uw))),_,KV.merge kvL .nil,dd⟩,rfl,q _ _ ⟨I1.bq.fresh uw,rfl⟩⟩
end
abbrev qV (h:Heap)(it:Gc)(x:Str)(t:Tok)(i:Nat):Prop:=h.IsStrIter it "str_ascii_iterator" x t i
section
variable {prog:Qaf}{w:Qah}{A:Qax}{E:Fk->KE->Prop}{s:KE}{z TI TO i1 i2 l a:Gc}{f:Bool}{oa:Obj}{x:Str}{t:Tok}{i c:Nat}{ys:Array Fk}
def Di (D:QcM z TI TO i1 i2 l l)(hz:QfZ s.heap z TI TO .none)(sH:Qbl s.heap TI (.ref i1) (.ref i2))(Bf:∃a b,Qbl s.heap TO a b)
  (h1:qV s.heap i1 x t i) (h2:s.heap.IsListIter i2 l i) (hl:s.heap.IsList l ys) (hx:x.cps[i]? = some c) (hy:ys[i]? = some y)
  (q:∀h' tk tk',QfZ h' z TI TO (QaW s.heap.objs.size)->(∃a b,Qbl h' TO a b)->qV h' i1 x t (i+1)->h'.IsListIter i2 l (i+1)->Qbl h' s.heap.objs.size (.str ⟨#[c]⟩ tk) y->Keeps s.heap h' (rH z TO i1 i2)->Q (some (.ref s.heap.objs.size)) { s with heap:=h',toks:=tk' }) :
  Qac (Qab prog w) A (QbS (.ref z)) Q E s:=by
 obtain⟨a,b,Bf⟩:=Bf;have hT:s.TypeIs (.ref z) "zip":=⟨_,hz,rfl⟩
 refine be (QaS (Qao hT QaM (Qav QaM hT QbE ?_ (Qby _))));change Qac _ _ (QbV (QfP (.ref z) 2) _) _ _ _;refine be (Qal hz rfl rfl (be (Qal hz rfl rfl (be (Qau sH rfl (be (be (Qal hz rfl rfl (tz (be (Qbr (be (Qal hz rfl rfl (be (Qai hz (by simp) fun g1 z1 e1=>be (be (be (QcJ (be (wpAny_nextOf_ascii_item (dg h1 fun o e=>e1.extBut _ _ D.i1z e) hx fun g2 it1 e2=>tz ?_))))))))))))))))))));have to2:=e2.extBut _ _ D.TOi1 (e1.extBut _ _ D.TOz Bf);refine be (Qau to2 rfl (be (Qb1 to2 fun g3 to3 e3=>be (Qcn (tz ?_)))));have EO:Keeps s.heap g3 (fun c=>c=z\/c=i1\/c=TO):=fun c o nc e=>e3.extBut _ _ (fun q=>nc (.inr (.inr q))) (e2.extBut _ _ (fun q=>nc (.inr (.inl q))) (e1.extBut _ _ (fun q=>nc (.inl q)) e));refine be (be (QcJ (be (Qbk (h2.at fun o e=>EO _ _ (fun q=>q.elim D.i2z fun q=>q.elim D.i12.symm D.TOi2.symm) e) (hl.at fun o e=>EO _ _ (fun q=>q.elim D.l2z fun q=>q.elim D.l2i1 D.l2TO) e) hy fun g4 it2 e4=>tz ?_))));have QY:=e4.extBut _ _ D.TOi2 to3;refine be (Qau QY rfl (be (Qb1 QY fun g5 K1 e5=>be (Qcn (tz (tz ?_))))));have K1:Qbl g5 TO (.str ⟨#[c]⟩ s.toks) y:=K1;refine be (Qau K1 rfl (be (Qcv ?_)));have hsz:g5.objs.size=s.heap.objs.size:=by rw[e5.1,e4.1,e3.1,e2.1,e1.1]
 have z5:=e5.extBut _ _ D.TOz.symm (e4.extBut _ _ D.i2z.symm (e3.extBut _ _ D.TOz.symm (e2.extBut _ _ D.i1z.symm z1)));have k5:Keeps s.heap g5 (rH z TO i1 i2):=fun c o nc e=>e5.extBut _ _ (fun q=>nc (.inr (.inl q))) (e4.extBut _ _ (fun q=>nc (.inr (.inr (.inr q)))) (EO c o (fun q=>q.elim (fun q=>nc (.inl q)) fun q=>q.elim (fun q=>nc (.inr (.inr (.inl q)))) fun q=>nc (.inr (.inl q))) e));have RK:=Jf z5;refine be ?_;have z6:QfZ (g5.push { cls := .type "tuple",data := .seq #[.str ⟨#[c]⟩ s.toks,y] }) z TI TO .ellipsis:=Jb _ z5;refine be (Qai z6 (by simp) fun g7 z7 e7=>Qai z7 (by simp) fun g8 z8 e8=>tz ⟨_,rfl,tz ?_⟩);have up:∀c o,c≠z->g5.get? c=some o->g8.get? c=some o:=fun c o c1 e=>e8.extBut _ _ c1 (e7.extBut _ _ c1 (Jb _ e));have tp:=e8.extBut _ _ (Uj RK) (e7.extBut _ _ (Uj RK) (Ji _ rfl));rw[hsz] at z8 tp ⊢;exact q g8 s.toks (s.toks+1) z8 ⟨_,_,up _ _ D.TOz K1⟩ (dg (dg it1 fun o e=>e5.extBut _ _ D.TOi1.symm (e4.extBut _ _ D.i12 (e3.extBut _ _ D.TOi1.symm e))) fun o e=>up _ o D.i1z e) ((it2.at fun o e=>e5.extBut _ _ D.TOi2.symm e).at fun o e=>up _ o D.i2z e) tp fun c o nc e=>up c o (fun q=>nc (.inl q)) (k5 c o nc e)
def GU (D:QcM z TI TO i1 i2 l l)(hz:gT s.heap z TI TO a f)(ha:s.heap.get? a=some oa)(sH:Qbl s.heap TI (.ref i1) (.ref i2))
  (h1:qV s.heap i1 x t i) (h2:s.heap.IsListIter i2 l i) (hl:s.heap.IsList l ys) (hx:x.cps[i]? = some c) (hy:ys[i]? = some y)
  (q:∀h' tk tk',gT h' z TI TO a true->qV h' i1 x t (i+1)->h'.IsListIter i2 l (i+1)->Qbl h' s.heap.objs.size (.str ⟨#[c]⟩ tk) y->Keeps s.heap h' (fun b=>b=z\/b=i1\/b=i2)->Q (some (.ref s.heap.objs.size)) { s with heap:=h',toks:=tk' }) :
  Qac (Qab prog w) A (QbS (.ref z)) Q E s:=by
 have hT:s.TypeIs (.ref z) "zip":=⟨_,hz,rfl⟩
 refine be (QaS (Qao hT QaM (Qav QaM hT QbE ?_ (Qby _))));change Qac _ _ (QbV (QfP (.ref z) 2) _) _ _ _;refine be (Qal hz rfl rfl (be (Qal hz rfl rfl (be (Qau sH rfl (be (mS hz ha fun h0 z0 k0=>be (be (be (Qak (be (wpAny_nextOf_ascii_item (dg h1 fun o e=>k0.extBut _ _ D.i1z e) hx fun h4 e4 k4=>tz (tz (be (be (Qak (be (Qbk ((h2.extBut k0.extBut D.i2z).extBut k4.extBut D.i12.symm) ((hl.extBut k0.extBut D.l2z).extBut k4.extBut D.l2i1) hy fun h5 e5 k5=>tz (tz (tz (be (Qcv (hsz:=by show 2<=Wp;decide) (tz ⟨_,rfl,tz ?_⟩)))))))))))))))))))))));have hsz:h5.objs.size=s.heap.objs.size:=by rw[k5.1,k4.1,k0.1]
 rw[hsz];refine q (h5.push { cls := .type "tuple",data := .seq #[.str ⟨#[c]⟩ s.toks,y] }) s.toks (s.toks+1) (Jb _ (k5.extBut _ _ D.i2z.symm (k4.extBut _ _ D.i1z.symm z0))) (dg e4 fun o e=>Jb _ (k5.extBut _ _ D.i12 e)) (e5.at fun o e=>Jb _ e) (by rw[<-hsz];exact Ji _ rfl) fun b o nb e =>?_;exact Jb _ (k5.extBut _ _ (fun z=>nb (.inr (.inr z))) (k4.extBut _ _ (fun z=>nb (.inr (.inl z))) (k0.extBut _ _ (fun z=>nb (.inl z)) e)))
def ID (hh:A.handled=none)(D:QcM z TI TO i1 i2 l l)(hz:gT s.heap z TI TO a f)(ha:s.heap.get? a=some oa)(sH:Qbl s.heap TI (.ref i1) (.ref i2))
  (h1:qV s.heap i1 x t i) (hx:x.cps[i]? = none)
  (q:∀h',Keeps s.heap h' (fun b=>b=z\/b=i1\/b=i2)->Q none { s with heap:=h' }) :
  Qac (Qab prog w) A (QbS (.ref z)) Q E s:=by
 have hT:s.TypeIs (.ref z) "zip":=⟨_,hz,rfl⟩
 refine be (QaS (Qao hT QaM (Qav QaM hT QbE ?_ (Qby _))));change Qac _ _ (QbV (QfP (.ref z) 2) _) _ _ _;refine be (Qal hz rfl rfl (be (Qal hz rfl rfl (be (Qau sH rfl (be (mS hz ha fun h0 z0 k0=>be (be (be (Qak (be (wpAny_nextOf_ascii_end hh (dg h1 fun o e=>k0.extBut _ _ D.i1z e) hx fun h4 e k4 oe=>aj.el (oe) _ ?_))))))))))));rintro o ho hc;exact be (QaE ⟨o,ho,hc⟩ Qbt (tz (q h4 fun b o nb x=>k4 _ _ (fun z=>nb (.inr (.inl z))) (k0.extBut _ _ (fun z=>nb (.inl z)) x))))
end
abbrev ztH (h:Heap)(x:Str)(t:Tok)(b:Gc):Heap:=((((h.push { cls := .type "str_ascii_iterator",data := .fields #[.str x t,.int 0 0] }).push { cls := .type "list_iterator",data := .fields #[.ref b,.int 0 0] }).push { cls := .type "tuple",data := .seq #[.ref h.objs.size,.ref (h.objs.size+1)] }).push { cls := .type "tuple",data := .seq #[.none,.none] }).push
 { cls := .type "zip",data := .fields #[.none,.bool false,.bool false,.ref (h.objs.size+2),.ref (h.objs.size+3)] }
def Md (x:Str)(t:Tok)(b:Gc)(ys:Array Fk):
  Meets (Builtin.«zip.__new__» ⟨[.type "zip",.str x t,.ref b],[]⟩) (fun _ R s=>x.cps.all (· < 128)=true/\s.heap.IsList b ys/\R (.ok (.ret (.ref (s.heap.objs.size+4)))) { s with heap:=ztH s.heap x t b }):=
 .of_wp fun prog w A R s h=>by
  obtain⟨hp,g,d,tk,os⟩:=s;obtain⟨hx,xc,h⟩:=h;have dU:=sub_zip;have hL2:Heap.IsList (Shared.heap ⟨hp.push { cls := .type "str_ascii_iterator",data := .fields #[.str x t,.int 0 0] },g,d,tk,os⟩) b ys:=xc.at fun o e=>Jb _ e;have s1:(hp.push { cls := .type "str_ascii_iterator",data := .fields #[.str x t,.int 0 0] }).objs.size=hp.objs.size+1:=Ue ..
  wp_walk using wpAny_pyIter_ascii hx,Qcu hL2
  refine⟨_,rfl,?_⟩;simp -iota only [Ue] at h ⊢;exact h
section
variable {prog:Qaf}{w:Qah}{A:Qax}{E:Fk->KE->Prop}{s:KE}
def JR {b:Gc}{ys:Array Fk}{Q:Fk->KE->Prop}(h1:x.cps.all (· < 128)=true)(h2:s.heap.IsList b ys)
  (q:∀h',QfZ h' (s.heap.objs.size+4) (s.heap.objs.size+2) (s.heap.objs.size+3) .none->Qbl h' (s.heap.objs.size+2) (.ref s.heap.objs.size) (.ref (s.heap.objs.size+1))->Qbl h' (s.heap.objs.size+3) .none .none->qV h' s.heap.objs.size x t 0->h'.IsListIter (s.heap.objs.size+1) b 0->h'.objs.size=s.heap.objs.size+5->(∀c o,s.heap.get? c=some o->h'.get? c=some o)->Q (.ref (s.heap.objs.size+4)) { s with heap:=h' }) :
  Qac (Qab prog w) A (call (.type "zip") [.str x t,.ref b]) Q E s:=by
 refine callType_new F.called_zip rfl (F.typeCall_zip_2 _ _) (F.newCall_zip_2 _ _) (fun obj=>F.args_object_init_3 obj _ _) F.entry_zip_new (Md x t b ys) ⟨h1,h2,?_⟩;have up:∀{h:Heap} {c:Gc} {o:Obj} p,h.get? c=some o->(h.push p).get? c=some o:=fun p e=>Jb p e;have last:∀{h:Heap} {n:Nat} {p:Obj},h.objs.size=n->p.isFreed=false->(h.push p).get? n=some p:=fun e hf=>by rw[<-e];exact Ji _ hf
 have z1:=Ue s.heap { cls := .type "str_ascii_iterator",data := .fields #[.str x t,.int 0 0] };have z2:=Ue (s.heap.push { cls := .type "str_ascii_iterator",data := .fields #[.str x t,.int 0 0] }) { cls := .type "list_iterator",data := .fields #[.ref b,.int 0 0] };rw[z1] at z2;have z3:=Ue ((s.heap.push { cls := .type "str_ascii_iterator",data := .fields #[.str x t,.int 0 0] }).push { cls := .type "list_iterator",data := .fields #[.ref b,.int 0 0] }) { cls := .type "tuple",data := .seq #[.ref s.heap.objs.size,.ref (s.heap.objs.size+1)] };rw[z2] at z3;have z4:=Ue (((s.heap.push { cls := .type "str_ascii_iterator",data := .fields #[.str x t,.int 0 0] }).push { cls := .type "list_iterator",data := .fields #[.ref b,.int 0 0] }).push { cls := .type "tuple",data := .seq #[.ref s.heap.objs.size,.ref (s.heap.objs.size+1)] }) { cls := .type "tuple",data := .seq #[.none,.none] };rw[z3] at z4;have zz:(ztH s.heap x t b).get? (s.heap.objs.size+4)=some _:=last z4 rfl;refine⟨⟨_,zz,rfl⟩,q _ zz (up _ (up _ (last z2 rfl))) (up _ (last z3 rfl)) ⟨_,up _ (up _ (up _ (up _ (last rfl rfl)))),rfl,rfl⟩ ⟨_,up _ (up _ (up _ (last z1 rfl))),rfl,rfl⟩ ?_ fun c o e=>up _ (up _ (up _ (up _ (up _ e))))⟩;rw[Ue,z4]
end
structure BZ (z TI TO i1 i2 l S:Gc)(x:Str)(t:Tok)(ys:Array Fk)(i:Nat)(h:Heap):Prop where
 ti:Qbl h TI (.ref i1) (.ref i2)
 to:∃a b,Qbl h TO a b
 it1:qV h i1 x t i
 it2:h.IsListIter i2 l i
 a2:h.IsList l ys
 zp:QfZ h z TI TO .none/\i=0\/0<i/\∃a f oa,gT h z TI TO a f/\h.get? a=some oa/\S<a
abbrev GO (S:Gc)(x:Str)(ys:Array Fk)(j:Nat)(v:Fk)(h:Heap):Prop:=tG fun a c tk y=>v = .ref a/\S<a/\x.cps[j]? = some c/\ys[j]? = some y/\Qbl h a (.str ⟨#[c]⟩ tk) y
def G0 {z TI TO i1 i2 l S:Gc}{x:Str}{t:Tok}{ys:Array Fk}(hh:A.handled=none)(hn:0<x.cps.size)(hy:x.cps.size<=ys.size)(D:QcM z TI TO i1 i2 l l)(b1:z<S)(b2:TI<S)(b3:TO<S)(b4:i1<S)(b5:i2<S)(b6:l<S):
  yn prog w A z S "zip" (rH z TO i1 i2) x.cps.size (GO S x ys) jS (BZ z TI TO i1 i2 l S x t ys) where
 sfp:=fun q=>by
  rcases q with q|q|q|q<;>(rw[q] at b1 b3 b4 b5;first|exact absurd b1 (Uh _)|exact absurd b3 (Uh _)|exact absurd b4 (Uh _)|exact absurd b5 (Uh _))
 ne:=Jm b1
 ty:=fun i h st=>by
  rcases st.zp with ⟨q,_⟩|⟨_,a,f,oa,q,_⟩
  ·exact⟨_,q,rfl⟩
  ·exact⟨_,q,rfl⟩
 self:=fun s Q E st q=>by
  rcases st.zp with ⟨r,_⟩|⟨r,_⟩
  ·exact QdI r q
  ·exact absurd r (Uh _)
 item:=fun i s Q E hi st hS q=>by
  obtain⟨ti,to,it1,it2,a2,zp⟩:=st;have hx:=J2 hi;have hy:ys[i]? = some (ys[i]'⋯):=J2 ⋯;have old:∀j u,GO S x ys j u s.heap->jS u (.ref s.heap.objs.size):=fun j u hz_=>aj.el hz_ _ fun a c tk y e _ _ _ p=>⟨a,_,e,rfl,Jf p⟩
  rcases zp with ⟨r,_⟩|⟨hi0,c,f,oc,r,oc',hc⟩
  ·refine Di D r ti to it1 it2 a2 hx hy fun h' tk tk' r1 r2 r3 r4 r5 r7 =>?_;have n2:∀{b:Gc},b≠z->b≠TO->b≠i1->b≠i2->¬rH z TO i1 i2 b:=fun c1 c2 c3 c4 q=>q.elim c1 fun q=>q.elim c2 fun q=>q.elim c3 c4;refine q _ h' tk' r7 ⟨r7 _ _ (n2 D.TIz D.TITO D.TIi1 D.TIi2) ti,r2,r3,r4,a2.at fun o e=>r7 _ _ (n2 D.l2z D.l2TO D.l2i1 D.l2i2) e,.inr ⟨QdE _,_,_,_,r1,r5,hS⟩⟩ ⟨_,_,_,_,rfl,hS,hx,hy,r5⟩ old
  ·have ne:∀{b:Gc},b<S->c≠b:=fun hb=>Uj (Qck hb hc);refine GU D r oc' ti it1 it2 a2 hx hy fun h' tk tk' r1 r2 r3 r4 r5 =>?_;obtain⟨ta,tb,to⟩:=to;refine q _ h' tk' (fun b o nb e=>r5 b o (fun z=>z.elim (fun z=>nb (.inl z)) fun z=>nb (.inr (.inr z))) e) ⟨r5 _ _ (fun z=>z.elim D.TIz fun z=>z.elim D.TIi1 D.TIi2) ti,⟨_,_,r5 _ _ (fun z=>z.elim D.TOz fun z=>z.elim D.TOi1 D.TOi2) to⟩,r2,r3,a2.at fun o e=>r5 _ _ (fun z=>z.elim D.l2z fun z=>z.elim D.l2i1 D.l2i2) e,
    .inr ⟨QdE _,_,_,_,r1,r5 _ _ (fun z=>z.elim (ne b1) fun z=>z.elim (ne b4) (ne b5)) oc',hc⟩⟩ ⟨_,_,_,_,rfl,hS,hx,hy,r4⟩ old
 stop:=fun s Q E st hS q=>by
  obtain⟨ti,to,it1,it2,a2,zp⟩:=st
  rcases zp with ⟨_,r⟩|⟨hi0,c,f,oc,r,oc',hc⟩
  ·rw[r] at hn;exact absurd hn (Uh _)
  ·exact ID hh D r oc' ti it1 (Ur (Je _)) fun h' k=>q h' s.toks fun b o nb e=>k b o (fun z=>z.elim (fun z=>nb (.inl z)) fun z=>nb (.inr (.inr z))) e
 keepS:=fun i h h' st k=>by
  obtain⟨ti,⟨a,b,to⟩,it1,it2,a2,zp⟩:=st;refine⟨k _ _ (Jm b2) ti,⟨a,b,k _ _ (Jm b3) to⟩,dg it1 fun o e=>k _ o (Jm b4) e,it2.at fun o e=>k _ o (Jm b5) e,a2.at fun o e=>k _ o (Jm b6) e,?_⟩
  rcases zp with ⟨r,r0⟩|⟨hi0,c,f,oc,r,oc',hc⟩
  ·exact .inl ⟨k _ _ (Jm b1) r,r0⟩
  ·exact .inr ⟨hi0,c,f,oc,k _ _ (Jm b1) r,k _ _ (Uj hc) oc',hc⟩
 keepP:=fun j v h h' hz_ k=>aj.el hz_ _ fun a c tk y e ha h1 h2 p=>by
  have ne:∀{b:Gc},b<S->a≠b:=fun hb=>Uj (Qck hb ha);exact⟨a,c,tk,y,e,ha,h1,h2,k _ _ (fun z=>z.elim (fun z=>z.elim (ne b1) fun z=>z.elim (ne b3) fun z=>z.elim (ne b4) (ne b5)) (Uj ha)) p⟩
 nolen:=by rw[QcY,QbT];kernel_rfl
 nohint:=by rw[QcY,QbT];kernel_rfl
 nl:=∅
 nt:=∅
section
variable {X:Cx}
def tLX (K:Ja)(ta:TA):TE:=fun σ H Q=>ta σ H fun vs H1=>qM fun x l2 ys=>vs=[.str x,.ref l2]/\bA K H1 l2 ys/\x.cps.all (· < 128)=true/\0<x.cps.size/\x.cps.size<=ys.length /\
 ∀H' p (as:List Gc),av H1 H'->H1 p=none->H' p=some (.lst (as.map V.ref))->as.length=x.cps.size ->
  (∀(j:Nat) a c y,as[j]? = some a->x.cps[j]? = some c->ys[j]? = some y->H1 a=none/\H' a=some (.tup [.str ⟨#[c]⟩,y]))->Q (.ref p) H'
def yY {p p2 pos kU:Pos}(hc:X.calm=true)(Lx:Gl X "list")(LY:X.mg "list" = none)(Rz:Gl X "zip")(Ta:X.mg "zip" = none)(ha:PA X [a,b] ta)
  (Du:QaR "list" = some (.type "list"):=by first|rfl|decide) (SU:QaR "zip" = some (.type "zip"):=by first|rfl|decide)
  (Ma:Qaj [.Call (.Name "zip" p2) [a,b] [] kU] X.env=[(false,QaL (.Call (.Name "zip" p2) [a,b] [] kU) X.env)]:=by rfl)
  (hs:Qaj [a,b] X.env=[(false,QaL a X.env),(false,QaL b X.env)]:=by rfl) (xZ:Qaj [b] X.env=[(false,QaL b X.env)]:=by rfl) :
  PE X (.Call (.Name "list" p) [.Call (.Name "zip" p2) [a,b] [] kU] [] pos) (tLX X.K ta):=by
 refine fun pins s σ H Q I h=>QaJ (dW I Lx LY Du (Qam (Qa9 (Call_ (dW I Rz Ta SU (Qam (bg (ha s σ H _ I h) fun us s1 hz_=>aj.el hz_ _ fun vs H1 I1 r1 q1 =>?_) (by rw[hs,xZ]) (by rw[xZ];rfl))))) Ma rfl));obtain⟨x,l2,ys,e,q2,xa,xp,xy,q⟩:=q1;subst e;obtain⟨u,w',rfl,ru,r2⟩:=vals2 r1;cases r2;obtain⟨t,rfl⟩:∃t,u = .str x t:=ru;refine aj.el (I1.list q2) _ ?_;rintro its2 rv2 p2 hz2;have e2:=rv2.length;have a2:l2<s1.heap.objs.size:=by obtain⟨_,e,_⟩:=p2.isList;exact Jf e
 refine JR xa p2.isList fun h' hz sH Bf hi1 hi2 hsz hk=>Qbv ?_;have uw:s1.heap.objs.size<=h'.objs.size:=by rw[hsz];exact Us _ _
 have fw:∀n,n<5->s1.heap.objs.size+n<h'.objs.size:=fun n hn=>by rw[hsz];exact Qd6 hn _
 have zs:∀o,BZ (s1.heap.objs.size+4) (s1.heap.objs.size+2) (s1.heap.objs.size+3) s1.heap.objs.size (s1.heap.objs.size+1) l2 h'.objs.size x t its2.toArray 0 (h'.push o):=fun o=>
  ⟨Jb _ sH,⟨_,_,Jb _ Bf⟩,dg hi1 fun o e=>Jb _ e,hi2.at fun o e=>Jb _ e,(p2.isList.at fun o e=>hk _ o e).push _,.inl ⟨Jb _ hz,rfl⟩⟩
 refine uI (G0 (I.ok.hd hc) xp (by simp;lia) (QeN a2 a2) (fw 4 ∅) (fw 2 ∅) (fw 3 ∅) (fw 0 ∅) (fw 1 ∅) (Jt a2 uw)) ⋯ zs fun h2 tk acc c hk2 G =>?_;obtain⟨hS2,hsz2,hpw,jJ⟩:=G;obtain⟨as,hR⟩:=pI (l:=acc.toList) fun v hv=>by
  obtain⟨j,hj⟩:=Uk.mp hv;obtain⟨a,_,_,_,e,_⟩:=jJ j v (by simpa using hj);exact⟨a,e⟩
 have jK:∀j a,as[j]? = some a->qM fun c tk y=>h'.objs.size<a/\x.cps[j]? = some c/\its2.toArray[j]? = some y/\Qbl h2 a (.str ⟨#[c]⟩ tk) y:=fun j a h=>by
  obtain⟨a',c,tk,y,e,g⟩:=jJ j (.ref a) (by
   have:acc.toList[j]? = some (.ref a):=by rw[hR,Jk,h];rfl
   simpa using this)
  cases e;exact⟨c,tk,y,g⟩
 have above:∀a∈as,h'.objs.size<a:=fun a ha=>by
  obtain⟨j,hj⟩:=Uk.mp ha;obtain⟨_,_,_,g,_⟩:=jK j a hj;exact g
 have old:∀b o,s1.heap.get? b=some o->h2.get? b=some o:=fun b o e=>by
  have gt:∀n,b≠s1.heap.objs.size+n:=fun n=>Jm (Jt (Jf e) (Us _ _));exact hk2 b o (fun z=>z.elim (gt 4) fun z=>z.elim (gt 3) fun z=>z.elim (gt 0) (gt 1)) (hk b o e)
 have I2:Inv X pins σ H1 { s1 with heap:=h2,toks:=tk }:=I1.kept old;have uz:=fun a ha=>Yj (Ub uw (above a ha));have nd:as.Nodup:=by
  rw[hR,Qel] at hpw;exact hpw.imp fun hz_=>aj.el hz_ _ fun a b e1 e2 h=>by cases e1;cases e2;exact Jm h
 have eX:∀a,s1.heap.objs.size<=a->gc X pins H1 a/\X.s₀.heap.objs.size<=a:=fun a ha=>⟨I1.eX ha (I1.bq.fresh ha),Jh I1.sz ha⟩
 have K5:as.length=x.cps.size:=by
  have z:acc.toList.length=as.length:=by rw[hR,Jc]
  simp at z hsz2;lia
 let ps:List (List V):=(x.cps.toList.zip ys).map fun q=>[V.str ⟨#[q.1]⟩,q.2]
 have psg:∀j c y,x.cps[j]? = some c->ys[j]? = some y->ps[j]? = some [V.str ⟨#[c]⟩,y]:=fun j c y h1 h2=>by
  rw[Jk,(Yz (z:=(c,y))).mpr ⟨by simpa using h1,h2⟩]
  rfl
 obtain⟨H',I',sm,same,all⟩:=I2.mT as ps nd (by show _=((x.cps.toList.zip ys).map _).length;rw[Jc,Yr];have:=Ud (xs:=x.cps);lia) (fun a ha=>eX a (uz a ha)) (fun j a pp h1 h2'=>by
  refine aj.el (jK j a h1) _ ?_;rintro c tk y _ g1 g2 g3;refine aj.el (l6 rv2 g2) _ ?_;rintro vy gy ry;rw[psg j c vy g1 gy] at h2';cases h2';exact⟨by show 2<=Wp;decide,[.str ⟨#[c]⟩ tk,y],.cons ⟨_,rfl⟩ (.cons ry .nil),⟨_,g3,rfl,rfl,_,rfl⟩⟩)
 have Gp:=fun hm=>Uh _ (above _ hm);have nC:=I1.bq.fresh uw;obtain⟨fS,sS⟩:=eX h'.objs.size uw;have I3:=I'.adopt (o := .lst (as.map V.ref)) ⟨by rw[same _ Gp];exact nC,fS.2⟩ sS ⟨by rw[Jc];lia,acc.toList,c,by
  rw[hR];clear hS2 hR all same I' sm uz nd K5 Gp above jK
  induction as with
  | nil=>exact .nil
  | cons a r ih=>exact .cons rfl ih,by simpa using hS2⟩
 refine⟨.ref h'.objs.size,_,I3,rfl,q _ _ as (fun b o e =>?_) nC au K5 fun j a c y h1 h2' h3'=>⟨(eX a (uz a (Jy h1))).1.1,?_⟩⟩
 ·rw[ao (ay e nC)];exact sm b o e
 ·rw[ao (fun z=>Gp (by rw[<-z];exact Jy h1))];exact all j a _ h1 (psg j c y h2' h3')
end
section
variable {X:Cx}
def uk (a:Int)(n:Nat):List V:=(U3 n).map fun(i:Nat)=>V.int (a+(i:Int))
def Bq (a:Int):∀{n:Nat} {aw:List Fk},aw.length=n->(∀(j:Nat) v,aw[j]? = some v->∃t,v = .int (a+(j:Int)) t)->Vals (uk a n) aw:=by
 intro n
 induction n with
 | zero=>
  intro aw hl h;cases aw with
  | nil=>exact .nil
  | cons _ _=>cases hl
 | succ n ih=>
  intro aw hl h;have Cf:aw≠[]:=fun z=>by rw[z] at hl;cases hl
  rw[<-List.dropLast_concat_getLast Cf] at h ⊢;generalize aw.getLast Cf=x at h;have Dl:aw.dropLast.length=n:=by rw[List.length_dropLast,hl];rfl
  generalize aw.dropLast=l at h Dl;unfold uk;rw[QeJ,J4];obtain⟨t,ht⟩:=h n x (by rw[Ux ⋯,Dl,Nat.sub_self];rfl);exact(ih Dl fun j v hj=>h j v (by rw[Uz (Jq.mp hj).1];exact hj)).append (.cons ⟨t,ht⟩ .nil)
def YE (ta:TA):TE:=fun σ H Q=>ta σ H fun vs H1=>∃a b,vs=[.int a,.int b]/\a.natAbs<=4000000/\b.natAbs<=4000000/\∀p H',hW H1 p (.lst (uk a (b-a).toNat)) H'->Q (.ref p) H'
def tu {p p2 pos kU:Pos}(hc:X.calm=true)(Lx:Gl X "list")(LY:X.mg "list" = none)(hgr:Gl X "range")(hmr:X.mg "range" = none)(ha:PA X [a,b] ta)
  (Du:QaR "list" = some (.type "list"):=by first|rfl|decide)
  (Ma:Qaj [.Call (.Name "range" p2) [a,b] [] kU] X.env=[(false,QaL (.Call (.Name "range" p2) [a,b] [] kU) X.env)]:=by rfl) (hs:Qaj [a,b] X.env=[(false,QaL a X.env),(false,QaL b X.env)]:=by rfl) (xZ:Qaj [b] X.env=[(false,QaL b X.env)]:=by rfl) :
  PE X (.Call (.Name "list" p) [.Call (.Name "range" p2) [a,b] [] kU] [] pos) (YE ta):=by
 refine fun pins s σ H Q I h=>QaJ (dW I Lx LY Du (Qam (Qa9 (Call_ (dW I hgr hmr boot_range (Qam (bg (ha s σ H _ I h) fun us s1 ⟨vs,H1,I1,r1,q1⟩=>?_) (by rw[hs,xZ]) (by rw[xZ];rfl))))) Ma rfl));obtain⟨i,j,e,h1,h2,q⟩:=q1;subst e;obtain⟨u,w',rfl,⟨t,rfl⟩,⟨t',rfl⟩⟩:=vals2 r1;refine call_range_2 (Qbv ?_);have k1:∀b o,s1.heap.get? b=some o->(s1.heap.push { cls := .type "range",data := .fields #[.int i t,.int j t',.int 1 s1.toks] }).get? b=some o:=fun b o e=>Jb _ e;refine call_list_range (I.ok.hd hc) (IsRange.new ..) (small_one ⋯ ⋯ ⋯ ⋯) (by rw[rangeSize_one];split<;>lia) (show(j-i).toNat<=16777216 by lia) fun h' tk acc c hk hD hI =>?_;have I2:Inv X pins σ H1 { s1 with heap:=s1.heap.push { cls := .type "range",data := .fields #[.int i t,.int j t',.int 1 s1.toks] },toks:=s1.toks+1 }:=I1.kept k1;have hv:Vals (uk i (j-i).toNat) acc.toList:=Bq i (by rw[Ud];exact hI.1) fun k v hk=>by
  obtain⟨t',e⟩:=hI.2 k v (by rw[<-U2];exact hk);exact⟨t',by rw[e,Int.mul_one]⟩
 refine⟨.ref _,_,I2.laid (o := .lst (uk i (j-i).toNat)) hk (Je _) ⟨?_,acc.toList,c,hv,by simpa [Qcy] using hD⟩,rfl,q _ _ ⟨I2.bq.fresh (Je _),rfl⟩⟩;unfold uk;rw[Jc,Y4];exact Jh (show(j-i).toNat<=8000000 by lia) ∅
end
end L2
namespace Z
open PySem L2
def sizeOk {n:Nat}(h:n<=10000000):n<=Wp:=Jh h ∅
def zd (l:List Str)(h:decide l.Nodup=true:=by decide +kernel):l.Nodup:=of_decide_eq_true h
def JU (i:Nat):(2:Int)^i+2^i=2^(i+1):=by rw[Qcm];lia
end Z
namespace L2
set_option genSizeOf false
set_option genInjectivity false
set_option genSizeOf false
set_option genInjectivity false
end L2
namespace Z
open PySem L2
structure yf (H:Hp)(b c:Gc)(t:Int)(ns:List Int):Prop where
 d:H b=some (.dK [(.inr "cells",.ref c),(.inr "turn",.int t)])
 l:H c=some (.lst (ns.map V.int))
 ne:0<ns.length
 le:ns.length<=64
def hM (H:Hp)(b c:Gc):Hp:=fun a=>if a=b\/a=c then none else H a
def cS {H:Hp}{b c a:Gc}(h1:a≠b)(h2:a≠c):hM H b c a=H a:=if_neg (fun z=>z.elim h1 h2)
def lF {H:Hp}{b c a:Gc}{o:HO}(h:hM H b c a=some o):H a=some o/\a≠b/\a≠c:=by
 unfold hM at h
 split at h
 ·cases h
 ·rename_i n;exact⟨h,fun z=>n (.inl z),fun z=>n (.inr z)⟩
def uQ {H:Hp}{b c:Gc}:av (hM H b c) H:=fun a o h=>(lF h).1
def yf.bc {H:Hp}{b c:Gc}{t:Int}{ns:List Int}(x:yf H b c t ns):b≠c:=rj x.d x.l (by intro z;cases z)
def yf.He {H:Hp}{b c:Gc}{t:Int}{ns:List Int}(x:yf H b c t ns):dJ H b (.str "turn") (some (.int t)):=dJ.k (k:=Qa8 "turn") x.d
def yf.nD {H:Hp}{b c:Gc}{t:Int}{ns:List Int}(x:yf H b c t ns):dJ H b (.str "cells") (some (.ref c)):=dJ.k (k:=Qa8 "cells") x.d
def yf.GL {H:Hp}{b c:Gc}{t:Int}{ns:List Int}(x:yf H b c t ns)(t':Int):tm H b (.str "turn") (.int t') (upd H b (.dK [(.inr "cells",.ref c),(.inr "turn",.int t')])):=
 tm.k (k:=Qa8 "turn") x.d (by show 2<Wp;decide)
def yf.turned {H:Hp}{b c:Gc}{t:Int}{ns:List Int}(x:yf H b c t ns)(t':Int):yf (upd H b (.dK [(.inr "cells",.ref c),(.inr "turn",.int t')])) b c t' ns:=
 ⟨au,by rw[ao (QaA x.bc)];exact x.l,x.ne,x.le⟩
def DX {H:Hp}{b c:Gc}{o:HO}:hM (upd H b o) b c=hM H b c:=by
 funext a;unfold hM;split
 ·rfl
 ·rename_i n;exact ao (fun z=>n (.inl z))
def Dc {H:Hp}{b c:Gc}{o:HO}:hM (upd H c o) b c=hM H b c:=by
 funext a;unfold hM;split
 ·rfl
 ·rename_i n;exact ao (fun z=>n (.inr z))
def Bn:Sp:=fun vs H Q _=>zg fun(b c:Gc) (t:Int) (ns:List Int) (many:Int)=>vs=[.ref b,.int many]/\yf H b c t ns/\0<=t/\t<100000000/\0<many/\many<1073741824 /\
 ∀(r:Int) (H':Hp) (Kg:List Int),0<=r->r<many->yf H' b c (t+1) Kg->av (hM H b c) (hM H' b c)->Q (.int r) H'
def at_of {ns:List Int}{p:Int}(h0:0<=p)(h1:p<ns.length):∃v,Ed (ns.map V.int) p=some (.int v)/\ns[p.toNat]? = some v:=by
 have hk:p.toNat<ns.length:=by lia
 have ek:p=((p.toNat:Nat):Int):=by lia
 have q:Ed (ns.map V.int) ((p.toNat:Nat):Int)=some (.int ns[p.toNat]):=mV (by rw[Jk,Jd hk]<;>rfl);rw[<-ek] at q;exact⟨_,q,Jd hk⟩
def Po {a j m:Int}(h0:0<m)(h:m<2^64):zJ (a%m) j:=by
 have h1:=QcI a (b:=m) ⋯;have h2:=Qcc a h0;exact .inl ⟨⋯,⋯⟩
def NW {n:Nat}{p:Int}(h0:0<=p)(h1:p<n):FT n p=some p.toNat:=by unfold FT;rw[if_pos h0,if_pos h1]
def sj {H H':Hp}{b c:Gc}(h:∀a o,a≠b->a≠c->H a=some o->H' a=some o):av (hM H b c) (hM H' b c):=fun a o e=>by
 refine aj.el (lF e) _ ?_;rintro e h1 h2;rw[cS h1 h2];exact h a o h1 h2 e
end Z
namespace L2
open PySem
def Gm (t:TG):Prop:=∀x σ H (Q Q':St->Hp->Prop),(∀a b,Q a b->Q' a b)->t x σ H Q->t x σ H Q'
def Zh (t:FR):Prop:=∀x σ H (Q Q':St->Hp->Prop),(∀a b,Q a b->Q' a b)->t x σ H Q->t x σ H Q'
def cK {i:Nat}:Gm (uh i):=fun _ _ _ _ _ h q=>h _ _ q
def eY:Zh Nl:=fun _ _ _ _ _ h q=>⟨q.1,h _ _ q.2⟩
def jZ {t:TG}{u:FR}(a:Gm t)(b:Zh u):Zh (Gz t u):=fun _ _ _ _ _ h ⟨v,r,e,q⟩=>⟨v,r,e,a _ _ _ _ _ (fun _ _ z=>b _ _ _ _ _ h z) q⟩
def aV.get {K:Ja}{H:Hp}:∀{ds:List Qae} {vs:List V} {i:Nat} {d:Qae},aV K H ds vs->ds[i]? = some d->∃v,vs[i]? = some v/\Den K H d v
 | [],_,_,_,_,e=>by simp at e
 | d::ds,vs,i,d',h,e=>by
  unfold aV at h;obtain⟨v,r,rfl,h1,h2⟩:=h;cases i with
  | zero=>cases e;exact⟨v,rfl,h1⟩
  | succ i=>exact aV.get (i:=i) h2 e
def aV.len {K:Ja}{H:Hp}:∀{ds:List Qae} {vs:List V},aV K H ds vs->vs.length=ds.length
 | [],_,h=>by unfold aV at h;subst h;rfl
 | d::ds,vs,h=>by
  unfold aV at h;obtain⟨v,r,rfl,h1,h2⟩:=h;rw[Jr,Jr,aV.len h2]
def Den.pair {K:Ja}{H:Hp}{a b:Str}{v:V}(h:Den K H (.tuple [.str a,.str b]) v):∃p,v = .ref p/\bG K H p [.str a,.str b]:=by
 unfold Den at h;obtain⟨p,vs,e,h1,h2⟩:=h;unfold aV at h2;obtain⟨v1,r1,rfl,d1,h2⟩:=h2;unfold aV at h2;obtain⟨v2,r2,rfl,d2,h2⟩:=h2;unfold aV at h2;subst h2;unfold Den at d1 d2;subst d1 d2;exact⟨p,e,h1⟩
end L2
namespace Z
open PySem L2
def aO (bk:List (Str×Str)):Qae := .list (bk.map fun q =>.tuple [.str q.1,.str q.2])
def bI {H:Hp}{p:Gc}(h:H p=none)(o:HO):av H (upd H p o):=fun b u q=>by rw[ao (ay q h)];exact q
end Z
namespace L2
open PySem
def j4 {J:It}{g:TG}{tb:TS}{D:Ends}{σ:St}{H:Hp}(N:Nat)(Pv:Nat->St->Hp->Prop)(h0:Pv 0 σ H)
  (go:∀i σ H,i<N->Pv i σ H->J.go i H/\∀x H',J.yld i H x H'->g x σ H' fun σ2 H2=>tb { D with nx:=Pv (i+1),ct:=Pv (i+1),bk:=D.nx } σ2 H2)
  (stop:∀ σ H,Pv N σ H->J.stop N H/\D.nx σ H) :
  ∃W:Nat->Nat->St->Hp->Prop,(∃m,W 0 m σ H)/\∀i m σ H,W i m σ H ->
   (J.stop i H/\D.nx σ H)\/(J.go i H/\∃N:St->Hp->Prop,(∀ σ' H',N σ' H'->∃m',m'<m/\W (i+1) m' σ' H')/\∀x H',J.yld i H x H'->g x σ H' fun σ2 H2=>tb { D with nx:=N,ct:=N,bk:=D.nx } σ2 H2):=by
 refine⟨fun i m σ H=>m=N-i/\i<=N/\Pv i σ H,⟨N,by simp,Uw _,h0⟩,?_⟩;intro i m σ H;refine aj.go ?_;rintro rfl hi p
 by_cases iC:i<N
 ·obtain⟨g1,g2⟩:=go i σ H iC p;exact .inr ⟨g1,Pv (i+1),fun σ' H' p'=>⟨N-(i+1),⋯,rfl,iC,p'⟩,g2⟩
 ·have e:i=N:=by lia
  subst e;exact .inl (stop σ H p)
def fJ {t u:TS}{D:Ends}{σ:St}{H:Hp}(Ex:St->Hp->Prop)(h:∀Nx:St->Hp->Prop,(∀ σ H,Ex σ H->Nx σ H)->t { D with nx:=Nx } σ H)(fin:∀ σ H,Ex σ H->u D σ H):JS t u D σ H:=h (u D) fin
def vN {c:TT}{tb:TS}{D:Ends}{σ:St}{H:Hp}(Pv:Nat->St->Hp->Prop)(h0:∃m,Pv m σ H)
  (hs:∀m σ H,Pv m σ H->c σ H fun b H1=>if b=true then ∃N:St->Hp->Prop,(∀ σ' H',N σ' H'->∃m',m'<m/\Pv m' σ' H')/\tb { D with nx:=N,ct:=N,bk:=D.nx } σ H1 else D.nx σ H1):rO c tb D σ H:=⟨Pv,h0,hs⟩
def nz {te:TE}{g:TG}{u:TS}{D:Ends}{σ:St}{H:Hp}(Ex:V->Hp->Prop)(h:∀Qn:VK,(∀v H,Ex v H->Qn v H)->te σ H Qn)(fin:∀v H,Ex v H->g v σ H (u D)):JS (Li te g) u D σ H:=h _ fin
def gn {i:Nat}{v:V}{σ:St}{H:Hp}{Q:St->Hp->Prop}(h:Q (σ.set i (some v)) H):uh i v σ H Q:=h
end L2
namespace Z
open PySem L2
def Bx (H:Hp)(b c:Gc)(t:Int):Prop:=∃ns,yf H b c t ns
structure Step (b c:Gc)(H H':Hp)(t t' N:Int):Prop where
 le:t<=t'
 ub:t'<=t+N
 bx:Bx H' b c t'
 sm:av (hM H b c) (hM H' b c)
def Step.refl {b c:Gc}{H:Hp}{t:Int}(h:Bx H b c t):Step b c H H t t 0:=⟨QdV _,⋯,h,av.refl _⟩
def Step.trans {b c:Gc}{H H' H2:Hp}{t t' t2 N M:Int}(x:Step b c H H' t t' N)(y:Step b c H' H2 t' t2 M):Step b c H H2 t t2 (N+M):=
 ⟨by have:=x.le;have:=y.le;lia,by have:=x.ub;have:=y.ub;lia,y.bx,x.sm.trans y.sm⟩
def Step.more {b c:Gc}{H H':Hp}{t t' N M:Int}(x:Step b c H H' t t' N)(h:N<=M):Step b c H H' t t' M:=⟨x.le,by have:=x.ub;lia,x.bx,x.sm⟩
def Bx.bb {H:Hp}{b c p:Gc}{t:Int}(x:Bx H b c t)(h:H p=none):p≠b/\p≠c:=by
 obtain⟨ns,x⟩:=x;exact⟨fun z=>(by rw[z,x.d] at h;cases h),fun z=>(by rw[z,x.l] at h;cases h)⟩
def Bx.upd {H:Hp}{b c p:Gc}{t:Int}{o:HO}(x:Bx H b c t)(h1:p≠b)(h2:p≠c):Bx (upd H p o) b c t:=by
 obtain⟨ns,x⟩:=x;exact⟨ns,by rw[ao (QaA h1)];exact x.d,by rw[ao (QaA h2)];exact x.l,x.ne,x.le⟩
def Step.new {b c p:Gc}{H H':Hp}{t t' N:Int}(x:Step b c H H' t t' N)(h:H' p=none)(o:HO):Step b c H (upd H' p o) t t' N:=
 ⟨x.le,x.ub,x.bx.upd (x.bx.bb h).1 (x.bx.bb h).2,x.sm.trans (sj fun a u _ _ e=>by rw[ao (ay e h)];exact e)⟩
def Step.chg {b c p:Gc}{H H':Hp}{t t' N:Int}(x:Step b c H H' t t' N)(h:H p=none)(h1:p≠b)(h2:p≠c)(o:HO):Step b c H (upd H' p o) t t' N:=
 ⟨x.le,x.ub,x.bx.upd h1 h2,fun a u e=>by
  have q:=x.sm a u e;refine aj.el (lF q) _ ?_;rintro q n1 n2;rw[cS n1 n2,ao (fun z =>?_)]
  ·exact q
  ·rw[z] at e;rw[(lF e).1] at h;cases h⟩
def Step.old {b c a:Gc}{H H':Hp}{t t' N:Int}{o:HO}(x:Step b c H H' t t' N)(h:H a=some o)(h1:a≠b)(h2:a≠c):H' a=some o:=
 (lF (x.sm a o (by rw[cS h1 h2];exact h))).1
def Step.fresh {b c a:Gc}{H H':Hp}{t t' N:Int}(x:Step b c H H' t t' N)(hb:Bx H b c t)(h:H' a=none):H a=none:=by
 obtain⟨h1,h2⟩:=x.bx.bb h;cases e:H a with
 | none=>rfl
 | some o=>rw[x.old e h1 h2] at h;cases h
def av.hM {H H':Hp}{b c:Gc}(s:av H H'):av (hM H b c) (hM H' b c):=sj fun a o _ _ e=>s a o e
def Bx.same {H H':Hp}{b c:Gc}{t:Int}(x:Bx H b c t)(s:av H H'):Bx H' b c t:=by
 obtain⟨ns,x⟩:=x;exact⟨ns,s _ _ x.d,s _ _ x.l,x.ne,x.le⟩
def Step.same {b c:Gc}{H H':Hp}{t:Int}(x:Bx H b c t)(s:av H H'):Step b c H H' t t 0:=⟨QdV _,⋯,x.same s,av.hM s⟩
def Bo:Sp:=fun vs H Q _=>tG fun(b c:Gc) (t many:Int)=>vs=[.ref b,.int many]/\Bx H b c t/\0<=t/\t<100000000/\0<many/\many<1073741824 /\
 ∀(r:Int) (H':Hp),0<=r->r<many->Step b c H H' t (t+1) 1->Q (.int r) H'
def Lf {vs:List V}{H:Hp}{Q:VK}{E:XK}(h:Bo vs H Q E):Bn vs H Q E:=by
 obtain⟨b,c,t,many,e,⟨ns,bx⟩,h1,h2,h3,h4,q⟩:=h;exact⟨b,c,t,ns,many,e,bx,h1,h2,h3,h4,fun r H' Kg r0 r1 bx' sm=>q r H' r0 r1 ⟨⋯,⋯,⟨Kg,bx'⟩,sm⟩⟩
def NG (vs:List V)(j:Nat):ly vs none (some (j:Int))=vs.take j:=by
 unfold ly;rw[HT.yo,HT.kg,QcU,Nat.sub_zero]
 rcases QfX j vs.length with h|h
 ·rw[Nat.min_eq_left h]
 ·rw[Nat.min_eq_right h,U7 (Je _),U7 h]
def yU (vs:List V)(j:Nat):ly vs (some (j:Int)) none=vs.drop j:=by
 unfold ly;rw[HT.yo,HT.kg]
 rcases QfX j vs.length with h|h
 ·rw[Nat.min_eq_left h,U7 (by rw[Yt];exact Je _)]
 ·rw[Nat.min_eq_right h,QfF (Je _),QfF h];simp
def Fn.imp {P:Qaf}{w:Qah}{K:Ja}{mg:Str->Option Fk}{base:Heap}{k:Nat}{x:Str}{ps:List Str}{sp Na:Sp}(F:Fn P w K mg base k x ps sp)(h:∀vs H Q E,Na vs H Q E->sp vs H Q E):Fn P w K mg base k x ps Na:=by
 refine aj.el (F.ex) _ ?_;rintro f fd a b c d;exact⟨f,fd,a.imp h,b,c,d⟩
def Step.jk {b c p:Gc}{H H' H2:Hp}{t t' N:Int}{o:HO}(x:Step b c H H' t t' N)(n:hW H' p o H2):Step b c H H2 t t' N:=by rw[n.eq];exact x.new n.nn _
def Step.HG {b c p:Gc}{H H' H2:Hp}{t t' N:Int}{o:HO}(x:Step b c H H' t t' N)(n:JA H' p o H2)(h:H p=none)(h1:p≠b)(h2:p≠c):Step b c H H2 t t' N:=by rw[n.eq];exact x.chg h h1 h2 _
def ux (x:Str):Prop:=∀c∈x.cps.toList,c=48\/c=49
def rf (g:Str):∀(parts:List Str) (acc:Array Nat),(parts.foldl (fun acc p=>acc++g.cps++p.cps) acc).toList=acc.toList++parts.flatMap (fun p=>g.cps.toList++p.cps.toList)
 | [],acc=>by simp
 | p::r,acc=>by rw[List.foldl_cons,rf g r];simp
def cH (xs:List Str):(Qa0 "" xs).cps.toList=xs.flatMap (fun p=>p.cps.toList):=by
 cases xs with
 | nil=>rfl
 | cons x r=>
  show((r.foldl (fun acc p=>acc++(Qaa "").cps++p.cps) x.cps)).toList=_;rw[rf];have e:(Qaa "").cps.toList=[]:=rfl;simp[e]
def aN (x y:Str):(x++y).cps.toList=x.cps.toList++y.cps.toList:=by
 show(x.cps++y.cps).toList=_;simp
def str_len (x:Str):x.length=x.cps.toList.length:=by simp[Str.length]
def Sh (n:Nat)(d:Qae):Prop:=d.canLay0=true/\d.depth<=n
def Sh.all {n:Nat}:∀{ds:List Qae},(∀d∈ds,Sh n d)->Qce ds=true/\Qbp ds<=n
 | [],_=>⟨by simp[Qce],by simp[Qbp]⟩
 | d::ds,h=>by
  obtain⟨h1,h2⟩:=h d Jo;obtain⟨h3,h4⟩:=Sh.all fun e he=>h e (Jl _ he);exact⟨by simp[Qce,h1,h3],by simp only[Qbp];lia⟩
def Sh.list {n:Nat}{ds:List Qae}(h:∀d∈ds,Sh n d):Sh (n+1) (.list ds):=by
 obtain⟨h1,h2⟩:=Sh.all h;exact⟨by simpa [QbA] using h1,by simp only[Qbq];lia⟩
def Sh.tuple {n:Nat}{ds:List Qae}(h:∀d∈ds,Sh n d):Sh (n+1) (.tuple ds):=by
 obtain⟨h1,h2⟩:=Sh.all h;exact⟨by simpa [QbA] using h1,by simp only[Qbq];lia⟩
def Sh.shaped {n:Nat}{d:Qae}(h:Sh n d)(hn:n<=64):QaK d=true:=by
 unfold QaK;rw[h.1,decide_eq_true (Jh h.2 hn)]
 rfl
def Sh.str {n:Nat}{x:Str}(h:QbA (.str x)=true):Sh n (.str x):=⟨h,by simp[Qbq]⟩
def Sh.int {n:Nat}{i:Int}:Sh n (.int i):=⟨by simp[QbA],by simp[Qbq]⟩
def eu {x:Str}(h:∀ch∈x.cps.toList,ch<128):QbA (.str x)=true:=by
 simp only[QbA,PyData.strOk];rw[<-Array.all_toList,Wc];intro ch hc;have:=h ch hc;exact decide_eq_true ⋯
def Den.strs {K:Ja}{H:Hp}:∀(xs:List Str),aV K H (xs.map Qcp) (xs.map V.str)
 | []=>by unfold aV;rfl
 | x::xs=>by
  rw[J3];unfold aV;exact⟨_,_,rfl,by unfold Den;rfl,Den.strs xs⟩
def Den.list {K:Ja}{H:Hp}{l:Gc}{ds:List Qae}{vs:List V}(h:bA K H l vs)(hd:aV K H ds vs):Den K H (.list ds) (.ref l):=by
 unfold Den;exact⟨l,vs,rfl,h,hd⟩
def pP {n:Nat}:∀{ds:List Qae} {d:Qae},Qbp ds<=n->d∈ds->d.depth<=n
 | [],_,_,h=>nomatch h
 | e::ds,d,hn,h=>by
  simp only[Qbp] at hn
  rcases Jx.mp h with rfl|h
  ·lia
  ·exact pP ⋯ h
def ie {n:Nat}:∀{ds:List Qae} {d:Qae},Qay ds<=n->d∈ds->d.weight<=n
 | [],_,_,h=>nomatch h
 | e::ds,d,hn,h=>by
  simp only[Qay] at hn
  rcases Jx.mp h with rfl|h
  ·lia
  ·exact ie ⋯ h
def iO:∀(ds:List Qae),ds.length<=Qay ds
 | []=>by simp
 | e::ds=>by
  simp only[Qay,Jr];have:=iO ds;lia
def all_true (n:Nat):(J0 n true).all id=true:=by
 induction n with
 | zero=>rfl
 | succ n ih=>rw[QcH,Qb6,ih];rfl
def aV.of_get {K:Ja}{H:Hp}:∀{ds:List Qae} {vs:List V},ds.length=vs.length->(∀(j:Nat) d v,ds[j]? = some d->vs[j]? = some v->Den K H d v)->aV K H ds vs
 | [],[],_,_=>by unfold aV;rfl
 | [],_::_,h,_=>by simp at h
 | _::_,[],h,_=>by simp at h
 | d::ds,v::vs,h,g=>by
  unfold aV;exact⟨v,vs,rfl,g 0 d v rfl rfl,aV.of_get (by simpa using h) fun j d' v' h1 h2=>g (j+1) d' v' h1 h2⟩
def kF (a b:Str):V:=if Qcj a b=true then .str (QaT a (some (b.length:Nat)) none) else if Qcj b a=true then .str (QaT b (some (a.length:Nat)) none) else .non
def wk:Sp:=fun vs H Q _=>∃a b:Str,vs=[.str a,.str b]/\a.length<=1000000/\b.length<=1000000/\Q (kF a b) H
section
variable {P:Qaf}{w:Qah}{K:Ja}{mg:Str->Option Fk}{base:Heap}{f:Gc}{fd:Qad}
def Kn:aA ["one", "other"] ["one", "other"] (ak (top nH)):=⟨rfl,rfl,rfl,∅,rfl,∅,∅⟩
def KQ (F:bM K "rest_of" "rest_of" (top nH) f fd)(T:Nm mg):aW P w K mg base d7 1 f fd ["one", "other"] wk:=by
 refine F.ok Kn (fun vs H Q E h =>?_) (fun cQ A outer s H vs Q E hr h =>?_)
 ·obtain⟨a,b,rfl,_⟩:=h
  rfl
 unfold wk at h;refine aj.el h _ ?_;clear h;rintro a b rfl ha hb q;refine⟨_,(af (aY (cp (xg K QaC Qew Qev kA (pv 0) (aa (pv 1) ae))) (ag (ar (dN (VA K) (pv 0) (cX (aq (hX K) rfl T.n_len (by rfl) (aa (pv 1) ae))) je))) aF)
  (af (aY (cp (xg K QaC Qew Qev kA (pv 1) (aa (pv 0) ae))) (ag (ar (dN (VA K) (pv 1) (cX (aq (hX K) rfl T.n_len (by rfl) (aa (pv 0) ae))) je))) aF)
  (ag (ar bR)))),?_⟩
 unfold kF at q;refine⟨_,rfl,rfl,_,rfl,a,b,rfl,rfl,_,rfl,?_⟩;refine gj (fun c =>?_) (fun c =>?_)
 ·rw[if_pos c] at q;exact⟨_,rfl,_,rfl,_,_,rfl,⟨sizeOk (Jh hb ∅),rfl⟩,_,rfl,.inr ⟨a,rfl,sizeOk (Jh ha ∅),q⟩⟩
 ·rw[if_neg c] at q;refine⟨_,rfl,rfl,_,rfl,b,a,rfl,rfl,_,rfl,?_⟩;refine gj (fun c =>?_) (fun c =>?_)
  ·rw[if_pos c] at q;exact⟨_,rfl,_,rfl,_,_,rfl,⟨sizeOk (Jh ha ∅),rfl⟩,_,rfl,.inr ⟨b,rfl,sizeOk (Jh hb ∅),q⟩⟩
  ·rw[if_neg c] at q;exact q
end
def TZ (bk:List (Str×Str))(j:Nat):Prop:=∀(i' j':Nat) a b,i'<j'->j'<j->bk[i']? = some a->bk[j']? = some b->kF a.2 b.2 = .non
def wQ (K:Ja):Sp:=fun vs H Q _=>∃(v:V) (bk:List (Str×Str)),vs=[v]/\Den K H (aO bk) v/\bk.length<=1000/\(∀q∈bk,q.2.length<=200000) /\
 (TZ bk bk.length->∀H',av H H'->Q .non H') /\
 ∀(i j:Nat) a b,bk[i]? = some a->bk[j]? = some b->i<j->TZ bk j->(∀(i':Nat) a',i'<i->bk[i']? = some a'->kF a'.2 b.2 = .non)->kF a.2 b.2 ≠ .non ->
  ∀p H',av H H'->H p=none->H' p=some (.tup [.str a.1,.str b.1])->Q (.ref p) H'
section
variable {P:Qaf}{w:Qah}{K:Ja}{mg:Str->Option Fk}{base:Heap}{f:Gc}{fd:Qad}
def uC:aA ["book", "at", "other", "code", "one", "code_ahead"] ["book"] (ak (top vG)):=⟨rfl,rfl,rfl,∅,rfl,∅,∅⟩
def GY (vs:List V)(j:Nat)(h:j<=vs.length):ly vs none (some (j:Int))=vs.take j:=by
 unfold ly;have e:HT.eg vs.length vs.length (some (j:Int))=j:=by
  unfold HT.eg;dsimp only;rw[if_neg (show ¬((j:Int)<0) by lia)];lia
 rw[e];show((vs.drop 0).take (j-0))=_;simp
def Tj (F:bM K "clash" "clash" (top vG) f fd)(T:Nm mg)(OK:Fn P w K mg base 1 "rest_of" ["one", "other"] wk):aW P w K mg base d7 2 f fd ["book"] (wQ K):=by
 refine F.ok uC (fun vs H Q E h =>?_) (fun cQ A outer s H vs Q E hr h =>?_)
 ·obtain⟨v,bk,rfl,_⟩:=h
  rfl
 obtain⟨v,bk,rfl,hD,hlen,hle,q0,q1⟩:=h;refine⟨_,(af (eJ Qaz rfl (LV rfl T.n_enumerate (aa (pv 0) ae)) (tupK K 2 rfl (aM (aD (i:=1) uC.nd rfl (Qag rfl)) (aM (tupK K 2 rfl (aM (aD (i:=2) uC.nd rfl (Qag rfl)) (aM (aD (i:=3) uC.nd rfl (Qag rfl)) bU))) bU))) (ag (eJ Qaz rfl (MY K (dN (VA K) (pv 0) je (cX (pv 1)))) (tupK K 2 rfl (aM (aD (i:=4) uC.nd rfl (Qag rfl)) (aM (aD (i:=5) uC.nd rfl (Qag rfl)) bU))) (ag (aY (aG CW (aH OK hr rfl (aa (pv 5) (aa (pv 3) ae))) bR (aK _)) (ag (ar (G5 (aa (pv 4) (aa (pv 2) ae))))) aF)))))
  (ag (ar bR))),?_⟩
 unfold aO at hD;unfold Den at hD;obtain⟨l,vs,rfl,hS,hDs⟩:=hD;have hvl:vs.length=bk.length:=by rw[hDs.len,Jc]
 have item:∀i (hi:i<bk.length),∃a,vs[i]? = some (.ref a)/\bG K H a [.str bk[i].1,.str bk[i].2]:=fun i hi=>by
  obtain⟨x,hx,dx⟩:=hDs.get (i:=i) (d := .tuple [.str bk[i].1,.str bk[i].2]) (by rw[Jk,Jd hi];rfl);obtain⟨a,rfl,hT⟩:=dx.pair;exact⟨a,hx,hT⟩
 have Cc:∀i (hi:i<bk.length),bk[i].2.length<=1000000:=fun i hi=>Jh (hle _ (Um hi)) ∅;refine⟨_,rfl,l,rfl,⟨_,hS⟩,?_⟩;refine j4 (N:=bk.length) (fun j σ H'=>av H H'/\TZ bk j/\∃x1 x2 x3 x4 x5,σ=[some (.ref l),x1,x2,x3,x4,x5]) ⟨av.refl _,fun i' j' a b _ h=>absurd h (Wf _),_,_,_,_,_,rfl⟩ ?_ ?_
 ·rintro j σ H' hj ⟨sm,nc,x1,x2,x3,x4,x5,rfl⟩;obtain⟨a,hx,hT⟩:=item j hj;refine⟨⟨_,_,sm.seq hS,hx⟩,?_⟩;rintro x H2 ⟨t1,rfl,ht1,hy⟩;have e:=hy _ _ (sm.seq hS) hx;subst e;have iB:=sm.trans (bI ht1 (.tup [.int j,.ref a]));refine⟨t1,_,rfl,bG.of au,rfl,_,_,rfl,_,_,rfl,a,_,rfl,iB.cL hT,rfl,_,_,rfl,_,_,rfl,rfl,rfl,?_⟩;refine⟨_,rfl,_,rfl,_,rfl,.inl ⟨l,_,rfl,iB.seq hS,fun p hp =>?_⟩⟩;rw[GY vs j ⋯];have M4:=iB.trans (bI hp (.lst (vs.take j)));refine⟨p,rfl,⟨_,bA.of au⟩,?_⟩;refine GS (xs:=vs.take j) (fun i σ H4=>av (upd (upd H' t1 (.tup [.int j,.ref a])) p (.lst (vs.take j))) H4/\(∀(i':Nat) a',i'<i->bk[i']? = some a'->kF a'.2 bk[j].2 = .non)/\∃y4 y5,σ=[some (.ref l),some (.int j),some (.str bk[j].1),some (.str bk[j].2),y4,y5]) ⟨av.refl _,fun i' a' h=>absurd h (Wf _),_,_,rfl⟩ ?_ ?_ ?_
  ·rintro i σ H4 hi ⟨uH,_,_⟩;exact uH.seq (bA.of au)
  ·rintro i x σ H4 hix ⟨uH,ng,y4,y5,rfl⟩;have AX:i<j:=by
    have:=(Jq.mp hix).1;rw[Uo] at this;lia
   have T2:i<bk.length:=by lia
   obtain⟨a',rY,hT'⟩:=item i T2;rw[Qft AX,rY] at hix;cases hix;have ZP:=M4.trans uH;refine⟨a',_,rfl,ZP.cL hT',rfl,_,_,rfl,_,_,rfl,rfl,?_⟩;refine⟨_,rfl,_,rfl,bk[i].2,bk[j].2,rfl,Cc i T2,Cc j hj,.inl ⟨rfl,_,rfl,?_⟩⟩;refine gj (fun c =>?_) (fun c =>?_)
   ·have hr:kF bk[i].2 bk[j].2 ≠ .non:=by simpa using c
    refine⟨_,rfl,_,rfl,by show 2<=Wp;decide,fun t2 ht2 =>?_⟩;exact q1 i j bk[i] bk[j] (Jd T2) (Jd hj) AX nc ng hr t2 _ (ZP.trans (bI ht2 _)) (ZP.free ht2) au
   ·have hr:kF bk[i].2 bk[j].2 = .non:=by simpa using c
    refine⟨uH,fun i' b' zC vB =>?_,_,_,rfl⟩
    by_cases z:i'<i
    ·exact ng i' b' z vB
    ·have:i'=i:=by lia
     subst this;rw[Jd T2] at vB;cases vB;exact hr
  ·rintro σ H4 ⟨uH,ng,y4,y5,rfl⟩;refine⟨M4.trans uH,fun i' j' a1 b1 h1 h2 e1 e2 =>?_,_,_,_,_,_,rfl⟩
   by_cases z:j'<j
   ·exact nc i' j' a1 b1 h1 z e1 e2
   ·have:j'=j:=by lia
    subst this;rw[Jd hj] at e2;cases e2;exact ng i' a1 (by rw[Uo];lia) e1
 ·rintro σ H' ⟨sm,nc,x1,x2,x3,x4,x5,rfl⟩;exact⟨⟨_,sm.seq hS,by rw[hvl];exact Je _⟩,q0 nc H' sm⟩
end
abbrev sg (x:Str):List Nat:=x.cps.toList
def RF (a b:Str):Prop := ¬(sg a <+: sg b)/\¬(sg b <+: sg a)
def RF.symm {a b:Str}(h:RF a b):RF b a:=⟨h.2,h.1⟩
def vH (x y:Str):sg (x++y)=sg x++sg y:=aN x y
def RF.ext {a b u v:Str}(h:RF a b):RF (a++u) (b++v):=by
 refine⟨fun z =>?_,fun z =>?_⟩
 ·rw[vH,vH] at z
  rcases Qcq ((Qb9 _ _).trans z) (Qb9 (sg b) (sg v)) with q|q
  ·exact h.1 q
  ·exact h.2 q
 ·rw[vH,vH] at z
  rcases Qcq ((Qb9 _ _).trans z) (Qb9 (sg a) (sg u)) with q|q
  ·exact h.2 q
  ·exact h.1 q
abbrev fE (cs:List Str):Prop:=cs.Pairwise RF
def fE.perm {cs ds:List Str}(h:fE cs)(p:cs.Perm ds):fE ds:=(p.pairwise_iff fun h=>RF.symm h).mp h
abbrev s0:Str := "0"
abbrev s1:Str := "1"
def RF.two (x:Str):RF (x++s0) (x++s1):=by
 have e0:sg (x++s0)=sg x++[48]:=aN x s0;have e1:sg (x++s1)=sg x++[49]:=aN x s1;refine⟨fun z =>?_,fun z =>?_⟩
 ·rw[e0,e1] at z;have:=z.eq_of_length (by simp);simp at this
 ·rw[e0,e1] at z;have:=z.eq_of_length (by simp);simp at this
def RF.one {x y u:Str}(h:RF y x):RF y (x++u):=by
 have z:=h.ext (u:=Qat) (v:=u);have e:y++Qat=y:=by
  show(⟨y.cps ++ #[]⟩:Str)=y;simp
 rw[e] at z;exact z
def fE.split {A B:List Str}{x:Str}(h:fE (A++x::B)):fE (A++[x++s0,x++s1]++B):=by
 rw[Yo];refine aj.el (Y2.mp h) _ ?_;rintro hA hxB hAB;obtain⟨hx,hB⟩:=List.pairwise_cons.mp hxB;refine Y2.mpr ⟨hA,?_,fun a ha y hy =>?_⟩
 ·refine Y2.mpr ⟨List.pairwise_cons.mpr ⟨fun y hy=>by rw[Jz.mp hy];exact RF.two x,Qcb _ _⟩,hB,fun y hy z hz =>?_⟩;have q:=(hx z hz).symm;simp at hy
  rcases hy with rfl|rfl
  ·exact q.one.symm
  ·exact q.one.symm
 ·rcases Uq.mp hy with hy|hy
  ·have q:=hAB a ha x Jo;simp at hy
   rcases hy with rfl|rfl
   ·exact q.one
   ·exact q.one
  ·exact hAB a ha y (Jl _ hy)
def i7 (x y:Str):Qcj x y=true↔sg y <+: sg x:=by
 have hl:y.length=(sg y).length:=str_len y;have hx:x.length=(sg x).length:=str_len x;have e:(x.cps.extract 0 (0+y.length)==y.cps)=true↔(sg x).take y.length=sg y:=by
  rw[beq_iff_eq,<-Array.toList_inj];simp[Array.toList_extract]
 show(decide (0+y.length<=x.length)&&(x.cps.extract 0 (0+y.length)==y.cps))=true↔_;rw[Js,decide_eq_true_iff,e];constructor
 ·rintro⟨_,h⟩;rw[<-h];exact List.take_prefix _ _
 ·intro h;exact⟨by have:=h.length_le;lia,by rw[hl];exact(List.prefix_iff_eq_take.mp h).symm⟩
def tY {a b:Str}:kF a b = .non↔RF a b:=by
 unfold kF RF
 by_cases h1:Qcj a b=true
 ·rw[if_pos h1];exact⟨(nofun),fun z=>absurd ((i7 a b).mp h1) z.2⟩
 ·rw[if_neg h1]
  by_cases h2:Qcj b a=true
  ·rw[if_pos h2];exact⟨(nofun),fun z=>absurd ((i7 b a).mp h2) z.1⟩
  ·rw[if_neg h2];exact⟨fun _=>⟨fun z=>h2 ((i7 b a).mpr z),fun z=>h1 ((i7 a b).mpr z)⟩,fun _=>rfl⟩
def CG (bk:List (Str×Str)):TZ bk bk.length↔fE (bk.map (·.2)):=by
 constructor
 ·intro h;refine U0.mpr fun i j hi hj AX =>?_;rw[Jc] at hi hj;rw[Y1,Y1];exact tY.mp (h i j _ _ AX hj (Jd hi) (Jd hj))
 ·intro h i j a b AX hj ha hb;obtain⟨zC,rfl⟩:=Jq.mp ha;obtain⟨NA,rfl⟩:=Jq.mp hb;have z:=U0.mp h i j (by rw[Jc];exact zC) (by rw[Jc];exact NA) AX;rw[Y1,Y1] at z;exact tY.mpr z
def zW (K:Ja):Sp:=fun vs H Q _=>∃(v:V) (bk:List (Str×Str)),vs=[v]/\Den K H (aO bk) v/\bk.length<=1000/\(∀q∈bk,q.2.length<=200000) /\
 (fE (bk.map (·.2))->∀H',av H H'->Q (.bl true) H')/\(¬fE (bk.map (·.2))->∀H',av H H'->Q (.bl false) H')
section
variable {P:Qaf}{w:Qah}{K:Ja}{mg:Str->Option Fk}{base:Heap}{f:Gc}{fd:Qad}
def LZ:aA ["book"] ["book"] (ak (top zV)):=⟨rfl,rfl,rfl,∅,rfl,∅,∅⟩
def Lv (F:bM K "free" "free" (top zV) f fd)(T:Nm mg)(Ls:Fn P w K mg base 2 "clash" ["book"] (wQ K)):aW P w K mg base d7 3 f fd ["book"] (zW K):=by
 refine F.ok LZ (fun vs H Q E h =>?_) (fun cQ A outer s H vs Q E hr h =>?_)
 ·obtain⟨v,bk,rfl,_⟩:=h
  rfl
 obtain⟨v,bk,rfl,hD,hl,hc,q1,q2⟩:=h;refine⟨_,(ag (ar (eG xD (aH (Ls.mono ∅) hr rfl (aa (pv 0) ae)) bR (aK _)))),?_⟩;refine⟨_,rfl,v,bk,rfl,hD,hl,hc,fun nc H' sm =>.inl ⟨rfl,q1 ((CG bk).mp nc) H' sm⟩,fun i j a b ha hb AX _ _ Cf p H' sm hp hp' =>.inl ⟨rfl,q2 (fun fr =>?_) H' sm⟩⟩;exact Cf ((CG bk).mpr fr i j a b AX (Jq.mp hb).1 ha hb)
end
end Z
set_option maxHeartbeats 30000000
namespace Z
open PySem L2
abbrev iQ:Str := "01"
abbrev uR:Str := "abcdefghijklmnopqrstuvwxyz"
def gV (x y:Str):Bool:=decide (V.str (Qff x y)=V.str (Qaa ""))
def dw:Qae->Bool
 | .str x=>decide ((1:Int)<=(x.length:Nat))&&(decide (((x.length:Nat):Int)<=8)&&gV x uR)
 | _=>false
def cz:Qae->Bool
 | .str x => !decide (V.str x=V.str (Qaa ""))&&gV x iQ
 | _=>false
def bz:Qae->Bool
 | .tuple [a,b]=>dw a&&cz b
 | _=>false
def gm:Qae->Str
 | .tuple (.str x::_)=>x
 | _=>Qat
def dE:Qae->Bool
 | .list ds => !ds.isEmpty&&(ds.all bz&&decide ((bV (fun i=>(ds.map gm).getD i Qat) ds.length).length=ds.length))
 | _=>false
def qT (K:Ja):Sp:=fun vs H Q _=>∃(v:V) (d:Qae),vs=[v]/\Den K H d v/\d.weight<=300000/\QaK d=true/\(∀ds,d = .list ds->ds.length<=4000)/\∀H',av H H'->Q (.bl (dE d)) H'
def rC:Sp:=fun vs H Q _=>∃x y:Str,vs=[.str x,.str y]/\x.length<=1000000/\Q (.bl (gV x y)) H
def lZ (K:Ja)(f:Qae->Bool):Sp:=fun vs H Q _=>∃(v:V) (d:Qae),vs=[v]/\Den K H d v/\d.weight<=1000000/\∀H',av H H'->Q (.bl (f d)) H'
section
variable {P:Qaf}{w:Qah}{K:Ja}{mg:Str->Option Fk}{base:Heap}{f:Gc}{fd:Qad}{t1 t2 t3:Tok}
def Bc:aA ["text", "signs"] ["text", "signs"] (ak (top nR)):=⟨rfl,rfl,rfl,∅,rfl,∅,∅⟩
def L3 (F:bM K "made_of" "made_of" (top nR) f fd)(T:Nm mg):aW P w K mg base d7 1 f fd ["text", "signs"] rC:=by
 refine F.ok Bc (fun vs H Q E h =>?_) (fun cQ A outer s H vs Q E hr h =>?_)
 ·obtain⟨x,y,rfl,_⟩:=h
  rfl
 obtain⟨x,y,rfl,hx,q⟩:=h;have d6:=hr.units;refine⟨_,(ag (ar (eG (qd K d6) (xg K QaC PySem.F.slot_str_strip PySem.F.type_str_strip En (pv 0) (aa (pv 1) ae)) ax (aK _)))),?_⟩;exact⟨_,rfl,rfl,_,rfl,x,y,rfl,rfl,sizeOk (Jh hx ∅),.inl ⟨rfl,q⟩⟩
def Aa:aA ["thing"] ["thing"] (ak (top nh)):=⟨rfl,rfl,rfl,∅,rfl,∅,∅⟩
def FD (F:bM K "is_name" "is_name" (top nh) f fd)(T:Nm mg)(gu:mg "LONGEST_NAME" = some (.int 8 t1))(fH:mg "SMALL_LETTERS" = some (.str uR t2))(ip:Fn P w K mg base 1 "made_of" ["text", "signs"] rC):aW P w K mg base d7 2 f fd ["thing"] (lZ K dw):=by
 refine F.ok Aa (fun vs H Q E h =>?_) (fun cQ A outer s H vs Q E hr h =>?_)
 ·obtain⟨v,d,rfl,_⟩:=h
  rfl
 obtain⟨v,d,rfl,hd,hw,q⟩:=h;have d6:=hr.units;have hq:=q H (av.refl _);refine⟨_,(ag (ar (fG (aq (jo K) rfl T.n_isinstance (by rfl) (aa (pv 0) (aa (bH rfl T.n_str (by rfl) (v := .ty "str") rfl) ae))) (fG (yk oM oM ai (aq (hX K) rfl T.n_len (by rfl) (aa (pv 0) ae)) (lS rfl gu)) (lD (aH (ip.mono ∅) hr rfl (aa (pv 0) (aa (vq rfl fH) ae)))))))),?_⟩;refine⟨_,rfl,.inl ⟨_, "str",d,_,rfl,hd,(uU K d).2.2.1,_,rfl,?_⟩⟩;cases d with
 | str x=>
  have e:=hd;unfold Den at e;subst e;have T5:x.length<=1000000:=hw;refine bN ⟨_,rfl,_,_,rfl,⟨sizeOk (Jh T5 ∅),rfl⟩,_,_,rfl,rfl,_,rfl,?_⟩;have hq:Q (.bl (decide ((1:Int)<=(x.length:Nat))&&(decide (((x.length:Nat):Int)<=8)&&gV x uR))) H:=hq;refine gj (fun c1 =>?_) (fun c1 =>?_)
  ·rw[c1,Yc] at hq;refine⟨_,_,rfl,rfl,_,rfl,gj (fun c2 =>?_) (fun c2 =>?_)⟩
   ·rw[c2,Yc] at hq;exact⟨_,rfl,x,_,rfl,T5,hq⟩
   ·rw[Ye.mpr c2,Yv] at hq;exact hq
  ·rw[Ye.mpr c1,Yv] at hq;exact⟨_,rfl,bC hq⟩
 | _=>exact bC hq
def An:aA ["thing"] ["thing"] (ak (top nO)):=⟨rfl,rfl,rfl,∅,rfl,∅,∅⟩
def Dp (F:bM K "is_code" "is_code" (top nO) f fd)(T:Nm mg)(kh:mg "SIGNS" = some (.str iQ t3))(ip:Fn P w K mg base 1 "made_of" ["text", "signs"] rC):aW P w K mg base d7 2 f fd ["thing"] (lZ K cz):=by
 refine F.ok An (fun vs H Q E h =>?_) (fun cQ A outer s H vs Q E hr h =>?_)
 ·obtain⟨v,d,rfl,_⟩:=h
  rfl
 obtain⟨v,d,rfl,hd,hw,q⟩:=h;have d6:=hr.units;have hq:=q H (av.refl _);refine⟨_,(ag (ar (fG (aq (jo K) rfl T.n_isinstance (by rfl) (aa (pv 0) (aa (bH rfl T.n_str (by rfl) (v := .ty "str") rfl) ae))) (fG (eG (IK K d6) (pv 0) ax (aK _)) (lD (aH (ip.mono ∅) hr rfl (aa (pv 0) (aa (vq rfl kh) ae)))))))),?_⟩;refine⟨_,rfl,.inl ⟨_, "str",d,_,rfl,hd,(uU K d).2.2.1,_,rfl,?_⟩⟩;cases d with
 | str x=>
  have e:=hd;unfold Den at e;subst e;have T5:x.length<=1000000:=hw;have hq:Q (.bl (!decide (V.str x=V.str (Qaa ""))&&gV x iQ)) H:=hq;refine bN ⟨_,rfl,.inl ⟨rfl,_,rfl,gj (fun c1 =>?_) (fun c1 =>?_)⟩⟩
  ·rw[c1,Yc] at hq;exact⟨_,rfl,x,_,rfl,T5,hq⟩
  ·rw[Ye.mpr c1,Yv] at hq;exact hq
 | _=>exact bC hq
def zi:aA ["thing"] ["thing"] (ak (top lN)):=⟨rfl,rfl,rfl,∅,rfl,∅,∅⟩
def AH (F:bM K "is_entry" "is_entry" (top lN) f fd)(T:Nm mg)(DR:Fn P w K mg base 2 "is_name" ["thing"] (lZ K dw))(Dn:Fn P w K mg base 2 "is_code" ["thing"] (lZ K cz)):aW P w K mg base d7 3 f fd ["thing"] (lZ K bz):=by
 refine F.ok zi (fun vs H Q E h =>?_) (fun cQ A outer s H vs Q E hr h =>?_)
 ·obtain⟨v,d,rfl,_⟩:=h
  rfl
 obtain⟨v,d,rfl,hd,hw,q⟩:=h;have d6:=hr.units;refine⟨_,(ag (ar (fG (aq (jo K) rfl T.n_isinstance (by rfl) (aa (pv 0) (aa (bH rfl T.n_tuple (by rfl) (v := .ty "tuple") rfl) ae))) (fG (eG (qd K d6) (aq (hX K) rfl T.n_len (by rfl) (aa (pv 0) ae)) ai (aK _)) (fG (aH (DR.mono ∅) hr rfl (aa (bJ (kq K) (pv 0) ai (fun _ _=>rfl)) ae)) (lD (aH (Dn.mono ∅) hr rfl (aa (bJ (kq K) (pv 0) ai (fun _ _=>rfl)) ae)))))))),?_⟩;refine⟨_,rfl,.inl ⟨_, "tuple",d,_,rfl,hd,(uU K d).2.2.2.2,_,rfl,?_⟩⟩;cases d with
 | tuple ds=>
  have e:=hd;unfold Den at e;obtain⟨a,us,rfl,hT,hds⟩:=e;have hl:=hds.len;refine bN ⟨_,rfl,_,_,rfl,.inr ⟨_,hT,rfl⟩,.inl ⟨rfl,_,rfl,gj (fun c1 =>?_) (fun c1 =>?_)⟩⟩
  ·have c1:V.int ((us.length:Nat):Int)=V.int 2:=of_decide_eq_true c1;have c1:us.length=2:=by injection c1 with c1;lia
   rw[hl] at c1
   match ds,c1,hds,hw,q with
   | [d1,d2],_,hds,hw,q=>
    unfold aV at hds;obtain⟨v1,r1,rfl,h1,hds⟩:=hds;unfold aV at hds;obtain⟨v2,r2,rfl,h2,hds⟩:=hds;unfold aV at hds;subst hds;have hw:QaD d1+1+(QaD d2+1+0)<=1000000:=by simpa only [QaD,Qay] using hw
    have q:∀H',av H H'->Q (.bl (dw d1&&cz d2)) H':=q;refine⟨_,rfl,.inr (.inl ⟨a,_,0,_,rfl,rfl,hT,rfl,v1,d1,rfl,h1,⋯,fun H1 sm1=>⟨_,rfl,gj (fun c2 =>?_) (fun c2 =>?_)⟩⟩)⟩
    ·refine⟨_,rfl,.inr (.inl ⟨a,_,1,_,rfl,rfl,sm1.cL hT,rfl,v2,d2,rfl,h2.same sm1,⋯,fun H2 iB =>?_⟩)⟩;have z:=q H2 (sm1.trans iB);rw[c2,Yc] at z;exact z
    ·have z:=q H1 sm1;rw[Ye.mpr c2,Yv] at z;exact z
  ·have c1:¬(V.int ((us.length:Nat):Int)=V.int 2):=of_decide_eq_false (Ye.mpr c1);have z:=q H (av.refl _);have e:bz (.tuple ds)=false:=by
    match ds,hl with
    | [],_=>rfl
    | [_],_=>rfl
    | [_,_],hl=>exact absurd (by rw[hl];rfl) c1
    | _::_::_::_,_=>rfl
   rw[e] at z;exact z
 | _=>exact bC (q H (av.refl _))
def GD {d:Qae}(h:dw d=true):∃x,d = .str x:=by
 cases d<;>first|exact⟨_,rfl⟩|(simp[dw] at h)
def GV {d:Qae}(h:cz d=true):∃x,d = .str x:=by
 cases d<;>first|exact⟨_,rfl⟩|(simp[cz] at h)
def xM {d:Qae}(h:bz d=true):∃x y:Str,d = .tuple [.str x,.str y]:=by
 cases d with
 | tuple ds=>
  match ds,h with
  | [],h=>simp[bz] at h
  | [_],h=>simp[bz] at h
  | [a,b],h=>
   have h:(dw a&&cz b)=true:=h;rw[Js] at h;obtain⟨x,rfl⟩:=GD h.1;obtain⟨y,rfl⟩:=GV h.2;exact⟨x,y,rfl⟩
  | _::_::_::_,h=>simp[bz] at h
 | _=>simp[bz] at h
def BV (ds:List Qae):QbP (.list ds) (.list [])=ds.isEmpty:=by
 cases ds<;>simp[QbP,Qb0]
def Ap:aA ["thing"] ["thing"] (ak (top nj)):=⟨rfl,rfl,rfl,∅,rfl,∅,∅⟩
def De (F:bM K "is_book" "is_book" (top nj) f fd)(T:Nm mg)(Ae:Fn P w K mg base 3 "is_entry" ["thing"] (lZ K bz)):aW P w K mg base d7 4 f fd ["thing"] (qT K):=by
 refine F.ok Ap (fun vs H Q E h =>?_) (fun cQ A outer s H vs Q E hr h =>?_)
 ·obtain⟨v,d,rfl,_⟩:=h
  rfl
 obtain⟨v,d,rfl,hd,hw,UB,Fg,q⟩:=h;have d6:=hr.units;refine⟨_,(af (aY (PW.pt (jg (de (cp (aq (jo K) rfl T.n_isinstance (by rfl) (aa (pv 0) (aa (bH rfl T.n_list (by rfl) (v := .ty "list") rfl) ae))))) (gR (aG (qd K d6) (pv 0) (il ae) (aK _))))) (ag (ar jH)) aF)
  (af (aY (de (cp (aq (Rc K rfl) rfl T.n_all (by rfl) (aa (gE rfl (dS (Nc:=["part"]) (Fc:=[]) (js:=[])) (MY K (pv 0)) (cf (i:=0) (n:=1) ∅) (fun _ _ _ _ _=>(aD (i:=0) (zd ["part"]) rfl (Qag rfl))) (fun _ _ _ _ _=>eF) (fun _ _ _ _ _=>(aH (Ae.mono ∅) hr rfl (aa (pv 0) ae)))) ae)))) (ag (ar jH)) aF)
  (ag (ar (eG (qd K d6) (aq (C6 (Me P w)) rfl T.n_len (by rfl) (aa (yP (Me P w) rfl (dS (Nc:=["name", "code"]) (Fc:=[]) (js:=[])) (MY K (pv 0)) (pK (dP (cf (i:=0) (n:=2) ∅) (dP (cf (i:=1) (n:=2) ∅) mK cK eY) cK (jZ cK eY))) (fun _ _ _ _ _=>(tupK K 2 rfl (aM (aD (i:=0) (zd ["name", "code"]) rfl (Qag rfl)) (aM (aD (i:=1) (zd ["name", "code"]) rfl (Qag rfl)) bU)))) (fun _ _ _ _ _=>eF) (fun _ _ _ _ _=>(pv 0))) ae)) (aq (hX K) rfl T.n_len (by rfl) (aa (pv 0) ae)) (aK _)))))),?_⟩
 refine⟨_,rfl,.inl ⟨_, "list",d,_,rfl,hd,(uU K d).2.2.2.1,_,rfl,?_⟩⟩;cases d with
 | list ds=>
  have e:=hd;unfold Den at e;obtain⟨a,us,rfl,hS,hds⟩:=e;have hl:=hds.len;have Fg:=Fg ds rfl;have hwt:Qay ds<=300000:=by simpa only [QaD] using hw
  refine bC ⟨_,rfl,by show 0<=Wp;decide,fun pe H1 n1 =>?_⟩;have Zs:Den K H1 (.list []) (.ref pe):=Den.list (bA.of n1.at) (Den.strs []);refine .inr ⟨_,_,hd.same n1.same,Zs,UB,∅,_,rfl,?_⟩;rw[BV];cases hem:ds.isEmpty with
  | true=>
   have z:=q H1 n1.same;have e:dE (.list ds)=false:=by simp[dE,hem]
   rw[e] at z;exact bN z
  | false=>
   refine bC ?_;have nC:=n1.same.seq hS;have Sd:=hds.same n1.same;have lw:=iO ds;refine⟨_,rfl,a,rfl,⟨_,nC⟩,?_⟩;refine fc (N:=ds.length) (fun i ys H'=>av H1 H'/\ys=((ds.take i).map bz).map V.bl) ⟨av.refl _,rfl⟩ ?_ ?_
   ·rintro i ys H2 Nx hi ⟨iB,rfl⟩ nx;obtain⟨x,hx,dx⟩:=Sd.get (i:=i) (Jd hi);refine⟨⟨_,_,iB.seq nC,hx⟩,Ub (show _<=300000 by rw[Jc,Jc,Uo];lia) ∅,?_⟩;rintro x' H3 ⟨rfl,hy⟩;have e:=hy _ (iB.seq nC);rw[hx] at e;cases e;refine gn ⟨_,rfl,_,_,rfl,dx.same iB,Jh (ie (n:=300000) hwt (Um hi)) ∅,fun H4 uH=>nx _ _ ⟨iB.trans uH,?_⟩⟩;rw[Yg hi,J4,J4]
    rfl
   ·rintro ys H2 ⟨iB,rfl⟩;refine⟨⟨_,iB.seq nC,by rw[hl];exact Je _⟩,fun p hp =>?_⟩;rw[Ym];refine⟨p,_,rfl,bA.of au,_,rfl,?_⟩;have Mu:av H1 (upd H2 p (.lst ((ds.map bz).map V.bl))):=iB.trans (bI hp _);have Sq:(ds.map bz).any id=ds.any bz:=by rw[QfG];rfl
    have Sq:(ds.map bz).all id=ds.all bz:=by rw[List.all_map];rfl
    rw[Sq];cases jJ:ds.all bz with
    | false=>
     have z:=q _ (n1.same.trans Mu);have e:dE (.list ds)=false:=by simp[dE,hem,jJ]
     rw[e] at z;exact bN z
    | true=>
     refine bC ?_;generalize upd H2 p (.lst ((ds.map bz).map V.bl))=H3 at Mu;have ent:∀i (hi:i<ds.length),∃x y:Str,ds[i] = .tuple [.str x,.str y]:=fun i hi=>xM (Wc.mp jJ _ (Um hi));refine⟨_,rfl,a,rfl,⟨_,Mu.seq nC⟩,fun D hD =>?_⟩;refine yO (N:=ds.length) (fun i H'=>H' D=some (gJ (Me P w) D (bV (fun i=>(ds.map gm).getD i Qat) i))/\∀a u,a≠D->H3 a=some u->H' a=some u) ⟨au,fun a u h e=>by rw[ao h];exact e⟩ ?_ ?_
     ·rintro i H4 Nx hi ⟨hD4,kp⟩ nx;obtain⟨x,hx,dx⟩:=(Sd.same Mu).get (i:=i) (Jd hi);obtain⟨nm,cd,ed⟩:=ent i hi;rw[ed] at dx;obtain⟨pa,rfl,hT⟩:=dx.pair;have uH:av H3 H4:=fun a u e=>kp a u (ay e hD) e;refine⟨⟨_,_,uH.seq (Mu.seq nC),hx⟩,?_⟩;rintro x' H5 ⟨rfl,hy⟩;have e:=hy _ (uH.seq (Mu.seq nC));rw[hx] at e;cases e;have enm:(ds.map gm).getD i Qat=nm:=by
       rw[show(ds.map gm).getD i Qat=((ds.map gm)[i]?).getD Qat from rfl,Jk,Jd hi,ed]
       rfl
      have ml:=ll (fun i=>(ds.map gm).getD i Qat) i;refine⟨pa,_,rfl,uH.cL hT,rfl,_,_,rfl,_,_,rfl,rfl,_,rfl,_,nm,hD4,rfl,⋯,nx _ ⟨?_,fun a u h e =>?_⟩⟩
      ·rw[au];show _=some (gJ (Me P w) D (oneMore (bV (fun i=>(ds.map gm).getD i Qat) i) ((ds.map gm).getD i Qat)));rw[enm]
       rfl
      ·rw[ao h];exact kp a u h e
     ·rintro H4 ⟨hD4,kp⟩;have uH:av H3 H4:=fun a u e=>kp a u (ay e hD) e;refine⟨⟨_,uH.seq (Mu.seq nC),by rw[hl];exact Je _⟩,?_⟩;refine⟨D,_,rfl,hD4,_,rfl,_,_,rfl,.inl ⟨_,uH.seq (Mu.seq nC),rfl⟩,.inl ⟨rfl,?_⟩⟩;have z:=q H4 (n1.same.trans (Mu.trans uH));have e:dE (.list ds)=decide (V.int ((bV (fun i=>(ds.map gm).getD i Qat) ds.length).length:Nat)=V.int (us.length:Nat)):=by
       show(!ds.isEmpty&&(ds.all bz&&decide ((bV (fun i=>(ds.map gm).getD i Qat) ds.length).length=ds.length)))=_;rw[hem,jJ,Bool.not_false,Yc,Yc,Wd,decide_eq_true_iff,decide_eq_true_iff,hl];constructor
       ·intro z;rw[z]
       ·intro z;injection z with z;lia
      rw[e] at z;exact z
 | _=>exact bN (q H (av.refl _))
end
def jG {H:Hp}{b c:Gc}:av (hM H b c) H:=fun a o e=>(lF e).1
def lj {K:Ja}{H:Hp}{ds:List Qae}{vs:List V}{j:Nat}{d:Qae}{v:V}(h:aV K H ds vs)(hd:ds[j]? = some d)(hv:vs[j]? = some v):Den K H d v:=by
 obtain⟨u,hu,q⟩:=h.get hd;rw[hv] at hu;cases hu;exact q
def hdI:List Qae->Bool
 | []=>true
 | .int _::_=>false
 | _::_=>true
mutual
def Qf:Qae->Bool
 | .list ds=>hdI ds&&zN ds
 | .tuple ds=>zN ds
 | _=>true
def zN:List Qae->Bool
 | []=>true
 | d::ds=>Qf d&&zN ds
end
def Ku {K:Ja}{H:Hp}{d:Qae}{i:Int}(h:Den K H d (.int i)):d = .int i:=by
 cases d with
 | int k=>unfold Den at h;cases h;rfl
 | none=>unfold Den at h;cases h
 | bool b=>unfold Den at h;cases h
 | str x=>unfold Den at h;cases h
 | list ds=>unfold Den at h;obtain⟨_,_,e,_⟩:=h;cases e
 | tuple ds=>unfold Den at h;obtain⟨_,_,e,_⟩:=h;cases e
 | dict _=>unfold Den at h;exact h.elim
mutual
def Den.hide {K:Ja}{H:Hp}{b c:Gc}{t:Int}(bx:Bx H b c t):∀{d:Qae} {v:V},Qf d=true->Den K H d v->Den K (hM H b c) d v
 | .none,_,_,h=>by unfold Den at h ⊢;exact h
 | .bool _,_,_,h=>by unfold Den at h ⊢;exact h
 | .int _,_,_,h=>by unfold Den at h ⊢;exact h
 | .str _,_,_,h=>by unfold Den at h ⊢;exact h
 | .list ds,_,n,h=>by
  unfold Den at h ⊢;unfold Qf at n;rw[Js] at n;obtain⟨a,vs,h1,h2,h3⟩:=h;refine⟨a,vs,h1,?_,aV.hide bx n.2 h3⟩;obtain⟨ns,bx⟩:=bx
  rcases h2 with (h2|⟨o,h2⟩)|h2
  ·refine .inl (.inl ?_);rw[cS (fun z=>by rw[z,bx.d] at h2;cases h2) (fun z =>?_)]
   ·exact h2
   rw[z,bx.l] at h2;cases h2;cases ds with
   | nil=>
    unfold aV at h3;have:=bx.ne;cases ns with
    | nil=>exact absurd this ∅
    | cons i ns=>cases h3
   | cons d ds=>
    unfold aV at h3;obtain⟨v,r,e,hv,_⟩:=h3;cases ns with
    | nil=>cases e
    | cons i ns=>
     cases e;rw[Ku hv] at n;exact absurd n.1 (by simp[hdI])
  ·refine .inl (.inr ⟨o,?_⟩);rw[cS (fun z=>by rw[z,bx.d] at h2;cases h2) (fun z=>by rw[z,bx.l] at h2;cases h2)];exact h2
  ·exact .inr h2
 | .tuple ds,_,n,h=>by
  unfold Den at h ⊢;unfold Qf at n;obtain⟨a,vs,h1,h2,h3⟩:=h;refine⟨a,vs,h1,?_,aV.hide bx n h3⟩;obtain⟨ns,bx⟩:=bx
  rcases h2 with (h2|⟨o,h2⟩)|h2
  ·refine .inl (.inl ?_);rw[cS (fun z=>by rw[z,bx.d] at h2;cases h2) (fun z=>by rw[z,bx.l] at h2;cases h2)];exact h2
  ·refine .inl (.inr ⟨o,?_⟩);rw[cS (fun z=>by rw[z,bx.d] at h2;cases h2) (fun z=>by rw[z,bx.l] at h2;cases h2)];exact h2
  ·exact .inr h2
 | .dict _,_,_,h=>by unfold Den at h;exact h.elim
def aV.hide {K:Ja}{H:Hp}{b c:Gc}{t:Int}(bx:Bx H b c t):∀{ds:List Qae} {vs:List V},zN ds=true->aV K H ds vs->aV K (hM H b c) ds vs
 | [],_,_,h=>by unfold aV at h ⊢;exact h
 | d::ds,_,n,h=>by
  unfold aV at h ⊢;unfold zN at n;rw[Js] at n;obtain⟨v,r,h1,h2,h3⟩:=h;exact⟨v,r,h1,Den.hide bx n.1 h2,aV.hide bx n.2 h3⟩
end
def Bz {i:Int}(h:i.natAbs<2^200):QaD (.int i)<=201:=by
 simp only[QaD]
 split
 ·lia
 ·rename_i h0;have Cf:i.natAbs≠0:=by
   intro z;exact h0 (by simp;lia)
  have:=(Nat.log2_lt Cf).mpr h;lia
def wM (K:Ja):Sp:=fun vs H Q _=>eZ fun(a:Gc) (ns:List Int)=>vs=[.ref a]/\bA K H a (ns.map V.int)/\ns.length<=63 /\
 ∀(b c:Gc) (H':Hp),Bx H' b c 0->H b=none->H c=none->av H (hM H' b c)->Q (.ref b) H'
def Den.ints {K:Ja}{H:Hp}:∀(ns:List Int),aV K H (ns.map Qdk) (ns.map V.int)
 | []=>by unfold aV;rfl
 | n::ns=>by
  rw[J3,J3];unfold aV;exact⟨_,_,rfl,by unfold Den;rfl,Den.ints ns⟩
def PX (ds:List Qae):QbP (.list ds) (.list [])=ds.isEmpty:=by
 cases ds<;>simp[QbP,Qb0]
def Ky {n:Nat}(ns:List Int):Sh (n+1) (.list (ns.map Qdk)):=Sh.list fun d hd=>by
 refine aj.el (Uu.mp hd) _ ?_;rintro i _ rfl;exact Sh.int
section
variable {P:Qaf}{w:Qah}{K:Ja}{mg:Str->Option Fk}{base:Heap}{f:Gc}{fd:Qad}
def iU:aA ["_law_script", "_law_cells"] ["_law_script"] (ak (top j9)):=⟨rfl,rfl,rfl,∅,rfl,∅,∅⟩
def Hu (F:bM K "_law_begin" "_law_begin" (top j9) f fd)(T:Nm mg):aW P w K mg base d7 1 f fd ["_law_script"] (wM K):=by
 refine F.ok iU (fun vs H Q E h =>?_) (fun cQ A outer s H vs Q E hr h =>?_)
 ·obtain⟨a,ns,rfl,_⟩:=h
  rfl
 obtain⟨a,ns,rfl,hS,hlen,q⟩:=h;have d6:=hr.units;refine⟨_,(af (aE (i:=1) iU.nd rfl (Qag rfl) (bh (FX K) rfl T.n_list (by rfl) (aa (dN (Vb K) (pv 0) je (cX ai)) ae)))
  (af (aY (aG (qd K d6) (pv 1) (il ae) (aK _)) (ag (aE (i:=1) iU.nd rfl (Qag rfl) (il (aa ai ae)))) aF)
  (ag (ar (RN (ym ax (pv 1) (ym ax ai Kr)) rfl rfl ∅ ∅))))),?_⟩
 refine⟨_,rfl,_,rfl,.inl ⟨a,_,rfl,hS,fun r1 H1 n1 =>?_⟩⟩;refine⟨r1,_,rfl,.inl (bA.of n1.at),fun r2 H2 n2=>gn ?_⟩;have hc:ly (ns.map V.int) none (some 63)=ns.map V.int:=by
  have e:=NG (ns.map V.int) 63;rw[U7 (by rw[Jc];exact hlen)] at e;exact e
 have L5:H2 r2=some (.lst (ns.map V.int)):=by rw[<-hc];exact n2.at
 have iB:=n1.same.trans n2.same;dsimp only;refine fJ (t:=Ll _ _ _) (fun σ H'=>eZ fun(r:Gc) (Kg:List Int) =>σ=[some (.ref a),some (.ref r)]/\H' r=some (.lst (Kg.map V.int))/\0<Kg.length/\Kg.length<=64/\H r=none/\av H H') (fun Nx nx =>?_) ?_
 ·refine⟨_,rfl,by show 0<=Wp;decide,fun r3 H3 n3 =>?_⟩;have d2:Den K H3 (.list (ns.map Qdk)) (.ref r2):=Den.list (bA.of (n3.same _ _ L5)) (Den.ints ns);have d3:Den K H3 (.list []) (.ref r3):=Den.list (bA.of n3.at) (Den.ints []);refine .inr ⟨_,_,d2,d3,(Ky (n:=1) ns).shaped ∅,∅,_,rfl,?_⟩;rw[PX];refine gj (fun e =>?_) (fun e =>?_)
  ·refine⟨by show 1<=Wp;decide,fun r4 H4 n4=>gn (nx _ _ ⟨r4,[_],rfl,n4.at,∅,∅,(iB.trans n3.same).free n4.nn,iB.trans (n3.same.trans n4.same)⟩)⟩
  ·refine nx _ _ ⟨r2,ns,rfl,n3.same _ _ L5,?_,⋯,n1.same.free n2.nn,iB.trans n3.same⟩;cases ns with
   | nil=>exact absurd rfl e
   | cons _ _=>exact QdE _
 intro σ H3;refine aj.go ?_;rintro r Kg rfl hr' l0 l1 hn sm;intro p H0 n0;refine⟨_,rfl,?_⟩;refine⟨n0.at,[(.inr "cells",.ref r),(.inr "turn",.int 0)],rfl,by show 2<=15;decide,fun H6 n6 =>?_⟩;have EL:r≠p:=ay hr' n0.nn;have hp:H p=none:=sm.free n0.nn;refine q p r H6 ⟨Kg,?_,?_,l0,l1⟩ hp hn (fun b o e =>?_)
 ·rw[n6.at];rfl
 ·rw[n6.ne EL,n0.ne EL];exact hr'
 ·have ZS:b≠p:=ay e hp;have UN:b≠r:=ay e hn;rw[cS ZS UN,n6.ne ZS,n0.ne ZS];exact sm _ _ e
end
def ur {K:Ja}{H:Hp}:∀{ns:List Int} {vs:List V},aV K H (ns.map Qdk) vs->vs=ns.map V.int
 | [],_,h=>by rw[QcL] at h;unfold aV at h;exact h
 | n::ns,_,h=>by
  rw[J3] at h;unfold aV at h;obtain⟨v,r,rfl,h1,h2⟩:=h;unfold Den at h1;rw[h1,ur h2];rfl
def Hs {K:Ja}{H:Hp}{ns:List Int}{v:V}(h:Den K H (.list (ns.map Qdk)) v):∃p,v = .ref p/\bA K H p (ns.map V.int):=by
 unfold Den at h;obtain⟨p,vs,rfl,h1,h2⟩:=h;rw[ur h2] at h1;exact⟨p,rfl,h1⟩
def yf.same {H H':Hp}{b c:Gc}{t:Int}{ns:List Int}(x:yf H b c t ns)(s:av H H'):yf H' b c t ns:=⟨s _ _ x.d,s _ _ x.l,x.ne,x.le⟩
section
variable {P:Qaf}{w:Qah}{K:Ja}{mg:Str->Option Fk}{base:Heap}{f:Gc}{fd:Qad}
def cG:aA ["_law_state", "_law_many", "_law_turn", "_law_place", "_law_cell", "_law_digit", "_law_prime", "_law_mixed_here"] ["_law_state", "_law_many"] (ak (top lO)):=⟨rfl,rfl,rfl,∅,rfl,∅,∅⟩
def LA (F:bM K "_law_take" "_law_take" (top lO) f fd)(T:Nm mg):aW P w K mg base d7 1 f fd ["_law_state", "_law_many"] Bn:=by
 refine F.ok cG (fun vs H Q E h =>?_) (fun cQ A outer s H vs Q E hr h =>?_)
 ·obtain⟨b,c,t,ns,many,rfl,_⟩:=h
  rfl
 obtain⟨b,c,t,ns,many,rfl,bx,t0,t1,m0,m1,q⟩:=h;have hu:=mn hr;refine⟨_,(af (aE (i:=2) cG.nd rfl (Qag rfl) (aB cu (bO hu (pv 0) ax (fun _ _=>rfl)) ai))
  (af (pH hu (pv 0) ax (pv 2) rfl)
  (af (aE (i:=3) cG.nd rfl (Qag rfl) (aB jw (pv 2) (aq (hX K) rfl T.n_len (by rfl) (aa (bO hu (pv 0) ax (fun _ _=>rfl)) ae))))
  (af (aE (i:=4) cG.nd rfl (Qag rfl) (bJ (kq K) (bO hu (pv 0) ax (fun _ _=>rfl)) (pv 3) (fun _ _=>rfl)))
  (af (aY (aG Gg (pv 4) (aB OE ai ai) (aK _)) (af (j1 (aq KG rfl T.n_divmod (by rfl) (aa (pv 4) (aa (pv 1) ae))) (tupK K 2 rfl (aM (P8 (bO hu (pv 0) ax (fun _ _=>rfl)) (pv 3) set_list) (aM (aD (i:=5) cG.nd rfl (Qag rfl)) bU))))
  (ag (ar (pv 5)))) aF)
  (af (aE (i:=6) cG.nd rfl (Qag rfl) (bJ (kq K) (Km (K:=K) (eV lit_int (eV lit_int (eV lit_int (eV lit_int (eV lit_int (eV lit_int (eV lit_int JC)))))))) (aB jw (pv 2) ai) (fun _ _=>rfl)))
  (af (aE (i:=7) cG.nd rfl (Qag rfl) (aB jw (aB rD (aB cu (aB cu (aB jw (pv 4) (pv 6)) (aB rD (aB rD (pv 2) (pv 2)) ai)) ai) ai) ai))
  (af (aE (i:=7) cG.nd rfl (Qag rfl) (aB jw (aB rD (pv 7) (pv 7)) (pv 6)))
  (ag (ar (aB jw (aB Cv (aB jw (aB rD (aB cu (pv 7) (aB rD (pv 2) ai)) ai) ai) ai) (pv 1)))))))))))),?_⟩
 refine⟨_,rfl,b,_,rfl,bx.He,.inl ⟨_,_,rfl,rfl,?_⟩⟩;refine⟨_,rfl,_,rfl,b,_,rfl,bx.GL (t+1),?_⟩;have zy:=bx.turned (t+1);refine⟨_,rfl,_,rfl,b,_,rfl,zy.nD,_,_,rfl,.inl ⟨_,bA.of zy.l,rfl⟩,_,_,rfl,rfl,?_,?_⟩
 ·rw[Jc];have:=zy.ne;lia
 have hlen:(ns.map V.int).length=ns.length:=Jc _;have Ho:0<=(t+1)%((ns.map V.int).length:Int):=QcI _ (by have:=zy.ne;lia);have AA:(t+1)%((ns.map V.int).length:Int)<ns.length:=by rw[hlen];exact Qcc _ (by have:=zy.ne;lia)
 refine aj.el (at_of Ho AA) _ ?_;rintro v hv UP;refine⟨_,rfl,b,_,rfl,zy.nD,_,rfl,.inl ⟨c,_,_,_,rfl,rfl,bA.of zy.l,hv,?_⟩⟩;refine⟨_,rfl,_,_,rfl,rfl,⟨∅,∅,∅⟩,_,_,rfl,rfl,_,rfl,?_⟩;refine gj (fun _ =>?_) (fun _ =>?_)
 ·refine⟨_,rfl,_,rfl,v,many,rfl,⟨m0,⋯⟩,fun pt H2 n2 =>?_⟩;obtain⟨UM,hpc⟩:pt≠b/\pt≠c:=⟨fun z=>(by have:=n2.nn;rw[z,zy.d] at this;cases this),fun z=>(by have:=n2.nn;rw[z,zy.l] at this;cases this)⟩
  have Qd:=zy.same n2.same;refine⟨pt,_,rfl,bG.of n2.at,rfl,_,_,rfl,?_⟩;refine⟨_,rfl,b,_,rfl,Qd.nD,_,rfl,c,_,_,_,rfl,rfl,Qd.l,NW Ho (by simpa only [hlen] using AA),?_⟩;refine⟨_,_,rfl,rfl,_,rfl,?_⟩;refine q (v%many) _ (ns.set ((t+1)%((ns.map V.int).length:Int)).toNat (v / many)) (QcI _ ⋯) (Qcc _ m0) ⟨?_,?_,?_,?_⟩ ?_
  ·rw[ao Qd.bc];exact Qd.d
  ·rw[au,List.map_set]
  ·rw[We];exact zy.ne
  ·rw[We];exact zy.le
  ·rw[Dc];refine sj fun a o h1 h2 e =>?_;rw[n2.ne (fun z =>?_),ao h1]
   ·exact e
   ·have z2:=n2.nn;rw[ao UM,<-z,e] at z2;cases z2
 ·intro v1 H2 iB d2;obtain⟨L,hL,jJ,d2⟩:∃L:List Int,L.length=7/\(∀x∈L,0<x/\x<2147483648)/\Den K H2 (.list (L.map Qdk)) v1:=by
   refine⟨[_,_,_,_,_,_,_],?_,?_,d2.same GH⟩
   ·rfl
   ·decide
  obtain⟨pp,rfl,hS⟩:=Hs d2;have h70:0<=(t+1)%7:=QcI _ ∅;have h71:(t+1)%7<7:=Qcc _ ∅;have Qd:=zy.same iB;refine⟨_,rfl,_,_,rfl,rfl,(by dsimp only;decide),?_⟩;refine aj.el (at_of h70 (show(t+1)%7<(L.length:Int) by rw[hL];exact h71)) _ ?_;rintro pr EL hpr';have ZK:=jJ pr (Jy hpr');refine .inl ⟨pp,_,_,_,rfl,rfl,hS,EL,?_⟩;obtain⟨pr0,pr1⟩:=ZK;refine⟨_,rfl,_,rfl,_,_,rfl,rfl,pr0,_,rfl,_,rfl,.inl ⟨_,_,rfl,rfl,.inl ⟨⋯,⋯⟩,.inl ⟨_,_,rfl,rfl,.inr ⟨∅,∅⟩,.inl ⟨_,_,rfl,rfl,.inl ⟨_,_,rfl,rfl,.inl ⟨_,_,rfl,rfl,.inr ⟨∅,∅⟩,_,_,rfl,rfl,(by dsimp only;decide),?_⟩⟩⟩⟩⟩⟩;have cm:∀(x y p:Int),0<p->p<2^64->zJ (x%p) y:=fun x y p h0 h1=>Po h0 h1;refine⟨_,rfl,_,rfl,.inl ⟨_,_,rfl,rfl,cm _ _ _ ∅ ∅,?_⟩⟩;refine⟨_,rfl,_,_,rfl,rfl,pr0,?_⟩;refine⟨_,rfl,_,rfl,.inl ⟨_,_,rfl,rfl,.inl ⟨⋯,⋯⟩,.inl ⟨_,_,rfl,rfl,.inl ⟨_,_,rfl,rfl,.inr ⟨∅,∅⟩,_,_,rfl,rfl,(by dsimp only;decide),_,_,rfl,rfl,⟨∅,∅⟩,_,rfl,_,_,rfl,rfl,m0,?_⟩⟩⟩⟩;refine q _ _ ns (QcI _ ⋯) (Qcc _ m0) Qd ?_;have:=av.hM (b:=b) (c:=c) iB;rw[DX] at this;exact this
end
def kz (x:Str):Bool:=x.cps.all (· < 128)
mutual
def Pz:Qae->Bool
 | .none | .bool _=>true
 | .int i=>decide (i.natAbs<10^40)
 | .str x=>kz x
 | .list ds | .tuple ds=>LP ds
 | .dict _=>false
def LP:List Qae->Bool
 | []=>true
 | d::ds=>Pz d&&LP ds
end
def E2 (ts:List Str):(listText ts).length<=piled ts+2:=by
 unfold listText;rw[QdA];have e:(((("]" : String):Str))).length=1:=rfl;rw[e];cases ts with
 | nil=>exact Je _
 | cons t ts=>
  have q:=textFrom_length_pos ts 1 ((("[" : String):Str)++((if 0>0 then ", " else "" : String):Str)++t) ∅;show(textFrom 1 _ ts).length+1<=_;rw[q,QdA,QdA,piled_cons];have e1:(((("[" : String):Str))).length=1:=rfl;have e2:((((if 0>0 then ", " else "" : String):Str))).length=0:=rfl;rw[e1,e2];lia
def Ec (ts:List Str):(tupleText ts).length<=piled ts+3:=by
 unfold tupleText;rw[QdA,QdA];have e1:((("(" : String):Str)).length=1:=rfl;have e3:(((if ts.length==1 then ",)" else ")" : String):Str)).length<=2:=by split<;>decide
 have e2:(Str.join ", " ts).length<=piled ts:=by
  cases ts with
  | nil=>exact Je _
  | cons t ts=>have:=join_length_add (t::ts) (by simp);lia
 rw[e1];lia
def LO {i:Int}(h:i.natAbs<10^40):(Qaa (toString i)).length<=41:=by
 cases i with
 | ofNat n=>
  have:=QdL (v:=Int.ofNat n) (by simp) (k:=40) ∅ (by
   have h:n<10^40:=h;show((n:Nat):Int)<10^40
   exact_mod_cast h)
  lia
 | negSucc n=>
  have h:n+1<10^40:=h;have:=QdL (v:=Int.ofNat (n+1)) (by show(0:Int)<=((n+1:Nat):Int);lia) (k:=40) ∅ (by
   show((n+1:Nat):Int)<10^40
   exact_mod_cast h)
  have e:toString (Int.negSucc n) = "-" ++ toString (Int.ofNat (n+1)):=rfl;rw[e];have e2:∀a b:String,(Qaa (a++b)).length=(Qaa a).length+(Qaa b).length:=fun a b=>by
   simp[PyProof.Rows.ofString_length]
  rw[e2];have e3:(Qaa "-").length=1:=rfl;lia
mutual
def yI:∀(d:Qae),Pz d=true->d.shown.length<=44*d.weight+42/\d.showable=true/\d.canLay0=true
 | .none,_=>⟨∅,rfl,rfl⟩
 | .bool b,_=>⟨by cases b<;>decide +kernel,rfl,rfl⟩
 | .int i,h=>by
  have h:i.natAbs<10^40:=by simpa [Pz] using h
  refine⟨?_,?_,rfl⟩
  ·have:=LO h;simp only[Qea];show(Qaa (toString i)).length<=_;lia
  ·simp only[Qey,decide_eq_true_eq]
   by_cases z:i.natAbs=0
   ·rw[z];decide
   ·exact(Nat.log2_lt z).mpr (Jt h ∅)
 | .str x,h=>by
  have hx:∀c∈x.cps.toList,c<128:=fun c hc=>by
   have h:kz x=true:=by simpa only [Pz] using h
   unfold kz at h;rw[Yw] at h;have:=h c (by simpa using hc);simpa using this
  refine⟨?_,rfl,?_⟩
  ·have:=StrLaws.reprText_len x fun c hc=>Jt (hx c hc) ∅;simp only[Qea,QaD];have e:x.cps.size=x.length:=rfl;lia
  ·exact(Sh.str (n:=0) (eu fun ch hc=>by have:=hx ch hc;lia)).1
 | .list ds,h=>by
  obtain⟨h1,h2,h3⟩:=nE ds (by simpa only [Pz] using h);refine⟨?_,by simpa only [Qey] using h2,by simpa only [QbA] using h3⟩;have:=E2 (Qdr ds);simp only[Qea,QaD];lia
 | .tuple ds,h=>by
  obtain⟨h1,h2,h3⟩:=nE ds (by simpa only [Pz] using h);refine⟨?_,by simpa only [Qey] using h2,by simpa only [QbA] using h3⟩;have:=Ec (Qdr ds);simp only[Qea,QaD];lia
 | .dict _,h=>by simp[Pz] at h
def nE:∀(ds:List Qae),LP ds=true->piled (Qdr ds)<=44*Qay ds/\Qf8 ds=true/\Qce ds=true
 | [],_=>⟨Je _,rfl,rfl⟩
 | d::ds,h=>by
  simp only[LP,Js] at h;refine aj.el (yI d h.1) _ ?_;rintro a1 a2 a3;refine aj.el (nE ds h.2) _ ?_;rintro b1 b2 b3;refine⟨?_,by simp only[Qf8,a2,b2];rfl,by simp only[Qce,a3,b3];rfl⟩;simp only[Qdr,Qay,piled_cons];lia
end
def u5 {ds:List Qae}:LP ds=true ↔ ∀d∈ds,Pz d=true:=by
 induction ds with
 | nil=>simp[LP]
 | cons d ds ih=>simp[LP,ih]
def vp {m:Nat}:∀{ds:List Qae},(∀e∈ds,e.depth<=m)->Qbp ds<=m
 | [],_=>by simp[Qbp]
 | d::ds,h=>by
  have:=vp (m:=m) (ds:=ds) fun e he=>h e (Jl _ he);have:=h d Jo;simp only[Qbp];lia
structure Gd (w dp:Nat)(d:Qae):Prop where
 pz:Pz d=true
 wt:d.weight<=w
 dp:d.depth<=dp
def Gd.mono {w dp w' R8:Nat}{d:Qae}(h:Gd w dp d)(hw:w<=w')(hd:dp<=R8):Gd w' R8 d:=⟨h.pz,Jh h.wt hw,Jh h.dp hd⟩
def Gd.shaped {w dp:Nat}{d:Qae}(h:Gd w dp d)(hd:dp<=64):QaK d=true:=by
 unfold QaK;rw[(yI d h.pz).2.2,decide_eq_true (Jh h.dp hd)];rfl
def G1 (xs ys:List Qae):Qay (xs++ys)=Qay xs+Qay ys:=by
 induction xs with
 | nil=>simp[Qay]
 | cons x xs ih=>rw[Qdp];simp only[Qay,ih];lia
structure Gs (w dp:Nat)(ds:List Qae):Prop where
 pz:∀d∈ds,Pz d=true
 wt:Qay ds<=w
 dp:∀d∈ds,d.depth<=dp
def Gs.list {w dp:Nat}{ds:List Qae}(h:Gs w dp ds):Gd w (dp+1) (.list ds):=⟨by simp only[Pz];exact u5.mpr h.pz,by simp only[QaD];exact h.wt,by simp only[Qbq];have:=vp h.dp;lia⟩
def Gs.tuple {w dp:Nat}{ds:List Qae}(h:Gs w dp ds):Gd w (dp+1) (.tuple ds):=⟨by simp only[Pz];exact u5.mpr h.pz,by simp only[QaD];exact h.wt,by simp only[Qbq];have:=vp h.dp;lia⟩
def Gs.mono {w dp w' R8:Nat}{ds:List Qae}(h:Gs w dp ds)(hw:w<=w')(hd:dp<=R8):Gs w' R8 ds:=⟨h.pz,Jh h.wt hw,fun d m=>Jh (h.dp d m) hd⟩
def Gs.app {w dp w':Nat}{xs ys:List Qae}(h:Gs w dp xs)(g:Gs w' dp ys):Gs (w+w') dp (xs++ys):=
 ⟨fun d m=>(Uq.mp m).elim (h.pz d) (g.pz d),by rw[G1];have:=h.wt;have:=g.wt;lia,fun d m=>(Uq.mp m).elim (h.dp d) (g.dp d)⟩
def Gs.one {w dp:Nat}{d:Qae}(h:Gd w dp d):Gs (w+1) dp [d]:=
 ⟨fun e m=>by rw[Jz.mp m];exact h.pz,by have:=h.wt;simp only[Qay];lia,fun e m=>by rw[Jz.mp m];exact h.dp⟩
def Gs.cons {w dp w':Nat}{d:Qae}{ds:List Qae}(h:Gd w dp d)(g:Gs w' dp ds):Gs (w+1+w') dp (d::ds):=(Gs.one h).app g
def Gs.nil {dp:Nat}:Gs 0 dp []:=⟨(fun d m=>nomatch m),Je _,(fun d m=>nomatch m)⟩
def Gd.int {w dp:Nat}{i:Int}(h:i.natAbs<10^40)(hw:201<=w):Gd w dp (.int i):=⟨by simpa [Pz] using h,Jh (Bz (Jt h ∅)) hw,by simp[Qbq]⟩
def Gd.str {w dp:Nat}{x:Str}(h:kz x=true)(hw:x.length<=w):Gd w dp (.str x):=⟨by simpa only [Pz] using h,by simp only[QaD];exact hw,by simp[Qbq]⟩
def wm {K:Ja}{H:Hp}{x:Str}:Den K H (.str x) (.str x):=by unfold Den;rfl
def sR {K:Ja}{H:Hp}{x:Int}:Den K H (.int x) (.int x):=by unfold Den;rfl
def oK {K:Ja}{H:Hp}:aV K H [] []:=by unfold aV;rfl
def bQ {K:Ja}{H:Hp}{d:Qae}{v:V}{ds:List Qae}{vs:List V}(h:Den K H d v)(g:aV K H ds vs):aV K H (d::ds) (v::vs):=by unfold aV;exact⟨_,_,rfl,h,g⟩
def Cu {K:Ja}{G:Hp}{p:Gc}{ds:List Qae}{vs:List V}(h:G p=some (.tup vs))(g:aV K G ds vs):Den K G (.tuple ds) (.ref p):=by unfold Den;exact⟨p,vs,rfl,bG.of h,g⟩
def ME {x:Str}:kz x=true ↔ ∀c∈x.cps.toList,c<128:=by
 unfold kz;rw[Yw];constructor
 ·intro h c hc;have:=h c (by simpa using hc);simpa using this
 ·intro h c hc;have:=h c (by simpa using hc);simpa using this
def OH:Qae->Nat
 | .list ds | .tuple ds=>ds.length
 | _=>0
def gN:Qae->Qae
 | .tuple ds =>.list ds
 | d=>d
def cU:Qae->List (Str×Str)
 | .list ds=>ds.map fun d=>match d with
  | .tuple [.str x,.str y]=>(x,y)
  | _=>(Qat,Qat)
 | _=>[]
def uX {d:Qae}(h:dE d=true):d=aO (cU d)/\∀q∈cU d,dw (.str q.1)=true/\cz (.str q.2)=true:=by
 cases d with
 | list ds=>
  replace h:(!ds.isEmpty&&(ds.all bz&&decide ((bV (fun i=>(ds.map gm).getD i Qat) ds.length).length=ds.length)))=true:=h;rw[Js,Js,Wc] at h;have he:=h.2.1;clear h
  induction ds with
  | nil=>exact⟨rfl,fun q hq=>nomatch hq⟩
  | cons e ds ih=>
   obtain⟨e1,e2⟩:=ih fun x hx=>he x (Jl _ hx);have z:=he e Jo;obtain⟨x,y,rfl⟩:=xM z;have z:(dw (.str x)&&cz (.str y))=true:=z;rw[Js] at z;have e1:ds=(cU (.list ds)).map fun q =>.tuple [.str q.1,.str q.2]:=Qd5 e1;refine⟨?_,fun q hq =>?_⟩
   ·show PyData.list (.tuple [.str x,.str y]::ds) = .list (.tuple [.str x,.str y]::(cU (.list ds)).map fun q =>.tuple [.str q.1,.str q.2]);rw[<-e1]
   ·rcases Jx.mp (show q∈(x,y)::cU (.list ds) from hq) with rfl|hq
    ·exact z
    ·exact e2 q hq
 | _=>simp[dE] at h
def eM {x y:Str}(h:x.cps.toList=y.cps.toList):x=y:=by
 cases x;cases y
 congr 1
 exact Array.toList_inj.mp h
def uL:∀(p:Str) (l:List Str),QeH p l=true->(p::l).Pairwise fun a b=>a.cps.toList<=b.cps.toList
 | p,[],_=>by simp
 | p,x::r,h=>by
  have h:(!Spec.ltCps x.cps.toList p.cps.toList&&QeH x r)=true:=h;rw[Js,PyProof.Rows.ltCps_eq,Bool.not_eq_true',decide_eq_false_iff_not] at h;have ih:=uL x r h.2;have px:p.cps.toList<=x.cps.toList:=h.1;refine List.pairwise_cons.mpr ⟨fun y hy =>?_,ih⟩
  rcases Jx.mp hy with rfl|hy
  ·exact px
  ·exact List.le_trans px ((List.pairwise_cons.mp ih).1 y hy)
def ue {a:List Str}(h:Qa6 a=true):a.Pairwise fun a b=>a.cps.toList<=b.cps.toList:=by
 cases a with
 | nil=>exact .nil
 | cons p l=>exact uL p l h
def Dm {a b:List Str}(h:a.Perm b)(ha:Qa6 a=true)(hb:Qa6 b=true):a=b:=
 h.eq_of_pairwise (fun x y _ _ h1 h2=>eM (List.le_antisymm h1 h2)) (ue ha) (ue hb)
def xF (bk:List (Str×Str)):Bool := @decide (fE (bk.map (·.2))) (Qbx _)
def dz (names:List Str)(d:Qae):Bool:=dE (gN d)&&(decide (((cU (gN d)).map (·.1)).Perm names)&&xF (cU (gN d)))
structure MJ (d:Qae):Prop where
 pz:Pz d=true
 wt:d.weight<=300000
 sh:QaK d=true
 ze:∀ds,gN d = .list ds->ds.length<=60
 cd:∀q∈cU (gN d),q.2.length<=200000
def AJ (d:Qae):(gN d).weight=d.weight:=by cases d<;>simp only[gN,QaD]
def N5 {d:Qae}(h:Pz d=true):Pz (gN d)=true:=by cases d<;>simpa only [gN,Pz] using h
def Oe {d:Qae}(h:QaK d=true):QaK (gN d)=true:=by cases d<;>exact h
def PF {K:Ja}{H:Hp}{bk:List (Str×Str)}{v:V}(h:Den K H (aO bk) v):eZ fun(a:Gc) (us:List V)=>v = .ref a/\bA K H a us/\us.length=bk.length/\∀(i:Nat) (q:Str×Str),bk[i]? = some q->∃b:Gc,us[i]? = some (.ref b)/\bG K H b [.str q.1,.str q.2]:=by
 unfold aO Den at h;obtain⟨a,us,rfl,hS,hds⟩:=h;refine⟨a,us,rfl,hS,by have:=hds.len;rw[Jc] at this;exact this,fun i q e =>?_⟩;obtain⟨u,hu,du⟩:=hds.get (i:=i) (d := .tuple [.str q.1,.str q.2]) (by rw[Jk,e];rfl);unfold Den at du;obtain⟨b,vs,rfl,hT,hd⟩:=du;unfold aV at hd;obtain⟨x,r,rfl,hx,hd⟩:=hd;unfold aV at hd;obtain⟨y,r,rfl,hy,hd⟩:=hd;unfold aV at hd;unfold Den at hx hy;subst hd hx hy;exact⟨b,hu,hT⟩
def xv:∀(a b:List Str),Qb0 (a.map Qcp) (b.map Qcp)=decide (a=b)
 | [],[]=>by simp[Qb0]
 | [],_::_=>by simp[Qb0]
 | _::_,[]=>by simp[Qb0]
 | x::a,y::b=>by
  rw[J3,J3];simp only[Qb0,QbP,xv a b,List.cons.injEq,Bool.decide_and]
  rfl
def Bd {x:Str}(h:kz x=true):∀c∈x.cps.toList,c<128:=fun c hc=>by
 unfold kz at h;rw[Yw] at h;have:=h c (by simpa using hc);simpa using this
def Ic {ks:List Str}(h:∀x∈ks,kz x=true):QaK (.list (ks.map Qcp))=true:=(Sh.list (n:=0) fun d hd=>by
 obtain⟨x,hx,rfl⟩:=Uu.mp hd;exact Sh.str (eu fun ch hc=>by have:=Bd (h x hx) ch hc;lia)).shaped ∅
def Ha (K:Ja):Sp:=fun vs H Q _=>tG fun(v:V) (d:Qae) (p:Gc) (ns:List Str)=>vs=[v,.ref p]/\Den K H d v/\MJ d/\(bA K H p (ns.map V.str)\/bG K H p (ns.map V.str))/\ns.length<64/\(∀x∈ns,kz x=true)/\∀H',av H H'->Q (.bl (dz ns d)) H'
section
variable {P:Qaf}{w:Qah}{K:Ja}{mg:Str->Option Fk}{base:Heap}{f:Gc}{fd:Qad}
def gf:aA ["thing", "names", "book"] ["thing", "names"] (ak (top eC)):=⟨rfl,rfl,rfl,∅,rfl,∅,∅⟩
def N4 (F:bM K "is_free_book_of" "is_free_book_of" (top eC) f fd)(T:Nm mg)(gq:mg "sorted" = none)(D9:Fn P w K mg base 4 "is_book" ["thing"] (qT K))(PV:Fn P w K mg base 3 "free" ["book"] (zW K)):aW P w K mg base d7 5 f fd ["thing", "names"] (Ha K):=by
 refine F.ok gf (fun vs H Q E h =>?_) (fun cQ A outer s H vs Q E hr h =>?_)
 ·obtain⟨v,d,p,ns,rfl,_⟩:=h
  rfl
 obtain⟨v,d,p,ns,rfl,hd,fit,IW,nl,na,q⟩:=h;have d6:=hr.units;refine⟨_,(af (aE (i:=2) gf.nd rfl (Qag rfl) (iz (cp (aq (jo K) rfl T.n_isinstance (by rfl) (aa (pv 0) (aa (bH rfl T.n_tuple (by rfl) (v := .ty "tuple") rfl) ae)))) (bh (FX K) rfl T.n_list (by rfl) (aa (pv 0) ae)) (pv 0)))
  (af (aY (PW.pt (jg (de (cp (aH (D9.mono ∅) hr rfl (aa (pv 2) ae)))) (gR (aG (IK K d6) (aq (xG K) rfl gq (by rfl) (aa (gE rfl (dS (Nc:=["name", "code"]) (Fc:=[]) (js:=[])) (MY K (pv 2)) (pK (dP (cf (i:=0) (n:=2) ∅) (dP (cf (i:=1) (n:=2) ∅) mK cK eY) cK (jZ cK eY))) (fun _ _ _ _ _=>(tupK K 2 rfl (aM (aD (i:=0) (zd ["name", "code"]) rfl (Qag rfl)) (aM (aD (i:=1) (zd ["name", "code"]) rfl (Qag rfl)) bU)))) (fun _ _ _ _ _=>eF) (fun _ _ _ _ _=>(pv 0))) ae)) (aq (xG K) rfl gq (by rfl) (aa (pv 1) ae)) (aK _))))) (ag (ar jH)) aF)
  (ag (ar (aH (PV.mono ∅) hr rfl (aa (pv 2) ae)))))),?_⟩
 refine nz (te:=V4 _ _ _) (fun v2 H'=>av H H'/\Den K H' (gN d) v2) (fun Qn qn =>?_) ?_
 ·refine⟨_,rfl,.inl ⟨_, "tuple",d,_,rfl,hd,(uU K d).2.2.2.2,_,rfl,?_⟩⟩;cases d with
  | tuple ds=>
   have e:=hd;unfold Den at e;obtain⟨a,us,rfl,hT,hds⟩:=e;refine bN ⟨_,rfl,a,us,rfl,.inr hT,fun l H1 n1=>qn _ _ ⟨n1.same,?_⟩⟩;show Den K H1 (.list ds) _;unfold Den;exact⟨l,us,rfl,bA.of n1.at,hds.same n1.same⟩
  | _=>exact bC ⟨_,rfl,qn _ _ ⟨av.refl _,hd⟩⟩
 rintro v2 H1 ⟨s1,d1⟩;refine gn ?_;refine⟨_,rfl,v2,gN d,rfl,d1,by rw[AJ];exact fit.wt,Oe fit.sh,fun ds e=>Jh (fit.ze ds e) ∅,fun H2 s2 =>?_⟩;have zD:=s1.trans s2;refine⟨_,rfl,?_⟩;cases hb:dE (gN d) with
 | false=>
  have z:=q H2 zD;rw[show dz ns d=false by unfold dz;rw[hb,Yv]] at z;exact bN (bN z)
 | true=>
  obtain⟨eb,ok⟩:=uX hb;have fl:=fit.ze (match gN d with | .list ds=>ds|_=>[]) (by rw[eb];rfl);have d2:=d1.same s2;rw[eb] at d2;have bl:(cU (gN d)).length<=60:=by
   rw[eb] at fl;have:((cU (gN d)).map fun q=>QcE [.str q.1,.str q.2]).length<=60:=fl;rw[Jc] at this;exact this
  have wt:(aO (cU (gN d))).weight<=300000:=by rw[<-eb,AJ];exact fit.wt
  have pzb:Pz (aO (cU (gN d)))=true:=by rw[<-eb];exact N5 fit.pz
  have fb:dz ns d=(decide (((cU (gN d)).map (·.1)).Perm ns)&&xF (cU (gN d))):=by unfold dz;rw[hb,Yc]
  have cd:=fit.cd;generalize cU (gN d)=bk at d2 bl wt fb ok pzb cd;rw[fb] at q;refine bC ?_;obtain⟨a,us,rfl,hS,hul,hds⟩:=PF d2;have pz:Pz (aO bk)=true:=pzb;have az:∀x∈bk.map (·.1),kz x=true:=fun x hx=>by
   obtain⟨q0,hq0,rfl⟩:=Uu.mp hx;have h1:LP (bk.map fun q=>QcE [.str q.1,.str q.2])=true:=by simpa only [aO,Pz] using pz
   have h2:=u5.mp h1 _ (Uu.mpr ⟨q0,hq0,rfl⟩);simp only[Pz,LP,Js] at h2;exact h2.1
  have small:∀{n:Nat},n<=10000->n<Wp:=fun h=>Ub h ∅;refine⟨_,rfl,a,rfl,⟨_,hS⟩,?_⟩;refine fc (N:=bk.length) (fun i ys H'=>av H2 H'/\ys=((bk.take i).map (·.1)).map V.str) ⟨av.refl _,rfl⟩ ?_ ?_
  ·rintro i ys H3 Ny hi ⟨s3,rfl⟩ ny;obtain⟨b,vB,hT⟩:=hds i bk[i] (Jd hi);refine⟨⟨_,_,s3.seq hS,vB⟩,small (by rw[Jc,Jc,Uo];lia),?_⟩;rintro x' H4 ⟨rfl,hy⟩;have e:=hy _ (s3.seq hS);rw[vB] at e;cases e;refine⟨b,_,rfl,s3.cL hT,rfl,_,_,rfl,gn ⟨_,_,rfl,gn ⟨rfl,_,rfl,ny _ _ ⟨s3,?_⟩⟩⟩⟩;rw[Yg hi,J4,J4]
   rfl
  ·rintro ys H3 ⟨s3,rfl⟩;refine⟨⟨_,s3.seq hS,by rw[hul];exact Je _⟩,fun pv hp =>?_⟩;rw[Ym];have Zo:av H2 (upd H3 pv (.lst ((bk.map (·.1)).map V.str))):=s3.trans (bI hp _);refine⟨pv,bk.map (·.1),rfl,.inl (bA.of au),by rw[Jc];lia,fun ms q1 H4 pm so n4 =>?_⟩;have s4:=Zo.trans n4.same;refine⟨_,rfl,p,ns,rfl,IW.imp (zD.trans s4).seq (zD.trans s4).cL,nl,fun ms2 q2 H5 Kc so2 n5 =>.inr ⟨.list (ms.map .str),.list (ms2.map .str),Den.list (bA.of (n5.same _ _ n4.at)) (Den.strs _),Den.list (bA.of n5.at) (Den.strs _),Ic fun x hx=>az x (pm.mem_iff.mp hx),Ic fun x hx=>na x (Kc.mem_iff.mp hx),?_⟩⟩;have s5:=s4.trans n5.same;have ev:QbP (.list (ms.map .str)) (.list (ms2.map .str))=decide (ms=ms2):=by simp only[QbP];exact xv ms ms2
   rw[ev]
   by_cases e:ms=ms2
   ·have pp:(bk.map (·.1)).Perm ns:=pm.symm.trans (by rw[e];exact Kc);rw[show decide ((bk.map (·.1)).Perm ns)=true from decide_eq_true pp,Yc] at q;rw[decide_eq_true e];refine⟨_,rfl,bC ⟨_,rfl,.ref a,bk,rfl,d2.same s5,⋯,cd,fun fr H6 s6 =>?_,fun fr H6 s6 =>?_⟩⟩
    ·have z:=q H6 (zD.trans (s5.trans s6));rw[show xF bk=true from @decide_eq_true _ (Qbx _) fr] at z;exact z
    ·have z:=q H6 (zD.trans (s5.trans s6));rw[show xF bk=false from @decide_eq_false _ (Qbx _) fr] at z;exact z
   ·have np:¬(bk.map (·.1)).Perm ns:=fun pp=>e (Dm (pm.trans (pp.trans Kc.symm)) so so2);have z:=q H5 (zD.trans s5);rw[show decide ((bk.map (·.1)).Perm ns)=false from decide_eq_false np,Yv] at z;rw[decide_eq_false e];exact⟨_,rfl,bN z⟩
end
abbrev aI:List Str:=["set", "add", "take", "tell", "ask", "jump", "zero", "stop", "farjump", "farzero", "skip"]
abbrev bS:List Str:=["a", "b", "c", "d"]
abbrev bB:List Str:=["none", "one", "two", "three", "four", "five", "six", "seven", "eight"]
def qw:Qae->Bool
 | .int _=>true
 | _=>false
def fg (bk:List (Str×Str)):List (Key×V):=bk.map fun q=>((Qa8 q.1:Key),V.str q.2)
def aU:List (Str×Str)->Str->Str
 | [],_=>Qat
 | q::r,x=>if q.1=x then q.2 else aU r x
def lP (bk:List (Str×Str))(near eP:Int):Bool:=["jump", "zero"].any fun j:String=>decide (((aU bk (Qaa ("far" ++ j))).length:Int)+eP<((aU bk (Qaa j)).length:Int)+near)
def yG:Qae->Bool
 | .int i=>decide (2<=i)&&decide (i<=8)
 | _=>false
def Fj (d1:Qae):Qae->Qae->Bool
 | .int n,.int f=>decide (n<f)&&(decide (f<=16) && !lP (cU (gN d1)) n f)
 | _,_=>false
def HQ (d1 d4 d5:Qae):Option Str:=if yG d4=false then some "near" else if Fj d1 d4 d5=false then some "far" else none
def mL (d1 d2 d3 d4 d5:Qae):Option Str:=
 if dz aI d1=false then some "kinds" else if dz bS d2=false then some "spots" else if dz bB d3=false then some "sizes" else HQ d1 d4 d5
def HY:Option Str->V
 | none =>.non
 | some x =>.str x
def gh:∀{bk:List (Str×Str)} {x:Str},x∈bk.map (·.1)->dI (fg bk) (.inr x)=some (.str (aU bk x))
 | q::r,x,h=>by
  show dI ((Qa8 q.1,V.str q.2)::fg r) _=some (.str (if q.1=x then q.2 else aU r x))
  by_cases e:q.1=x
  ·rw[cE (by rw[e]),if_pos e]
  ·rw[bW (fun z=>e (QcR z)),if_neg e];refine gh ?_
   rcases Jx.mp h with z|z
   ·exact absurd z.symm e
   ·exact z
def zP:∀{bk:List (Str×Str)} (x:Str),(∀q∈bk,q.2.length<=200000)->(aU bk x).length<=200000
 | [],_,_=>Uw _
 | q::r,x,h=>by
  unfold aU
  split
  ·exact h q Jo
  ·exact zP x fun z hz=>h z (Jl _ hz)
def uq:∀(kvs acc:List (Key×V)),(kvs.map (·.1)).Nodup->(∀kv∈kvs,dI acc kv.1=none)->cT acc kvs=acc++kvs
 | [],acc,_,_=>by show acc=acc++[];rw[Uv]
 | kv::kvs,acc,nd,h=>by
  rw[J3] at nd;obtain⟨n1,n2⟩:=U9.mp nd;show cT (putK acc kv.1 kv.2) kvs=_;rw[yM _ (h kv Jo),uq kvs _ n2 fun kw hw =>?_]
  ·rw[Yo];rfl
  ·rw[nQ _ _ _ _ (h kv Jo),if_neg (fun z=>n1 (by rw[<-z];exact Y8 hw))];exact h kw (Jl _ hw)
def fq {bk:List (Str×Str)}(h:(bk.map (·.1)).Nodup):cT [] (fg bk)=fg bk:=by
 have nd:((fg bk).map (·.1)).Nodup:=by
  unfold fg;rw[Yn];refine List.pairwise_map.mpr ((List.pairwise_map.mp h).imp fun{a b} z e=>z (QcR e))
 rw[uq _ _ nd fun kv _=>rfl]
 rfl
def wO {K:Ja}{H:Hp}{bk:List (Str×Str)}{us:List V}(h:aV K H (bk.map fun q =>.tuple [.str q.1,.str q.2]) us):∃as:List Gc,us=as.map V.ref/\as.length=bk.length/\∀(j:Nat) b (kv:Key×V),as[j]? = some b->(fg bk)[j]? = some kv->bG K H b [kV kv.1,kv.2]:=by
 induction bk generalizing us with
 | nil=>
  unfold aV at h;subst h;exact⟨[],rfl,rfl,fun j b kv e=>nomatch e⟩
 | cons q bk ih=>
  rw[J3] at h;unfold aV at h;obtain⟨v,r,rfl,hd,h⟩:=h;obtain⟨as,rfl,hl,hk⟩:=ih h;unfold Den at hd;obtain⟨b,vs,rfl,hT,hd⟩:=hd;unfold aV at hd;obtain⟨x,r,rfl,hx,hd⟩:=hd;unfold aV at hd;obtain⟨y,r,rfl,hy,hd⟩:=hd;unfold aV at hd;unfold Den at hx hy;subst hd hx hy;refine⟨b::as,rfl,by rw[Jr,Jr,hl],fun j c kv e1 e2 =>?_⟩;cases j with
  | zero=>cases e1;cases e2;exact hT
  | succ j=>exact hk j c kv e1 e2
def pj {K:Ja}{H:Hp}{d:Qae}{bk:List (Str×Str)}{v:V}(h:Den K H d v)(e:gN d=aO bk):∃(p:Gc) (as:List Gc),v = .ref p/\(bA K H p (as.map V.ref)\/bG K H p (as.map V.ref))/\as.length=bk.length/\∀(j:Nat) b (kv:Key×V),as[j]? = some b->(fg bk)[j]? = some kv->bG K H b [kV kv.1,kv.2]:=by
 cases d with
 | list ds=>
  have e:ds=bk.map fun q =>.tuple [.str q.1,.str q.2]:=Qd5 e;unfold Den at h;obtain⟨p,us,rfl,hS,hd⟩:=h;rw[e] at hd;obtain⟨as,rfl,hl,hk⟩:=wO hd;exact⟨p,as,rfl,.inl hS,hl,hk⟩
 | tuple ds=>
  have e:ds=bk.map fun q =>.tuple [.str q.1,.str q.2]:=Qd5 e;unfold Den at h;obtain⟨p,us,rfl,hS,hd⟩:=h;rw[e] at hd;obtain⟨as,rfl,hl,hk⟩:=wO hd;exact⟨p,as,rfl,.inr hS,hl,hk⟩
 | _=>exact absurd e (by unfold aO gN;exact nofun)
def AQ (K:Ja):Sp:=fun vs H Q _=>∃(v:V) (d:Qae),vs=[v]/\Den K H d v/\∀H',av H H'->Q (.bl (qw d)) H'
def Ij (K:Ja):Sp:=fun vs H Q _=>zg fun(v:V) (d:Qae) (bk:List (Str×Str)) (n f:Int)=>vs=[v,.int n,.int f]/\Den K H d v/\gN d=aO bk/\bk.length<=60/\(∀q∈bk,q.2.length<=200000)/\(bk.map (·.1)).Nodup/\(∀x∈aI,x∈bk.map (·.1))/\∀H',av H H'->Q (.bl (lP bk n f)) H'
section
variable {P:Qaf}{w:Qah}{K:Ja}{mg:Str->Option Fk}{base:Heap}{f:Gc}{fd:Qad}{aJ aP aS aZ:Gc}{t1 t2 t3:Tok}
def wV:aA ["thing"] ["thing"] (ak (top jI)):=⟨rfl,rfl,rfl,∅,rfl,∅,∅⟩
def GC (F:bM K "is_number" "is_number" (top jI) f fd)(T:Nm mg):aW P w K mg base d7 1 f fd ["thing"] (AQ K):=by
 refine F.ok wV (fun vs H Q E h =>?_) (fun cQ A outer s H vs Q E hr h =>?_)
 ·obtain⟨v,d,rfl,_⟩:=h
  rfl
 obtain⟨v,d,rfl,hd,q⟩:=h;have hq:=q H (av.refl _);refine⟨_,(ag (ar (fG (aq (jo K) rfl T.n_isinstance (by rfl) (aa (pv 0) (aa (bH rfl T.n_int (by rfl) (v := .ty "int") rfl) ae))) (lD (HE (aq (jo K) rfl T.n_isinstance (by rfl) (aa (pv 0) (aa (bH rfl T.n_bool (by rfl) (v := .ty "bool") rfl) ae)))))))),?_⟩;refine⟨_,rfl,.inl ⟨_, "int",d,_,rfl,hd,(uU K d).2.1,_,rfl,?_⟩⟩;cases d with
 | int i=>exact bN ⟨_,rfl,.inl ⟨_, "bool",.int i,_,rfl,hd,(uU K (.int i)).1,_,rfl,hq⟩⟩
 | bool i=>exact bN ⟨_,rfl,.inl ⟨_, "bool",.bool i,_,rfl,hd,(uU K (.bool i)).1,_,rfl,hq⟩⟩
 | _=>exact bC hq
def gK:aA ["kinds", "near", "far", "codes"] ["kinds", "near", "far"] (ak (top eW)):=⟨rfl,rfl,rfl,∅,rfl,∅,∅⟩
def Pk (F:bM K "far_is_shorter" "far_is_shorter" (top eW) f fd)(T:Nm mg)(cR:mg "dict" = none)(wJ:mg "JUMPS" = some (.ref aJ))(hJ:∀H,bG K H aJ [V.str "jump",V.str "zero"]):aW P w K mg base d7 1 f fd ["kinds", "near", "far"] (Ij K):=by
 refine F.ok gK (fun vs H Q E h =>?_) (fun cQ A outer s H vs Q E hr h =>?_)
 ·obtain⟨v,d,bk,n,f,rfl,_⟩:=h
  rfl
 obtain⟨v,d,bk,n,f,rfl,hd,ea,bl,cl,nd,hk,q⟩:=h;have hu:=mn hr;have d6:=hr.units;obtain⟨p,as,rfl,sq,al,hT⟩:=pj hd ea;have bn:(fg bk).length=bk.length:=by unfold fg;rw[Jc]
 refine⟨_,(af (aE (i:=3) gK.nd rfl (Qf9 rfl) (bh (vW K rfl) rfl cR (by rfl) (aa (pv 0) ae)))
  (ag (ar (aq (Vq K rfl) rfl T.n_any (by rfl) (aa (gE rfl (dS (Nc:=["jump"]) (Fc:=["far", "near", "codes"]) (js:=[2,1,3])) (gO K (cy rfl wJ)) (cf (i:=0) (n:=1) ∅) (fun _ _ _ _ _=>(aD (i:=0) (zd ["jump", "far", "near", "codes"]) rfl (Qag rfl))) (fun _ _ _ _ _=>eF) (fun _ _ _ _ _=>(eG kB (aB cu (aq (hX K) rfl T.n_len (by rfl) (aa (bO hu (pv 3) (aB cu ax (pv 0)) (fun _ _=>rfl)) ae)) (pv 1)) (aB cu (aq (hX K) rfl T.n_len (by rfl) (aa (bO hu (pv 3) (pv 0) (fun _ _=>rfl)) ae)) (pv 2)) (aK _)))) ae))))),?_⟩
 refine⟨_,rfl,p,as,fg bk,rfl,sq,by rw[bn];exact al,by rw[bn];lia,hT,fun dd H1 n1=>gn ?_⟩;rw[fq nd] at n1;have small:∀{n:Nat},n<=1000000->n<Wp:=fun h=>Ub h ∅
 let tst:Str->Bool:=fun j=>decide (((aU bk (Qaa "far" ++ j)).length:Int)+f<((aU bk j).length:Int)+n)
 have js:∀j∈(["jump", "zero"]:List Str),j∈aI/\(Qaa "far" ++ j)∈aI/\j.length<=10:=∅;refine⟨aJ,rfl,⟨_,hJ _⟩,?_⟩;refine fc (N:=2) (fun i ys H'=>av H1 H'/\ys=(((["jump", "zero"]:List Str).take i).map tst).map V.bl) ⟨av.refl _,rfl⟩ ?_ ?_
 ·rintro i ys H2 Ny hi ⟨s2,rfl⟩ ny;have at1:([V.str "jump",V.str "zero"]:List V)[i]? = some (.str ((["jump", "zero"]:List Str)[i])):=by
   match i,hi with
   | 0,_=>rfl
   | 1,_=>rfl
  refine⟨⟨_,_,hJ _,at1⟩,small (by rw[Jc,Jc,Uo];lia),?_⟩;rintro x' H3 ⟨rfl,hy⟩;have e:=hy _ (hJ _);rw[at1] at e;cases e;obtain⟨j,hj⟩:∃j,j=(["jump", "zero"]:List Str)[i]:=⟨_,rfl⟩
  have jm:=js j (by rw[hj];exact Um _);rw[<-hj];refine gn ?_;have h2:=s2 _ _ n1.at;have gd:∀{Hx:Hp},Hx dd=some (.dK (fg bk))->∀x,x∈aI->dJ Hx dd (.str x) (some (.str (aU bk x))):=fun h x hx=>by
   rw[<-gh (hk x hx)];exact dJ.k (k := .inr x) h
  have l1:=zP (Qaa "far" ++ j) cl;have l2:=zP j cl;have lf:(Qaa "far").length=3:=rfl;have sz:∀{x:Str},x.length<=200000->x.length<=Wp:=fun h=>Jh h ∅;refine⟨_,rfl,_,rfl,.inr (.inl ⟨_,_,rfl,rfl,Yj (small (by rw[lf];lia)),dd,_,rfl,gd h2 _ jm.2.1,?_⟩)⟩;refine⟨_,_,rfl,⟨sz l1,rfl⟩,_,rfl,.inl ⟨_,_,rfl,rfl,?_⟩⟩;refine⟨_,rfl,_,rfl,dd,_,rfl,gd h2 _ jm.1,_,_,rfl,⟨sz l2,rfl⟩,_,rfl,.inl ⟨_,_,rfl,rfl,_,_,rfl,rfl,ny _ _ ⟨s2,?_⟩⟩⟩;rw[Yg (show i<(["jump", "zero"]:List Str).length from hi),J4,J4,hj]
  rfl
 ·rintro ys H2 ⟨s2,rfl⟩;refine⟨⟨_,hJ _,Je _⟩,fun pv hp=>⟨pv,_,rfl,bA.of au,?_⟩⟩;exact q _ (n1.same.trans (s2.trans (bI hp _)))
end
def LU:Qae->Qae
 | .list ds =>.tuple ds
 | d=>d
structure xn (K:Ja)(H:Hp)(v1 v2 v3 v4 v5:V)(d1 d2 d3 d4 d5:Qae):Prop where
 e1:Den K H d1 v1
 e2:Den K H d2 v2
 e3:Den K H d3 v3
 e4:Den K H d4 v4
 e5:Den K H d5 v5
 f1:MJ d1
 f2:MJ d2
 f3:MJ d3
def xn.same {K:Ja}{H H':Hp}{v1 v2 v3 v4 v5:V}{d1 d2 d3 d4 d5:Qae}(h:xn K H v1 v2 v3 v4 v5 d1 d2 d3 d4 d5)(s:av H H'):xn K H' v1 v2 v3 v4 v5 d1 d2 d3 d4 d5:=⟨h.e1.same s,h.e2.same s,h.e3.same s,h.e4.same s,h.e5.same s,h.f1,h.f2,h.f3⟩
structure RQ (K:Ja)(P:Qaf)(w:Qah)(mg:Str->Option Fk)(aP aS aZ:Gc)(t1 t2 t3:Tok):Prop where
 gP:mg "PARTS" = some (.ref aP)
 gS:mg "SPOT_NAMES" = some (.ref aS)
 gZ:mg "SIZE_NAMES" = some (.ref aZ)
 P:qM fun es n kvs=>CA K P w aP es n kvs/\kvs.map (·.1)=aI
 S:∀H,bG K H aS (bS.map V.str)
 Z:∀H,bG K H aZ (bB.map V.str)
 vl:mg "LEAST_NEAR" = some (.int 2 t1)
 vm:mg "MOST_NEAR" = some (.int 8 t2)
 vf:mg "MOST_FAR" = some (.int 16 t3)
def NZ (K:Ja):Sp:=fun vs H Q _=>∃(v1 v2 v3 v4 v5:V) (d1 d2 d3 d4 d5:Qae),vs=[v1,v2,v3,v4,v5]/\xn K H v1 v2 v3 v4 v5 d1 d2 d3 d4 d5/\∀H',av H H'->Q (HY (mL d1 d2 d3 d4 d5)) H'
def Hf {d:Qae}(h:qw d=false):yG d=false:=by cases d<;>first|rfl|cases h
def Cj {d:Qae}(h:qw d=true):∃i,d = .int i:=by cases d<;>first|exact⟨_,rfl⟩|cases h
def oo:(∀x∈aI,kz x=true)/\(∀x∈bS,kz x=true)/\∀x∈bB,kz x=true:=∅
def cM:aI.Nodup:=∅
section
variable {P:Qaf}{w:Qah}{K:Ja}{mg:Str->Option Fk}{base:Heap}{f:Gc}{fd:Qad}{aP aS aZ:Gc}{t1 t2 t3:Tok}
def qh:aA ["kinds", "spots", "sizes", "near", "far"] ["kinds", "spots", "sizes", "near", "far"] (ak (top gU)):=⟨rfl,rfl,rfl,∅,rfl,∅,∅⟩
def Tv (F:bM K "first_wrong" "first_wrong" (top gU) f fd)(T:Nm mg)(M:RQ K P w mg aP aS aZ t1 t2 t3)(eO:Fn P w K mg base 5 "is_free_book_of" ["thing", "names"] (Ha K))(oP:Fn P w K mg base 1 "is_number" ["thing"] (AQ K))(nK:Fn P w K mg base 1 "far_is_shorter" ["kinds", "near", "far"] (Ij K)):aW P w K mg base d7 6 f fd ["kinds", "spots", "sizes", "near", "far"] (NZ K):=by
 refine F.ok qh (fun vs H Q E h =>?_) (fun cQ A outer s H vs Q E hr h =>?_)
 ·obtain⟨v1,v2,v3,v4,v5,d1,d2,d3,d4,d5,rfl,_⟩:=h
  rfl
 obtain⟨v1,v2,v3,v4,v5,d1,d2,d3,d4,d5,rfl,D,q⟩:=h;have d6:=hr.units;have md:=M.gP;have vM:=M.gS;have eE:=M.gZ;have l8:=M.vl;have oN:=M.vm;have sr:=M.vf;obtain⟨es,n,kvs,KD,ek⟩:=M.P;refine⟨_,(af (aY (de (cp (aH (eO.mono ∅) hr rfl (aa (pv 0) (aa (bh (OO rfl) rfl T.n_list (by rfl) (aa (cy rfl md) ae)) ae))))) (ag (ar ax)) aF)
  (af (aY (de (cp (aH (eO.mono ∅) hr rfl (aa (pv 1) (aa (cy rfl vM) ae))))) (ag (ar ax)) aF)
  (af (aY (de (cp (aH (eO.mono ∅) hr rfl (aa (pv 2) (aa (cy rfl eE) ae))))) (ag (ar ax)) aF)
  (af (aY (PW.pt (jg (de (cp (aH (oP.mono ∅) hr rfl (aa (pv 3) ae)))) (gR (de (qO oM oM (lS rfl l8) (pv 3) (lS rfl oN)))))) (ag (ar ax)) aF)
  (af (aY (PW.pt (jg (de (cp (aH (oP.mono ∅) hr rfl (aa (pv 4) ae)))) (jg (de (qO kB oM (pv 3) (pv 4) (lS rfl sr))) (gR (cp (aH (nK.mono ∅) hr rfl (aa (pv 0) (aa (pv 3) (aa (pv 4) ae))))))))) (ag (ar ax)) aF)
  (ag (ar bR))))))),?_⟩
 refine⟨_,rfl,aP,es,n,kvs,rfl,KD,by have:=congrArg Qgd ek;rw[Jc] at this;rw[this];decide,fun p H1 n1 =>?_⟩;rw[ek] at n1;refine⟨v1,d1,p,aI,rfl,D.e1.same n1.same,D.f1,.inl (bA.of n1.at),∅,oo.1,fun H2 s2=>⟨_,rfl,?_⟩⟩;have zD:=n1.same.trans s2;have D2:=D.same zD;have wy:∀{y:Option Str},mL d1 d2 d3 d4 d5=y->∀H',av H H'->Q (HY y) H':=fun e H' sm=>by rw[<-e];exact q H' sm
 cases h1:dz aI d1 with
 | false=>exact bN (wy (if_pos h1) _ zD)
 | true=>
 have Xo:¬dz aI d1=false:=by rw[h1];decide
 refine bC ?_;dsimp only[bK];refine⟨_,rfl,v2,d2,aS,bS,rfl,D2.e2,D2.f2,.inr (M.S _),∅,oo.2.1,fun H3 s3=>⟨_,rfl,?_⟩⟩;have VE:=zD.trans s3;have D3:=D.same VE;cases h2:dz bS d2 with
 | false=>exact bN (wy ((if_neg Xo).trans (if_pos h2)) _ VE)
 | true=>
 have n2':¬dz bS d2=false:=by rw[h2];decide
 refine bC ?_;dsimp only[bK];refine⟨_,rfl,v3,d3,aZ,bB,rfl,D3.e3,D3.f3,.inr (M.Z _),∅,oo.2.2,fun H4 s4=>⟨_,rfl,?_⟩⟩;have FN:=VE.trans s4;have D4:=D.same FN;cases h3:dz bB d3 with
 | false=>exact bN (wy ((if_neg Xo).trans ((if_neg n2').trans (if_pos h3))) _ FN)
 | true=>
 have n3':¬dz bB d3=false:=by rw[h3];decide
 have wy:∀{y:Option Str},HQ d1 d4 d5=y->∀H',av H H'->Q (HY y) H':=fun e H' sm=>wy ((if_neg Xo).trans ((if_neg n2').trans ((if_neg n3').trans e))) H' sm;refine bC ?_;dsimp only[bK];refine⟨_,rfl,v4,d4,rfl,D4.e4,fun H5 s5=>⟨_,rfl,?_⟩⟩;have Ht:=FN.trans s5;have D5:=D.same Ht;cases hd4:qw d4 with
 | false=>exact bN (bN (wy (if_pos (Hf hd4)) _ Ht))
 | true=>
 obtain⟨i,rfl⟩:=Cj hd4;have e4:v4 = .int i:=by have:=D.e4;unfold Den at this;exact this
 subst e4;refine bC ?_;have nF:¬(2<=i/\i<=8)->HQ d1 (.int i) d5=some "near":=fun h=>if_pos (by
  show(decide (2<=i)&&decide (i<=8))=false;rw[Bool.and_eq_false_iff]
  by_cases z:2<=i
  ·exact .inr (decide_eq_false fun y=>h ⟨z,y⟩)
  ·exact .inl (decide_eq_false z))
 refine⟨_,rfl,_,_,rfl,rfl,_,rfl,gj (fun c1 =>?_) (fun c1=>⟨_,rfl,bN (wy (nF fun z=>c1 (decide_eq_true z.1)) _ Ht)⟩)⟩;have c1:2<=i:=of_decide_eq_true c1;refine⟨_,_,rfl,rfl,_,rfl,?_⟩
 by_cases c2:i<=8
 case neg=>
  rw[decide_eq_false c2];exact bN (wy (nF fun z=>c2 z.2) _ Ht)
 rw[decide_eq_true c2];refine bC ?_;dsimp only[bK];have wy:∀{y:Option Str},(if Fj d1 (.int i) d5=false then some (Qaa "far") else none)=y->∀H',av H H'->Q (HY y) H':=fun e H' sm=>wy ((if_neg (by
  show ¬(decide (2<=i)&&decide (i<=8))=false;rw[decide_eq_true c1,decide_eq_true c2];decide)).trans e) H' sm
 refine⟨_,rfl,v5,d5,rfl,D5.e5,fun H6 s6=>⟨_,rfl,?_⟩⟩;have Lo:=Ht.trans s6;have D6:=D.same Lo;cases Vh:qw d5 with
 | false=>exact bN (bN (wy (if_pos (by cases d5<;>first|rfl|cases Vh)) _ Lo))
 | true=>
 obtain⟨j,rfl⟩:=Cj Vh;have e5:v5 = .int j:=by have:=D.e5;unfold Den at this;exact this
 subst e5;refine bC ?_;have nG:¬(i<j/\j<=16/\lP (cU (gN d1)) i j=false)->Fj d1 (.int i) (.int j)=false:=fun h=>by
  show(decide (i<j)&&(decide (j<=16) && !lP (cU (gN d1)) i j))=false
  by_cases z:i<j
  ·by_cases y:j<=16
   ·rw[decide_eq_true z,decide_eq_true y];cases e:lP (cU (gN d1)) i j with
    | true=>rfl
    | false=>exact absurd ⟨z,y,e⟩ h
   ·rw[decide_eq_true z,decide_eq_false y];rfl
  ·rw[decide_eq_false z];rfl
 refine⟨_,rfl,_,rfl,_,_,rfl,rfl,_,rfl,gj (fun c3 =>?_) (fun c3=>⟨_,rfl,bN (bN (wy (if_pos (nG fun z=>c3 (decide_eq_true z.1))) _ Lo))⟩)⟩;have c3:i<j:=of_decide_eq_true c3;refine⟨_,_,rfl,rfl,_,rfl,?_⟩
 by_cases c4:j<=16
 case neg=>
  rw[decide_eq_false c4];exact bN (bN (wy (if_pos (nG fun z=>c4 z.2.1)) _ Lo))
 rw[decide_eq_true c4];refine bC ?_;have bo:dE (gN d1)=true/\((cU (gN d1)).map (·.1)).Perm aI:=by
  have z:=h1;unfold dz at z;rw[Js,Js] at z;exact⟨z.1,of_decide_eq_true z.2.1⟩
 obtain⟨eb,_⟩:=uX bo.1;have ze:=bo.2.length_eq;rw[Jc] at ze;refine⟨_,rfl,_,rfl,_,rfl,v1,d1,cU (gN d1),i,j,rfl,D6.e1,eb,by rw[ze];decide,D.f1.cd,bo.2.nodup_iff.mpr cM,fun x hx=>bo.2.mem_iff.mpr hx,fun H7 s7=>⟨_,rfl,?_⟩⟩;have Rr:=Lo.trans s7;cases hf:lP (cU (gN d1)) i j with
 | true=>exact bN (wy (if_pos (nG fun z=>by rw[hf] at z;exact absurd z.2.2 ∅)) _ Rr)
 | false=>
  refine bC ?_;dsimp only[bK];refine wy (if_neg ?_) _ Rr;show ¬(decide (i<j)&&(decide (j<=16) && !lP (cU (gN d1)) i j))=false;rw[decide_eq_true c3,decide_eq_true c4,hf];decide
end
end Z
namespace L2
open PySem
def cY (K:Ja){X:Cx}{e:QaB}{f:Str}{pos:Pos}{ta:TE}(he:PE X e ta)(hb:Qbn e f X.env (QaL e X.env)=QaL e X.env)(hK:X.K=K:=by rfl):PE X (.Attribute e f pos) (S4 K ta f):=by subst hK;exact PM he hb
end L2
namespace Z
open PySem L2
structure HS (K:Ja)(CF:Gc):Prop where
 c:BF K CF
 n1:dH K CF "kinds"
 n2:dH K CF "spots"
 n3:dH K CF "sizes"
 n4:dH K CF "near"
 n5:dH K CF "far"
def iM (K:Ja)(CF:Gc)(H:Hp)(m:Gc)(d1 d2 d3 d4 d5:Qae):Prop:=FC fun(dx:Gc) (w1 w2 w3 w4 w5:V)=>H m=some (.ins CF dx [("kinds",w1),("spots",w2),("sizes",w3),("near",w4),("far",w5)]) /\
 Den K H (LU d1) w1/\Den K H (LU d2) w2/\Den K H (LU d3) w3/\Den K H d4 w4/\Den K H d5 w5
def iM.same {K:Ja}{CF:Gc}{H H':Hp}{m:Gc}{d1 d2 d3 d4 d5:Qae}(h:iM K CF H m d1 d2 d3 d4 d5)(s:av H H'):iM K CF H' m d1 d2 d3 d4 d5:=by
 obtain⟨dx,w1,w2,w3,w4,w5,e,h1,h2,h3,h4,h5⟩:=h;exact⟨dx,w1,w2,w3,w4,w5,s _ _ e,h1.same s,h2.same s,h3.same s,h4.same s,h5.same s⟩
def Tw (K:Ja)(CF C:Gc):Sp:=fun vs H Q E=>eZ fun(H0:Hp) (m:Gc)=>FC fun dx v1 v2 v3 v4 v5=>zg fun d1 d2 d3 d4 d5=>vs=[.ref m,v1,v2,v3,v4,v5]/\av H0 H/\H0 m=none/\H m=some (.ins CF dx [])/\xn K H0 v1 v2 v3 v4 v5 d1 d2 d3 d4 d5 /\
 (mL d1 d2 d3 d4 d5=none->∀H',av H0 H'->iM K CF H' m d1 d2 d3 d4 d5->Q .non H') /\
 (∀y,mL d1 d2 d3 d4 d5=some y->∀ex H',av H0 H'->H' ex=some (.xd [("why",.str y)])->E (.ref C) (some ex) H')
def vR {H:Hp}{m:Gc}:av (mF H m) H:=fun a o e=>by
 by_cases z:a=m
 ·rw[z,fk] at e;cases e
 ·rw[cV z] at e;exact e
def zf {H H':Hp}{m:Gc}(s:av H H'):av (mF H m) (mF H' m):=fun a o e=>by
 by_cases z:a=m
 ·rw[z,fk] at e;cases e
 ·rw[cV z] at e ⊢;exact s _ _ e
def pC {H:Hp}{m:Gc}{o:HO}:mF (upd H m o) m=mF H m:=by
 funext a
 by_cases z:a=m
 ·rw[z,fk,fk]
 ·rw[cV z,cV z,ao z]
def vt {H0 H:Hp}{m:Gc}(s:av H0 H)(n:H0 m=none):av H0 (mF H m):=fun a o e=>by
 rw[cV (ay e n)];exact s _ _ e
def wa {ns:List Str}{d:Qae}(h:dz ns d=true):∃ds,d = .list ds\/d = .tuple ds:=by
 unfold dz at h;rw[Js] at h;cases d with
 | list ds=>exact⟨ds,.inl rfl⟩
 | tuple ds=>exact⟨ds,.inr rfl⟩
 | _=>exact absurd h.1 (by unfold gN dE;exact nofun)
def Bt {d1 d2 d3 d4 d5:Qae}(h:mL d1 d2 d3 d4 d5=none):dz aI d1=true/\dz bS d2=true/\dz bB d3=true:=by
 unfold mL at h;cases h1:dz aI d1 with
 | false=>rw[if_pos h1] at h;cases h
 | true=>
  rw[if_neg (by rw[h1];decide)] at h;cases h2:dz bS d2 with
  | false=>rw[if_pos h2] at h;cases h
  | true=>
   rw[if_neg (by rw[h2];decide)] at h;cases h3:dz bB d3 with
   | false=>rw[if_pos h3] at h;cases h
   | true=>exact⟨rfl,rfl,rfl⟩
def BR {K:Ja}{H:Hp}{m:Gc}{o:HO}{d:Qae}{v:V}{Q:VK}{σ:St}{i:Nat}(hv: σ[i]? = some (some v))(hm:H m=some o)(hd:Den K (mF H m) d v)(hs:∃ds,d = .list ds\/d = .tuple ds)
  (k:∀w H',av (mF H m) (mF H' m)->H' m=some o->Den K (mF H' m) (LU d) w->Q w H'):WG (fun xs H Q=>∃p ys,xs=[.ref p]/\((bA K H p ys/\∀l H',hW H l (.tup ys) H'->Q (.ref l) H')\/(bG K H p ys/\Q (.ref p) H))) (MT (Ow i) La) σ H Q:=by
 refine⟨_,hv,?_⟩;obtain⟨ds,rfl|rfl⟩:=hs
 ·unfold Den at hd;obtain⟨p,us,rfl,hS,hD⟩:=hd;refine⟨p,us,rfl,.inl ⟨vR.seq hS,fun l H' n =>?_⟩⟩;have nl:l≠m:=fun z=>by have:=n.nn;rw[z,hm] at this;cases this
  refine k _ _ (zf n.same) (n.same _ _ hm) ?_;show Den K (mF H' m) (.tuple ds) (.ref l);unfold Den;exact⟨l,us,rfl,bG.of (by rw[cV nl];exact n.at),hD.same (zf n.same)⟩
 ·have FI:=hd;unfold Den at FI;obtain⟨p,us,rfl,hS,hD⟩:=FI;exact⟨p,us,rfl,.inr ⟨vR.cL hS,k _ _ (av.refl _) hm hd⟩⟩
section
variable {P:Qaf}{w:Qah}{K:Ja}{mg:Str->Option Fk}{base:Heap}{f fi:Gc}{fd JY:Qad}{C CF:Gc}
def sU:aA ["self", "why"] ["self", "why"] (ak (inClass (top ia) 0)):=⟨rfl,rfl,rfl,∅,rfl,∅,∅⟩
def B8 (C:Gc)(f:Str):Sp:=fun vs H Q _=>∃(e:Gc) (v:V),vs=[.ref e,v]/\H e=some (zk e C)/\∀dx,H dx=none->dx≠e->Q .non (upd (upd H e (Fp e C dx)) dx (.xd [(f,v)]))
def sY (F:bM K "__init__" "NoForm.__init__" (inClass (top ia) 0) f fd)(S:kG K C "why"):aW P w K mg base d7 1 f fd ["self", "why"] (B8 C "why"):=by
 refine F.ok sU (fun vs H Q E h =>?_) (fun cQ A outer s H vs Q E hr h =>?_)
 ·obtain⟨e,v,rfl,_⟩:=h
  rfl
 obtain⟨e,v,rfl,he,q⟩:=h;refine⟨_,(ag (CM (pv 0) (pv 1) rfl)),?_⟩;exact⟨_,rfl,_,rfl,e,C,rfl,he,S,fun dx h1 h2=>q dx h1 h2⟩
def l9:aA ["self", "kinds", "spots", "sizes", "near", "far", "why"] ["self", "kinds", "spots", "sizes", "near", "far"] (ak (inClass (top nB) 0)):=⟨rfl,rfl,rfl,∅,rfl,∅,∅⟩
def Sg (F:bM K "__init__" "Form.__init__" (inClass (top nB) 0) f fd)(T:Nm mg)(MF:HS K CF)(iy:mg "NoForm" = some (.ref C))(qS:OQ K C fi)(qL:aW P w K mg base d7 1 fi JY ["self", "why"] (B8 C "why"))(pN:Binds K JY ["self", "why"] [])(sJ:Fn P w K mg base 6 "first_wrong" ["kinds", "spots", "sizes", "near", "far"] (NZ K)):
  aW P w K mg base (tj P w base) 7 f fd ["self", "kinds", "spots", "sizes", "near", "far"] (Tw K CF C):=by
 refine F.SM l9 (fun vs H Q E h =>?_) (fun cQ A outer s H vs Q E hr h =>?_)
 ·obtain⟨H0,m,dx,v1,v2,v3,v4,v5,d1,d2,d3,d4,d5,rfl,_⟩:=h
  rfl
 obtain⟨H0,m,dx,v1,v2,v3,v4,v5,d1,d2,d3,d4,d5,rfl,sm,nm,hm,D,qY,qN⟩:=h;have d6:=hr.units;refine⟨_,(af (aE (i:=6) l9.nd rfl (Qag rfl) (aH (sJ.mono ∅) hr rfl (aa (pv 1) (aa (pv 2) (aa (pv 3) (aa (pv 4) (aa (pv 5) ae)))))))
  (af (aY (aG CW (pv 6) bR (aK _)) (ag (um (k:=1) qS qL (hr.mono ∅) rfl iy pN (aa (pv 6) ae))) aF)
  (af (gW (pv 0) (bh (nY K) rfl T.n_tuple (by rfl) (aa (pv 1) ae)) rfl)
  (af (gW (pv 0) (bh (nY K) rfl T.n_tuple (by rfl) (aa (pv 2) ae)) rfl)
  (af (gW (pv 0) (bh (nY K) rfl T.n_tuple (by rfl) (aa (pv 3) ae)) rfl)
  (af (gW (pv 0) (pv 4) rfl)
  (ag (gW (pv 0) (pv 5) rfl)))))))),?_⟩
 have nb:∀{Hx:Hp} {a:Gc},av H Hx->Hx a=none->H a=none:=fun{Hx a} s h=>by
  cases e:H a with
  | none=>rfl
  | some o=>rw[s _ _ e] at h;cases h
 refine⟨_,rfl,_,rfl,_,rfl,_,rfl,_,rfl,v1,v2,v3,v4,v5,d1,d2,d3,d4,d5,rfl,D.same sm,fun H1 s1=>gn ?_⟩;have X0:=sm.trans s1;refine⟨_,rfl,.inl ⟨rfl,?_⟩⟩;cases hw:mL d1 d2 d3 d4 d5 with
 | some y=>
  refine⟨_,rfl,bN ?_⟩;refine⟨_,rfl,by show 1<=1000;decide,fun e he=>⟨e,.str y,rfl,au,fun dx c1 c2=>⟨rfl,e,dx,rfl,?_,nb s1 he,?_⟩⟩⟩
  ·rw[ao (QaA c2),au]
  ·refine qN y hw dx _ (fun a o z =>?_) ?_
   ·have z1:=X0 _ _ z;have na:a≠e:=ay z1 he;have nd:a≠dx:=fun y=>by
     rw[ao c2,<-y,z1] at c1;cases c1
    rw[cV na,ao nd,ao na,ao na];exact z1
   ·rw[cV c2,au]
 | none=>
  refine⟨_,rfl,bC ?_⟩;obtain⟨o1,o2,o3⟩:=Bt hw;have D1:=D.same (vt X0 nm);dsimp only[bK];unfold JS Py;dsimp only;refine BR (by rfl) (s1 _ _ hm) D1.e1 (wa o1) fun w1 H2 s2 m2 t1 =>?_;refine⟨_,rfl,m,CF,dx,_,rfl,m2,MF.c,MF.n1,by show 0<1000;decide,?_⟩;refine BR (by rfl) au (pC▸D1.e2.same s2) (wa o2) fun w2 H3 s3 m3 t2 =>?_;rw[pC] at s3;refine⟨_,rfl,m,CF,dx,_,rfl,m3,MF.c,MF.n2,by show 1<1000;decide,?_⟩;refine BR (by rfl) au (pC▸D1.e3.same (s2.trans s3)) (wa o3) fun w3 H4 s4 m4 t3 =>?_;rw[pC] at s4;refine⟨_,rfl,m,CF,dx,_,rfl,m4,MF.c,MF.n3,by show 2<1000;decide,?_⟩;refine⟨_,rfl,_,rfl,m,CF,dx,_,rfl,au,MF.c,MF.n4,by show 3<1000;decide,?_⟩;refine⟨_,rfl,_,rfl,m,CF,dx,_,rfl,au,MF.c,MF.n5,by show 4<1000;decide,?_⟩;have FN:=s2.trans (s3.trans s4);have fin:∀{Hx:Hp},av (mF Hx m) (mF H4 m)->∀{o p q:HO},av (mF Hx m) (upd (upd (upd H4 m o) m p) m q):=fun{Hx} h {o p q}=>h.trans fun a u e=>by
   have na:a≠m:=fun y=>by rw[y,fk] at e;cases e
   rw[cV na] at e;rw[ao na,ao na,ao na];exact e
  refine qY hw _ ?_ ⟨dx,w1,w2,w3,v4,v5,?_,?_,?_,?_,?_,?_⟩
  ·exact fun a o e=>by
    have z:=((vt X0 nm).trans FN) _ _ e;have na:a≠m:=fun y=>by rw[y,nm] at e;cases e
    rw[cV na] at z;rw[ao na,ao na,ao na];exact z
  ·exact au
  ·exact t1.same (fin (s3.trans s4))
  ·exact t2.same (fin s4)
  ·exact t3.same (fin (av.refl _))
  ·exact D1.e4.same (fin FN)
  ·exact D1.e5.same (fin FN)
end
def pq (ks:List Str)(x:Str):MV (.str x) (ks.map V.str)=ks.contains x:=by
 unfold MV;rw[QfG,List.contains_eq_any_beq]
 congr 1
 funext y
 show KA (.str y) (.str x)=(x==y)
 show(y==x)=(x==y)
 rw[Wd,beq_iff_eq,beq_iff_eq];exact eq_comm
def kf {H0 H:Hp}{p:Gc}{o:HO}(h:av H0 H)(n:H0 p=none):av H0 (upd H p o):=fun x u e=>by
 rw[ao (ay e n)];exact h x u e
def wu {x:Str}{A B:Prop}(q:A):if decide (V.str x=V.str x)=true then A else B:=by
 rw[decide_eq_true rfl];exact bN q
def fO {x y:Str}{A B:Prop}(q:B)(h:(x==y)=false:=by decide +kernel):if decide (V.str x=V.str y)=true then A else B:=by
 rw[decide_eq_false (fun z=>by injection z with z;rw[z,beq_self_eq_true] at h;cases h)];exact bC q
def inF {ks:List Str}{x:Str}{A B:Prop}(q:B)(h:ks.contains x=false:=by decide +kernel):if (if false=true then !MV (.str x) (ks.map V.str) else MV (.str x) (ks.map V.str))=true then A else B:=by
 rw[if_neg Jn,pq,h];exact bC q
def Vk {ks:List Str}{x:Str}{A B:Prop}(q:A)(h:ks.contains x=true:=by decide +kernel):if (if false=true then !MV (.str x) (ks.map V.str) else MV (.str x) (ks.map V.str))=true then A else B:=by
 rw[if_neg Jn,pq,h];exact bN q
def eT {α:Type}{l:List α}{i:Nat}(h:i<l.length):l.take (i+1)=l.take i++[l[i]]:=by
 rw[List.take_succ,Jd h];rfl
def Pl (K:Ja)(CF C:Gc):Sp:=fun vs H Q E=>FC fun(lp:Gc) v1 v2 v3 v4 v5=>zg fun d1 d2 d3 d4 d5=>vs=[.ref lp]/\bA K H lp [v1,v2,v3,v4,v5]/\xn K H v1 v2 v3 v4 v5 d1 d2 d3 d4 d5 /\
 (mL d1 d2 d3 d4 d5=none->∀m H',av H H'->H m=none->iM K CF H' m d1 d2 d3 d4 d5->Q (.ref m) H') /\
 (∀y,mL d1 d2 d3 d4 d5=some y->∀ex H',av H H'->H' ex=some (.xd [("why",.str y)])->E (.ref C) (some ex) H')
def JP (K:Ja)(CF:Gc):Sp:=fun vs H Q _=>FC fun(lp:Gc) v1 v2 v3 v4 v5=>zg fun d1 d2 d3 d4 d5=>vs=[.ref lp]/\bA K H lp [v1,v2,v3,v4,v5]/\xn K H v1 v2 v3 v4 v5 d1 d2 d3 d4 d5/\mL d1 d2 d3 d4 d5=none /\
 ∀m H',av H H'->H m=none->iM K CF H' m d1 d2 d3 d4 d5->Q (.ref m) H'
def PJ {K:Ja}{CF C:Gc}{vs:List V}{H:Hp}{Q:VK}{E:XK}(h:JP K CF vs H Q E):Pl K CF C vs H Q (fun _ _ _=>False):=by
 obtain⟨lp,v1,v2,v3,v4,v5,d1,d2,d3,d4,d5,rfl,hl,D,hw,q⟩:=h;exact⟨lp,v1,v2,v3,v4,v5,d1,d2,d3,d4,d5,rfl,hl,D,fun _ m H' s n fo=>q m H' s n fo,fun y hy=>by rw[hw] at hy;cases hy⟩
section
variable {P:Qaf}{w:Qah}{K:Ja}{mg:Str->Option Fk}{base:Heap}{f:Gc}{fd:Qad}{C CF cO c1 c2 c3 c4 c5 c6 c7 gi:Gc}{V7:Qad}
def yb:aA ["_law_parts_here"] ["_law_parts_here"] (ak (top lG)):=⟨rfl,rfl,rfl,∅,rfl,∅,∅⟩
def Ru (F:bM K "_law_form" "_law_form" (top lG) f fd)(T:Nm mg)(LN:Mk K CF gi)(BK:mg "Form" = some (.ref CF))(we:aW P w K mg base (tj P w base) 7 gi V7 ["self", "kinds", "spots", "sizes", "near", "far"] (Tw K CF C))(wL:Binds K V7 ["self", "kinds", "spots", "sizes", "near", "far"] []):
  aW P w K mg base (tj P w base) 9 f fd ["_law_parts_here"] (Pl K CF C):=by
 refine F.SM yb (fun vs H Q E h =>?_) (fun cQ A outer s H vs Q E hr h =>?_)
 ·obtain⟨lp,v1,v2,v3,v4,v5,d1,d2,d3,d4,d5,rfl,_⟩:=h
  rfl
 obtain⟨lp,v1,v2,v3,v4,v5,d1,d2,d3,d4,d5,rfl,hl,D,qY,qN⟩:=h;have d6:=hr.units;refine⟨_,(ag (ar (CP LN (we.mono (by first|decide|exact Je _)) (hr.mono (by first|decide|exact Je _)) rfl BK wL .nil (tV (E':=E) fun _ _ _ z=>z) (aa (bJ (kq K) (pv 0) ai (fun _ _=>rfl)) (aa (bJ (kq K) (pv 0) ai (fun _ _=>rfl)) (aa (bJ (kq K) (pv 0) ai (fun _ _=>rfl)) (aa (bJ (kq K) (pv 0) ai (fun _ _=>rfl)) (aa (bJ (kq K) (pv 0) ai (fun _ _=>rfl)) ae)))))))),?_⟩;have ix:∀{i:Int} {v:V},([v1,v2,v3,v4,v5]:List V)[i.toNat]? = some v->True:=fun _=>trivial;refine⟨_,rfl,.inl ⟨lp,_,_,v1,rfl,rfl,hl,rfl,_,rfl,.inl ⟨lp,_,_,v2,rfl,rfl,hl,rfl,_,rfl,.inl ⟨lp,_,_,v3,rfl,rfl,hl,rfl,_,rfl,.inl ⟨lp,_,_,v4,rfl,rfl,hl,rfl,_,rfl,.inl ⟨lp,_,_,v5,rfl,rfl,hl,rfl,fun x dx hx Rp ne =>?_⟩⟩⟩⟩⟩⟩;refine⟨H,x,dx,v1,v2,v3,v4,v5,d1,d2,d3,d4,d5,rfl,(bI Rp _).trans (bI (by rw[ao (QaA ne)];exact hx) _),hx,au,D,fun e H' s fo=>⟨rfl,qY e x H' s hx fo⟩,qN⟩
end
def vU (K:Ja)(n:Nat):Sp:=fun vs H Q _=>qM fun(v1 v2:V) (d:Qae)=>vs=[v1,v2]/\Den K H d v1/\Den K H d v2/\d.depth<n/\d.weight<=1000000/\∀H',av H H'->Q (.bl true) H'
section
variable {P:Qaf}{w:Qah}{K:Ja}{mg:Str->Option Fk}{base:Heap}{f:Gc}{fd:Qad}
def xP:aA ["_law_found", "_law_due"] ["_law_found", "_law_due"] (ak (top kW)):=⟨rfl,rfl,rfl,∅,rfl,∅,∅⟩
def Ko {n:Nat}(F:bM K "_law_same" "_law_same" (top kW) f fd)(T:Nm mg)(lK:Fn P w K mg base n "_law_same" ["_law_found", "_law_due"] (vU K n)):aW P w K mg base d7 (n+1) f fd ["_law_found", "_law_due"] (vU K (n+1)):=by
 refine F.ok xP (fun vs H Q E h =>?_) (fun cQ A outer s H vs Q E hr h =>?_)
 ·obtain⟨v1,v2,d,rfl,_⟩:=h
  rfl
 obtain⟨v1,v2,d,rfl,d1,d2,hn,hw,q⟩:=h;have d6:=hr.units;refine⟨_,(af (aY (aG xD (pv 1) bR (aK _)) (ag (ar (eG xD (pv 0) bR (aK _)))) aF)
  (af (aY (cp (aq (jo K) rfl T.n_isinstance (by rfl) (aa (pv 1) (aa (bH rfl T.n_bool (by rfl) (v := .ty "bool") rfl) ae)))) (ag (ar (fG (aq (jo K) rfl T.n_isinstance (by rfl) (aa (pv 0) (aa (bH rfl T.n_bool (by rfl) (v := .ty "bool") rfl) ae))) (lD (eG (qd K d6) (pv 0) (pv 1) (aK _)))))) aF)
  (af (aY (cp (aq (R1 K) rfl T.n_isinstance (by rfl) (aa (pv 1) (aa (eN (aa (bH rfl T.n_list (by rfl) (v := .ty "list") rfl) (aa (bH rfl T.n_tuple (by rfl) (v := .ty "tuple") rfl) ae))) ae)))) (af (aY (PW.pt (jg (aG (IK K d6) (aq (jo K) rfl T.n_isinstance (by rfl) (aa (pv 0) (aa (bH rfl T.n_list (by rfl) (v := .ty "list") rfl) ae))) (aq (jo K) rfl T.n_isinstance (by rfl) (aa (pv 1) (aa (bH rfl T.n_list (by rfl) (v := .ty "list") rfl) ae))) (aK _)) (gR (aG (IK K d6) (aq (jo K) rfl T.n_isinstance (by rfl) (aa (pv 0) (aa (bH rfl T.n_tuple (by rfl) (v := .ty "tuple") rfl) ae))) (aq (jo K) rfl T.n_isinstance (by rfl) (aa (pv 1) (aa (bH rfl T.n_tuple (by rfl) (v := .ty "tuple") rfl) ae))) (aK _))))) (ag (ar jH)) aF)
  (af (aY (aG (IK K d6) (aq (hX K) rfl T.n_len (by rfl) (aa (pv 0) ae)) (aq (hX K) rfl T.n_len (by rfl) (aa (pv 1) ae)) (aK _)) (ag (ar jH)) aF)
  (ag (ar (aq (Rc K rfl) rfl T.n_all (by rfl) (aa (gE rfl (dS (Nc:=["_law_one", "_law_other"]) (Fc:=[]) (js:=[])) (Cb K rfl T.n_zip (aa (pv 0) (aa (pv 1) ae))) (pK (dP (cf (i:=0) (n:=2) ∅) (dP (cf (i:=1) (n:=2) ∅) mK cK eY) cK (jZ cK eY))) (fun _ _ _ _ _=>(tupK K 2 rfl (aM (aD (i:=0) (zd ["_law_one", "_law_other"]) rfl (Qag rfl)) (aM (aD (i:=1) (zd ["_law_one", "_law_other"]) rfl (Qag rfl)) bU)))) (fun _ _ _ _ _=>eF) (fun _ _ _ _ _=>(aH (lK.mono (by first|decide|exact Je _|lia)) hr rfl (aa (pv 0) (aa (pv 1) ae))))) ae)))))) aF)
  (af (aY (cp (aq (jo K) rfl T.n_isinstance (by rfl) (aa (pv 1) (aa (bH rfl T.n_str (by rfl) (v := .ty "str") rfl) ae)))) (ag (ar (fG (aq (jo K) rfl T.n_isinstance (by rfl) (aa (pv 0) (aa (bH rfl T.n_str (by rfl) (v := .ty "str") rfl) ae))) (lD (eG (qd K d6) (pv 0) (pv 1) (aK _)))))) aF)
  (ag (ar (fG (aq (jo K) rfl T.n_isinstance (by rfl) (aa (pv 0) (aa (bH rfl T.n_int (by rfl) (v := .ty "int") rfl) ae))) (fG (HE (aq (jo K) rfl T.n_isinstance (by rfl) (aa (pv 0) (aa (bH rfl T.n_bool (by rfl) (v := .ty "bool") rfl) ae)))) (lD (eG (qd K d6) (pv 0) (pv 1) (aK _))))))))))),?_⟩
 cases d with
 | none=>
  have Iu:=d1;have Ge:=d2;unfold Den at Iu Ge;subst Iu Ge;exact⟨_,rfl,.inl ⟨rfl,_,rfl,bN ⟨_,rfl,.inl ⟨rfl,q H (av.refl _)⟩⟩⟩⟩
 | bool b=>
  have Iu:=d1;have Ge:=d2;unfold Den at Iu Ge;subst Iu Ge;refine⟨_,rfl,.inl ⟨rfl,_,rfl,bC ?_⟩⟩;refine⟨_,rfl,.inl ⟨_, "bool",.bool b,true,rfl,d2,rfl,_,rfl,bN ?_⟩⟩;refine⟨_,rfl,.inl ⟨_, "bool",.bool b,true,rfl,d1,rfl,_,rfl,bN ⟨_,rfl,_,rfl,.inl ⟨rfl,?_⟩⟩⟩⟩;rw[decide_eq_true rfl];exact q H (av.refl _)
 | int i=>
  have Iu:=d1;have Ge:=d2;unfold Den at Iu Ge;subst Iu Ge;refine⟨_,rfl,.inl ⟨rfl,_,rfl,bC ?_⟩⟩;refine⟨_,rfl,.inl ⟨_, "bool",.int i,false,rfl,d2,rfl,_,rfl,bC ?_⟩⟩;refine⟨_,rfl,by show 2<=Wp;decide,fun p H1 n1=>⟨_,p,["list", "tuple"],.int i,false,rfl,n1.at,d2,rfl,_,rfl,bC ?_⟩⟩;refine⟨_,rfl,.inl ⟨_, "str",.int i,false,rfl,d2,rfl,_,rfl,bC ?_⟩⟩;refine⟨_,rfl,.inl ⟨_, "int",.int i,true,rfl,d1,rfl,_,rfl,bN ⟨_,rfl,.inl ⟨_, "bool",.int i,false,rfl,d1,rfl,_,rfl,_,rfl,bN ⟨_,rfl,_,rfl,.inl ⟨rfl,?_⟩⟩⟩⟩⟩⟩;rw[decide_eq_true rfl];exact q H1 n1.same
 | str x=>
  have Iu:=d1;have Ge:=d2;unfold Den at Iu Ge;subst Iu Ge;refine⟨_,rfl,.inl ⟨rfl,_,rfl,bC ?_⟩⟩;refine⟨_,rfl,.inl ⟨_, "bool",.str x,false,rfl,d2,rfl,_,rfl,bC ?_⟩⟩;refine⟨_,rfl,by show 2<=Wp;decide,fun p H1 n1=>⟨_,p,["list", "tuple"],.str x,false,rfl,n1.at,d2,rfl,_,rfl,bC ?_⟩⟩;refine⟨_,rfl,.inl ⟨_, "str",.str x,true,rfl,d2,rfl,_,rfl,bN ?_⟩⟩;refine⟨_,rfl,.inl ⟨_, "str",.str x,true,rfl,d1,rfl,_,rfl,bN ⟨_,rfl,_,rfl,.inl ⟨rfl,?_⟩⟩⟩⟩;rw[decide_eq_true rfl];exact q H1 n1.same
 | list ds=>
  have e1:=d1;have e2:=d2;unfold Den at e1 e2;obtain⟨a1,vs1,rfl,s1,ds1⟩:=e1;obtain⟨a2,vs2,rfl,s2,ds2⟩:=e2;simp only[Qbq] at hn;simp only[QaD] at hw;have hlw:=iO ds;refine⟨_,rfl,.inl ⟨rfl,_,rfl,bC ?_⟩⟩;refine⟨_,rfl,.inl ⟨_, "bool",.list ds,false,rfl,d2,rfl,_,rfl,bC ?_⟩⟩;refine⟨_,rfl,by show 2<=Wp;decide,fun p H1 n1=>⟨_,p,["list", "tuple"],.list ds,true,rfl,n1.at,d2.same n1.same,rfl,_,rfl,bN ?_⟩⟩;have b1:=d1.same n1.same;have b2:=d2.same n1.same;refine⟨_,rfl,.inl ⟨_, "list",.list ds,true,rfl,b1,rfl,_,rfl,.inl ⟨_, "list",.list ds,true,rfl,b2,rfl,.inl ⟨rfl,_,rfl,bC ?_⟩⟩⟩⟩;refine⟨_,rfl,.inl ⟨_, "tuple",.list ds,false,rfl,b1,rfl,_,rfl,.inl ⟨_, "tuple",.list ds,false,rfl,b2,rfl,.inl ⟨rfl,_,rfl,bC ?_⟩⟩⟩⟩;refine⟨_,rfl,_,_,rfl,.inl ⟨vs1,n1.same.seq s1,rfl⟩,_,rfl,_,_,rfl,.inl ⟨vs2,n1.same.seq s2,rfl⟩,.inl ⟨rfl,_,rfl,?_⟩⟩;rw[decide_eq_true (show V.int (vs1.length:Nat)=V.int (vs2.length:Nat) by rw[ds1.len,ds2.len])];refine bC ?_;refine⟨_,rfl,_,rfl,false,false,a1,a2,rfl,⟨_,n1.same.seq s1⟩,⟨_,n1.same.seq s2⟩,?_⟩;refine fc (N:=ds.length) (fun i ys H'=>av H1 H'/\ys=(J0 i true).map V.bl) ⟨av.refl _,rfl⟩ ?_ ?_
  ·rintro i ys H2 Nx hi ⟨sm,rfl⟩ nx;have iB:=n1.same.trans sm;obtain⟨x,hx,dx⟩:=ds1.get (i:=i) (d:=ds[i]) (Jd hi);obtain⟨y,hy,dy⟩:=ds2.get (i:=i) (d:=ds[i]) (Jd hi);have q1:oX false K H2 a1 vs1:=iB.seq s1;have q2:oX false K H2 a2 vs2:=iB.seq s2;refine⟨⟨_,_,_,_,q1,q2,hx,hy⟩,by rw[Jc,U1];exact Jt (show i<10000000 by lia) ∅,?_⟩;rintro x' H3 ⟨T',rfl,hN⟩;have n3:=hN _ _ _ _ q1 q2 hx hy;refine⟨T',_,rfl,bG.of n3.at,rfl,_,_,rfl,_,_,rfl,rfl,?_⟩;have M4:=iB.trans n3.same;refine⟨_,rfl,_,rfl,x,y,ds[i],rfl,dx.same M4,dy.same M4,?_,?_,fun H4 uH=>nx _ _ ⟨sm.trans (n3.same.trans uH),?_⟩⟩
   ·have:=pP (n:=n-1) ⋯ (Um hi);lia
   ·exact ie hw (Um hi)
   ·rw[Qgb,J4];rfl
  ·rintro ys H2 ⟨sm,rfl⟩;have iB:=n1.same.trans sm;have q1:oX false K H2 a1 vs1:=iB.seq s1;have q2:oX false K H2 a2 vs2:=iB.seq s2;refine⟨⟨_,_,q1,q2,.inl (by rw[ds1.len];exact Je _)⟩,fun p2 Ly =>?_⟩;refine⟨p2,J0 ds.length true,rfl,bA.of au,?_⟩;rw[all_true];exact q _ (iB.trans (bI Ly _))
 | tuple ds=>
  have e1:=d1;have e2:=d2;unfold Den at e1 e2;obtain⟨a1,vs1,rfl,s1,ds1⟩:=e1;obtain⟨a2,vs2,rfl,s2,ds2⟩:=e2;simp only[Qbq] at hn;simp only[QaD] at hw;have hlw:=iO ds;refine⟨_,rfl,.inl ⟨rfl,_,rfl,bC ?_⟩⟩;refine⟨_,rfl,.inl ⟨_, "bool",.tuple ds,false,rfl,d2,rfl,_,rfl,bC ?_⟩⟩;refine⟨_,rfl,by show 2<=Wp;decide,fun p H1 n1=>⟨_,p,["list", "tuple"],.tuple ds,true,rfl,n1.at,d2.same n1.same,rfl,_,rfl,bN ?_⟩⟩;have b1:=d1.same n1.same;have b2:=d2.same n1.same;refine⟨_,rfl,.inl ⟨_, "list",.tuple ds,false,rfl,b1,rfl,_,rfl,.inl ⟨_, "list",.tuple ds,false,rfl,b2,rfl,.inl ⟨rfl,_,rfl,bC ?_⟩⟩⟩⟩;refine⟨_,rfl,.inl ⟨_, "tuple",.tuple ds,true,rfl,b1,rfl,_,rfl,.inl ⟨_, "tuple",.tuple ds,true,rfl,b2,rfl,.inl ⟨rfl,_,rfl,bC ?_⟩⟩⟩⟩;refine⟨_,rfl,_,_,rfl,.inr ⟨vs1,n1.same.cL s1,rfl⟩,_,rfl,_,_,rfl,.inr ⟨vs2,n1.same.cL s2,rfl⟩,.inl ⟨rfl,_,rfl,?_⟩⟩;rw[decide_eq_true (show V.int (vs1.length:Nat)=V.int (vs2.length:Nat) by rw[ds1.len,ds2.len])];refine bC ?_;refine⟨_,rfl,_,rfl,true,true,a1,a2,rfl,⟨_,n1.same.cL s1⟩,⟨_,n1.same.cL s2⟩,?_⟩;refine fc (N:=ds.length) (fun i ys H'=>av H1 H'/\ys=(J0 i true).map V.bl) ⟨av.refl _,rfl⟩ ?_ ?_
  ·rintro i ys H2 Nx hi ⟨sm,rfl⟩ nx;have iB:=n1.same.trans sm;obtain⟨x,hx,dx⟩:=ds1.get (i:=i) (d:=ds[i]) (Jd hi);obtain⟨y,hy,dy⟩:=ds2.get (i:=i) (d:=ds[i]) (Jd hi);have q1:oX true K H2 a1 vs1:=iB.cL s1;have q2:oX true K H2 a2 vs2:=iB.cL s2;refine⟨⟨_,_,_,_,q1,q2,hx,hy⟩,by rw[Jc,U1];exact Jt (show i<10000000 by lia) ∅,?_⟩;rintro x' H3 ⟨T',rfl,hN⟩;have n3:=hN _ _ _ _ q1 q2 hx hy;refine⟨T',_,rfl,bG.of n3.at,rfl,_,_,rfl,_,_,rfl,rfl,?_⟩;have M4:=iB.trans n3.same;refine⟨_,rfl,_,rfl,x,y,ds[i],rfl,dx.same M4,dy.same M4,?_,?_,fun H4 uH=>nx _ _ ⟨sm.trans (n3.same.trans uH),?_⟩⟩
   ·have:=pP (n:=n-1) ⋯ (Um hi);lia
   ·exact ie hw (Um hi)
   ·rw[Qgb,J4];rfl
  ·rintro ys H2 ⟨sm,rfl⟩;have iB:=n1.same.trans sm;have q1:oX true K H2 a1 vs1:=iB.cL s1;have q2:oX true K H2 a2 vs2:=iB.cL s2;refine⟨⟨_,_,q1,q2,.inl (by rw[ds1.len];exact Je _)⟩,fun p2 Ly =>?_⟩;refine⟨p2,J0 ds.length true,rfl,bA.of au,?_⟩;rw[all_true];exact q _ (iB.trans (bI Ly _))
 | dict _=>unfold Den at d1;exact d1.elim
end
def split_not {g:Nat->Bool}:∀(l:List Nat),l.all g=false->∃p c r,l=p++c::r/\(∀a∈p,g a=true)/\g c=false
 | [],h=>by cases h
 | a::l,h=>by
  cases ha:g a with
  | false=>exact⟨[],a,l,rfl,(fun _ z=>nomatch z),ha⟩
  | true=>
   rw[Qb6,ha,Yc] at h;obtain⟨p,c,r,rfl,hp,hc⟩:=split_not l h;refine⟨a::p,c,r,rfl,fun x hx =>?_,hc⟩
   rcases Jx.mp hx with rfl|hx
   ·exact ha
   ·exact hp x hx
def rn (x y:Str):gV x y=x.cps.toList.all y.cps.contains:=by
 unfold gV Qff;rw[PyProof.Rows.stripBy_eq];generalize y.cps.contains=g;unfold stripHi stripLo;simp only[if_true];have sub:∀i j:Nat,decide (V.str (QdG x i j)=V.str (Qaa ""))=decide (min j x.length<=i):=fun i j=>by
  congr 1
  refine propext ⟨fun h =>?_,fun h =>?_⟩
  ·injection h with h
   have h:=congrArg (fun s:Str=>s.cps.size) h;have e0:(Qaa "").cps.size=0:=rfl;simp only[QdG,Array.size_extract,e0] at h;have:x.cps.size=x.length:=rfl;lia
  ·congr 1
   unfold QdG;have e:x.cps.extract i j = #[]:=by
    apply Qeu;rw[Array.size_extract];have:x.cps.size=x.length:=rfl;lia
   rw[e]
   rfl
 rw[sub];have hlen:x.length=x.cps.toList.length:=by simp[Str.length]
 rw[hlen];generalize x.cps.toList=l
 by_cases h:l.all g=true
 ·rw[h];have e:l.takeWhile g=l:=by
   clear sub hlen
   induction l with
   | nil=>rfl
   | cons a l ih=>
    rw[Qb6,Js] at h;rw[Qd1,if_pos h.1,ih h.2]
  rw[e];exact decide_eq_true ⋯
 ·have hf:l.all g=false:=by simpa using h
  rw[hf];apply decide_eq_false;intro z;obtain⟨p,c,r,rfl,hp,hc⟩:=split_not l hf;have e:(p++c::r).takeWhile g=p:=by
   clear z hlen sub h hf
   induction p with
   | nil=>rw[List.nil_append,Qd1,hc];rfl
   | cons a p ih=>
    rw[Qdp,Qd1,if_pos (hp a Jo),ih fun x hx=>hp x (Jl _ hx)]
  have ed:(p++c::r).drop p.length=c::r:=List.drop_left;rw[e,ed] at z;have hl:(p++c::r).length=p.length+(r.length+1):=by rw[Jw,Jr]
  have tl:((c::r).reverse.takeWhile g).length<=r.length:=by
   rw[Qc7];have:((r.reverse++[c]).takeWhile g).length<=r.reverse.length:=by
    rw[List.takeWhile_append]
    split
    ·rw[Jw];have e:[c].takeWhile g=[]:=by simp[List.takeWhile,hc]
     rw[e];simp
    ·exact(List.takeWhile_prefix g).length_le
   rw[List.length_reverse] at this;exact this
  lia
def o8 {α:Type}[DecidableEq α]{f:Nat -> α}{k: α}:∀{i:Nat},k∈bV f i ↔ ∃j,j<i/\f j=k
 | 0=>by simp[bV]
 | i+1=>by
  unfold bV oneMore;have ih:=o8 (f:=f) (k:=k) (i:=i)
  by_cases h:f i∈bV f i
  ·rw[if_pos h,ih];constructor
   ·rintro⟨j,hj,e⟩;exact⟨j,⋯,e⟩
   ·rintro⟨j,hj,e⟩
    by_cases hji:j=i
    ·subst hji;obtain⟨m,hm,em⟩:=(o8 (f:=f) (k:=f j) (i:=j)).mp h;exact⟨m,hm,em.trans e⟩
    ·exact⟨j,⋯,e⟩
  ·rw[if_neg h,Uq,ih,Jz];constructor
   ·rintro(⟨j,hj,e⟩|e)
    ·exact⟨j,⋯,e⟩
    ·exact⟨i,⋯,e.symm⟩
   ·rintro⟨j,hj,e⟩
    by_cases hji:j=i
    ·subst hji;exact .inr e.symm
    ·exact .inl ⟨j,⋯,e⟩
def ya {α:Type}[DecidableEq α]{f:Nat -> α}:∀{i:Nat},(bV f i).length=i ↔ ∀a b,a<b->b<i->f a≠f b
 | 0=>⟨fun _ a b _ h=>absurd h (Wf _),fun _=>rfl⟩
 | i+1=>by
  have ih:=ya (f:=f) (i:=i);have le:=ll f i;unfold bV oneMore
  by_cases h:f i∈bV f i
  ·rw[if_pos h];refine⟨fun z=>⋯,fun z =>?_⟩;obtain⟨j,hj,e⟩:=o8.mp h;exact absurd e (z j i hj ⋯)
  ·rw[if_neg h,Jw,QdH];constructor
   ·intro z a b uz hb e
    by_cases hbi:b=i
    ·subst hbi;exact h (o8.mpr ⟨a,uz,e⟩)
    ·exact ih.mp ⋯ a b uz ⋯ e
   ·intro z;have:=ih.mpr fun a b uz hb=>z a b uz ⋯;lia
def DL {l:List Str}:(bV (fun i=>l.getD i Qat) l.length).length=l.length↔l.Nodup:=by
 rw[ya,List.nodup_iff_pairwise_ne,U0];constructor
 ·intro h i j hi hj AX e;refine h i j AX hj ?_;simp only[U5,Jd hi,Jd hj];exact e
 ·intro h a b uz hb e;refine h a b ⋯ hb uz ?_;simpa only [U5,Jd hb,Jd (show a<l.length by lia),Option.getD_some] using e
def Ld:Qae->Bool
 | .tuple [.str _,.str y]=>cz (.str y)
 | _=>false
def LX {d:Qae}(h:Ld d=true):∃x y,d = .tuple [.str x,.str y]/\cz (.str y)=true:=by
 unfold Ld at h
 split at h
 ·exact⟨_,_,rfl,h⟩
 ·cases h
def qH:∀{ds:List Qae},(∀x∈ds,Ld x=true)->ds=(cU (.list ds)).map fun q=>QcE [.str q.1,.str q.2]
 | [],_=>rfl
 | d::ds,h=>by
  obtain⟨x,y,rfl,_⟩:=LX (h d Jo);have ih:=qH fun x hx=>h x (Jl _ hx);show QcE [.str x,.str y]::ds=QcE [.str x,.str y]::(cU (.list ds)).map fun q=>QcE [.str q.1,.str q.2];rw[<-ih]
def Og {ns:List Str}{d:Qae}{ds:List Qae}(e:gN d = .list ds)(h:∀x∈ds,Ld x=true)(nn:ns≠[])(nd:ns.Nodup)(nv:∀x∈ns,dw (.str x)=true):
  dz ns d=(decide (((cU (.list ds)).map (·.1)).Perm ns)&&xF (cU (.list ds))):=by
 unfold dz;rw[e]
 by_cases hp:((cU (.list ds)).map (·.1)).Perm ns
 ·rw[decide_eq_true hp,Yc];have hb:dE (.list ds)=true:=by
   show(!ds.isEmpty&&(ds.all bz&&decide ((bV (fun i=>(ds.map gm).getD i Qat) ds.length).length=ds.length)))=true;have en:ds.map gm=(cU (.list ds)).map (·.1):=by
    have e2:=congrArg (List.map gm) (qH h);rw[Yn] at e2;exact e2
   rw[Js,Js,Wc];refine⟨?_,fun x hx =>?_,decide_eq_true ?_⟩
   ·cases ds with
    | nil=>exact absurd hp.symm.eq_nil nn
    | cons _ _=>rfl
   ·have rY:=hx;rw[qH h] at rY;obtain⟨q,hq,rfl⟩:=Uu.mp rY;have h1:=nv q.1 (hp.mem_iff.mp (Y8 hq));have h2:cz (.str q.2)=true:=h _ hx;show(dw (.str q.1)&&cz (.str q.2))=true;rw[h1,h2];rfl
   ·have:=DL (l:=ds.map gm);rw[Jc] at this;exact this.mpr (by rw[en];exact hp.nodup_iff.mpr nd)
  rw[hb,Yc]
 ·rw[decide_eq_false hp,Yv,Bool.and_false]
def B4 (x:Str):decide (V.str x=V.str (Qaa ""))=decide (x.length=0):=by
 congr 1
 refine propext ⟨fun h =>?_,fun h =>?_⟩
 ·injection h with h
  rw[h];rfl
 ·congr 1
  cases x with
  | mk c=>
   have:c = #[]:=Qeu h;rw[this];rfl
structure QM (ns:List Str):Prop where
 l:ns.length<64
 nn:ns≠[]
 nd:ns.Nodup
 az:∀x∈ns,kz x=true
 ok:∀x∈ns,dw (.str x)=true
def pR (ws:List Str):Sp:=fun vs H Q _=>vs=[]/\∀p H',hW H p (.lst (ws.map V.str)) H'->Q (.ref p) H'
def RL:QM aI:=⟨∅,∅,∅,∅,∅⟩
def OW:QM bS:=⟨∅,∅,∅,∅,∅⟩
def NC:QM bB:=⟨∅,∅,∅,∅,∅⟩
section
variable {P:Qaf}{w:Qah}{K:Ja}{mg:Str->Option Fk}{base:Heap}{f:Gc}{fd:Qad}
def vz:aA [] [] (ak (top jY)):=⟨rfl,rfl,rfl,∅,rfl,∅,∅⟩
def IT (F:bM K "_law_kinds" "_law_kinds" (top jY) f fd)(T:Nm mg):aW P w K mg base d7 1 f fd [] (pR aI):=by
 refine F.ok vz (fun vs H Q E h =>?_) (fun cQ A outer s H vs Q E hr h =>?_)
 ·obtain⟨rfl,_⟩:=h
  rfl
 obtain⟨rfl,q⟩:=h;refine⟨_,(ag (ar (xg K QaC Qdf Qde Bm ax (aa ax ae)))),?_⟩;have Nf:Qcd (Qaa "set add take tell ask jump zero stop farjump farzero skip") (Qaa " ")=aI:=∅;have sl:(Qaa " ").length≠0:=∅;refine⟨rfl,_,_,rfl,rfl,sl,∅,by rw[Nf];decide,fun p H7 n7 =>?_⟩;rw[Nf] at n7;exact q p H7 n7
def vb:aA [] [] (ak (top jM)):=⟨rfl,rfl,rfl,∅,rfl,∅,∅⟩
def Gq (F:bM K "_law_sizes" "_law_sizes" (top jM) f fd)(T:Nm mg):aW P w K mg base d7 1 f fd [] (pR bB):=by
 refine F.ok vb (fun vs H Q E h =>?_) (fun cQ A outer s H vs Q E hr h =>?_)
 ·obtain⟨rfl,_⟩:=h
  rfl
 obtain⟨rfl,q⟩:=h;refine⟨_,(ag (ar (xg K QaC Qdf Qde Bm ax (aa ax ae)))),?_⟩;have Nf:Qcd (Qaa "none one two three four five six seven eight") (Qaa " ")=bB:=∅;have sl:(Qaa " ").length≠0:=∅;refine⟨rfl,_,_,rfl,rfl,sl,∅,by rw[Nf];decide,fun p H7 n7 =>?_⟩;rw[Nf] at n7;exact q p H7 n7
end
structure Mx (K:Ja)(G:Hp)(zs:List (Qae×V)):Prop where
 ze:zs.length<=64
 d:∀z∈zs,Den K G z.1 z.2
 sh:∀z∈zs,Sh 2 z.1
def eS {α:Type}:∀{l:List α} {k:Nat} {z: α},l[k]? = some z->(z::l.eraseIdx k).Perm l
 | [],_,_,h=>by cases h
 | x::l,0,z,h=>by
  cases h;exact Yb.refl _
 | x::l,k+1,z,h=>by
  have ih:=eS (l:=l) (k:=k) (z:=z) h;exact(Yb.swap x z _).trans (ih.cons x)
def C0 (K:Ja):Sp:=fun vs H Q _=>FC fun(b c p:Gc) (t:Int) (G:Hp) (zs:List (Qae×V))=>vs=[.ref b,.ref p]/\Bx H b c t/\0<=t/\t<50000000/\av G (hM H b c)/\(bA K H p (zs.map (·.2))\/bG K H p (zs.map (·.2)))/\Mx K G zs /\
 ∀(l:Gc) (Dv:List (Qae×V)) (H':Hp) (t':Int),Dv.Perm zs->H l=none->H' l=some (.lst (Dv.map (·.2)))->Step b c H H' t t' 64->Q (.ref l) H'
section
variable {P:Qaf}{w:Qah}{K:Ja}{mg:Str->Option Fk}{base:Heap}{f:Gc}{fd:Qad}
def iD:aA ["_law_state", "_law_some", "_law_rest", "_law_found"] ["_law_state", "_law_some"] (ak (top jX)):=⟨rfl,rfl,rfl,∅,rfl,∅,∅⟩
def JM (F:bM K "_law_mixed" "_law_mixed" (top jX) f fd)(T:Nm mg)(bE:Fn P w K mg base 1 "_law_take" ["_law_state", "_law_many"] Bo):aW P w K mg base d7 2 f fd ["_law_state", "_law_some"] (C0 K):=by
 refine F.ok iD (fun vs H Q E h =>?_) (fun cQ A outer s H vs Q E hr h =>?_)
 ·obtain⟨b,c,p,t,G,zs,rfl,_⟩:=h
  rfl
 obtain⟨b,c,p,t,G,zs,rfl,bx,t0,t1,hG,hs,M,q⟩:=h;have d6:=hr.units;refine⟨_,(af (aE (i:=2) iD.nd rfl (Qag rfl) (bh (FX K) rfl T.n_list (by rfl) (aa (pv 1) ae)))
  (af (aE (i:=3) iD.nd rfl (Qag rfl) (il ae))
  (af (rJ Qaz (aG (IK K d6) (pv 2) (il ae) (aK _)) (ag (lX (xg K QaP QbX QbW pB (pv 3) (aa (xg K QaP PySem.F.slot_list_pop PySem.F.type_list_pop Pf (pv 2) (aa (aH (bE.mono ∅) hr rfl (aa (pv 0) (aa (aq (hX K) rfl T.n_len (by rfl) (aa (pv 2) ae)) ae))) ae)) ae)))))
  (ag (ar (pv 3)))))),?_⟩
 refine⟨_,rfl,p,_,rfl,hs,fun p1 H1 n1=>gn ⟨by show 0<=Wp;decide,fun p2 H2 n2=>gn ?_⟩⟩;dsimp only;have AA:=n1.nn;have Ly:H p2=none:=n1.back n2.nn;have n21:p2≠p1:=fun z=>by have:=n2.nn;rw[z,n1.at] at this;cases this
 obtain⟨b1,c1⟩:=bx.bb AA;obtain⟨b2,c2⟩:=bx.bb Ly;have kr:Step b c H H2 t t 0:=Step.same bx (n1.same.trans n2.same);have zl:=M.ze;refine fJ (t:=rO _ _) (fun σ H'=>∃(fs:List (Qae×V)) (t':Int),σ=[some (.ref b),some (.ref p),some (.ref p1),some (.ref p2)]/\fs.Perm zs/\Step b c H H' t t' 64/\H' p2=some (.lst (fs.map (·.2)))) (fun Nx nx =>?_) ?_
 ·refine vN (fun m σ H'=>∃(rs fs:List (Qae×V)) (t':Int),m=rs.length /\ σ=[some (.ref b),some (.ref p),some (.ref p1),some (.ref p2)]/\(rs++fs).Perm zs/\Step b c H H' t t' (64-rs.length)/\H' p1=some (.lst (rs.map (·.2)))/\H' p2=some (.lst (fs.map (·.2)))) ⟨_,zs,[],t,rfl,rfl,by rw[Uv],kr.more ⋯,n2.same _ _ n1.at,n2.at⟩ ?_;rintro m σ H3 ⟨rs,fs,t3,rfl,rfl,pm,eQ,hr3,hf3⟩;have YC:=eQ.ub;have YQ:=eQ.le;have rl:=pm.length_eq;rw[Jw] at rl;have G3:av G H3:=fun a o e=>(lF (eQ.sm _ _ (hG _ _ e))).1;have mem:∀z∈rs,z∈zs:=fun z hz=>pm.mem_iff.mp (Yh _ hz);refine⟨_,rfl,by show 0<=Wp;decide,fun pe H4 n4 =>.inr ⟨.list (rs.map (·.1)),.list [],Den.list (bA.of (n4.same _ _ hr3)) (aV.of_get (by rw[Jc,Jc]) fun j d v hd hv =>?_),Den.list (bA.of n4.at) (Den.strs []),(Sh.list (n:=2) fun d hd =>?_).shaped ∅,∅,_,rfl,?_⟩⟩
  ·rw[Jk] at hd hv;cases e:rs[j]? with
   | none=>rw[e] at hd;cases hd
   | some z=>
    rw[e] at hd hv;cases hd;cases hv;exact(M.d z (mem z (Jy e))).same (G3.trans n4.same)
  ·obtain⟨z,hz,rfl⟩:=Uu.mp hd;exact M.sh z (mem z hz)
  rw[BV];have jq:=eQ.jk n4;have WC:=n4.same _ _ hr3;have YI:=n4.same _ _ hf3;cases rs with
  | nil=>exact bC (nx _ _ ⟨fs,t3,rfl,pm,jq.more (by simp),YI⟩)
  | cons r0 rs0=>
   generalize hrs:r0::rs0=rs at *;have pos:1<=rs.length:=by rw[<-hrs];exact Wb (Uw _)
   have em:(rs.map (·.1)).isEmpty=false:=by rw[<-hrs];rfl
   rw[em];refine bN ⟨fun σ' H'=>∃m',m'<rs.length/\_,fun _ _ h=>h,?_⟩;have small:∀{n:Nat},n<=10000->n<Wp:=fun h=>Ub h ∅;have vl:(rs.map (·.2)).length=rs.length:=Jc _;refine⟨_,rfl,.inl ⟨rfl,_,bA.of YI⟩,_,rfl,.inl ⟨rfl,_,bA.of WC⟩,_,rfl,_,rfl,_,_,rfl,.inl ⟨_,bA.of WC,rfl⟩,b,c,t3,_,rfl,jq.bx,⋯,⋯,⋯,⋯,fun a H5 a0 a1 dZ =>?_⟩;have hr5:=dZ.old WC b1 c1;have hf5:=dZ.old YI b2 c2;have dZ:=jq.trans dZ;obtain⟨z,hz⟩:∃z,rs[a.toNat]? = some z:=⟨_,Jd ⋯⟩
   refine⟨p1,_,a,z.2,rfl,rfl,hr5,a0,⋯,by rw[Jk,hz];rfl,fun H6 c6 =>?_⟩;have hf6:H6 p2=some (.lst (fs.map (·.2))):=by rw[c6.ne n21];exact hf5
   refine⟨p2,_,_,rfl,rfl,hf6,small (by rw[Jc];lia),fun H7 c7 =>?_⟩;have le:(rs.eraseIdx a.toNat).length=rs.length-1:=List.length_eraseIdx_of_lt ⋯;refine⟨(rs.eraseIdx a.toNat).length,⋯,rs.eraseIdx a.toNat,fs++[z],t3+1,rfl,rfl,?_,((dZ.HG c6 AA b1 c1).HG c7 Ly b2 c2).more ⋯,?_,?_⟩
   ·refine Yb.trans ?_ pm;have h1:=eS hz;refine Yb.trans ?_ (h1.append_right fs);rw[<-Yo];exact List.perm_append_singleton z _
   ·rw[c7.ne n21.symm,c6.at]
    congr 2
    rw[Yy,Yy,J4,List.map_take,List.map_drop]
   ·rw[c7.at,J4];rfl
 rintro σ H3 ⟨fs,t3,rfl,pm,eQ,hf3⟩;exact⟨_,rfl,q p2 fs H3 t3 pm Ly hf3 eQ⟩
end
def OP (most:Nat)(cs:List Str):Nat:=(cs.map fun x=>2^(most-x.length)).sum
structure Cs (most:Nat)(cs:List Str):Prop where
 free:fE cs
 bin:∀x∈cs,ux x
 le:∀x∈cs,x.length<=most
 full:OP most cs=2^most
def My {most:Nat}{cs ds:List Str}(h:cs.Perm ds):OP most cs=OP most ds:=(h.map _).sum_nat
def Cs.one {most:Nat}:Cs most [Qat]:=⟨Qcb _ _,fun x hx=>by rw[Jz.mp hx];exact fun c hc=>by simp[Qat] at hc,fun x hx=>by rw[Jz.mp hx];exact Uw _,by unfold OP;rw[J3,QcL,Yq,List.sum_nil];show 2^(most-0)+0=2^most;rw[Nat.sub_zero,Nat.add_zero]⟩
def zb {most:Nat}:∀{cs:List Str},(∀x∈cs,most<=x.length)->OP most cs=cs.length
 | [],_=>rfl
 | x::cs,h=>by
  have ih:=zb (cs:=cs) fun y hy=>h y (Jl _ hy);unfold OP at ih ⊢;rw[J3,Yq,ih,show most-x.length=0 from Nat.sub_eq_zero_of_le (h x Jo),Jr];lia
def Cs.short {most:Nat}{cs:List Str}(h:Cs most cs)(hl:cs.length<2^most):∃x∈cs,x.length<most:=by
 apply Qez;intro n;have:=zb (most:=most) (cs:=cs) fun x hx=>Nat.le_of_not_lt fun z=>n ⟨x,hx,z⟩;rw[h.full] at this;lia
def rq (y z:Str):(y++z).length=y.length+z.length:=by
 show(y.cps++z.cps).size=_;rw[Array.size_append];rfl
def Cs.part {most:Nat}{cs:List Str}{y:Str}(h:Cs most cs)(hy:y∈cs)(hl:y.length<most):Cs most (cs.erase y++[y++s0,y++s1]):=by
 have pm:cs.Perm (y::cs.erase y):=Qgc hy;have l0:(y++s0).length=y.length+1:=rq _ _;have l1:(y++s1).length=y.length+1:=rq _ _;have sub:∀x∈cs.erase y,x∈cs:=fun x hx=>List.mem_of_mem_erase hx;refine⟨?_,fun x hx =>?_,fun x hx =>?_,?_⟩
 ·have:=fE.split (A:=[]) (B:=cs.erase y) (x:=y) (h.free.perm pm);exact this.perm List.perm_append_comm
 ·rcases Uq.mp hx with hx|hx
  ·exact h.bin x (sub x hx)
  ·have hb:=h.bin y hy;simp only[Jx,Yl,or_false] at hx
   rcases hx with rfl|rfl
   ·intro c hc;rw[show(y++s0).cps.toList=y.cps.toList++[48] from aN y s0] at hc
    rcases Uq.mp hc with hc|hc
    ·exact hb c hc
    ·exact .inl (Jz.mp hc)
   ·intro c hc;rw[show(y++s1).cps.toList=y.cps.toList++[49] from aN y s1] at hc
    rcases Uq.mp hc with hc|hc
    ·exact hb c hc
    ·exact .inr (Jz.mp hc)
 ·rcases Uq.mp hx with hx|hx
  ·exact h.le x (sub x hx)
  ·simp only[Jx,Yl,or_false] at hx
   rcases hx with rfl|rfl<;>lia
 ·have e:=h.full;rw[My pm] at e;unfold OP at e ⊢;rw[J3,Yq] at e;rw[J4,List.sum_append,J3,J3,QcL,Yq,Yq,List.sum_nil,l0,l1];have:2^(most-y.length)=2^(most-(y.length+1))+2^(most-(y.length+1)):=by
   rw[show most-y.length=(most-(y.length+1))+1 by lia,QcP];lia
  lia
def fE.longer {fs gs:List Str}(h:fE fs)(hl:gs.length=fs.length)(he:∀(j:Nat) y,gs[j]? = some y->∃x u,fs[j]? = some x/\y=x++u):fE gs:=by
 have h:=U0.mp h;refine U0.mpr fun i j hi hj AX =>?_;obtain⟨x,u,hx,ex⟩:=he i gs[i] (Jd hi);obtain⟨y,v,hy,ey⟩:=he j gs[j] (Jd hj);obtain⟨zC,rfl⟩:=Jq.mp hx;obtain⟨NA,rfl⟩:=Jq.mp hy;rw[ex,ey];exact(h i j zC NA AX).ext
def B9:ux (Qaa ""):=fun c hc=>by
 rw[show(Qaa "").cps.toList=[] by decide +kernel] at hc;cases hc
def G2:Sp:=fun vs H Q _=>zg fun(b c:Gc) (t:Int) (many most:Nat)=>vs=[.ref b,.int (many:Nat),.int (most:Nat)]/\Bx H b c t/\0<=t/\t<40000000/\2<=many/\many<=20/\many<=2^most/\most<=12 /\
 ∀(l:Gc) (cs:List Str) (H':Hp) (t':Int),cs.length=many->fE cs->(∀x∈cs,ux x/\x.length<=most+2)->H l=none->H' l=some (.lst (cs.map V.str))->Step b c H H' t t' 200->Q (.ref l) H'
section
variable {P:Qaf}{w:Qah}{K:Ja}{mg:Str->Option Fk}{base:Heap}{f:Gc}{fd:Qad}
def dB:aA ["_law_state", "_law_many", "_law_most", "_law_found", "_law_short", "_law_code"] ["_law_state", "_law_many", "_law_most"] (ak (top j3)):=⟨rfl,rfl,rfl,∅,rfl,∅,∅⟩
def N2 (F:bM K "_law_codes" "_law_codes" (top j3) f fd)(T:Nm mg)(bE:Fn P w K mg base 1 "_law_take" ["_law_state", "_law_many"] Bo)(fC:Fn P w K mg base 2 "_law_mixed" ["_law_state", "_law_some"] (C0 K)):aW P w K mg base d7 3 f fd ["_law_state", "_law_many", "_law_most"] G2:=by
 refine F.ok dB (fun vs H Q E h =>?_) (fun cQ A outer s H vs Q E hr h =>?_)
 ·obtain⟨b,c,t,many,most,rfl,_⟩:=h
  rfl
 obtain⟨b,c,t,many,most,rfl,bx,t0,t1,m2,m20,mm,m12,q⟩:=h;have d6:=hr.units;refine⟨_,(af (aE (i:=3) dB.nd rfl (Qag rfl) (il (aa ax ae)))
  (af (rJ Qaz (aG kB (aq (hX K) rfl T.n_len (by rfl) (aa (pv 3) ae)) (pv 1) (aK _)) (af (rA (i:=4) dB.nd rfl (Qag rfl) rfl (dS (Nc:=["_law_code"]) (Fc:=["_law_most"]) (js:=[2])) (MY K (pv 3)) (cf (i:=0) (n:=1) ∅) (fun _ _ _ _ _=>(aD (i:=0) (zd ["_law_code", "_law_most"]) rfl (Qag rfl))) (fun _ _ _ _ _=>(Mg (aG kB (aq (hX K) rfl T.n_len (by rfl) (aa (pv 0) ae)) (pv 1) (aK _)))) (fun _ _ _ _ _=>(pv 0)))
  (af (aE (i:=5) dB.nd rfl (Qag rfl) (bJ (kq K) (pv 4) (aH (bE.mono ∅) hr rfl (aa (pv 0) (aa (aq (hX K) rfl T.n_len (by rfl) (aa (pv 4) ae)) ae))) (fun _ _=>rfl)))
  (af (lX (xg K QaP PySem.F.slot_list_remove PySem.F.type_list_remove KM (pv 3) (aa (pv 5) ae)))
  (ag (aE (i:=3) dB.nd rfl (Qag rfl) (aB cu (pv 3) (il (aa (aB cu (pv 5) ax) (aa (aB cu (pv 5) ax) ae))))))))))
  (af (aY (aG (qd K d6) (aH (bE.mono ∅) hr rfl (aa (pv 0) (aa ai ae))) ai (aK _)) (ag (rA (i:=3) dB.nd rfl (Qag rfl) rfl (dS (Nc:=["_law_code"]) (Fc:=["_law_state"]) (js:=[0])) (MY K (pv 3)) (cf (i:=0) (n:=1) ∅) (fun _ _ _ _ _=>(aD (i:=0) (zd ["_law_code", "_law_state"]) rfl (Qag rfl))) (fun _ _ _ _ _=>eF) (fun _ _ _ _ _=>(aB cu (pv 0) (bJ (kq K) (il (aa ax (aa ax (aa ax (aa ax (aa ax ae)))))) (aH (bE.mono ∅) hr rfl (aa (pv 1) (aa ai ae))) (fun _ _=>rfl)))))) aF)
  (ag (ar (aH (fC.mono ∅) hr rfl (aa (pv 0) (aa (pv 3) ae)))))))),?_⟩
 refine⟨by show 1<=Wp;decide,fun l0 H1 n1=>gn ?_⟩;dsimp only;have small:∀{n:Nat},n<=10000->n<Wp:=fun h=>Ub h ∅;refine fJ (t:=rO _ _) (fun σ H'=>∃(cs:List Str) (l:Gc) (t':Int) (x4 x5:Option V),σ=[some (.ref b),some (.int (many:Nat)),some (.int (most:Nat)),some (.ref l),x4,x5]/\cs.length=many/\Cs most cs/\H l=none/\H' l=some (.lst (cs.map V.str))/\Step b c H H' t t' 20) (fun Nx nx =>?_) ?_
 ·refine vN (fun m σ H'=>∃(cs:List Str) (l:Gc) (t':Int) (x4 x5:Option V),m=many-cs.length /\ σ=[some (.ref b),some (.int (many:Nat)),some (.int (most:Nat)),some (.ref l),x4,x5]/\cs.length<=many/\Cs most cs/\H l=none/\H' l=some (.lst (cs.map V.str))/\Step b c H H' t t' cs.length) ⟨_,[Qat],l0,t,_,_,rfl,rfl,by show 1<=many;lia,Cs.one,n1.nn,n1.at,(Step.same bx n1.same).more ∅⟩ ?_;rintro m σ H3 ⟨cs,l,t3,x4,x5,rfl,rfl,cm,C,hl,sG,eQ⟩;have YC:=eQ.ub;have YQ:=eQ.le;have vl:(cs.map V.str).length=cs.length:=Jc _;obtain⟨lb,lc⟩:=bx.bb hl;refine⟨_,rfl,_,_,rfl,.inl ⟨_,bA.of sG,rfl⟩,_,rfl,_,_,rfl,rfl,_,rfl,?_⟩;refine gj (fun c1 =>?_) (fun c1 =>?_)
  ·have c1:cs.length<many:=by have:=of_decide_eq_true c1;lia
   refine⟨fun σ' H'=>∃m',m'<many-cs.length/\_,fun _ _ h=>h,?_⟩;refine⟨_,rfl,l,rfl,⟨_,bA.of sG⟩,?_⟩;refine fc (N:=cs.length) (fun i ys H'=>H'=H3/\ys=((cs.take i).filter fun x=>decide (x.length<most)).map V.str) ⟨rfl,rfl⟩ ?_ ?_
   ·rintro i ys H' Ny hi ⟨rfl,rfl⟩ ny;have hx:(cs.map V.str)[i]? = some (.str cs[i]):=by rw[Jk,Jd hi];rfl
    have xl:=C.le cs[i] (Um hi);have fl:((cs.take i).filter fun x=>decide (x.length<most)).length<=20:=Jh (QfY _ _) (by rw[Uo];lia);refine⟨⟨_,_,bA.of sG,hx⟩,small (by rw[Jc];lia),?_⟩;rintro x' H4 ⟨rfl,hy⟩;have e:=hy _ (bA.of sG);rw[hx] at e;cases e;refine gn ?_;refine⟨_,rfl,_,_,rfl,⟨Yj (small ⋯),rfl⟩,_,rfl,_,_,rfl,rfl,_,rfl,?_⟩;have Xl:∀ys',ys'=((cs.take (i+1)).filter fun x=>decide (x.length<most)).map V.str->Ny ys' H4:=fun ys' e=>ny _ _ ⟨rfl,e⟩;rw[Yg hi,List.filter_append,J4] at Xl;refine gj (fun c2 =>?_) (fun c2 =>?_)
    ·have c2:cs[i].length<most:=by have:=of_decide_eq_true c2;lia
     refine⟨_,rfl,Xl _ ?_⟩;rw[List.filter_cons_of_pos (by exact decide_eq_true c2)]
     rfl
    ·have c2:¬cs[i].length<most:=fun z=>c2 (decide_eq_true ⋯);refine Xl _ ?_;rw[List.filter_cons_of_neg (by rw[decide_eq_false c2];decide)];exact(Uv _).symm
   rintro ys H4 ⟨rfl,rfl⟩;refine⟨⟨_,bA.of sG,by rw[vl];exact Je _⟩,?_⟩;rw[Ym];obtain⟨y0,hy0,ly0⟩:=C.short ⋯;have UB:∀y∈cs.filter fun x=>decide (x.length<most),y∈cs/\y.length<most:=fun y hy=>by
    obtain⟨z1,z2⟩:=List.mem_filter.mp hy;exact⟨z1,of_decide_eq_true z2⟩
   have pos:1<=(cs.filter fun x=>decide (x.length<most)).length:=QfE (List.mem_filter.mpr ⟨hy0,decide_eq_true ly0⟩);have fl:(cs.filter fun x=>decide (x.length<most)).length<=20:=Jh (QfY _ _) ⋯;generalize (cs.filter fun x=>decide (x.length<most))=sh at UB pos fl;have vs:(sh.map V.str).length=sh.length:=Jc _;refine fun ls hls=>gn ?_;have n4:hW H4 ls (.lst (sh.map V.str)) (upd H4 ls (.lst (sh.map V.str))):=⟨hls,rfl⟩
   generalize upd H4 ls (.lst (sh.map V.str))=H5 at n4;have FK:=n4.same _ _ sG;have dZ:=eQ.jk n4;obtain⟨sb,sc⟩:=eQ.bx.bb n4.nn;refine⟨_,rfl,_,rfl,_,rfl,_,_,rfl,.inl ⟨_,bA.of n4.at,rfl⟩,b,c,t3,_,rfl,dZ.bx,⋯,⋯,⋯,⋯,fun a H6 a0 a1 sL =>?_⟩;have hs6:=sL.old n4.at sb sc;have Qb:=sL.old FK lb lc;have sL:=dZ.trans sL;obtain⟨y,hy⟩:∃y,sh[a.toNat]? = some y:=⟨_,Jd ⋯⟩
   obtain⟨yc,yl⟩:=UB y (Jy hy);refine .inl ⟨ls,_,a,.str y,rfl,rfl,bA.of hs6,kZ a0 (by rw[Jk,hy];rfl),gn ?_⟩;refine⟨_,rfl,.inl ⟨rfl,_,bA.of Qb⟩,_,rfl,l,cs,y,rfl,rfl,Qb,yc,fun H7 c7 =>?_⟩;have nZ:=sL.HG c7 hl lb lc;have el:(cs.erase y).length=cs.length-1:=Qfs yc;have dj:1<=cs.length:=QfE yc;have k0:(Qaa "0").length=1:=rfl;have k1:(Qaa "1").length=1:=rfl;refine⟨_,rfl,_,rfl,.inr (.inl ⟨_,_,rfl,rfl,Yj (small (by rw[k0];lia)),_,rfl,.inr (.inl ⟨_,_,rfl,rfl,Yj (small (by rw[k1];lia)),by show 2<=Wp;decide,fun lp H8 n8 =>.inr (.inr ⟨l,lp,_,_,rfl,rfl,n8.same _ _ c7.at,n8.at,Yj (small (by simp only[Jc,Jr,Y6];lia)),fun l' H9 n9=>gn ?_⟩)⟩)⟩)⟩;have mv:=(nZ.jk n8).jk n9;have cl:(cs.erase y++[y++s0,y++s1]).length=cs.length+1:=by rw[Jw,el];show cs.length-1+2=_;lia
   refine⟨many-(cs.length+1),⋯,cs.erase y++[y++s0,y++s1],l',t3+1,_,_,by rw[cl],rfl,⋯,C.part yc yl,(nZ.jk n8).fresh bx n9.nn,by rw[n9.at,J4];rfl,mv.more ⋯⟩
  ·have c1:¬(cs.length<many):=fun z=>(Ye.mp (Ye.mpr c1)) (decide_eq_true ⋯);exact nx _ _ ⟨cs,l,t3,x4,x5,rfl,⋯,C,hl,sG,eQ.more ⋯⟩
 rintro σ H3 ⟨cs,l,t3,x4,x5,rfl,cm,C,hl,sG,eQ⟩;have YC:=eQ.ub;have YQ:=eQ.le;obtain⟨lb,lc⟩:=bx.bb hl;have vl:(cs.map V.str).length=cs.length:=Jc _;refine fJ (t:=Ll _ _ _) (fun σ H'=>∃(ds:List Str) (l:Gc) (t':Int) (x4 x5:Option V),σ=[some (.ref b),some (.int (many:Nat)),some (.int (most:Nat)),some (.ref l),x4,x5]/\ds.length=many/\fE ds/\(∀x∈ds,ux x/\x.length<=most+2)/\H l=none/\H' l=some (.lst (ds.map V.str))/\Step b c H H' t t' 50) (fun Nx nx =>?_) ?_
 ·refine⟨_,rfl,b,c,t3,2,rfl,eQ.bx,⋯,⋯,⋯,⋯,fun a H4 a0 a1 jq =>?_⟩;have Sm:=jq.old sG lb lc;have jq:=eQ.trans jq;refine .inl ⟨rfl,_,rfl,gj (fun _ =>?_) (fun _ =>?_)⟩
  ·refine⟨_,rfl,l,rfl,⟨_,bA.of Sm⟩,?_⟩;refine fc (N:=cs.length) (fun i ys H'=>∃(gs:List Str) (t':Int),ys=gs.map V.str/\gs.length=i/\(∀(j:Nat) y,gs[j]? = some y->∃x u,cs[j]? = some x/\y=x++u/\ux u/\u.length<=2)/\Step b c H H' t t' (21+i)/\H' l=some (.lst (cs.map V.str))) ⟨[],t3+1,rfl,rfl,(fun j y e=>nomatch e),jq.more ⋯,Sm⟩ ?_ ?_
   ·rintro i ys H5 Ny hi ⟨gs,t5,rfl,gl,gg,dZ,FK⟩ ny;have ub5:=dZ.ub;have lo5:=dZ.le;have hx:(cs.map V.str)[i]? = some (.str cs[i]):=by rw[Jk,Jd hi];rfl
    refine⟨⟨_,_,bA.of FK,hx⟩,small (by rw[Jc];lia),?_⟩;rintro x' H6 ⟨rfl,hy⟩;have e:=hy _ (bA.of FK);rw[hx] at e;cases e;have xl:=C.le cs[i] (Um hi);refine gn ?_;refine⟨_,rfl,by show 5<=Wp;decide,fun lp H7 n7=>⟨_,rfl,b,c,t5,5,rfl,dZ.bx.same n7.same,⋯,⋯,⋯,⋯,fun r H8 r0 r1 sF =>?_⟩⟩;obtain⟨pb,pc⟩:=dZ.bx.bb n7.nn;have VX:=sF.old n7.at pb pc;have hl8:=sF.old (n7.same _ _ FK) lb lc;have sF:=(dZ.jk n7).trans sF;obtain⟨u,hu,bu,lu⟩:∃u:Str,([V.str "",V.str "",V.str "0",V.str "1",V.str "01"]:List V)[r.toNat]? = some (.str u)/\ux u/\u.length<=2:=by
     have:r=0\/r=1\/r=2\/r=3\/r=4:=by lia
     rcases this with rfl|rfl|rfl|rfl|rfl
     ·exact⟨"",rfl,B9,∅⟩
     ·exact⟨"",rfl,B9,∅⟩
     ·exact⟨"0",rfl,(by unfold ux;decide +kernel),∅⟩
     ·exact⟨"1",rfl,(by unfold ux;decide +kernel),∅⟩
     ·exact⟨"01",rfl,(by unfold ux;decide +kernel),∅⟩
    refine .inl ⟨lp,_,r,.str u,rfl,rfl,bA.of VX,kZ r0 hu,.inr (.inl ⟨_,_,rfl,rfl,Yj (small ⋯),ny _ _ ⟨gs++[cs[i]++u],t5+1,by rw[J4];rfl,by rw[Jw,gl];rfl,fun j y hj =>?_,sF.more ⋯,hl8⟩⟩)⟩
    by_cases hji:j<gs.length
    ·rw[Uz hji] at hj;exact gg j y hj
    ·rw[Ux ⋯] at hj;have:j-gs.length=0:=by have:=(Jq.mp hj).1;simp at this;lia
     rw[this] at hj;cases hj;exact⟨cs[i],u,by rw[show j=i by lia];exact Jd hi,rfl,bu,lu⟩
   ·rintro ys H5 ⟨gs,t5,rfl,gl,gg,dZ,FK⟩;refine⟨⟨_,bA.of FK,by rw[vl];exact Je _⟩,fun p6 hp6=>gn ?_⟩;have n6:hW H5 p6 (.lst (gs.map V.str)) (upd H5 p6 (.lst (gs.map V.str))):=⟨hp6,rfl⟩
    generalize upd H5 p6 (.lst (gs.map V.str))=H6 at n6;refine nx _ _ ⟨gs,p6,t5,x4,x5,rfl,⋯,?_,fun x hx =>?_,dZ.fresh bx n6.nn,n6.at,(dZ.jk n6).more ⋯⟩
    ·exact C.free.longer ⋯ fun j y hj=>by
      obtain⟨x,u,h1,h2,_⟩:=gg j y hj;exact⟨x,u,h1,h2⟩
    ·obtain⟨j,hj,rfl⟩:=List.getElem_of_mem hx;obtain⟨x,u,h1,h2,h3,h4⟩:=gg j _ (Jd hj);have xm:=Jy h1;have xl:=C.le x xm;rw[h2];refine⟨fun ch hc =>?_,by rw[rq];lia⟩;rw[show(x++u).cps.toList=x.cps.toList++u.cps.toList from aN x u] at hc
     rcases Uq.mp hc with hc|hc
     ·exact C.bin x xm ch hc
     ·exact h3 ch hc
  ·exact nx _ _ ⟨cs,l,t3+1,x4,x5,rfl,cm,C.free,fun x hx=>⟨C.bin x hx,by have:=C.le x hx;lia⟩,hl,Sm,jq.more ⋯⟩
 rintro σ H4 ⟨ds,l,t4,x4,x5,rfl,dm,fr,ok,hl,Sm,jq⟩;have Xk:=jq.ub;have WA:=jq.le;obtain⟨lb,lc⟩:=bx.bb hl;have em:(ds.map fun x=>(Qcp x,V.str x)).map (·.2)=ds.map V.str:=by rw[Yn];rfl
 refine⟨_,rfl,_,rfl,b,c,l,t4,hM H4 b c,ds.map fun x=>(Qcp x,V.str x),rfl,jq.bx,⋯,⋯,av.refl _,.inl (bA.of (by rw[em];exact Sm)),⟨by rw[Jc];lia,fun z hz =>?_,fun z hz =>?_⟩,fun l5 zs H5 t5 pm hn h5 dZ =>?_⟩
 ·obtain⟨x,_,rfl⟩:=Uu.mp hz;show Den K _ (.str x) (.str x);unfold Den
  rfl
 ·obtain⟨x,hx,rfl⟩:=Uu.mp hz;exact Sh.str (eu fun ch hc=>by rcases(ok x hx).1 ch hc with rfl|rfl<;>decide)
 ·have ez:∃es:List Str,zs=es.map (fun x=>(Qcp x,V.str x))/\es.Perm ds:=by
   refine⟨zs.map fun z=>match z.1 with | .str x=>x|_=>Qat,?_,?_⟩
   ·rw[Yn];refine(QeE zs).symm.trans (Y9 fun z hz =>?_);obtain⟨x,_,rfl⟩:=Uu.mp (pm.mem_iff.mp hz)
    rfl
   ·have:=pm.map fun z:Qae×V=>match z.1 with | .str x=>x|_=>Qat
    rw[Yn] at this;refine this.trans ?_;rw[show(ds.map ((fun z:Qae×V=>match z.1 with | .str x=>x|_=>Qat)∘fun x=>(Qcp x,V.str x)))=ds from(Y9 fun x _=>rfl).trans (QeE ds)]
  obtain⟨es,rfl,pe⟩:=ez;refine q l5 es H5 t5 (by rw[pe.length_eq,dm]) (fr.perm pe.symm) (fun x hx=>ok x (pe.mem_iff.mp hx)) (jq.fresh bx hn) ?_ ((jq.trans dZ).more ⋯);rw[h5,Yn]
  rfl
end
abbrev fu (q:Str×Str):Qae := .tuple [.str q.1,.str q.2]
def nX:∀{ns cs:List Str} {k:Nat} {x c:Str},ns.Nodup->ns[k]? = some x->cs[k]? = some c->aU (ns.zip cs) x=c
 | [],_,_,_,_,_,h,_=>nomatch h
 | _::_,[],_,_,_,_,_,h=>nomatch h
 | n::ns,c0::cs,0,x,c,_,h1,h2=>by
  cases h1;cases h2;show(if n=n then c0 else _)=c0;exact if_pos rfl
 | n::ns,c0::cs,k+1,x,c,nd,h1,h2=>by
  obtain⟨n1,n2⟩:=U9.mp nd;have hx:x∈ns:=Jy (show ns[k]? = some x from h1);show(if n=x then c0 else aU (ns.zip cs) x)=c;rw[if_neg (fun z=>n1 (by rw[z];exact hx))];exact nX n2 h1 h2
def CU:∀{ns cs:List Str} {k:Nat} {x y:Str},ns.Nodup->ns.length=cs.length->ns[k]? = some x->(fg (ns.zip cs)).map (fun kv=>if kv.1=Qa8 x then (kv.1,V.str y) else kv)=fg (ns.zip (cs.set k y))
 | [],_,_,_,_,_,_,h=>nomatch h
 | _::_,[],_,_,_,_,h,_=>nomatch h
 | n::ns,c::cs,0,x,y,nd,hl,h=>by
  cases h;obtain⟨n1,n2⟩:=U9.mp nd;show(if (Qa8 n:Key)=Qa8 n then ((Qa8 n:Key),V.str y) else _)::(fg (ns.zip cs)).map _=(Qa8 n,V.str y)::fg (ns.zip cs);rw[if_pos rfl]
  congr 1
  conv=>rhs;rw[<-QeE (fg (ns.zip cs))]
  refine Y9 fun kv hkv=>if_neg fun z=>n1 ?_;obtain⟨q,hq,rfl⟩:=Uu.mp hkv;have z:q.1=n:=QcR z;rw[<-z];exact(Qb8 hq).1
 | n::ns,c::cs,k+1,x,y,nd,hl,h=>by
  obtain⟨n1,n2⟩:=U9.mp nd;have hx:x∈ns:=Jy (show ns[k]? = some x from h);show(if (Qa8 n:Key)=Qa8 x then _ else ((Qa8 n:Key),V.str c))::(fg (ns.zip cs)).map _=(Qa8 n,V.str c)::fg (ns.zip (cs.set k y));rw[if_neg (fun z=>n1 (by rw[QcR z];exact hx)),CU n2 (by simpa using hl) h]
def fX {ns cs:List Str}(hl:ns.length=cs.length):(ns.zip cs).map (·.1)=ns:=List.map_fst_zip ⋯
def Fe {ns cs:List Str}(hl:ns.length=cs.length):(ns.zip cs).map (·.2)=cs:=List.map_snd_zip ⋯
def KP {ns cs:List Str}{k:Nat}{x y:Str}(nd:ns.Nodup)(hl:ns.length=cs.length)(h:ns[k]? = some x):putK (fg (ns.zip cs)) (.inr x) (.str y)=fg (ns.zip (cs.set k y)):=by
 unfold putK;rw[ik,gh (by rw[fX hl];exact Jy h),if_pos (Qga)];exact CU nd hl h
def swap_perm {cs:List Str}{i j:Nat}{a b:Str}(hi:cs[i]? = some a)(hj:cs[j]? = some b):((cs.set i b).set j a).Perm cs:=by
 obtain⟨h1,rfl⟩:=Jq.mp hi;obtain⟨h2,rfl⟩:=Jq.mp hj;exact List.set_set_perm h1 h2
def jN (bk:List (Str×Str)):cU (aO bk)=bk:=by
 show(bk.map fu).map _=bk;rw[Yn];exact(Y9 fun q _=>rfl).trans (QeE bk)
def LD {y:Str}(hb:ux y)(hl:1<=y.length):cz (.str y)=true:=by
 show(!decide (V.str y=V.str (Qaa ""))&&gV y iQ)=true;rw[B4,decide_eq_false ⋯,rn,Bool.not_false,Yc,Wc];intro c hc
 rcases hb c hc with rfl|rfl<;>decide +kernel
def GG {ns:List Str}{bk:List (Str×Str)}(N:QM ns)(pm:(bk.map (·.1)).Perm ns)(hc:∀q∈bk,cz (.str q.2)=true)(fr:fE (bk.map (·.2))):dz ns (aO bk)=true:=by
 have e:=Og (ns:=ns) (d:=aO bk) (ds:=bk.map fu) rfl (fun x hx=>by
  obtain⟨q,hq,rfl⟩:=Uu.mp hx;exact hc q hq) N.nn N.nd N.ok
 rw[e,show cU (.list (bk.map fu))=bk from jN bk,decide_eq_true pm,Yc];exact @decide_eq_true _ (Qbx _) fr
def Cr {w:Nat}:∀{bk:List (Str×Str)},(∀q∈bk,kz q.1=true/\kz q.2=true/\q.1.length+q.2.length+3<=w)->Gs (w*bk.length) 1 (bk.map fu)
 | [],_=>Gs.nil.mono (Uw _) (Uw _)
 | q::bk,h=>by
  have ih:=Cr (w:=w) (bk:=bk) fun x hx=>h x (Jl _ hx);obtain⟨h1,h2,h3⟩:=h q Jo;have g:Gd (q.1.length+1+(q.2.length+1)) 1 (fu q):=(Gs.cons (Gd.str (dp:=0) h1 (Je _)) (Gs.one (Gd.str h2 (Je _)))).tuple;refine(Gs.cons g ih).mono ?_ (Je _);rw[Jr,Nat.mul_succ];lia
def JH {d:Qae}{ds:List Qae}(h:gN d = .list ds):OH d=ds.length:=by
 cases d<;>first|(cases h;rfl)|(exact nomatch h)
def MJ.of {d:Qae}{w dp:Nat}(g:Gd w dp d)(hw:w<=150000)(hd:dp<=64)(hl:OH d<=60):MJ d:=by
 refine⟨g.pz,Jh g.wt ⋯,g.shaped hd,fun ds e=>by rw[<-JH e];exact hl,fun q hq =>?_⟩;have wt:(gN d).weight<=150000:=by rw[AJ];exact Jh g.wt hw
 cases e:gN d with
 | list ds=>
  rw[e] at hq wt;obtain⟨x,hx,rfl⟩:=Uu.mp (show q∈ds.map _ from hq);have hx:=ie (n:=150000) (by simpa only [QaD] using wt) hx
  split
  ·simp only[QaD,Qay] at hx;have:∀y:Str,y.cps.size=y.length:=fun _=>rfl;simp only[this] at hx;dsimp only;lia
  ·exact Uw _
 | _=>rw[e] at hq;exact nomatch hq
def HU {bk:List (Str×Str)}{zs Dv:List (Qae×V)}(e:zs.map (·.1)=bk.map fu)(p:Dv.Perm zs):∃zR:List (Str×Str),zR.Perm bk/\Dv.map (·.1)=zR.map fu:=by
 have pm:(Dv.map (·.1)).Perm (bk.map fu):=by rw[<-e];exact p.map _
 refine⟨cU (.list (Dv.map (·.1))),?_,?_⟩
 ·have:=jN bk
  conv=>rhs;rw[<-this]
  exact pm.map _
 ·have all:∀d∈Dv.map (·.1),∃q,d=fu q:=fun d hd=>by
   obtain⟨q,_,rfl⟩:=Uu.mp (pm.mem_iff.mp hd);exact⟨q,rfl⟩
  generalize Dv.map (·.1)=ds at all;clear pm p e
  induction ds with
  | nil=>rfl
  | cons d ds ih=>
   obtain⟨q,rfl⟩:=all d Jo;have:=ih fun d hd=>all d (Jl _ hd);show fu q::ds=fu q::(cU (.list ds)).map fu;rw[<-this]
def IB {cs:List Str}(h:fE cs)(hl:2<=cs.length):∀x∈cs,1<=x.length:=fun x hx=>by
 apply Qez;intro n;have x0:sg x=[]:=Uy (by have:x.length=(sg x).length:=str_len x;lia);obtain⟨i,hi,rfl⟩:=Yu.mp hx;have pw:=U0.mp h
 by_cases i0:i=0
 ·subst i0;have:=(pw 0 1 ⋯ ⋯ ∅).1;rw[x0] at this;exact this List.nil_prefix
 ·have:=(pw 0 i ⋯ hi ⋯).2;rw[x0] at this;exact this List.nil_prefix
def KU {x:Str}(h:ux x):kz x=true:=ME.mpr fun c hc=>by rcases h c hc with rfl|rfl<;>decide
def Ib {K:Ja}{G:Hp}{bk:List (Str×Str)}{as:List Gc}(hl:as.length=bk.length)(ze:bk.length<=64)(az:∀q∈bk,kz q.1=true/\kz q.2=true)(h:∀(j:Nat) a q,as[j]? = some a->bk[j]? = some q->G a=some (.tup [.str q.1,.str q.2])):
  ∃zs:List (Qae×V),zs.map (·.1)=bk.map fu/\zs.map (·.2)=as.map V.ref/\Mx K G zs:=by
 have l1:(bk.map fu).length=(as.map V.ref).length:=by rw[Jc,Jc,hl]
 refine⟨(bk.map fu).zip (as.map V.ref),List.map_fst_zip ⋯,List.map_snd_zip ⋯,?_,?_,?_⟩
 ·rw[Yr,Jc];lia
 ·intro z hz;obtain⟨j,hj⟩:=Uk.mp hz;have z1:=Yz.mp hj;rw[Jk,Jk] at z1;obtain⟨e1,e2⟩:=z1;cases h1:bk[j]? with
  | none=>rw[h1] at e1;cases e1
  | some q=>
   cases h2:as[j]? with
   | none=>rw[h2] at e2;cases e2
   | some a=>
    rw[h1] at e1;rw[h2] at e2;rw[<-Qap e1,<-Qap e2];exact Cu (h j a q h2 h1) (bQ wm (bQ wm oK))
 ·intro z hz;have z1:=(Qb8 (a:=z.1) (b:=z.2) hz).1;obtain⟨q,hq,e⟩:=Uu.mp z1;rw[<-e];have h1:=az q hq;refine(fun h=>⟨h.1,Jh h.2 ∅⟩:Sh 1 (fu q)->Sh 2 (fu q)) (Sh.tuple (n:=0) (ds:=[.str q.1,.str q.2]) fun d hd =>?_)
  ·simp only[Jx,Yl,or_false] at hd
   rcases hd with rfl|rfl
   ·exact Sh.str (eu fun ch hc=>by have:=Bd h1.1 ch hc;lia)
   ·exact Sh.str (eu fun ch hc=>by have:=Bd h1.2 ch hc;lia)
def zK {K:Ja}{G G':Hp}{bk:List (Str×Str)}{zs Dv:List (Qae×V)}{l:Gc}(e:zs.map (·.1)=bk.map fu)(M:Mx K G zs)(p:Dv.Perm zs)(s:av G G')(hl:G' l=some (.lst (Dv.map (·.2)))):
  ∃zR:List (Str×Str),zR.Perm bk/\Den K G' (aO zR) (.ref l):=by
 obtain⟨zR,h1,h2⟩:=HU e p;refine⟨zR,h1,Den.list (bA.of hl) ?_⟩;show aV K G' (zR.map fu) _;rw[<-h2];refine aV.of_get (by rw[Jc,Jc]) fun j d v hd hv =>?_;rw[Jk] at hd hv;cases ez:Dv[j]? with
 | none=>rw[ez] at hd;cases hd
 | some z=>
  rw[ez] at hd hv;cases hd;cases hv;exact(M.d z (p.mem_iff.mp (Jy ez))).same s
structure Good3 (qB uW wD:List (Str×Str))(near eP:Int):Prop where
 why:mL (aO qB) (aO uW) (aO wD) (.int near) (.int eP)=none
 n1:(qB.map (·.1)).Perm aI
 l1:qB.length=11
 l2:uW.length=4
 l3:wD.length=9
 sz:∀q,q∈qB\/q∈uW\/q∈wD->kz q.1=true/\kz q.2=true/\q.1.length<=8/\q.2.length<=11
 fr:near.natAbs<10/\eP.natAbs<20
def HX (K:Ja):Sp:=fun vs H Q _=>qM fun(b c:Gc) (t:Int)=>vs=[.ref b]/\Bx H b c t/\0<=t/\t<30000000 /\
 ∀(l:Gc) (r1 r2 r3:V) (qB uW wD:List (Str×Str)) (near eP:Int) (H':Hp) (t':Int),Good3 qB uW wD near eP->H l=none->H' l=some (.lst [r1,r2,r3,.int near,.int eP])->aV K (hM H' b c) [aO qB,aO uW,aO wD] [r1,r2,r3]->Step b c H H' t t' 1500->Q (.ref l) H'
def wF {ns cs:List Str}{most:Nat}(hn:∀x∈ns,kz x=true/\x.length<=8)(hm:most<=11)(hc:∀x∈cs,ux x/\x.length<=most):∀q∈ns.zip cs,kz q.1=true/\kz q.2=true/\q.1.length<=8/\q.2.length<=11:=fun q hq=>by
 obtain⟨h1,h2⟩:=Qb8 (a:=q.1) (b:=q.2) hq;exact⟨(hn _ h1).1,KU (hc _ h2).1,(hn _ h1).2,Jh (hc _ h2).2 hm⟩
def m6:(∀x∈aI,kz x=true/\x.length<=8)/\(∀x∈bS,kz x=true/\x.length<=8)/\∀x∈bB,kz x=true/\x.length<=8:=∅
def vY {ns cs:List Str}{bk:List (Str×Str)}(N:QM ns)(hl:ns.length=cs.length)(h2:2<=cs.length)(hb:∀x∈cs,ux x)(fr:fE cs)(p:bk.Perm (ns.zip cs)):dz ns (aO bk)=true:=by
 have p1:=p.map (·.1);have p2:=p.map (·.2);rw[fX hl] at p1;rw[Fe hl] at p2;refine GG N p1 (fun q hq =>?_) (fr.perm p2.symm);have Hi:q.2∈cs:=p2.mem_iff.mp (Y8 hq);exact LD (hb _ Hi) (IB fr h2 _ Hi)
def L0 {bk zR:List (Str×Str)}{x:Str}(p:zR.Perm bk)(nd:(bk.map (·.1)).Nodup)(hx:x∈bk.map (·.1)):aU zR x=aU bk x:=by
 have Rk:=(p.map (·.1)).nodup_iff.mpr nd;have of:∀{bs:List (Str×Str)},(bs.map (·.1)).Nodup->∀y,(x,y)∈bs->aU bs x=y:=fun{bs}=>by
  induction bs with
  | nil=>intro _ y h;exact nomatch h
  | cons q r ih=>
   intro nd y h;rw[J3] at nd;obtain⟨n1,n2⟩:=U9.mp nd;unfold aU
   rcases Jx.mp h with e|h
   ·rw[<-e];exact if_pos rfl
   ·rw[if_neg (fun z=>n1 (by rw[z];exact Y8 (f:=(·.1)) h))];exact ih n2 y h
 obtain⟨q,hq,rfl⟩:=Uu.mp hx;rw[of nd q.2 hq,of Rk q.2 (p.mem_iff.mpr hq)]
def HI {bk zR:List (Str×Str)}{n f:Int}(p:zR.Perm bk)(hn:bk.map (·.1)=aI):lP zR n f=lP bk n f:=by
 have e:∀x∈aI,aU zR x=aU bk x:=fun x hx=>L0 p (by rw[hn];exact cM) (by rw[hn];exact hx);unfold lP;simp only[Wa,List.any_nil,Qd9];rw[e _ ∅,e _ ∅,e _ ∅,e _ ∅]
def Hc {qB uW wD:List (Str×Str)}{n f:Int}(h1:dz aI (aO qB)=true)(h2:dz bS (aO uW)=true)(h3:dz bB (aO wD)=true)(n2:2<=n)(n8:n<=8)(nf:n<f)(ON:f<=16)(hf:lP qB n f=false):mL (aO qB) (aO uW) (aO wD) (.int n) (.int f)=none:=by
 unfold mL HQ;rw[h1,h2,h3,if_neg ∅,if_neg ∅,if_neg ∅];rw[show yG (.int n)=true from by show(decide (2<=n)&&decide (n<=8))=true;rw[decide_eq_true n2,decide_eq_true n8];rfl,if_neg ∅];have:Fj (aO qB) (.int n) (.int f)=true:=by
  show(decide (n<f)&&(decide (f<=16) && !lP (cU (aO qB)) n f))=true;rw[jN,hf,decide_eq_true nf,decide_eq_true ON];rfl
 rw[this,if_neg ∅]
def yK {H:Hp}{dd:Gc}{ns cs:List Str}{k:Nat}{x y:Str}(h:H dd=some (.dK (fg (ns.zip cs))))(nd:ns.Nodup)(hl:ns.length=cs.length)(hx:ns[k]? = some x)(sm:ns.length<1000):
  ∃H',JA H dd (.dK (fg (ns.zip (cs.set k y)))) H'/\tm H dd (.str x) (.str y) H':=by
 refine⟨_,⟨rfl⟩,?_⟩;rw[<-KP nd hl hx];exact tm.k (k := .inr x) h (Ub (show(fg (ns.zip cs)).length<=1000 by unfold fg;rw[Jc,Yr];lia) ∅)
def HF {H:Hp}{dd:Gc}{ns cs:List Str}{k:Nat}{x c:Str}(h:H dd=some (.dK (fg (ns.zip cs))))(nd:ns.Nodup)(hl:ns.length=cs.length)(hx:ns[k]? = some x)(hc:cs[k]? = some c):dJ H dd (.str x) (some (.str c)):=by
 have e:dI (fg (ns.zip cs)) (.inr x)=some (.str c):=by rw[gh (by rw[fX hl];exact Jy hx),nX nd hx hc]
 rw[<-e];exact dJ.k (k := .inr x) h
def DK {ns:List Str}{cs:List Str}(nd:ns.Nodup)(hl:ns.length=cs.length):cT [] ((ns.map (Qa8:Str->Key)).zip (cs.map V.str))=fg (ns.zip cs):=by
 have e:(ns.map (Qa8:Str->Key)).zip (cs.map V.str)=fg (ns.zip cs):=by
  unfold fg;rw[List.zip_map]
  rfl
 rw[e,fq (by rw[fX hl];exact nd)]
def Mv:∀(j:Nat) (c:Nat),(Qaa "abcd").cps[j]? = some c->bS[j]? = some ⟨#[c]⟩:=by
 intro j c h;have hj:j<4:=(U4.mp h).1
 match j,hj with
 | 0,_=>cases h;rfl
 | 1,_=>cases h;rfl
 | 2,_=>cases h;rfl
 | 3,_=>cases h;rfl
structure yH (K:Ja)(b c:Gc)(H:Hp)(p:Gc)(bk:List (Str×Str))(as:List Gc):Prop where
 at':H p=some (.lst (as.map V.ref))
 pb:p≠b
 pc:p≠c
 len:as.length=bk.length
 prs:∀(j:Nat) a q,as[j]? = some a->bk[j]? = some q->hM H b c a=some (.tup [.str q.1,.str q.2])
def yH.step {K:Ja}{b c p:Gc}{H H':Hp}{t t' N:Int}{bk:List (Str×Str)}{as:List Gc}(h:yH K b c H p bk as)(s:Step b c H H' t t' N):yH K b c H' p bk as:=
 ⟨s.old h.at' h.pb h.pc,h.pb,h.pc,h.len,fun j a q e1 e2=>s.sm _ _ (h.prs j a q e1 e2)⟩
section
variable {P:Qaf}{w:Qah}{K:Ja}{mg:Str->Option Fk}{base:Heap}{f:Gc}{fd:Qad}
def bL:aA ["_law_state", "_law_kinds_here", "_law_near", "_law_far", "_law_one", "_law_other", "_law_kept", "_law_spots", "_law_sizes_here"] ["_law_state"] (ak (top jz)):=⟨rfl,rfl,rfl,∅,rfl,∅,∅⟩
def Io (F:bM K "_law_parts" "_law_parts" (top jz) f fd)(T:Nm mg)(cR:mg "dict" = none)(yT:Fn P w K mg base 1 "_law_kinds" [] (pR aI))(jP:Fn P w K mg base 1 "_law_sizes" [] (pR bB))(bE:Fn P w K mg base 1 "_law_take" ["_law_state", "_law_many"] Bo)(fC:Fn P w K mg base 2 "_law_mixed" ["_law_state", "_law_some"] (C0 K))(j6:Fn P w K mg base 3 "_law_codes" ["_law_state", "_law_many", "_law_most"] G2):aW P w K mg base d7 4 f fd ["_law_state"] (HX K):=by
 refine F.ok bL (fun vs H Q E h =>?_) (fun cQ A outer s H vs Q E hr h =>?_)
 ·obtain⟨b,c,t,rfl,_⟩:=h
  rfl
 obtain⟨b,c,t,rfl,bx,t0,t1,q⟩:=h;have d6:=hr.units;have hu:=mn hr;have small:∀{n:Nat},n<=10000->n<Wp:=fun h=>Ub h ∅;refine⟨_,(af (aE (i:=1) bL.nd rfl (Qag rfl) (AY rfl rfl cR rfl T.n_zip (aa (AG (yT.mono (by first|decide|exact Je _|lia)) hr rfl) (aa (aH (j6.mono ∅) hr rfl (aa (pv 0) (aa ai (aa (bJ (kq K) (il (aa ai (aa ai (aa ai (aa ai ae))))) (aH (bE.mono ∅) hr rfl (aa (pv 0) (aa ai ae))) (fun _ _=>rfl)) ae)))) ae))))
  (af (aE (i:=2) bL.nd rfl (Qag rfl) (aB cu ai (aH (bE.mono ∅) hr rfl (aa (pv 0) (aa ai ae)))))
  (af (aE (i:=3) bL.nd rfl (Qag rfl) (aB cu (aB cu (pv 2) ai) (aH (bE.mono ∅) hr rfl (aa (pv 0) (aa (aB cn ai (pv 2)) ae)))))
  (af (eJ Qaz rfl (gO K (eN (aa (eN (aa ax (aa ax ae))) (aa (eN (aa ax (aa ax ae))) ae)))) (tupK K 2 rfl (aM (aD (i:=4) bL.nd rfl (Qag rfl)) (aM (aD (i:=5) bL.nd rfl (Qag rfl)) bU))) (ag (aY (aG kB (aB cu (aq (hX K) rfl T.n_len (by rfl) (aa (bO hu (pv 1) (pv 5) (fun _ _=>rfl)) ae)) (pv 3)) (aB cu (aq (hX K) rfl T.n_len (by rfl) (aa (bO hu (pv 1) (pv 4) (fun _ _=>rfl)) ae)) (pv 2)) (aK _)) (af (aE (i:=6) bL.nd rfl (Qag rfl) (bO hu (pv 1) (pv 4) (fun _ _=>rfl)))
  (af (pH hu (pv 1) (pv 4) (bO hu (pv 1) (pv 5) (fun _ _=>rfl)) rfl)
  (ag (pH hu (pv 1) (pv 5) (pv 6) rfl)))) aF)))
  (af (aE (i:=7) bL.nd rfl (Qag rfl) (yY rfl rfl T.n_list rfl T.n_zip (aa ax (aa (aH (j6.mono ∅) hr rfl (aa (pv 0) (aa ai (aa ai ae)))) ae))))
  (af (aE (i:=8) bL.nd rfl (Qag rfl) (Bh rfl rfl T.n_list rfl T.n_zip (aa (AG (jP.mono (by first|decide|exact Je _|lia)) hr rfl) (aa (aH (j6.mono ∅) hr rfl (aa (pv 0) (aa ai (aa (bJ (kq K) (il (aa ai (aa ai (aa ai ae)))) (aH (bE.mono ∅) hr rfl (aa (pv 0) (aa ai ae))) (fun _ _=>rfl)) ae)))) ae))))
  (ag (ar (il (aa (aH (fC.mono ∅) hr rfl (aa (pv 0) (aa (Dq rfl rfl T.n_list (pv 1)) ae))) (aa (aH (fC.mono ∅) hr rfl (aa (pv 0) (aa (pv 7) ae))) (aa (aH (fC.mono ∅) hr rfl (aa (pv 0) (aa (pv 8) ae))) (aa (pv 2) (aa (pv 3) ae)))))))))))))),?_⟩
 dsimp only;refine nz (te:=Z2 _ _) (fun v H'=>∃(dd:Gc) (cs:List Str) (t':Int),v = .ref dd/\cs.length=11/\fE cs/\(∀x∈cs,ux x/\x.length<=11)/\H dd=none/\H' dd=some (.dK (fg (aI.zip cs)))/\Step b c H H' t t' 300) (fun Qn qn =>?_) ?_
 ·refine⟨rfl,fun pk H1 n1=>⟨_,rfl,by show 4<=Wp;decide,fun lp H2 n2=>⟨_,rfl,b,c,t,4,rfl,(bx.same n1.same).same n2.same,t0,⋯,∅,∅,fun r H3 r0 r1 eQ =>?_⟩⟩⟩;obtain⟨pb,pc⟩:=bx.bb n1.nn;obtain⟨lb,lc⟩:=(bx.same n1.same).bb n2.nn;have hk3:=eQ.old (n2.same _ _ n1.at) pb pc;have Kw:=eQ.old n2.at lb lc;have eQ:=(Step.same bx (n1.same.trans n2.same)).trans eQ;obtain⟨m,hm,m4,m9⟩:∃m:Nat,([V.int 4,V.int 4,V.int 5,V.int 9]:List V)[r.toNat]? = some (.int (m:Nat))/\4<=m/\m<=9:=by
   have:r=0\/r=1\/r=2\/r=3:=by lia
   rcases this with rfl|rfl|rfl|rfl
   ·exact⟨4,rfl,∅,∅⟩
   ·exact⟨4,rfl,∅,∅⟩
   ·exact⟨5,rfl,∅,∅⟩
   ·exact⟨9,rfl,∅,∅⟩
  have mm:11<=2^m:=Jh (show 11<=2^4 by decide) (QcD ∅ m4);refine .inl ⟨lp,_,r,.int (m:Nat),rfl,rfl,bA.of Kw,kZ r0 hm,b,c,t+1,11,m,rfl,eQ.bx,⋯,⋯,∅,∅,mm,⋯,fun l cs H4 t4 cl fr cb hl0 tf jq =>?_⟩;have hk4:=jq.old hk3 pb pc;have jq:=eQ.trans jq;refine⟨pk,l,aI.map Qa8,cs.map V.str,rfl,bA.of hk4,bA.of tf,by rw[Jc,Jc,cl];rfl,∅,fun d H5 n5 =>?_⟩;rw[DK cM (by rw[cl];rfl)] at n5;exact qn _ _ ⟨d,cs,t4,rfl,cl,fr,fun x hx=>⟨(cb x hx).1,by have:=(cb x hx).2;lia⟩,jq.fresh bx n5.nn,n5.at,(jq.jk n5).more ⋯⟩
 rintro v H1 ⟨dd,cs,t2,rfl,cl,fr,cb,hd0,Le,xf⟩;obtain⟨db,dc⟩:=bx.bb hd0;have ub1:=xf.ub;have lo1:=xf.le;refine gn ?_;refine⟨_,rfl,b,c,t2,7,rfl,xf.bx,⋯,⋯,∅,∅,fun r2 H2 r20 r21 kr =>.inl ⟨_,_,rfl,rfl,gn ?_⟩⟩;have Ps:=kr.old Le db dc;have kr:=xf.trans kr;refine⟨_,rfl,.inl ⟨_,_,rfl,rfl,_,rfl,_,rfl,_,_,rfl,rfl,b,c,_,_,rfl,kr.bx,⋯,⋯,⋯,⋯,fun r3 H3 r30 r31 eQ =>.inl ⟨_,_,rfl,rfl,gn ?_⟩⟩⟩;have hd3:=eQ.old Ps db dc;have eQ:=kr.trans eQ;obtain⟨near,en⟩:∃near:Int,near=2+r2:=⟨_,rfl⟩
 obtain⟨eP,ef⟩:∃eP:Int,eP=2+r2+1+r3:=⟨_,rfl⟩
 rw[<-ef,<-en];have n2:2<=near:=by lia
 have n8:near<=8:=by lia
 have nf:near<eP:=by lia
 have ON:eP<=16:=by lia
 have kl:aI.length=cs.length:=by rw[cl];rfl
 have sz:∀{x:Str},x.length<=11->x.length<=Wp:=fun h=>Jh h ∅;dsimp only;refine fJ (t:=DU _ _ _) (fun σ H'=>∃(ju:List Str) (x4 x5 x6:Option V) (t':Int),σ=[some (.ref b),some (.ref dd),some (.int near),some (.int eP),x4,x5,x6,none,none]/\ju.Perm cs/\H' dd=some (.dK (fg (aI.zip ju)))/\lP (aI.zip ju) near eP=false/\Step b c H H' t t' 310) (fun Nx nx =>?_) ?_
 ·refine⟨by show 2<=Wp;decide,fun p1 H4 n4=>⟨by show 2<=Wp;decide,fun p2 H5 n5=>⟨by show 2<=Wp;decide,fun p3 H6 n6=>⟨p3,rfl,⟨_,bG.of n6.at⟩,?_⟩⟩⟩⟩;have sL:=((eQ.jk n4).jk n5).jk n6;have Qc:=n6.same _ _ (n5.same _ _ (n4.same _ _ hd3));have h1:=n6.same _ _ (n5.same _ _ n4.at);have h2:=n6.same _ _ n5.at;have h3:=n6.at;have Xf:∀{p:Gc} {o:List V},H6 p=some (.tup o)->p≠dd:=fun h z=>by rw[z,Qc] at h;cases h
  have e1:=Xf h1;have e2:=Xf h2;have e3:=Xf h3;refine j4 (N:=2) (fun k σ H'=>∃(ju:List Str) (x4 x5 x6:Option V),σ=[some (.ref b),some (.ref dd),some (.int near),some (.int eP),x4,x5,x6,none,none]/\ju.Perm cs/\H' dd=some (.dK (fg (aI.zip ju)))/\(∀p,p≠dd->H' p=H6 p)/\(0<k->∀x y,ju[5]? = some x->ju[8]? = some y->¬((y.length:Int)+eP<x.length+near))/\(1<k->∀x y,ju[6]? = some x->ju[9]? = some y->¬((y.length:Int)+eP<x.length+near))/\∃t',Step b c H H' t t' 310) ⟨cs,_,_,_,rfl,Yb.refl _,Qc,fun _ _=>rfl,(fun h=>absurd h ∅),(fun h=>absurd h ∅),_,sL.more ⋯⟩ ?_ ?_
  ·rintro k σ H7 hk ⟨ju,x4,x5,x6,rfl,pm,hd7,k7,o1,o2,t7,nZ⟩;have T4:=(k7 _ e1).trans h1;have h27:=(k7 _ e2).trans h2;have Vg:=(k7 _ e3).trans h3;have cl':ju.length=11:=by rw[pm.length_eq,cl]
   have XQ:aI.length=ju.length:=by rw[cl'];rfl
   have TX:∀{i:Nat} {x:Str},ju[i]? = some x->x.length<=11:=fun h=>(cb _ (pm.mem_iff.mp (Jy h))).2;obtain⟨c5,h5⟩:∃x,ju[5]? = some x:=⟨_,Jd ⋯⟩
   obtain⟨c6,h6⟩:∃x,ju[6]? = some x:=⟨_,Jd ⋯⟩
   obtain⟨c8,h8⟩:∃x,ju[8]? = some x:=⟨_,Jd ⋯⟩
   obtain⟨c9,h9⟩:∃x,ju[9]? = some x:=⟨_,Jd ⋯⟩
   have gd:∀{i:Nat} {x y:Str},aI[i]? = some x->ju[i]? = some y->dJ H7 dd (.str x) (some (.str y)):=fun hx hy=>HF hd7 cM XQ hx hy;have swap:∀{i j:Nat} {x y a d:Str},aI[i]? = some x->aI[j]? = some y->ju[i]? = some a->ju[j]? = some d->∃H8 H9,tm H7 dd (.str x) (.str d) H8/\tm H8 dd (.str y) (.str a) H9/\H9 dd=some (.dK (fg (aI.zip ((ju.set i d).set j a))))/\(∀p,p≠dd->H9 p=H6 p)/\((ju.set i d).set j a).Perm cs/\Step b c H H9 t t7 310:=fun{i j x y a d} hx hy ha hd=>by
    obtain⟨H8,c8,d8⟩:=yK (y:=d) hd7 cM XQ hx ∅;obtain⟨H9,c9,d9⟩:=yK (y:=a) c8.at cM (by rw[We];exact XQ) hy ∅;exact⟨H8,H9,d8,d9,c9.at,fun p hp=>by rw[c9.ne hp,c8.ne hp];exact k7 p hp,(swap_perm ha hd).trans pm,(nZ.HG c8 hd0 db dc).HG c9 hd0 db dc⟩
   obtain rfl|rfl:k=0\/k=1:=by lia
   ·refine⟨⟨_,_,bG.of Vg,rfl⟩,?_⟩;rintro w' H8 ⟨rfl,hy⟩;have e:=hy _ (bG.of Vg);obtain rfl:V.ref p1=w':=Qap e;refine⟨p1,_,rfl,bG.of T4,rfl,_,_,rfl,_,_,rfl,rfl,?_⟩;refine⟨_,rfl,_,rfl,dd,_,rfl,gd (i:=8) rfl h8,_,_,rfl,⟨sz (TX h8),rfl⟩,_,rfl,.inl ⟨_,_,rfl,rfl,_,rfl,_,rfl,dd,_,rfl,gd (i:=5) rfl h5,_,_,rfl,⟨sz (TX h5),rfl⟩,_,rfl,.inl ⟨_,_,rfl,rfl,_,_,rfl,rfl,_,rfl,gj (fun c =>?_) (fun c =>?_)⟩⟩⟩
    ·have c:=of_decide_eq_true c;obtain⟨H9,H10,d9,d10,hd10,Q9,pm10,mU⟩:=swap (i:=5) (j:=8) (x := "jump") (y := "farjump") rfl rfl h5 h8;refine⟨_,rfl,_,rfl,dd,_,rfl,gd (i:=5) rfl h5,gn ⟨_,rfl,_,rfl,dd,_,rfl,gd (i:=8) rfl h8,_,rfl,_,rfl,dd,_,rfl,d9,_,rfl,_,rfl,_,rfl,dd,_,rfl,d10,?_⟩⟩;refine⟨_,_,_,_,rfl,pm10,hd10,Q9,fun _ x y hx hy =>?_,(fun h=>absurd h ∅),t7,mU⟩;rw[Yi ∅,Yk ⋯] at hx;rw[Yk (by rw[We];lia)] at hy;cases hx;cases hy;lia
    ·have c:¬_:=fun z=>c (decide_eq_true z);refine⟨ju,_,_,_,rfl,pm,hd7,k7,fun _ x y hx hy =>?_,(fun h=>absurd h ∅),t7,nZ⟩;rw[h5] at hx;rw[h8] at hy;cases hx;cases hy;exact c
   ·refine⟨⟨_,_,bG.of Vg,rfl⟩,?_⟩;rintro w' H8 ⟨rfl,hy⟩;have e:=hy _ (bG.of Vg);obtain rfl:V.ref p2=w':=Qap e;refine⟨p2,_,rfl,bG.of h27,rfl,_,_,rfl,_,_,rfl,rfl,?_⟩;have o1:=o1 ∅;refine⟨_,rfl,_,rfl,dd,_,rfl,gd (i:=9) rfl h9,_,_,rfl,⟨sz (TX h9),rfl⟩,_,rfl,.inl ⟨_,_,rfl,rfl,_,rfl,_,rfl,dd,_,rfl,gd (i:=6) rfl h6,_,_,rfl,⟨sz (TX h6),rfl⟩,_,rfl,.inl ⟨_,_,rfl,rfl,_,_,rfl,rfl,_,rfl,gj (fun c =>?_) (fun c =>?_)⟩⟩⟩
    ·have c:=of_decide_eq_true c;obtain⟨H9,H10,d9,d10,hd10,Q9,pm10,mU⟩:=swap (i:=6) (j:=9) (x := "zero") (y := "farzero") rfl rfl h6 h9;refine⟨_,rfl,_,rfl,dd,_,rfl,gd (i:=6) rfl h6,gn ⟨_,rfl,_,rfl,dd,_,rfl,gd (i:=9) rfl h9,_,rfl,_,rfl,dd,_,rfl,d9,_,rfl,_,rfl,_,rfl,dd,_,rfl,d10,?_⟩⟩;refine⟨_,_,_,_,rfl,pm10,hd10,Q9,fun _ x y hx hy =>?_,fun _ x y hx hy =>?_,t7,mU⟩
     ·rw[Yi ∅,Yi ∅] at hx hy;exact o1 x y hx hy
     ·rw[Yi ∅,Yk ⋯] at hx;rw[Yk (by rw[We];lia)] at hy;cases hx;cases hy;lia
    ·have c:¬_:=fun z=>c (decide_eq_true z);refine⟨ju,_,_,_,rfl,pm,hd7,k7,fun _=>o1,fun _ x y hx hy =>?_,t7,nZ⟩;rw[h6] at hx;rw[h9] at hy;cases hx;cases hy;exact c
  ·rintro σ H7 ⟨ju,x4,x5,x6,rfl,pm,hd7,k7,o1,o2,t7,nZ⟩;have cl':ju.length=11:=by rw[pm.length_eq,cl]
   refine⟨⟨_,bG.of ((k7 _ e3).trans h3),Je _⟩,nx _ _ ⟨ju,_,_,_,t7,rfl,pm,hd7,?_,nZ⟩⟩;obtain⟨c5,h5⟩:∃x,ju[5]? = some x:=⟨_,Jd ⋯⟩
   obtain⟨c6,h6⟩:∃x,ju[6]? = some x:=⟨_,Jd ⋯⟩
   obtain⟨c8,h8⟩:∃x,ju[8]? = some x:=⟨_,Jd ⋯⟩
   obtain⟨c9,h9⟩:∃x,ju[9]? = some x:=⟨_,Jd ⋯⟩
   unfold lP;simp only[Wa,List.any_nil,Qd9];have g5:aU (aI.zip ju) (Qaa "jump")=c5:=nX cM (k:=5) rfl h5;have g6:aU (aI.zip ju) (Qaa "zero")=c6:=nX cM (k:=6) rfl h6;have g8:aU (aI.zip ju) (Qaa ("far" ++ "jump"))=c8:=nX cM (k:=8) (by rfl) h8;have g9:aU (aI.zip ju) (Qaa ("far" ++ "zero"))=c9:=nX cM (k:=9) (by rfl) h9;rw[g5,g6,g8,g9,decide_eq_false (o1 ∅ _ _ h5 h8),decide_eq_false (o2 ∅ _ _ h6 h9)]
   rfl
 rintro σ H4 ⟨cs1,x4,x5,x6,t4,rfl,pm1,hd4,hF,jq⟩;have Xk:=jq.ub;have WA:=jq.le;have TY:cs1.length=11:=by rw[pm1.length_eq,cl]
 have fr1:fE cs1:=fr.perm pm1.symm;have Z3:∀x∈cs1,ux x/\x.length<=11:=fun x hx=>cb x (pm1.mem_iff.mp hx);refine nz (te:=tLX _ _) (fun v H'=>∃(p:Gc) (as:List Gc) (cs:List Str) (t':Int),v = .ref p/\cs.length=4/\fE cs/\(∀x∈cs,ux x/\x.length<=11)/\yH K b c H' p (bS.zip cs) as/\Step b c H4 H' t4 t' 300) (fun Qn qn =>?_) ?_
 ·refine⟨_,rfl,b,c,t4,4,3,rfl,jq.bx,⋯,⋯,∅,∅,∅,∅,fun l cs2 H5 t5 cl2 fr2 cb2 hl0 tf dZ =>?_⟩;refine⟨"abcd",l,cs2.map V.str,rfl,bA.of tf,∅,∅,by rw[Jc,cl2];decide +kernel,fun H6 p as s6 Ho AA al hk=>qn _ _ ⟨p,as,cs2,t5,rfl,cl2,fr2,fun x hx=>⟨(cb2 x hx).1,by have:=(cb2 x hx).2;lia⟩,⟨AA,(dZ.bx.bb Ho).1,(dZ.bx.bb Ho).2,by rw[al,Yr,cl2];decide +kernel,fun j a qq ha hq =>?_⟩,(dZ.trans (Step.same dZ.bx s6)).more ⋯⟩⟩;have z:=Yz.mp hq;have hj:j<(Qaa "abcd").cps.size:=by rw[<-al];exact(Jq.mp ha).1
  have ex:=J2 hj;obtain⟨u1,u2⟩:=hk j a _ (.str qq.2) ha ex (by rw[Jk,z.2];rfl);have e1:=Mv j _ ex;rw[z.1] at e1;rw[<-Qap e1] at u2;rw[cS (dZ.bx.bb u1).1 (dZ.bx.bb u1).2];exact u2
 rintro v H5 ⟨p5,as5,cs2,t5,rfl,cl2,fr2,cb2,P5,dZ⟩;have Vh:=dZ.old hd4 db dc;have ub5:=dZ.ub;have lo5:=dZ.le;refine gn ?_;refine nz (te:=tLZ _ _) (fun v H'=>∃(p:Gc) (as:List Gc) (cs:List Str) (t':Int),v = .ref p/\cs.length=9/\fE cs/\(∀x∈cs,ux x/\x.length<=11)/\yH K b c H' p (bB.zip cs) as/\Step b c H5 H' t5 t' 300) (fun Qn qn =>?_) ?_
 ·refine⟨rfl,fun pk H6 n6=>⟨_,rfl,by show 3<=Wp;decide,fun lp H7 n7=>⟨_,rfl,b,c,t5,3,rfl,(dZ.bx.same n6.same).same n7.same,⋯,⋯,∅,∅,fun r H8 r0 r1 sF =>?_⟩⟩⟩;obtain⟨pb,pc⟩:=dZ.bx.bb n6.nn;obtain⟨lb,lc⟩:=(dZ.bx.same n6.same).bb n7.nn;have hk8:=sF.old (n7.same _ _ n6.at) pb pc;have VX:=sF.old n7.at lb lc;have sF:=(Step.same dZ.bx (n6.same.trans n7.same)).trans sF;obtain⟨m,hm,m4,m9⟩:∃m:Nat,([V.int 4,V.int 5,V.int 8]:List V)[r.toNat]? = some (.int (m:Nat))/\4<=m/\m<=8:=by
   have:r=0\/r=1\/r=2:=by lia
   rcases this with rfl|rfl|rfl
   ·exact⟨4,rfl,∅,∅⟩
   ·exact⟨5,rfl,∅,∅⟩
   ·exact⟨8,rfl,∅,∅⟩
  have mm:9<=2^m:=Jh (show 9<=2^4 by decide) (QcD ∅ m4);refine .inl ⟨lp,_,r,.int (m:Nat),rfl,rfl,bA.of VX,kZ r0 hm,b,c,t5+1,9,m,rfl,sF.bx,⋯,⋯,∅,∅,mm,⋯,fun l cs3 H9 t9 cl3 fr3 cb3 hl0 tf mv =>?_⟩;have hk9:=mv.old hk8 pb pc;have mv:=sF.trans mv;refine⟨pk,l,bB.map V.str,cs3.map V.str,rfl,bA.of hk9,bA.of tf,fun H10 p as s10 Ho AA al hk=>qn _ _ ⟨p,as,cs3,t9,rfl,cl3,fr3,fun x hx=>⟨(cb3 x hx).1,by have:=(cb3 x hx).2;lia⟩,⟨AA,(mv.bx.bb Ho).1,(mv.bx.bb Ho).2,by rw[al,Jc,Jc,Yr],fun j a qq ha hq =>?_⟩,(mv.trans (Step.same mv.bx s10)).more ⋯⟩⟩;have z:=Yz.mp hq;obtain⟨u1,u2⟩:=hk j a (.str qq.1) (.str qq.2) ha (by rw[Jk,z.1];rfl) (by rw[Jk,z.2];rfl);rw[cS (mv.bx.bb u1).1 (mv.bx.bb u1).2];exact u2
 rintro v H6 ⟨p6,as6,cs3,t6,rfl,cl3,fr3,cb3,P6,sL⟩;have Qc:=sL.old Vh db dc;have P5:=P5.step sL;have ub6:=sL.ub;have lo6:=sL.le;refine gn ?_;have Qm:=wF m6.1 (Je 11) Z3;have QB:=wF m6.2.1 (Je 11) cb2;have Ql:=wF m6.2.2 (Je 11) cb3;have zl1:(aI.zip cs1).length=11:=by rw[Yr,TY];rfl
 have zl2:(bS.zip cs2).length=4:=by rw[Yr,cl2];rfl
 have zl3:(bB.zip cs3).length=9:=by rw[Yr,cl3];rfl
 have RU:=(jq.trans dZ).trans sL;refine⟨_,rfl,_,rfl,dd,_,rfl,Qc,fun H7 p7 as7 s7 Ho AA al hk =>?_⟩;have nZ:=Step.same sL.bx s7;have P5:=P5.step nZ;have P6:=P6.step nZ;obtain⟨zs,ez1,ez2,M⟩:=Ib (K:=K) (G:=hM H7 b c) (bk:=aI.zip cs1) (as:=as7) (by rw[al];unfold fg;rw[Jc]) ⋯ (fun qq hq=>⟨(Qm qq hq).1,(Qm qq hq).2.1⟩) (fun j a qq ha hq=>by
  obtain⟨u1,u2⟩:=hk j a (.inr qq.1) (.str qq.2) ha (by unfold fg;rw[Jk,hq];rfl);rw[cS (sL.bx.bb u1).1 (sL.bx.bb u1).2];exact u2)
 refine⟨b,c,p7,t6,hM H7 b c,zs,rfl,nZ.bx,⋯,⋯,av.refl _,.inl (bA.of (by rw[AA,ez2])),M,fun l1 zs1 H8 t8 pz1 hl10 hl11 sF =>?_⟩;have ub8:=sF.ub;have lo8:=sF.le;obtain⟨l1b,l1c⟩:=nZ.bx.bb hl10;obtain⟨qB,pb1,D1⟩:=zK ez1 M pz1 sF.sm (by rw[cS l1b l1c];exact hl11);have P5:=P5.step sF;have P6:=P6.step sF;obtain⟨zs,ez1,ez2,M⟩:=Ib (K:=K) (G:=hM H8 b c) P5.len ⋯ (fun qq hq=>⟨(QB qq hq).1,(QB qq hq).2.1⟩) P5.prs;refine⟨_,rfl,_,rfl,b,c,p5,t8,hM H8 b c,zs,rfl,sF.bx,⋯,⋯,av.refl _,.inl (bA.of (by rw[P5.at',ez2])),M,fun l2 zs2 H9 t9 pz2 hl20 hl21 mv =>?_⟩;have ub9:=mv.ub;have lo9:=mv.le;obtain⟨l2b,l2c⟩:=sF.bx.bb hl20;obtain⟨uW,pb2,D2⟩:=zK ez1 M pz2 mv.sm (by rw[cS l2b l2c];exact hl21);have P6:=P6.step mv;obtain⟨zs,ez1,ez2,M⟩:=Ib (K:=K) (G:=hM H9 b c) P6.len ⋯ (fun qq hq=>⟨(Ql qq hq).1,(Ql qq hq).2.1⟩) P6.prs;refine⟨_,rfl,_,rfl,b,c,p6,t9,hM H9 b c,zs,rfl,mv.bx,⋯,⋯,av.refl _,.inl (bA.of (by rw[P6.at',ez2])),M,fun l3 zs3 H10 t10 pz3 hl30 hl31 mU =>?_⟩;obtain⟨l3b,l3c⟩:=mv.bx.bb hl30;obtain⟨wD,pb3,D3⟩:=zK ez1 M pz3 mU.sm (by rw[cS l3b l3c];exact hl31);refine⟨_,rfl,_,rfl,by show 5<=Wp;decide,fun l H11 n11 =>?_⟩;have uY:=((((RU.trans nZ).trans sF).trans mv).trans mU).jk n11;have Nz:=(Step.same mU.bx n11.same).sm;refine q l _ _ _ qB uW wD near eP H11 t10 ⟨?_,?_,?_,?_,?_,?_,⋯⟩ (((((RU.trans nZ).trans sF).trans mv).trans mU).fresh bx n11.nn) n11.at (bQ (D1.same (mv.sm.trans (mU.sm.trans Nz))) (bQ (D2.same (mU.sm.trans Nz)) (bQ (D3.same Nz) oK))) (uY.more ⋯)
 ·refine Hc (vY RL (by rw[TY];rfl) ⋯ (fun x hx=>(Z3 x hx).1) fr1 pb1) (vY OW (by rw[cl2];rfl) ⋯ (fun x hx=>(cb2 x hx).1) fr2 pb2) (vY NC (by rw[cl3];rfl) ⋯ (fun x hx=>(cb3 x hx).1) fr3 pb3) n2 n8 nf ON ?_;rw[HI pb1 (fX (by rw[TY];rfl))];exact hF
 ·have:=pb1.map (·.1);rw[fX (by rw[TY];rfl)] at this;exact this
 ·rw[pb1.length_eq,zl1]
 ·rw[pb2.length_eq,zl2]
 ·rw[pb3.length_eq,zl3]
 ·rintro qq (hq|hq|hq)
  ·exact Qm qq (pb1.mem_iff.mp hq)
  ·exact QB qq (pb2.mem_iff.mp hq)
  ·exact Ql qq (pb3.mem_iff.mp hq)
end
def kn:Nat->Nat->List Nat
 | 0,_=>[]
 | k+1,n=>kn k (n / 2)++[48+n%2]
def dC (n k:Nat):Str:=⟨(kn k n).toArray⟩
def iu:∀(k n:Nat),((U3 k).map fun j=>48+n / 2^j%2).reverse=kn k n
 | 0,_=>rfl
 | k+1,n=>by
  rw[Qdx,J3,Qc7,Yn];show _++[48+n / 2^0%2]=kn k (n / 2)++[48+n%2];rw[<-iu k (n / 2)]
  congr 2
  ·refine Y9 fun j _ =>?_;show 48+n / 2^(j+1)%2=48+n / 2 / 2^j%2;rw[QdF,QcP,Qeq]
  ·simp
def yJ:∀(k n:Nat),(kn k n).length=k
 | 0,_=>rfl
 | k+1,n=>by unfold kn;rw[Jw,yJ k];rfl
def Ch (n:Nat):Builtin.bitAnd (n:Int) 1=((n%2:Nat):Int):=by
 rw[PyProof.Rows.bitAnd_pp ⋯ ∅];have:((n:Int).toNat &&& (1:Int).toNat)=n%2:=by
  show(n &&& 1)=n%2;exact Nat.and_one_is_mod n
 rw[this]
def CZ (n:Nat):(Qaa (toString ((n%2:Nat):Int)))=⟨#[48+n%2]⟩:=by
 rcases Nat.mod_two_eq_zero_or_one n with h|h<;>rw[h]<;>decide +kernel
def yp:∀k:Nat,(J0 k 1).sum=k
 | 0=>rfl
 | k+1=>by rw[QcH,Yq,yp k];lia
def y6 {α β:Type}(g: α -> β):∀l:List α,l.flatMap (fun j=>[g j])=l.map g
 | []=>rfl
 | a::l=>by rw[Wh,y6 g l];rfl
def qo:Sp:=fun vs H Q _=>eZ fun(n k:Nat)=>vs=[.int n,.int k]/\k<=60/\∀H',av H H'->Q (.str (dC n k)) H'
section
variable {P:Qaf}{w:Qah}{K:Ja}{mg:Str->Option Fk}{base:Heap}{f:Gc}{fd:Qad}
def fe:aA ["number", "many", "figures", "step"] ["number", "many"] (ak (top iZ)):=⟨rfl,rfl,rfl,∅,rfl,∅,∅⟩
def PZ (F:bM K "figures_of" "figures_of" (top iZ) f fd)(T:Nm mg):aW P w K mg base d7 1 f fd ["number", "many"] qo:=by
 refine F.ok fe (fun vs H Q E h =>?_) (fun cQ A outer s H vs Q E hr h =>?_)
 ·obtain⟨n,k,rfl,_⟩:=h
  rfl
 obtain⟨n,k,rfl,hk,q⟩:=h;have d6:=hr.units;refine⟨_,(af (aE (i:=2) fe.nd rfl (Qag rfl) (il ae))
  (af (eJ Qaz rfl (fZ rfl T.n_range (aa (pv 1) ae)) (aD (i:=3) fe.nd rfl (Qag rfl)) (af (lX (xg K QaP QbX QbW pB (pv 2) (aa (bh mr rfl T.n_str (by rfl) (aa (aB NL (pv 0) ai) ae)) ae)))
  (ag (vh (i:=0) fe.nd rfl (Qag rfl) ai JW))))
  (ag (ar (xg K QaC Qci Qch (Cg K) ax (aa (Oq K (pv 2)) ae)))))),?_⟩
 refine⟨by show 0<=Wp;decide,fun l H1 n1 =>?_⟩;refine⟨_,rfl,k,rfl,⋯,⋯,?_⟩;refine ic (lo:=0) (n:=k) (fun i σ H'=>∃x3,σ=[some (.int ((n / 2^i:Nat):Int)),some (.int k),some (.ref l),x3]/\H' l=some (.lst (((U3 i).map fun j=>(⟨#[48+n / 2^j%2]⟩:Str)).map V.str))/\av H H') ⟨_,by simp;rfl,n1.at,n1.same⟩ ?_ ?_
 ·intro i σ H2 hi;refine aj.go ?_;rintro x3 rfl xc iB;refine⟨_,rfl,.inl ⟨rfl,_,bA.of xc⟩,_,rfl,_,_,rfl,rfl,_,rfl,?_,l,_,_,rfl,rfl,xc,?_,fun H3 c3 =>?_⟩
  ·rw[Ch];have:((n / 2^i%2:Nat):Int).natAbs<=1:=by lia
   have hb:((n / 2^i%2:Nat):Int).natAbs=0\/((n / 2^i%2:Nat):Int).natAbs=1:=by lia
   rcases hb with z|z<;>rw[z]<;>decide
  ·rw[Jc,Jc,Y4];exact Jt (show i<1000 by lia) ∅
  have ed:((n / 2^i:Nat):Int) / 2=((n / 2^(i+1):Nat):Int):=by rw[QcP,<-QdF];lia
  refine⟨_,rfl,_,_,rfl,rfl,⟨∅,∅⟩,some (.int (0+i)),?_,?_,?_⟩
  ·show[some (V.int (((n / 2^i:Nat):Int) / 2)),_,_,_]=_;rw[ed]
  ·rw[c3.at,Ch,CZ,QeJ,J4,J4]
   rfl
  ·intro a o e;rw[c3.ne (ay e n1.nn)];exact iB a o e
 ·intro σ H2;refine aj.go ?_;rintro x3 rfl xc iB;refine⟨rfl,_,rfl,l,_,rfl,bA.of xc,fun pr H3 n3 =>?_⟩;refine⟨_,pr,((U3 k).map fun j=>(⟨#[48+n / 2^j%2]⟩:Str)).reverse,rfl,rfl,bA.of (by rw[n3.at,Qdm]),?_,?_⟩
  ·rw[Qdm,Yn,List.sum_reverse];have:((U3 k).map ((fun x:Str=>x.length)∘fun j=>(⟨#[48+n / 2^j%2]⟩:Str)))=J0 k 1:=by
    rw[List.eq_replicate_iff];refine⟨by simp,fun b hb =>?_⟩;refine aj.el (Uu.mp hb) _ ?_;rintro j _ rfl
    rfl
   rw[this,yp];show k+_*0<=16777216;lia
  ·have e:Qa0 "" ((U3 k).map fun j=>(⟨#[48+n / 2^j%2]⟩:Str)).reverse=dC n k:=by
    have h1:=cH ((U3 k).map fun j=>(⟨#[48+n / 2^j%2]⟩:Str)).reverse;have h2:(((U3 k).map fun j=>(⟨#[48+n / 2^j%2]⟩:Str)).reverse.flatMap fun p=>p.cps.toList)=kn k n:=by
     rw[<-iu,<-Qdm,<-Qdm,List.flatMap_map];show(U3 k).reverse.flatMap (fun j=>[48+n / 2^j%2])=_;exact y6 _ _
    rw[h2] at h1;unfold dC;rw[<-h1]
   exact e▸q H3 (iB.trans n3.same)
end
def kC:Sp:=fun vs H Q _=>∃n:Nat,vs=[.int n]/\n<=1000/\Q (.int (2^n)) H
section
variable {P:Qaf}{w:Qah}{K:Ja}{mg:Str->Option Fk}{base:Heap}{f:Gc}{fd:Qad}
def vd:aA ["power", "whole", "step"] ["power"] (ak (top qJ)):=⟨rfl,rfl,rfl,∅,rfl,∅,∅⟩
def NH (F:bM K "two_to" "two_to" (top qJ) f fd)(T:Nm mg):aW P w K mg base d7 1 f fd ["power"] kC:=by
 refine F.ok vd (fun vs H Q E h =>?_) (fun cQ A outer s H vs Q E hr h =>?_)
 ·obtain⟨n,rfl,_⟩:=h
  rfl
 obtain⟨n,rfl,hn,q⟩:=h;refine⟨_,(af (aE (i:=1) vd.nd rfl (Qag rfl) ai)
  (af (eJ Qaz rfl (fZ rfl T.n_range (aa (pv 0) ae)) (aD (i:=2) vd.nd rfl (Qag rfl)) (ag (vh (i:=1) vd.nd rfl (Qag rfl) (pv 1) Gu)))
  (ag (ar (pv 1))))),?_⟩
 refine⟨_,rfl,_,rfl,⋯,⋯,?_⟩;refine ic (lo:=0) (n:=n) (fun i σ H'=>H'=H/\∃st,σ=[some (.int n),some (.int (2^i)),st]) ⟨rfl,_,rfl⟩ ?_ ?_
 ·rintro i σ H' hi ⟨rfl,st,rfl⟩;refine⟨_,rfl,_,rfl,_,_,rfl,rfl,rfl,some (.int (0+i)),?_⟩;rw[<-JU]
  rfl
 ·rintro σ H' ⟨rfl,st,rfl⟩;exact⟨_,rfl,q⟩
end
inductive Arg where
 | sp (x:Str)|nu (n:Nat)|ma (n:Nat)|ne (d:Int)|fa (d:Int)
def Arg.kind:Arg->Str
 | .sp _ => "spot" | .nu _ => "number" | .ma _ => "many" | .ne _ => "near" | .fa _ => "far"
def Arg.v:Arg->V
 | .sp x =>.str x | .nu n =>.int (n:Nat) | .ma n =>.int (n:Nat) | .ne d =>.int d | .fa d =>.int d
def Arg.ok:Arg->Prop
 | .sp x=>x∈bS | .nu n=>n<=255 | .ma n=>n<=7 | .ne d=>d.natAbs<=1000000 | .fa d=>d.natAbs<=1000000
def inD (d:Int)(k:Nat):Bool:=decide (-(2^(k-1))<=d)&&decide (d<2^(k-1))
def jU (d:Int)(k:Nat):Option Str:=if inD d k=true then some (dC ((if d<0 then d+2^k else d).toNat) k) else none
def cW (n:Nat):Nat:=QbD (n:Int)
structure Fb where
 b1:List (Str×Str)
 b2:List (Str×Str)
 b3:List (Str×Str)
 near:Nat
 eP:Nat
def dR (F:Fb):Arg->Option Str
 | .sp x=>some (aU F.b2 x)
 | .nu n=>some (aU F.b3 (bB.getD (cW n) Qat)++QaT (dC n (cW n)) (some 1) none)
 | .ma n=>some (dC n 3++QdY (Qaa "0") (n:Nat))
 | .ne d=>jU d F.near
 | .fa d=>jU d F.eP
def bT (F:Fb):List Arg->Option (List Str)
 | []=>some []
 | a::r=>match dR F a with
  | none=>none
  | some x=>(bT F r).map (x :: ·)
def dA (F:Fb)(w:Str)(as:List Arg):Option Str:=(bT F as).map fun ts=>Qa0 "" (aU F.b1 w::ts)
structure sE (F:Fb):Prop where
 g:Good3 F.b1 F.b2 F.b3 F.near F.eP
 n2:(F.b2.map (·.1)).Perm bS
 n3:(F.b3.map (·.1)).Perm bB
 nr:2<=F.near/\F.near<=8
 fr:F.near<F.eP/\F.eP<=16
def xR {ns:List Str}{bk:List (Str×Str)}(h:dz ns (aO bk)=true):(bk.map (·.1)).Perm ns:=by
 unfold dz at h;rw[Js,Js] at h;have:=of_decide_eq_true h.2.1;rw[show cU (gN (aO bk))=bk from jN bk] at this;exact this
def Good3.frm {b1 b2 b3:List (Str×Str)}{near eP:Int}(g:Good3 b1 b2 b3 near eP):sE ⟨b1,b2,b3,near.toNat,eP.toNat⟩/\near=(near.toNat:Nat)/\eP=(eP.toNat:Nat):=by
 obtain⟨h1,h2,h3⟩:=Bt g.why;have w:=g.why;unfold mL at w;rw[if_neg (by rw[h1];decide),if_neg (by rw[h2];decide),if_neg (by rw[h3];decide)] at w;unfold HQ at w;have hn:yG (.int near)=true:=by
  cases e:yG (.int near) with
  | true=>rfl
  | false=>rw[if_pos e] at w;cases w
 rw[if_neg (by rw[hn];decide)] at w;have hf:Fj (aO b1) (.int near) (.int eP)=true:=by
  cases e:Fj (aO b1) (.int near) (.int eP) with
  | true=>rfl
  | false=>rw[if_pos e] at w;cases w
 have hn:(decide (2<=near)&&decide (near<=8))=true:=hn;have hf:(decide (near<eP)&&(decide (eP<=16) && !lP (cU (gN (aO b1))) near eP))=true:=hf;rw[Js,decide_eq_true_eq,decide_eq_true_eq] at hn;rw[Js,Js,decide_eq_true_eq,decide_eq_true_eq] at hf;have en:near=(near.toNat:Nat):=by lia
 have ef:eP=(eP.toNat:Nat):=by lia
 exact⟨⟨by show Good3 b1 b2 b3 (near.toNat:Nat) (eP.toNat:Nat);rw[<-en,<-ef];exact g,xR h2,xR h3,by show 2<=near.toNat/\near.toNat<=8;lia,by show near.toNat<eP.toNat/\eP.toNat<=16;lia⟩,en,ef⟩
def Bp {n:Nat}(h:n<=255):cW n<=8:=by
 unfold cW QbD
 split
 ·decide
 ·rename_i hz;have Cf:((n:Nat):Int).natAbs≠0:=fun z=>hz (by simp;lia);have:=(Nat.log2_lt Cf).mpr (show((n:Nat):Int).natAbs<2^8 by lia);lia
def di (n k:Nat):(dC n k).length=k:=by
 show(kn k n).toArray.size=k;rw[Ju,yJ]
def JL {bk:List (Str×Str)}{x:Str}(h:∀q∈bk,q.2.length<=11):(aU bk x).length<=11:=by
 induction bk with
 | nil=>exact Uw _
 | cons q r ih=>
  unfold aU
  split
  ·exact h q Jo
  ·exact ih fun z hz=>h z (Jl _ hz)
def sE.c1 {F:Fb}(h:sE F)(x:Str):(aU F.b1 x).length<=11:=JL fun q hq=>(h.g.sz q (.inl hq)).2.2.2
def sE.c2 {F:Fb}(h:sE F)(x:Str):(aU F.b2 x).length<=11:=JL fun q hq=>(h.g.sz q (.inr (.inl hq))).2.2.2
def sE.c3 {F:Fb}(h:sE F)(x:Str):(aU F.b3 x).length<=11:=JL fun q hq=>(h.g.sz q (.inr (.inr hq))).2.2.2
def Kt {F:Fb}(h:sE F){a:Arg}(ha:a.ok){x:Str}(e:dR F a=some x):x.length<=40:=by
 have nr:=h.nr;have fr:=h.fr;have dl:∀{d:Int} {k:Nat} {x:Str},jU d k=some x->x.length=k:=fun e=>by
  unfold jU at e
  split at e
  ·cases e;exact di _ _
  ·cases e
 cases a with
 | sp y=>cases e;have:=h.c2 y;lia
 | nu n=>
  cases e;have h1:=h.c3 (bB.getD (cW n) Qat);have h2:=QcN (dC n (cW n)) (some 1) none;have h3:=Bp ha;rw[Qbg];rw[di] at h2;lia
 | ma n=>
  cases e;have hn:n<=7:=ha;rw[Qbg,di];have:∀n,n<=7->(QdY (Qaa "0") ((n:Nat):Int)).length<=10:=∅;have:=this n hn;lia
 | ne d=>have:=dl e;lia
 | fa d=>have:=dl e;lia
def Hr (H:Hp)(E:XK)(C:Gc):Prop:=∀ex H',av H H'->H' ex=some (.xd [("row",.int 0)])->E (.ref C) (some ex) H'
def Hr.same {H H':Hp}{E:XK}{C:Gc}(h:Hr H E C)(s:av H H'):Hr H' E C:=fun ex H2 s2 e=>h ex H2 (s.trans s2) e
def X9 (H:Hp)(Q:VK)(E:XK)(C:Gc):Option Str->Prop
 | some x=>∀H',av H H'->Q (.str x) H'
 | none=>Hr H E C
def OB:Sp:=fun vs H Q _=>eZ fun(d:Int) (k:Nat)=>vs=[.int d,.int (k:Nat)]/\1<=k/\k<=60/\∀H',av H H'->Q (.bl (inD d k)) H'
def Np (C:Gc):Sp:=fun vs H Q E=>eZ fun(d:Int) (k:Nat)=>vs=[.int d,.int (k:Nat)]/\1<=k/\k<=60/\X9 H Q E C (jU d k)
def jV (K:Ja)(CF:Gc)(H:Hp)(m:Gc)(F:Fb):Prop:=iM K CF H m (aO F.b1) (aO F.b2) (aO F.b3) (.int (F.near:Nat)) (.int (F.eP:Nat))
def OC (K:Ja)(CF C:Gc):Sp:=fun vs H Q E=>qM fun(m:Gc) (F:Fb) (a:Arg)=>vs=[.ref m,.str a.kind,a.v]/\jV K CF H m F/\sE F/\a.ok/\X9 H Q E C (dR F a)
section
variable {P:Qaf}{w:Qah}{K:Ja}{mg:Str->Option Fk}{base:Heap}{f fi:Gc}{fd JY:Qad}{C CF aZ:Gc}{t6:Tok}
def sZ:aA ["self", "row"] ["self", "row"] (ak (inClass (top iw) 0)):=⟨rfl,rfl,rfl,∅,rfl,∅,∅⟩
def sP (F:bM K "__init__" "TooFar.__init__" (inClass (top iw) 0) f fd)(S:kG K C "row"):aW P w K mg base d7 1 f fd ["self", "row"] (B8 C "row"):=by
 refine F.ok sZ (fun vs H Q E h =>?_) (fun cQ A outer s H vs Q E hr h =>?_)
 ·obtain⟨e,v,rfl,_⟩:=h
  rfl
 obtain⟨e,v,rfl,he,q⟩:=h;refine⟨_,(ag (CM (pv 0) (pv 1) rfl)),?_⟩;exact⟨_,rfl,_,rfl,e,C,rfl,he,S,fun dx h1 h2=>q dx h1 h2⟩
def kE:aA ["distance", "figures", "half"] ["distance", "figures"] (ak (top iK)):=⟨rfl,rfl,rfl,∅,rfl,∅,∅⟩
def RY (F:bM K "is_reached" "is_reached" (top iK) f fd)(T:Nm mg)(ib:Fn P w K mg base 1 "two_to" ["power"] kC):aW P w K mg base d7 2 f fd ["distance", "figures"] OB:=by
 refine F.ok kE (fun vs H Q E h =>?_) (fun cQ A outer s H vs Q E hr h =>?_)
 ·obtain⟨d,k,rfl,_⟩:=h
  rfl
 obtain⟨d,k,rfl,k1,k6,q⟩:=h;refine⟨_,(af (aE (i:=2) kE.nd rfl (Qag rfl) (aH (ib.mono ∅) hr rfl (aa (aB cn (pv 1) ai) ae)))
  (ag (ar (yk oM kB (oG jv (pv 2)) (pv 0) (pv 2))))),?_⟩
 refine⟨_,rfl,_,_,rfl,rfl,k-1,?_,⋯,gn ?_⟩
 ·show[V.int ((k:Int)-1)]=[V.int ((k-1:Nat):Int)]
  rw[show(k:Int)-1=((k-1:Nat):Int) by lia]
 have q:=q H (av.refl _);unfold inD at q;refine⟨_,rfl,_,rfl,_,rfl,_,_,rfl,rfl,?_⟩;refine⟨_,rfl,?_⟩
 by_cases c: -(2^(k-1))<=d
 ·rw[decide_eq_true c,Yc] at q;rw[decide_eq_true c];exact bN ⟨_,rfl,_,_,rfl,rfl,q⟩
 ·rw[decide_eq_false c,Yv] at q;rw[decide_eq_false c];exact bC q
def jh:aA ["distance", "figures"] ["distance", "figures"] (ak (top gH)):=⟨rfl,rfl,rfl,∅,rfl,∅,∅⟩
def S6 (F:bM K "put_distance" "put_distance" (top gH) f fd)(T:Nm mg)(ij:mg "TooFar" = some (.ref C))(qR:OQ K C fi)(rZ:aW P w K mg base d7 1 fi JY ["self", "row"] (B8 C "row"))(sA:Binds K JY ["self", "row"] [])(wK:Fn P w K mg base 2 "is_reached" ["distance", "figures"] OB)(ib:Fn P w K mg base 1 "two_to" ["power"] kC)(fR:Fn P w K mg base 1 "figures_of" ["number", "many"] qo):
  aW P w K mg base (tj P w base) 3 f fd ["distance", "figures"] (Np C):=by
 refine F.SM jh (fun vs H Q E h =>?_) (fun cQ A outer s H vs Q E hr h =>?_)
 ·obtain⟨d,k,rfl,_⟩:=h
  rfl
 obtain⟨d,k,rfl,k1,k6,q⟩:=h;refine⟨_,(af (aY (de (cp (aH (wK.mono ∅) hr rfl (aa (pv 0) (aa (pv 1) ae))))) (ag (um (k:=1) qR rZ (hr.mono ∅) rfl ij sA (aa ai ae))) aF)
  (af (aY (aG kB (pv 0) ai (aK _)) (ag (vh (i:=0) jh.nd rfl (Qag rfl) (aH (ib.mono ∅) hr rfl (aa (pv 1) ae)) Gu)) aF)
  (ag (ar (aH (fR.mono ∅) hr rfl (aa (pv 0) (aa (pv 1) ae))))))),?_⟩
 refine⟨_,rfl,_,rfl,d,k,rfl,k1,k6,fun H1 s1=>⟨_,rfl,?_⟩⟩;unfold jU at q;cases c:inD d k with
 | false=>
  rw[c,if_neg ∅] at q;refine bN ⟨by show 1<=1000;decide,fun e he=>⟨e,.int 0,rfl,au,fun dx c1 c2=>⟨rfl,e,dx,rfl,?_,?_,?_⟩⟩⟩
  ·rw[ao (QaA c2),au]
  ·cases z:H e with
   | none=>rfl
   | some o=>rw[s1 _ _ z] at he;cases he
  ·refine q dx _ (fun a o z =>?_) ?_
   ·have z1:=s1 _ _ z;have na:a≠e:=ay z1 he;have nd:a≠dx:=fun y=>by
     rw[ao c2,<-y,z1] at c1;cases c1
    rw[cV na,ao nd,ao na,ao na];exact z1
   ·rw[cV c2,au]
 | true=>
  rw[c,if_pos rfl] at q;refine bC ?_;have c:(decide (-(2^(k-1))<=d)&&decide (d<2^(k-1)))=true:=c;rw[Js,decide_eq_true_eq,decide_eq_true_eq] at c;dsimp only[bK];have p2:(2:Int)^k=2*2^(k-1):=by
   rw[show k=(k-1)+1 by lia,Qcm,QcQ];rfl
  have pp:(0:Int)<2^(k-1):=QeK ∅;refine fJ (t:=Ll _ _ _) (fun σ H' =>σ=[some (.int (((if d<0 then d+2^k else d).toNat:Nat):Int)),some (.int (k:Nat))]/\H'=H1) (fun Nx nx =>?_) ?_
  ·refine⟨_,rfl,_,_,rfl,rfl,_,rfl,gj (fun c2 =>?_) (fun c2 =>?_)⟩
   ·have c2:d<0:=of_decide_eq_true c2;refine⟨_,rfl,_,rfl,k,rfl,⋯,?_⟩;refine⟨_,_,rfl,rfl,nx _ _ ⟨?_,rfl⟩⟩;rw[if_pos c2,Qd7 ⋯]
    rfl
   ·have c2:¬d<0:=fun z=>c2 (decide_eq_true z);refine nx _ _ ⟨?_,rfl⟩;rw[if_neg c2,Qd7 ⋯]
    rfl
  ·rintro σ H2 ⟨rfl,rfl⟩;exact⟨_,rfl,_,rfl,_,k,rfl,k6,fun H3 s3=>q H3 (s1.trans s3)⟩
def oS:aA ["form", "part", "value", "size"] ["form", "part", "value"] (ak (top kQ)):=⟨rfl,rfl,rfl,∅,rfl,∅,∅⟩
def RO (F:bM K "put_part" "put_part" (top kQ) f fd)(T:Nm mg)(MF:HS K CF)(cR:mg "dict" = none)(eE:mg "SIZE_NAMES" = some (.ref aZ))(hZ:∀H,bG K H aZ (bB.map V.str))(gp:mg "SKIP_FIGURES" = some (.int 3 t6))(fR:Fn P w K mg base 1 "figures_of" ["number", "many"] qo)(rg:BN P w K mg base 3 "put_distance" ["distance", "figures"] (Np C)):
  aW P w K mg base (tj P w base) 4 f fd ["form", "part", "value"] (OC K CF C):=by
 refine F.SM oS (fun vs H Q E h =>?_) (fun cQ A outer s H vs Q E hr h =>?_)
 ·obtain⟨m,Fb,a,rfl,_⟩:=h
  rfl
 obtain⟨m,Fo,a,rfl,fo,fr,ha,q⟩:=h;have hu:=mn hr;have d6:=hr.units;have small:∀{n:Nat},n<=10000->n<=Wp:=fun h=>Jh h ∅;obtain⟨dx,w1,w2,w3,w4,w5,ho,g1,g2,g3,g4,g5⟩:=fo;have e4:w4 = .int (Fo.near:Nat):=by unfold Den at g4;exact g4
 have e5:w5 = .int (Fo.eP:Nat):=by unfold Den at g5;exact g5
 subst e4 e5;have nr:=fr.nr;have eP:=fr.fr;refine⟨_,(af (aY (aG (qd K d6) (pv 1) ax (aK _)) (ag (ar (bO hu (bh (vW K rfl) rfl cR (by rfl) (aa (cY K (pv 0) rfl) ae)) (pv 2) (fun _ _=>rfl)))) aF)
  (af (aY (aG (qd K d6) (pv 1) ax (aK _)) (af (aE (i:=3) oS.nd rfl (Qag rfl) (W6 K PySem.F.plainAttrs_int Qex PySem.F.type_int_bit_length RW (pv 2)))
  (ag (ar (aB cu (bO hu (bh (vW K rfl) rfl cR (by rfl) (aa (cY K (pv 0) rfl) ae)) (bJ (kq K) (cy rfl eE) (pv 3) (fun _ _=>rfl)) (fun _ _=>rfl)) (dN (Vb K) (aH (fR.mono ∅) hr rfl (aa (pv 2) (aa (pv 3) ae))) (cX ai) je))))) aF)
  (af (aY (aG (qd K d6) (pv 1) ax (aK _)) (ag (ar (aB cu (aH (fR.mono ∅) hr rfl (aa (pv 2) (aa (lS rfl gp) ae))) (aB To ax (pv 2))))) aF)
  (ag (ar (HW (E':=E) (rg.mono (by first|decide|exact Je _|lia)) hr rfl (fun _ _ _ z=>z) (aa (pv 2) (aa (iz (aG (qd K d6) (pv 1) ax (aK _)) (cY K (pv 0) rfl) (cY K (pv 0) rfl)) ae)))))))),?_⟩
 cases a with
 | sp x=>
  dsimp only[Arg.kind,Arg.v];obtain⟨p,as,rfl,sq,al,hT⟩:=pj g2 (show gN (LU (aO Fo.b2))=aO Fo.b2 from rfl);have bn:(fg Fo.b2).length=Fo.b2.length:=by unfold fg;rw[Jc]
  have l2:Fo.b2.length=4:=fr.g.l2;have nd:(Fo.b2.map (·.1)).Nodup:=fr.n2.nodup_iff.mpr OW.nd;have hx:x∈Fo.b2.map (·.1):=fr.n2.mem_iff.mpr ha;refine⟨_,rfl,.inl ⟨rfl,_,rfl,wu ?_⟩⟩;refine⟨_,rfl,m,CF,dx,_,_,rfl,ho,MF.c,MF.n2,rfl,p,as,fg Fo.b2,rfl,sq,by rw[bn];exact al,by rw[bn,l2];decide,hT,fun dd H1 n1 =>?_⟩;rw[fq nd] at n1;have gd:dJ H1 dd (.str x) (some (.str (aU Fo.b2 x))):=by
   rw[<-gh hx];exact dJ.k (k := .inr x) n1.at
  exact⟨_,rfl,dd,_,rfl,gd,q H1 n1.same⟩
 | nu n=>
  dsimp only[Arg.kind,Arg.v];have hn:n<=255:=ha;have hb:=Bp hn;obtain⟨p,as,rfl,sq,al,hT⟩:=pj g3 (show gN (LU (aO Fo.b3))=aO Fo.b3 from rfl);have bn:(fg Fo.b3).length=Fo.b3.length:=by unfold fg;rw[Jc]
  have l3:Fo.b3.length=9:=fr.g.l3;have nd:(Fo.b3.map (·.1)).Nodup:=fr.n3.nodup_iff.mpr NC.nd;obtain⟨x,hx⟩:∃x,bB[cW n]? = some x:=⟨_,Jd (show cW n<9 by lia)⟩
  have ex:bB.getD (cW n) Qat=x:=by rw[U5,hx];rfl
  have hxm:x∈Fo.b3.map (·.1):=fr.n3.mem_iff.mpr (Jy hx);refine⟨_,rfl,.inl ⟨rfl,_,rfl,fO ?_⟩⟩;dsimp only[bK];refine⟨_,rfl,.inl ⟨rfl,_,rfl,wu ?_⟩⟩;refine⟨_,rfl,rfl,_,rfl,rfl,gn ?_⟩;refine⟨_,rfl,m,CF,dx,_,_,rfl,ho,MF.c,MF.n3,rfl,p,as,fg Fo.b3,rfl,sq,by rw[bn];exact al,by rw[bn,l3];decide,hT,fun dd H1 n1 =>?_⟩;rw[fq nd] at n1;have gd:dJ H1 dd (.str x) (some (.str (aU Fo.b3 x))):=by
   rw[<-gh hxm];exact dJ.k (k := .inr x) n1.at
  refine⟨_,rfl,.inr (.inl ⟨aZ,_,_,.str x,rfl,rfl,hZ _,mV (by rw[Jk];show(bB[cW n]?).map V.str=_;rw[hx];rfl),dd,_,rfl,gd,?_⟩)⟩;have cl:=fr.c3 x;have fl:(dC n (cW n)).length<=8:=by rw[di];exact hb
  have sl:=QcN (dC n (cW n)) (some 1) none;refine⟨_,rfl,_,rfl,n,cW n,rfl,⋯,fun H2 s2 =>?_⟩;refine⟨1,rfl,.inr ⟨_,rfl,small ⋯,.inr (.inl ⟨_,_,rfl,rfl,small ⋯,?_⟩)⟩⟩;have q:=q H2 (n1.same.trans s2);rw[ex] at q;exact q
 | ma n=>
  dsimp only[Arg.kind,Arg.v];have hn:n<=7:=ha;refine⟨_,rfl,.inl ⟨rfl,_,rfl,fO ?_⟩⟩;dsimp only[bK];refine⟨_,rfl,.inl ⟨rfl,_,rfl,fO ?_⟩⟩;dsimp only[bK];refine⟨_,rfl,.inl ⟨rfl,_,rfl,wu ?_⟩⟩;have ml:∀n,n<=7->(QdY (Qaa "0") ((n:Nat):Int)).length<=10:=∅;have ml:=ml n hn;refine⟨_,rfl,n,3,rfl,∅,fun H1 s1 =>?_⟩;refine⟨_,rfl,.inr ⟨_,_,rfl,rfl,oH ∅ ⋯ ⋯,.inr (.inl ⟨_,_,rfl,rfl,small (by rw[di];lia),q H1 s1⟩)⟩⟩
 | ne d=>
  dsimp only[Arg.kind,Arg.v];refine⟨_,rfl,.inl ⟨rfl,_,rfl,fO ?_⟩⟩;dsimp only[bK];refine⟨_,rfl,.inl ⟨rfl,_,rfl,fO ?_⟩⟩;dsimp only[bK];refine⟨_,rfl,.inl ⟨rfl,_,rfl,fO ?_⟩⟩;dsimp only[bK];refine⟨_,rfl,_,rfl,.inl ⟨rfl,_,rfl,wu ?_⟩⟩;exact⟨_,rfl,m,CF,dx,_,_,rfl,ho,MF.c,MF.n4,rfl,d,Fo.near,rfl,⋯,⋯,q⟩
 | fa d=>
  dsimp only[Arg.kind,Arg.v];refine⟨_,rfl,.inl ⟨rfl,_,rfl,fO ?_⟩⟩;dsimp only[bK];refine⟨_,rfl,.inl ⟨rfl,_,rfl,fO ?_⟩⟩;dsimp only[bK];refine⟨_,rfl,.inl ⟨rfl,_,rfl,fO ?_⟩⟩;dsimp only[bK];refine⟨_,rfl,_,rfl,.inl ⟨rfl,_,rfl,fO ?_⟩⟩;exact⟨_,rfl,m,CF,dx,_,_,rfl,ho,MF.c,MF.n5,rfl,d,Fo.eP,rfl,⋯,⋯,q⟩
end
abbrev i9:List (Str×List Str):=[("set",["spot", "number"]),("add",["spot", "spot"]),("take",["spot", "spot"]),("tell",["spot"]),("ask",["spot"]),("jump",["near"]),("zero",["spot", "near"]),("stop",[]),("farjump",["far"]),("farzero",["spot", "far"]),("skip",["many"])]
def gz:∀q∈i9,q.1∈aI/\q.2.length<=2:=∅
structure sW (w:Str)(as:List Arg):Prop where
 pt:∃q∈i9,w=q.1/\as.map Arg.kind=q.2
 ok:∀a∈as,a.ok
structure NV (K:Ja)(w:Qah)(mg:Str->Option Fk)(aP:Gc):Prop where
 g:mg "PARTS" = some (.ref aP)
 cd:MM K w aP
 pt:∀q∈i9,∃p,Jg K aP q.1=some (some (.ref p))/\∀H,bG K H p (q.2.map V.str)
def tE {F:Fb}{a:Arg}:∀{as:List Arg},bT F (as++[a])=match bT F as with
  | none=>none
  | some ts=>(dR F a).map fun x=>ts++[x]
 | []=>by
  show(match dR F a with|none=>none|some x=>(some []).map (x :: ·))=_;unfold bT;cases dR F a<;>rfl
 | b::as=>by
  have ih:=tE (F:=F) (a:=a) (as:=as);show(match dR F b with|none=>none|some x=>(bT F (as++[a])).map (x :: ·))=(match (match dR F b with|none=>none|some x=>(bT F as).map (x :: ·)) with|none=>none|some ts=>(dR F a).map fun x=>ts++[x])
  cases dR F b with
  | none=>rfl
  | some x=>
   rw[ih];cases bT F as with
   | none=>rfl
   | some ts=>cases dR F a<;>rfl
def nM {F:Fb}{a:Arg}(e:dR F a=none):∀{as:List Arg},a∈as->bT F as=none
 | b::as,h=>by
  show(match dR F b with|none=>none|some x=>(bT F as).map (x :: ·))=none
  rcases Jx.mp h with rfl|h
  ·rw[e]
  ·rw[nM e h];cases dR F b<;>rfl
def mZ {F:Fb}(fr:sE F):∀{as:List Arg} {ts:List Str},(∀a∈as,a.ok)->bT F as=some ts->ts.length=as.length/\((ts.map fun x=>x.length).sum<=40*as.length)
 | [],ts,_,e=>by cases e;exact⟨rfl,Je _⟩
 | a::as,ts,ok,e=>by
  have e:(match dR F a with|none=>none|some x=>(bT F as).map (x :: ·))=some ts:=e;cases ea:dR F a with
  | none=>rw[ea] at e;cases e
  | some x=>
   rw[ea] at e;cases er:bT F as with
   | none=>rw[er] at e;cases e
   | some us=>
    rw[er] at e;cases e;obtain⟨h1,h2⟩:=mZ fr (fun b hb=>ok b (Jl _ hb)) er;have:=Kt fr (ok a Jo) ea;refine⟨by rw[Jr,Jr,h1],?_⟩;rw[J3,Yq,Jr];lia
def Nq (K:Ja)(CF C:Gc):Sp:=fun vs H Q E=>zg fun(m p:Gc) (F:Fb) (w:Str) (as:List Arg)=>vs=[.ref m,.ref p]/\jV K CF H m F/\sE F/\sW w as/\bG K H p (.str w::as.map Arg.v)/\X9 H Q E C (dA F w as)
section
variable {P:Qaf}{w:Qah}{K:Ja}{mg:Str->Option Fk}{base:Heap}{f fi:Gc}{fd JY:Qad}{C CF aP:Gc}
def gM:aA ["form", "bare", "texts", "part", "value"] ["form", "bare"] (ak (top kY)):=⟨rfl,rfl,rfl,∅,rfl,∅,∅⟩
def Tq (F:bM K "put_bare" "put_bare" (top kY) f fd)(T:Nm mg)(MF:HS K CF)(cR:mg "dict" = none)(Kb:NV K w mg aP)(BG:BN P w K mg base 4 "put_part" ["form", "part", "value"] (OC K CF C)):
  aW P w K mg base (tj P w base) 5 f fd ["form", "bare"] (Nq K CF C):=by
 refine F.SM gM (fun vs H Q E h =>?_) (fun cQ A outer s H vs Q E hr h =>?_)
 ·obtain⟨m,p,Fo,w,as,rfl,_⟩:=h
  rfl
 obtain⟨m,p,Fo,wd,args,rfl,fo,fr,ba,hp,q⟩:=h;have hu:=mn hr;have d6:=hr.units;have md:=Kb.g;have small:∀{n:Nat},n<=10000->n<Wp:=fun h=>Ub h ∅;obtain⟨qq,hqq,ew,ek⟩:=ba.pt;obtain⟨pk,pl⟩:=gz qq hqq;obtain⟨qp,hq1,Hi⟩:=Kb.pt qq hqq;have TN:args.length=qq.2.length:=by rw[<-ek,Jc]
 have fo':=fo;obtain⟨dx,w1,w2,w3,w4,w5,ho,g1,g2,g3,g4,g5⟩:=fo';obtain⟨pd,ad,rfl,sq,al,hT⟩:=pj g1 (show gN (LU (aO Fo.b1))=aO Fo.b1 from rfl);have bn:(fg Fo.b1).length=Fo.b1.length:=by unfold fg;rw[Jc]
 have l1:Fo.b1.length=11:=fr.g.l1;have nd:(Fo.b1.map (·.1)).Nodup:=fr.g.n1.nodup_iff.mpr cM;have hx:wd∈Fo.b1.map (·.1):=fr.g.n1.mem_iff.mpr (by rw[ew];exact pk);refine⟨_,(af (aE (i:=2) gM.nd rfl (Qag rfl) (il (aa (bO hu (bh (vW K rfl) rfl cR (by rfl) (aa (cY K (pv 0) rfl) ae)) (bJ (kq K) (pv 1) ai (fun _ _=>rfl)) (fun _ _=>rfl)) ae)))
  (af (eJ PassesOwn.leaving rfl (Cb K rfl T.n_zip (aa (Ck K w (cy rfl md) (bJ (kq K) (pv 1) ai (fun _ _=>rfl)) (fun _ _=>rfl)) (aa (dN (P2 K) (pv 1) (cX ai) je) ae))) (tupK K 2 rfl (aM (aD (i:=3) gM.nd rfl (Qag rfl)) (aM (aD (i:=4) gM.nd rfl (Qag rfl)) bU))) (ag (lX (xg K QaP QbX QbW pB (pv 2) (aa (HW (E':=E) (BG.mono (by first|decide|exact Je _|lia)) hr rfl (fun _ _ _ z=>z) (aa (pv 0) (aa (pv 3) (aa (pv 4) ae)))) ae)))))
  (ag (ar (xg K QaC Qci Qch (Cg K) ax (aa (pv 2) ae)))))),?_⟩
 refine⟨_,rfl,m,CF,dx,_,_,rfl,ho,MF.c,MF.n1,rfl,pd,ad,fg Fo.b1,rfl,sq,by rw[bn];exact al,by rw[bn,l1];decide,hT,fun dd H1 n1 =>?_⟩;rw[fq nd] at n1;have gd:dJ H1 dd (.str wd) (some (.str (aU Fo.b1 wd))):=by
  rw[<-gh hx];exact dJ.k (k := .inr wd) n1.at
 refine⟨_,rfl,.inr (.inl ⟨p,_,0,.str wd,rfl,rfl,n1.same.cL hp,kZ (QdV 0) rfl,dd,_,rfl,gd,by show 1<=Wp;decide,fun l H2 n2=>gn ?_⟩)⟩;have s2:=n1.same.trans n2.same;have lne:∀{a:Gc} {o:HO},H a=some o->a≠l:=fun h z=>by rw[z] at h;have:=s2 _ _ h;have:=n2.nn;rw[n1.same _ _ h] at this;cases this
 dsimp only;refine fJ (t:=DU _ _ _) (fun σ H'=>∃(x3 x4:Option V) (ts:List Str),σ=[some (.ref m),some (.ref p),some (.ref l),x3,x4]/\av H H'/\bT Fo args=some ts/\H' l=some (.lst ((aU Fo.b1 wd::ts).map V.str))) (fun Nx nx =>?_) ?_
 ·refine⟨_,rfl,.inr (.inl ⟨p,_,0,.str wd,rfl,rfl,s2.cL hp,kZ (QdV 0) rfl,aP,qq.1,.ref qp,.ref qp,rfl,by rw[ew],Kb.cd,hq1,rfl,?_⟩)⟩;refine⟨_,rfl,1,rfl,p,_,rfl,s2.cL hp,?_,fun p5 H5 n5 =>?_⟩
  ·rintro⟨z,_⟩;have:HT.eg (V.str wd::args.map Arg.v).length 0 (some 1)=1:=by
    show HT.eg _ 0 (some ((1:Nat):Int))=1;rw[HT.kg,Jr];lia
   rw[this] at z;exact absurd z ∅
  rw[show(1:Int)=((1:Nat):Int) from rfl,yU] at n5;have n5:hW H2 p5 (.tup (args.map Arg.v)) H5:=n5;have q5:oX true K H5 qp (qq.2.map V.str):=Hi H5;have q6:oX true K H5 p5 (args.map Arg.v):=bG.of n5.at;refine⟨true,true,qp,p5,rfl,⟨_,q5⟩,⟨_,q6⟩,?_⟩;have FK:=n5.same _ _ n2.at;have l5:l≠p5:=fun z=>by have:=n5.nn;rw[<-z,n2.at] at this;cases this
  refine j4 (N:=args.length) (fun i σ H'=>∃(x3 x4:Option V) (ts:List Str),σ=[some (.ref m),some (.ref p),some (.ref l),x3,x4]/\av H H'/\(H' p5=some (.tup (args.map Arg.v)))/\bT Fo (args.take i)=some ts/\H' l=some (.lst ((aU Fo.b1 wd::ts).map V.str))) ⟨_,_,[],rfl,s2.trans n5.same,n5.at,rfl,FK⟩ ?_ ?_
  ·rintro i σ H6 hi ⟨x3,x4,ts,rfl,s6,h56,e6,Qb⟩;have gk:(qq.2.map V.str)[i]? = some (.str args[i].kind):=by
    rw[<-ek,Jk,Jk,Jd hi];rfl
   have gv:(args.map Arg.v)[i]? = some args[i].v:=by rw[Jk,Jd hi];rfl
   have r5:oX true K H6 qp (qq.2.map V.str):=Hi H6;have r6:oX true K H6 p5 (args.map Arg.v):=bG.of h56;refine⟨⟨_,_,_,_,r5,r6,gk,gv⟩,?_⟩;rintro x' H7 ⟨T',rfl,hN⟩;have n7:=hN _ _ _ _ r5 r6 gk gv;refine⟨T',_,rfl,bG.of n7.at,rfl,_,_,rfl,_,_,rfl,rfl,?_⟩;have s7:=s6.trans n7.same;have hl7:=n7.same _ _ Qb;have mem:=Um hi;have tl:ts.length<=100:=by
    have:=(mZ fr (fun a ha=>ba.ok a (List.mem_of_mem_take ha)) e6).1;rw[Uo] at this;lia
   refine⟨_,rfl,.inl ⟨rfl,_,bA.of hl7⟩,_,rfl,_,rfl,_,rfl,m,Fo,args[i],rfl,iM.same fo s7,fr,ba.ok _ mem,?_⟩;cases ea:dR Fo args[i] with
   | none=>
    have:dA Fo wd args=none:=by unfold dA;rw[nM ea mem];rfl
    rw[this] at q;exact Hr.same q s7
   | some x=>
    refine fun H8 s8=>⟨l,_,_,rfl,rfl,s8 _ _ hl7,small (by simp only[Jc,Jr];lia),fun H9 c9 =>?_⟩
    have e9:bT Fo (args.take (i+1))=some (ts++[x]):=by
     rw[Yg hi,tE,e6,ea];rfl
    refine⟨_,_,ts++[x],rfl,fun a o e =>?_,?_,e9,?_⟩
    ·rw[c9.ne (lne e)];exact(s7.trans s8) _ _ e
    ·rw[c9.ne (QaA l5)];exact s8 _ _ (n7.same _ _ h56)
    ·rw[c9.at];simp only[J3,J4,QcL,Qdp]
  ·rintro σ H6 ⟨x3,x4,ts,rfl,s6,h56,e6,Qb⟩;rw[Ym] at e6;have r5:oX true K H6 qp (qq.2.map V.str):=Hi H6;have r6:oX true K H6 p5 (args.map Arg.v):=bG.of h56;exact⟨⟨_,_,r5,r6,.inr (by rw[Jc];exact Je _)⟩,nx _ _ ⟨_,_,ts,rfl,s6,e6,Qb⟩⟩
 rintro σ H3 ⟨x3,x4,ts,rfl,s3,e3,sG⟩;have ep:dA Fo wd args=some (Qa0 "" (aU Fo.b1 wd::ts)):=by unfold dA;rw[e3];rfl
 rw[ep] at q;obtain⟨tl,tsum⟩:=mZ fr ba.ok e3;have c1:=fr.c1 wd;refine⟨rfl,_,rfl,_,l,aU Fo.b1 wd::ts,rfl,rfl,bA.of sG,?_,q H3 s3⟩;rw[J3,Yq];show(aU Fo.b1 wd).length+(ts.map fun x=>x.length).sum+_*0<=16777216;lia
end
def mz (w:Str):Bool:=(["farjump", "farzero"]:List Str).contains w
def tI (n i:Nat):dC n (i+1)=(⟨#[48+n / 2^i%2]⟩:Str)++dC n i:=by
 refine eM ?_;rw[aN];show kn (i+1) n=[48+n / 2^i%2]++kn i n;rw[<-iu,<-iu,QeJ,J4,List.reverse_append]
 rfl
def wc:Sp:=fun vs H Q _=>∃w:Str,vs=[.str w]/\∀H',av H H'->Q (.bl (mz w)) H'
section
variable {P:Qaf}{w:Qah}{K:Ja}{mg:Str->Option Fk}{base:Heap}{f:Gc}{fd:Qad}
def fV:aA ["_law_many", "_law_found", "_law_k"] ["_law_many"] (ak (top jW)):=⟨rfl,rfl,rfl,∅,rfl,∅,∅⟩
def Mp (F:bM K "_law_power" "_law_power" (top jW) f fd)(T:Nm mg):aW P w K mg base d7 1 f fd ["_law_many"] kC:=by
 refine F.ok fV (fun vs H Q E h =>?_) (fun cQ A outer s H vs Q E hr h =>?_)
 ·obtain⟨n,rfl,_⟩:=h
  rfl
 obtain⟨n,rfl,n1,q⟩:=h;refine⟨_,(af (aE (i:=1) fV.nd rfl (Qag rfl) ai)
  (af (eJ Qaz rfl (fZ rfl T.n_range (aa (pv 0) ae)) (aD (i:=2) fV.nd rfl (Qag rfl)) (ag (aE (i:=1) fV.nd rfl (Qag rfl) (aB rD ai (pv 1)))))
  (ag (ar (pv 1))))),?_⟩
 refine⟨_,rfl,n,rfl,⋯,⋯,?_⟩;refine ic (lo:=0) (n:=n) (fun i σ H'=>∃x2,σ=[some (.int (n:Nat)),some (.int (2^i)),x2]/\H'=H) ⟨_,rfl,rfl⟩ ?_ ?_
 ·rintro i σ H2 hi ⟨x2,rfl,rfl⟩;refine⟨_,rfl,.inl ⟨_,_,rfl,rfl,.inl ⟨∅,∅⟩,some (.int (0+i)),?_,rfl⟩⟩;rw[Qcm,QcQ]
  rfl
 ·rintro σ H2 ⟨x2,rfl,rfl⟩;exact⟨_,rfl,q⟩
def cZ:aA ["_law_number", "_law_many", "_law_found", "_law_k"] ["_law_number", "_law_many"] (ak (top gY)):=⟨rfl,rfl,rfl,∅,rfl,∅,∅⟩
def KZ (F:bM K "_law_figures" "_law_figures" (top gY) f fd)(T:Nm mg):aW P w K mg base d7 1 f fd ["_law_number", "_law_many"] qo:=by
 refine F.ok cZ (fun vs H Q E h =>?_) (fun cQ A outer s H vs Q E hr h =>?_)
 ·obtain⟨n,k,rfl,_⟩:=h
  rfl
 obtain⟨n,k,rfl,hk,q⟩:=h;refine⟨_,(af (aE (i:=2) cZ.nd rfl (Qag rfl) ax)
  (af (eJ Qaz rfl (fZ rfl T.n_range (aa (pv 1) ae)) (aD (i:=3) cZ.nd rfl (Qag rfl)) (af (aE (i:=2) cZ.nd rfl (Qag rfl) (aB cu (bh mr rfl T.n_str (by rfl) (aa (aB jw (pv 0) ai) ae)) (pv 2)))
  (ag (aE (i:=0) cZ.nd rfl (Qag rfl) (aB Cv (pv 0) ai)))))
  (ag (ar (pv 2))))),?_⟩
 refine⟨_,rfl,k,rfl,⋯,⋯,?_⟩;refine ic (lo:=0) (n:=k) (fun i σ H'=>∃x3,σ=[some (.int ((n / 2^i:Nat):Int)),some (.int (k:Nat)),some (.str (dC n i)),x3]/\H'=H) ⟨_,by simp;rfl,rfl⟩ ?_ ?_
 ·rintro i σ H2 hi ⟨x2,rfl,rfl⟩;have lg:((n / 2^i%2:Nat):Int).natAbs.log2<1920:=by
   have hb:((n / 2^i%2:Nat):Int).natAbs=0\/((n / 2^i%2:Nat):Int).natAbs=1:=by lia
   rcases hb with z|z<;>rw[z]<;>decide
  have em:((n / 2^i:Nat):Int)%2=((n / 2^i%2:Nat):Int):=by lia
  refine⟨_,rfl,_,_,rfl,rfl,(by show(0:Int)<2;decide),_,rfl,by rw[em];exact lg,_,rfl,?_⟩;rw[em,CZ];have fl:=di n i;refine .inr (.inl ⟨_,_,rfl,rfl,Jh (show _<=100 by show 1+(dC n i).length<=100;lia) ∅,?_⟩);have ed:((n / 2^i:Nat):Int) / 2=((n / 2^(i+1):Nat):Int):=by rw[QcP,<-QdF];lia
  refine⟨_,rfl,_,_,rfl,rfl,⟨∅,∅⟩,some (.int (0+i)),?_,rfl⟩;rw[tI,<-ed]
  rfl
 ·rintro σ H2 ⟨x2,rfl,rfl⟩;exact⟨_,rfl,q _ (av.refl _)⟩
def oW:aA ["_law_word"] ["_law_word"] (ak (top gb)):=⟨rfl,rfl,rfl,∅,rfl,∅,∅⟩
def Mh (F:bM K "_law_far_word" "_law_far_word" (top gb) f fd)(T:Nm mg):aW P w K mg base d7 1 f fd ["_law_word"] wc:=by
 refine F.ok oW (fun vs H Q E h =>?_) (fun cQ A outer s H vs Q E hr h =>?_)
 ·obtain⟨w,rfl,_⟩:=h
  rfl
 obtain⟨wd,rfl,q⟩:=h;refine⟨_,(ag (ar (eG (XO K) (pv 0) (eN (aa ax (aa ax ae))) (by with_unfolding_all rfl)))),?_⟩;refine⟨_,rfl,by show 2<=Wp;decide,fun p H1 n1 =>?_⟩;refine⟨p,(["farjump", "farzero"]:List Str).map V.str,rfl,.inr (bG.of n1.at),rfl,rfl,?_⟩;rw[if_neg Jn,pq];exact q H1 n1.same
end
def Pw {x:Str}(h:1<=x.length):sg (QaT x (some 1) none)=(sg x).drop 1:=by
 rw[PyProof.Rows.slice_from_eq (b:=(x.length:Int)) ∅ ⋯ rfl];show(((sg x).drop (1:Int).toNat).take ((x.length:Int)-1).toNat).toArray.toList=_;rw[Qd0,U7]
 ·rfl
 ·rw[Yt,<-str_len];show x.length-1<=_;lia
def E9 (n k:Nat):QaT (dC n k) (some 1) none=dC n (k-1):=by
 cases k with
 | zero=>
  show QaT (dC n 0) (some 1) none=dC n 0;exact(by decide +kernel:QaT (⟨#[]⟩:Str) (some 1) none=⟨#[]⟩)
 | succ k=>
  refine eM ((Pw (by rw[di];lia)).trans ?_);rw[tI];show((⟨#[48+n / 2^k%2]⟩:Str)++dC n k).cps.toList.drop 1=_;rw[aN]
  rfl
def Hk (n k:Nat):dC (n+2^k) k=dC n k:=by
 refine eM ?_;show kn k (n+2^k)=kn k n;rw[<-iu,<-iu]
 congr 1
 refine Y9 fun j hj =>?_;have hj:=List.mem_range.mp hj
 congr 1
 have e:2^k=2^(k-j-1)*2*2^j:=by
  rw[Nat.mul_assoc,Qeq 2,<-QcP,<-Nat.pow_add]
  congr 1
  lia
 rw[e,Nat.add_mul_div_right _ _ (QeW j),Nat.add_mul_mod_self_right]
def Hm {d:Int}{k:Nat}(h1:1<=k)(h:inD d k=true):jU d k=some (dC (d+2^k).toNat k):=by
 unfold jU;rw[if_pos h];unfold inD at h;rw[Js,decide_eq_true_eq,decide_eq_true_eq] at h;have p2:(2:Int)^k=2*2^(k-1):=by
  rw[show k=(k-1)+1 by lia,Qcm,QcQ];rfl
 have pp:(0:Int)<2^(k-1):=QeK ∅
 by_cases c:d<0
 ·rw[if_pos c]
 ·rw[if_neg c];have:(d+2^k).toNat=d.toNat+2^k:=by
   have e:((2^k:Nat):Int)=2^k:=by push_cast;rfl
   lia
  rw[this,Hk]
def OS (n s:Nat):2^s<=n↔s<cW n:=by
 unfold cW QbD
 by_cases h:n=0
 ·subst h;have:=QeW s;constructor
  ·intro z;lia
  ·intro z;exact absurd z (by simp)
 ·have hz:¬(((n:Nat):Int)==0)=true:=by simp;lia
  have e:((n:Nat):Int).natAbs=n:=rfl;rw[e,if_neg hz,<-Nat.le_log2 h];lia
def join_cons (x:Str)(r:List Str):Qa0 "" (x::r)=x++Qa0 "" r:=by
 refine eM ?_;rw[cH,aN,cH,Wh]
def Hq (x r:List Str):Qa0 "" (x++r)=Qa0 "" x++Qa0 "" r:=by
 refine eM ?_;rw[cH,aN,cH,cH,List.flatMap_append]
def join_nil:Qa0 "" []=Qat:=rfl
def vi (x:Str):x++Qat=x:=by
 refine eM ?_;rw[aN];exact Uv _
def vV (x y z:Str):x++y++z=x++(y++z):=by
 refine eM ?_;rw[aN,aN,aN,aN,Yo]
def my {F:Fb}:∀(xs:List Str) (r:List Arg),bT F (xs.map Arg.sp++r)=(bT F r).map fun ts=>xs.map (aU F.b2)++ts
 | [],r=>by
  show bT F r=_;cases bT F r<;>rfl
 | x::xs,r=>by
  have ih:=my (F:=F) xs r;show(bT F (xs.map Arg.sp++r)).map (aU F.b2 x :: ·)=_;rw[ih];cases bT F r<;>rfl
def fW {a:Arg}(h:a.kind = "spot"):∃x,a = .sp x:=by
 cases a<;>first|exact⟨_,rfl⟩|exact absurd h (of_decide_eq_false rfl)
def Lr {a:Arg}(h:a.kind = "number"):∃x,a = .nu x:=by
 cases a<;>first|exact⟨_,rfl⟩|exact absurd h (of_decide_eq_false rfl)
def L9 {a:Arg}(h:a.kind = "many"):∃x,a = .ma x:=by
 cases a<;>first|exact⟨_,rfl⟩|exact absurd h (of_decide_eq_false rfl)
def Cp {a:Arg}(h:a.kind = "near"):∃x,a = .ne x:=by
 cases a<;>first|exact⟨_,rfl⟩|exact absurd h (of_decide_eq_false rfl)
def CV {a:Arg}(h:a.kind = "far"):∃x,a = .fa x:=by
 cases a<;>first|exact⟨_,rfl⟩|exact absurd h (of_decide_eq_false rfl)
def Iy {α:Type}(a v: α)(ys:List α):Ed (a::(ys++[v])) (-1)=some v:=by
 have l:(a::(ys++[v])).length=ys.length+2:=by rw[Jr,Jw];rfl
 unfold Ed FT;rw[l,if_neg ∅,if_pos ⋯,show((-1:Int)+((ys.length+2:Nat):Int)).toNat=ys.length+1 by lia];show(ys++[v])[ys.length]? = some v;rw[Ux (Je _),Nat.sub_self]
 rfl
def K9 (a v:V)(ys:List V):ly (a::(ys++[v])) (some 1) (some (-1))=ys:=by
 have l:(a::(ys++[v])).length=ys.length+2:=by rw[Jr,Jw];rfl
 have e1:HT.eg (ys.length+2) 0 (some 1)=1:=by
  show HT.eg _ 0 (some ((1:Nat):Int))=1;rw[HT.kg];lia
 have e2:HT.eg (ys.length+2) (ys.length+2) (some (-1))=ys.length+1:=by
  show(if (-1:Int)<0 then ((-1:Int)+((ys.length+2:Nat):Int)).toNat else min (-1:Int).toNat (ys.length+2))=_;rw[if_pos ∅];lia
 unfold ly;rw[l,e1,e2];show((ys++[v]).drop 0).take (ys.length+1-1)=ys;rw[QcU,Nat.add_sub_cancel,QeI]
 rfl
def sE.sum {F:Fb}(h:sE F):∀xs:List Str,((xs.map (aU F.b2)).map fun x=>x.length).sum<=11*xs.length
 | []=>Je _
 | y::ys=>by
  have ih:=h.sum ys;have:=h.c2 y;rw[J3,J3,Yq,Jr];lia
def mE (xs:List Str):(Qa0 "" xs).length=(xs.map fun x=>x.length).sum:=by
 rw[str_len,cH,List.length_flatMap]
 rfl
abbrev dG:List Str:=["jump", "zero", "farjump", "farzero"]
abbrev MX:List Str:=["add", "take", "tell", "ask", "stop"]
def cP (w:Str)(d:Int):Arg:=if mz w=true then .fa d else .ne d
def sW.cls {w:Str}{as:List Arg}(b:sW w as):(w = "skip" /\ ∃n,as=[.ma n])\/(w∈dG/\∃(xs:List Str) (d:Int),xs.length<=1/\as=xs.map Arg.sp++[cP w d])\/(w = "set" /\ ∃x n,as=[.sp x,.nu n])\/(w∈MX/\∃xs:List Str,xs.length<=2/\as=xs.map Arg.sp):=by
 obtain⟨q,hq,rfl,ek⟩:=b.pt;have n0:∀{as:List Arg},as.map Arg.kind=[]->as=[]:=fun h=>List.map_eq_nil_iff.mp h;have n1:∀{as:List Arg} {a:Str} {r:List Str},as.map Arg.kind=a::r->∃x t,as=x::t/\x.kind=a/\t.map Arg.kind=r:=fun{as a r} h=>by
  cases as with
  | nil=>cases h
  | cons x t=>rw[J3] at h;injection h with h1 h2;exact⟨x,t,rfl,h1,h2⟩
 simp only[i9,Jx,Yl,or_false] at hq
 rcases hq with rfl|rfl|rfl|rfl|rfl|rfl|rfl|rfl|rfl|rfl|rfl
 ·obtain⟨a,t,rfl,h1,h⟩:=n1 ek;obtain⟨c,t,rfl,h2,h⟩:=n1 h;obtain rfl:=n0 h;obtain⟨x,rfl⟩:=fW h1;obtain⟨n,rfl⟩:=Lr h2;exact .inr (.inr (.inl ⟨rfl,x,n,rfl⟩))
 ·obtain⟨a,t,rfl,h1,h⟩:=n1 ek;obtain⟨c,t,rfl,h2,h⟩:=n1 h;obtain rfl:=n0 h;obtain⟨x,rfl⟩:=fW h1;obtain⟨y,rfl⟩:=fW h2;exact .inr (.inr (.inr ⟨by simp,[x,y],by simp,rfl⟩))
 ·obtain⟨a,t,rfl,h1,h⟩:=n1 ek;obtain⟨c,t,rfl,h2,h⟩:=n1 h;obtain rfl:=n0 h;obtain⟨x,rfl⟩:=fW h1;obtain⟨y,rfl⟩:=fW h2;exact .inr (.inr (.inr ⟨by simp,[x,y],by simp,rfl⟩))
 ·obtain⟨a,t,rfl,h1,h⟩:=n1 ek;obtain rfl:=n0 h;obtain⟨x,rfl⟩:=fW h1;exact .inr (.inr (.inr ⟨by simp,[x],by simp,rfl⟩))
 ·obtain⟨a,t,rfl,h1,h⟩:=n1 ek;obtain rfl:=n0 h;obtain⟨x,rfl⟩:=fW h1;exact .inr (.inr (.inr ⟨by simp,[x],by simp,rfl⟩))
 ·obtain⟨a,t,rfl,h1,h⟩:=n1 ek;obtain rfl:=n0 h;obtain⟨d,rfl⟩:=Cp h1;exact .inr (.inl ⟨by simp,[],d,∅,rfl⟩)
 ·obtain⟨a,t,rfl,h1,h⟩:=n1 ek;obtain⟨c,t,rfl,h2,h⟩:=n1 h;obtain rfl:=n0 h;obtain⟨x,rfl⟩:=fW h1;obtain⟨d,rfl⟩:=Cp h2;exact .inr (.inl ⟨by simp,[x],d,by simp,rfl⟩)
 ·obtain rfl:=n0 ek;exact .inr (.inr (.inr ⟨by simp,[],∅,rfl⟩))
 ·obtain⟨a,t,rfl,h1,h⟩:=n1 ek;obtain rfl:=n0 h;obtain⟨d,rfl⟩:=CV h1;exact .inr (.inl ⟨by simp,[],d,∅,rfl⟩)
 ·obtain⟨a,t,rfl,h1,h⟩:=n1 ek;obtain⟨c,t,rfl,h2,h⟩:=n1 h;obtain rfl:=n0 h;obtain⟨x,rfl⟩:=fW h1;obtain⟨d,rfl⟩:=CV h2;exact .inr (.inl ⟨by simp,[x],d,by simp,rfl⟩)
 ·obtain⟨a,t,rfl,h1,h⟩:=n1 ek;obtain rfl:=n0 h;obtain⟨n,rfl⟩:=L9 h1;exact .inl ⟨rfl,n,rfl⟩
structure uu (K:Ja)(H:Hp)(lp:Gc)(F:Fb):Prop where
 ex:qM fun r1 r2 r3=>bA K H lp [r1,r2,r3,.int (F.near:Nat),.int (F.eP:Nat)]/\aV K H [aO F.b1,aO F.b2,aO F.b3] [r1,r2,r3]
def uu.same {K:Ja}{H H':Hp}{lp:Gc}{F:Fb}(h:uu K H lp F)(s:av H H'):uu K H' lp F:=by
 obtain⟨r1,r2,r3,h1,h2⟩:=h.ex;exact⟨r1,r2,r3,s.seq h1,h2.same s⟩
def Nw (K:Ja):Sp:=fun vs H Q _=>zg fun(lp p:Gc) (F:Fb) (w:Str) (as:List Arg)=>vs=[.ref lp,.ref p]/\uu K H lp F/\sE F/\sW w as/\bG K H p (.str w::as.map Arg.v)/\∀H',av H H'->Q (HY (dA F w as)) H'
def vg {K:Ja}{H:Hp}{bk:List (Str×Str)}{v:V}(h:Den K H (aO bk) v):∃(p:Gc) (as:List Gc),v = .ref p/\bA K H p (as.map V.ref)/\as.length=(fg bk).length/\∀(j:Nat) b (kv:Key×V),as[j]? = some b->(fg bk)[j]? = some kv->bG K H b [kV kv.1,kv.2]:=by
 unfold aO Den at h;obtain⟨a,us,rfl,hS,hd⟩:=h;obtain⟨as,rfl,al,hT⟩:=wO hd;exact⟨a,as,rfl,hS,by unfold fg;rw[Jc];exact al,hT⟩
def u7 (bk:List (Str×Str)):(fg bk).length=bk.length:=by unfold fg;rw[Jc]
section
variable {P:Qaf}{w:Qah}{K:Ja}{mg:Str->Option Fk}{base:Heap}{f:Gc}{fd:Qad}
def cq:aA ["_law_parts_here", "_law_bare", "_law_kinds_here", "_law_spots", "_law_word", "_law_text", "_law_many", "_law_half", "_law_size"] ["_law_parts_here", "_law_bare"] (ak (top ow)):=⟨rfl,rfl,rfl,∅,rfl,∅,∅⟩
def Rj (F:bM K "_law_put" "_law_put" (top ow) f fd)(T:Nm mg)(cR:mg "dict" = none)(jP:Fn P w K mg base 1 "_law_sizes" [] (pR bB))(gQ:Fn P w K mg base 1 "_law_figures" ["_law_number", "_law_many"] qo)(cc:Fn P w K mg base 1 "_law_power" ["_law_many"] kC)(gw:Fn P w K mg base 1 "_law_far_word" ["_law_word"] wc):aW P w K mg base d7 2 f fd ["_law_parts_here", "_law_bare"] (Nw K):=by
 refine F.ok cq (fun vs H Q E h =>?_) (fun cQ A outer s H vs Q E hr h =>?_)
 ·obtain⟨lp,p,Fo,wd,as,rfl,_⟩:=h
  rfl
 obtain⟨lp,p,Fo,wd,args,rfl,hP,fr,ba,hp,q⟩:=h;have hu:=mn hr;have d6:=hr.units;have small:∀{n:Nat},n<=10000->n<=Wp:=fun h=>Jh h ∅;obtain⟨r1,r2,r3,hl,hD⟩:=hP.ex;have l1:Fo.b1.length=11:=fr.g.l1;have l2:Fo.b2.length=4:=fr.g.l2;have l3:Fo.b3.length=9:=fr.g.l3;have nd1:(Fo.b1.map (·.1)).Nodup:=fr.g.n1.nodup_iff.mpr cM;have nd2:(Fo.b2.map (·.1)).Nodup:=fr.n2.nodup_iff.mpr OW.nd;have nd3:(Fo.b3.map (·.1)).Nodup:=fr.n3.nodup_iff.mpr NC.nd;obtain⟨qq,hqq,ew,ek⟩:=ba.pt;have Qj:wd∈Fo.b1.map (·.1):=fr.g.n1.mem_iff.mpr (by rw[ew];exact(gz qq hqq).1);refine⟨_,(af (j1 (eN (aa (bh (BS K rfl) rfl cR (by rfl) (aa (bJ (kq K) (pv 0) ai (fun _ _=>rfl)) ae)) (aa (bh (BS K rfl) rfl cR (by rfl) (aa (bJ (kq K) (pv 0) ai (fun _ _=>rfl)) ae)) ae))) (tupK K 2 rfl (aM (aD (i:=2) cq.nd rfl (Qag rfl)) (aM (aD (i:=3) cq.nd rfl (Qf9 rfl)) bU))))
  (af (aE (i:=4) cq.nd rfl (Qag rfl) (bJ (kq K) (pv 1) ai (fun _ _=>rfl)))
  (af (aE (i:=5) cq.nd rfl (Qag rfl) (bO hu (pv 2) (pv 4) (fun _ _=>rfl)))
  (af (aY (aG (qd K d6) (pv 4) ax (aK _)) (ag (ar (aB cu (aB cu (pv 5) (aH (gQ.mono ∅) hr rfl (aa (bJ (kq K) (pv 1) ai (fun _ _=>rfl)) (aa ai ae)))) (aB To ax (bJ (kq K) (pv 1) ai (fun _ _=>rfl)))))) aF)
  (af (aY (aG (XO K) (pv 4) (eN (aa ax (aa ax (aa ax (aa ax ae))))) (by with_unfolding_all rfl)) (af (aE (i:=6) cq.nd rfl (Qag rfl) (bJ (kq K) (pv 0) (aB cu ai (bh tK rfl T.n_int (by rfl) (aa (aH (gw.mono ∅) hr rfl (aa (pv 4) ae)) ae))) (fun _ _=>rfl)))
  (af (aE (i:=7) cq.nd rfl (Qag rfl) (aH (cc.mono ∅) hr rfl (aa (aB cn (pv 6) ai) ae)))
  (af (aY (PW.pt (jg (aG kB (bJ (kq K) (pv 1) (oG jv ai) (fun _ _=>rfl)) (aB cn ai (pv 7)) (aK _)) (gR (aG Gg (bJ (kq K) (pv 1) (oG jv ai) (fun _ _=>rfl)) (pv 7) (aK _))))) (ag (ar bR)) aF)
  (ag (ar (aB cu (aB cu (pv 5) (xg K QaC Qci Qch (Cg K) ax (aa (gE rfl (dS (Nc:=["_law_spot"]) (Fc:=["_law_spots"]) (js:=[3])) (gO K (dN (P2 K) (pv 1) (cX ai) (cX (oG jv ai)))) (cf (i:=0) (n:=1) ∅) (fun _ _ _ _ _=>(aD (i:=0) (zd ["_law_spot", "_law_spots"]) rfl (Qag rfl))) (fun _ _ _ _ _=>eF) (fun _ _ _ _ _=>(bO hu (pv 1) (pv 0) (fun _ _=>rfl)))) ae))) (aH (gQ.mono ∅) hr rfl (aa (aB cu (bJ (kq K) (pv 1) (oG jv ai) (fun _ _=>rfl)) (aB rD ai (pv 7))) (aa (pv 6) ae))))))))) aF)
  (af (aY (aG (qd K d6) (pv 4) ax (aK _)) (af (aE (i:=8) cq.nd rfl (Qag rfl) ai)
  (af (rJ Qaz (aG oM (aH (cc.mono ∅) hr rfl (aa (pv 8) ae)) (bJ (kq K) (pv 1) ai (fun _ _=>rfl)) (aK _)) (ag (aE (i:=8) cq.nd rfl (Qag rfl) (aB cu (pv 8) ai))))
  (af (aE (i:=5) cq.nd rfl (Qag rfl) (aB cu (aB cu (pv 5) (bO hu (pv 3) (bJ (kq K) (pv 1) ai (fun _ _=>rfl)) (fun _ _=>rfl))) (bO hu (bh (BS K rfl) rfl cR (by rfl) (aa (bJ (kq K) (pv 0) ai (fun _ _=>rfl)) ae)) (bJ (kq K) (AG (jP.mono (by first|decide|exact Je _|lia)) hr rfl) (pv 8) (fun _ _=>rfl)) (fun _ _=>rfl))))
  (ag (ar (aB cu (pv 5) (aH (gQ.mono ∅) hr rfl (aa (bJ (kq K) (pv 1) ai (fun _ _=>rfl)) (aa (aq (DM rfl) rfl T.n_max (by rfl) (aa ai (aa (aB cn (pv 8) ai) ae))) ae))))))))) aF)
  (ag (ar (aB cu (pv 5) (xg K QaC Qci Qch (Cg K) ax (aa (gE rfl (dS (Nc:=["_law_spot"]) (Fc:=["_law_spots"]) (js:=[3])) (gO K (dN (P2 K) (pv 1) (cX ai) je)) (cf (i:=0) (n:=1) ∅) (fun _ _ _ _ _=>(aD (i:=0) (zd ["_law_spot", "_law_spots"]) rfl (Qag rfl))) (fun _ _ _ _ _=>eF) (fun _ _ _ _ _=>(bO hu (pv 1) (pv 0) (fun _ _=>rfl)))) ae))))))))))),?_⟩
 obtain⟨a1,as1,rfl,sq1,al1,FL⟩:=vg (lj (j:=0) hD rfl rfl);refine⟨_,rfl,.inl ⟨lp,_,0,.ref a1,rfl,rfl,hl,rfl,a1,as1,fg Fo.b1,rfl,sq1,al1,by rw[u7,l1];decide,FL,fun d1 H1 n1 =>?_⟩⟩;rw[fq nd1] at n1;obtain⟨a2,as2,rfl,sq2,TN,hT2⟩:=vg ((lj (j:=1) hD rfl rfl).same n1.same);refine⟨_,rfl,.inl ⟨lp,_,1,.ref a2,rfl,rfl,n1.same.seq hl,rfl,a2,as2,fg Fo.b2,rfl,sq2,TN,by rw[u7,l2];decide,hT2,fun d2 H2 n2 =>?_⟩⟩;rw[fq nd2] at n2;refine⟨by show 2<=Wp;decide,fun t3 H3 n3=>⟨t3,_,rfl,bG.of n3.at,rfl,_,_,rfl,_,_,rfl,rfl,?_⟩⟩;have s3:=n1.same.trans (n2.same.trans n3.same);have h1:=n3.same _ _ (n2.same _ _ n1.at);have h2:=n3.same _ _ n2.at;have gd1:dJ H3 d1 (.str wd) (some (.str (aU Fo.b1 wd))):=by
  rw[<-gh Qj];exact dJ.k (k := .inr wd) h1
 have gd2:∀{Hx:Hp} {x:Str},av H3 Hx->x∈bS->dJ Hx d2 (.str x) (some (.str (aU Fo.b2 x))):=fun s hx=>by
  rw[<-gh (fr.n2.mem_iff.mpr hx)];exact dJ.k (k := .inr _) (s _ _ h2)
 have Kw:=s3.cL hp;have c1:=fr.c1 wd;refine⟨_,rfl,.inr (.inl ⟨p,_,0,.str wd,rfl,rfl,Kw,kZ (QdV 0) rfl,gn ?_⟩)⟩;refine⟨_,rfl,_,rfl,d1,_,rfl,gd1,gn ?_⟩
 rcases ba.cls with ⟨rfl,n,rfl⟩|⟨hw,xs,d,xl,rfl⟩|⟨rfl,x,n,rfl⟩|⟨hw,xs,xl,rfl⟩
 ·-- skip
  refine⟨_,rfl,.inl ⟨rfl,_,rfl,wu ?_⟩⟩;have hn:n<=7:=ba.ok _ (Jz.mpr rfl);have ml:∀n,n<=7->(QdY (Qaa "0") ((n:Nat):Int)).length<=10:=∅;have ml:=ml n hn;have fl:=di n 3;refine⟨_,rfl,_,rfl,.inr (.inl ⟨p,_,1,.int (n:Nat),rfl,rfl,Kw,rfl,n,3,rfl,∅,fun H4 s4 =>?_⟩)⟩;refine .inr (.inl ⟨_,_,rfl,rfl,small ⋯,?_⟩);refine⟨_,rfl,.inr (.inl ⟨p,_,1,.int (n:Nat),rfl,rfl,s4.cL Kw,rfl,.inr ⟨_,_,rfl,rfl,oH ∅ ⋯ ⋯,?_⟩⟩)⟩;refine .inr (.inl ⟨_,_,rfl,rfl,small (by rw[Qbg];lia),?_⟩);have q:=q H4 (s3.trans s4);have e:dA Fo "skip" [.ma n]=some (aU Fo.b1 "skip" ++ dC n 3++QdY (Qaa "0") (n:Nat)):=by
   show some (Qa0 "" [aU Fo.b1 "skip",dC n 3++QdY (Qaa "0") (n:Nat)])=_;rw[join_cons,join_cons,join_nil,vi,vV]
  rw[e] at q;exact q
 ·-- jumps
  have YF:∀w∈dG,(w == "skip")=false/\dG.contains w=true:=∅;obtain⟨k1,k2⟩:=YF _ hw;refine⟨_,rfl,.inl ⟨rfl,_,rfl,fO ?_ k1⟩⟩;dsimp only[bK];refine⟨_,rfl,by show 4<=Wp;decide,fun t4 H4 n4=>⟨t4,dG.map V.str,rfl,.inr (bG.of n4.at),rfl,?_,_,rfl,Vk ?_ k2⟩⟩
  ·rfl
  obtain⟨kk,ekk⟩:∃kk:Nat,kk=if mz wd=true then Fo.eP else Fo.near:=⟨_,rfl⟩
  have nr:=fr.nr;have ff:=fr.fr;have kb:2<=kk/\kk<=16:=by rw[ekk];split<;>lia
  have s4:=s3.trans n4.same;refine⟨_,rfl,_,rfl,wd,rfl,fun H5 s5 =>.inr ⟨mz wd,rfl,.inl ⟨_,_,rfl,rfl,.inl ⟨lp,_,_,.int (kk:Nat),rfl,rfl,(s4.trans s5).seq hl,?_,gn ?_⟩⟩⟩⟩
  ·rw[ekk];cases mz wd<;>rfl
  refine⟨_,rfl,_,_,rfl,rfl,kk-1,?_,⋯,gn ?_⟩
  ·show[V.int ((kk:Int)-1)]=[V.int ((kk-1:Nat):Int)]
   rw[show(kk:Int)-1=((kk-1:Nat):Int) by lia]
  have Zy:=s5 _ _ (n4.same _ _ h2);have s5:=s4.trans s5;have dk:d.natAbs<=1000000:=by
   have:=ba.ok (cP wd d) (Jv _ (Jz.mpr rfl));unfold cP at this
   split at this<;>exact this
  have ev:(cP wd d).v = .int d:=by unfold cP;split<;>rfl
  have eL:(xs.map Arg.sp++[cP wd d]).map Arg.v=xs.map V.str++[.int d]:=by rw[J4,Yn,J3,ev];rfl
  have UQ:=s5.cL hp;rw[eL] at UQ;have aL:=Iy (V.str wd) (V.int d) (xs.map V.str);have q0:inD d kk=false->∀H',av H H'->Q .non H':=fun c H' s'=>by
   have q:=q H' s';have e:dA Fo wd (xs.map Arg.sp++[cP wd d])=none:=by
    have ea:dR Fo (cP wd d)=none:=by
     have:dR Fo (cP wd d)=jU d kk:=by
      rw[ekk];unfold cP;cases mz wd<;>rfl
     rw[this];unfold jU;rw[c];rfl
    unfold dA;rw[nM ea (Jv _ (Jz.mpr rfl))];rfl
   rw[e] at q;exact q
  refine⟨_,rfl,_,rfl,.inr (.inl ⟨p,_,-1,.int d,rfl,rfl,UQ,aL,_,rfl,_,_,rfl,rfl,_,_,rfl,rfl,_,rfl,?_⟩)⟩;refine gj (fun c=>bN (q0 ?_ _ s5)) (fun c =>?_)
  ·have c:d<0-2^(kk-1):=of_decide_eq_true c;unfold inD;rw[decide_eq_false ⋯,Yv]
  have c1':¬d<0-2^(kk-1):=fun z=>c (decide_eq_true z);refine⟨_,rfl,_,rfl,.inr (.inl ⟨p,_,-1,.int d,rfl,rfl,UQ,aL,_,rfl,_,_,rfl,rfl,_,rfl,?_⟩)⟩;refine gj (fun c=>q0 ?_ _ s5) (fun c =>?_)
  ·have c:2^(kk-1)<=d:=of_decide_eq_true c;unfold inD;rw[decide_eq_false (p:=d<2^(kk-1)) ⋯,Bool.and_false]
  have c2':¬ 2^(kk-1)<=d:=fun z=>c (decide_eq_true z);have cin:inD d kk=true:=by
   unfold inD;rw[decide_eq_true ⋯,decide_eq_true ⋯];rfl
  dsimp only[bK];refine⟨_,rfl,rfl,_,rfl,1,rfl,_,rfl,-1,rfl,p,_,rfl,UQ,?_,fun p6 H6 n6 =>?_⟩
  ·rintro⟨z,_⟩;have:HT.eg (V.str wd::(xs.map V.str++[V.int d])).length 0 (some 1)=1:=by
    show HT.eg _ 0 (some ((1:Nat):Int))=1;rw[HT.kg,Jr];lia
   rw[this] at z;exact absurd z ∅
  rw[K9] at n6;have s6:=s5.trans n6.same;refine⟨p6,rfl,⟨_,bG.of n6.at⟩,?_⟩;refine fc (N:=xs.length) (fun i ys H'=>H'=H6/\ys=((xs.take i).map (aU Fo.b2)).map V.str) ⟨rfl,rfl⟩ ?_ ?_
  ·rintro i ys H7 Ny hi ⟨rfl,rfl⟩ ny;have hv:(xs.map V.str)[i]? = some (.str xs[i]):=by rw[Jk,Jd hi];rfl
   refine⟨⟨_,_,bG.of n6.at,hv⟩,Ub (show _<=100 by rw[Jc,Jc,Uo];lia) ∅,?_⟩;rintro x' H8 ⟨rfl,hy⟩;have e:=hy _ (bG.of n6.at);rw[hv] at e;cases e;have ZQ:xs[i]∈bS:=ba.ok (.sp xs[i]) (Yh _ (Y8 (Um hi)));have hd8:dJ H8 d2 (.str xs[i]) (some (.str (aU Fo.b2 xs[i]))):=by
    rw[<-gh (fr.n2.mem_iff.mpr ZQ)];refine dJ.k (k := .inr _) (n6.same _ _ ?_);exact Zy
   refine gn ⟨_,rfl,_,rfl,d2,_,rfl,hd8,ny _ _ ⟨rfl,?_⟩⟩;rw[eT hi,J4,J4];rfl
  ·rintro ys H7 ⟨rfl,rfl⟩;rw[Ym];refine⟨⟨_,bG.of n6.at,by rw[Jc];exact Je _⟩,fun pv hpv =>?_⟩;have jl:=fr.sum xs;refine⟨_,pv,xs.map (aU Fo.b2),rfl,rfl,bA.of au,?_,?_⟩
   ·show((xs.map (aU Fo.b2)).map fun x=>x.length).sum+_*0<=16777216;lia
   have jl2:=mE (xs.map (aU Fo.b2));refine .inr (.inl ⟨_,_,rfl,rfl,small ⋯,?_⟩);have s7:=s6.trans (bI hpv (.lst ((xs.map (aU Fo.b2)).map V.str)));have hp7:=s7.cL hp;rw[eL] at hp7;have p2:(2:Int)^kk=2*2^(kk-1):=by
    rw[show kk=(kk-1)+1 by lia,Qcm,QcQ];rfl
   have pp:(0:Int)<2^(kk-1):=QeK ∅;refine⟨_,rfl,_,rfl,.inr (.inl ⟨p,_,-1,.int d,rfl,rfl,hp7,aL,_,rfl,.inl ⟨_,_,rfl,rfl,.inl ⟨∅,∅⟩,.inl ⟨_,_,rfl,rfl,_,rfl,(d+2^kk).toNat,kk,?_,⋯,fun H8 s8 =>?_⟩⟩⟩)⟩
   ·show[V.int (d+2*2^(kk-1)),V.int (kk:Nat)]=_;rw[Qd7 ⋯,p2]
   have fl:=di (d+2^kk).toNat kk;refine .inr (.inl ⟨_,_,rfl,rfl,small (by rw[Qbg];lia),?_⟩);have q:=q H8 (s7.trans s8);have e:dA Fo wd (xs.map Arg.sp++[cP wd d])=some (aU Fo.b1 wd++Qa0 "" (xs.map (aU Fo.b2))++dC (d+2^kk).toNat kk):=by
    have ea:dR Fo (cP wd d)=some (dC (d+2^kk).toNat kk):=by
     rw[<-Hm ⋯ cin,ekk];unfold cP;cases mz wd<;>rfl
    unfold dA;rw[my];have:bT Fo [cP wd d]=some [dC (d+2^kk).toNat kk]:=by
     show(match dR Fo (cP wd d) with|none=>none|some x=>(some []).map (x :: ·))=_;rw[ea];rfl
    rw[this];show some (Qa0 "" (aU Fo.b1 wd::(xs.map (aU Fo.b2)++[dC (d+2^kk).toNat kk])))=_;rw[join_cons,Hq,join_cons,join_nil,vi,vV]
   rw[e] at q;exact q
 ·-- set
  refine⟨_,rfl,.inl ⟨rfl,_,rfl,fO ?_⟩⟩;dsimp only[bK];refine⟨_,rfl,by show 4<=Wp;decide,fun t4 H4 n4=>⟨t4,dG.map V.str,rfl,.inr (bG.of n4.at),rfl,rfl,_,rfl,inF ?_⟩⟩;dsimp only[bK];refine⟨_,rfl,.inl ⟨rfl,_,rfl,wu ?_⟩⟩;have hx:x∈bS:=ba.ok _ Jo;have hn:n<=255:=ba.ok _ (Jl _ Jo);have hb:=Bp hn;have c2:=fr.c2 x;obtain⟨z,hz⟩:∃z,bB[cW n]? = some z:=⟨_,Jd (show cW n<9 by lia)⟩
  have ez:bB.getD (cW n) Qat=z:=by rw[U5,hz];rfl
  have c3:=fr.c3 z;have hzm:z∈Fo.b3.map (·.1):=fr.n3.mem_iff.mpr (Jy hz);refine gn ?_;dsimp only;refine fJ (t:=rO _ _) (fun σ H' =>σ=[some (.ref lp),some (.ref p),some (.ref d1),some (.ref d2),some (.str "set"),some (.str (aU Fo.b1 "set")),none,none,some (.int (cW n:Nat))]/\H'=H4) (fun Nx nx =>?_) ?_
  ·refine vN (fun m σ H'=>∃k:Nat,m=cW n-k/\k<=cW n /\ σ=[some (.ref lp),some (.ref p),some (.ref d1),some (.ref d2),some (.str "set"),some (.str (aU Fo.b1 "set")),none,none,some (.int (k:Nat))]/\H'=H4) ⟨_,0,rfl,Uw _,rfl,rfl⟩ ?_;rintro m σ H5 ⟨k,rfl,hk,rfl,rfl⟩;refine⟨_,rfl,k,rfl,⋯,?_⟩;refine⟨_,rfl,.inr (.inl ⟨p,_,2,.int (n:Nat),rfl,rfl,n4.same.cL Kw,rfl,_,_,rfl,rfl,_,rfl,?_⟩)⟩;have e2:(2:Int)^k<=(n:Nat)↔k<cW n:=by
    rw[<-OS];have:(2:Int)^k=((2^k:Nat):Int):=by push_cast;rfl
    lia
   refine gj (fun c =>?_) (fun c =>?_)
   ·have c:=e2.mp (of_decide_eq_true c);refine⟨fun σ' H'=>∃m',m'<cW n-k/\_,fun _ _ h=>h,?_⟩;exact⟨_,rfl,.inl ⟨_,_,rfl,rfl,cW n-(k+1),⋯,k+1,rfl,⋯,rfl,rfl⟩⟩
   ·have c:¬k<cW n:=fun y=>c (decide_eq_true (e2.mpr y));have:k=cW n:=by lia
    subst this;exact nx _ _ ⟨rfl,rfl⟩
  rintro σ H5 ⟨rfl,rfl⟩;have s4:=s3.trans n4.same;have Sf:=n4.same.cL Kw;refine⟨_,rfl,_,rfl,_,rfl,.inr (.inl ⟨p,_,1,.str x,rfl,rfl,Sf,rfl,d2,_,rfl,gd2 n4.same hx,?_⟩)⟩;refine .inr (.inl ⟨_,_,rfl,rfl,small ⋯,?_⟩);obtain⟨a3,as3,rfl,sq3,al3,hT3⟩:=vg ((lj (j:=2) hD rfl rfl).same s4);refine⟨_,rfl,.inl ⟨lp,_,2,.ref a3,rfl,rfl,s4.seq hl,rfl,a3,as3,fg Fo.b3,rfl,sq3,al3,by rw[u7,l3];decide,hT3,fun d3 H6 n6 =>?_⟩⟩;rw[fq nd3] at n6;refine⟨rfl,fun ps H7 n7=>⟨_,rfl,.inl ⟨ps,_,_,.str z,rfl,rfl,bA.of n7.at,mV (by rw[Jk];show(bB[cW n]?).map V.str=_;rw[hz];rfl),d3,_,rfl,by rw[<-gh hzm];exact dJ.k (k := .inr z) (n7.same _ _ n6.at),?_⟩⟩⟩;refine .inr (.inl ⟨_,_,rfl,rfl,small (by rw[Qbg];lia),gn ?_⟩);have s7:=s4.trans (n6.same.trans n7.same);have em:(if ((cW n:Nat):Int)-1>0 then ((cW n:Nat):Int)-1 else 0)=((cW n-1:Nat):Int):=by split<;>lia
  refine⟨_,rfl,_,rfl,.inr (.inl ⟨p,_,2,.int (n:Nat),rfl,rfl,s7.cL hp,rfl,_,rfl,_,_,rfl,rfl,0,_,rfl,n,cW n-1,(by show[V.int ((n:Nat):Int),V.int (if ((cW n:Nat):Int)-1>0 then ((cW n:Nat):Int)-1 else 0)]=_;rw[em]),⋯,fun H8 s8 =>?_⟩)⟩;have fl:=di n (cW n-1);refine .inr (.inl ⟨_,_,rfl,rfl,small (by rw[Qbg,Qbg];lia),?_⟩);have q:=q H8 (s7.trans s8);have e:dA Fo "set" [.sp x,.nu n]=some (aU Fo.b1 "set" ++ aU Fo.b2 x++aU Fo.b3 z++dC n (cW n-1)):=by
   show some (Qa0 "" [aU Fo.b1 "set",aU Fo.b2 x,aU Fo.b3 (bB.getD (cW n) Qat)++QaT (dC n (cW n)) (some 1) none])=_;rw[join_cons,join_cons,join_cons,join_nil,vi,ez,E9,vV,vV]
  rw[e] at q;exact q
 ·-- the others
  have YF:∀w∈MX,(w == "skip")=false/\dG.contains w=false/\(w == "set")=false:=∅;obtain⟨k1,k2,k3⟩:=YF _ hw;refine⟨_,rfl,.inl ⟨rfl,_,rfl,fO ?_ k1⟩⟩;dsimp only[bK];refine⟨_,rfl,by show 4<=Wp;decide,fun t4 H4 n4=>⟨t4,dG.map V.str,rfl,.inr (bG.of n4.at),rfl,?_,_,rfl,inF ?_ k2⟩⟩
  ·rfl
  dsimp only[bK];refine⟨_,rfl,.inl ⟨rfl,_,rfl,fO ?_ k3⟩⟩;dsimp only[bK];have s4:=s3.trans n4.same;refine⟨_,rfl,rfl,_,rfl,1,rfl,p,_,rfl,s4.cL hp,?_,fun p5 H5 n5 =>?_⟩
  ·rintro⟨z,_⟩;have:HT.eg (V.str wd::(xs.map Arg.sp).map Arg.v).length 0 (some 1)=1:=by
    show HT.eg _ 0 (some ((1:Nat):Int))=1;rw[HT.kg,Jr];lia
   rw[this] at z;exact absurd z ∅
  rw[show(1:Int)=((1:Nat):Int) from rfl,yU] at n5;have e5:(V.str wd::(xs.map Arg.sp).map Arg.v).drop 1=xs.map V.str:=by rw[List.drop_succ_cons,QcU,Yn];rfl
  rw[e5] at n5;have s5:=s4.trans n5.same;refine⟨p5,rfl,⟨_,bG.of n5.at⟩,?_⟩;refine fc (N:=xs.length) (fun i ys H'=>H'=H5/\ys=((xs.take i).map (aU Fo.b2)).map V.str) ⟨rfl,rfl⟩ ?_ ?_
  ·rintro i ys H6 Ny hi ⟨rfl,rfl⟩ ny;have hv:(xs.map V.str)[i]? = some (.str xs[i]):=by rw[Jk,Jd hi];rfl
   refine⟨⟨_,_,bG.of n5.at,hv⟩,Ub (show _<=100 by rw[Jc,Jc,Uo];lia) ∅,?_⟩;rintro x' H7 ⟨rfl,hy⟩;have e:=hy _ (bG.of n5.at);rw[hv] at e;cases e;have ZQ:xs[i]∈bS:=ba.ok (.sp xs[i]) (Y8 (Um hi));refine gn ⟨_,rfl,_,rfl,d2,_,rfl,gd2 (n4.same.trans n5.same) ZQ,ny _ _ ⟨rfl,?_⟩⟩;rw[eT hi,J4,J4];rfl
  ·rintro ys H6 ⟨rfl,rfl⟩;rw[Ym];refine⟨⟨_,bG.of n5.at,by rw[Jc];exact Je _⟩,fun pv hpv =>?_⟩;have jl:=fr.sum xs;refine⟨_,pv,xs.map (aU Fo.b2),rfl,rfl,bA.of au,?_,?_⟩
   ·show((xs.map (aU Fo.b2)).map fun x=>x.length).sum+_*0<=16777216;lia
   have jl2:=mE (xs.map (aU Fo.b2));refine .inr (.inl ⟨_,_,rfl,rfl,small ⋯,?_⟩);have q:=q _ (s5.trans (bI hpv (.lst ((xs.map (aU Fo.b2)).map V.str))));have e:dA Fo wd (xs.map Arg.sp)=some (aU Fo.b1 wd++Qa0 "" (xs.map (aU Fo.b2))):=by
    have:=my (F:=Fo) xs [];rw[Uv] at this;unfold dA;rw[this];show some (Qa0 "" (aU Fo.b1 wd::(xs.map (aU Fo.b2)++[])))=_;rw[Uv,join_cons]
   rw[e] at q;exact q
end
structure qt (bk:List (Str×Str)):Prop where
 le:bk.length<=11
 fr:fE (bk.map (·.2))
 cd:∀q∈bk,1<=q.2.length/\q.2.length<=11
def iI (bk:List (Str×Str)):List (Key×V):=bk.map fun q=>(.inr q.2,.str q.1)
def qt.Vs {bk:List (Str×Str)}(g:qt bk){i j:Nat}{q r:Str×Str}(hq:bk[i]? = some q)(hr:bk[j]? = some r){t:List Nat}(h1:sg q.2 <+: t)(h2:sg r.2 <+: t):i=j:=by
 obtain⟨hi,rfl⟩:=Jq.mp hq;obtain⟨hj,rfl⟩:=Jq.mp hr;have pw:∀a b (ha:a<bk.length) (hb:b<bk.length),a<b->RF bk[a].2 bk[b].2:=fun a b ha hb uz=>by
  have:=U0.mp g.fr a b (by rw[Jc];exact ha) (by rw[Jc];exact hb) uz;rwa[Y1,Y1] at this
 rcases Qcq h1 h2 with z|z
 ·rcases Nat.lt_trichotomy i j with h|h|h
  ·exact absurd z (pw i j hi hj h).1
  ·exact h
  ·exact absurd z (pw j i hj hi h).2
 ·rcases Nat.lt_trichotomy i j with h|h|h
  ·exact absurd z (pw i j hi hj h).2
  ·exact h
  ·exact absurd z (pw j i hj hi h).1
def Ak {α:Type}{f: α->Key×V}{k:Key}:∀{l:List α},(∀y∈l,(f y).1≠k)->dI (l.map f) k=none
 | [],_=>rfl
 | y::l,h=>by
  rw[J3,bW (h y Jo)];exact Ak fun z hz=>h z (Jl _ hz)
def qt.code {bk:List (Str×Str)}(g:qt bk){i:Nat}{q:Str×Str}(hq:bk[i]? = some q):dI (iI bk) (.inr q.2)=some (.str q.1):=by
 have key:∀(l:List (Str×Str)),(∀r∈l,r.2=q.2->r=q)->q∈l->dI (l.map fun q=>((Qa8 q.2:Key),V.str q.1)) (.inr q.2)=some (.str q.1):=by
  intro l
  induction l with
  | nil=>exact fun _ h=>nomatch h
  | cons y l ih=>
   intro hu hx;rw[J3]
   by_cases e:y.2=q.2
   ·rw[cE (by rw[e]),hu y Jo e]
   ·rw[bW (fun z=>e (QcR z))];exact ih (fun r hr=>hu r (Jl _ hr)) ((Jx.mp hx).resolve_left fun z=>e (by rw[z]))
 refine key bk (fun r hr e =>?_) (Jy hq);obtain⟨j,hj⟩:=Uk.mp hr;have:=g.Vs hj hq (t:=sg q.2) (by rw[e];exact Qdl _) (Qdl _);subst this;rw[hq] at hj;exact(Qap hj).symm
def j0 (H:Hp)(v:V)(bk:List (Str×Str)):Prop:=tG fun(tp d lp:Gc) (ls:List Int)=>v = .ref tp/\H tp=some (.tup [.ref d,.ref lp])/\H d=some (.dK (iI bk))/\H lp=some (.lst (ls.map V.int))/\∀n,n∈ls ↔ ∃q∈bk,((q.2.length:Nat):Int)=n
def j0.same {H H':Hp}{v:V}{bk:List (Str×Str)}(h:j0 H v bk)(s:av H H'):j0 H' v bk:=by
 obtain⟨tp,d,lp,ls,e,h1,h2,h3,h4⟩:=h;exact⟨tp,d,lp,ls,e,s _ _ h1,s _ _ h2,s _ _ h3,h4⟩
def zF (K:Ja):Sp:=fun vs H Q _=>eZ fun(w:V) (bk:List (Str×Str))=>vs=[w]/\Den K H (LU (aO bk)) w/\qt bk/\∀v H',av H H'->j0 H' v bk->Q v H'
def Ah (t:Str)(p:Nat)(x:Str):Prop:=p<=t.length/\t.length<=1000000/\∃z,(sg t).drop p=sg x++z
def Im {x:Str}{p q:Nat}(h1:p<=q)(h2:p<=x.length):sg (QaT x (some (p:Int)) (some (q:Int)))=((sg x).drop p).take (q-p):=by
 by_cases hq:q<=x.length
 ·have e:=Qef (x:=x) (i:=p) (j:=q) ⟨⋯,⋯,by rw[<-str_len];lia⟩;rw[eq_of_beq e];show(((sg x).drop (p:Int).toNat).take ((q:Int)-p).toNat).toArray.toList=_;rw[Qd0,Ut,show((q:Int)-p).toNat=q-p by lia]
 ·have e:=Qef (x:=x) (i:=p) (j:=(x.length:Int)) ⟨⋯,⋯,by rw[<-str_len];lia⟩;have ov:QbO (some (p:Int)) (some (q:Int)) 1 x.length=QbO (some (p:Int)) (some ((x.length:Nat):Int)) 1 x.length:=by
   unfold QbO;dsimp only
   congr 1
   rw[if_neg (show ¬(q:Int)<0 by lia),if_neg (show ¬((x.length:Nat):Int)<0 by lia)];lia
  have e2:QaT x (some (p:Int)) (some (q:Int))=QaT x (some (p:Int)) (some ((x.length:Nat):Int)):=by
   unfold QaT;rw[ov]
  rw[e2,eq_of_beq e];show(((sg x).drop (p:Int).toNat).take ((x.length:Int)-p).toNat).toArray.toList=_;rw[Qd0,U7,U7]
  ·rfl
  ·rw[Yt,<-str_len];lia
  ·rw[Yt,<-str_len];lia
def Ah.take {t x:Str}{p:Nat}(h:Ah t p x):sg (QaT t (some (p:Int)) (some ((p:Int)+(x.length:Nat))))=sg x:=by
 obtain⟨h1,h2,z,e⟩:=h;rw[show((p:Int)+(x.length:Nat))=((p+x.length:Nat):Int) by lia,Im (Us _ _) h1,e,Nat.add_sub_cancel_left,QeI];exact(str_len x).symm
section
variable {P:Qaf}{w:Qah}{K:Ja}{mg:Str->Option Fk}{base:Heap}{f:Gc}{fd:Qad}
def wG:aA ["book"] ["book"] (ak (top jL)):=⟨rfl,rfl,rfl,∅,rfl,∅,∅⟩
def Lp (F:bM K "lookup_of" "lookup_of" (top jL) f fd)(T:Nm mg)(gq:mg "sorted" = none):aW P w K mg base d7 1 f fd ["book"] (zF K):=by
 refine F.ok wG (fun vs H Q E h =>?_) (fun cQ A outer s H vs Q E hr h =>?_)
 ·obtain⟨l,bk,rfl,_⟩:=h
  rfl
 obtain⟨w0,bk,rfl,hB,g,q⟩:=h;have d6:=hr.units;refine⟨_,(ag (ar (eN (aa (JD rfl (dS (Nc:=["name", "code"]) (Fc:=[]) (js:=[])) (gO K (pv 0)) (pK (dP (cf (i:=0) (n:=2) ∅) (dP (cf (i:=1) (n:=2) ∅) mK cK eY) cK (jZ cK eY))) (fun _ _ _ _ _=>(tupK K 2 rfl (aM (aD (i:=0) (zd ["name", "code"]) rfl (Qag rfl)) (aM (aD (i:=1) (zd ["name", "code"]) rfl (Qag rfl)) bU)))) (fun _ _ _ _ _=>eF) (fun _ _ _ _ _=>(pv 1)) (fun _ _ _ _ _=>(pv 0))) (aa (aq (Bv rfl) rfl gq (by rfl) (aa (yP (C4 P w) rfl (dS (Nc:=["name", "code"]) (Fc:=[]) (js:=[])) (gO K (pv 0)) (pK (dP (cf (i:=0) (n:=2) ∅) (dP (cf (i:=1) (n:=2) ∅) mK cK eY) cK (jZ cK eY))) (fun _ _ _ _ _=>(tupK K 2 rfl (aM (aD (i:=0) (zd ["name", "code"]) rfl (Qag rfl)) (aM (aD (i:=1) (zd ["name", "code"]) rfl (Qag rfl)) bU)))) (fun _ _ _ _ _=>eF) (fun _ _ _ _ _=>(aq (hX K) rfl T.n_len (by rfl) (aa (pv 1) ae)))) ae)) ae))))),?_⟩;have hB:Den K H (.tuple (bk.map fu)) w0:=hB;unfold Den at hB;obtain⟨l,vs,rfl,hl,hd⟩:=hB;have gle:=g.le;have vl:vs.length=bk.length:=by rw[<-Jc (f:=fu)];exact hd.len
 have Z5:∀{i:Nat} (hi:i<bk.length) {Hx:Hp},av H Hx->∃tp,vs[i]? = some (.ref tp)/\bG K Hx tp [.str bk[i].1,.str bk[i].2]:=fun{i} hi {Hx} s=>by
  obtain⟨v,h1,h2⟩:=hd.get (i:=i) (d:=fu bk[i]) (by rw[Jk,Jd hi];rfl);obtain⟨tp,rfl,h3⟩:=h2.pair;exact⟨tp,h1,s.cL h3⟩
 refine⟨_,rfl,l,rfl,⟨_,hl⟩,fun D hD =>?_⟩;refine⟨fun i m H'=>m=bk.length-i/\i<=bk.length/\H'=upd H D (.dK ((bk.take i).map fun q=>(.inr q.2,.str q.1))),⟨_,rfl,Uw _,rfl⟩,?_⟩;rintro i m H' ⟨rfl,hi,rfl⟩;have sm:av H (upd H D (.dK ((bk.take i).map fun q=>(.inr q.2,.str q.1)))):=bI hD _
 by_cases iC:i<bk.length
 ·obtain⟨tp,h1,h2⟩:=Z5 iC sm;refine .inr ⟨⟨_,_,sm.cL hl,h1⟩,?_⟩;rintro x H2 ⟨rfl,hy⟩;have e:=hy _ (sm.cL hl);rw[h1] at e;cases e;refine⟨tp,_,rfl,h2,rfl,_,_,rfl,_,_,rfl,rfl,?_⟩;dsimp only[RM];rw[if_pos rfl];refine⟨_,rfl,_,rfl,(bk.take i).map fun q=>(.inr q.2,.str q.1),.inr bk[i].2,au,rfl,?_,bk.length-(i+1),⋯,rfl,iC,?_⟩
  ·rw[Jc,Uo];exact Ub (show min i bk.length<=1000 by lia) ∅
  ·rw[yM _ (Ak fun y hy e =>?_),Cd,eT iC,J4]
   ·rfl
   ·obtain⟨j,hj,rfl⟩:=Yu.mp hy;rw[Uo] at hj;rw[List.getElem_take] at e;have e:(bk[j]'⋯).2=bk[i].2:=QcR e;have:=g.Vs (i:=j) (j:=i) (Jd ⋯) (Jd iC) (t:=sg bk[i].2) (by rw[e];exact Qdl _) (Qdl _);lia
 have ei:i=bk.length:=by lia
 subst ei;refine .inl ⟨⟨_,sm.cL hl,⋯⟩,?_⟩;rw[Ym] at sm ⊢;have s1:av H (upd H D (.dK (iI bk))):=sm;refine⟨_,rfl,l,rfl,⟨_,s1.cL hl⟩,fun S hS =>?_⟩;refine yO (N:=bk.length) (fun i H'=>∃D':List Int,H'=upd (upd H D (.dK (iI bk))) S (gJ (C4 P w) S D')/\D'.Nodup/\D'.length<=i/\∀n,n∈D' ↔ ∃q∈bk.take i,((q.2.length:Nat):Int)=n) ⟨[],rfl,List.nodup_nil,Je _,fun n=>⟨(nofun),(fun⟨_,h,_⟩=>nomatch h)⟩⟩ ?_ ?_
 ·rintro i H2 Nx hi ⟨D',rfl,nd,hle,hm⟩ nx;have sm:av H (upd (upd H D (.dK (iI bk))) S (gJ (C4 P w) S D')):=s1.trans (bI hS _);obtain⟨tp,h1,h2⟩:=Z5 hi sm;refine⟨⟨_,_,sm.cL hl,h1⟩,?_⟩;rintro x H3 ⟨rfl,hy⟩;have e:=hy _ (sm.cL hl);rw[h1] at e;cases e;refine⟨tp,_,rfl,h2,rfl,_,_,rfl,_,_,rfl,rfl,?_⟩;have mm:∀{x:Int},x∈oneMore D' ((bk[i].2.length:Nat):Int)↔x∈D'\/x=((bk[i].2.length:Nat):Int):=fun{x}=>by
   unfold oneMore
   split
   ·rename_i hk;exact⟨.inl,fun h=>h.elim id fun z=>by rw[z];exact hk⟩
   ·rw[Uq,Jz]
  refine⟨_,rfl,_,_,rfl,⟨Jh (g.cd _ (Um hi)).2 ∅,rfl⟩,D',((bk[i].2.length:Nat):Int),au,rfl,⋯,nx _ ⟨oneMore D' ((bk[i].2.length:Nat):Int),Cd,?_,?_,fun n =>?_⟩⟩
  ·unfold oneMore
   split
   ·exact nd
   ·rename_i hk;refine List.nodup_append.mpr ⟨nd,U9.mpr ⟨by simp,List.nodup_nil⟩,fun a ha b hb e=>hk ?_⟩;rw[<-Jz.mp hb,<-e];exact ha
  ·unfold oneMore
   split
   ·lia
   ·rw[Jw];show D'.length+1<=i+1;lia
  rw[mm,hm,eT hi];constructor
  ·rintro(⟨q,hq,e⟩|rfl)
   ·exact⟨q,Yh _ hq,e⟩
   ·exact⟨bk[i],Jv _ (Jz.mpr rfl),rfl⟩
  ·rintro⟨q,hq,e⟩
   rcases Uq.mp hq with hq|hq
   ·exact .inl ⟨q,hq,e⟩
   ·rw[Jz.mp hq] at e;exact .inr e.symm
 ·rintro H2 ⟨D',rfl,nd,hle,hm⟩;have sm:av H (upd (upd H D (.dK (iI bk))) S (gJ (C4 P w) S D')):=s1.trans (bI hS _);refine⟨⟨_,sm.cL hl,⋯⟩,S,D',rfl,au,nd,⋯,fun ms lp H3 pm _ n3=>⟨by show 2<=Wp;decide,fun tp H4 n4 =>?_⟩⟩;rw[Ym] at hm;have hSD:D≠S:=fun z=>by
   have hS:upd H D (.dK (iI bk)) S=none:=hS;rw[<-z,au] at hS;cases hS
  refine q _ H4 (sm.trans (n3.same.trans n4.same)) ⟨tp,D,lp,ms,rfl,n4.at,n4.same _ _ (n3.same _ _ (by rw[ao hSD];exact au)),n4.same _ _ n3.at,fun n =>?_⟩;rw[pm.mem_iff];exact hm n
end
def BJ (K:Ja):Sp:=fun vs H Q _=>FC fun(d lp:Gc) (ls:List Int) (bk:List (Str×Str)) (t:Str) (p:Nat)=>∃q,vs=[.ref d,.ref lp,.str t,.int (p:Nat)]/\H d=some (.dK (iI bk))/\bA K H lp (ls.map V.int)/\(∀n,n∈ls ↔ ∃q∈bk,((q.2.length:Nat):Int)=n) /\
 qt bk/\q∈bk/\Ah t p q.2/\Q (.str q.2) H
def wU (K:Ja):Sp:=fun vs H Q _=>zg fun(v:V) (bk:List (Str×Str)) (t:Str) (p:Nat) (q:Str×Str)=>vs=[v,.str t,.int (p:Nat)]/\j0 H v bk/\qt bk/\q∈bk/\Ah t p q.2 /\
 ∀tp H',av H H'->bG K H' tp [.str q.1,.int ((p+q.2.length:Nat):Int)]->Q (.ref tp) H'
section
variable {P:Qaf}{w:Qah}{K:Ja}{mg:Str->Option Fk}{base:Heap}{f:Gc}{fd:Qad}
def lJ:aA ["names_by_code", "lengths", "text", "place", "length", "code"] ["names_by_code", "lengths", "text", "place"] (ak (top nP)):=⟨rfl,rfl,rfl,∅,rfl,∅,∅⟩
def K3 (F:bM K "code_at" "code_at" (top nP) f fd)(T:Nm mg):aW P w K mg base d7 1 f fd ["names_by_code", "lengths", "text", "place"] (BJ K):=by
 refine F.ok lJ (fun vs H Q E h =>?_) (fun cQ A outer s H vs Q E hr h =>?_)
 ·obtain⟨d,lp,ls,bk,t,p,q0,rfl,_⟩:=h
  rfl
 obtain⟨d,lp,ls,bk,t,p,q0,rfl,hd,hl,hm,g,o,⟨hp,ht,z0,hx⟩,q⟩:=h;have hu:=mn hr;refine⟨_,(af (eJ Qaz rfl (MY K (pv 1)) (aD (i:=4) lJ.nd rfl (Qag rfl)) (af (aE (i:=5) lJ.nd rfl (Qag rfl) (dN (Vb K) (pv 2) (cX (pv 3)) (cX (aB cu (pv 3) (pv 4)))))
  (ag (aY (Oy (N0 hu (pv 5) (pv 0))) (ag (ar (pv 5))) aF))))
  (ag (ar ax))),?_⟩
 have hz:t.length<=Wp:=Jh ht ∅;obtain⟨iq,hiq⟩:=Uk.mp o;refine fJ (t:=DU _ _ _) (fun σ H'=>False) (fun Nx nx =>?_) (fun _ _ h=>h.elim);refine⟨_,rfl,lp,rfl,⟨_,hl⟩,?_⟩;refine j4 (N:=ls.length) (fun i σ H'=>∃x4 x5:Option V,σ=[some (.ref d),some (.ref lp),some (.str t),some (.int (p:Nat)),x4,x5]/\H'=H/\((q0.2.length:Nat):Int)∉ls.take i) ⟨_,_,rfl,rfl,nofun⟩ ?_ ?_
 ·rintro i σ H2 hi ⟨x4,x5,rfl,rfl,M6⟩;have hv:(ls.map V.int)[i]? = some (.int ls[i]):=by rw[Jk,Jd hi];rfl
  refine⟨⟨_,_,hl,hv⟩,?_⟩;rintro x H3 ⟨rfl,hy⟩;have e:=hy _ hl;rw[hv] at e;cases e;obtain⟨r0,hr0,er⟩:=(hm ls[i]).mp (Um hi);generalize hL:ls[i]=L at er ⊢;obtain⟨m,rfl⟩:∃m:Nat,L=m:=⟨r0.2.length,er.symm⟩
  refine gn ?_;refine⟨_,rfl,_,rfl,_,rfl,_,rfl,_,rfl,.inl ⟨_,_,rfl,rfl,_,rfl,.inr ⟨t,rfl,hz,gn ?_⟩⟩⟩;have VY:sg (QaT t (some (p:Int)) (some ((p:Int)+(m:Int))))=(sg q0.2++z0).take m:=by
   rw[show((p:Int)+(m:Int))=((p+m:Nat):Int) by lia,Im (Us _ _) hp,hx]
   congr 1
   lia
  generalize QaT t (some (p:Int)) (some ((p:Int)+(m:Int)))=c at VY ⊢
  by_cases hc:∃r∈bk,r.2=c
  ·obtain⟨r,hr,rfl⟩:=hc;obtain⟨ir,hir⟩:=Uk.mp hr;refine⟨_,rfl,_,rfl,d,_,rfl,.inl ⟨_,.inr r.2,.inl hd,rfl,rfl⟩,?_⟩;rw[g.code hir];refine⟨_,rfl,bN ⟨_,rfl,?_⟩⟩;have:=g.Vs hir hiq (t:=sg q0.2++z0) (by rw[VY];exact List.take_prefix _ _) (Qb9 _ _);subst this;rw[hiq] at hir;cases hir;exact q
  ·refine⟨_,rfl,_,rfl,d,_,rfl,.inl ⟨_,.inr c,.inl hd,rfl,rfl⟩,?_⟩;have hn:dI (iI bk) (.inr c)=none:=Ak (f:=fun q:Str×Str=>((.inr q.2:Key),V.str q.1)) fun y hy e=>hc ⟨y,hy,by injection e⟩;rw[hn];refine⟨_,rfl,bC ⟨_,_,rfl,rfl,fun fw =>?_⟩⟩;rw[eT hi,hL] at fw
   rcases Uq.mp fw with h|h
   ·exact M6 h
   ·have hlen:q0.2.length=m:=by have:=Jz.mp h;lia
    refine hc ⟨q0,o,eM ?_⟩;show sg q0.2=sg c;rw[VY,<-hlen,str_len,QeI]
    rfl
 ·rintro σ H2 ⟨x4,x5,rfl,rfl,M6⟩;rw[Ym] at M6;exact absurd ((hm _).mpr ⟨q0,o,rfl⟩) M6
def fU:aA ["lookup", "text", "place", "names_by_code", "lengths", "code"] ["lookup", "text", "place"] (ak (top jD)):=⟨rfl,rfl,rfl,∅,rfl,∅,∅⟩
def KB (F:bM K "name_from" "name_from" (top jD) f fd)(T:Nm mg)(Eh:Fn P w K mg base 1 "code_at" ["names_by_code", "lengths", "text", "place"] (BJ K)):aW P w K mg base d7 2 f fd ["lookup", "text", "place"] (wU K):=by
 refine F.ok fU (fun vs H Q E h =>?_) (fun cQ A outer s H vs Q E hr h =>?_)
 ·obtain⟨v,bk,t,p,q0,rfl,_⟩:=h
  rfl
 obtain⟨v,bk,t,p,q0,rfl,⟨tp,d,lp,ls,rfl,h1,h2,h3,h4⟩,g,o,ah,q⟩:=h;have hu:=mn hr;have d6:=hr.units;obtain⟨iq,hiq⟩:=Uk.mp o;have c1:=g.cd _ o;refine⟨_,(af (j1 (pv 0) (tupK K 2 rfl (aM (aD (i:=3) fU.nd rfl (Qag rfl)) (aM (aD (i:=4) fU.nd rfl (Qag rfl)) bU))))
  (af (aE (i:=5) fU.nd rfl (Qag rfl) (aH (Eh.mono ∅) hr rfl (aa (pv 3) (aa (pv 4) (aa (pv 1) (aa (pv 2) ae))))))
  (af (aY (aG (qd K d6) (pv 5) ax (aK _)) (ag (ar (eN (aa bR (aa (pv 2) ae))))) aF)
  (ag (ar (eN (aa (bO hu (pv 3) (pv 5) (fun _ _=>rfl)) (aa (aB cu (pv 2) (aq (hX K) rfl T.n_len (by rfl) (aa (pv 5) ae))) ae)))))))),?_⟩
 refine⟨_,rfl,tp,_,rfl,bG.of h1,rfl,_,_,rfl,_,_,rfl,rfl,?_⟩;refine⟨_,rfl,_,rfl,_,rfl,_,rfl,d,lp,ls,bk,t,p,q0,rfl,h2,bA.of h3,h4,g,o,ah,gn ?_⟩;refine⟨_,rfl,.inl ⟨rfl,_,rfl,fO ?_ ?_⟩⟩
 ·refine⟨_,rfl,_,rfl,d,_,rfl,by rw[<-g.code hiq];exact dJ.k (k := .inr q0.2) h2,?_⟩;refine⟨_,rfl,_,rfl,_,_,rfl,⟨Jh c1.2 ∅,rfl⟩,.inl ⟨_,_,rfl,rfl,by show 2<=Wp;decide,fun tq H5 n5 =>?_⟩⟩;exact q tq H5 n5.same (bG.of n5.at)
 ·refine beq_eq_false_iff_ne.mpr fun z =>?_;rw[z] at c1;exact absurd c1.1 ∅
end
def ko (l:List Nat):Nat:=l.foldl (fun n c=>2*n+(c-48)) 0
def ua (l:List Nat)(c:Nat):ko (l++[c])=2*ko l+(c-48):=by
 unfold ko;rw[List.foldl_append];rfl
def qb:∀(k n:Nat),ko (kn k n)=n%2^k
 | 0,n=>by rw[Nat.pow_zero,Nat.mod_one];rfl
 | k+1,n=>by
  unfold kn;rw[ua,qb k,QcP,Qeq (2^k) 2,Nat.mod_mul];lia
def xK:∀(k n:Nat),∀c∈kn k n,c=48\/c=49
 | 0,_,_,h=>nomatch h
 | k+1,n,c,h=>by
  unfold kn at h
  rcases Uq.mp h with h|h
  ·exact xK k _ c h
  ·rw[Jz.mp h];lia
def BL:Sp:=fun vs H Q _=>∃x:Str,vs=[.str x]/\ux x/\x.length<=1000/\Q (.int (ko (sg x):Nat)) H
def lR:Sp:=fun _ _ _ _=>False
def KI (x:Str):Qaa "" ++ x=x:=by
 refine eM ?_;rw[aN];exact List.nil_append _
def FV {x:Str}(h:ux x):gV x iQ=true:=by
 rw[rn,Wc];intro c hc
 rcases h c hc with rfl|rfl<;>decide +kernel
section
variable {P:Qaf}{w:Qah}{K:Ja}{mg:Str->Option Fk}{base:Heap}{f:Gc}{fd:Qad}{t3:Tok}
def fQ:aA ["figures", "number", "figure"] ["figures"] (ak (top jx)):=⟨rfl,rfl,rfl,∅,rfl,∅,∅⟩
def K8 (F:bM K "number_of" "number_of" (top jx) f fd)(T:Nm mg):aW P w K mg base d7 1 f fd ["figures"] BL:=by
 refine F.ok fQ (fun vs H Q E h =>?_) (fun cQ A outer s H vs Q E hr h =>?_)
 ·obtain⟨x,rfl,_⟩:=h
  rfl
 obtain⟨x,rfl,hb,hx,q⟩:=h;refine⟨_,(af (aE (i:=1) fQ.nd rfl (Qag rfl) ai)
  (af (eJ Qaz rfl (LR (pv 0)) (aD (i:=2) fQ.nd rfl (Qag rfl)) (ag (aE (i:=1) fQ.nd rfl (Qag rfl) (aB cu (aB rD ai (pv 1)) (bh VQ rfl T.n_int (by rfl) (aa (pv 2) ae))))))
  (ag (ar (pv 1))))),?_⟩
 refine gn ?_;have hs:(sg x).length=x.cps.size:=rfl;refine⟨_,rfl,x,rfl,?_,?_⟩
 ·rw[Yw];intro c hc
  rcases hb c (by simpa using hc) with rfl|rfl<;>decide
 refine j4 (N:=x.cps.size) (fun i σ H'=>∃x2,σ=[some (.str x),some (.int (ko ((sg x).take i):Nat)),x2]/\H'=H) ⟨_,rfl,rfl⟩ ?_ ?_
 ·rintro i σ H' hi ⟨x2,rfl,rfl⟩;refine⟨hi,?_⟩;rintro y H2 ⟨rfl,hy⟩;have hc:(sg x)[i]? = some ((sg x)[i]'⋯):=Jd _;have e:=hy _ (by rw[<-U2];exact hc);subst e;refine gn ?_;have hcb:=hb _ (Jy hc);have KL:=eT (l:=sg x) (i:=i) ⋯;generalize (sg x)[i]'⋯=c at hcb KL;refine⟨_,rfl,.inl ⟨_,_,rfl,rfl,.inl ⟨∅,∅⟩,_,rfl,⟨#[c]⟩,((c-48:Nat):Int),rfl,?_,by show 1<=640;decide,.inl ⟨_,_,rfl,rfl,gn ⟨some (.str ⟨#[c]⟩),?_,rfl⟩⟩⟩⟩
  ·rcases hcb with rfl|rfl<;>decide +kernel
  ·rw[KL,ua];show[_,some (V.int (2*((ko ((sg x).take i):Nat):Int)+((c-48:Nat):Int))),_]=[_,some (V.int ((2*ko ((sg x).take i)+(c-48):Nat):Int)),_]
   push_cast
   rfl
 ·rintro σ H' ⟨x2,rfl,rfl⟩;refine⟨Je _,_,rfl,?_⟩;rw[U7 ⋯];exact q
end
def AO (K:Ja):Sp:=fun vs H Q _=>tG fun(t:Str) (p k:Nat) (x:Str)=>vs=[.str "",.str t,.int (p:Nat),.int (k:Nat)]/\ux x/\x.length=k/\k<=1000/\Ah t p x /\
 ∀tp H',av H H'->bG K H' tp [.int (ko (sg x):Nat),.int ((p+k:Nat):Int)]->Q (.ref tp) H'
def Bb (K:Ja):Sp:=fun vs H Q _=>zg fun(t:Str) (p k:Nat) (d:Int) (x:Str)=>vs=[.str t,.int (p:Nat),.int (k:Nat)]/\1<=k/\k<=60/\jU d k=some x/\Ah t p x /\
 ∀tp H',av H H'->bG K H' tp [.int d,.int ((p+x.length:Nat):Int)]->Q (.ref tp) H'
section
variable {P:Qaf}{w:Qah}{K:Ja}{mg:Str->Option Fk}{base:Heap}{f:Gc}{fd:Qad}{t3:Tok}
def jf:aA ["ahead", "text", "place", "many", "figures"] ["ahead", "text", "place", "many"] (ak (top gA)):=⟨rfl,rfl,rfl,∅,rfl,∅,∅⟩
def Lu (F:bM K "figures_from" "figures_from" (top gA) f fd)(T:Nm mg)(kh:mg "SIGNS" = some (.str iQ t3))(ip:Fn P w K mg base 1 "made_of" ["text", "signs"] rC)(xX:Fn P w K mg base 1 "number_of" ["figures"] BL):aW P w K mg base d7 2 f fd ["ahead", "text", "place", "many"] (AO K):=by
 refine F.ok jf (fun vs H Q E h =>?_) (fun cQ A outer s H vs Q E hr h =>?_)
 ·obtain⟨t,p,k,x,rfl,_⟩:=h
  rfl
 obtain⟨t,p,k,x,rfl,hb,rfl,hk,ah,q⟩:=h;have d6:=hr.units;have hz:t.length<=Wp:=Jh ah.2.1 ∅;refine⟨_,(af (aE (i:=4) jf.nd rfl (Qag rfl) (dN (Vb K) (pv 1) (cX (pv 2)) (cX (aB cu (pv 2) (pv 3)))))
  (af (aY (PW.pt (jg (aG (IK K d6) (aq (hX K) rfl T.n_len (by rfl) (aa (pv 4) ae)) (pv 3) (aK _)) (gR (de (cp (aH (ip.mono ∅) hr rfl (aa (pv 4) (aa (vq rfl kh) ae)))))))) (ag (ar (eN (aa bR (aa (pv 2) ae))))) aF)
  (ag (ar (eN (aa (aH (xX.mono ∅) hr rfl (aa (aB cu (pv 0) (pv 4)) ae)) (aa (aB cu (pv 2) (pv 3)) ae))))))),?_⟩
 have e:=eM ah.take;refine⟨_,rfl,_,rfl,_,rfl,_,rfl,_,rfl,.inl ⟨_,_,rfl,rfl,_,rfl,.inr ⟨t,rfl,hz,gn ?_⟩⟩⟩;rw[e];refine⟨_,rfl,_,_,rfl,⟨Jh hk ∅,rfl⟩,_,rfl,.inl ⟨rfl,_,rfl,?_⟩⟩;rw[decide_eq_true rfl];refine bC ?_;refine⟨_,rfl,x,iQ,rfl,Jh hk ∅,?_⟩;rw[FV hb];refine⟨_,rfl,bC ?_⟩;dsimp only[bK];refine⟨_,rfl,_,rfl,.inr (.inl ⟨_,_,rfl,rfl,?_,?_⟩)⟩
 ·show 0+x.length<=Wp;rw[Nat.zero_add];exact Jh hk ∅
 rw[KI];refine⟨x,rfl,hb,hk,_,rfl,_,rfl,.inl ⟨_,_,rfl,rfl,by show 2<=Wp;decide,fun tp H5 n5 =>?_⟩⟩;exact q tp H5 n5.same (bG.of n5.at)
def dq:aA ["text", "place", "many", "number", "end"] ["text", "place", "many"] (ak (top fK)):=⟨rfl,rfl,rfl,∅,rfl,∅,∅⟩
def MB (F:bM K "distance_from" "distance_from" (top fK) f fd)(T:Nm mg)(ib:Fn P w K mg base 1 "two_to" ["power"] kC)(rV:Fn P w K mg base 2 "figures_from" ["ahead", "text", "place", "many"] (AO K)):aW P w K mg base d7 3 f fd ["text", "place", "many"] (Bb K):=by
 refine F.ok dq (fun vs H Q E h =>?_) (fun cQ A outer s H vs Q E hr h =>?_)
 ·obtain⟨t,p,k,d,x,rfl,_⟩:=h
  rfl
 obtain⟨t,p,k,d,x,rfl,k1,k2,hd,ah,q⟩:=h;have d6:=hr.units;refine⟨_,(af (j1 (aH (rV.mono ∅) hr rfl (aa ax (aa (pv 0) (aa (pv 1) (aa (pv 2) ae))))) (tupK K 2 rfl (aM (aD (i:=3) dq.nd rfl (Qag rfl)) (aM (aD (i:=4) dq.nd rfl (Qag rfl)) bU))))
  (af (aY (aG xD (pv 3) bR (aK _)) (ag (ar (eN (aa bR (aa (pv 1) ae))))) aF)
  (af (aY (aG Gg (pv 3) (aH (ib.mono ∅) hr rfl (aa (aB cn (pv 2) ai) ae)) (aK _)) (ag (vh (i:=3) dq.nd rfl (Qag rfl) (aH (ib.mono ∅) hr rfl (aa (pv 2) ae)) Ph)) aF)
  (ag (ar (eN (aa (pv 3) (aa (pv 4) ae)))))))),?_⟩
 unfold jU at hd;have fw:inD d k=true:=by
  cases c:inD d k with
  | true=>rfl
  | false=>rw[c] at hd;cases hd
 rw[if_pos fw] at hd;cases hd;have p2:(2:Int)^k=2*2^(k-1):=by
  rw[show k=(k-1)+1 by lia,Qcm,QcQ];rfl
 have pp:(0:Int)<2^(k-1):=QeK ∅;have ek:((2^k:Nat):Int)=2^k:=by push_cast;rfl
 unfold inD at fw;rw[Js,decide_eq_true_eq,decide_eq_true_eq] at fw;obtain⟨hn1,L5⟩:=fw;obtain⟨v,hv⟩:∃v:Nat,v=(if d<0 then d+2^k else d).toNat:=⟨_,rfl⟩
 have Qa:((v:Nat):Int)=if d<0 then d+2^k else d:=by rw[hv];split<;>lia
 rw[<-hv] at ah q;have iC:v<2^k:=by
  have:((v:Nat):Int)<2^k:=by rw[Qa];split<;>lia
  lia
 have fl:=di v k;have nv:ko (sg (dC v k))=v:=(qb k v).trans (Nat.mod_eq_of_lt iC);refine⟨_,rfl,_,rfl,_,rfl,t,p,k,dC v k,rfl,xK k v,fl,⋯,ah,fun tp H1 s1 h1 =>?_⟩;rw[nv] at h1;refine⟨tp,_,rfl,h1,rfl,_,_,rfl,_,_,rfl,rfl,?_⟩;refine⟨_,rfl,.inl ⟨rfl,_,rfl,?_⟩⟩;rw[decide_eq_false (nofun)];refine bC ?_;dsimp only[bK];rw[fl] at q;refine⟨_,rfl,_,rfl,_,_,rfl,rfl,k-1,?_,⋯,?_⟩
 ·show[V.int ((k:Int)-1)]=[V.int ((k-1:Nat):Int)]
  rw[show(k:Int)-1=((k-1:Nat):Int) by lia]
 refine⟨_,_,rfl,rfl,_,rfl,?_⟩;have fin:∀(n:Int),n=d->∀tq H5,hW H1 tq (.tup [.int n,.int ((p+k:Nat):Int)]) H5->Q (.ref tq) H5:=fun n e tq H5 n5=>q tq H5 (s1.trans n5.same) (bG.of (by rw[<-e];exact n5.at));refine gj (fun c =>?_) (fun c =>?_)
 ·have c:(2:Int)^(k-1)<=(v:Nat):=of_decide_eq_true c;refine⟨_,rfl,_,rfl,k,rfl,⋯,_,_,rfl,rfl,?_⟩;refine⟨_,rfl,_,rfl,by show 2<=Wp;decide,fin _ ?_⟩;rw[Qa] at c ⊢;show(if d<0 then d+2^k else d)-2^k=d
  split at c
  ·rw[if_pos (by assumption)];lia
  ·rw[if_neg (by assumption)];lia
 ·have c:¬(2:Int)^(k-1)<=(v:Nat):=fun z=>c (decide_eq_true z);refine⟨_,rfl,_,rfl,by show 2<=Wp;decide,fin _ ?_⟩;rw[Qa] at c ⊢
  split<;>lia
end
structure MG (K:Ja)(C:Gc):Prop where
 c:BF K C
 n1:dH K C "kinds"
 n2:dH K C "spots"
 n3:dH K C "sizes"
 n4:dH K C "near"
 n5:dH K C "far"
def Gi {ns:List Str}{bk:List (Str×Str)}(h:dz ns (aO bk)=true)(hl:bk.length<=11)(hs:∀q∈bk,q.2.length<=11):qt bk:=by
 unfold dz at h;rw[Js,Js] at h;obtain⟨h1,_,h3⟩:=h;obtain⟨_,hq⟩:=uX h1;have e:cU (gN (aO bk))=bk:=jN bk;rw[e] at hq h3;refine⟨hl,@of_decide_eq_true _ (Qbx _) h3,fun q m=>⟨?_,hs q m⟩⟩;have h4:(!decide (V.str q.2=V.str (Qaa ""))&&gV q.2 iQ)=true:=(hq q m).2;rw[Js,B4] at h4;have h5:=h4.1
 by_cases z:q.2.length=0
 ·rw[decide_eq_true z] at h5;cases h5
 ·lia
def sE.VC {F:Fb}(h:sE F):qt F.b1/\qt F.b2/\qt F.b3:=by
 obtain⟨h1,h2,h3⟩:=Bt h.g.why;have l1:=h.g.l1;have l2:=h.g.l2;have l3:=h.g.l3;exact⟨Gi h1 ⋯ fun q m=>(h.g.sz q (.inl m)).2.2.2,Gi h2 ⋯ fun q m=>(h.g.sz q (.inr (.inl m))).2.2.2,Gi h3 ⋯ fun q m=>(h.g.sz q (.inr (.inr m))).2.2.2⟩
def zG:∀{bk:List (Str×Str)} {x:Str},x∈bk.map (·.1)->(x,aU bk x)∈bk
 | q::r,x,h=>by
  unfold aU
  by_cases e:q.1=x
  ·rw[if_pos e,<-e];exact Jo
  ·rw[if_neg e];exact Jl _ (zG ((Jx.mp h).resolve_left fun z=>e z.symm))
def j0.put {H:Hp}{v:V}{bk:List (Str×Str)}{m C dx:Gc}{fs:List (Str×V)}{o:HO}(h:j0 H v bk)(hm:H m=some (.ins C dx fs)):j0 (upd H m o) v bk:=by
 obtain⟨tp,d,lp,ls,e,h1,h2,h3,h4⟩:=h;exact⟨tp,d,lp,ls,e,by rw[ao (rj h1 hm (nofun))];exact h1,by rw[ao (rj h2 hm (nofun))];exact h2,by rw[ao (rj h3 hm (nofun))];exact h3,h4⟩
def D7 (CR:Gc)(H:Hp)(m:Gc)(F:Fb):Prop:=tG fun(dx:Gc) (w1 w2 w3:V)=>H m=some (.ins CR dx [("kinds",w1),("spots",w2),("sizes",w3),("near",.int (F.near:Nat)),("far",.int (F.eP:Nat))])/\j0 H w1 F.b1/\j0 H w2 F.b2/\j0 H w3 F.b3
def D7.same {CR:Gc}{H H':Hp}{m:Gc}{F:Fb}(h:D7 CR H m F)(s:av H H'):D7 CR H' m F:=by
 obtain⟨dx,w1,w2,w3,e,h1,h2,h3⟩:=h;exact⟨dx,w1,w2,w3,s _ _ e,h1.same s,h2.same s,h3.same s⟩
def Hn (K:Ja)(CF CR:Gc):Sp:=fun vs H Q _=>zg fun(H0:Hp) (m fm dx:Gc) (F:Fb)=>vs=[.ref m,.ref fm]/\av H0 H/\H0 m=none/\H m=some (.ins CR dx [])/\jV K CF H0 fm F/\sE F/\∀H',av H0 H'->D7 CR H' m F->Q .non H'
def uG {t x:Str}{p:Nat}{y:List Nat}(h:(sg t).drop p=sg x++y)(hp:p<=t.length):p+x.length<=t.length/\(sg t).drop (p+x.length)=y:=by
 have hl:=congrArg Qgd h;rw[Yt,Jw,<-str_len,<-str_len] at hl;refine⟨⋯,?_⟩;rw[<-List.drop_drop,h,List.drop_left'];exact(str_len x).symm
def Ct {F:Fb}:∀{as:List Arg} {ts:List Str},bT F as=some ts->ts.length=as.length/\∀(i:Nat) a,as[i]? = some a->∃x,ts[i]? = some x/\dR F a=some x
 | [],ts,e=>by cases e;exact⟨rfl,fun _ _ h=>nomatch h⟩
 | a::as,ts,e=>by
  have e:(match dR F a with|none=>none|some x=>(bT F as).map (x :: ·))=some ts:=e;cases ea:dR F a with
  | none=>rw[ea] at e;cases e
  | some x=>
   rw[ea] at e;cases er:bT F as with
   | none=>rw[er] at e;cases e
   | some us=>
    rw[er] at e;cases e;obtain⟨h1,h2⟩:=Ct er;refine⟨by rw[Jr,Jr,h1],fun i b hb =>?_⟩;cases i with
    | zero=>cases hb;exact⟨x,rfl,ea⟩
    | succ i=>exact h2 i b hb
section
variable {P:Qaf}{w:Qah}{K:Ja}{mg:Str->Option Fk}{base:Heap}{f fi fp fn fb:Gc}{fd JY XI Xp Z0:Qad}{CF C aP:Gc}
def su:aA ["self", "form"] ["self", "form"] (ak (inClass (top bf) 0)):=⟨rfl,rfl,rfl,∅,rfl,∅,∅⟩
def Mw (F:bM K "__init__" "Reader.__init__" (inClass (top bf) 0) f fd)(T:Nm mg)(MF:HS K CF)(MR:MG K C)(j8:Fn P w K mg base 1 "lookup_of" ["book"] (zF K)):aW P w K mg base d7 2 f fd ["self", "form"] (Hn K CF C):=by
 refine F.ok su (fun vs H Q E h =>?_) (fun cQ A outer s H vs Q E hr h =>?_)
 ·obtain⟨H0,m,fm,dx,Fo,rfl,_⟩:=h
  rfl
 obtain⟨H0,m,fm,dx,Fo,rfl,sm,nm,hm,fo,fr,q⟩:=h;obtain⟨dx',w1,w2,w3,w4,w5,ho,g1,g2,g3,g4,g5⟩:=fo;obtain⟨k1,k2,k3⟩:=fr.VC;unfold Den at g4 g5;subst g4 g5;refine⟨_,(af (gW (pv 0) (aH (j8.mono ∅) hr rfl (aa (cY K (pv 1) rfl) ae)) rfl)
  (af (gW (pv 0) (aH (j8.mono ∅) hr rfl (aa (cY K (pv 1) rfl) ae)) rfl)
  (af (gW (pv 0) (aH (j8.mono ∅) hr rfl (aa (cY K (pv 1) rfl) ae)) rfl)
  (af (gW (pv 0) (cY K (pv 1) rfl) rfl)
  (ag (gW (pv 0) (cY K (pv 1) rfl) rfl)))))),?_⟩
 unfold JS Py;dsimp only;refine⟨_,rfl,fm,CF,dx',_,w1,rfl,sm _ _ ho,MF.c,MF.n1,rfl,w1,Fo.b1,rfl,g1.same sm,k1,fun v1 H1 s1 Nt =>?_⟩;have m1:=s1 _ _ hm;refine⟨_,rfl,m,C,dx,_,rfl,m1,MR.c,MR.n1,by show 0<1000;decide,?_⟩;have t1:av H0 (upd H1 m (.ins C dx [("kinds",v1)])):=kf (sm.trans s1) nm;have Nt:j0 (upd H1 m (.ins C dx [("kinds",v1)])) v1 Fo.b1:=Nt.put m1;refine⟨_,rfl,fm,CF,dx',_,w2,rfl,t1 _ _ ho,MF.c,MF.n2,rfl,w2,Fo.b2,rfl,g2.same t1,k2,fun v2 H2 s2 RT =>?_⟩;have m2:=s2 _ _ au;refine⟨_,rfl,m,C,dx,_,rfl,m2,MR.c,MR.n2,by show 1<1000;decide,?_⟩;have t2:av H0 (upd H2 m (.ins C dx [("kinds",v1),("spots",v2)])):=kf (t1.trans s2) nm;have Nt:j0 (upd H2 m (.ins C dx [("kinds",v1),("spots",v2)])) v1 Fo.b1:=(Nt.same s2).put m2;have RT:j0 (upd H2 m (.ins C dx [("kinds",v1),("spots",v2)])) v2 Fo.b2:=RT.put m2;refine⟨_,rfl,fm,CF,dx',_,w3,rfl,t2 _ _ ho,MF.c,MF.n3,rfl,w3,Fo.b3,rfl,g3.same t2,k3,fun v3 H3 s3 Zl =>?_⟩;have m3:=s3 _ _ au;refine⟨_,rfl,m,C,dx,_,rfl,m3,MR.c,MR.n3,by show 2<1000;decide,?_⟩;have t3:av H0 (upd H3 m (.ins C dx [("kinds",v1),("spots",v2),("sizes",v3)])):=kf (t2.trans s3) nm;have Nt:j0 (upd H3 m (.ins C dx [("kinds",v1),("spots",v2),("sizes",v3)])) v1 Fo.b1:=(Nt.same s3).put m3;have RT:j0 (upd H3 m (.ins C dx [("kinds",v1),("spots",v2),("sizes",v3)])) v2 Fo.b2:=(RT.same s3).put m3;have Zl:j0 (upd H3 m (.ins C dx [("kinds",v1),("spots",v2),("sizes",v3)])) v3 Fo.b3:=Zl.put m3;refine⟨_,rfl,fm,CF,dx',_,_,rfl,t3 _ _ ho,MF.c,MF.n4,rfl,_,rfl,m,C,dx,_,rfl,au,MR.c,MR.n4,by show 3<1000;decide,?_⟩;have t4:=kf (o := .ins C dx (j2 "near" (.int (Fo.near:Nat)) [("kinds",v1),("spots",v2),("sizes",v3)])) t3 nm;refine⟨_,rfl,fm,CF,dx',_,_,rfl,t4 _ _ ho,MF.c,MF.n5,rfl,_,rfl,m,C,dx,_,rfl,au,MR.c,MR.n5,by show 4<1000;decide,?_⟩;refine q _ (kf t4 nm) ⟨dx,v1,v2,v3,au,(Nt.put au).put au,(RT.put au).put au,(Zl.put au).put au⟩
end
def Jp:Arg->Prop
 | .sp _ | .ne _ | .fa _=>True
 | _=>False
def IU (K:Ja)(CR:Gc):Sp:=fun vs H Q _=>FC fun(m:Gc) (F:Fb) (a:Arg) (t:Str) (p:Nat) (x:Str)=>vs=[.ref m,.str a.kind,.str t,.int (p:Nat)]/\D7 CR H m F/\sE F/\a.ok/\Jp a/\dR F a=some x/\Ah t p x /\
 ∀tp H',av H H'->bG K H' tp [a.v,.int ((p+x.length:Nat):Int)]->Q (.ref tp) H'
def IP (K:Ja)(CR:Gc):Sp:=fun vs H Q _=>FC fun(m:Gc) (F:Fb) (w:Str) (as:List Arg) (t:Str) (p:Nat)=>∃x,vs=[.ref m,.str t,.int (p:Nat)]/\D7 CR H m F/\sE F/\sW w as/\(∀a∈as,Jp a)/\dA F w as=some x/\Ah t p x /\
 ∀tp bp H',av H H'->bG K H' tp [.ref bp,.int ((p+x.length:Nat):Int)]->bG K H' bp (.str w::as.map Arg.v)->Q (.ref tp) H'
def zQ (K:Ja)(CF:Gc):Sp:=fun vs H Q _=>FC fun(m:Gc) (F:Fb) (w:Str) (as:List Arg) (t:Str) (p:Nat)=>∃x,vs=[.ref m,.str t,.int (p:Nat)]/\jV K CF H m F/\sE F/\sW w as/\(∀a∈as,Jp a)/\dA F w as=some x/\Ah t p x /\
 ∀tp bp H',av H H'->bG K H' tp [.ref bp,.int ((p+x.length:Nat):Int)]->bG K H' bp (.str w::as.map Arg.v)->Q (.ref tp) H'
section
variable {P:Qaf}{w:Qah}{K:Ja}{mg:Str->Option Fk}{base:Heap}{f fi fp fn fb:Gc}{fd JY XI Xp Z0:Qad}{CF C aP:Gc}
def jt:aA ["self", "text", "place", "name", "end", "size"] ["self", "text", "place"] (ak (inClass (top bf) 3)):=⟨rfl,rfl,rfl,∅,rfl,∅,∅⟩
def Lq (F:bM K "number_from" "Reader.number_from" (inClass (top bf) 3) f fd):aW P w K mg base d7 3 f fd ["self", "text", "place"] lR:=
 F.ok jt (fun _ _ _ _ h=>h.elim) (fun _ _ _ _ _ _ _ _ _ h=>h.elim)
def u0:aA ["text", "place", "many", "end"] ["text", "place"] (ak (top jC)):=⟨rfl,rfl,rfl,∅,rfl,∅,∅⟩
def Mr (F:bM K "many_from" "many_from" (top jC) f fd):aW P w K mg base d7 3 f fd ["text", "place"] lR:=
 F.ok u0 (fun _ _ _ _ h=>h.elim) (fun _ _ _ _ _ _ _ _ _ h=>h.elim)
def kj:aA ["self", "part", "text", "place"] ["self", "part", "text", "place"] (ak (inClass (top bf) 2)):=⟨rfl,rfl,rfl,∅,rfl,∅,∅⟩
def Mz (F:bM K "part_from" "Reader.part_from" (inClass (top bf) 2) f fd)(T:Nm mg)(Qs:BF K C)(MR:MG K C)(gG:xJ K C "number_from" fn)(ra:aW P w K mg base d7 3 fn Xp ["self", "text", "place"] lR)(qI:Binds K Xp ["self", "text", "place"] [])
  (jO:Fn P w K mg base 2 "name_from" ["lookup", "text", "place"] (wU K)) (zm:Fn P w K mg base 3 "many_from" ["text", "place"] lR) (oY:Fn P w K mg base 3 "distance_from" ["text", "place", "many"] (Bb K)):aW P w K mg base d7 4 f fd ["self", "part", "text", "place"] (IU K C):=by
 refine F.ok kj (fun vs H Q E h =>?_) (fun cQ A outer s H vs Q E hr h =>?_)
 ·obtain⟨m,Fo,a,t,p,x,rfl,_⟩:=h
  rfl
 obtain⟨m,Fo,a,t,p,x,rfl,⟨dx,w1,w2,w3,hm,l1,l2,l3⟩,fr,aok,ja,ea,ah,q⟩:=h;have d6:=hr.units;obtain⟨k1,k2,k3⟩:=fr.VC;refine⟨_,(af (aY (aG (qd K d6) (pv 1) ax (aK _)) (ag (ar (aH (jO.mono ∅) hr rfl (aa (cY K (pv 0) rfl) (aa (pv 2) (aa (pv 3) ae)))))) aF)
  (af (aY (aG (qd K d6) (pv 1) ax (aK _)) (ag (ar (v8 (pv 0) Qs gG (ra.mono (by first|decide|exact Je _)) hr qI .nil uJ (aa (pv 2) (aa (pv 3) ae))))) aF)
  (af (aY (aG (qd K d6) (pv 1) ax (aK _)) (ag (ar (aH (zm.mono ∅) hr rfl (aa (pv 2) (aa (pv 3) ae))))) aF)
  (ag (ar (aH (oY.mono ∅) hr rfl (aa (pv 2) (aa (pv 3) (aa (iz (aG (qd K d6) (pv 1) ax (aK _)) (cY K (pv 0) rfl) (cY K (pv 0) rfl)) ae))))))))),?_⟩
 cases a with
 | sp y=>
  cases ea;refine⟨_,rfl,.inl ⟨rfl,_,rfl,wu ?_⟩⟩;exact⟨_,rfl,m,C,dx,_,w2,rfl,hm,MR.c,MR.n2,rfl,_,rfl,_,rfl,w2,Fo.b2,t,p,(y,aU Fo.b2 y),rfl,l2,k2,zG (fr.n2.mem_iff.mpr aok),ah,q⟩
 | nu n=>exact ja.elim
 | ma n=>exact ja.elim
 | ne d=>
  refine⟨_,rfl,.inl ⟨rfl,_,rfl,fO (x := "near") ?_⟩⟩;refine⟨_,rfl,.inl ⟨rfl,_,rfl,fO (x := "near") ?_⟩⟩;refine⟨_,rfl,.inl ⟨rfl,_,rfl,fO (x := "near") ?_⟩⟩;have nr:=fr.nr;refine⟨_,rfl,_,rfl,_,rfl,.inl ⟨rfl,_,rfl,wu ⟨_,rfl,m,C,dx,_,_,rfl,hm,MR.c,MR.n4,rfl,t,p,Fo.near,d,x,rfl,⋯,⋯,ea,ah,q⟩⟩⟩
 | fa d=>
  refine⟨_,rfl,.inl ⟨rfl,_,rfl,fO (x := "far") ?_⟩⟩;refine⟨_,rfl,.inl ⟨rfl,_,rfl,fO (x := "far") ?_⟩⟩;refine⟨_,rfl,.inl ⟨rfl,_,rfl,fO (x := "far") ?_⟩⟩;have nr:=fr.nr;have ff:=fr.fr;refine⟨_,rfl,_,rfl,_,rfl,.inl ⟨rfl,_,rfl,fO (x := "far") ⟨_,rfl,m,C,dx,_,_,rfl,hm,MR.c,MR.n5,rfl,t,p,Fo.eP,d,x,rfl,⋯,⋯,ea,ah,q⟩⟩⟩
def bt:aA ["self", "text", "place", "kind", "end", "bare", "part", "value"] ["self", "text", "place"] (ak (inClass (top bf) 1)):=⟨rfl,rfl,rfl,∅,rfl,∅,∅⟩
def Mf (F:bM K "bare_from" "Reader.bare_from" (inClass (top bf) 1) f fd)(T:Nm mg)(Qs:BF K C)(MR:MG K C)(Kb:NV K w mg aP)(i8:xJ K C "part_from" fp)(wI:aW P w K mg base d7 4 fp XI ["self", "part", "text", "place"] (IU K C))(wx:Binds K XI ["self", "part", "text", "place"] [])
  (jO:Fn P w K mg base 2 "name_from" ["lookup", "text", "place"] (wU K)):aW P w K mg base d7 5 f fd ["self", "text", "place"] (IP K C):=by
 refine F.ok bt (fun vs H Q E h =>?_) (fun cQ A outer s H vs Q E hr h =>?_)
 ·obtain⟨m,Fo,wd,as,t,p,x,rfl,_⟩:=h
  rfl
 obtain⟨m,Fo,wd,as,t,p,x,rfl,rd,fr,ba,hj,ex,⟨hp,ht,z,hx⟩,q⟩:=h;have d6:=hr.units;have md:=Kb.g;obtain⟨k1,_,_⟩:=fr.VC;obtain⟨qq,hqq,ew,ek⟩:=ba.pt;obtain⟨pk,pl⟩:=gz qq hqq;obtain⟨qp,hq1,Hi⟩:=Kb.pt qq hqq;have TN:as.length=qq.2.length:=by rw[<-ek,Jc]
 have Qj:wd∈Fo.b1.map (·.1):=fr.g.n1.mem_iff.mpr (by rw[ew];exact pk);obtain⟨ts,ets⟩:∃ts,bT Fo as=some ts:=by
  cases e:bT Fo as with
  | none=>unfold dA at ex;rw[e] at ex;cases ex
  | some ts=>exact⟨ts,rfl⟩
 obtain⟨tl,ta⟩:=Ct ets;unfold dA at ex;rw[ets] at ex;cases ex;dsimp only at hx q;have hx:(sg t).drop p=(Qa0 "" (aU Fo.b1 wd::ts)).cps.toList++z:=hx;rw[cH,Wh,Yo] at hx;obtain⟨AA,hx1'⟩:=uG hx hp;have hjl:=mE (aU Fo.b1 wd::ts);rw[J3,Yq] at hjl;rw[hjl] at q;refine⟨_,(af (j1 (aH (jO.mono ∅) hr rfl (aa (cY K (pv 0) rfl) (aa (pv 1) (aa (pv 2) ae)))) (tupK K 2 rfl (aM (aD (i:=3) bt.nd rfl (Qag rfl)) (aM (aD (i:=4) bt.nd rfl (Qag rfl)) bU))))
  (af (aY (aG xD (pv 3) bR (aK _)) (ag (ar (eN (aa bR (aa (pv 2) ae))))) aF)
  (af (aE (i:=5) bt.nd rfl (Qag rfl) (il (aa (pv 3) ae)))
  (af (eJ Qaz rfl (gO K (Ck K w (cy rfl md) (pv 3) (fun _ _=>rfl))) (aD (i:=6) bt.nd rfl (Qag rfl)) (af (j1 (v8 (pv 0) Qs i8 (wI.mono (by first|decide|exact Je _)) hr wx .nil uJ (aa (pv 6) (aa (pv 1) (aa (pv 4) ae)))) (tupK K 2 rfl (aM (aD (i:=7) bt.nd rfl (Qag rfl)) (aM (aD (i:=4) bt.nd rfl (Qag rfl)) bU))))
  (af (aY (aG xD (pv 7) bR (aK _)) (ag (ar (eN (aa bR (aa (pv 2) ae))))) aF)
  (ag (lX (xg K QaP QbX QbW pB (pv 5) (aa (pv 7) ae)))))))
  (ag (ar (eN (aa (bh (nY K) rfl T.n_tuple (by rfl) (aa (pv 5) ae)) (aa (pv 4) ae))))))))),?_⟩
 obtain⟨dx,w1,w2,w3,hm,l1,l2,l3⟩:=id rd;refine⟨_,rfl,m,C,dx,_,w1,rfl,hm,MR.c,MR.n1,rfl,_,rfl,_,rfl,w1,Fo.b1,t,p,(wd,aU Fo.b1 wd),rfl,l1,k1,zG Qj,⟨hp,ht,_,hx⟩,fun tp H1 s1 h1 =>?_⟩;refine⟨tp,_,rfl,h1,rfl,_,_,rfl,_,_,rfl,rfl,?_⟩;refine⟨_,rfl,.inl ⟨rfl,_,rfl,?_⟩⟩;rw[decide_eq_false (nofun)];refine bC ?_;dsimp only[bK];refine⟨_,rfl,by show 1<=Wp;decide,fun l H2 n2=>gn ?_⟩;have s2:=s1.trans n2.same;dsimp only;refine fJ (t:=DU _ _ _) (fun σ H'=>∃x6 x7:Option V,σ=[some (.ref m),some (.str t),some (.int (p:Nat)),some (.str wd),some (.int ((p+((aU Fo.b1 wd).length+(ts.map fun x=>x.length).sum):Nat):Int)),some (.ref l),x6,x7]/\av H1 H'/\H' l=some (.lst (.str wd::as.map Arg.v))) (fun Nx nx =>?_) ?_
 ·refine⟨_,rfl,aP,qq.1,.ref qp,.ref qp,rfl,by rw[ew],Kb.cd,hq1,rfl,qp,rfl,⟨_,Hi _⟩,?_⟩;refine j4 (N:=as.length) (fun i σ H'=>∃(x6 x7:Option V) (pe:Nat),σ=[some (.ref m),some (.str t),some (.int (p:Nat)),some (.str wd),some (.int (pe:Nat)),some (.ref l),x6,x7]/\av H1 H'/\H' l=some (.lst (.str wd::(as.take i).map Arg.v))/\pe+((ts.drop i).map fun x=>x.length).sum=p+((aU Fo.b1 wd).length+(ts.map fun x=>x.length).sum)/\pe<=t.length/\(sg t).drop pe=(ts.drop i).flatMap sg++z) ⟨_,_,p+(aU Fo.b1 wd).length,rfl,n2.same,n2.at,by rw[QcU];lia,AA,hx1'⟩ ?_ ?_
  ·rintro i σ H3 hi ⟨x6,x7,pe,rfl,s3,sG,hsum,hpe,hdr⟩;have Ve:as[i]? = some as[i]:=Jd hi;obtain⟨y,hy,ey⟩:=ta i _ Ve;have gk:(qq.2.map V.str)[i]? = some (.str as[i].kind):=by
    rw[<-ek,Jk,Jk,Ve];rfl
   refine⟨⟨_,_,Hi _,gk⟩,?_⟩;rintro x' H4 ⟨rfl,hyy⟩;have e:=hyy _ (Hi _);rw[gk] at e;cases e;refine gn ?_;have hti:i<ts.length:=by lia
   have ey2:ts[i]=y:=by rw[Jd hti] at hy;exact Qap hy
   rw[QbY hti,ey2] at hsum hdr;rw[J3,Yq] at hsum;rw[Wh,Yo] at hdr;obtain⟨hpe2,hdr2⟩:=uG hdr hpe;obtain⟨dx',w1',w2',w3',BP,_⟩:=rd.same (s1.trans s3);refine⟨_,rfl,m,dx',_,rfl,BP,rfl,_,rfl,_,rfl,_,rfl,m,Fo,as[i],t,pe,y,rfl,rd.same (s1.trans s3),fr,ba.ok _ (Jy Ve),hj _ (Jy Ve),ey,⟨hpe,ht,_,hdr⟩,fun tq H5 s5 h5 =>?_⟩;refine⟨tq,_,rfl,h5,rfl,_,_,rfl,_,_,rfl,rfl,?_⟩;have nv:as[i].v≠V.non:=by
    cases as[i]<;>exact nofun
   refine⟨_,rfl,.inl ⟨rfl,_,rfl,?_⟩⟩;rw[decide_eq_false nv];refine bC ?_;have FK:=s5 _ _ sG;dsimp only[bK];refine⟨_,rfl,.inl ⟨rfl,_,bA.of FK⟩,_,rfl,l,_,_,rfl,rfl,FK,?_,fun H6 c6=>⟨_,_,pe+y.length,rfl,fun b o e =>?_,?_,?_,hpe2,hdr2⟩⟩
   ·rw[Jr,Jc,Uo];exact Ub (show _<=100 by lia) ∅
   ·rw[c6.ne (ay e n2.nn)];exact s5 _ _ (s3 _ _ e)
   ·rw[c6.at,eT hi,J4];rfl
   ·lia
  ·rintro σ H3 ⟨x6,x7,pe,rfl,s3,sG,hsum,hpe,hdr⟩;rw[<-tl,Qdo] at hsum;rw[Ym] at sG;refine⟨⟨_,Hi _,by rw[Jc,TN];exact Je _⟩,nx _ _ ⟨x6,x7,?_,s3,sG⟩⟩;rw[<-hsum];rfl
 rintro σ H3 ⟨x6,x7,rfl,s3,sG⟩;have Zo:=s1.trans s3;refine⟨_,rfl,l,_,rfl,.inl ⟨bA.of sG,fun bp H4 n4 =>?_⟩⟩;refine⟨_,rfl,by show 2<=Wp;decide,fun tq H5 n5 =>?_⟩;exact q tq bp H5 (Zo.trans (n4.same.trans n5.same)) (bG.of n5.at) (bG.of (n5.same _ _ n4.at))
def kM:aA ["form", "text", "place", "bare", "end"] ["form", "text", "place"] (ak (top oj)):=⟨rfl,rfl,rfl,∅,rfl,∅,∅⟩
def LM (F:bM K "bare_at" "bare_at" (top oj) f fd)(T:Nm mg)(Qs:BF K C)(Dr:Mk K C fi)(qX:mg "Reader" = some (.ref C))(we:aW P w K mg base d7 2 fi JY ["self", "form"] (Hn K CF C))(wL:Binds K JY ["self", "form"] [])
  (jb:xJ K C "bare_from" fb) (vS:aW P w K mg base d7 5 fb Z0 ["self", "text", "place"] (IP K C)) (vD:Binds K Z0 ["self", "text", "place"] []):aW P w K mg base d7 6 f fd ["form", "text", "place"] (zQ K CF):=by
 refine F.ok kM (fun vs H Q E h =>?_) (fun cQ A outer s H vs Q E hr h =>?_)
 ·obtain⟨m,Fo,wd,as,t,p,x,rfl,_⟩:=h
  rfl
 obtain⟨m,Fo,wd,as,t,p,x,rfl,fo,fr,ba,hj,ex,ah,q⟩:=h;have d6:=hr.units;refine⟨_,(af (j1 (v8 (CP Dr (we.mono (by first|decide|exact Je _)) (hr.mono (by first|decide|exact Je _)) rfl qX wL .nil uJ (aa (pv 0) ae)) Qs jb (vS.mono (by first|decide|exact Je _)) hr vD .nil uJ (aa (pv 1) (aa (pv 2) ae))) (tupK K 2 rfl (aM (aD (i:=3) kM.nd rfl (Qag rfl)) (aM (aD (i:=4) kM.nd rfl (Qag rfl)) bU))))
  (af (aY (aG xD (pv 3) bR (aK _)) (ag KO) aF)
  (ag (ar (eN (aa (pv 3) (aa (pv 4) ae))))))),?_⟩
 refine⟨_,rfl,fun rd dx hrd Rp Cf=>⟨H,rd,m,dx,Fo,rfl,kf (bI Rp _) hrd,hrd,au,fo,fr,fun H1 s1 r1=>⟨rfl,?_⟩⟩⟩;obtain⟨dx',w1,w2,w3,hm,l1,l2,l3⟩:=id r1;refine⟨rd,dx',_,rfl,hm,rfl,_,rfl,_,rfl,rd,Fo,wd,as,t,p,x,rfl,r1,fr,ba,hj,ex,ah,fun tp bp H2 s2 h1 h2 =>?_⟩;refine⟨tp,_,rfl,h1,rfl,_,_,rfl,_,_,rfl,rfl,?_⟩;refine⟨_,rfl,.inl ⟨rfl,_,rfl,?_⟩⟩;rw[decide_eq_false (nofun)];refine bC ?_;dsimp only[bK];refine⟨_,rfl,_,rfl,by show 2<=Wp;decide,fun tq H3 n3 =>?_⟩;exact q tq bp H3 (s1.trans (s2.trans n3.same)) (bG.of n3.at) (n3.same.cL h2)
end
def sV (ds:List Int)(n:Nat):Prop:=ds.length<=n/\∀d∈ds,d.natAbs<=1000000
def sV.app {xs ys:List Int}{n m:Nat}(h:sV xs n)(g:sV ys m):sV (xs++ys) (n+m):=
 ⟨by rw[Jw];have:=h.1;have:=g.1;lia,fun d hd=>(Uq.mp hd).elim (h.2 d) (g.2 d)⟩
def zZ:Sp:=fun vs H Q _=>tG fun(b c:Gc) (t:Int) (k:Nat)=>vs=[.ref b,.int (k:Nat)]/\2<=k/\k<=16/\Bx H b c t/\0<=t/\t<90000000 /\
 ∀(p:Gc) (ds:List Int) (H':Hp) (t':Int),sV ds 300->H' p=some (.lst (ds.map V.int))->p≠b->p≠c->Step b c H H' t t' 30->Q (.ref p) H'
def GP {k:Nat}(h:k<=15):(0:Int)<2^k/\(2:Int)^k<=32768:=by
 have:2^k<=2^15:=QcD ∅ h;have e:(2:Int)^k=((2^k:Nat):Int):=by push_cast;rfl
 have p0:0<2^k:=QeW _;lia
section
variable {P:Qaf}{w:Qah}{K:Ja}{mg:Str->Option Fk}{base:Heap}{f:Gc}{fd:Qad}
def cA:aA ["_law_state", "_law_many", "_law_half", "_law_some", "_law_power_here"] ["_law_state", "_law_many"] (ak (top fI)):=⟨rfl,rfl,rfl,∅,rfl,∅,∅⟩
def LH (F:bM K "_law_distances" "_law_distances" (top fI) f fd)(T:Nm mg)(bE:Fn P w K mg base 1 "_law_take" ["_law_state", "_law_many"] Bo)(cc:Fn P w K mg base 1 "_law_power" ["_law_many"] kC):aW P w K mg base d7 2 f fd ["_law_state", "_law_many"] zZ:=by
 refine F.ok cA (fun vs H Q E h =>?_) (fun cQ A outer s H vs Q E hr h =>?_)
 ·obtain⟨b,c,t,k,rfl,_⟩:=h
  rfl
 obtain⟨b,c,t,k,rfl,k1,k2,bx,t0,t1,q⟩:=h;refine⟨_,(af (aE (i:=2) cA.nd rfl (Qf9 rfl) (aH (cc.mono ∅) hr rfl (aa (aB cn (pv 1) ai) ae)))
  (af (aY (aG kB (pv 1) ai (aK _)) (ag (ar (tu rfl rfl T.n_list rfl T.n_range (aa (aB cn (aB cn ai (pv 2)) ai) (aa (aB cu (pv 2) ai) ae))))) aF)
  (af (aE (i:=3) cA.nd rfl (Qag rfl) (il (aa (aB cn (aB cn ai (pv 2)) ai) (aa (aB cn ai (pv 2)) (aa (aB cn ai (pv 2)) (aa (aB cn (pv 2) ai) (aa (aB cn (pv 2) ai) (aa (pv 2) (aa (oG jv ai) (aa (oG jv ai) (aa ai (aa ai ae))))))))))))
  (af (eJ Qaz rfl (fZ rfl T.n_range (aa (aB cn (pv 1) ai) ae)) (aD (i:=4) cA.nd rfl (Qag rfl)) (ag (aE (i:=3) cA.nd rfl (Qag rfl) (aB cu (pv 3) (il (aa (aH (cc.mono ∅) hr rfl (aa (pv 4) ae)) (aa (aB cn ai (aH (cc.mono ∅) hr rfl (aa (pv 4) ae))) (aa (aB cn (aH (cc.mono ∅) hr rfl (aa (pv 4) ae)) ai) ae))))))))
  (ag (ar (aB cu (pv 3) (gE rfl (dS (Nc:=["_law_k"]) (Fc:=["_law_half", "_law_state"]) (js:=[2,0])) (fZ rfl T.n_range (aa ai ae)) (cf (i:=0) (n:=1) ∅) (fun _ _ _ _ _=>(aD (i:=0) (zd ["_law_k", "_law_half", "_law_state"]) rfl (Qag rfl))) (fun _ _ _ _ _=>eF) (fun _ _ _ _ _=>(aB cn (aH (bE.mono ∅) hr rfl (aa (pv 2) (aa (aB rD ai (pv 1)) ae))) (pv 1))))))))))),?_⟩
 refine⟨_,rfl,_,_,rfl,rfl,k-1,?_,⋯,gn ?_⟩
 ·show[V.int ((k:Int)-1)]=[V.int ((k-1:Nat):Int)]
  rw[show(k:Int)-1=((k-1:Nat):Int) by lia]
 obtain⟨h0,h1⟩:=GP (show k-1<=15 by lia);have h9:k<9->(2:Int)^(k-1)<=128:=fun h=>by
  have:2^(k-1)<=2^7:=QcD ∅ ⋯;have e:(2:Int)^(k-1)=((2^(k-1):Nat):Int):=by push_cast;rfl
  lia
 generalize (2:Int)^(k-1)=hf at h0 h1 h9 ⊢;refine⟨_,rfl,_,_,rfl,rfl,_,rfl,?_⟩;refine gj (fun c9 =>?_) (fun c9 =>?_)
 ·have c9:(k:Int)<9:=of_decide_eq_true c9;have h9:=h9 ⋯;refine⟨_,rfl,_,_,rfl,rfl,_,_,rfl,rfl,_,rfl,.inl ⟨_,_,rfl,rfl,_,_,rfl,?_,?_,fun p H1 n1 =>?_⟩⟩
  ·show(0-hf-1).natAbs<=4000000;lia
  ·show(hf+1).natAbs<=4000000;lia
  obtain⟨pb,pc⟩:=bx.bb n1.nn;refine q p ((U3 (hf+1-(0-hf-1)).toNat).map fun i:Nat=>(0-hf-1)+(i:Int)) H1 t ⟨?_,fun d hd =>?_⟩ ?_ pb pc ((Step.same bx n1.same).more ⋯)
  ·rw[Jc,Y4];lia
  ·obtain⟨i,hi,rfl⟩:=Uu.mp hd;have hi:=List.mem_range.mp hi;lia
  ·rw[Yn];exact n1.at
 dsimp only[bK];refine nz (te:=_) (fun v H'=>eZ fun(p:Gc) (ds:List Int)=>v = .ref p/\sV ds 10/\H' p=some (.lst (ds.map V.int))/\p≠b/\p≠c/\Step b c H H' t t 0) (fun Qn qn =>?_) ?_
 ·refine⟨_,rfl,_,_,rfl,rfl,_,_,rfl,rfl,_,rfl,_,_,rfl,rfl,_,rfl,_,_,rfl,rfl,_,rfl,_,_,rfl,rfl,_,rfl,_,_,rfl,rfl,_,rfl,_,rfl,_,rfl,by show 10<=Wp;decide,fun p H1 n1 =>?_⟩;obtain⟨pb,pc⟩:=bx.bb n1.nn;refine qn _ _ ⟨p,[0-hf-1,0-hf,1-hf,hf-2,hf-1,hf,-2,-1,0,1],rfl,⟨by show 10<=10;decide,fun d hd =>?_⟩,n1.at,pb,pc,Step.same bx n1.same⟩;simp only[Jx,Yl,or_false] at hd
  rcases hd with rfl|rfl|rfl|rfl|rfl|rfl|rfl|rfl|rfl|rfl<;>lia
 rintro v H1 ⟨p1,ds1,rfl,Le,AA,pb1,pc1,xf⟩;refine gn ?_;refine fJ (t:=DU _ _ _) (fun σ H'=>∃(p:Gc) (ds:List Int) (x4:Option V),σ=[some (.ref b),some (.int (k:Nat)),some (.int hf),some (.ref p),x4]/\sV ds 60/\H' p=some (.lst (ds.map V.int))/\p≠b/\p≠c/\Step b c H H' t t 0) (fun Nx nx =>?_) ?_
 ·refine⟨_,rfl,_,_,rfl,rfl,(k-1:Nat),?_,⋯,⋯,?_⟩
  ·show[V.int ((k:Int)-1)]=[V.int ((k-1:Nat):Int)]
   rw[show(k:Int)-1=((k-1:Nat):Int) by lia]
  rw[Ut];refine ic (lo:=0) (n:=k-1) (fun i σ H'=>∃(p:Gc) (ds:List Int) (x4:Option V),σ=[some (.ref b),some (.int (k:Nat)),some (.int hf),some (.ref p),x4]/\sV ds (10+3*i)/\H' p=some (.lst (ds.map V.int))/\p≠b/\p≠c/\Step b c H H' t t 0) ⟨p1,ds1,_,rfl,Le,AA,pb1,pc1,xf⟩ ?_ ?_
  ·rintro i σ H2 hi ⟨p,ds,x4,rfl,hd,hp,pb,pc,kr⟩;obtain⟨g0,g1⟩:=GP (show i<=15 by lia);refine⟨_,rfl,_,rfl,i,?_,⋯,_,rfl,i,?_,⋯,_,_,rfl,rfl,_,rfl,i,?_,⋯,_,_,rfl,rfl,by show 3<=Wp;decide,fun p3 H3 n3 =>?_⟩
   ·rw[Qf0];rfl
   ·rw[Qf0];rfl
   ·rw[Qf0];rfl
   generalize (2:Int)^i=g at g0 g1 n3;obtain⟨pb3,pc3⟩:=kr.bx.bb n3.nn;have eQ:=kr.jk n3;have Kw:=n3.same _ _ hp;have d3:sV [g,0-g,g-1] 3:=⟨Je _,fun d hd=>by
    simp only[Jx,Yl,or_false] at hd
    rcases hd with rfl|rfl|rfl<;>lia⟩
   refine .inr (.inr ⟨p,p3,_,_,rfl,rfl,Kw,n3.at,?_,fun p4 H4 n4 =>?_⟩)
   ·rw[Jc];have:=hd.1;exact Jh (show ds.length+3<=100 by lia) ∅
   obtain⟨pb4,pc4⟩:=eQ.bx.bb n4.nn;refine⟨p4,ds++[g,0-g,g-1],_,rfl,?_,by rw[J4];exact n4.at,pb4,pc4,eQ.jk n4⟩;have:=hd.app d3;rw[show 10+3*(i+1)=10+3*i+3 by lia];exact this
  ·rintro σ H2 ⟨p,ds,x4,rfl,hd,hp,pb,pc,kr⟩;exact nx _ _ ⟨p,ds,_,rfl,⟨Jh hd.1 ⋯,hd.2⟩,hp,pb,pc,kr⟩
 rintro σ H2 ⟨p,ds,x4,rfl,hd,hp,pb,pc,kr⟩;refine⟨_,rfl,20,rfl,∅,∅,?_⟩;dsimp only;refine fc (N:=20) (fun i ys H'=>∃(es:List Int) (t':Int),ys=es.map V.int/\sV es i/\Step b c H2 H' t t' i) ⟨[],t,rfl,⟨Je _,fun _ h=>nomatch h⟩,(Step.refl kr.bx).more ⋯⟩ ?_ ?_
 ·rintro i ys H3 Nx hi ⟨es,t3,rfl,he,eQ⟩ nx;have YC:=eQ.ub;have YQ:=eQ.le;have hl:=he.1;refine⟨hi,Ub (show _<=100 by rw[Jc];lia) ∅,?_⟩;rintro x' H4 ⟨rfl,rfl⟩;refine gn ⟨_,rfl,_,rfl,.inl ⟨_,_,rfl,rfl,.inl ⟨∅,∅⟩,b,c,t3,2*hf,rfl,eQ.bx,⋯,⋯,⋯,⋯,fun r H5 r0 r1 dZ =>?_⟩⟩;refine⟨_,rfl,_,_,rfl,rfl,nx _ _ ⟨es++[r-hf],_,by rw[J4];rfl,he.app (m:=1) ⟨Je _,fun d hd =>?_⟩,(eQ.trans dZ).more ⋯⟩⟩;rw[Jz.mp hd];lia
 ·rintro ys H3 ⟨es,t3,rfl,he,eQ⟩;refine⟨Je _,fun p4 Sf =>?_⟩;obtain⟨H4,n4⟩:∃H4,hW H3 p4 (.lst (es.map V.int)) H4:=⟨_,Sf,rfl⟩
  rw[<-n4.eq];have jq:=eQ.jk n4;have Sf:=jq.old hp pb pc;have hl:=he.1;have xc:=hd.1;refine .inr (.inr ⟨p,p4,_,_,rfl,rfl,Sf,n4.at,?_,fun p5 H5 n5 =>?_⟩)
  ·rw[Jc,Jc];exact Jh (show ds.length+es.length<=100 by lia) ∅
  obtain⟨pb5,pc5⟩:=jq.bx.bb n5.nn;refine q p5 (ds++es) H5 t3 ⟨?_,(hd.app he).2⟩ (by rw[J4];exact n5.at) pb5 pc5 ((kr.trans (jq.jk n5)).more ⋯);rw[Jw];lia
end
def Fv:Option Str->Qae
 | some x =>.str x
 | none =>.tuple [.str "far",.int 0]
def jV.same {K:Ja}{CF:Gc}{H H':Hp}{m:Gc}{F:Fb}(h:jV K CF H m F)(s:av H H'):jV K CF H' m F:=iM.same h s
def uV (K:Ja)(C:Gc):Sp:=fun vs H Q _=>∃(e dx:Gc),vs=[.ref e]/\H e=some (mH e (.ref C) (some dx))/\H dx=some (.xd [("row",.int 0)])/\∀v H',av H H'->Den K H' (.tuple [.str "far",.int 0]) v->Q v H'
def pS (K:Ja)(CF:Gc):Sp:=fun vs H Q _=>zg fun(m p:Gc) (F:Fb) (w:Str) (as:List Arg)=>vs=[.ref m,.ref p]/\jV K CF H m F/\sE F/\sW w as/\bG K H p (.str w::as.map Arg.v)/\∀v H',av H H'->Den K H' (Fv (dA F w as)) v->Q v H'
section
variable {P:Qaf}{w:Qah}{K:Ja}{mg:Str->Option Fk}{base:Heap}{f:Gc}{fd:Qad}{C CF cO c1 c2 c3 c4 c5 c6 c7 gi:Gc}{V7:Qad}
def eK:aA ["_law_caught", "_law_told_here", "_law_word"] ["_law_caught"] (ak (top jB)):=⟨rfl,rfl,rfl,∅,rfl,∅,∅⟩
def Hl (F:bM K "_law_class" "_law_class" (top jB) f fd)(T:Nm mg)(jd:mg "ValueError" = none)(eU:mg "OddError" = some (.ref cO))(ij:mg "TooFar" = some (.ref C))(nL:mg "BadText" = some (.ref c1))(qE:mg "BadRow" = some (.ref c2))(sf:mg "NoName" = some (.ref c3))(ou:mg "NoPlace" = some (.ref c4))(kL:mg "NoTarget" = some (.ref c5))(iy:mg "NoForm" = some (.ref c6))(nq:mg "TooFull" = some (.ref c7))
  (O:jF K C) (S:kG K C "row") (kO:∀D∈[c1,c2,c3,c4,c5,c6,c7],Ug K (.ref C) (.ref D)=some false) (kV:Ug K (.ref C) (.type "ValueError")=some true) (kD:Ug K (.ref C) (.ref cO)=some true) :
  aW P w K mg base d7 1 f fd ["_law_caught"] (uV K C):=by
 refine F.ok eK (fun vs H Q E h =>?_) (fun cQ A outer s H vs Q E hr h =>?_)
 ·obtain⟨e,dx,rfl,_⟩:=h
  rfl
 obtain⟨e,dx,rfl,h0,JZ,q⟩:=h;have d6:=hr.units;have kk:∀{D:Gc},D∈[c1,c2,c3,c4,c5,c6,c7]->Ug K (.ref C) (.ref D)=some false:=fun h=>kO _ h;refine⟨_,(af (aE (i:=1) eK.nd rfl (Qag rfl) (il (aa (aq (sQ K) rfl T.n_isinstance (by rfl) (aa (pv 0) (aa (cy rfl nq) ae))) (aa (aq (sQ K) rfl T.n_isinstance (by rfl) (aa (pv 0) (aa (cy rfl ou) ae))) (aa (aq (sQ K) rfl T.n_isinstance (by rfl) (aa (pv 0) (aa (cy rfl sf) ae))) ae)))))
  (af (aE (i:=1) eK.nd rfl (Qag rfl) (aB cu (pv 1) (il (aa (aq (sQ K) rfl T.n_isinstance (by rfl) (aa (pv 0) (aa (cy rfl nL) ae))) (aa (aq (sQ K) rfl T.n_isinstance (by rfl) (aa (pv 0) (aa (cy rfl iy) ae))) (aa (aq (sQ K) rfl T.n_isinstance (by rfl) (aa (pv 0) (aa (cy rfl ij) ae))) ae))))))
  (af (aE (i:=1) eK.nd rfl (Qag rfl) (aB cu (pv 1) (il (aa (aq (sQ K) rfl T.n_isinstance (by rfl) (aa (pv 0) (aa (cy rfl kL) ae))) (aa (aq (sQ K) rfl T.n_isinstance (by rfl) (aa (pv 0) (aa (cy rfl qE) ae))) ae)))))
  (af (aY (PW.pt (jg (aG (IK K d6) (xg K QaP PySem.F.slot_list_count PySem.F.type_list_count PN (pv 1) (aa jH ae)) ai (aK _)) (jg (de (cp (aq (sQ K) rfl T.n_isinstance (by rfl) (aa (pv 0) (aa (cy rfl eU) ae))))) (gR (de (cp (aq (sQ K) rfl T.n_isinstance (by rfl) (aa (pv 0) (aa (bH rfl jd (by rfl) (v := .ty "ValueError") rfl) ae))))))))) (ag (ar (eN (aa ax (aa bR ae))))) aF)
  (af (aE (i:=2) eK.nd rfl (Qag rfl) (bJ (kq K) (xg K QaC Qdf Qde Bm ax (aa ax ae)) (xg K QaP PySem.F.slot_list_index PySem.F.type_list_index PH (pv 1) (aa jH ae)) (fun _ _=>rfl)))
  (af (aY (aG (qd K d6) (pv 2) ax (aK _)) (ag (ar (eN (aa (pv 2) (aa (qy K (pv 0)) ae))))) aF)
  (af (aY (aG (qd K d6) (pv 2) ax (aK _)) (ag (ar (eN (aa (pv 2) (aa (qy K (pv 0)) ae))))) aF)
  (ag (ar (eN (aa (pv 2) (aa (iz (aG (qd K d6) (pv 2) ax (aK _)) (qy K (pv 0)) bR) ae)))))))))))),?_⟩
 refine⟨_,rfl,e,C,some dx,_,_,false,rfl,h0,O,rfl,kk (by simp),_,rfl,e,C,some dx,_,_,false,rfl,h0,O,rfl,kk (by simp),_,rfl,e,C,some dx,_,_,false,rfl,h0,O,rfl,kk (by simp),by show 3<=Wp;decide,fun l1 H2 n2=>gn ?_⟩;have h2:=n2.same _ _ h0;refine⟨_,rfl,_,rfl,e,C,some dx,_,_,false,rfl,h2,O,rfl,kk (by simp),_,rfl,e,C,some dx,_,_,false,rfl,h2,O,rfl,kk (by simp),_,rfl,e,C,some dx,_,_,true,rfl,h2,O,rfl,IH,by show 3<=Wp;decide,fun l2 H3 n3 =>?_⟩;have h3:=n3.same _ _ h2;refine .inr (.inr ⟨l1,l2,_,_,rfl,rfl,n3.same _ _ n2.at,n3.at,by show 6<=Wp;decide,fun l3 H4 n4=>gn ?_⟩);have h4:=n4.same _ _ h3;refine⟨_,rfl,_,rfl,e,C,some dx,_,_,false,rfl,h4,O,rfl,kk (by simp),_,rfl,e,C,some dx,_,_,false,rfl,h4,O,rfl,kk (by simp),by show 2<=Wp;decide,fun l4 H5 n5 =>?_⟩;have h5:=n5.same _ _ h4;refine .inr (.inr ⟨l3,l4,_,_,rfl,rfl,n5.same _ _ n4.at,n5.at,by show 8<=Wp;decide,fun l5 H6 n6=>gn ?_⟩);have h6:=n6.same _ _ h5;have s6:av H H6:=n2.same.trans (n3.same.trans (n4.same.trans (n5.same.trans n6.same)));have hx6:=s6 _ _ JZ;refine⟨_,rfl,.inl ⟨rfl,_,bA.of n6.at⟩,l5,[false,false,false,false,false,true,false,false],rfl,rfl,n6.at,.inl ⟨rfl,_,rfl,bC ?_⟩⟩;refine⟨_,rfl,e,C,some dx,_,_,true,rfl,h6,O,rfl,kD,_,rfl,bC ⟨_,rfl,e,C,some dx,_,_,true,rfl,h6,O,rfl,kV,_,rfl,bC ?_⟩⟩;dsimp only[bK];have Nf:Qcd (Qaa "full place name text form far target row") (Qaa " ")=(["full", "place", "name", "text", "form", "far", "target", "row"]:List Str):=∅;have sl:(Qaa " ").length≠0:=∅;refine⟨rfl,_,_,rfl,rfl,sl,∅,by rw[Nf];decide,fun p H7 n7 =>?_⟩;rw[Nf] at n7;refine⟨_,rfl,.inl ⟨rfl,_,bA.of (n7.same _ _ n6.at)⟩,l5,[false,false,false,false,false,true,false,false],5,rfl,rfl,n7.same _ _ n6.at,rfl,fun m hm =>?_,?_⟩
 ·match m,hm with
  | 0,_=>exact nofun
  | 1,_=>exact nofun
  | 2,_=>exact nofun
  | 3,_=>exact nofun
  | 4,_=>exact nofun
 refine .inl ⟨p,_,_,.str "far",rfl,rfl,bA.of n7.at,rfl,gn ?_⟩;have h7:=n7.same _ _ h6;have hx7:=n7.same _ _ hx6;refine⟨_,rfl,.inl ⟨rfl,_,rfl,fO ?_⟩⟩;refine⟨_,rfl,.inl ⟨rfl,_,rfl,fO ?_⟩⟩;refine⟨_,rfl,_,rfl,.inl ⟨rfl,_,rfl,wu ?_⟩⟩;refine⟨_,rfl,e,C,dx,_,.int 0,rfl,h7,hx7,rfl,O,S,.inl ⟨_,rfl⟩,by show 2<=Wp;decide,fun tq H8 n8=>q _ H8 (s6.trans (n7.same.trans n8.same)) ?_⟩;exact Cu n8.at (bQ wm (bQ sR oK))
def dY:aA ["_law_form_here", "_law_bare", "_law_found", "_law_caught", "error"] ["_law_form_here", "_law_bare"] (ak (top kN)):=⟨rfl,rfl,rfl,∅,rfl,∅,∅⟩
def Fz (F:bM K "_law_told" "_law_told" (top kN) f fd)(T:Nm mg)(eU:mg "OddError" = some (.ref cO))(Vv:PySem.W.exmOne K (.ref C) (.ref cO)=some true)(Av:BN P w K mg base 5 "put_bare" ["form", "bare"] (Nq K CF C))(yy:Fn P w K mg base 1 "_law_class" ["_law_caught"] (uV K C)):
  aW P w K mg base d7 6 f fd ["_law_form_here", "_law_bare"] (pS K CF):=by
 refine F.ok dY (fun vs H Q E h =>?_) (fun cQ A outer s H vs Q E hr h =>?_)
 ·obtain⟨m,p,Fo,wd,as,rfl,_⟩:=h
  rfl
 obtain⟨m,p,Fo,wd,as,rfl,fo,fr,ba,hp,q⟩:=h;have d6:=hr.units;refine⟨_,(af (j1 (eN (aa bR (aa bR ae))) (tupK K 2 rfl (aM (aD (i:=2) dY.nd rfl (Qag rfl)) (aM (aD (i:=3) dY.nd rfl (Qag rfl)) bU))))
  (af (Lm (j:=4) rfl rfl dY.nd rfl rfl rfl eU (fun _ _ _=>(ag (aE (i:=2) dY.nd rfl (Qag rfl) (O8 (Av.mono (by first|decide|exact Je _|lia)) hr rfl (aa (pv 0) (aa (pv 1) ae)))))) (fun _=>(ag (aE (i:=3) dY.nd rfl (Qag rfl) (pv 4)))))
  (ag (ar (iz (aG xD (pv 3) bR (aK _)) (pv 2) (aH (yy.mono ∅) hr rfl (aa (pv 3) ae))))))),?_⟩
 refine⟨by show 2<=Wp;decide,fun t0 H0 n0=>⟨t0,_,rfl,bG.of n0.at,rfl,_,_,rfl,_,_,rfl,rfl,?_⟩⟩;dsimp only;have Ho:=n0.same.cL hp;have fo0:=fo.same n0.same;refine fJ (t:=MP _ _ _ _ _) (fun σ H'=>(∃x:Str,σ=[some (.ref m),some (.ref p),some (.str x),some .non,none]/\dA Fo wd as=some x/\av H0 H')\/(∃(e dx:Gc),σ=[some (.ref m),some (.ref p),some .non,some (.ref e),none]/\dA Fo wd as=none/\av H0 H'/\H' e=some (mH e (.ref C) (some dx))/\H' dx=some (.xd [("row",.int 0)]))) (fun Nx nx =>?_) ?_
 ·refine⟨fun cls d H'=>∃(dx:Gc),cls = .ref C/\d=some dx/\dA Fo wd as=none/\av H0 H'/\H' dx=some (.xd [("row",.int 0)]),?_,?_⟩
  ·refine⟨rfl,_,rfl,_,rfl,m,p,Fo,wd,as,rfl,fo0,fr,ba,Ho,?_⟩;cases ep:dA Fo wd as with
   | some x=>exact fun H' s'=>gn (nx _ _ (.inl ⟨x,rfl,ep,s'⟩))
   | none=>exact fun ex H' s' hx=>⟨ex,rfl,rfl,rfl,s',hx⟩
  ·rintro cls d H' ⟨dx,rfl,rfl,hb,sm,hx⟩;refine⟨Vv,fun e he =>?_⟩;have JZ:upd H' e (mH e (.ref C) (some dx)) dx=some (.xd [("row",.int 0)]):=by rw[ao (ay hx he)];exact hx
   exact⟨_,rfl,gn (nx _ _ (.inr ⟨e,dx,rfl,hb,sm.trans (bI he _),au,JZ⟩))⟩
 ·rintro σ H1 (⟨x,rfl,he,s1⟩|⟨e,dx,rfl,he,s1,h0,JZ⟩)
  ·refine⟨_,rfl,.inl ⟨rfl,_,rfl,bN ?_⟩⟩;refine⟨_,rfl,q _ H1 (n0.same.trans s1) ?_⟩;rw[he];exact wm
  ·refine⟨_,rfl,.inl ⟨rfl,_,rfl,bC ?_⟩⟩;refine⟨_,rfl,e,dx,rfl,h0,JZ,fun v H' s2 hd=>q _ H' (n0.same.trans (s1.trans s2)) ?_⟩;rw[he];exact hd
end
def Ii:Fk->Str
 | .str x _=>x
 | _ => "?"
def uc {Pm:Params}{P:Qaf}{w:Qah}:∀{l:List QdO},Qdj Pm l->Pairs (QdZ P w) l (l.map fun e=>(Ii e.key,e.val))
 | [],_ =>.nil
 | e::l,h=>by
  obtain⟨⟨x,t,e1,_⟩,h2⟩:=h;refine .cons ?_ rfl (uc h2);show(QdZ P w).is (Ii e.key) e.key=true;rw[e1];exact PySem.strKind_is P w x t
def yW {l:List QdO}:(l.map fun e=>(Ii e.key,e.val)).map (·.1)=l.map fun e=>Ii e.key:=by rw[Yn];rfl
def Ik:Arg->Qae
 | .sp x =>.str x | .nu n =>.int (n:Nat) | .ma n =>.int (n:Nat) | .ne d =>.int d | .fa d =>.int d
def Iw (w:Str)(as:List Arg):Qae := .tuple (.str w::as.map Ik)
def fY {K:Ja}{H:Hp}:∀as:List Arg,aV K H (as.map Ik) (as.map Arg.v)
 | []=>oK
 | .sp x::as=>bQ wm (fY as)
 | .nu n::as=>bQ sR (fY as)
 | .ma n::as=>bQ sR (fY as)
 | .ne n::as=>bQ sR (fY as)
 | .fa n::as=>bQ sR (fY as)
def Lz {K:Ja}{H:Hp}{a:Gc}{w:Str}{as:List Arg}(h:bG K H a (.str w::as.map Arg.v)):Den K H (Iw w as) (.ref a):=by
 unfold Iw Den;exact⟨a,_,rfl,h,bQ wm (fY _)⟩
def B5 {K:Ja}{H:Hp}{a b:Gc}{n:Int}{w:Str}{as:List Arg}(h:bG K H a [.ref b,.int n])(g:bG K H b (.str w::as.map Arg.v)):Den K H (.tuple [Iw w as,.int n]) (.ref a):=by
 unfold Den;exact⟨a,_,rfl,h,bQ (Lz g) (bQ sR oK)⟩
def mO {i:Int}(h:i.natAbs<=1000000):i.natAbs<10^40:=Ub h ∅
def OT {w:Str}{as:List Arg}(ba:sW w as)(n:Nat)(hn:n<=1000000):Gd 1000 2 (.tuple [Iw w as,.int (n:Nat)]):=by
 have hx:∀x∈aI,kz x=true/\x.length<=201:=∅;obtain⟨q,hq,ew,ek⟩:=ba.pt;obtain⟨pk,al⟩:=gz q hq;rw[<-ek,Jc] at al;rw[<-ew] at pk;have ga:∀a∈as,Gd 201 0 (Ik a):=fun a ha=>by
  have h:=ba.ok a ha;cases a with
  | sp x=>
   have hx:∀x∈bS,kz x=true/\x.length<=201:=∅;exact Gd.str (hx x h).1 (hx x h).2
  | nu n=>exact Gd.int (mO (show n<=1000000 from Jh h ∅)) (Je _)
  | ma n=>exact Gd.int (mO (show n<=1000000 from Jh h ∅)) (Je _)
  | ne n=>exact Gd.int (mO h) (Je _)
  | fa n=>exact Gd.int (mO h) (Je _)
 have gs:∀as:List Arg,(∀a∈as,Gd 201 0 (Ik a))->Gs (202*as.length) 0 (as.map Ik):=by
  intro as
  induction as with
  | nil=>exact fun _=>Gs.nil.mono (Uw _) (Je _)
  | cons a as ih=>
   intro h;refine(Gs.cons (h a Jo) (ih fun x hx=>h x (Jl _ hx))).mono ?_ (Je _);rw[Jr,Nat.mul_succ];lia
 have g1:=(Gs.cons (Gd.str (dp:=0) (hx _ pk).1 (hx _ pk).2) (gs as ga)).tuple;refine((Gs.cons g1 (Gs.one (Gd.int (i:=((n:Nat):Int)) (mO (show n<=1000000 from hn)) (Je _)))).tuple).mono ?_ (Je _);lia
def Ci {d:Int}{k:Nat}{x:Str}(k1:1<=k)(h:jU d k=some x):d=if (2:Int)^(k-1)<=(ko (sg x):Nat) then ((ko (sg x):Nat):Int)-2^k else (ko (sg x):Nat):=by
 unfold jU at h;have fw:inD d k=true:=by
  cases c:inD d k with
  | true=>rfl
  | false=>rw[c] at h;cases h
 rw[if_pos fw] at h;cases h;have p2:(2:Int)^k=2*2^(k-1):=by
  rw[show k=(k-1)+1 by lia,Qcm,QcQ];rfl
 have ek:((2^k:Nat):Int)=2^k:=by push_cast;rfl
 unfold inD at fw;rw[Js,decide_eq_true_eq,decide_eq_true_eq] at fw;obtain⟨hn1,L5⟩:=fw;obtain⟨v,hv⟩:∃v:Nat,v=(if d<0 then d+2^k else d).toNat:=⟨_,rfl⟩
 have Qa:((v:Nat):Int)=if d<0 then d+2^k else d:=by rw[hv];split<;>lia
 rw[<-hv];have iC:v<2^k:=by
  have:((v:Nat):Int)<2^k:=by rw[Qa];split<;>lia
  lia
 have nv:ko (sg (dC v k))=v:=(qb k v).trans (Nat.mod_eq_of_lt iC);rw[nv,Qa]
 split
 ·rw[if_pos ⋯];lia
 ·rw[if_neg ⋯]
def Ab {F:Fb}{w:Str}(xs:List Str){a:Arg}{x:Str}(h:dA F w (xs.map Arg.sp++[a])=some x):∃y,dR F a=some y/\sg x=sg (aU F.b1 w)++((xs.map (aU F.b2)).flatMap sg++sg y):=by
 unfold dA at h;rw[my] at h;have:bT F [a]=(dR F a).map fun y=>[y]:=by
  show(match dR F a with|none=>none|some x=>(some []).map (x :: ·))=_;cases dR F a<;>rfl
 rw[this] at h;cases e:dR F a with
 | none=>rw[e] at h;cases h
 | some y=>
  rw[e] at h;cases h;refine⟨y,rfl,?_⟩;show(Qa0 "" (aU F.b1 w::(xs.map (aU F.b2)++[y]))).cps.toList=_;rw[cH,Wh,List.flatMap_append,Wh];show _++(_++(sg y++[]))=_;rw[Uv]
def sI (F:Fb)(w:Str):Nat:=if mz w=true then F.eP else F.near
def xb {F:Fb}{w:Str}{d:Int}:dR F (cP w d)=jU d (sI F w):=by
 unfold sI cP;cases mz w<;>rfl
def LS {F:Fb}{w:Str}(xs:List Str){d d':Int}{x:Str}(k1:1<=sI F w)(h:dA F w (xs.map Arg.sp++[cP w d])=some x)(h':dA F w (xs.map Arg.sp++[cP w d'])=some x):d=d':=by
 obtain⟨y,e1,e2⟩:=Ab xs h;obtain⟨y',e1',e2'⟩:=Ab xs h';rw[xb] at e1 e1';have e3:=Qfy (Qfy (e2.symm.trans e2'));rw[Ci k1 e1,Ci k1 e1',show ko (sg y)=ko (sg y') by rw[e3]]
def Gb {F:Fb}{w:Str}(xs:List Str){d:Int}(h:inD d (sI F w)=false):dA F w (xs.map Arg.sp++[cP w d])=none:=by
 cases e:dA F w (xs.map Arg.sp++[cP w d]) with
 | none=>rfl
 | some x=>
  obtain⟨y,e1,_⟩:=Ab xs e;rw[xb] at e1;unfold jU at e1;rw[h] at e1;cases e1
def I0 {F:Fb}{w:Str}(xs:List Str){d:Int}(h:inD d (sI F w)=true):∃x,dA F w (xs.map Arg.sp++[cP w d])=some x:=by
 unfold dA;rw[my];have:bT F [cP w d]=some [dC ((if d<0 then d+2^sI F w else d).toNat) (sI F w)]:=by
  show(match dR F (cP w d) with|none=>none|some x=>(some []).map (x :: ·))=_;rw[xb];unfold jU;rw[if_pos h];rfl
 rw[this];exact⟨_,rfl⟩
def K0 {F:Fb}(fr:sE F){w:Str}{as:List Arg}(b:sW w as){x:Str}(e:dA F w as=some x):x.length<=100:=by
 unfold dA at e;cases ea:bT F as with
 | none=>rw[ea] at e;cases e
 | some ts=>
  rw[ea] at e;obtain⟨tl,tsum⟩:=mZ fr b.ok ea;obtain⟨q,hq,_,ek⟩:=b.pt;have al:=(gz q hq).2;rw[<-ek,Jc] at al;have jl:=mE (aU F.b1 w::ts);rw[J3,Yq] at jl;have c1:=fr.c1 w;cases e;show(Qa0 "" (aU F.b1 w::ts)).length<=100;lia
def Mq {r:Int}(h0:0<=r)(h1:r<4):∃c,Ed (Qaa "abcd").cps.toList r=some c/\(⟨#[c]⟩:Str)∈bS:=by
 have:r=0\/r=1\/r=2\/r=3:=by lia
 rcases this with rfl|rfl|rfl|rfl
 ·exact⟨97,∅,∅⟩
 ·exact⟨98,∅,∅⟩
 ·exact⟨99,∅,∅⟩
 ·exact⟨100,∅,∅⟩
def B3 (K:Ja):Sp:=fun vs H Q _=>∃(a:Gc) (ns:List Int),vs=[.ref a]/\bA K H a (ns.map V.int)/\ns.length<=63/\∀H',Q (.bl true) H'
def Fm {K:Ja}{H:Hp}{qB uW wD:List (Str×Str)}{near eP:Int}{v1 v2 v3 v4 v5:V}(g:Good3 qB uW wD near eP)(h:aV K H [aO qB,aO uW,aO wD,.int near,.int eP] [v1,v2,v3,v4,v5]):xn K H v1 v2 v3 v4 v5 (aO qB) (aO uW) (aO wD) (.int near) (.int eP):=by
 have at':∀(i:Nat) d v,([aO qB,aO uW,aO wD,.int near,.int eP]:List Qae)[i]? = some d->([v1,v2,v3,v4,v5]:List V)[i]? = some v->Den K H d v:=fun i d v e1 e2=>lj h e1 e2;have ft:∀{bk:List (Str×Str)},(∀q∈bk,kz q.1=true/\kz q.2=true/\q.1.length<=8/\q.2.length<=11)->bk.length<=11->MJ (aO bk):=fun{bk} sh hl=>
  MJ.of (w:=243) (dp:=2) (((Cr (w:=22) fun q hq=>by obtain⟨a,b,c,d⟩:=sh q hq;exact⟨a,b,⋯⟩).mono ⋯ (Je _)).list) ∅ ∅ (by show(bk.map fu).length<=60;rw[Jc];lia)
 have h1:=g.l1;have h2:=g.l2;have h3:=g.l3;exact⟨at' 0 _ _ rfl rfl,at' 1 _ _ rfl rfl,at' 2 _ _ rfl rfl,at' 3 _ _ rfl rfl,at' 4 _ _ rfl rfl,ft (fun q hq=>g.sz q (.inl hq)) ⋯,ft (fun q hq=>g.sz q (.inr (.inl hq))) ⋯,ft (fun q hq=>g.sz q (.inr (.inr hq))) ⋯⟩
def Ar (bk:List (Str×Str)):Qf (LU (aO bk))=true:=by
 show zN (bk.map fu)=true
 induction bk with
 | nil=>rfl
 | cons q bk ih=>
  show(Qf (fu q)&&zN (bk.map fu))=true;rw[ih]
  rfl
def C2 {K:Ja}{CF:Gc}{H:Hp}{b c m:Gc}{t:Int}{F:Fb}(bx:Bx H b c t)(mb:m≠b)(mc:m≠c)(h:jV K CF H m F):jV K CF (hM H b c) m F:=by
 obtain⟨dx,w1,w2,w3,w4,w5,e,h1,h2,h3,h4,h5⟩:=h;exact⟨dx,w1,w2,w3,w4,w5,by rw[cS mb mc];exact e,Den.hide bx (Ar F.b1) h1,Den.hide bx (Ar F.b2) h2,Den.hide bx (Ar F.b3) h3,Den.hide bx rfl h4,Den.hide bx rfl h5⟩
def El (w y:Str):List Str:=if w = "jump" \/ w = "farjump" then [] else [y]
def Tf {w y:Str}{d:Int}(hw:w∈dG)(hy:y∈bS)(hd:d.natAbs<=1000000):sW w ((El w y).map Arg.sp++[cP w d])/\∀a∈(El w y).map Arg.sp++[cP w d],Jp a:=by
 have hk:∀w∈dG,(w = "jump" \/ w = "farjump" -> ∃q∈i9,w=q.1/\q.2=[if mz w=true then Qaa "far" else Qaa "near"])/\(¬(w = "jump" \/ w = "farjump")->∃q∈i9,w=q.1/\q.2=[Qaa "spot",if mz w=true then Qaa "far" else Qaa "near"]):=∅;obtain⟨k1,k2⟩:=hk w hw;have ea:(cP w d).kind=if mz w=true then Qaa "far" else Qaa "near":=by unfold cP;split<;>rfl
 have eo:(cP w d).ok/\Jp (cP w d):=by unfold cP;split<;>exact⟨hd,trivial⟩
 unfold El
 by_cases c:w = "jump" \/ w = "farjump"
 ·rw[if_pos c];obtain⟨q,h1,h2,h3⟩:=k1 c;refine⟨⟨⟨q,h1,h2,?_⟩,fun a ha =>?_⟩,fun a ha =>?_⟩
  ·rw[h3,<-ea];rfl
  ·rw[Jz.mp ha];exact eo.1
  ·rw[Jz.mp ha];exact eo.2
 ·rw[if_neg c];obtain⟨q,h1,h2,h3⟩:=k2 c;refine⟨⟨⟨q,h1,h2,?_⟩,fun a ha =>?_⟩,fun a ha =>?_⟩
  ·rw[h3,<-ea];rfl
  ·rcases Jx.mp ha with rfl|ha
   ·exact hy
   ·rw[Jz.mp ha];exact eo.1
  ·rcases Jx.mp ha with rfl|ha
   ·trivial
   ·rw[Jz.mp ha];exact eo.2
def S3 (w y:Str)(d:Int):((El w y).map Arg.sp++[cP w d]).map Arg.v=(El w y).map V.str++[.int d]:=by
 have ev:(cP w d).v = .int d:=by unfold cP;split<;>rfl
 rw[J4,Yn,J3,ev];rfl
def putD {H H':Hp}{d:Gc}{o:HO}(s:av (mF H d) H'):av (mF H d) (upd H' d o):=fun a u e=>by
 have n:a≠d:=fun z=>by rw[z,fk] at e;cases e
 rw[ao n];exact s _ _ e
section
variable {P:Qaf}{w:Qah}{K:Ja}{mg:Str->Option Fk}{base:Heap}{f:Gc}{fd:Qad}{C CF:Gc}
def fD:aA ["_law_script", "_law_state", "_law_parts_here", "_law_form_here", "_law_spot", "_law_word", "_law_many", "_law_half", "_law_met", "_law_distance", "_law_bare", "_law_text"] ["_law_script"] (ak (top hV)):=⟨rfl,rfl,rfl,∅,rfl,∅,∅⟩
def OX (F:bM K "law" "law" (top hV) f fd)(T:Nm mg)(yR:Fn P w K mg base 1 "_law_begin" ["_law_script"] (wM K))(bE:Fn P w K mg base 1 "_law_take" ["_law_state", "_law_many"] Bo)(yr:Fn P w K mg base 4 "_law_parts" ["_law_state"] (HX K))(Aw:Fn P w K mg base 9 "_law_form" ["_law_parts_here"] (JP K CF))(gw:Fn P w K mg base 1 "_law_far_word" ["_law_word"] wc)(cc:Fn P w K mg base 1 "_law_power" ["_law_many"] kC)(oV:Fn P w K mg base 2 "_law_distances" ["_law_state", "_law_many"] zZ)(zH:Fn P w K mg base 6 "_law_told" ["_law_form_here", "_law_bare"] (pS K CF))(Fy:Fn P w K mg base 2 "_law_put" ["_law_parts_here", "_law_bare"] (Nw K))(DI:Fn P w K mg base 6 "bare_at" ["form", "text", "place"] (zQ K CF))(lK:Fn P w K mg base 8 "_law_same" ["_law_found", "_law_due"] (vU K 8)):
  aW P w K mg base d7 10 f fd ["_law_script"] (B3 K):=by
 refine F.ok fD (fun vs H Q E h =>?_) (fun cQ A outer s H vs Q E hr h =>?_)
 ·obtain⟨a,ns,rfl,_⟩:=h
  rfl
 obtain⟨a,ns,rfl,hS,hlen,q⟩:=h;have d6:=hr.units;have hu:=mn hr;have hu1:=hu;have aab:=Kk hr;refine⟨_,(af (aE (i:=1) fD.nd rfl (Qag rfl) (aH (yR.mono ∅) hr rfl (aa (pv 0) ae)))
  (af (aE (i:=2) fD.nd rfl (Qag rfl) (aH (yr.mono ∅) hr rfl (aa (pv 1) ae)))
  (af (aE (i:=3) fD.nd rfl (Qag rfl) (aH (Aw.mono ∅) hr rfl (aa (pv 2) ae)))
  (af (aE (i:=4) fD.nd rfl (Qag rfl) (bJ (kq K) ax (aH (bE.mono ∅) hr rfl (aa (pv 1) (aa ai ae))) (fun _ _=>rfl)))
  (af (eJ Qaz rfl (gO K (eN (aa ax (aa ax (aa ax (aa ax ae)))))) (aD (i:=5) fD.nd rfl (Qag rfl)) (af (aE (i:=6) fD.nd rfl (Qag rfl) (bJ (kq K) (pv 2) (aB cu ai (bh tK rfl T.n_int (by rfl) (aa (aH (gw.mono ∅) hr rfl (aa (pv 5) ae)) ae))) (fun _ _=>rfl)))
  (af (aE (i:=7) fD.nd rfl (Qag rfl) (aH (cc.mono ∅) hr rfl (aa (aB cn (pv 6) ai) ae)))
  (af (aE (i:=8) fD.nd rfl (Qag rfl) TK)
  (ag (eJ Qaz rfl (MY K (aH (oV.mono ∅) hr rfl (aa (pv 1) (aa (pv 6) ae)))) (aD (i:=9) fD.nd rfl (Qag rfl)) (af (aE (i:=10) fD.nd rfl (Qag rfl) (iz (aG (XO K) (pv 5) (eN (aa ax (aa ax ae))) (by with_unfolding_all rfl)) (eN (aa (pv 5) (aa (pv 9) ae))) (eN (aa (pv 5) (aa (pv 4) (aa (pv 9) ae))))))
  (af (aE (i:=11) fD.nd rfl (Qag rfl) (aH (zH.mono ∅) hr rfl (aa (pv 3) (aa (pv 10) ae))))
  (af (aY (de (qO oM kB (aB cn ai (pv 7)) (pv 9) (pv 7))) (af (aY (aG (IK K d6) (pv 11) (eN (aa ax (aa ai ae))) (aK _)) (ag (ar jH)) aF)
  (ag xS)) aF)
  (af (aY (PW.pt (jg (de (cp (aq (jo K) rfl T.n_isinstance (by rfl) (aa (pv 11) (aa (bH rfl T.n_str (by rfl) (v := .ty "str") rfl) ae))))) (gR (aG (IK K d6) (Gf hu1 (pv 8) (pv 11) (pv 9) ⟨rfl,rfl,rfl,rfl⟩) (pv 9) (aK _))))) (ag (ar jH)) aF)
  (af (pH hu (pv 8) (pv 11) (pv 9) rfl)
  (ag (aY (PW.pt (jg (aG (IK K d6) (pv 11) (aH (Fy.mono ∅) hr rfl (aa (pv 2) (aa (pv 10) ae))) (aK _)) (gR (de (cp (aH (lK.mono ∅) hr rfl (aa (aH (DI.mono ∅) hr rfl (aa (pv 3) (aa (pv 11) (aa ai ae)))) (aa (eN (aa (pv 10) (aa (aq (hX K) rfl T.n_len (by rfl) (aa (pv 11) ae)) ae))) ae)))))))) (ag (ar jH)) aF)))))))))))))
  (ag (ar jH))))))),?_⟩
 refine⟨_,rfl,a,ns,rfl,hS,hlen,fun b c H1 zy hb hc sm1 =>?_⟩;refine gn ?_;refine⟨_,rfl,b,c,0,rfl,zy,⋯,⋯,fun l r1 r2 r3 qB uW wD near eP H3 t3 gd3 hl0 tf hD eQ=>gn ?_⟩;obtain⟨lb,lc⟩:=zy.bb hl0;have sG:hM H3 b c l=some (.lst [r1,r2,r3,.int near,.int eP]):=by rw[cS lb lc];exact tf
 have hD5:aV K (hM H3 b c) [aO qB,aO uW,aO wD,.int near,.int eP] [r1,r2,r3,.int near,.int eP]:=bQ (lj (j:=0) hD rfl rfl) (bQ (lj (j:=1) hD rfl rfl) (bQ (lj (j:=2) hD rfl rfl) (bQ sR (bQ sR oK))));have fv:=Fm gd3 hD5;refine⟨_,rfl,l,r1,r2,r3,.int near,.int eP,_,_,_,_,_,rfl,bA.of tf,⟨fv.e1.same jG,fv.e2.same jG,fv.e3.same jG,fv.e4.same jG,fv.e5.same jG,fv.f1,fv.f2,fv.f3⟩,gd3.why,fun m H4 s4 hm0 fo=>gn ?_⟩;obtain⟨mb,mc⟩:=eQ.bx.bb hm0;have jq:=eQ.trans (Step.same eQ.bx s4);obtain⟨fr,en,ef⟩:=gd3.frm;rw[en,ef] at sG fo;generalize hF:(⟨qB,uW,wD,near.toNat,eP.toNat⟩:Fb)=Fo at fr;have fo:jV K CF H4 m Fo:=by rw[<-hF];exact fo
 have fo:=C2 jq.bx mb mc fo;have hP:uu K (hM H4 b c) l Fo:=by
  refine uu.same ?_ (av.hM (b:=b) (c:=c) s4);rw[<-hF];exact⟨r1,r2,r3,bA.of sG,hD⟩
 clear hF fv gd3 en ef hD hD5 sG tf eQ s4;have Xk:=jq.ub;have WA:=jq.le;refine⟨_,rfl,b,c,t3,4,rfl,jq.bx,⋯,⋯,∅,∅,fun r5 H5 r50 r51 dZ =>?_⟩;obtain⟨c5,e5,hy⟩:=Mq r50 r51;refine .inr (.inr ⟨_,_,c5,rfl,rfl,∅,e5,gn ?_⟩);clear r50 r51 e5;generalize (⟨#[c5]⟩:Str)=y at hy ⊢;have hP:=hP.same dZ.sm;have fo:=fo.same dZ.sm;have dZ:=jq.trans dZ;refine⟨by show 4<=Wp;decide,fun T6 H6 n6=>⟨T6,rfl,⟨_,bG.of n6.at⟩,?_⟩⟩;obtain⟨Tb,Tc⟩:=dZ.bx.bb n6.nn;have hT6:hM H6 b c T6=some (.tup (dG.map V.str)):=by rw[cS Tb Tc];exact n6.at
 have s6:=(Step.same dZ.bx n6.same).sm;have hP:=hP.same s6;have fo:=fo.same s6;have sL:=dZ.jk n6;clear jq dZ s6 Xk WA;have ub6:=sL.ub;have lo6:=sL.le;refine j4 (N:=4) (fun i σ H'=>∃(t':Int) (x5 x6 x7 x8 x9 Qo Qp:Option V),σ=[some (.ref a),some (.ref b),some (.ref l),some (.ref m),some (.str y),x5,x6,x7,x8,x9,Qo,Qp]/\Step b c H6 H' (t3+1) t' (30*i)) ⟨_,_,_,_,_,_,_,_,rfl,(Step.refl sL.bx).more ⋯⟩ ?_ ?_
 ·rintro i σ H7 hi ⟨t7,x5,x6,x7,x8,x9,Qo,Qp,rfl,nZ⟩;have ub7:=nZ.ub;have lo7:=nZ.le;have hwj:dG[i]? = some dG[i]:=Jd hi;have hv:(dG.map V.str)[i]? = some (.str dG[i]):=by rw[Jk,hwj];rfl
  have h7:=bG.of (K:=K) (uQ _ _ (nZ.sm _ _ hT6));refine⟨⟨_,_,h7,hv⟩,?_⟩;rintro x' H8 ⟨rfl,hy8⟩;have e:=hy8 _ h7;rw[hv] at e;cases e;refine gn ?_;have hw:=Jy hwj;generalize dG[i]=wd at hw;have WO:=hP.same nZ.sm;have fo7:=fo.same nZ.sm;obtain⟨kk,ekk⟩:∃kk:Nat,kk=sI Fo wd:=⟨_,rfl⟩
  have nr:=fr.nr;have ff:=fr.fr;have kb:2<=kk/\kk<=16:=by rw[ekk];unfold sI;split<;>lia
  obtain⟨r1,r2,r3,hl,_⟩:=WO.ex;have hl:=uQ.seq hl;refine⟨_,rfl,_,rfl,wd,rfl,fun H9 s9 =>.inr ⟨mz wd,rfl,.inl ⟨_,_,rfl,rfl,.inl ⟨l,_,_,.int (kk:Nat),rfl,rfl,s9.seq hl,?_,gn ?_⟩⟩⟩⟩
  ·rw[ekk];unfold sI;cases mz wd<;>rfl
  have s9':=(Step.same nZ.bx s9).sm;have hP9:=WO.same s9';have fo9:=fo7.same s9';have mv:=nZ.trans (Step.same nZ.bx s9);refine⟨_,rfl,_,_,rfl,rfl,kk-1,?_,⋯,gn ?_⟩
  ·show[V.int ((kk:Int)-1)]=[V.int ((kk-1:Nat):Int)]
   rw[show(kk:Int)-1=((kk-1:Nat):Int) by lia]
  refine fun d8 H10 n10=>gn ?_;obtain⟨d8b,d8c⟩:=mv.bx.bb n10.nn;have d80:H6 d8=none:=mv.fresh sL.bx n10.nn;have g90:hM H9 b c d8=none:=by rw[cS d8b d8c];exact n10.nn
  have mU:=mv.jk n10;refine⟨_,rfl,_,rfl,b,c,t7,kk,rfl,kb.1,kb.2,mU.bx,⋯,⋯,fun p ds H11 t11 hds hp pb pc uY=>⟨p,rfl,⟨_,bA.of hp⟩,?_⟩⟩;have Rb:=uY.old n10.at d8b d8c;have pd8:p≠d8:=rj hp Rb (nofun);have up:av (hM H9 b c) (mF H11 d8):=vt ((((Step.same mv.bx n10.same).trans uY).sm).trans uQ) g90;have uY:=mU.trans uY;have aac:=uY.ub;have aad:=uY.le;have hPb:=hP9.same up;have fob:=fo9.same up;have UM:mF H11 d8 p=some (.lst (ds.map V.int)):=by rw[cV pd8];exact hp
  clear WO fo7 hP9 fo9 up mv mU nZ hp g90;refine j4 (N:=ds.length) (fun j σ H'=>∃(x9 Qo Qp:Option V) (kvs:List (Key×V)),σ=[some (.ref a),some (.ref b),some (.ref l),some (.ref m),some (.str y),some (.str wd),some (.int (kk:Nat)),some (.int (2^(kk-1))),some (.ref d8),x9,Qo,Qp]/\av (mF H11 d8) H'/\H' d8=some (.dK kvs)/\kvs.length<=j/\(∀x v,dI kvs (.inr x)=some v->∃d,v = .int d/\dA Fo wd ((El wd y).map Arg.sp++[cP wd d])=some x)/\Step b c H6 H' (t3+1) t11 (30*i+30)) ⟨x9,Qo,Qp,[],rfl,vR,Rb,Je _,(fun _ _ h=>nomatch h),uY.more ⋯⟩ ?_ ?_
  ·rintro j σ H12 hj ⟨x9',x10',x11',kvs,rfl,zD,hd12,kl,kp,st12⟩;have aaa:=hds.1;have hv:(ds.map V.int)[j]? = some (.int ds[j]):=by rw[Jk,Jd hj];rfl
   have WR:=bA.of (K:=K) (zD _ _ UM);refine⟨⟨_,_,WR,hv⟩,?_⟩;rintro x' H13 ⟨rfl,hy13⟩;have e:=hy13 _ WR;rw[hv] at e;cases e;refine gn ?_;have oC:=hds.2 _ (Um hj);generalize ds[j]=d at oC;obtain⟨ba,hjp⟩:=Tf (d:=d) hw hy oC;have rv:=S3 wd y d;dsimp only;refine nz (te:=V4 _ _ _) (fun v H'=>∃pb,v = .ref pb/\av H13 H'/\H' pb=some (.tup (.str wd::((El wd y).map Arg.sp++[cP wd d]).map Arg.v))) (fun Qn qn =>?_) ?_
   ·have fw:(["jump", "farjump"]:List Str).contains wd=decide (wd = "jump" \/ wd = "farjump"):=(by decide +kernel:∀w∈dG,(["jump", "farjump"]:List Str).contains w=decide (w = "jump" \/ w = "farjump")) _ hw;refine⟨_,rfl,by show 2<=Wp;decide,fun t14 H14 n14=>⟨t14,(["jump", "farjump"]:List Str).map V.str,rfl,.inr (bG.of n14.at),rfl,rfl,_,rfl,?_⟩⟩;rw[if_neg Jn,pq,fw];rw[rv] at qn;unfold El at qn
    by_cases cw:wd = "jump" \/ wd = "farjump"
    ·rw[if_pos cw] at qn;rw[decide_eq_true cw];exact bN ⟨_,rfl,_,rfl,by show 2<=Wp;decide,fun pb H15 n15=>qn _ _ ⟨pb,rfl,n14.same.trans n15.same,n15.at⟩⟩
    ·rw[if_neg cw] at qn;rw[decide_eq_false cw];exact bC ⟨_,rfl,_,rfl,_,rfl,by show 3<=Wp;decide,fun pb H15 n15=>qn _ _ ⟨pb,rfl,n14.same.trans n15.same,n15.at⟩⟩
   rintro v H14 ⟨pb,rfl,FN,EL⟩;refine gn ?_;have PL:=zD.trans FN;refine⟨_,rfl,_,rfl,m,pb,Fo,wd,_,rfl,fob.same PL,fr,ba,bG.of EL,fun v15 H15 Ht dv=>gn ?_⟩;have Sb:=PL.trans Ht;have IX:=Ht _ _ (FN _ _ hd12);have Om:=st12.trans (Step.same st12.bx (FN.trans Ht));have M5:=Ht _ _ EL;clear hd12 FN Ht zD st12 PL EL WR hy13;obtain⟨p0,p1⟩:=GP (show kk-1<=15 by lia);have Hh:inD d kk=(decide (0-2^(kk-1)<=d)&&decide (d<2^(kk-1))):=by
    unfold inD;rw[show(0:Int)-2^(kk-1) = -(2^(kk-1)) by lia]
   cases fw:inD d kk with
   | false=>
    have ep:=Gb (F:=Fo) (w:=wd) (El wd y) (d:=d) (by rw[<-ekk];exact fw);rw[ep] at dv;have sh:QaK (Fv none)=true:=∅;have ev:(Fv none).eqv (.tuple [.str "far",.int 0])=true:=∅;have fin:∀Hx,av H15 Hx->Hx d8=some (.dK kvs)/\av (mF H11 d8) Hx/\Step b c H6 Hx (t3+1) t11 (30*i+30):=fun Hx sx=>⟨sx _ _ IX,Sb.trans sx,(Om.trans (Step.same Om.bx sx)).more ⋯⟩
    rw[fw] at Hh;refine⟨_,rfl,_,_,rfl,rfl,_,rfl,_,_,rfl,rfl,_,rfl,?_⟩
    by_cases c1:0-2^(kk-1)<=d
    ·have c2:¬d<2^(kk-1):=fun z=>by rw[decide_eq_true c1,decide_eq_true z] at Hh;cases Hh
     rw[decide_eq_true c1];refine bN ⟨_,rfl,_,_,rfl,rfl,_,rfl,?_⟩;rw[decide_eq_false c2];refine bN ⟨_,rfl,by show 2<=Wp;decide,fun t16 H16 n16 =>.inr ⟨Fv none,.tuple [.str "far",.int 0],dv.same n16.same,Cu n16.at (bQ wm (bQ sR oK)),sh,sh,_,rfl,?_⟩⟩;rw[ev];obtain⟨f1,f2,f3⟩:=fin H16 n16.same;exact bC ⟨_,_,_,kvs,rfl,f2,f1,Qer kl,kp,f3⟩
    ·rw[decide_eq_false c1];refine bC ⟨_,rfl,?_⟩;refine bN ⟨_,rfl,by show 2<=Wp;decide,fun t16 H16 n16 =>.inr ⟨Fv none,.tuple [.str "far",.int 0],dv.same n16.same,Cu n16.at (bQ wm (bQ sR oK)),sh,sh,_,rfl,?_⟩⟩;rw[ev];obtain⟨f1,f2,f3⟩:=fin H16 n16.same;exact bC ⟨_,_,_,kvs,rfl,f2,f1,Qer kl,kp,f3⟩
   | true=>
    obtain⟨x,ex⟩:=I0 (F:=Fo) (w:=wd) (El wd y) (d:=d) (by rw[<-ekk];exact fw);rw[ex] at dv;unfold Fv Den at dv;subst dv;have xl:=K0 fr ba ex;rw[fw] at Hh;have V5:=Hh.symm;rw[Js] at V5;refine⟨_,rfl,_,_,rfl,rfl,_,rfl,_,_,rfl,rfl,_,rfl,?_⟩;rw[V5.1];refine bN ⟨_,rfl,_,_,rfl,rfl,_,rfl,?_⟩;rw[V5.2];refine bC ?_;dsimp only[bK];refine⟨_,rfl,.inl ⟨_, "str",.str x,_,rfl,wm,(uU K (.str x)).2.2.1,_,rfl,bC ?_⟩⟩;have hg:((dI kvs (.inr x)).getD (.int d)) = .int d:=by
     cases e:dI kvs (.inr x) with
     | none=>rfl
     | some v=>
      obtain⟨d',rfl,e'⟩:=kp x v e;show V.int d'=V.int d;rw[LS (El wd y) ⋯ e' ex]
    refine⟨_,rfl,d8,rfl,.inl ⟨kvs,.inl IX⟩,_,rfl,_,rfl,dI kvs (.inr x),dJ.k (k := .inr x) IX,_,rfl,?_⟩;rw[hg];refine .inl ⟨rfl,_,rfl,?_⟩;rw[decide_eq_true rfl];refine bC ?_;dsimp only[bK];refine⟨_,rfl,_,rfl,_,rfl,d8,_,rfl,.inl ⟨kvs,.inr x,IX,rfl,Ub (show kvs.length<=300 by lia) ∅,rfl⟩,?_⟩;generalize hHx:upd H15 d8 (.dK (putK kvs (.inr x) (.int d)))=Hx;have sx:av (mF H11 d8) Hx:=by rw[<-hHx];exact putD Sb
    have Rp:Hx d8=some (.dK (putK kvs (.inr x) (.int d))):=by rw[<-hHx];exact au
    have stx:Step b c H6 Hx (t3+1) t11 (30*i+30):=by rw[<-hHx];exact(Om.chg d80 d8b d8c _).more ⋯
    have R3:Hx pb=some (.tup (.str wd::((El wd y).map Arg.sp++[cP wd d]).map Arg.v)):=by
     rw[<-hHx,ao (rj M5 IX (nofun))];exact M5
    refine⟨_,rfl,_,rfl,_,rfl,l,pb,Fo,wd,_,rfl,hPb.same sx,fr,ba,bG.of R3,fun H16 Lo =>?_⟩;rw[ex];refine .inl ⟨rfl,_,rfl,?_⟩;show if (!decide (V.str x=V.str x))=true then _ else _
    rw[decide_eq_true rfl];refine bC ?_;refine⟨_,rfl,_,rfl,m,Fo,wd,_,x,0,x,rfl,(fob.same sx).same Lo,fr,ba,hjp,ex,⟨Uw _,Jh xl ∅,[],?_⟩,fun tp bp H17 Rr T4 g17 =>?_⟩
    ·rw[QcU,Uv]
    rw[Nat.zero_add] at T4;refine⟨_,rfl,_,rfl,_,_,rfl,⟨Jh xl ∅,rfl⟩,by show 2<=Wp;decide,fun tq H18 n18 =>?_⟩;have gd:=OT ba x.length (Jh xl ∅);refine⟨.ref tp,.ref tq,.tuple [Iw wd ((El wd y).map Arg.sp++[cP wd d]),.int (x.length:Nat)],rfl,B5 (n18.same.cL T4) (n18.same.cL g17),B5 (bG.of n18.at) (bG.of (n18.same _ _ (Rr _ _ (Lo _ _ R3)))),Ub gd.dp ∅,Jh gd.wt ∅,fun H19 s19 =>?_⟩;have IV:=Lo.trans (Rr.trans (n18.same.trans s19));refine⟨_,rfl,bC ?_⟩;refine⟨_,_,_,_,rfl,sx.trans IV,IV _ _ Rp,Jh (fj _ _ _) (Wb kl),fun x' v' e' =>?_,(stx.trans (Step.same stx.bx IV)).more ⋯⟩;rw[G6] at e'
    by_cases cx:(Qa8 x':Key) = .inr x
    ·rw[if_pos cx] at e';cases e'
     injection cx with cx
     exact⟨d,rfl,by rw[cx];exact ex⟩
    ·rw[if_neg cx] at e';exact kp x' v' e'
  ·rintro σ H12 ⟨x9',x10',x11',kvs,rfl,zD,hd12,kl,kp,st12⟩;exact⟨⟨_,bA.of (zD _ _ UM),by rw[Jc];exact Je _⟩,_,_,_,_,_,_,_,_,rfl,st12.more ⋯⟩
 ·rintro σ H7 ⟨t7,x5,x6,x7,x8,x9,Qo,Qp,rfl,nZ⟩;exact⟨⟨_,bG.of (uQ _ _ (nZ.sm _ _ hT6)),Je _⟩,q H7⟩
end
def bP {α:Type}{P:List α->Prop}(h:P []):∀us:List α,us.length=0->P us:=fun us e=>Uy e▸h
def aR {α:Type}{P:List α->Prop}{n:Nat}(h:∀a (us:List α),us.length=n->P (a::us))(us:List α)(e:us.length=n+1):P us:=by
 cases us with|nil=>cases e|cons a us=>exact h a us (Nat.succ.inj e)
def all_mk {l:Qep}{w:Qah}{K:Ja}{h:Heap}{mg:Str->Option Fk}{fa f1 f2 f3 f4 f5 f6 f7 f8 f9 ZJ XT YH WS VF Wl ON VU Vy ZW W5 WY Ww XF YJ WK W3 XV Vl Vd YD ZZ XU Xi Zc ZI ZC WE Zg XD Xj W8 Z1 Zf:Gc}(X:K.In h)(G:h.Ns W1 mg)(hfa:mg "law" = some (.ref fa))
  {fd1:Qad}
  {fd2:Qad}
  {fd3:Qad}
  {fd4:Qad}
  {fd5:Qad}
  {fd6:Qad}
  {fd7:Qad}
  {fd8:Qad}
  {fd9:Qad}
  {ZD:Qad}
  {Xd:Qad}
  {XG:Qad}
  {Zt:Qad}
  {X2:Qad}
  {Xu:Qad}
  {Zd:Qad}
  {YU:Qad}
  {VO:Qad}
  {Vz:Qad}
  {Zv:Qad}
  {Zw:Qad}
  {ZH:Qad}
  {X8:Qad}
  {YY:Qad}
  {XH:Qad}
  {WV:Qad}
  {YG:Qad}
  {VL:Qad}
  {XS:Qad}
  {XM:Qad}
  {VN:Qad}
  {XA:Qad}
  {Zm:Qad}
  {Wv:Qad}
  {VS:Qad}
  {YN:Qad}
  {Wr:Qad}
  {WZ:Qad}
  {Xv:Qad}
  {VZ:Qad}
  {VH:Qad}
  {WL:Qad}
  {Ze Td:Option Gc} {Wt:Array (Option Fk)} {Xs SG QJ Q0 NK QD:Fk}
  {dh:Gc}
  {zx:Gc}
  {tS:Gc}
  {cN:Gc}
  {yq:Gc}
  {uK:Gc}
  {pW:Gc}
  {aX:Gc}
  {uB:Gc}
  {ck:Gc}
  {br:Gc}
  {YR:Tok}
  {Vm:Tok}
  {X6:Tok}
  {TM:Tok}
  {Qu:Tok}
  {QK:Tok}
  {Wq:Tok}
  {aS:Gc} {aSi:List Fk} {aSn:Nat} {aSs:Array (Option Fk)}
  {aZ:Gc} {aZi:List Fk} {aZn:Nat} {aZs:Array (Option Fk)}
  {aJ:Gc} {aJi:List Fk} {aJn:Nat} {aJs:Array (Option Fk)}
  {aP:Gc} {Xr:Array QdO} {aPn:Nat}
  {MZ:Gc} {JI:List Fk} {Ob:Nat} {NU:Array (Option Fk)}
  {MN:Gc} {JG:List Fk} {O2:Nat} {OL:Array (Option Fk)}
  {Hd:Gc} {CY:List Fk} {MD:Nat} {Mn:Array (Option Fk)}
  {IC:Gc} {Co:List Fk} {Mb:Nat} {K2:Array (Option Fk)}
  {M9:Gc} {Ih:List Fk} {OZ:Nat} {Pu:Array (Option Fk)}
  {IZ:Gc} {CC:List Fk} {LF:Nat} {Mj:Array (Option Fk)}
  {JB:Gc} {CQ:List Fk} {KN:Nat} {Ks:Array (Option Fk)}
  {Gx:Gc} {C1:List Fk} {Mm:Nat} {Kx:Array (Option Fk)}
  {uM:Gc} {pL:List Fk} {Br:Nat} {Af:Array (Option Fk)}
  {tX:Gc} {sC:List Fk} {Bi:Nat} {Bs:Array (Option Fk)}
  {Gv:Gc} {BX:List Fk} {MI:Nat} {Lh:Array (Option Fk)}
  {AK:Gc} {xx AR:Str} {xW:List Fk} {y9:Bool} {yt:List Str} {xk:List Fk} {yB:Bool} {xQ:Option Bool} {zo:Option Gc} {zt y3 yV yg yD:Option Fk}
  {F0:Gc} {Fa HM:Str} {Ef:List Fk} {Dd:List Str} {FH:List Fk} {D0:Bool} {EN:Option Bool} {Em:Option Gc} {Ea Df C5 EI E4:Option Fk}
  {mw:Gc} {E7 Eu:Option Gc} {EG:Array (Option Fk)} {ER Fl FA uf DB:Fk}
  {FW:Gc} {DF GI:Str} {DH:List Fk} {C8:List Str} {Dt:List Fk} {EA:Bool} {EB:Option Bool} {DA:Option Gc} {FE C3 Fh ED Dx:Option Fk}
  {mM:Gc} {D8 EM:Option Gc} {Ee:Array (Option Fk)} {DN Fx EX uo DC:Fk}
  {qU:Gc} {LB:Fk} {KR LG:Option Gc} {Ki:Array (Option Fk)} {MH KY MA CI KW:Fk}
  {lU:Gc} {Gj:Fk} {G7 Hw:Option Gc} {JT:Array (Option Fk)} {HJ Il Hb yj IG:Fk}
  {fB:Gc} {wW:Fk} {vj vF:Option Gc} {u3:Array (Option Fk)} {u9 u4 wX mP wg:Fk}
  {fA:Gc} {wo:Fk} {vC vE:Option Gc} {uT:Array (Option Fk)} {wY vT vQ mQ wb:Fk}
  {dM:Gc} {qj:Fk} {qf qm:Option Gc} {pX:Array (Option Fk)} {rp si rL jE qk:Fk}
  (a1:Jg K W1 "made_of" = some (some (.ref f1))) (F1:bM K "made_of" "made_of" (top nR) f1 fd1)
  (a2:Jg K W1 "is_name" = some (some (.ref f2))) (F2:bM K "is_name" "is_name" (top nh) f2 fd2)
  (a3:Jg K W1 "is_code" = some (some (.ref f3))) (F3:bM K "is_code" "is_code" (top nO) f3 fd3)
  (a4:Jg K W1 "rest_of" = some (some (.ref f4))) (F4:bM K "rest_of" "rest_of" (top nH) f4 fd4)
  (a5:Jg K W1 "is_number" = some (some (.ref f5))) (F5:bM K "is_number" "is_number" (top jI) f5 fd5)
  (a6:Jg K W1 "is_entry" = some (some (.ref f6))) (F6:bM K "is_entry" "is_entry" (top lN) f6 fd6)
  (a7:Jg K W1 "is_book" = some (some (.ref f7))) (F7:bM K "is_book" "is_book" (top nj) f7 fd7)
  (a8:Jg K W1 "clash" = some (some (.ref f8))) (F8:bM K "clash" "clash" (top vG) f8 fd8)
  (a9:Jg K W1 "free" = some (some (.ref f9))) (F9:bM K "free" "free" (top zV) f9 fd9)
  (W2:Jg K W1 "is_free_book_of" = some (some (.ref ZJ))) (QS:bM K "is_free_book_of" "is_free_book_of" (top eC) ZJ ZD)
  (VJ:Jg K W1 "far_is_shorter" = some (some (.ref XT))) (TC:bM K "far_is_shorter" "far_is_shorter" (top eW) XT Xd)
  (Ws:Jg K W1 "first_wrong" = some (some (.ref YH))) (Q4:bM K "first_wrong" "first_wrong" (top gU) YH XG)
  (ZX:Jg K W1 "two_to" = some (some (.ref WS))) (Rh:bM K "two_to" "two_to" (top qJ) WS Zt)
  (Vi:Jg K W1 "figures_of" = some (some (.ref VF))) (Rn:bM K "figures_of" "figures_of" (top iZ) VF X2)
  (XZ:Jg K W1 "number_of" = some (some (.ref Wl))) (Sk:bM K "number_of" "number_of" (top jx) Wl Xu)
  (Zk:Jg K W1 "lookup_of" = some (some (.ref ON))) (Tz:bM K "lookup_of" "lookup_of" (top jL) ON Zd)
  (XC:Jg K W1 "code_at" = some (some (.ref VU))) (Si:bM K "code_at" "code_at" (top nP) VU YU)
  (XN:Jg K W1 "name_from" = some (some (.ref Vy))) (RP:bM K "name_from" "name_from" (top jD) Vy VO)
  (Zn:Jg K W1 "figures_from" = some (some (.ref ZW))) (RZ:bM K "figures_from" "figures_from" (top gA) ZW Vz)
  (Zq:Jg K W1 "many_from" = some (some (.ref W5))) (SZ:bM K "many_from" "many_from" (top jC) W5 Zv)
  (Xg:Jg K W1 "distance_from" = some (some (.ref WY))) (TF:bM K "distance_from" "distance_from" (top fK) WY Zw)
  (Xn:Jg K W1 "bare_at" = some (some (.ref Ww))) (Tl:bM K "bare_at" "bare_at" (top oj) Ww ZH)
  (XY:Jg K W1 "is_reached" = some (some (.ref XF))) (RC:bM K "is_reached" "is_reached" (top iK) XF X8)
  (ZL:Jg K W1 "put_distance" = some (some (.ref YJ))) (QR:bM K "put_distance" "put_distance" (top gH) YJ YY)
  (Zu:Jg K W1 "put_part" = some (some (.ref WK))) (Tr:bM K "put_part" "put_part" (top kQ) WK XH)
  (Zj:Jg K W1 "put_bare" = some (some (.ref W3))) (TJ:bM K "put_bare" "put_bare" (top kY) W3 WV)
  (YM:Jg K W1 "_law_begin" = some (some (.ref XV))) (RG:bM K "_law_begin" "_law_begin" (top j9) XV YG)
  (ZO:Jg K W1 "_law_take" = some (some (.ref Vl))) (QF:bM K "_law_take" "_law_take" (top lO) Vl VL)
  (UG:Jg K W1 "_law_same" = some (some (.ref Vd))) (QX:bM K "_law_same" "_law_same" (top kW) Vd XS)
  (VG:Jg K W1 "_law_mixed" = some (some (.ref YD))) (RV:bM K "_law_mixed" "_law_mixed" (top jX) YD XM)
  (W4:Jg K W1 "_law_codes" = some (some (.ref ZZ))) (QH:bM K "_law_codes" "_law_codes" (top j3) ZZ VN)
  (ZN:Jg K W1 "_law_kinds" = some (some (.ref XU))) (Rl:bM K "_law_kinds" "_law_kinds" (top jY) XU XA)
  (YO:Jg K W1 "_law_sizes" = some (some (.ref Xi))) (RJ:bM K "_law_sizes" "_law_sizes" (top jM) Xi Zm)
  (Vt:Jg K W1 "_law_parts" = some (some (.ref Zc))) (RE:bM K "_law_parts" "_law_parts" (top jz) Zc Wv)
  (Wy:Jg K W1 "_law_form" = some (some (.ref ZI))) (RD:bM K "_law_form" "_law_form" (top lG) ZI VS)
  (Vr:Jg K W1 "_law_figures" = some (some (.ref ZC))) (SE:bM K "_law_figures" "_law_figures" (top gY) ZC YN)
  (XB:Jg K W1 "_law_power" = some (some (.ref WE))) (Sx:bM K "_law_power" "_law_power" (top jW) WE Wr)
  (WD:Jg K W1 "_law_far_word" = some (some (.ref Zg))) (S7:bM K "_law_far_word" "_law_far_word" (top gb) Zg WZ)
  (ZT:Jg K W1 "_law_put" = some (some (.ref XD))) (Q7:bM K "_law_put" "_law_put" (top ow) XD Xv)
  (ZG:Jg K W1 "_law_class" = some (some (.ref Xj))) (QU:bM K "_law_class" "_law_class" (top jB) Xj VZ)
  (W0:Jg K W1 "_law_told" = some (some (.ref W8))) (Th:bM K "_law_told" "_law_told" (top kN) W8 VH)
  (Wx:Jg K W1 "_law_distances" = some (some (.ref Z1))) (Qx:bM K "_law_distances" "_law_distances" (top fI) Z1 WL)
  (X1:Jg K W1 "law" = some (some (.ref Zf))) (ZB:K.lookup Zf=some ⟨Xs,Ze,.func (Yd "law" "law" (cJ (top hV)) (bZ (top hV)) (ak (top hV)) .none SG QJ Q0 Td NK QD),Wt⟩) (YL:Yp K NK "law" = true) (WH:Ui K (.ref Zf)=true)
  (j5:Jg K W1 "OddError" = some (some (.ref dh)))
  (m5:Jg K W1 "BadRow" = some (some (.ref zx)))
  (lE:Jg K W1 "BadText" = some (some (.ref tS)))
  (og:Jg K W1 "NoForm" = some (some (.ref cN)))
  (nW:Jg K W1 "NoName" = some (some (.ref yq)))
  (lA:Jg K W1 "NoPlace" = some (some (.ref uK)))
  (jA:Jg K W1 "NoTarget" = some (some (.ref pW)))
  (nI:Jg K W1 "TooFar" = some (some (.ref aX)))
  (lx:Jg K W1 "TooFull" = some (some (.ref uB)))
  (vJ:Jg K W1 "Form" = some (some (.ref ck)))
  (nU:Jg K W1 "Reader" = some (some (.ref br)))
  (kt0:Ug K (.ref aX) (.ref tS)=some false)
  (kt1:Ug K (.ref aX) (.ref zx)=some false)
  (kt2:Ug K (.ref aX) (.ref yq)=some false)
  (Z8:Ug K (.ref aX) (.ref uK)=some false)
  (kt4:Ug K (.ref aX) (.ref pW)=some false)
  (Z4:Ug K (.ref aX) (.ref cN)=some false)
  (kt6:Ug K (.ref aX) (.ref uB)=some false)
  (kt7:Ug K (.ref aX) (.type "ValueError")=some true)
  (kt8:Ug K (.ref aX) (.ref dh)=some true)
  (VT:jF K aX)
  (Xh:PySem.W.exmOne K (.ref aX) (.ref dh)=some true)
  (V3:Jg K W1 "LONGEST_NAME" = some (some (.int 8 YR)))
  (Wo:Jg K W1 "SMALL_LETTERS" = some (some (.str uR Vm)))
  (Vx:Jg K W1 "SIGNS" = some (some (.str iQ X6)))
  (UA:Jg K W1 "LEAST_NEAR" = some (some (.int 2 TM)))
  (UH:Jg K W1 "MOST_NEAR" = some (some (.int 8 Qu)))
  (UE:Jg K W1 "MOST_FAR" = some (some (.int 16 QK)))
  (WU:Jg K W1 "SKIP_FIGURES" = some (some (.int 3 Wq)))
  (Zx:Jg K W1 "SPOT_NAMES" = some (some (.ref aS)))
  (Zr:K.lookup aS=some ⟨.type "tuple",none,.seq aSi.toArray aSn,aSs⟩)
  (Zp:Vals [V.str "a",V.str "b",V.str "c",V.str "d"] aSi)
  (UL:Jg K W1 "SIZE_NAMES" = some (some (.ref aZ)))
  (Vc:K.lookup aZ=some ⟨.type "tuple",none,.seq aZi.toArray aZn,aZs⟩)
  (UI:Vals [V.str "none",V.str "one",V.str "two",V.str "three",V.str "four",V.str "five",V.str "six",V.str "seven",V.str "eight"] aZi)
  (Xx:Jg K W1 "JUMPS" = some (some (.ref aJ)))
  (Wm:K.lookup aJ=some ⟨.type "tuple",none,.seq aJi.toArray aJn,aJs⟩)
  (V1:Vals [V.str "jump",V.str "zero"] aJi)
  (T8:Jg K W1 "PARTS" = some (some (.ref aP)))
  (Vf:K.lookup aP=some ⟨.type "dict",none,.dict Xr aPn,#[]⟩)
  (Sn:Qdj w.params Xr.toList)
  (UJ:Xr.toList.map (fun e=>Ii e.key)=aI)
  (WM:(aP==QbB)=false)
  (uP:Jg K aP "set" = some (some (.ref MZ)))
  (Bw:K.lookup MZ=some ⟨.type "tuple",none,.seq JI.toArray Ob,NU⟩)
  (Ax:Vals [V.str "spot",V.str "number"] JI)
  (wA:Jg K aP "add" = some (some (.ref MN)))
  (Al:K.lookup MN=some ⟨.type "tuple",none,.seq JG.toArray O2,OL⟩)
  (AE:Vals [V.str "spot",V.str "spot"] JG)
  (rG:Jg K aP "take" = some (some (.ref Hd)))
  (uN:K.lookup Hd=some ⟨.type "tuple",none,.seq CY.toArray MD,Mn⟩)
  (v7:Vals [V.str "spot",V.str "spot"] CY)
  (qA:Jg K aP "tell" = some (some (.ref IC)))
  (vO:K.lookup IC=some ⟨.type "tuple",none,.seq Co.toArray Mb,K2⟩)
  (ve:Vals [V.str "spot"] Co)
  (vI:Jg K aP "ask" = some (some (.ref M9)))
  (Az:K.lookup M9=some ⟨.type "tuple",none,.seq Ih.toArray OZ,Pu⟩)
  (Bl:Vals [V.str "spot"] Ih)
  (qz:Jg K aP "jump" = some (some (.ref IZ)))
  (vL:K.lookup IZ=some ⟨.type "tuple",none,.seq CC.toArray LF,Mj⟩)
  (wC:Vals [V.str "near"] CC)
  (qD:Jg K aP "zero" = some (some (.ref JB)))
  (wR:K.lookup JB=some ⟨.type "tuple",none,.seq CQ.toArray KN,Ks⟩)
  (vK:Vals [V.str "spot",V.str "near"] CQ)
  (pY:Jg K aP "stop" = some (some (.ref Gx)))
  (wN:K.lookup Gx=some ⟨.type "tuple",none,.seq C1.toArray Mm,Kx⟩)
  (vX:Vals [] C1)
  (jT:Jg K aP "farjump" = some (some (.ref uM)))
  (lH:K.lookup uM=some ⟨.type "tuple",none,.seq pL.toArray Br,Af⟩)
  (kP:Vals [V.str "far"] pL)
  (kc:Jg K aP "farzero" = some (some (.ref tX)))
  (kH:K.lookup tX=some ⟨.type "tuple",none,.seq sC.toArray Bi,Bs⟩)
  (kJ:Vals [V.str "spot",V.str "far"] sC)
  (qG:Jg K aP "skip" = some (some (.ref Gv)))
  (wq:K.lookup Gv=some ⟨.type "tuple",none,.seq BX.toArray MI,Lh⟩)
  (uO:Vals [V.str "many"] BX)
  (ke:K.lookup dh=some (QbL xx AR dh AK xW ([.type "ValueError",.type "Exception",.type "BaseException",.type "object"]) y9 yt xk yB xQ zo zt y3 yV yg yD "ValueError.__new__"))
  (ki:PySem.W.excIn K dh [.type "ValueError",.type "Exception",.type "BaseException",.type "object"] "ValueError.__new__" = true)
  (o7:K.lookup cN=some (QbL Fa HM cN F0 Ef (.ref dh::[.type "ValueError",.type "Exception",.type "BaseException",.type "object"]) true Dd FH D0 EN Em Ea Df C5 EI E4 "ValueError.__new__"))
  (qe:Ui K (.ref cN)=true)
  (nN:J6 K (.ref cN) "__init__" = some (some (.ref mw)))
  (mG:K.lookup mw=some ⟨.type "function",E7,.func (Yd "__init__" "NoForm.__init__" (cJ (inClass (top ia) 0)) (bZ (inClass (top ia) 0)) (ak (inClass (top ia) 0)) .none ER Fl FA Eu uf DB),EG⟩)
  (qg:Yp K uf "NoForm.__init__" = true)
  (rK:Ui K (.ref mw)=true)
  (qi:J6 K (.ref cN) "__setattr__" = some (some (.builtin "object.__setattr__")))
  (qr:J6 K (.ref cN) "why" = some none)
  (qF:QeU K cN (.type "object")=some true)
  (o9:K.lookup aX=some (QbL DF GI aX FW DH (.ref dh::[.type "ValueError",.type "Exception",.type "BaseException",.type "object"]) true C8 Dt EA EB DA FE C3 Fh ED Dx "ValueError.__new__"))
  (ql:Ui K (.ref aX)=true)
  (nA:J6 K (.ref aX) "__init__" = some (some (.ref mM)))
  (mR:K.lookup mM=some ⟨.type "function",D8,.func (Yd "__init__" "TooFar.__init__" (cJ (inClass (top iw) 0)) (bZ (inClass (top iw) 0)) (ak (inClass (top iw) 0)) .none DN Fx EX EM uo DC),Ee⟩)
  (qc:Yp K uo "TooFar.__init__" = true)
  (pO:Ui K (.ref mM)=true)
  (rP:J6 K (.ref aX) "__setattr__" = some (some (.builtin "object.__setattr__")))
  (qv:J6 K (.ref aX) "row" = some none)
  (rb:QeU K aX (.type "object")=some true)
  (Nr:Wi K ck Qat=true)
  (Nj:Qca K ck=true)
  (PY:QcS K ck=true)
  (Pq:J6 K (.ref ck) "__setattr__" = some (some (.builtin "object.__setattr__")))
  (P9:Qdi K ck=true)
  (PQ:Ui K (.ref ck)=true)
  (la:J6 K (.ref ck) "kinds" = some none)
  (lz:J6 K (.ref ck) "spots" = some none)
  (kX:J6 K (.ref ck) "sizes" = some none)
  (nV:J6 K (.ref ck) "near" = some none)
  (rB:J6 K (.ref ck) "far" = some none)
  (vk:J6 K (.ref ck) "__init__" = some (some (.ref qU)))
  (wZ:K.lookup qU=some ⟨LB,KR,.func (Yd "__init__" "Form.__init__" (cJ (inClass (top nB) 0)) (bZ (inClass (top nB) 0)) (ak (inClass (top nB) 0)) .none MH KY MA LG CI KW),Ki⟩)
  (vZ:Yp K CI "Form.__init__" = true)
  (wz:Ui K (.ref qU)=true)
  (wj:Wk K (.ref qU)=true)
  (Pb:Wi K br Qat=true)
  (Oa:Qca K br=true)
  (Pg:QcS K br=true)
  (NB:J6 K (.ref br) "__setattr__" = some (some (.builtin "object.__setattr__")))
  (O3:Qdi K br=true)
  (N7:Ui K (.ref br)=true)
  (kI:J6 K (.ref br) "kinds" = some none)
  (kR:J6 K (.ref br) "spots" = some none)
  (lq:J6 K (.ref br) "sizes" = some none)
  (ox:J6 K (.ref br) "near" = some none)
  (rW:J6 K (.ref br) "far" = some none)
  (qu:J6 K (.ref br) "__init__" = some (some (.ref lU)))
  (qZ:K.lookup lU=some ⟨Gj,G7,.func (Yd "__init__" "Reader.__init__" (cJ (inClass (top bf) 0)) (bZ (inClass (top bf) 0)) (ak (inClass (top bf) 0)) .none HJ Il Hb Hw yj IG),JT⟩)
  (qQ:Yp K yj "Reader.__init__" = true)
  (pT:Ui K (.ref lU)=true)
  (pQ:Wk K (.ref lU)=true)
  (jc:J6 K (.ref br) "bare_from" = some (some (.ref fB)))
  (iW:K.lookup fB=some ⟨wW,vj,.func (Yd "bare_from" "Reader.bare_from" (cJ (inClass (top bf) 1)) (bZ (inClass (top bf) 1)) (ak (inClass (top bf) 1)) .none u9 u4 wX vF mP wg),u3⟩)
  (iV:Yp K mP "Reader.bare_from" = true)
  (fN:Ui K (.ref fB)=true)
  (iE:Wk K (.ref fB)=true)
  (iR:J6 K (.ref br) "part_from" = some (some (.ref fA)))
  (iH:K.lookup fA=some ⟨wo,vC,.func (Yd "part_from" "Reader.part_from" (cJ (inClass (top bf) 2)) (bZ (inClass (top bf) 2)) (ak (inClass (top bf) 2)) .none wY vT vQ vE mQ wb),uT⟩)
  (iG:Yp K mQ "Reader.part_from" = true)
  (fP:Ui K (.ref fA)=true)
  (iP:Wk K (.ref fA)=true)
  (gC:J6 K (.ref br) "number_from" = some (some (.ref dM)))
  (gr:K.lookup dM=some ⟨qj,qf,.func (Yd "number_from" "Reader.number_from" (cJ (inClass (top bf) 3)) (bZ (inClass (top bf) 3)) (ak (inClass (top bf) 3)) .none rp si rL qm jE qk),pX⟩)
  (gF:Yp K jE "Reader.number_from" = true)
  (eI:Ui K (.ref dM)=true)
  (gB:Wk K (.ref dM)=true)
  (y0:Jg K W1 "sorted" = some none)
  (y1:Jg K W1 "dict" = some none)
  (y2:Jg K W1 "ValueError" = some none)
  (z0:Jg K W1 "len" = some none) (z1:Jg K W1 "range" = some none) (z2:Jg K W1 "max" = some none) (z3:Jg K W1 "min" = some none) (z4:Jg K W1 "sum" = some none) (z5:Jg K W1 "all" = some none) (z6:Jg K W1 "any" = some none) (z7:Jg K W1 "list" = some none) (z8:Jg K W1 "tuple" = some none) (z9:Jg K W1 "int" = some none) (ZF:Jg K W1 "str" = some none) (V6:Jg K W1 "bool" = some none) (Wz:Jg K W1 "zip" = some none) (WN:Jg K W1 "enumerate" = some none) (VI:Jg K W1 "isinstance" = some none) (WQ:Jg K W1 "divmod" = some none) :
  ∃fd:Qad,(∀(s:KE) (v:Fk),QfI s fd ⟨[v],[]⟩ [("_law_script",v)])/\∀base:Heap,K.In base->base.Ns W1 mg->aW l.prog w K mg base d7 10 fa fd ["_law_script"] (B3 K):=by
 have e:=hfa.symm.trans (Jj X G X1);cases e;have T:Nm mg:=⟨Uc X G z0,Uc X G z1,Uc X G z2,Uc X G z3,Uc X G z4,Uc X G z5,Uc X G z6,Uc X G z7,Uc X G z8,Uc X G z9,Uc X G ZF,Uc X G V6,Uc X G Wz,Uc X G WN,Uc X G VI,Uc X G WQ⟩
 have gq:=Uc X G y0;have cR:=Uc X G y1;have jd:=Uc X G y2;have gu:=Jj X G V3;have fH:=Jj X G Wo;have kh:=Jj X G Vx;have l8:=Jj X G UA;have oN:=Jj X G UH;have sr:=Jj X G UE;have gp:=Jj X G WU;have wJ:=Jj X G Xx;have hJ:∀H,bG K H aJ [V.str "jump",V.str "zero"]:=dX Wm V1 ∅;have M29:RQ K l.prog w mg aP aS aZ TM Qu QK:=⟨Jj X G T8,Jj X G Zx,Jj X G UL,⟨_,_,_,⟨Vf,Sn,uc Sn,by rw[yW,UJ];decide +kernel,WM⟩,yW.trans UJ⟩,dX Zr Zp ∅,dX Vc UI ∅,Jj X G UA,Jj X G UH,Jj X G UE⟩
 have Hj:kG K cN "why":=yA o7 qi qr qF;have qS:OQ K cN mw:=⟨⟨_,_,_,_,_,_,_,_,_,_,_,_,_,_,_,_,o7,xr ke ki⟩,nN,⟨_,mG,rfl⟩,qe⟩
 have uF:=aQ (st:=inClass (top ia) 0) mG qg rK;have pN:=uF.binds (ps:=["self", "why"]) fun _ _ _ _ _ _=>aR fun _=>aR fun _=>bP rfl;have xA:kG K aX "row":=yA o9 rP qv rb;have qR:OQ K aX mM:=⟨⟨_,_,_,_,_,_,_,_,_,_,_,_,_,_,_,_,o9,xr ke ki⟩,nA,⟨_,mR,rfl⟩,ql⟩
 have tZ:=aQ (st:=inClass (top iw) 0) mR qc pO;have sA:=tZ.binds (ps:=["self", "row"]) fun _ _ _ _ _ _=>aR fun _=>aR fun _=>bP rfl;have Cm:=aQ (st:=inClass (top nB) 0) wZ vZ wz;have Pp:=Cm.binds (ps:=["self", "kinds", "spots", "sizes", "near", "far"]) fun _ _ _ _ _ _=>aR fun _=>aR fun _=>aR fun _=>aR fun _=>aR fun _=>aR fun _=>bP rfl;have MF:HS K ck:=⟨⟨Nr,Nj,PY,Pq⟩,la,lz,kX,nV,rB⟩
 have MKF:Mk K ck qU:=⟨P9,vk,wj,PQ⟩
 have eE:=Jj X G UL;have hZ:∀H,bG K H aZ (bB.map V.str):=dX Vc UI ∅;have Kb:NV K w mg aP:=⟨Jj X G T8,⟨_,_,Vf,Sn⟩,fun q hq=>by
  simp only[i9,Jx,Yl,or_false] at hq
  rcases hq with rfl|rfl|rfl|rfl|rfl|rfl|rfl|rfl|rfl|rfl|rfl
  ·exact⟨_,uP,dX (xs:=[V.str "spot",V.str "number"]) Bw Ax ∅⟩
  ·exact⟨_,wA,dX (xs:=[V.str "spot",V.str "spot"]) Al AE ∅⟩
  ·exact⟨_,rG,dX (xs:=[V.str "spot",V.str "spot"]) uN v7 ∅⟩
  ·exact⟨_,qA,dX (xs:=[V.str "spot"]) vO ve ∅⟩
  ·exact⟨_,vI,dX (xs:=[V.str "spot"]) Az Bl ∅⟩
  ·exact⟨_,qz,dX (xs:=[V.str "near"]) vL wC ∅⟩
  ·exact⟨_,qD,dX (xs:=[V.str "spot",V.str "near"]) wR vK ∅⟩
  ·exact⟨_,pY,dX (xs:=[]) wN vX ∅⟩
  ·exact⟨_,jT,dX (xs:=[V.str "far"]) lH kP ∅⟩
  ·exact⟨_,kc,dX (xs:=[V.str "spot",V.str "far"]) kH kJ ∅⟩
  ·exact⟨_,qG,dX (xs:=[V.str "many"]) wq uO ∅⟩⟩
 have UK:BF K br:=⟨Pb,Oa,Pg,NB⟩
 have VM:MG K br:=⟨UK,kI,kR,lq,ox,rW⟩
 have yE:=aQ (st:=inClass (top bf) 0) qZ qQ pT;have Kh:=yE.binds (ps:=["self", "form"]) fun _ _ _ _ _ _=>aR fun _=>aR fun _=>bP rfl;have mY:=aQ (st:=inClass (top bf) 1) iW iV fN;have xt:=mY.binds (ps:=["self", "text", "place"]) fun _ _ _ _ _ _=>aR fun _=>aR fun _=>aR fun _=>bP rfl;have jb:xJ K br "bare_from" fB:=⟨jc,iE,fN⟩
 have l7:=aQ (st:=inClass (top bf) 2) iH iG fP;have xO:=l7.binds (ps:=["self", "part", "text", "place"]) fun _ _ _ _ _ _=>aR fun _=>aR fun _=>aR fun _=>aR fun _=>bP rfl;have i8:xJ K br "part_from" fA:=⟨iR,iP,fP⟩
 have j7:=aQ (st:=inClass (top bf) 3) gr gF eI;have sT:=j7.binds (ps:=["self", "text", "place"]) fun _ _ _ _ _ _=>aR fun _=>aR fun _=>aR fun _=>bP rfl;have gG:xJ K br "number_from" dM:=⟨gC,gB,eI⟩
 have MKR:Mk K br lU:=⟨O3,qu,pQ,N7⟩
 have eU:=Jj X G j5;have qE:=Jj X G m5;have nL:=Jj X G lE;have iy:=Jj X G og;have sf:=Jj X G nW;have ou:=Jj X G lA;have kL:=Jj X G jA;have ij:=Jj X G nI;have nq:=Jj X G lx;have BK:=Jj X G vJ;have qX:=Jj X G nU;have k1:=F1.kp;have b1:=F1.binds (ps:=["text", "signs"]) fun _ _ _ _ _ _=>aR fun _=>aR fun _=>bP rfl;have k2:=F2.kp;have b2:=F2.binds (ps:=["thing"]) fun _ _ _ _ _ _=>aR fun _=>bP rfl;have k3:=F3.kp;have b3:=F3.binds (ps:=["thing"]) fun _ _ _ _ _ _=>aR fun _=>bP rfl;have k4:=F4.kp;have b4:=F4.binds (ps:=["one", "other"]) fun _ _ _ _ _ _=>aR fun _=>aR fun _=>bP rfl;have k5:=F5.kp;have b5:=F5.binds (ps:=["thing"]) fun _ _ _ _ _ _=>aR fun _=>bP rfl;have k6:=F6.kp;have b6:=F6.binds (ps:=["thing"]) fun _ _ _ _ _ _=>aR fun _=>bP rfl;have k7:=F7.kp;have b7:=F7.binds (ps:=["thing"]) fun _ _ _ _ _ _=>aR fun _=>bP rfl;have k8:=F8.kp;have b8:=F8.binds (ps:=["book"]) fun _ _ _ _ _ _=>aR fun _=>bP rfl;have k9:=F9.kp;have b9:=F9.binds (ps:=["book"]) fun _ _ _ _ _ _=>aR fun _=>bP rfl;have Q9:=QS.kp;have b10:=QS.binds (ps:=["thing", "names"]) fun _ _ _ _ _ _=>aR fun _=>aR fun _=>bP rfl;have k11:=TC.kp;have b11:=TC.binds (ps:=["kinds", "near", "far"]) fun _ _ _ _ _ _=>aR fun _=>aR fun _=>aR fun _=>bP rfl;have k12:=Q4.kp;have b12:=Q4.binds (ps:=["kinds", "spots", "sizes", "near", "far"]) fun _ _ _ _ _ _=>aR fun _=>aR fun _=>aR fun _=>aR fun _=>aR fun _=>bP rfl;have EO:=Rh.kp;have b13:=Rh.binds (ps:=["power"]) fun _ _ _ _ _ _=>aR fun _=>bP rfl;have k14:=Rn.kp;have b14:=Rn.binds (ps:=["number", "many"]) fun _ _ _ _ _ _=>aR fun _=>aR fun _=>bP rfl;have k15:=Sk.kp;have b15:=Sk.binds (ps:=["figures"]) fun _ _ _ _ _ _=>aR fun _=>bP rfl;have k16:=Tz.kp;have b16:=Tz.binds (ps:=["book"]) fun _ _ _ _ _ _=>aR fun _=>bP rfl;have k17:=Si.kp;have b17:=Si.binds (ps:=["names_by_code", "lengths", "text", "place"]) fun _ _ _ _ _ _=>aR fun _=>aR fun _=>aR fun _=>aR fun _=>bP rfl;have k18:=RP.kp;have b18:=RP.binds (ps:=["lookup", "text", "place"]) fun _ _ _ _ _ _=>aR fun _=>aR fun _=>aR fun _=>bP rfl;have k19:=RZ.kp;have b19:=RZ.binds (ps:=["ahead", "text", "place", "many"]) fun _ _ _ _ _ _=>aR fun _=>aR fun _=>aR fun _=>aR fun _=>bP rfl;have k20:=SZ.kp;have b20:=SZ.binds (ps:=["text", "place"]) fun _ _ _ _ _ _=>aR fun _=>aR fun _=>bP rfl;have k21:=TF.kp;have b21:=TF.binds (ps:=["text", "place", "many"]) fun _ _ _ _ _ _=>aR fun _=>aR fun _=>aR fun _=>bP rfl;have k22:=Tl.kp;have b22:=Tl.binds (ps:=["form", "text", "place"]) fun _ _ _ _ _ _=>aR fun _=>aR fun _=>aR fun _=>bP rfl;have k23:=RC.kp;have b23:=RC.binds (ps:=["distance", "figures"]) fun _ _ _ _ _ _=>aR fun _=>aR fun _=>bP rfl;have k24:=QR.kp;have b24:=QR.binds (ps:=["distance", "figures"]) fun _ _ _ _ _ _=>aR fun _=>aR fun _=>bP rfl;have k25:=Tr.kp;have b25:=Tr.binds (ps:=["form", "part", "value"]) fun _ _ _ _ _ _=>aR fun _=>aR fun _=>aR fun _=>bP rfl;have k26:=TJ.kp;have b26:=TJ.binds (ps:=["form", "bare"]) fun _ _ _ _ _ _=>aR fun _=>aR fun _=>bP rfl;have k27:=RG.kp;have b27:=RG.binds (ps:=["_law_script"]) fun _ _ _ _ _ _=>aR fun _=>bP rfl;have k28:=QF.kp;have b28:=QF.binds (ps:=["_law_state", "_law_many"]) fun _ _ _ _ _ _=>aR fun _=>aR fun _=>bP rfl;have k29:=QX.kp;have b29:=QX.binds (ps:=["_law_found", "_law_due"]) fun _ _ _ _ _ _=>aR fun _=>aR fun _=>bP rfl;have k30:=RV.kp;have b30:=RV.binds (ps:=["_law_state", "_law_some"]) fun _ _ _ _ _ _=>aR fun _=>aR fun _=>bP rfl;have k31:=QH.kp;have b31:=QH.binds (ps:=["_law_state", "_law_many", "_law_most"]) fun _ _ _ _ _ _=>aR fun _=>aR fun _=>aR fun _=>bP rfl;have k32:=Rl.kp;have b32:=Rl.binds (ps:=[]) fun _ _ _ _ _ _=>bP rfl;have k33:=RJ.kp;have b33:=RJ.binds (ps:=[]) fun _ _ _ _ _ _=>bP rfl;have k34:=RE.kp;have b34:=RE.binds (ps:=["_law_state"]) fun _ _ _ _ _ _=>aR fun _=>bP rfl;have k35:=RD.kp;have b35:=RD.binds (ps:=["_law_parts_here"]) fun _ _ _ _ _ _=>aR fun _=>bP rfl;have k36:=SE.kp;have b36:=SE.binds (ps:=["_law_number", "_law_many"]) fun _ _ _ _ _ _=>aR fun _=>aR fun _=>bP rfl;have k37:=Sx.kp;have b37:=Sx.binds (ps:=["_law_many"]) fun _ _ _ _ _ _=>aR fun _=>bP rfl;have k38:=S7.kp;have b38:=S7.binds (ps:=["_law_word"]) fun _ _ _ _ _ _=>aR fun _=>bP rfl;have k39:=Q7.kp;have b39:=Q7.binds (ps:=["_law_parts_here", "_law_bare"]) fun _ _ _ _ _ _=>aR fun _=>aR fun _=>bP rfl;have k40:=QU.kp;have b40:=QU.binds (ps:=["_law_caught"]) fun _ _ _ _ _ _=>aR fun _=>bP rfl;have k41:=Th.kp;have b41:=Th.binds (ps:=["_law_form_here", "_law_bare"]) fun _ _ _ _ _ _=>aR fun _=>aR fun _=>bP rfl;have k42:=Qx.kp;have b42:=Qx.binds (ps:=["_law_state", "_law_many"]) fun _ _ _ _ _ _=>aR fun _=>aR fun _=>bP rfl;have F43:=aQ (st:=top hV) ZB YL WH;refine⟨Yd "law" "law" (cJ (top hV)) (bZ (top hV)) (ak (top hV)) .none SG QJ Q0 Td NK QD,fun s v =>.of_eq rfl,fun base hB hG =>?_⟩;have qL:=sY (P:=l.prog) (w:=w) (mg:=mg) (base:=base) uF Hj;have rZ:=sP (P:=l.prog) (w:=w) (mg:=mg) (base:=base) tZ xA;have JE:Fn l.prog w K mg base 1 "made_of" ["text", "signs"] (rC):=⟨f1,_,L3 F1 T,b1,k1,Jj X G a1⟩
 have WT:Fn l.prog w K mg base 2 "is_name" ["thing"] (lZ K dw):=⟨f2,_,FD F2 T gu fH JE,b2,k2,Jj X G a2⟩
 have XX:Fn l.prog w K mg base 2 "is_code" ["thing"] (lZ K cz):=⟨f3,_,Dp F3 T kh JE,b3,k3,Jj X G a3⟩
 have Rg:Fn l.prog w K mg base 1 "rest_of" ["one", "other"] (wk):=⟨f4,_,KQ F4 T,b4,k4,Jj X G a4⟩
 have Za:Fn l.prog w K mg base 1 "is_number" ["thing"] (AQ K):=⟨f5,_,GC F5 T,b5,k5,Jj X G a5⟩
 have Xy:Fn l.prog w K mg base 3 "is_entry" ["thing"] (lZ K bz):=⟨f6,_,AH F6 T WT XX,b6,k6,Jj X G a6⟩
 have VR:Fn l.prog w K mg base 4 "is_book" ["thing"] (qT K):=⟨f7,_,De F7 T Xy,b7,k7,Jj X G a7⟩
 have fCl:Fn l.prog w K mg base 2 "clash" ["book"] (wQ K):=⟨f8,_,Tj F8 T Rg,b8,k8,Jj X G a8⟩
 have fFr:Fn l.prog w K mg base 3 "free" ["book"] (zW K):=⟨f9,_,Lv F9 T fCl,b9,k9,Jj X G a9⟩
 have YA:Fn l.prog w K mg base 5 "is_free_book_of" ["thing", "names"] (Ha K):=⟨ZJ,_,N4 QS T gq VR fFr,b10,Q9,Jj X G W2⟩
 have V8:Fn l.prog w K mg base 1 "far_is_shorter" ["kinds", "near", "far"] (Ij K):=⟨XT,_,Pk TC T cR wJ hJ,b11,k11,Jj X G VJ⟩
 have fFw:Fn l.prog w K mg base 6 "first_wrong" ["kinds", "spots", "sizes", "near", "far"] (NZ K):=⟨YH,_,Tv Q4 T M29 YA Za V8,b12,k12,Jj X G Ws⟩
 have NY:Fn l.prog w K mg base 1 "two_to" ["power"] (kC):=⟨WS,_,NH Rh T,b13,EO,Jj X G ZX⟩
 have Tn:Fn l.prog w K mg base 1 "figures_of" ["number", "many"] (qo):=⟨VF,_,PZ Rn T,b14,k14,Jj X G Vi⟩
 have fNo:Fn l.prog w K mg base 1 "number_of" ["figures"] (BL):=⟨Wl,_,K8 Sk T,b15,k15,Jj X G XZ⟩
 have fLk:Fn l.prog w K mg base 1 "lookup_of" ["book"] (zF K):=⟨ON,_,Lp Tz T gq,b16,k16,Jj X G Zk⟩
 have fCa:Fn l.prog w K mg base 1 "code_at" ["names_by_code", "lengths", "text", "place"] (BJ K):=⟨VU,_,K3 Si T,b17,k17,Jj X G XC⟩
 have fNf:Fn l.prog w K mg base 2 "name_from" ["lookup", "text", "place"] (wU K):=⟨Vy,_,KB RP T fCa,b18,k18,Jj X G XN⟩
 have fFf:Fn l.prog w K mg base 2 "figures_from" ["ahead", "text", "place", "many"] (AO K):=⟨ZW,_,Lu RZ T kh JE fNo,b19,k19,Jj X G Zn⟩
 have fMa:Fn l.prog w K mg base 3 "many_from" ["text", "place"] (lR):=⟨W5,_,Mr SZ,b20,k20,Jj X G Zq⟩
 have fDf:Fn l.prog w K mg base 3 "distance_from" ["text", "place", "many"] (Bb K):=⟨WY,_,MB TF T NY fFf,b21,k21,Jj X G Xg⟩
 have fBa:Fn l.prog w K mg base 6 "bare_at" ["form", "text", "place"] (zQ K ck):=⟨Ww,_,LM Tl T UK MKR qX (Mw (P:=l.prog) (w:=w) (mg:=mg) (base:=base) yE T MF VM fLk) Kh jb (Mf (P:=l.prog) (w:=w) (mg:=mg) (base:=base) mY T UK VM Kb i8 (Mz (P:=l.prog) (w:=w) (mg:=mg) (base:=base) l7 T UK VM gG (Lq (P:=l.prog) (w:=w) (mg:=mg) (base:=base) j7) sT fNf fMa fDf) xO fNf) xt,b22,k22,Jj X G Xn⟩
 have fRe:Fn l.prog w K mg base 2 "is_reached" ["distance", "figures"] (OB):=⟨XF,_,RY RC T NY,b23,k23,Jj X G XY⟩
 have fPd:BN l.prog w K mg base 3 "put_distance" ["distance", "figures"] (Np aX):=⟨YJ,_,S6 QR T ij qR rZ sA fRe NY Tn,b24,k24,Jj X G ZL⟩
 have fPp:BN l.prog w K mg base 4 "put_part" ["form", "part", "value"] (OC K ck aX):=⟨WK,_,RO Tr T MF cR eE hZ gp Tn fPd,b25,k25,Jj X G Zu⟩
 have fPb:BN l.prog w K mg base 5 "put_bare" ["form", "bare"] (Nq K ck aX):=⟨W3,_,Tq TJ T MF cR Kb fPp,b26,k26,Jj X G Zj⟩
 have N3:Fn l.prog w K mg base 1 "_law_begin" ["_law_script"] (wM K):=⟨XV,_,Hu RG T,b27,k27,Jj X G YM⟩
 have QQ:Fn l.prog w K mg base 1 "_law_take" ["_law_state", "_law_many"] (Bn):=⟨Vl,_,LA QF T,b28,k28,Jj X G ZO⟩
 have R9:Fn l.prog w K mg base 1 "_law_take" ["_law_state", "_law_many"] (Bo):=Fn.imp QQ (fun _ _ _ _ h=>Lf h);have Q8:∀n:Nat,Fn l.prog w K mg base (n+0) "_law_same" ["_law_found", "_law_due"] (vU K n):=fun n=>by
  induction n with
  | zero=>exact⟨Vd,_,⟨fun vs H Q E h=>absurd h (by rintro⟨_,_,_,_,_,_,z,_⟩;exact absurd z (Wf _)),fun A outer s H args us vs Q E _ _ _ _ h=>absurd h (by rintro⟨_,_,_,_,_,_,z,_⟩;exact absurd z (Wf _))⟩,b29,k29,Jj X G UG⟩
  | succ n ih=>exact⟨Vd,_,Ko QX T ih,b29,k29,Jj X G UG⟩
 have QW:Fn l.prog w K mg base 2 "_law_mixed" ["_law_state", "_law_some"] (C0 K):=⟨YD,_,JM RV T R9,b30,k30,Jj X G VG⟩
 have YT:Fn l.prog w K mg base 3 "_law_codes" ["_law_state", "_law_many", "_law_most"] (G2):=⟨ZZ,_,N2 QH T R9 QW,b31,k31,Jj X G W4⟩
 have Oo:Fn l.prog w K mg base 1 "_law_kinds" [] (pR aI):=⟨XU,_,IT Rl T,b32,k32,Jj X G ZN⟩
 have JQ:Fn l.prog w K mg base 1 "_law_sizes" [] (pR bB):=⟨Xi,_,Gq RJ T,b33,k33,Jj X G YO⟩
 have Wu:Fn l.prog w K mg base 4 "_law_parts" ["_law_state"] (HX K):=⟨Zc,_,Io RE T cR Oo JQ R9 QW YT,b34,k34,Jj X G Vt⟩
 have fFo:BN l.prog w K mg base 9 "_law_form" ["_law_parts_here"] (Pl K ck cN):=⟨ZI,_,Ru RD T MKF BK (Sg (P:=l.prog) (w:=w) (mg:=mg) (base:=base) Cm T MF iy qS qL pN fFw) Pp,b35,k35,Jj X G Wy⟩
 have WI:Fn l.prog w K mg base 9 "_law_form" ["_law_parts_here"] (JP K ck):=BN.calm fFo (fun _ _ _ _ h=>PJ h);have Qt:Fn l.prog w K mg base 1 "_law_figures" ["_law_number", "_law_many"] (qo):=⟨ZC,_,KZ SE T,b36,k36,Jj X G Vr⟩
 have HA:Fn l.prog w K mg base 1 "_law_power" ["_law_many"] (kC):=⟨WE,_,Mp Sx T,b37,k37,Jj X G XB⟩
 have SY:Fn l.prog w K mg base 1 "_law_far_word" ["_law_word"] (wc):=⟨Zg,_,Mh S7 T,b38,k38,Jj X G WD⟩
 have fLq:Fn l.prog w K mg base 2 "_law_put" ["_law_parts_here", "_law_bare"] (Nw K):=⟨XD,_,Rj Q7 T cR JQ Qt HA SY,b39,k39,Jj X G ZT⟩
 have XJ:Fn l.prog w K mg base 1 "_law_class" ["_law_caught"] (uV K aX):=⟨Xj,_,Hl QU T jd eU ij nL qE sf ou kL iy nq VT xA (fun D hD=>by simp at hD;rcases hD with rfl|rfl|rfl|rfl|rfl|rfl|rfl<;>assumption) (by assumption) (by assumption),b40,k40,Jj X G ZG⟩
 have S0:Fn l.prog w K mg base 6 "_law_told" ["_law_form_here", "_law_bare"] (pS K ck):=⟨W8,_,Fz Th T eU Xh fPb XJ,b41,k41,Jj X G W0⟩
 have fDs:Fn l.prog w K mg base 2 "_law_distances" ["_law_state", "_law_many"] (zZ):=⟨Z1,_,LH Qx T R9 HA,b42,k42,Jj X G Wx⟩
 exact OX F43 T N3 R9 Wu WI SY HA fDs S0 fLq fBa (Q8 8)
def walk {l:Qep}{q:Qaf}{loose:List Str}{XP:(Str->Option Fk)->Heap->Prop}{YP:Qah->Heap->Prop}{d:DefRec}{K:Params->Ja}(hn:l.most=some 63)(Qw:d.params.defaults=[])
  (hY:∀(w:Qah) (h:Heap),YP w h->(K w.params).In h)
  (F:∀(w:Qah) (mg:Str->Option Fk) (fa:Gc) (h:Heap),(K w.params).In h->h.Ns W1 mg->mg d.name=some (.ref fa) ->
   ∃fd:Qad,(∀(s:KE) (u:Fk),QfI s fd ⟨[u],[]⟩ [("_law_script",u)])/\∀base:Heap,(K w.params).In base->base.Ns W1 mg->aW l.prog w (K w.params) mg base d7 10 fa fd ["_law_script"] (B3 (K w.params))) :
  PySem.W.WalkO q loose XP YP l.row.toRowW d [] (fun f vs=>QeT f vs):=
 L2.Kf (n:=63) (k:=10) (x := "_law_script") (CX:=fun _=>d7) (sp:=fun w=>B3 (K w.params)) hn ∅ Qw ⟨rfl,∅,∅,rfl⟩ hY F (fun _ _ a ns hl _ hS=>⟨a,ns,rfl,hS,hl,fun _=>rfl⟩) fun _ _ _ _ _ z=>z
end Z
open PySem PySem.W PyProof.Rows L2
set_option maxRecDepth 100000 in
set_option maxHeartbeats 0 in
theorem PySem.Challenge.cw_oddlong_k33_distances_at_bounds_holds : PySem.Challenge.rw_oddlong_k33_distances_at_bounds.Holds := by
  refine Z.Mc ?hw ?hc
  (case hw => w_witness2)
  k_fill
  refine Z.walk (l := PySem.Challenge.rw_oddlong_k33_distances_at_bounds) rfl rfl (fun w h Y => Y) ?F
  case F =>
    intro w mg fa h KX G hmg
    refine' Z.all_mk KX G hmg ?a1 ?F1 ?a2 ?F2 ?a3 ?F3 ?a4 ?F4 ?a5 ?F5 ?a6 ?F6 ?a7 ?F7 ?a8 ?F8 ?a9 ?F9 ?W2 ?QS ?VJ ?TC ?Ws ?Q4 ?ZX ?Rh ?Vi ?Rn ?XZ ?Sk ?Zk ?Tz ?XC ?Si ?XN ?RP ?Zn ?RZ ?Zq ?SZ ?Xg ?TF ?Xn ?Tl ?XY ?RC ?ZL ?QR ?Zu ?Tr ?Zj ?TJ ?YM ?RG ?ZO ?QF ?UG ?QX ?VG ?RV ?W4 ?QH ?ZN ?Rl ?YO ?RJ ?Vt ?RE ?Wy ?RD ?Vr ?SE ?XB ?Sx ?WD ?S7 ?ZT ?Q7 ?ZG ?QU ?W0 ?Th ?Wx ?Qx ?X1 ?ZB ?YL ?WH ?j5 ?m5 ?lE ?og ?nW ?lA ?jA ?nI ?lx ?vJ ?nU ?kt0 ?kt1 ?kt2 ?Z8 ?kt4 ?Z4 ?kt6 ?kt7 ?kt8 ?VT ?Xh ?V3 ?Wo ?Vx ?UA ?UH ?UE ?WU ?Zx ?Zr ?Zp ?UL ?Vc ?UI ?Xx ?Wm ?V1 ?T8 ?Vf ?Sn ?UJ ?WM ?uP ?Bw ?Ax ?wA ?Al ?AE ?rG ?uN ?v7 ?qA ?vO ?ve ?vI ?Az ?Bl ?qz ?vL ?wC ?qD ?wR ?vK ?pY ?wN ?vX ?jT ?lH ?kP ?kc ?kH ?kJ ?qG ?wq ?uO ?ke ?ki ?o7 ?qe ?nN ?mG ?qg ?rK ?qi ?qr ?qF ?o9 ?ql ?nA ?mR ?qc ?pO ?rP ?qv ?rb ?Nr ?Nj ?PY ?Pq ?P9 ?PQ ?la ?lz ?kX ?nV ?rB ?vk ?wZ ?vZ ?wz ?wj ?Pb ?Oa ?Pg ?NB ?O3 ?N7 ?kI ?kR ?lq ?ox ?rW ?qu ?qZ ?qQ ?pT ?pQ ?jc ?iW ?iV ?fN ?iE ?iR ?iH ?iG ?fP ?iP ?gC ?gr ?gF ?eI ?gB ?y0 ?y1 ?y2 ?z0 ?z1 ?z2 ?z3 ?z4 ?z5 ?z6 ?z7 ?z8 ?z9 ?ZF ?V6 ?Wz ?WN ?VI ?WQ
    (case a1 => k_is); (case F1 => (refine' aQ ?l ?c ?k; (case l => k_is); (case c => k_is); (case k => k_is))); (case a2 => k_is); (case F2 => (refine' aQ ?l ?c ?k; (case l => k_is); (case c => k_is); (case k => k_is))); (case a3 => k_is); (case F3 => (refine' aQ ?l ?c ?k; (case l => k_is); (case c => k_is); (case k => k_is))); (case a4 => k_is); (case F4 => (refine' aQ ?l ?c ?k; (case l => k_is); (case c => k_is); (case k => k_is)))
    (case a5 => k_is); (case F5 => (refine' aQ ?l ?c ?k; (case l => k_is); (case c => k_is); (case k => k_is))); (case a6 => k_is); (case F6 => (refine' aQ ?l ?c ?k; (case l => k_is); (case c => k_is); (case k => k_is))); (case a7 => k_is); (case F7 => (refine' aQ ?l ?c ?k; (case l => k_is); (case c => k_is); (case k => k_is))); (case a8 => k_is); (case F8 => (refine' aQ ?l ?c ?k; (case l => k_is); (case c => k_is); (case k => k_is)))
    (case a9 => k_is); (case F9 => (refine' aQ ?l ?c ?k; (case l => k_is); (case c => k_is); (case k => k_is))); (case W2 => k_is); (case QS => (refine' aQ ?l ?c ?k; (case l => k_is); (case c => k_is); (case k => k_is))); (case VJ => k_is); (case TC => (refine' aQ ?l ?c ?k; (case l => k_is); (case c => k_is); (case k => k_is))); (case Ws => k_is); (case Q4 => (refine' aQ ?l ?c ?k; (case l => k_is); (case c => k_is); (case k => k_is)))
    (case ZX => k_is); (case Rh => (refine' aQ ?l ?c ?k; (case l => k_is); (case c => k_is); (case k => k_is))); (case Vi => k_is); (case Rn => (refine' aQ ?l ?c ?k; (case l => k_is); (case c => k_is); (case k => k_is))); (case XZ => k_is); (case Sk => (refine' aQ ?l ?c ?k; (case l => k_is); (case c => k_is); (case k => k_is))); (case Zk => k_is); (case Tz => (refine' aQ ?l ?c ?k; (case l => k_is); (case c => k_is); (case k => k_is)))
    (case XC => k_is); (case Si => (refine' aQ ?l ?c ?k; (case l => k_is); (case c => k_is); (case k => k_is))); (case XN => k_is); (case RP => (refine' aQ ?l ?c ?k; (case l => k_is); (case c => k_is); (case k => k_is))); (case Zn => k_is); (case RZ => (refine' aQ ?l ?c ?k; (case l => k_is); (case c => k_is); (case k => k_is))); (case Zq => k_is); (case SZ => (refine' aQ ?l ?c ?k; (case l => k_is); (case c => k_is); (case k => k_is)))
    (case Xg => k_is); (case TF => (refine' aQ ?l ?c ?k; (case l => k_is); (case c => k_is); (case k => k_is))); (case Xn => k_is); (case Tl => (refine' aQ ?l ?c ?k; (case l => k_is); (case c => k_is); (case k => k_is))); (case XY => k_is); (case RC => (refine' aQ ?l ?c ?k; (case l => k_is); (case c => k_is); (case k => k_is))); (case ZL => k_is); (case QR => (refine' aQ ?l ?c ?k; (case l => k_is); (case c => k_is); (case k => k_is)))
    (case Zu => k_is); (case Tr => (refine' aQ ?l ?c ?k; (case l => k_is); (case c => k_is); (case k => k_is))); (case Zj => k_is); (case TJ => (refine' aQ ?l ?c ?k; (case l => k_is); (case c => k_is); (case k => k_is))); (case YM => k_is); (case RG => (refine' aQ ?l ?c ?k; (case l => k_is); (case c => k_is); (case k => k_is))); (case ZO => k_is); (case QF => (refine' aQ ?l ?c ?k; (case l => k_is); (case c => k_is); (case k => k_is)))
    (case UG => k_is); (case QX => (refine' aQ ?l ?c ?k; (case l => k_is); (case c => k_is); (case k => k_is))); (case VG => k_is); (case RV => (refine' aQ ?l ?c ?k; (case l => k_is); (case c => k_is); (case k => k_is))); (case W4 => k_is); (case QH => (refine' aQ ?l ?c ?k; (case l => k_is); (case c => k_is); (case k => k_is))); (case ZN => k_is); (case Rl => (refine' aQ ?l ?c ?k; (case l => k_is); (case c => k_is); (case k => k_is)))
    (case YO => k_is); (case RJ => (refine' aQ ?l ?c ?k; (case l => k_is); (case c => k_is); (case k => k_is))); (case Vt => k_is); (case RE => (refine' aQ ?l ?c ?k; (case l => k_is); (case c => k_is); (case k => k_is))); (case Wy => k_is); (case RD => (refine' aQ ?l ?c ?k; (case l => k_is); (case c => k_is); (case k => k_is))); (case Vr => k_is); (case SE => (refine' aQ ?l ?c ?k; (case l => k_is); (case c => k_is); (case k => k_is)))
    (case XB => k_is); (case Sx => (refine' aQ ?l ?c ?k; (case l => k_is); (case c => k_is); (case k => k_is))); (case WD => k_is); (case S7 => (refine' aQ ?l ?c ?k; (case l => k_is); (case c => k_is); (case k => k_is))); (case ZT => k_is); (case Q7 => (refine' aQ ?l ?c ?k; (case l => k_is); (case c => k_is); (case k => k_is))); (case ZG => k_is); (case QU => (refine' aQ ?l ?c ?k; (case l => k_is); (case c => k_is); (case k => k_is)))
    (case W0 => k_is); (case Th => (refine' aQ ?l ?c ?k; (case l => k_is); (case c => k_is); (case k => k_is))); (case Wx => k_is); (case Qx => (refine' aQ ?l ?c ?k; (case l => k_is); (case c => k_is); (case k => k_is))); (case X1 => k_is); (case ZB => k_is); (case YL => k_is); (case WH => k_is)
    (case j5 => k_is); (case m5 => k_is); (case lE => k_is); (case og => k_is); (case nW => k_is); (case lA => k_is); (case jA => k_is); (case nI => k_is)
    (case lx => k_is); (case vJ => k_is); (case nU => k_is); (case kt0 => exact gL (by k_is) (by k_is) (by k_is) rfl); (case kt1 => exact gL (by k_is) (by k_is) (by k_is) rfl); (case kt2 => exact gL (by k_is) (by k_is) (by k_is) rfl); (case Z8 => exact gL (by k_is) (by k_is) (by k_is) rfl); (case kt4 => exact gL (by k_is) (by k_is) (by k_is) rfl)
    (case Z4 => exact gL (by k_is) (by k_is) (by k_is) rfl); (case kt6 => exact gL (by k_is) (by k_is) (by k_is) rfl); (case kt7 => exact NT (by decide +kernel) (by k_is)); (case kt8 => exact gL (by k_is) (by k_is) (by k_is) rfl); (case VT => exact ⟨II (by k_is), by k_is, by k_is, by k_is, by k_is, by k_is, by k_is, by k_is⟩); (case Xh => exact Kl (by k_is) (by k_is) (by k_is) (by k_is)); (case V3 => k_is); (case Wo => k_is)
    (case Vx => k_is); (case UA => k_is); (case UH => k_is); (case UE => k_is); (case WU => k_is); (case Zx => k_is); (case Zr => k_is); (case Zp => repeat (first | exact Paired.nil | refine Paired.cons ⟨_, rfl⟩ ?_))
    (case UL => k_is); (case Vc => k_is); (case UI => repeat (first | exact Paired.nil | refine Paired.cons ⟨_, rfl⟩ ?_)); (case Xx => k_is); (case Wm => k_is); (case V1 => repeat (first | exact Paired.nil | refine Paired.cons ⟨_, rfl⟩ ?_)); (case T8 => k_is); (case Vf => k_is)
    (case Sn => repeat (first | exact trivial | refine ⟨⟨_, _, rfl, rfl⟩, ?_⟩)); (case UJ => rfl); (case WM => decide); (case uP => k_is); (case Bw => k_is); (case Ax => repeat (first | exact Paired.nil | refine Paired.cons ⟨_, rfl⟩ ?_)); (case wA => k_is); (case Al => k_is)
    (case AE => repeat (first | exact Paired.nil | refine Paired.cons ⟨_, rfl⟩ ?_)); (case rG => k_is); (case uN => k_is); (case v7 => repeat (first | exact Paired.nil | refine Paired.cons ⟨_, rfl⟩ ?_)); (case qA => k_is); (case vO => k_is); (case ve => repeat (first | exact Paired.nil | refine Paired.cons ⟨_, rfl⟩ ?_)); (case vI => k_is)
    (case Az => k_is); (case Bl => repeat (first | exact Paired.nil | refine Paired.cons ⟨_, rfl⟩ ?_)); (case qz => k_is); (case vL => k_is); (case wC => repeat (first | exact Paired.nil | refine Paired.cons ⟨_, rfl⟩ ?_)); (case qD => k_is); (case wR => k_is); (case vK => repeat (first | exact Paired.nil | refine Paired.cons ⟨_, rfl⟩ ?_))
    (case pY => k_is); (case wN => k_is); (case vX => repeat (first | exact Paired.nil | refine Paired.cons ⟨_, rfl⟩ ?_)); (case jT => k_is); (case lH => k_is); (case kP => repeat (first | exact Paired.nil | refine Paired.cons ⟨_, rfl⟩ ?_)); (case kc => k_is); (case kH => k_is)
    (case kJ => repeat (first | exact Paired.nil | refine Paired.cons ⟨_, rfl⟩ ?_)); (case qG => k_is); (case wq => k_is); (case uO => repeat (first | exact Paired.nil | refine Paired.cons ⟨_, rfl⟩ ?_)); (case ke => k_is); (case ki => k_exc); (case o7 => k_is); (case qe => k_is)
    (case nN => k_is); (case mG => k_is); (case qg => k_is); (case rK => k_is); (case qi => k_is); (case qr => k_is); (case qF => k_is); (case o9 => k_is)
    (case ql => k_is); (case nA => k_is); (case mR => k_is); (case qc => k_is); (case pO => k_is); (case rP => k_is); (case qv => k_is); (case rb => k_is)
    (case Nr => k_is); (case Nj => k_is); (case PY => k_is); (case Pq => k_is); (case P9 => k_is); (case PQ => k_is); (case la => k_is); (case lz => k_is)
    (case kX => k_is); (case nV => k_is); (case rB => k_is); (case vk => k_is); (case wZ => k_is); (case vZ => k_is); (case wz => k_is); (case wj => k_is)
    (case Pb => k_is); (case Oa => k_is); (case Pg => k_is); (case NB => k_is); (case O3 => k_is); (case N7 => k_is); (case kI => k_is); (case kR => k_is)
    (case lq => k_is); (case ox => k_is); (case rW => k_is); (case qu => k_is); (case qZ => k_is); (case qQ => k_is); (case pT => k_is); (case pQ => k_is)
    (case jc => k_is); (case iW => k_is); (case iV => k_is); (case fN => k_is); (case iE => k_is); (case iR => k_is); (case iH => k_is); (case iG => k_is)
    (case fP => k_is); (case iP => k_is); (case gC => k_is); (case gr => k_is); (case gF => k_is); (case eI => k_is); (case gB => k_is); (case y0 => k_is)
    (case y1 => k_is); (case y2 => k_is); (case z0 => k_is); (case z1 => k_is); (case z2 => k_is); (case z3 => k_is); (case z4 => k_is); (case z5 => k_is)
    (case z6 => k_is); (case z7 => k_is); (case z8 => k_is); (case z9 => k_is); (case ZF => k_is); (case V6 => k_is); (case Wz => k_is); (case WN => k_is)
    (case VI => k_is); (case WQ => k_is)
