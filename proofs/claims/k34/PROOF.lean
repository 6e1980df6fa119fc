import PyProof.Rows.All
import KE.KSortTup
import KE.KDictOf
import KE.KIntText
import KE.KFromBytes
import KE.KTryMore
import KE.KItemsList
import KE.KRevIter
import KE.KMinKey
import ObjForm.ListNI
import Wide.Line
import OpenK.KOwn
import OpenK.KWalk
import OpenK.KLine
import Lean
import PySem.Challenge.RW_oddlong_k34_all_numbers_and_pairs
local macro_rules | `(∅) => `(by decide +kernel)
local macro_rules | `(⋯) => `(by lia)
set_option Elab.async false
set_option linter.all false
set_option maxRecDepth 100000
open PySem.W renaming Frag → Ja, nsIn → Jh, mg_of → Jl, findIn → J3, mg_none_of → J8, keepIn → Ui, kia_one → U9, fnOf → Yd, codeIn → Ym, kitOne → Yv, emptyDict → Y1, instObj → Y4, plainGet → Wg, isFn → Wi
open PySem.Heap renaming get?_push_of_some → Jb, lt_size → Jf, get?_push_size → Ji, get?_update_self → J4, get?_update_other → J5, size_push → Ua, SameBut → U6
open List renaming length_map → Jc, getElem?_eq_getElem → Jd, getElem?_map → Jj, mem_cons_of_mem → Jk, getElem?_eq_some_iff → Jm, mem_cons_self → Jn, length_append → Jp, length_cons → Jq, mem_singleton → Js, replicate → Jt, map_append → Ju, mem_cons → Jw, size_toArray → Jy, mem_append_right → Jz, map_cons → J0, mem_of_getElem? → J2, mem_iff_getElem? → J7, mem_append → J9, length_take → Uc, getElem_mem → Ud, length_replicate → Uh, getElem?_append_right → Uj, lookup_cons → Uk, getElem?_append_left → Uo, not_mem_nil → Uq, take_of_length_le → Us, mem_map → Ut, sum_cons → Uu, length_drop → Uv, eq_nil_of_length_eq_zero → Ux, range → Uy, pairwise_iff_getElem → Uz, append_assoc → U0, getD_eq_getElem?_getD → U3, getElem?_zip_eq_some → U5, length_nil → U8, nodup_cons → Yb, Perm → Yc, take_succ_eq_append_getElem → Ye, append_nil → Yg, length_zip → Yh, take_length → Yj, mem_map_of_mem → Yk, map_map → Yn, mem_append_left → Yo, getElem?_set_ne → Yp, getElem?_replicate → Yq, all_eq_true → Yr, mem_iff_getElem → Ys, getElem?_set_self → Yt, eraseIdx_eq_take_drop_succ → Yy, pairwise_append → Y0, length_range → Y2, flatMap_cons → Y3, filterMap_cons → Y5, map_congr_left → Y6, any_cons → Y7, getElem_map → Y9, getElem?_toArray → Wa, length_set → Wc, lookup → We
open Nat renaming le_refl → Je, le_trans → Jg, ne_of_lt → Jo, lt_of_lt_of_le → Jx, lt_of_le_of_lt → J6, lt_irrefl → Ue, ne_of_gt → Ug, le_add_right → Ul, zero_le → Um, lt_trans → U7, le_of_lt → Yi, le_succ → Yx, lt_succ_self → Y8, not_lt_zero → Wd, pow_succ → Wf, succ_le_succ → Wh
open Bool renaming false_ne_true → Jr, and_eq_true → Jv, true_and → U4, eq_false_iff → Yl, false_and → Yu, false_eq_true → Yz, eq_iff_iff → Wb
open Array renaming getElem?_eq_getElem → J1, length_toList → Ub, getElem?_eq_none → Ur, getElem?_toList → U1, getElem?_eq_some_iff → U2, all_eq_true_iff_forall_mem → Yw
open Int renaming toNat_natCast → Uw
open Array renaming size_push → Qb4, toList_push → Qce, eq_empty_of_size_eq_zero → Qem, getElem?_push_size → Qfj, getElem?_push_lt → Qfv
open Bind renaming bind → QbV
open Bool renaming or_false → Qd2, not_true → Qfs
open Classical renaming propDecidable → Qbv, byContradiction → Qet
open False renaming elim → Qbm
open ForInStep renaming yield → Qc2
open Int renaming emod_lt_of_pos → Qca, emod_nonneg → QcG, pow_succ → QcN, fdiv_eq_ediv_of_nonneg → QcW, mul_comm → Qdu, le_refl → QdO, toNat_of_nonneg → Qd0, pow_pos → QeH, fmod_eq_emod_of_nonneg → Qfh, zero_add → QfY
open List renaming drop_eq_getElem_cons → QbX, all_cons → Qb3, of_mem_zip → Qb5, prefix_append → Qb7, pairwise_singleton → Qb9, reverse_cons → Qcf, map_nil → Qcg, prefix_or_prefix_of_prefix → Qcl, length_singleton → Qcn, getElem?_eq_none → Qco, cons_append → Qcp, sum_append → QcA, replicate_succ → QcF, prefix_refl → Qda, map_reverse → Qdb, isEmpty_nil → Qdc, range_succ_eq_map → Qdk, range_succ → Qdt, replicate_succ' → QdF, length_eraseIdx → QdG, length → QdH, drop_zero → QdI, toList_toArray → QdT, takeWhile_cons → QdU, pairwise_map → Qee, map_snd_zip → Qer, drop_length → Qes, map_id → QeB, take_left' → QeF, forIn_cons → QeG, length_erase_of_mem → Qfp, getElem?_take_of_lt → Qfq, sum_nil → Qfz, pairwise_lt_range → QfA, not_of_lt_findIdx → QfB, length_pos_of_mem → QfC, drop_of_length_le → QfD, any_map → QfE, take_append_drop → QfV, length_filter_le → QfW, perm_cons_erase → Qf7
open List.Pairwise renaming sublist → QcV, nil → Qe4
open Nat renaming lt_succ_of_lt → Qci, add_assoc → Qcy, succ_pos → Qdq, mul_succ → Qdr, div_div_eq_div_mul → Qds, pow_le_pow_right → QdN, add_lt_add_left → QdZ, mul_comm → Qej, mod_eq_of_lt → QeA, le_total → QfU
open Nat.succ renaming inj → Qe3
open Ne renaming symm → QaB
open Option renaming map_map → Qcc, isSome_some → Qf6
open Option.some renaming inj → Qao
open Or renaming inl → Qae, inr → QbU
open Prod renaming ext → Qcx
open Prod.mk renaming inj → QaU
open PyProof renaming noPylong_small → Qc6
open PyProof.Rows renaming callWith_type1 → Qan, sortedS → Qa5, envOfC → QbE, seqObj → QcB, AllBare → Qdl, toString_length_le → Qdz, slot_tuple_getitem → QdA, slice_closes → Qd9, IntsAre → Qef, assignInOrder_cons → Qey, risingS → QeE, zipApart_new → QeK, Subscript_ → QfQ
open PySem renaming wpAny_bind → be, wpAny_pure → tz, Value → Fk, Addr → Gc, Shared → KE, sizeLine → M2, mainGlobals → W1, wpAny → Qaa, model → Qab, PyData → Qac, FuncData → Qad, Program → Qaf, World → Qag, wpAny_setField_rec → Qah, wpAny_field → Qai, starEach → Qaj, wpAny_holding → Qak, wpAny_callSpecial?_slot → Qal, wpAny_call_entry → Qar, wpAny_seqItems → Qav, Around → Qax, compareOp → QaC, wpAny_isInstance → QaD, Expr → QaE, strLen_append → QaH, codeAny_builtin → QaJ, wpAny_setState_of → QaL, wpAny_newObj_type → QaM, eval → QaR, wpAny_Call_Name_kw → QaS, bootBuiltins → QaT, rawInt → QaV, plainId_quiet → QaW, wpAny_typeOf → QaX, codeAny → Qa2, wpAny_raiseNew_none → Qa6, wpAny_updateSeq → Qa9, wpAny_askSetting → Qbd, wpAny_standAt → Qbe, wpAny_attempt → Qbf, wpAny_truthy_bool → Qbg, foldedSetIterable → Qbh, wpAny_rule → Qbi, wpAny_ite_split → Qbj, wpAny_nextOf_list_item → Qbn, IsPair → Qbo, wpAny_ite → Qbp, wpAny_mono → Qbr, typeLookup → Qbs, isSubtype_stop → Qbt, binaryOp → Qbu, mem_of_lookup → Qbx, wpAny_typeNameOfWhole_itemiter → QbD, KeyKind → QbF, sliceBounds → QbI, excClassObj → QbJ, sysModules → QbM, wpAny_passesOwn → QbP, attributeBase → QbQ, pyNext → QbS, builtinLookup_eq_fast → QbT, wpAny_updateSeq_pair → Qb0, Scope → Qb1, Result → Qb2, wpAny_letGo → Qcj, wpAny_getItem_str_slice → Qck, wpAny_pyIter_list → Qcq, wpAny_newTuple → Qcr, wpAny_loadPart_at → Qcs, wpAny_isOneOf_itemiter → Qct, backTo → Qcu, NameKind → Qcw, call_meets → QcC, assignEach → QcD, wpAny_onRaise → QcH, codeAny_call_builtin → QcJ, ZipApart → QcK, SetTable → QcM, wpAny_specialOf → QcR, typeLookup_type → QcS, letOwnedTupleGo → QcT, wpAny_dictSet_pairs → QcX, codeAny_mono → Qc0, noteFrame → Qc1, wpAny_setField → Qc3, merged → Qc4, callType_codes → Qc5, sizeLine_eq → Qdg, cLine → Qdh, wpAny_comprehension_free → Qdm, strLen_append → Qdn, behindInMarks → Qdo, wpAny_pyIter_zip → Qdw, pickOrder → Qdx, DictEntry → QdC, typeIs_str → QdK, Stmt → QdM, wpAny_execs_nil → QdQ, post_val_or_str → QdR, strKind → QdS, wpAny_notOrdered_dict → QdV, wpAny_nextOf_list_end → QdW, wpAny_newFunctionEnv → Qd6, wpAny_fieldsOf → Qd7, relayAll → Qd8, swapsWith → Qeb, getItem → Qec, wpAny_pyIter_tuple → Qeu, wpAny_load → Qev, tupleKind_room_in1 → Qew, stored → Qex, fits_of_scanBound → QeM, compPost → QeN, call → QeQ, Spec → QeS, GenState → QeT, plainObj_wpAny_Assign_Attribute → QeY, wpAny_eqBool_str → Qe7, tupleKind → Qe8, scanBound → Qe9, pyIter → Qfa, kt_code_dict_new → Qfb, IsPart → Qfg, unsupported → Qfk, subscripted → Qfl, theTreesLotGoes → Qft, Within → Qfu, valueAt → Qfw, callerA → Qfx, BindsTo → QfF, wpAny_tryCatch → QfH, wpAny_call → QfI, typeIs_int → QfJ, setsByText → QfK, raiseAttrError → QfL, field → QfM, assign → QfN, PlainAttrs → QfS, Paired → QfT, IsZip → QfX, evalArgs_none → Qf0
open PySem.Around renaming under_plainId → QfG
open PySem.Builtin.Frozenset renaming addrOf → QdP
open PySem.Builtin.Int renaming intBits → QbA
open PySem.Builtin.List renaming listSameRef → Qa4, listExtendWith → Qbc, listLengthHint → Qbz, listTooLong → Qeg
open PySem.Builtin.Slice renaming slicePlaces → QbH, sliceAdjust → Qd5
open PySem.Builtin.SmallTypes renaming nextOf → QdD
open PySem.Builtin.Str renaming strSliceIndices → QbN, strSub → Qdv
open PySem.Calls renaming spliced_cons → Qb6, spliced_nil → Qcd, callWith_builtin → Qde, Name_function_global → QeX, call_function_entry → Qe6
open PySem.Challenge renaming rw_oddlong_k34_all_numbers_and_pairs → Qam, pw_oddlong_k34_all_numbers_and_pairs → Qba
open PySem.Code renaming quiet_builtin → Qd4
open PySem.F renaming plainAttrs_str → QaA, slot_zip_next → QaI, plainAttrs_list → QaP, plain_extend_loop → Qa3, type_list_append → Qa7, slot_list_append → Qa8, type_str_join → Qbk, slot_str_join → Qbl, args_zip_next_1 → Qbw, entry_zip_next → QbC, slot_dict_itemiterator_next → QbG, entry_extend_loop → QbR, slot_tuple_iterator_next → QbY, kt_typeCall_dict_1 → Qd1, args_str_split_2 → Qek, args_dict_init_2 → Qel, type_str_startswith → Qen, slot_str_startswith → Qeo, slot_int_bit_length → Qep, entry_str_split → QeC, entry_dict_init → QeD, args_dict_itemiterator_next_1 → QeJ, slot_str_split → QeU, kt_called_dict → QeV, entry_dict_itemiterator_next → QeW, slot_dict_items → Qe0, plain_list_iadd → Qe1, type_str_split → Qfe, slot_str_split → Qff, args_tuple_iterator_next_1 → Qfi, entry_tuple_iterator_next → Qfr
open PySem.Heap renaming get?_none_of_le → QdJ, MadeExcOf → Qe5
open PySem.Heap.DictOf renaming new → QcZ
open PySem.Heap.IsSliceOf renaming new → QeI
open PySem.Heap.Ns1 renaming of_empty → QfZ
open PySem.Manifest renaming find? → Qdj
open PySem.NameKind renaming free → QaY, cell → QcQ
open PySem.Obj renaming mapSeq → QaF, mapFields → QbL, data_mapFields → QcU, isFreed_of_fields → QdB, putSet → Qea
open PySem.Paired renaming length → Qe2
open PySem.PassesOwn renaming never → Qay
open PySem.PyData renaming weightAll → Qas, weight → Qaz, depth → Qa0, depthAll → Qbq, canLay0 → Qby, str → QbB, eqv → QbO, eqvAll → QbZ, canLayAll0 → Qcb, tuple → Qcz, int → Qc9, shownAll → Qdd, shown → Qd3, showable → Qeq, showableAll → Qf5
open PySem.PyData.list renaming inj → QdY
open PySem.SeqAt renaming shaped → QaK
open PySem.SeqAt.EqAt renaming str_int → Qfn, int_str → Qfo
open PySem.SetTable renaming below → QaG, grown → QbK, has → QeZ, orStandIn → Qfy
open PySem.SetTable.below renaming go → QeP
open PySem.SetTable.probe renaming go → Qdi
open PySem.Shared renaming TypeIs → QaZ
open PySem.Str renaming ofString → Wp, empty → Qaq
open PySem.Txt renaming slice → QaN, join → QaQ, mul → QbW, startswith → Qch, split → Qcv, slice_le → QcL, stripChars → Qfc
open PySem.Value renaming ref → Qap, type → Qa1, none → Qcm, str → QcI, isInt_shape → QcY, int → QdE, isStrOf_shape → QdL, bool → QeO, float → QfO
open PySem.W renaming hasDictIn → Qb8, callWith_K → QcE, plainOver → QcP, makesIn → Qc7, KeysLit → Qc8, topFrom → Qdf, lookIn → Qdp, plainGet_of → Qdy, kitx_list → QdX, takerIn → Qeh, OpenLaw → Qei, mroIn → QeR, cellsFrom_some → Qfd, hideAll_get → Qfm, kitx_tuple → QfR, kitx_none → Qf1, kitx_dict → Qf2, kitx_bool → Qf3, kdx_alive → Qf4
open PySem.W.Fast renaming te14364793385576792824 → Qat, te14082659384304107361 → Qau, te4187177175401517315 → Qaw
open PySem.W.OpenLaw renaming row → Qed
open PySem.W.OpenRow renaming toRowW → Qez
open PySem.pickOrder renaming go → QeL
open Sum renaming inr → Qbb, inl → QfP
open Sum.inr renaming inj → QcO
open True renaming intro → QaO
noncomputable section
namespace L2
set_option genSizeOf false
set_option genInjectivity false
inductive eM {α0 α1:Type}(P: α0 -> α1->Prop):Prop|mk (x0: α0) (x1: α1) (h:P x0 x1):eM P
inductive sF {α0 α1 α2:Type}(P: α0 -> α1 -> α2->Prop):Prop|mk (x0: α0) (x1: α1) (x2: α2) (h:P x0 x1 x2):sF P
inductive pH {α0 α1 α2 α3:Type}(P: α0 -> α1 -> α2 -> α3->Prop):Prop|mk (x0: α0) (x1: α1) (x2: α2) (x3: α3) (h:P x0 x1 x2 x3):pH P
inductive zR {α0 α1 α2 α3 α4:Type}(P: α0 -> α1 -> α2 -> α3 -> α4->Prop):Prop|mk (x0: α0) (x1: α1) (x2: α2) (x3: α3) (x4: α4) (h:P x0 x1 x2 x3 x4):zR P
inductive Ka {α0 α1 α2 α3 α4 α5:Type}(P: α0 -> α1 -> α2 -> α3 -> α4 -> α5->Prop):Prop|mk (x0: α0) (x1: α1) (x2: α2) (x3: α3) (x4: α4) (x5: α5) (h:P x0 x1 x2 x3 x4 x5):Ka P
set_option genSizeOf true
set_option genInjectivity true
class ai (P:Prop) (F:outParam (Prop->Prop)):Prop where
 el:P->∀G:Prop,F G->G
def ai.go {P:Prop}{F:Prop->Prop}[i:ai P F]{G:Prop}(k:F G):P->G:=fun h=>i.el h G k
instance (priority:=low) elimBase {P:Prop}:ai P (fun G=>P->G):=⟨fun h _ k=>k h⟩
instance Wt {α:Sort u} {P: α->Prop} {F: α->Prop->Prop} [h:∀x,ai (P x) (F x)]:ai (∃x,P x) (fun G=>∀x,F x G):=⟨fun⟨x,hx⟩ G k=>(h x).el hx G (k x)⟩
instance T5 {A B:Prop} {F:Prop->Prop} [h:ai B F]:ai (A/\B) (fun G=>A->F G):=⟨fun⟨a,b⟩ G k=>h.el b G (k a)⟩
instance UE {α0 α1:Type} {P: α0 -> α1->Prop} {F: α0 -> α1->Prop->Prop} [i:∀x0 x1,ai (P x0 x1) (F x0 x1)]:ai (eM P) (fun G=>∀x0 x1,F x0 x1 G):=⟨fun⟨x0,x1,h⟩ G k=>(i x0 x1).el h G (k x0 x1)⟩
instance UZ {α0 α1 α2:Type} {P: α0 -> α1 -> α2->Prop} {F: α0 -> α1 -> α2->Prop->Prop} [i:∀x0 x1 x2,ai (P x0 x1 x2) (F x0 x1 x2)]:ai (sF P) (fun G=>∀x0 x1 x2,F x0 x1 x2 G):=⟨fun⟨x0,x1,x2,h⟩ G k=>(i x0 x1 x2).el h G (k x0 x1 x2)⟩
instance T7 {α0 α1 α2 α3:Type} {P: α0 -> α1 -> α2 -> α3->Prop} {F: α0 -> α1 -> α2 -> α3->Prop->Prop} [i:∀x0 x1 x2 x3,ai (P x0 x1 x2 x3) (F x0 x1 x2 x3)]:ai (pH P) (fun G=>∀x0 x1 x2 x3,F x0 x1 x2 x3 G):=⟨fun⟨x0,x1,x2,x3,h⟩ G k=>(i x0 x1 x2 x3).el h G (k x0 x1 x2 x3)⟩
instance UM {α0 α1 α2 α3 α4:Type} {P: α0 -> α1 -> α2 -> α3 -> α4->Prop} {F: α0 -> α1 -> α2 -> α3 -> α4->Prop->Prop} [i:∀x0 x1 x2 x3 x4,ai (P x0 x1 x2 x3 x4) (F x0 x1 x2 x3 x4)]:ai (zR P) (fun G=>∀x0 x1 x2 x3 x4,F x0 x1 x2 x3 x4 G):=⟨fun⟨x0,x1,x2,x3,x4,h⟩ G k=>(i x0 x1 x2 x3 x4).el h G (k x0 x1 x2 x3 x4)⟩
instance UQ {α0 α1 α2 α3 α4 α5:Type} {P: α0 -> α1 -> α2 -> α3 -> α4 -> α5->Prop} {F: α0 -> α1 -> α2 -> α3 -> α4 -> α5->Prop->Prop} [i:∀x0 x1 x2 x3 x4 x5,ai (P x0 x1 x2 x3 x4 x5) (F x0 x1 x2 x3 x4 x5)]:ai (Ka P) (fun G=>∀x0 x1 x2 x3 x4 x5,F x0 x1 x2 x3 x4 x5 G):=⟨fun⟨x0,x1,x2,x3,x4,x5,h⟩ G k=>(i x0 x1 x2 x3 x4 x5).el h G (k x0 x1 x2 x3 x4 x5)⟩
open PySem PySem.Spec PyProof.Rows
abbrev Key:=Sum Int Str
def ud:Key->Fk->Bool
 | .inl k,v=>Value.isInt k v
 | .inr x,v=>Value.isStrOf x v
def Xj (w:Qag):Key->Int
 | .inl k=>hashInt k
 | .inr x=>hashStr w x
def cz:∀{k:Key} {v:Fk},ud k v=true->(∃i t,k=QfP i/\v=QdE i t)\/(∃x t,k=Qbb x/\v=QcI x t)
 | .inl i,v,h=>by
  obtain⟨t,e⟩:=QcY h;exact .inl ⟨i,t,rfl,e⟩
 | .inr x,v,h=>by
  obtain⟨t,e⟩:=QdL h;exact .inr ⟨x,t,rfl,e⟩
def Fe (i:Int)(t:Tok):ud (.inl i) (.int i t)=true:=by simp[ud,Value.isInt]
def Ec (x:Str)(t:Tok):ud (.inr x) (.str x t)=true:=by simp[ud,Value.isStrOf]
def N0 (a b:Int):decide ((QfP a:Key)=QfP b)=(a==b):=by grind
def Oa (a b:Str):decide ((Qbb a:Key)=Qbb b)=decide (a=b):=by simp
def Oh (a:Int)(b:Str):decide ((QfP a:Key)=Qbb b)=false:=decide_eq_false (nofun)
def Qf (a:Str)(b:Int):decide ((Qbb a:Key)=QfP b)=false:=decide_eq_false (nofun)
def bH (prog:Qaf)(w:Qag):QbF prog w Key where
 is:=ud
 hash:=Xj w
 inj:=fun v a b ha hb=>by
  rcases cz ha with ⟨i,t,rfl,rfl⟩|⟨x,t,rfl,rfl⟩
  ·rcases cz hb with ⟨j,u,rfl,e⟩|⟨y,u,rfl,e⟩
   ·injection e with e1 _;rw[e1]
   ·exact nomatch e
  ·rcases cz hb with ⟨j,u,rfl,e⟩|⟨y,u,rfl,e⟩
   ·exact nomatch e
   ·injection e with e1 _;rw[e1]
 byValue:=fun k v h=>by
  rcases cz h with ⟨i,t,rfl,rfl⟩|⟨x,t,rfl,rfl⟩<;>rfl
 pyHash:=fun hv h=>by
  rcases cz hv with ⟨i,t,rfl,rfl⟩|⟨x,t,rfl,rfl⟩
  ·exact wpAny_pyHash_int h
  ·exact wpAny_pyHash_str h
 eqBool:=fun hu hv h=>by
  rcases cz hu with ⟨i,t,rfl,rfl⟩|⟨x,t,rfl,rfl⟩
  ·rcases cz hv with ⟨j,u,rfl,rfl⟩|⟨y,u,rfl,rfl⟩
   ·rw[N0] at h;exact wpAny_eqBool_int h
   ·rw[Oh] at h;exact Qfo i t y u _ _ _ _ h
  ·rcases cz hv with ⟨j,u,rfl,rfl⟩|⟨y,u,rfl,rfl⟩
   ·rw[Qf] at h;exact Qfn x t j u _ _ _ _ h
   ·rw[Oa] at h;exact Qe7 h
 «strs»:=fun k x t v h=>by
  rcases cz h with ⟨i,u,rfl,e⟩|⟨y,u,rfl,e⟩
  ·exact nomatch e
  ·injection e with e1 _
   subst e1;cases v<;>rfl
def zd (prog:Qaf)(w:Qag)(i:Int)(t:Tok):(bH prog w).is (.inl i) (.int i t)=true:=Fe i t
def yJ (prog:Qaf)(w:Qag)(x:Str)(t:Tok):(bH prog w).is (.inr x) (.str x t)=true:=Ec x t
inductive V where
 | non|bl (b:Bool)|int (i:Int)|str (x:Str)|byt (b:Array UInt8)|flt (b:UInt64)|ref (a:Gc)|ty (n:String)
 deriving DecidableEq
def RelV:V->Fk->Prop
 | .non,u=>u=Qcm
 | .bl b,u=>u=QeO b
 | .int i,u=>∃t,u=QdE i t
 | .str x,u=>∃t,u=QcI x t
 | .byt b,u=>∃t,u=Value.bytes b t
 | .flt b,u=>∃t,u=QfO b t
 | .ref a,u=>u=Qap a
 | .ty n,u=>u=Qa1 n
abbrev Vals:List V->List Fk->Prop:=QfT RelV
def Vals.length (r:Vals xs us):xs.length=us.length:=Qe2 r
def Vals.get:∀{xs:List V} {us:List Fk} {i:Nat} {x:V},Vals xs us->xs[i]? = some x->∃u,us[i]? = some u/\RelV x u
 | _,_,_,_,.nil,e=>by simp at e
 | _,_,0,_,.cons r _,e=>by simp at e;subst e;exact⟨_,rfl,r⟩
 | _,_,i+1,x,.cons _ t,e=>by
  obtain⟨u,h1,h2⟩:=Vals.get t (by simpa using e);exact⟨u,by simpa using h1,h2⟩
def Vals.set (r:RelV x u):∀{xs:List V} {us:List Fk} i,Vals xs us->Vals (xs.set i x) (us.set i u)
 | _,_,_,.nil =>.nil
 | _,_,0,.cons _ t =>.cons r t
 | _,_,i+1,.cons q t =>.cons q (Vals.set r i t)
def Vals.append {us ws:List Fk}(h:Vals xs us)(s:Vals ys ws):Vals (xs++ys) (us++ws):=by
 induction h with
 | nil=>exact s
 | cons r t ih=>exact .cons r ih
def Vals.take:∀{xs:List V} {us:List Fk} n,Vals xs us->Vals (xs.take n) (us.take n)
 | _,_,0,_ =>.nil
 | _,_,_+1,.nil =>.nil
 | _,_,n+1,.cons r t =>.cons r (Vals.take n t)
def Vals.drop:∀{xs:List V} {us:List Fk} n,Vals xs us->Vals (xs.drop n) (us.drop n)
 | _,_,0,r=>r
 | _,_,_+1,.nil =>.nil
 | _,_,n+1,.cons _ t=>Vals.drop n t
def jZ:Option V->Option Fk->Prop
 | some v,some u=>RelV v u
 | none,none=>True
 | _,_=>False
def KV:List (κ×V)->List (κ×Fk)->Prop:=QfT fun p q=>p.1=q.1/\RelV p.2 q.2
def kV:Key->V
 | .inl i =>.int i
 | .inr x =>.str x
inductive HO where
 | lst (xs:List V)
 | tup (xs:List V)
 | dK (kvs:List (Key×V))|dT (kvs:List (List Key×V))
 | set (S:Int->Bool) (n:Nat)
 | ins (C dx:Gc) (fs:List (Str×V))
 | own (x:Gc)
 | xd (fs:List (Str×V))
 | met (f x:Gc)
 | rng (lo hi:Int)
 | frz (o:Obj) (u:HO)
 | tbl (ps:Array Fk)
 | ext (φ:Heap->Prop)
abbrev Hp:=Gc->Option HO
def upd (H:Hp)(a:Gc)(o:HO):Hp:=fun b=>if b=a then some o else H b
def aq:upd H a o a=some o:=by unfold upd;rw[if_pos rfl]
def ao {a b:Gc}{o:HO}(h:b≠a):upd H a o b=H b:=by unfold upd;rw[if_neg h]
def B1:upd (upd H a o) a u=upd H a u:=by
 funext b;unfold upd;split<;>rfl
def rE {H:Hp}{a b:Gc}{o u:HO}(h:H a=some o)(h':H b=some u)(d:o≠u):a≠b:=by grind
def ax {H:Hp}{a b:Gc}{o:HO}(h:H a=some o)(h':H b=none):a≠b:=by grind
def uU (h:Heap)(a:Gc)(items:Array Fk):Prop:=∃o,h.get? a=some o/\o.dict=none/\o.cls = .type "tuple" /\ ∃n,o.data = .seq items n
def uU.is:uU h a items->IsTup h a items:=fun⟨o,e,_,r⟩=>⟨o,e,r⟩
def uU.new (h:Heap)(items:Array Fk):uU (h.push { cls := .type "tuple",data := .seq items }) h.objs.size items:=⟨_,Ji _ rfl,rfl,rfl,_,rfl⟩
section
variable (P:Qaf)(w:Qag)
def bC (H:Hp)(h:Heap)(a:Gc):HO->Prop
 | .lst xs=>xs.length<=M2/\eM fun aA n=>Vals xs aA/\h.get? a=some { cls := .type "list",data := .seq aA.toArray n }
 | .tup xs=>xs.length<=M2/\∃aA,Vals xs aA/\uU h a aA.toArray
 | .dK kvs=>kvs.length<=M2/\(a==QbM)=false/\∃vs,KV kvs vs/\h.DictOf (bH P w) a vs
 | .dT kvs=>kvs.length<=M2/\(a==QbM)=false/\∃xs,
   QfT (fun p q=>p.1=q.1/\H q.2.1=some (.tup (p.1.map kV))/\RelV p.2 q.2.2) kvs xs /\
   sF fun o es ep=>h.get? a=some o/\o.ExactDict/\o.data = .dict es ep/\es.toList=xs.map (entryOfKey (Qe8 (bH P w)))/\(xs.map (·.1)).Nodup
 | .set S n=>h.SetOf (intKind P w) a S n
 | .ins C dx fs=>H dx=some (.own a)/\fs.length<=1000/\dx≠a/\h.get? a=some (Y4 C dx) /\
   ∃mA,h.Ns1 dx mA/\(∀f,jZ (fs.lookup f) (mA f))/\Qfu mA (fs.map (·.1))
 | .own _=>∃o,h.get? a=some o
 | .xd fs=>∃mA,h.Ns1 a mA/\∀f,jZ (fs.lookup f) (mA f)
 | .rng lo hi=>sF fun t u v=>h.get? a=some { cls := .type "range",data := .fields #[.int lo t,.int hi u,.int 1 v] }
 | .frz o u=>h.get? a=some o/\bC H h a u
 | .tbl ps=>h.get? a=some { cls := .none,data := .fields ps }
 | .met f x=>h.get? a=some (PySem.W.methodObj (.ref f) (.ref x))
 | .ext φ => φ h/\(∃o,h.get? a=some o)/\∀h1 h2, φ h1->(∀o,h1.get? a=some o->h2.get? a=some o) -> φ h2
def jq (H:Hp)(h:Heap):Prop:=∀a o,H a=some o->bC P w H h a o
end
section
variable {P:Qaf}{w:Qag}{H H':Hp}{h h':Heap}{a:Gc}{o:HO}
def bC.lt (x:bC P w H h a o):a<h.objs.size:=by
 cases o with
 | lst xs=>obtain⟨_,_,_,_,e⟩:=x;exact Jf e
 | tup xs=>obtain⟨_,_,_,p⟩:=x;exact p.is.lt
 | dK kvs=>obtain⟨_,_,_,_,o,_,_,e,_⟩:=x;exact Jf e
 | dT kvs=>obtain⟨_,_,_,_,o,_,_,e,_⟩:=x;exact Jf e
 | set S n=>obtain⟨o,_,_,_,e,_⟩:=x;exact Jf e
 | ins C dx fs=>obtain⟨_,_,_,e,_⟩:=x;exact Jf e
 | own y=>obtain⟨_,e⟩:=x;exact Jf e
 | xd fs=>obtain⟨_,⟨_,_,_,e,_⟩,_⟩:=x;exact Jf e
 | rng lo hi=>obtain⟨_,_,_,e⟩:=x;exact Jf e
 | frz ob u=>obtain⟨e,_⟩:=x;exact Jf e
 | tbl ps=>exact Jf (show h.get? a=some _ from x)
 | met f y=>exact Jf (show h.get? a=some _ from x)
 | ext φ=>obtain⟨_,⟨_,e⟩,_⟩:=x;exact Jf e
def Paired.S9 {l₁:List α}{l₂:List β}(h:QfT F l₁ l₂)(f:∀a b,F a b->G a b):QfT G l₁ l₂:=by
 induction h with
 | nil=>exact .nil
 | cons r t ih=>exact .cons (f _ _ r) ih
def bC.hX (x:bC P w H h a o)(k:∀b u,(b=a\/H b=some (.own a))->h.get? b=some u->h'.get? b=some u)
  (ho:∀b,H b=some (.own a)->H' b=some (.own a)) (ht:∀b xs,H b=some (.tup xs)->H' b=some (.tup xs)):bC P w H' h' a o:=by
 induction o with
 | lst xs=>obtain⟨z,aA,n,r,e⟩:=x;exact⟨z,aA,n,r,k _ _ (.inl rfl) e⟩
 | tup xs=>obtain⟨z,aA,r,ob,e,c⟩:=x;exact⟨z,aA,r,ob,k _ _ (.inl rfl) e,c⟩
 | dK kvs=>obtain⟨z,y,vs,r,ob,es,ep,e,c⟩:=x;exact⟨z,y,vs,r,ob,es,ep,k _ _ (.inl rfl) e,c⟩
 | dT kvs=>
  obtain⟨z,y,xs,r,ob,es,ep,e,c⟩:=x;exact⟨z,y,xs,Paired.S9 r fun p q z=>⟨z.1,ht _ _ z.2.1,z.2.2⟩,ob,es,ep,k _ _ (.inl rfl) e,c⟩
 | set S n=>obtain⟨ob,es,ep,t,e,c⟩:=x;exact⟨ob,es,ep,t,k _ _ (.inl rfl) e,c⟩
 | ins C dx fs=>
  obtain⟨d,z,ne,e,mA,⟨od,es,ep,e2,c⟩,r⟩:=x;exact⟨ho _ d,z,ne,k _ _ (.inl rfl) e,mA,⟨od,es,ep,k _ _ (.inr d) e2,c⟩,r⟩
 | own y=>obtain⟨ob,e⟩:=x;exact⟨ob,k _ _ (.inl rfl) e⟩
 | xd fs=>obtain⟨mA,⟨od,es,ep,e,c⟩,r⟩:=x;exact⟨mA,⟨od,es,ep,k _ _ (.inl rfl) e,c⟩,r⟩
 | rng lo hi=>obtain⟨t,u,v,e⟩:=x;exact⟨t,u,v,k _ _ (.inl rfl) e⟩
 | frz ob u ih=>obtain⟨e,q⟩:=x;exact⟨k _ _ (.inl rfl) e,ih q⟩
 | tbl ps=>
  have e:=x;exact k a _ (.inl rfl) e
 | met f y=>
  have e:=x;exact k a _ (.inl rfl) e
 | ext φ=>obtain⟨p,⟨o,e⟩,st⟩:=x;exact⟨st _ _ p fun o q=>k _ _ (.inl rfl) q,⟨o,k _ _ (.inl rfl) e⟩,st⟩
def jq.lt (x:jq P w H h)(e:H a=some o):a<h.objs.size:=(x a o e).lt
def jq.fresh (x:jq P w H h)(e:h.objs.size<=a):H a=none:=by
 cases q:H a with
 | none=>rfl
 | some u=>exact absurd (Jx (x.lt q) e) (Ue _)
def jq.kept (x:jq P w H h)(k:∀b u,h.get? b=some u->h'.get? b=some u):jq P w H h':=fun a o e=>
 (x a o e).hX (fun b u _ q=>k b u q) (fun _ q=>q) fun _ _ q=>q
def jq.laid (x:jq P w H h)(k:∀b u,h.get? b=some u->h'.get? b=some u)(hp:h.objs.size<=a)(new:bC P w (upd H a o) h' a o):jq P w (upd H a o) h':=fun b u e=>by
 have hn:=x.fresh hp
 by_cases hb:b=a
 ·subst hb;rw[aq] at e;cases e;exact new
 ·rw[ao hb] at e;exact(x b u e).hX (fun c v _ q=>k c v q) (fun c q=>by rw[ao (ax q hn)];exact q) fun c xs q=>by rw[ao (ax q hn)];exact q
end
def Rd (H:Hp)(a:Gc)(u:HO):Prop:=H a=some u\/∃o,H a=some (.frz o u)
def Rd.ok {H:Hp}{h:Heap}{a:Gc}{u:HO}(r:Rd H a u)(x:jq P w H h):bC P w H h a u:=by
 rcases r with r|⟨o,r⟩
 ·exact x a u r
 ·obtain⟨_,q⟩:=x a _ r;exact q
def QZ:Option HO->Prop
 | some (.lst _)=>True
 | some (.dK _)=>True
 | some (.dT _)=>True
 | some (.set _ _)=>True
 | some (.ins _ _ _)=>True
 | some (.ext _)=>True
 | _=>False
section
variable {P:Qaf}{w:Qag}{H:Hp}{h h':Heap}{x e:Gc}{o':HO}
def jq.write (ok:jq P w H h)(mu:QZ (H x))(he:e=x\/H e=some (.own x))(k:∀b u,b≠e->h.get? b=some u->h'.get? b=some u)(Qx:∃u,h'.get? e=some u)
  (new:bC P w (upd H x o') h' x o'):jq P w (upd H x o') h':=fun b u q=>by
 have Q4:∀c y,H c=some (.own y)->c≠x:=fun c y r z=>by subst z;rw[r] at mu;exact mu
 by_cases hb:b=x
 ·subst hb;rw[aq] at q;cases q;exact new
 ·rw[ao hb] at q
  by_cases hbe:b=e
  ·have q':H b=some (.own x):=by
    rcases he with z|z
    ·exact absurd (hbe.trans z) hb
    ·rw[hbe];exact z
   rw[q] at q';cases q';obtain⟨v,hv⟩:=Qx;exact⟨v,by rw[hbe];exact hv⟩
  ·refine(ok b u q).hX (fun c v hc r=>k c v ?_ r) (fun c r=>by rw[ao (Q4 c b r)];exact r) fun c xs r=>by rw[ao ((fun c xs r z=>by subst z;rw[r] at mu;exact mu) c xs r)];exact r
   rcases hc with rfl|hc
   ·exact hbe
   ·rintro rfl
    rcases he with z|z
    ·exact Q4 c b hc z
    ·rw[hc] at z;cases z;exact hb rfl
end
structure Un (fs ex:List Gc)(H H':Hp)(h h':Heap):Prop where
 keep:∀b o,h.get? b=some o->H b=none->b∉fs->b∉ex->h'.get? b=some o
 slot:∀b o,h.get? b=some o->H b=none->b∈fs->b∉ex->∃sl,h'.get? b=some { o with slots:=sl }
 free:∀b o,h.get? b=some o->H b=none->b∉ex->H' b=none
 there:∀b o,h.get? b=some o->b∉ex->∃o',h'.get? b=some o'
 lr:∀b xs,H b=some (.tup xs)->H' b=some (.tup xs)
 kK:∀b o u,H b=some (.frz o u)->H' b=some (.frz o u)
 mP:∀b ps,H b=some (.tbl ps)->∃more,H' b=some (.tbl (ps++more))
section
variable {fs fs' ex ex':List Gc}{H H1 H2:Hp}{h h1 h2 h':Heap}{a x e:Gc}{o:HO}
def Un.any (u:Un fs ex H H1 h h1){b:Gc}{ob:Obj}(q:h.get? b=some ob)(n:H b=none)(hx:b∉ex):∃sl,h1.get? b=some { ob with slots:=sl }:=by
 by_cases hb:b∈fs
 ·exact u.slot b ob q n hb hx
 ·exact⟨ob.slots,u.keep b ob q n hb hx⟩
def Un.kept (k:∀b u,h.get? b=some u->h'.get? b=some u):Un fs ex H H h h':=
 ⟨fun b ob q _ _ _=>k b ob q,fun b ob q _ _ _=>⟨ob.slots,k b ob q⟩,fun _ _ _ n _=>n,fun b ob q _=>⟨ob,k b ob q⟩,fun _ _ q=>q,fun _ _ _ q=>q,fun _ ps q=>⟨#[],by rw[q];simp⟩⟩
def Un.refl:Un fs ex H H h h:=Un.kept fun _ _ q=>q
def Un.laid (k:∀b u,h.get? b=some u->h'.get? b=some u)(hp:h.objs.size<=a)(hn:H a=none):Un fs ex H (upd H a o) h h' where
 keep:=fun b u q _ _ _=>k b u q
 slot:=fun b u q _ _ _=>⟨u.slots,k b u q⟩
 free:=fun b u q n _=>by rw[ao (Jo (Jx (Jf q) hp))];exact n
 there:=fun b u q _=>⟨u,k b u q⟩
 lr:=fun b xs q=>by rw[ao (ax q hn)];exact q
 kK:=fun b u xs q=>by rw[ao (ax q hn)];exact q
 mP:=fun b ps q=>⟨#[],by rw[ao (ax q hn),q];simp⟩
def Un.write (mu:QZ (H x))(he:e=x\/H e=some (.own x))(k:∀b u,b≠e->h.get? b=some u->h'.get? b=some u)(Qx:∃u,h'.get? e=some u):Un fs ex H (upd H x o) h h':=by
 have hx:∀b,H b=none->b≠x:=fun b n z=>by subst z;rw[n] at mu;exact mu
 have hb:∀b,H b=none->b≠e:=fun b n z=>by
  subst z
  rcases he with r|r
  ·exact hx b n r
  ·rw[n] at r;cases r
 have hm:∀b u,H b=some u->¬QZ (some u)->b≠x:=fun b u q nm z=>by subst z;rw[q] at mu;exact nm mu
 refine⟨fun b u q n _ _=>k b u (hb b n) q,fun b u q n _ _=>⟨u.slots,k b u (hb b n) q⟩,fun b u q n _=>by rw[ao (hx b n)];exact n,fun b u q _ =>?_,
  fun b xs q=>by rw[ao (hm b _ q fun z=>z)];exact q,fun b u xs q=>by rw[ao (hm b _ q fun z=>z)];exact q,fun b ps q=>⟨#[],by rw[ao (hm b _ q fun z=>z),q];simp⟩⟩
 by_cases hbe:b=e
 ·subst hbe;exact Qx
 ·exact⟨u,k b u hbe q⟩
end
def XO (h:Heap)(H:Hp):List Gc:=(Uy h.objs.size).filter fun a=>(H a).isSome
def Eo (h:Heap)(H:Hp):Heap:=PySem.W.hideAll h (XO h H)
def DQ (h:Heap)(H:Hp):(Eo h H).objs.size=h.objs.size:=PySem.W.hideAll_size _ _
def IA {H:Hp}{b:Gc}{o:Obj}(e:h.get? b=some o)(n:H b=none):(Eo h H).get? b=some o:=
 PySem.W.hideAll_get _ e fun hm=>by
  have q:=(List.mem_filter.mp hm).2;rw[n] at q;simp at q
def KQ (e:(Eo h H).get? b=some o):h.get? b=some o/\H b=none:=by
 have e':=PySem.W.of_hideAll (XO h H) e;refine⟨e',?_⟩;cases q:H b with
 | none=>rfl
 | some x=>
  have z:(Eo h H).get? b=none:=PySem.W.hideAll_none (XO h H) (List.mem_filter.mpr ⟨List.mem_range.mpr (Jf e'),by simp[q]⟩);rw[z] at e;cases e
structure Mod (K:Ja)(mg:Str->Option Fk)(base:Heap):Prop where
 Bc:K.In base
 glob:base.Ns W1 mg
 blt:∃mb,base.Ns builtinsNs mb/\∀x:Str,x ≠ "__name__" -> mb x=QaT x
 nolimit:base.NoLimit
structure Cx where
 prog:Qaf
 w:Qag
 K:Ja
 mg:Str->Option Fk
 base:Heap
 A:Qax
 N:List Str
 s₀:KE
 H₀:Hp
 env:Env
 outer:List Env
 stack:List Env
 ex:List Gc
 fn:Str->Bool
 calm:Bool
 pn:List (Gc×Obj)
 xe:Fk->KE->Prop
def pZ (l:List Env):List Gc:=l.filterMap (·.frame)
abbrev Cx.fs (X:Cx):List Gc:=pZ X.outer
def RU (sc:Qb1)(x:Str):Prop:=sc.names.lookup x=some .local\/sc.names.lookup x=some .cell\/sc.names.lookup x=some .free
def Loc (sc:Qb1)(x:Str):Prop:=sc.names.lookup x=some .local\/sc.names.lookup x=some .cell
def Look (env:Env)(h:Heap)(m:Str->Option Fk)(x:Str)(u:Fk):Prop:=
 (env.kindOf x=some .local/\m x=some u)\/((env.kindOf x=some .cell\/env.kindOf x=some .free)/\∃c,env.cells.lookup x=some c/\h.IsCell c (some u))
structure Cx.Ok (X:Cx):Prop where
 mod:Mod X.K X.mg X.base
 kind:X.env.scope.kind = .function
 glob:X.env.globals=W1
 blt:X.env.builtins=builtinsNs
 above:X.s₀.heap.objs.size<=X.env.locals
 inj:∀x y c,X.env.cells.lookup x=some c->X.env.cells.lookup y=some c->x=y
 has:∀x,(X.env.kindOf x=some .cell\/X.env.kindOf x=some .free)->∃c,X.env.cells.lookup x=some c
 cab:∀x c,X.fn x=true->X.env.cells.lookup x=some c->X.s₀.heap.objs.size<=c
 hd:X.calm=true->X.A.handled=none
 frames:X.A.frames=some X.stack
 stk:X.stack=X.outer\/(X.stack=X.env::X.outer/\X.env.frame=some X.env.locals)
 exf:∀b∈X.ex,b≠X.env.locals/\∀x c,X.env.cells.lookup x=some c->c≠b
 bs:∀b o,X.base.get? b=some o->X.s₀.heap.get? b=some o/\X.H₀ b=none
 bsz:X.base.objs.size<=X.s₀.heap.objs.size
 noex:∀b o,X.base.get? b=some o->b∉X.ex
 exfs:∀b∈X.ex,b∉X.fs
 nV:X.s₀.heap.FunFrames X.base X.outer
 frf:∀b∈X.fs,X.H₀ b=none
structure Inv (X:Cx)(pins:List (Gc×Obj))(σ:List (Option V))(H:Hp)(s:KE):Prop where
 ok:X.Ok
 os:s.os=X.s₀.os
 bare:Qdl s.gens
 base:Un X.fs X.ex X.H₀ H X.s₀.heap s.heap
 loc:∃m,s.heap.Ns X.env.locals m/\∀(i:Nat) (x:Str) (v:V),X.N[i]? = some x -> σ[i]? = some (some v)->RU X.env.scope x->∃u,RelV v u/\Look X.env s.heap m x u
 cell:∀x c,X.env.cells.lookup x=some c->∃v,s.heap.IsCell c v
 free:H X.env.locals=none
 freeC:∀x c,X.env.cells.lookup x=some c->H c=none
 pin:∀p∈X.pn++pins,s.heap.get? p.1=some p.2/\H p.1=none/\p.1≠X.env.locals/\p.1∉X.fs/\∀v,p.2.data ≠ .cell v
 bE:jq X.prog X.w H s.heap
 len: σ.length=X.N.length
section
variable {X:Cx}{pins:List (Gc×Obj)}{σ:List (Option V)}{H H':Hp}{s:KE}{h':Heap}
def Cx.Ok.Zv (ok:X.Ok){b:Gc}{o:Obj}(e:X.base.get? b=some o):b∉X.fs:=fun hb=>by
 have:=(ok.nV.mem hb).1;rw[e] at this;cases this
def Inv.bs (I:Inv X pins σ H s):∀b o,X.base.get? b=some o->s.heap.get? b=some o/\H b=none:=fun b o e=>
 ⟨I.base.keep b o (I.ok.bs b o e).1 (I.ok.bs b o e).2 (I.ok.Zv e) (I.ok.noex b o e),I.base.free b o (I.ok.bs b o e).1 (I.ok.bs b o e).2 (I.ok.noex b o e)⟩
def Inv.bk (I:Inv X pins σ H s):∀b o,X.base.get? b=some o->s.heap.get? b=some o:=fun b o e=>(I.bs b o e).1
def Inv.mod (I:Inv X pins σ H s):Mod X.K X.mg X.base:=I.ok.mod
def Inv.kc (I:Inv X pins σ H s):X.K.In s.heap:=I.ok.mod.Bc.keeps I.bk
def Inv.lt (I:Inv X pins σ H s):X.env.locals<s.heap.objs.size:=let ⟨_,hn,_⟩:=I.loc;hn.lt
def Inv.sz (I:Inv X pins σ H s):X.s₀.heap.objs.size<=s.heap.objs.size:=Jg I.ok.above (Yi I.lt)
def Inv.SW (I:Inv X pins σ H s){a:Gc}(h:s.heap.objs.size<=a):a∉X.fs:=fun hb=>by
 obtain⟨_,o,ho,_⟩:=I.ok.nV.mem hb;exact absurd (Jx (Jf ho) (Jg I.sz h)) (Ue _)
def Inv.Oy (I:Inv X pins σ H s):∀x c,X.env.cells.lookup x=some c->c≠X.env.locals:=fun x c e z=>by
 obtain⟨v,o,ho,hd⟩:=I.cell x c e;obtain⟨m,⟨o',es,ep,xP,FQ,_⟩,_⟩:=I.loc;rw[z,xP] at ho;cases ho;rw[FQ] at hd;cases hd
def Inv.nV (I:Inv X pins σ H s):s.heap.FunFrames X.base X.outer:=by
 have all:∀l,(∀b∈pZ l,b∈X.fs)->X.s₀.heap.FunFrames X.base l->s.heap.FunFrames X.base l:=by
  intro l
  induction l with
  | nil=>intro _ _;trivial
  | cons env r ih=>
   intro hs hl;obtain⟨hk,⟨L,o,hf,hn,ho,hd⟩,hr⟩:=hl;have hL:=hs L (by unfold pZ;rw[Y5,hf];exact Jn);obtain⟨sl,e⟩:=I.base.slot L o ho (I.ok.frf L hL) hL fun z=>I.ok.exfs L z hL;exact⟨hk,⟨L,_,hf,hn,e,hd⟩,ih (fun b hb=>hs b (by unfold pZ;rw[Y5,hf];exact Jk _ hb)) hr⟩
 exact all X.outer (fun _ hb=>hb) I.ok.nV
def Inv.stack (I:Inv X pins σ H s):s.heap.FunFrames X.base X.stack:=by
 rcases I.ok.stk with e|⟨e,hf⟩
 ·rw[e];exact I.nV
 ·rw[e];obtain⟨m,hn,_⟩:=I.loc;exact .cons (by rw[I.ok.kind];decide) hf hn (QdJ (Jg I.ok.bsz I.ok.above)) I.nV
def Inv.vO (I:Inv X pins σ H s):∀b∈pZ X.stack,b∈X.env.locals::X.fs:=fun b hb=>by
 rcases I.ok.stk with e|⟨e,hf⟩
 ·rw[e] at hb;exact Jk _ hb
 ·rw[e] at hb;unfold pZ at hb;rw[Y5,hf] at hb;exact hb
def Inv.vn (I:Inv X pins σ H s):∀b∈pZ X.stack,H b=none:=fun b hb=>by
 rcases Jw.mp (I.vO b hb) with e|hb
 ·rw[e];exact I.free
 ·obtain⟨_,o,ho,_⟩:=I.ok.nV.mem hb;exact I.base.free b o ho (I.ok.frf b hb) fun z=>I.ok.exfs b z hb
def Inv.step {d':Drawn}{ch:List Gc}(I:Inv X pins σ H s)
  (zt:∀b∈ch,(b∈X.ex\/X.s₀.heap.objs.size<=b)/\b≠X.env.locals/\(∀x c,X.env.cells.lookup x=some c->c≠b)/\∀p∈X.pn++pins,p.1≠b)
  (keep:∀b o,b≠X.env.locals->b∉X.fs->b∉ch->s.heap.get? b=some o->H b=none->h'.get? b=some o)
  (slot:∀b o,b≠X.env.locals->b∈X.fs->b∉ch->s.heap.get? b=some o->H b=none->∃sl,h'.get? b=some { o with slots:=sl }) (free:∀b o,b∉ch->s.heap.get? b=some o->H b=none->H' b=none)
  (there:∀b o,b∉ch->s.heap.get? b=some o->∃o',h'.get? b=some o')
  (lr:∀b xs,H b=some (.tup xs)->H' b=some (.tup xs)) (kK:∀b o u,H b=some (.frz o u)->H' b=some (.frz o u)) (mP:∀b ps,H b=some (.tbl ps)->∃more,H' b=some (.tbl (ps++more)))
  (ns:∀m,s.heap.Ns X.env.locals m->h'.Ns X.env.locals m) (bE:jq X.prog X.w H' h') (hg:Qdl g') :
  Inv X pins σ H' { s with heap:=h',gens:=g',drawn:=d',toks:=t' }:=by
 have neL:∀b o,X.s₀.heap.get? b=some o->b≠X.env.locals:=fun b o e=>Jo (Jx (Jf e) I.ok.above);have TV:∀b o,X.s₀.heap.get? b=some o->b∉X.ex->b∉ch:=fun b o e hx hb=>by
  rcases(zt b hb).1 with z|z
  ·exact hx z
  ·exact absurd (Jx (Jf e) z) (Ue _)
 have cellK:∀x c,X.env.cells.lookup x=some c->∀v,s.heap.IsCell c v->h'.IsCell c v:=fun x c e v ⟨o,ho,hd⟩=>by
  have Mz:=fun z=>(zt c z).2.2.1 x c e rfl
  by_cases hc:c∈X.fs
  ·obtain⟨sl,q⟩:=slot c o (I.Oy x c e) hc Mz ho (I.freeC x c e);exact⟨_,q,hd⟩
  ·exact⟨o,keep c o (I.Oy x c e) hc Mz ho (I.freeC x c e),hd⟩
 refine⟨I.ok,I.os,hg,⟨fun b o e n hb hx =>?_,fun b o e n hb hx =>?_,fun b o e n hx =>?_,fun b o e hx =>?_,fun b xs e=>lr b xs (I.base.lr b xs e),fun b o xs e=>kK b o xs (I.base.kK b o xs e),fun b ps e =>?_⟩,?_,fun x c e =>?_,?_,fun x c e =>?_,fun p hp =>?_,bE,I.len⟩
 ·exact keep b o (neL b o e) hb (TV b o e hx) (I.base.keep b o e n hb hx) (I.base.free b o e n hx)
 ·obtain⟨sl,e1⟩:=I.base.slot b o e n hb hx;obtain⟨sl',e2⟩:=slot b _ (neL b o e) hb (TV b o e hx) e1 (I.base.free b o e n hx);exact⟨sl',e2⟩
 ·obtain⟨o',e1⟩:=I.base.there b o e hx;exact free b o' (TV b o e hx) e1 (I.base.free b o e n hx)
 ·obtain⟨o',e1⟩:=I.base.there b o e hx;exact there b o' (TV b o e hx) e1
 ·obtain⟨m1,e1⟩:=I.base.mP b ps e;obtain⟨m2,e2⟩:=mP b _ e1;exact⟨m1++m2,by rw[e2,Array.append_assoc]⟩
 ·obtain⟨m,hn,hl⟩:=I.loc;refine⟨m,ns m hn,fun i x v e1 e2 e3 =>?_⟩;obtain⟨u,r,l⟩:=hl i x v e1 e2 e3;refine⟨u,r,?_⟩
  rcases l with l|⟨k,c,e,z⟩
  ·exact .inl l
  ·exact .inr ⟨k,c,e,cellK x c e _ z⟩
 ·obtain⟨v,z⟩:=I.cell x c e;exact⟨v,cellK x c e v z⟩
 ·obtain⟨m,⟨o,_,_,ho,_⟩,_⟩:=I.loc;exact free _ o (fun z=>(zt _ z).2.1 rfl) ho I.free
 ·obtain⟨v,o,ho,hd⟩:=I.cell x c e;exact free c o (fun z=>(zt c z).2.2.1 x c e rfl) ho (I.freeC x c e)
 ·obtain⟨e,n,ne,nf,d⟩:=I.pin p hp;have Mz:=fun z=>(zt p.1 z).2.2.2 p hp rfl;exact⟨keep p.1 p.2 ne nf Mz e n,free p.1 p.2 Mz e n,ne,nf,d⟩
def Inv.un (I:Inv X pins σ H s)(u:Un X.fs [] H H' s.heap h')(bE:jq X.prog X.w H' h'):Inv X pins σ H' { s with heap:=h',toks:=t' }:=by
 obtain⟨m,⟨o,es,ep,ho,r⟩,_⟩:=id I.loc;obtain⟨sl,hL⟩:=u.any ho I.free (by simp);exact I.step (ch:=[]) (fun _ z=>nomatch z) (fun b o _ hb _ e n=>u.keep b o e n hb (by simp)) (fun b o _ hb _ e n=>u.slot b o e n hb (by simp)) (fun b o _ e n=>u.free b o e n (by simp)) (fun b o _ e=>u.there b o e (by simp)) u.lr u.kK u.mP (fun m' hm=>by
  obtain⟨o',FJ,ep',xP,r'⟩:=hm;rw[ho] at xP;cases xP;exact⟨_,FJ,ep',hL,r'⟩) bE I.bare
def Inv.call {d':Drawn}{ch:List Gc}(I:Inv X pins σ H s)(u:Un (pZ X.stack) ch H H' s.heap h')(bE:jq X.prog X.w H' h')(hg:Qdl g')
  (zt:∀b∈ch,(b∈X.ex\/X.s₀.heap.objs.size<=b)/\b≠X.env.locals/\(∀x c,X.env.cells.lookup x=some c->c≠b)/\∀p∈X.pn++pins,p.1≠b) :
  Inv X pins σ H' { s with heap:=h',gens:=g',drawn:=d',toks:=t' }:=by
 obtain⟨m,⟨o,es,ep,ho,r⟩,_⟩:=id I.loc;obtain⟨sl,hL⟩:=u.any ho I.free fun z=>(zt _ z).2.1 rfl;exact I.step zt (fun b o hL hb hc e n=>u.keep b o e n (fun z=>(Jw.mp (I.vO b z)).elim hL hb) hc) (fun b o _ _ hc e n=>u.any e n hc) (fun b o hc e n=>u.free b o e n hc) (fun b o hc e=>u.there b o e hc) u.lr u.kK u.mP (fun m' hm=>by
  obtain⟨o',FJ,ep',xP,r'⟩:=hm;rw[ho] at xP;cases xP;exact⟨_,FJ,ep',hL,r'⟩) bE hg
def Inv.turned {it:Gc}(I:Inv X pins σ H s)(k:∀b o,b≠it->s.heap.get? b=some o->h'.get? b=some o)(hn:H it=none)(hL:it≠X.env.locals)
  (h1:it∈X.ex\/X.s₀.heap.objs.size<=it) (h2:∀x c,X.env.cells.lookup x=some c->c≠it) (h3:∀p∈X.pn++pins,p.1≠it):Inv X pins σ H { s with heap:=h',toks:=t' }:=by
 have nit:∀b u,H b=some u->b≠it:=fun b u e z=>by rw[z,hn] at e;cases e
 refine I.step (ch:=[it]) (fun b hb =>?_) (fun b o _ _ hc e _=>k b o (fun z=>hc (by simp[z])) e) (fun b o _ _ hc e _=>⟨o.slots,k b o (fun z=>hc (by simp[z])) e⟩) (fun _ _ _ _ n=>n)
  (fun b o hc e=>⟨o,k b o (fun z=>hc (by simp[z])) e⟩) (fun _ _ e=>e) (fun _ _ _ e=>e) (fun b ps e=>⟨#[],by rw[e];simp⟩) (fun m hm =>?_) (fun b u e =>?_) I.bare
 ·have e:b=it:=by simpa using hb
  subst e;exact⟨h1,hL,h2,h3⟩
 ·obtain⟨o,es,ep,ho,r⟩:=hm;exact⟨o,es,ep,k _ o (QaB hL) ho,r⟩
 ·refine(I.bE b u e).hX (fun c v hc q=>k c v ?_ q) (fun _ q=>q) fun _ _ q=>q
  rcases hc with z|z
  ·rw[z];exact nit b u e
  ·exact nit c _ z
def Inv.tok (I:Inv X pins σ H s)(t:Nat):Inv X pins σ H { s with toks:=t }:=I.un Un.refl I.bE
def Inv.kept (I:Inv X pins σ H s)(k:∀b u,s.heap.get? b=some u->h'.get? b=some u):Inv X pins σ H { s with heap:=h',toks:=t' }:=I.un (Un.kept k) (I.bE.kept k)
def Inv.laid {a:Gc}{o:HO}{t':Nat}(I:Inv X pins σ H s)(k:∀b u,s.heap.get? b=some u->h'.get? b=some u)(hp:s.heap.objs.size<=a)(new:bC X.prog X.w (upd H a o) h' a o):
  Inv X pins σ (upd H a o) { s with heap:=h',toks:=t' }:=I.un (Un.laid k hp (I.bE.fresh hp)) (I.bE.laid k hp new)
def Inv.write (I:Inv X pins σ H s)(mu:QZ (H x))(he:e=x\/H e=some (.own x))(k:∀b u,b≠e->s.heap.get? b=some u->h'.get? b=some u)(Qx:∃u,h'.get? e=some u)
  (new:bC X.prog X.w (upd H x o) h' x o):Inv X pins σ (upd H x o) { s with heap:=h',toks:=t' }:=I.un (Un.write mu he k Qx) (I.bE.write mu he k Qx new)
def Inv.weak (I:Inv X pins σ H s)(hl: σ'.length = σ.length)(w:∀(i:Nat) v,σ'[i]? = some (some v) -> σ[i]? = some (some v)):Inv X pins σ' H s:=
 ⟨I.ok,I.os,I.bare,I.base,let ⟨m,hn,rA⟩:=I.loc; ⟨m,hn,fun i x v e1 e2 e3=>rA i x v e1 (w i v e2) e3⟩,I.cell,I.free,I.freeC,I.pin,I.bE,hl.trans I.len⟩
def Inv.pU (I:Inv X pins σ H s)(h:∀p∈pins',s.heap.get? p.1=some p.2/\H p.1=none/\p.1≠X.env.locals/\p.1∉X.fs/\∀v,p.2.data ≠ .cell v):Inv X pins' σ H s:=
 ⟨I.ok,I.os,I.bare,I.base,I.loc,I.cell,I.free,I.freeC,fun p hp=>(J9.mp hp).elim (fun z=>I.pin p (Yo _ z)) (h p),I.bE,I.len⟩
def y3 {N:List Str}(hN:N.Nodup){i j:Nat}{x:Str}(a:N[i]? = some x)(b:N[j]? = some x):i=j:=by
 obtain⟨h1,e1⟩:=Jm.mp a;obtain⟨h2,e2⟩:=Jm.mp b;exact(List.getElem_inj hN).mp (e1.trans e2.symm)
def ua {i:Nat}{x:Str}{v:V}{u:Fk}{Q:Unit->KE->Prop}(I:Inv X pins σ H s)(hN:X.N.Nodup)(hi:X.N[i]? = some x)(hx:Loc X.env.scope x)(r:RelV v u)
  (h:∀s',Inv X pins (σ.set i (some v)) H s'->(∃a,U6 a s.heap s'.heap/\(a=X.env.locals\/X.env.cells.lookup x=some a))->Q () s') (hf:X.fn x=true\/X.env.scope.names.lookup x=some .local:=by first|exact .inl rfl|exact .inr rfl|assumption):Qaa M A (storeName X.env x u) Q E s:=by
 obtain⟨m,hn,hl⟩:=id I.loc;have ZF:i < σ.length:=by rw[I.len];exact(Jm.mp hi).1
 have Oy:=I.Oy;have tracked:∀{a:Gc} {h':Heap},(∃o,s.heap.get? a=some o/\H a=none)->U6 a s.heap h'->jq X.prog X.w H h':=fun{a h'} ha hs b ob e=>by
  obtain⟨_,_,Ca⟩:=ha;refine(I.bE b ob e).hX (fun c w' hc q=>(hs.2 c ?_).trans q) (fun _ q=>q) fun _ _ q=>q;rintro rfl
  rcases hc with rfl|hc
  ·rw[Ca] at e;cases e
  ·rw[Ca] at hc;cases hc
 rcases hx with hk|hk
 ·refine wpAny_storeName_local hk hn (fun h' hn' hs =>?_) (by rw[I.ok.kind];rfl);obtain⟨oL,_,_,hoL,_⟩:=id hn;refine h _ ⟨I.ok,I.os,I.bare,⟨fun b o e n hb hx =>?_,fun b o e n hb hx =>?_,I.base.free,fun b o e hx =>?_,I.base.lr,I.base.kK,I.base.mP⟩,⟨_,hn',fun j y v' e1 e2 e3 =>?_⟩,fun y c e =>?_,I.free,I.freeC,fun p hp =>?_,tracked ⟨oL,hoL,I.free⟩ hs,by simpa using I.len⟩ ⟨_,hs,.inl rfl⟩
  ·exact(hs.2 b (Jo (Jx (Jf e) I.ok.above))).trans (I.base.keep b o e n hb hx)
  ·obtain⟨sl,e1⟩:=I.base.slot b o e n hb hx;exact⟨sl,(hs.2 b (Jo (Jx (Jf e) I.ok.above))).trans e1⟩
  ·obtain⟨o',e1⟩:=I.base.there b o e hx;exact⟨o',(hs.2 b (Jo (Jx (Jf e) I.ok.above))).trans e1⟩
  ·by_cases hj:j=i
   ·subst hj;rw[hi] at e1;cases e1;rw[Yt ZF] at e2;cases e2;exact⟨u,r,.inl ⟨hk,by simp⟩⟩
   ·rw[Yp (QaB hj)] at e2;obtain⟨u',r',q⟩:=hl j y v' e1 e2 e3;refine⟨u',r',?_⟩
    rcases q with ⟨k,e⟩|⟨k,c,e,z⟩
    ·refine .inl ⟨k,?_⟩;have:y≠x:=fun e=>hj (y3 hN e1 (e▸hi));simp[this,e]
    ·exact .inr ⟨k,c,e,z.sameBut hs (Oy y c e)⟩
  ·obtain⟨w',z⟩:=I.cell y c e;exact⟨w',z.sameBut hs (Oy y c e)⟩
  ·obtain⟨e,n,ne,nf,d⟩:=I.pin p hp;exact⟨(hs.2 p.1 ne).trans e,n,ne,nf,d⟩
 ·have Vv:X.fn x=true:=by
   rcases hf with z|z
   ·exact z
   ·rw[z] at hk;cases hk
  obtain⟨c,hc⟩:=I.ok.has x (.inl hk);obtain⟨w',z⟩:=I.cell x c hc;refine wpAny_storeName_cell I.ok.kind hk hc z (fun h' hc' hs =>?_);obtain⟨oc,hoc,hocd⟩:=id z;refine h { s with heap:=h' } ⟨I.ok,I.os,I.bare,⟨fun b o e n hb hx =>?_,fun b o e n hb hx =>?_,I.base.free,fun b o e hx =>?_,I.base.lr,I.base.kK,I.base.mP⟩,⟨m,hn.sameBut hs (QaB (Oy x c hc)),fun j y v' e1 e2 e3 =>?_⟩,fun y c' e =>?_,I.free,I.freeC,fun p hp =>?_,tracked ⟨oc,hoc,I.freeC x c hc⟩ hs,by simpa using I.len⟩ ⟨c,hs,.inr hc⟩
  ·exact(hs.2 b (Jo (Jx (Jf e) (I.ok.cab x c Vv hc)))).trans (I.base.keep b o e n hb hx)
  ·obtain⟨sl,e1⟩:=I.base.slot b o e n hb hx;exact⟨sl,(hs.2 b (Jo (Jx (Jf e) (I.ok.cab x c Vv hc)))).trans e1⟩
  ·obtain⟨o',e1⟩:=I.base.there b o e hx;exact⟨o',(hs.2 b (Jo (Jx (Jf e) (I.ok.cab x c Vv hc)))).trans e1⟩
  ·by_cases hj:j=i
   ·subst hj;rw[hi] at e1;cases e1;rw[Yt ZF] at e2;cases e2;exact⟨u,r,.inr ⟨.inl hk,c,hc,hc'⟩⟩
   ·rw[Yp (QaB hj)] at e2;obtain⟨u',r',q⟩:=hl j y v' e1 e2 e3;refine⟨u',r',?_⟩
    rcases q with q|⟨k,c',e,z'⟩
    ·exact .inl q
    ·refine .inr ⟨k,c',e,z'.sameBut hs ?_⟩;rintro rfl;exact hj (y3 hN e1 (I.ok.inj _ _ _ e hc▸hi))
  ·by_cases hcc:c'=c
   ·subst hcc;exact⟨_,hc'⟩
   ·obtain⟨w2,z2⟩:=I.cell y c' e;exact⟨w2,z2.sameBut hs hcc⟩
  ·obtain⟨e,n,ne,nf,d⟩:=I.pin p hp;refine⟨(hs.2 p.1 ?_).trans e,n,ne,nf,d⟩;intro q;rw[q,hoc] at e;exact d w' (by rw[<-(Qao e)];exact hocd)
def jV {i:Nat}{x:Str}{v:V}{u:Fk}{Q:Unit->KE->Prop}(I:Inv X pins σ H s)(hN:X.N.Nodup)(hi:X.N[i]? = some x)(hx:Loc X.env.scope x)(r:RelV v u)
  (h:∀s',Inv X pins (σ.set i (some v)) H s'->Q () s') (hf:X.fn x=true\/X.env.scope.names.lookup x=some .local:=by first|exact .inl rfl|exact .inr rfl|assumption):Qaa M A (storeName X.env x u) Q E s:=
 ua I hN hi hx r (fun s' I' _=>h s' I') hf
def Inv.Ij {ch:List Gc}(I:Inv X pins σ H s)(ho:s'.os=s.os)(u:Un (pZ X.stack) ch H H' s.heap s'.heap)(bE:jq X.prog X.w H' s'.heap)(hg:Qdl s'.gens)
  (zt:∀b∈ch,(b∈X.ex\/X.s₀.heap.objs.size<=b)/\b≠X.env.locals/\(∀x c,X.env.cells.lookup x=some c->c≠b)/\∀p∈X.pn++pins,p.1≠b):Inv X pins σ H' s':=by
 obtain⟨h',g',d',t',o'⟩:=s';subst ho;exact I.call u bE hg zt
end
abbrev XK:=Fk->Option Gc->Hp->Prop
abbrev St:=List (Option V)
abbrev VK:=V->Hp->Prop
abbrev TE:=St->Hp->VK->Prop
abbrev TT:=St->Hp->(Bool->Hp->Prop)->Prop
abbrev TA:=St->Hp->(List V->Hp->Prop)->Prop
structure Ends where
 nx:St->Hp->Prop
 rt:VK
 bk:St->Hp->Prop:=fun _ _=>False
 ct:St->Hp->Prop:=fun _ _=>False
abbrev TS:=Ends->St->Hp->Prop
def EP (X:Cx)(pins:List (Gc×Obj))(σ:St)(Q:VK)(u:Fk)(s':KE):Prop:=eM fun v H'=>Inv X pins σ H' s'/\RelV v u/\Q v H'
def TP (X:Cx)(pins:List (Gc×Obj))(σ:St)(Q:Bool->Hp->Prop)(b:Bool)(s':KE):Prop:=∃H',Inv X pins σ H' s'/\Q b H'
def AP (X:Cx)(pins:List (Gc×Obj))(σ:St)(Q:List V->Hp->Prop)(us:List Fk)(s':KE):Prop:=eM fun vs H'=>Inv X pins σ H' s'/\Vals vs us/\Q vs H'
instance Wx {X:Cx} {pins:List (Gc×Obj)} {σ:St} {Q:VK} {u:Fk} {s':KE}:ai (EP X pins σ Q u s') (fun G=>∀v H',Inv X pins σ H' s'->RelV v u->Q v H'->G):=⟨fun⟨v,H',a,b,c⟩ _ k=>k v H' a b c⟩
instance Zw {X:Cx} {pins:List (Gc×Obj)} {σ:St} {Q:Bool->Hp->Prop} {b:Bool} {s':KE}:ai (TP X pins σ Q b s') (fun G=>∀H',Inv X pins σ H' s'->Q b H'->G):=⟨fun⟨H',a,c⟩ _ k=>k H' a c⟩
instance Ww {X:Cx} {pins:List (Gc×Obj)} {σ:St} {Q:List V->Hp->Prop} {us:List Fk} {s':KE}:ai (AP X pins σ Q us s') (fun G=>∀vs H',Inv X pins σ H' s'->Vals vs us->Q vs H'->G):=⟨fun⟨v,H',a,b,c⟩ _ k=>k v H' a b c⟩
def SP (X:Cx)(pins:List (Gc×Obj))(D:Ends)(f:Flow)(s':KE):Prop:=
 match f with
 | .next=>eM fun σ' H'=>Inv X pins σ' H' s'/\D.nx σ' H'
 | .brk=>eM fun σ' H'=>Inv X pins σ' H' s'/\D.bk σ' H'
 | .cont=>eM fun σ' H'=>Inv X pins σ' H' s'/\D.ct σ' H'
 | .ret u=>sF fun v σ' H'=>Inv X pins σ' H' s'/\RelV v u/\D.rt v H'
def PE (X:Cx)(e:QaE)(t:TE):Prop:=
 ∀ ⦃pins:List (Gc×Obj)⦄ (s:KE) (σ:St) (H:Hp) (Q:VK),Inv X pins σ H s->t σ H Q->Qaa (Qab X.prog X.w) X.A (QaR e X.env) (EP X pins σ Q) X.xe s
def PT (X:Cx)(e:QaE)(t:TT):Prop:=
 ∀ ⦃pins:List (Gc×Obj)⦄ (s:KE) (σ:St) (H:Hp) (Q:Bool->Hp->Prop),Inv X pins σ H s->t σ H Q->Qaa (Qab X.prog X.w) X.A (isTrue e X.env (QaR e X.env)) (TP X pins σ Q) X.xe s
def PW (X:Cx)(e:QaE)(t:TT):Prop:=
 ∀ ⦃whole:Sem Fk⦄ ⦃pins:List (Gc×Obj)⦄ (s:KE) (σ:St) (H:Hp) (Q:Bool->Hp->Prop),Inv X pins σ H s->t σ H Q->Qaa (Qab X.prog X.w) X.A (isTrue e X.env whole) (TP X pins σ Q) X.xe s
def PW.pt (h:PW X e t):PT X e t:=fun pins s σ H Q I q=>h s σ H Q I q
def PA (X:Cx)(es:List QaE)(t:TA):Prop:=
 ∀ ⦃pos:Pos⦄ ⦃pins:List (Gc×Obj)⦄ (s:KE) (σ:St) (H:Hp) (Q:List V->Hp->Prop),Inv X pins σ H s->t σ H Q->Qaa (Qab X.prog X.w) X.A (spliced (Qcu pos (Qaj es X.env))) (AP X pins σ Q) X.xe s
def PS (X:Cx)(st:QdM)(t:TS):Prop:=
 ∀ ⦃pins:List (Gc×Obj)⦄ (s:KE) (σ:St) (H:Hp) (D:Ends),Inv X pins σ H s->t D σ H->Qaa (Qab X.prog X.w) X.A (exec st X.env) (SP X pins D) X.xe s
def Cv (X:Cx)(st:List QdM)(t:TS):Prop:=
 ∀ ⦃pins:List (Gc×Obj)⦄ (s:KE) (σ:St) (H:Hp) (D:Ends),Inv X pins σ H s->t D σ H->Qaa (Qab X.prog X.w) X.A (execs st X.env) (SP X pins D) X.xe s
def bh {M:Model}{A:Qax}{E:Fk->KE->Prop}{s:KE}(h:Qaa M A t Q E s)(hQ:∀a s,Q a s->Q' a s):Qaa M A t Q' E s:=Qbr h hQ fun _ _ x=>x
section
variable {X:Cx}
def G5 (i:Nat):TE:=fun σ H Q=>∃v,σ[i]? = some (some v)/\Q v H
def tC (v:V):TE:=fun _ H Q=>Q v H
def OA {pos:Pos}(hN:X.N[i]? = some x)(hv:RU X.env.scope x)(hd:(x==("__debug__" : Str))=false:=by decide)(zA:(x==("__classdict__" : Str))=false:=by decide):PE X (.Name x pos) (G5 i):=by
 intro pins s σ H Q I h;obtain⟨v,e,h⟩:=h;obtain⟨m,hn,hl⟩:=I.loc;obtain⟨u,r,l⟩:=hl i x v hN e hv;have fin:EP X pins σ Q u s:=⟨v,H,I,r,h⟩
 rcases l with ⟨hk,hm⟩|⟨hk,c,hc,hcell⟩
 ·exact wpAny_Name (wpAny_loadName_local I.ok.kind hk hn hm fin) hd
 ·rcases hk with hk|hk
  ·exact wpAny_Name (wpAny_loadName_cell I.ok.kind hk hc hcell fin) hd
  ·exact wpAny_Name (wpAny_loadName_free I.ok.kind hk hc hcell fin zA) hd
def ah:PE X (.Constant (.int i) j pos) (tC (.int i)):=fun _ _ _ H _ I h=>wpAny_Constant_int ⟨.int i,H,I.tok _,⟨_,rfl⟩,h⟩
def sX:PE X (.Constant (.bool b) j pos) (tC (.bl b)):=fun _ _ _ H _ I h=>Constant_bool ⟨.bl b,H,I,rfl,h⟩
def cf:PE X (.Constant .none j pos) (tC .non):=fun _ _ _ H _ I h=>Constant_none ⟨.non,H,I,rfl,h⟩
def aw:PE X (.Constant (.str x) j pos) (tC (.str x)):=fun _ _ _ H _ I h=>Calls.Constant_str ⟨.str x,H,I.tok _,⟨_,rfl⟩,h⟩
def Gl (X:Cx)(x:Str):Prop:=X.env.kindOf x=some .globalImplicit
def mr {pins:List (Gc×Obj)}{s:KE}{σ:St}{H:Hp}{x:Str}{u:Fk}{pos:Pos}{Q:Fk->KE->Prop}(I:Inv X pins σ H s)(hg:Gl X x)(hm:X.mg x=some u)(h:Q u s)
  (hd:(x==("__debug__" : Str))=false:=by decide):Qaa (Qab X.prog X.w) X.A (QaR (.Name x pos) X.env) Q E s:=
 QeX I.ok.kind hg (Calls.loadGlobal_global (by rw[I.ok.glob];exact I.mod.glob.keeps I.bk) hm h) hd
def eY {E:Fk->KE->Prop}{pins:List (Gc×Obj)}{s:KE}{σ:St}{H:Hp}{x:Str}{u:Fk}{pos:Pos}{Q:Fk->KE->Prop}(I:Inv X pins σ H s)(hg:Gl X x)(hm:X.mg x=none)(hv:QaT x=some u)(h:Q u s)
  (hn:x ≠ "__name__":=by decide) (hd:(x==("__debug__" : Str))=false:=by decide):Qaa (Qab X.prog X.w) X.A (QaR (.Name x pos) X.env) Q E s:=by
 obtain⟨mb,h1,h2⟩:=I.mod.blt;exact QeX I.ok.kind hg (Calls.loadGlobal_builtin (by rw[I.ok.glob];exact I.mod.glob.keeps I.bk) hm (by rw[I.ok.blt];exact h1.keeps I.bk) ((h2 x hn).trans hv) h) hd
def v9 {u:Fk}{pos:Pos}(hg:Gl X x)(hm:X.mg x=some u)(r:RelV v u)(hd:(x==("__debug__" : Str))=false:=by decide):PE X (.Name x pos) (tC v):=
 fun _ _ _ H _ I h=>mr I hg hm ⟨v,H,I,r,h⟩ hd
def bS {u:Fk}{pos:Pos}(hg:Gl X x)(hm:X.mg x=none)(hv:QaT x=some u)(r:RelV v u)(hn:x ≠ "__name__":=by decide)(hd:(x==("__debug__" : Str))=false:=by decide):PE X (.Name x pos) (tC v):=
 fun _ _ _ H _ I h=>eY I hg hm hv ⟨v,H,I,r,h⟩ hn hd
variable {a b:QaE}{ta tb:TE}{pos:Pos}
def PC (X:Cx)(op:CmpOp)(a b:QaE)(t:TE):Prop:=
 ∀ ⦃pins:List (Gc×Obj)⦄ (s:KE) (σ:St) (H:Hp) (Q:VK),Inv X pins σ H s->t σ H Q ->
  Qaa (Qab X.prog X.w) X.A (QaR a X.env) (fun v s₁=>Qaa (Qab X.prog X.w) X.A (QaR b X.env) (fun u s₂=>Qaa (Qab X.prog X.w) X.A (QaC op v u) (EP X pins σ Q) X.xe s₂) X.xe s₁) X.xe s
def tB (t:TE):TT:=fun σ H Q=>t σ H fun x H1=>∃c,x = .bl c/\Q c H1
def N9 (h:PC X op a b t)(h1:Qdo op b=false:=by first|exact nobehind _ rfl rfl|rfl):PT X (.Compare a [op] [b] pos) (tB t):=by
 refine fun pins s σ H Q I hw=>wpAny_isTrue_Compare1 (bh (h s σ H _ I hw) fun v s1 h1=>bh h1 fun u s2 h2=>bh h2 fun c s3 hz_=>ai.el hz_ _ fun x H1 I1 r1 q1 =>?_) h1;obtain⟨d,rfl,q⟩:=q1;cases r1;exact Qbg ⟨H1,I1,q⟩
def cN (h:PE X e t)(he:∀whole,isTrue e X.env whole=(do let v <-whole;standAt e.pos;holding [v] (truthy v)):=by intro _;rfl):PT X e (tB t):=by
 refine fun pins s σ H Q I hw=>isTrue_plain (bh (h s σ H _ I hw) fun v s1 hz_=>ai.el hz_ _ fun x H1 I1 r1 q1 =>?_) (he _);obtain⟨d,rfl,q⟩:=q1;cases r1;exact Qbg ⟨H1,I1,q⟩
variable {tA UN:TT}{rest:List QaE}
def VU (t u:TT):TT:=fun σ H Q=>t σ H fun c H1=>if c=true then u σ H1 Q else Q false H1
def tOr (t u:TT):TT:=fun σ H Q=>t σ H fun c H1=>if c=true then Q true H1 else u σ H1 Q
def OL (t:TT):TT:=fun σ H Q=>t σ H fun c H1=>Q (!c) H1
def K2 (ha:PT X a tA):PW X (.BoolOp .And [a] pos) tA:=by
 refine fun wh pins s σ H Q I h=>isTrue_and (bh (ha s σ H Q I h) fun c s1 e =>?_);cases c with
 | true=>exact isTrue_and_nil e
 | false=>exact e
def kh (ha:PT X a tA):PW X (.BoolOp .Or [a] pos) tA:=by
 refine fun wh pins s σ H Q I h=>isTrue_or (bh (ha s σ H Q I h) fun c s1 e =>?_);cases c with
 | false=>exact isTrue_or_nil e
 | true=>exact e
def PQ (ha:PT X a tA)(hb:PW X (.BoolOp .And (b::rest) pos) UN):PW X (.BoolOp .And (a::b::rest) pos) (VU tA UN):=by
 refine fun wh pins s σ H Q I h=>isTrue_and (bh (ha s σ H _ I h) fun c s1 hz_=>ai.el hz_ _ ?_);rintro H1 I1 q1;cases c with
 | true=>exact hb s1 σ H1 Q I1 q1
 | false=>exact⟨H1,I1,q1⟩
def mZ (ha:PT X a tA)(hb:PW X (.BoolOp .Or (b::rest) pos) UN):PW X (.BoolOp .Or (a::b::rest) pos) (tOr tA UN):=by
 refine fun wh pins s σ H Q I h=>isTrue_or (bh (ha s σ H _ I h) fun c s1 hz_=>ai.el hz_ _ ?_);rintro H1 I1 q1;cases c with
 | true=>exact⟨H1,I1,q1⟩
 | false=>exact hb s1 σ H1 Q I1 q1
def eJ (ha:PT X a tA):PT X (.UnaryOp .Not a pos) (OL tA):=
 fun pins s σ H Q I h=>isTrue_not (ha s σ H (fun c H1=>Q (!c) H1) I h)
def TH (ta tb:TE):TE:=fun σ H Q=>ta σ H fun x H1=>∃c,x = .bl c/\if c=true then tb σ H1 Q else Q (.bl false) H1
def Q8 (ta:TE):TE:=fun σ H Q=>ta σ H fun x H1=>∃c,x = .bl c/\Q (.bl (!c)) H1
def lR {t:TE}(h:PE X a t):PE X (.BoolOp op [a] pos) t:=fun pins s σ H Q I hw=>BoolOp_one (h s σ H Q I hw)
def fJ (ha:PE X a ta)(hb:PE X (.BoolOp .And (b::rest) pos) tb):PE X (.BoolOp .And (a::b::rest) pos) (TH ta tb):=by
 refine fun pins s σ H Q I h=>BoolOp_and (bh (ha s σ H _ I h) fun v s1 hz_=>ai.el hz_ _ ?_);rintro x H1 I1 r1 q1;obtain⟨c,rfl,q1⟩:=q1;cases r1;refine Qbg ?_;cases c with
 | true=>exact hb s1 σ H1 Q I1 q1
 | false=>exact⟨.bl false,H1,I1,rfl,q1⟩
def Gz (ha:PE X a ta):PE X (.UnaryOp .Not a pos) (Q8 ta):=by
 refine fun pins s σ H Q I h=>UnaryOp_ (bh (ha s σ H _ I h) fun v s1 hz_=>ai.el hz_ _ ?_);rintro x H1 I1 r1 q1;obtain⟨c,rfl,q1⟩:=q1;cases r1;exact not_of (Qbg ⟨.bl (!c),H1,I1,rfl,q1⟩)
def ZW (t:TT)(ta tb:TE):TE:=fun σ H Q=>t σ H fun c H1=>if c=true then ta σ H1 Q else tb σ H1 Q
def sf (hc:PT X c tA)(ha:PE X a ta)(hb:PE X b tb):PE X (.IfExp c a b pos) (ZW tA ta tb):=by
 refine fun pins s σ H Q I h=>wpAny_IfExp (bh (hc s σ H _ I h) fun d s1 hz_=>ai.el hz_ _ ?_);rintro H1 I1 q1;cases d with
 | true=>exact ha s1 σ H1 Q I1 q1
 | false=>exact hb s1 σ H1 Q I1 q1
end
def aX (K:Ja)(H:Hp)(a:Gc)(xs:List V):Prop:=
 Rd H a (.lst xs) \/
  sF fun o aA n=>K.lookup a=some o/\o.cls = .type "list" /\ o.dict=none/\o.data = .seq aA n/\aA.size<=M2/\Vals xs aA.toList
def bg (K:Ja)(H:Hp)(a:Gc)(xs:List V):Prop:=
 Rd H a (.tup xs) \/
  sF fun o aA n=>K.lookup a=some o/\o.cls = .type "tuple" /\ o.dict=none/\o.data = .seq aA n/\aA.size<=M2/\Vals xs aA.toList
def WB:Fk->Option V
 | .none=>some .non
 | .bool b=>some (.bl b)
 | .int i _=>some (.int i)
 | .str x _=>some (.str x)
 | .bytes b _=>some (.byt b)
 | .float b _=>some (.flt b)
 | .ref a=>some (.ref a)
 | .type n=>some (.ty n)
 | _=>none
def RelV.abs (r:RelV x u):WB u=some x:=by
 cases x with
 | non=>cases r;rfl
 | bl _=>cases r;rfl
 | int _=>obtain⟨t,rfl⟩:=r;rfl
 | str _=>obtain⟨t,rfl⟩:=r;rfl
 | byt _=>obtain⟨t,rfl⟩:=r;rfl
 | flt _=>obtain⟨t,rfl⟩:=r;rfl
 | ref _=>cases r;rfl
 | ty _=>cases r;rfl
def RelV.inj {u:Fk}(r:RelV x u)(q:RelV y u):x=y:=Qao (r.abs.symm.trans q.abs)
def Vals.inj {us:List Fk}(h:Vals xs us)(h':Vals ys us):xs=ys:=by
 induction h generalizing ys with
 | nil=>cases h';rfl
 | cons r t ih=>cases h' with|cons r' t'=>rw[RelV.inj r r',ih t']
section
variable {X:Cx}{pins:List (Gc×Obj)}{σ:St}{H:Hp}{s:KE}{a:Gc}{xs ys:List V}
def aX.of {K:Ja}(h:H a=some (.lst xs)):aX K H a xs := .inl (.inl h)
def bg.of {K:Ja}(h:H a=some (.tup xs)):bg K H a xs := .inl (.inl h)
def Inv.list (I:Inv X pins σ H s)(h:aX X.K H a xs):∃aA,Vals xs aA/\PlainL s.heap a aA.toArray/\xs.length<=M2:=by
 rcases h with h|⟨o,aA,n,hk,hc,hd,hs,hz,r⟩
 ·obtain⟨z,aA,n,r,e⟩:=h.ok I.bE;exact⟨aA,r,⟨_,n,e,rfl,rfl,rfl⟩,z⟩
 ·refine⟨aA.toList,r,⟨o,n,I.kc a o hk,hc,hd,by simpa using hs⟩,?_⟩;have e:=r.length;simp only[Ub] at e;lia
def Inv.tuple (I:Inv X pins σ H s)(h:bg X.K H a xs):∃aA,Vals xs aA/\IsTup s.heap a aA.toArray/\xs.length<=M2:=by
 rcases h with h|⟨o,aA,n,hk,hc,hd,hs,hz,r⟩
 ·obtain⟨z,aA,r,p⟩:=h.ok I.bE;exact⟨aA,r,p.is,z⟩
 ·refine⟨aA.toList,r,⟨o,I.kc a o hk,hc,n,by simpa using hs⟩,?_⟩;have e:=r.length;simp only[Ub] at e;lia
def Inv.nK (I:Inv X pins σ H s)(h:bg X.K H a xs):∃aA,Vals xs aA/\uU s.heap a aA.toArray/\xs.length<=M2:=by
 rcases h with h|⟨o,aA,n,hk,hc,hd,hs,hz,r⟩
 ·obtain⟨z,aA,r,p⟩:=h.ok I.bE;exact⟨aA,r,p,z⟩
 ·refine⟨aA.toList,r,⟨o,I.kc a o hk,hd,hc,n,by simpa using hs⟩,?_⟩;have e:=r.length;simp only[Ub] at e;lia
def Inv.qI (I:Inv X pins σ H s)(h:aX X.K H a xs)(h':aX X.K H a ys):xs=ys:=by
 obtain⟨aA,r,⟨o,n,e,_,_,d⟩,_⟩:=I.list h;obtain⟨its',r',⟨o',n',e',_,_,d'⟩,_⟩:=I.list h';rw[e] at e';cases e';rw[d] at d'
 injection d' with d1 _
 have:aA=its':=by simpa using congrArg Array.toList d1
 subst this;exact r.inj r'
def Inv.uv (I:Inv X pins σ H s)(h:bg X.K H a xs)(h':bg X.K H a ys):xs=ys:=by
 obtain⟨aA,r,⟨o,e,_,n,d⟩,_⟩:=I.tuple h;obtain⟨its',r',⟨o',e',_,n',d'⟩,_⟩:=I.tuple h';rw[e] at e';cases e';rw[d] at d'
 injection d' with d1 _
 have:aA=its':=by simpa using congrArg Array.toList d1
 subst this;exact r.inj r'
end
abbrev Cx.tK (X:Cx)(E:Fk->KE->Prop):Cx:={ X with xe:=E }
abbrev Cx.UC (X:Cx):Cx:=X.tK fun _ _=>False
def Cx.Ok.tK {X:Cx}(ok:X.Ok)(E:Fk->KE->Prop):(X.tK E).Ok:=
 ⟨ok.mod,ok.kind,ok.glob,ok.blt,ok.above,ok.inj,ok.has,ok.cab,ok.hd,ok.frames,ok.stk,ok.exf,ok.bs,ok.bsz,ok.noex,ok.exfs,ok.nV,ok.frf⟩
def Cx.Ok.ki {X:Cx}{E:Fk->KE->Prop}(ok:(X.tK E).Ok):X.Ok:=
 ⟨ok.mod,ok.kind,ok.glob,ok.blt,ok.above,ok.inj,ok.has,ok.cab,ok.hd,ok.frames,ok.stk,ok.exf,ok.bs,ok.bsz,ok.noex,ok.exfs,ok.nV,ok.frf⟩
section
variable {X:Cx}{pins:List (Gc×Obj)}{σ:St}{H:Hp}{s:KE}{E:Fk->KE->Prop}
def Inv.tK (I:Inv X pins σ H s)(E:Fk->KE->Prop):Inv (X.tK E) pins σ H s:=⟨I.ok.tK E,I.os,I.bare,I.base,I.loc,I.cell,I.free,I.freeC,I.pin,I.bE,I.len⟩
def Inv.ki (I:Inv (X.tK E) pins σ H s):Inv X pins σ H s:=⟨I.ok.ki,I.os,I.bare,I.base,I.loc,I.cell,I.free,I.freeC,I.pin,I.bE,I.len⟩
def SP.ki (h:SP (X.tK E) pins D f s'):SP X pins D f s':=by
 cases f with
 | next=>obtain⟨σ',H',I,q⟩:=h;exact⟨σ',H',I.ki,q⟩
 | brk=>obtain⟨σ',H',I,q⟩:=h;exact⟨σ',H',I.ki,q⟩
 | cont=>obtain⟨σ',H',I,q⟩:=h;exact⟨σ',H',I.ki,q⟩
 | ret u=>obtain⟨v,σ',H',I,r,q⟩:=h;exact⟨v,σ',H',I.ki,r,q⟩
def Cv.UC {st:List QdM}{t:TS}(h:Cv X.UC st t):Cv X st t:=fun pins s σ H D I hw=>
 Qbr (h s σ H D (I.tK _) hw) (fun _ _ q=>q.ki) fun _ _ z=>Qbm z
end
section
variable {X:Cx}{st:QdM}{rest:List QdM}{t u:TS}{e:QaE}{te:TE}{pos:Pos}
def ck:TS:=fun D σ H=>D.nx σ H
def HN (t u:TS):TS:=fun D σ H=>t { D with nx:=u D } σ H
def aF:Cv X [] ck:=fun _ _ σ H _ I h=>QdQ ⟨σ,H,I,h⟩
def af (h1:PS X st t)(h2:Cv X rest u):Cv X (st::rest) (HN t u):=by
 refine fun pins s σ H D I h=>wpAny_execs_cons (bh (h1 s σ H { D with nx:=u D } I h) fun f s1 q =>?_);cases f with
 | next=>
  obtain⟨σ',H',I',q⟩:=q;exact h2 s1 σ' H' D I' q
 | ret v=>exact q
 | brk=>exact q
 | cont=>exact q
def ag (h1:PS X st t):Cv X [st] t:=by
 refine fun pins s σ H D I h=>wpAny_execs_cons (bh (h1 s σ H D I h) fun f s1 q =>?_);cases f with
 | next=>exact QdQ q
 | ret v=>exact q
 | brk=>exact q
 | cont=>exact q
def Inv.quiet {σ:St}{H:Hp}{s:KE}(I:Inv X pins σ H s):interactive X.env=false:=by simp[interactive,I.ok.kind]
def QL (te:TE):TS:=fun D σ H=>te σ H fun _ H1=>D.nx σ H1
def jj (he:PE X e te)(hs:Qeb e none pos.line X.env=pure false:=by rfl):PS X (.Expr e pos) (QL te):=
 fun pins s σ H D I h=>wpAny_Expr_any (bh (he s σ H _ I h) fun v s1 hz_=>ai.el hz_ _ fun x H1 I1 r1 q1=>⟨σ,H1,I1,q1⟩) I.quiet hs
def Sd (te:TE):TS:=fun D σ H=>te σ H D.rt
def au (he:PE X e te):PS X (.Return (some e) pos) (Sd te):=
 fun pins s σ H D I h=>wpAny_Return_some (bh (he s σ H _ I h) fun v s1 hz_=>ai.el hz_ _ fun x H1 I1 r1 q1=>⟨x,σ,H1,I1,r1,q1⟩)
def xg (c:TT)(t u:TS):TS:=fun D σ H=>c σ H fun b H1=>if b=true then t D σ H1 else u D σ H1
def bf {tc:TT}(hc:PT X c tc)(ha:Cv X a t)(hb:Cv X b u):PS X (.If c a b pos) (xg tc t u):=by
 refine fun pins s σ H D I h=>wpAny_If (bh (hc s σ H _ I h) fun d s1 hz_=>ai.el hz_ _ ?_);rintro H1 I1 q1;cases d with
 | true=>exact ha s1 σ H1 D I1 q1
 | false=>exact hb s1 σ H1 D I1 q1
end
abbrev TG:=V->St->Hp->(St->Hp->Prop)->Prop
abbrev Fp:=List V->St->Hp->(St->Hp->Prop)->Prop
def PG (X:Cx)(target:QaE)(t:TG):Prop:=
 ∀ ⦃pins:List (Gc×Obj)⦄ (s:KE) (σ:St) (H:Hp) (v:V) (u:Fk) (Q:St->Hp->Prop),Inv X pins σ H s->RelV v u->t v σ H Q ->
  Qaa (Qab X.prog X.w) X.A (QfN target X.env u) (fun _ s'=>eM fun σ' H'=>Inv X pins σ' H' s'/\Q σ' H') X.xe s
def Sg (X:Cx)(ts:List QaE)(t:Fp):Prop:=
 ∀ ⦃pins:List (Gc×Obj)⦄ (s:KE) (σ:St) (H:Hp) (vs:List V) (us:List Fk) (Q:St->Hp->Prop),Inv X pins σ H s->Vals vs us->t vs σ H Q ->
  Qaa (Qab X.prog X.w) X.A (assignInOrder ((QcD ts X.env).map (·.2)) us) (fun _ s'=>eM fun σ' H'=>Inv X pins σ' H' s'/\Q σ' H') X.xe s
abbrev OP:=V->V->V->Hp->(Hp->Prop)->Prop
def QI (X:Cx)(t:OP):Prop:=
 ∀ ⦃pins:List (Gc×Obj)⦄ (s:KE) (σ:St) (H:Hp) (o i v:V) (ov iv u:Fk) (Q:Hp->Prop),Inv X pins σ H s->RelV o ov->RelV i iv->RelV v u->t o i v H Q ->
  Qaa (Qab X.prog X.w) X.A (setItem ov iv u) (fun _ s'=>∃H',Inv X pins σ H' s'/\Q H') X.xe s
abbrev Zk:=V->V->Hp->VK->Prop
def XF (X:Cx)(op:Operator)(t:Zk):Prop:=
 ∀ ⦃pins:List (Gc×Obj)⦄ (s:KE) (σ:St) (H:Hp) (x y:V) (v u:Fk) (Q:VK),Inv X pins σ H s->RelV x v->RelV y u->t x y H Q ->
  Qaa (Qab X.prog X.w) X.A (inplaceOp op v u) (EP X pins σ Q) X.xe s
section
variable {X:Cx}{pos:Pos}
def sy (i:Nat):TG:=fun v σ H Q=>Q (σ.set i (some v)) H
def ar (hN:X.N.Nodup)(hi:X.N[i]? = some x)(hx:Loc X.env.scope x)(hf:X.fn x=true\/X.env.scope.names.lookup x=some .local:=by first|exact .inl rfl|exact .inr rfl|assumption):PG X (.Name x pos) (sy i):=
 fun pins s σ H v u Q I r h=>wpAny_assign_Name (jV I hN hi hx r (fun s' I'=>⟨_,H,I',h⟩) hf)
def Nr:Fp:=fun vs σ H Q=>vs=[]/\Q σ H
def HS (t:TG)(u:Fp):Fp:=fun vs σ H Q=>eM fun v r=>vs=v::r/\t v σ H fun σ' H'=>u r σ' H' Q
def bD:Sg X [] Nr:=by
 intro pins s σ H vs us Q I r h;obtain⟨e,h⟩:=h;subst e;cases r;exact assignInOrder_nil ⟨σ,H,I,h⟩
def ay {t:TG}{u:Fp}(h1:PG X e t)(h2:Sg X es u)
  (hs:(QcD (e::es) X.env).map (·.2)=QfN e X.env::(QcD es X.env).map (·.2):=by rfl):Sg X (e::es) (HS t u):=by
 intro pins s σ H vs us Q I r h;obtain⟨v,vr,e1,h⟩:=h;subst e1;cases r with
 | cons r rr=>
  rw[hs];refine Qey (bh (h1 s σ H _ _ _ I r h) fun _ s1 hz_=>ai.el hz_ _ ?_);rintro σ1 H1 I1 q1;exact h2 s1 σ1 H1 _ _ Q I1 rr q1
def K1 (K:Ja)(n:Nat)(t:Fp):TG:=fun v σ H Q=>eM fun a xs=>v = .ref a/\bg K H a xs/\xs.length=n/\t xs σ H Q
def NI {k:Nat}{t:Fp}{n:Nat}(hc:X.calm=true)(h:Sg X es t)
  (hn:(QcD es X.env).length=n:=by rfl) (nH:(QcD es X.env).findIdx? (·.1)=none:=by rfl):PG X (.Tuple es k pos) (K1 X.K n t):=by
 intro pins s σ H v u Q I r hw;obtain⟨a,xs,e1,hq,hl,hw⟩:=hw;subst e1;cases r;obtain⟨aA,rv,ht,hz⟩:=I.tuple hq;refine assign_Tuple_tuple (I.ok.hd hc) ht (by simp[hn,<-hl,rv.length]) nH fun h' hx =>?_;have I1:Inv X pins σ H { s with heap:=h' }:=I.kept fun b o e=>hx b o (Jo (Jf e)) e;exact h _ σ H xs _ Q I1 (by simpa using rv) hw
def Zy (to ti:TE)(t:OP):TG:=fun v σ H Q=>to σ H fun o H1=>ti σ H1 fun i H2=>t o i v H2 fun H3=>Q σ H3
def Oc {to ti:TE}{t:OP}(ho:PE X o to)(hi:PE X i ti)(hs:QI X t)
  (ha:∀v,QfN (.Subscript o i pos) X.env v=(do
   let ov <-holding [v] (QaR o X.env)
   let iv <-holding [v,ov] (QaR i X.env)
   standAt pos
   holding [v,ov,iv] (setItem ov iv v)
   release [v,ov,iv] []):=by intro _;rfl):PG X (.Subscript o i pos) (Zy to ti t):=by
 refine fun pins s σ H v u Q I r h=>be (Qak (bh (ho s σ H _ I h) fun ov s1 hz_=>ai.el hz_ _ ?_));rintro x H1 I1 r1 q1;refine be (Qak (bh (hi s1 σ H1 _ I1 q1) fun iv s2 hz_=>ai.el hz_ _ ?_));rintro y H2 I2 r2 q2;refine be (Qbe (be (Qak (bh (hs s2 σ H2 x y v ov iv u _ I2 r1 r2 r q2) fun _ s3 hz_=>ai.el hz_ _ ?_))));rintro H3 I3 q3;exact wpAny_release ⟨σ,H3,I3,q3⟩
def Hm (te:TE)(g:TG):TS:=fun D σ H=>te σ H fun x H1=>g x σ H1 D.nx
def hW {tg e:QaE}{te:TE}{g:TG}(he:PE X e te)(hg:PG X tg g)(hs:swapsWithSole [tg] e pos.line X.env=pure false:=by rfl)(hw:swappedStores [tg] e X.env=pure none:=by rfl)
  (h1:(QcD [tg] X.env).map (·.2)=[QfN tg X.env]:=by rfl):PS X (.Assign [tg] e pos) (Hm te g):=by
 refine fun pins s σ H D I h=>wpAny_Assign_stores (bh (he s σ H _ I h) fun v s1 hz_=>ai.el hz_ _ fun x H1 I1 r1 q1 =>?_) hs hw;rw[h1];exact bh (hg s1 σ H1 x v _ I1 r1 q1) fun _ s2 q=>q
def aB (hN:X.N.Nodup)(hi:X.N[i]? = some x)(hx:Loc X.env.scope x)(he:PE X e te)(hs:Qeb e (some (.Name x pos')) pos.line X.env=pure false:=by rfl)(hf:X.fn x=true\/X.env.scope.names.lookup x=some .local:=by first|exact .inl rfl|exact .inr rfl|assumption):
  PS X (.Assign [.Name x pos'] e pos) (Hm te (sy i)):=
 fun pins s σ H D I h=>wpAny_Assign_Name (bh (he s σ H _ I h) fun v s1 hz_=>ai.el hz_ _ fun y H1 I1 r1 q1=>(jV I1 hN hi hx r1 (fun s2 I2=>⟨_,H1,I2,q1⟩) hf)) hs
def X5 (i j:Nat)(ta:TA):TS:=fun D σ H=>ta σ H fun vs H1=>eM fun v w=>vs=[v,w]/\D.nx ((σ.set i (some v)).set j (some w)) H1
def Pc {x y:Str}{a b:QaE}{ta:TA}{px py pt:Pos}{kt k2 pt2}(hc:X.calm=true)(hN:X.N.Nodup)(hi:X.N[i]? = some x)(hj:X.N[j]? = some y)(yB:i≠j)
  (hx:X.env.scope.names.lookup x=some .local) (hy:X.env.scope.names.lookup y=some .local) (ha:PA X [a,b] ta)
  (hw:swappedStores [.Tuple [.Name x px,.Name y py] kt pt] (.Tuple [a,b] k2 pt2) X.env=pure (some [x,y]))
  (hs:swapsWithSole [.Tuple [.Name x px,.Name y py] kt pt] (.Tuple [a,b] k2 pt2) pos.line X.env=pure false:=by rfl) :
  PS X (.Assign [.Tuple [.Name x px,.Name y py] kt pt] (.Tuple [a,b] k2 pt2) pos) (X5 i j ta):=by
 refine fun pins s σ H D I h=>be (Qbe (be (tz (be (Tuple_ (bh (ha s σ H _ I h) fun us s1 hz_=>ai.el hz_ _ ?_))))));rintro vs H1 I1 r1 q1;obtain⟨v,w,e1,q1⟩:=q1;subst e1;obtain⟨u1,u2,rfl,rv,rw'⟩:∃u1 u2,us=[u1,u2]/\RelV v u1/\RelV w u2:=by
  cases r1 with
  | cons p q=>
   cases q with
   | cons p' q'=>
    cases q';exact⟨_,_,rfl,p,p'⟩
 refine QaM ?_ (by show 2<=M2;decide);have I2:Inv X pins σ H1 { s1 with heap:=s1.heap.push { cls := .type "tuple",data := .seq [u1,u2].toArray } }:=I1.kept fun b o e=>Jb _ e;rw[hw];refine be (tz (be (Qbi (be (unpackItems_tuple (items := #[u1,u2]) (I.ok.hd hc) (IsTup.new s1.heap _) fun h' pF=>be (Qey (wpAny_bindName (jV (I2.kept (t':=s1.toks) fun b o e=>pF b o (Jo (Jf e)) e) hN hj (.inl hy) rw' (fun s2 I4=>(Qey (wpAny_bindName (jV I4 hN hi (.inl hx) rv (fun s3 I5=>assignInOrder_nil (tz ?_)) (.inr hx))))) (.inr hy)))))))));rw[List.set_comm _ _ (QaB yB)] at I5;exact⟨_,H1,I5,q1⟩
def XH (i:Nat)(te:TE)(ti:Zk):TS:=fun D σ H=>∃x,σ[i]? = some (some x)/\te σ H fun y H1=>ti x y H1 fun z H2=>D.nx (σ.set i (some z)) H2
def vi (hN:X.N.Nodup)(hi:X.N[i]? = some x)(hx:Loc X.env.scope x)(he:PE X e te)(ho:XF X op ti)(hf:X.fn x=true\/X.env.scope.names.lookup x=some .local:=by first|exact .inl rfl|exact .inr rfl|assumption):
  PS X (.AugAssign (.Name x pos') op e pos) (XH i te ti):=by
 intro pins s σ H D I h;obtain⟨v,e1,h⟩:=h;obtain⟨m,hn,hl⟩:=I.loc;obtain⟨u,r,l⟩:=hl i x v hi e1 (by rcases hx with k|k;exact .inl k;exact .inr (.inl k));refine wpAny_AugAssign_Name ?_;have go:Qaa (Qab X.prog X.w) X.A (QaR e X.env) (fun w s₂=>Qaa (Qab X.prog X.w) X.A (inplaceOp op u w) (fun r s₃=>Qaa (Qab X.prog X.w) X.A (storeName X.env x r) (fun _=>SP X pins D .next) X.xe s₃) X.xe s₂) X.xe s:=by
  refine bh (he s σ H _ I h) fun w s1 hz_=>ai.el hz_ _ ?_;rintro y H1 I1 r1 q1;refine bh (ho s1 σ H1 v y u w _ I1 r r1 q1) fun z s2 hz_=>ai.el hz_ _ ?_;rintro zv H2 I2 r2 q2;exact jV I2 hN hi hx r2 (fun s3 I3=>⟨_,H2,I3,q2⟩) hf
 rcases l with ⟨hk,hm⟩|⟨hk,c,hc,hcell⟩
 ·exact wpAny_loadName_local I.ok.kind hk hn hm go
 ·rcases hk with hk|hk
  ·exact wpAny_loadName_cell I.ok.kind hk hc hcell go
  ·rcases hx with k|k
   ·have:X.env.scope.names.lookup x=some .free:=hk;rw[k] at this;cases this
   ·have:X.env.scope.names.lookup x=some .free:=hk;rw[k] at this;cases this
def ipI (f:Int->Int->Int):Zk:=fun x y H Q=>eM fun i j=>x = .int i/\y = .int j/\Q (.int (f i j)) H
def Gu:XF X .Add (ipI fun i j=>i+j):=by
 intro pins s σ H x y v u Q I r1 r2 h;obtain⟨i,j,e1,e2,q⟩:=h;subst e1;subst e2;obtain⟨t,rfl⟩:=r1;obtain⟨t',rfl⟩:=r2;exact iadd_int ⟨.int _,H,I.tok _,⟨_,rfl⟩,q⟩
def PB:XF X .Sub (ipI fun i j=>i-j):=by
 intro pins s σ H x y v u Q I r1 r2 h;obtain⟨i,j,e1,e2,q⟩:=h;subst e1;subst e2;obtain⟨t,rfl⟩:=r1;obtain⟨t',rfl⟩:=r2;exact isub_int ⟨.int _,H,I.tok _,⟨_,rfl⟩,q⟩
end
section
variable {X:Cx}{pos:Pos}
def ll (c:TT)(tb:TS):TS:=fun D σ H=>∃W:Nat->St->Hp->Prop,(∃m,W m σ H)/\∀m σ H,W m σ H ->
 c σ H fun b H1=>if b=true then ∃N,(∀ σ' H',N σ' H'->∃m',m'<m/\W m' σ' H')/\tb { D with nx:=N,ct:=N,bk:=D.nx } σ H1 else D.nx σ H1
def kg {tc:TT}{tb:TS}(hp:PassesOwn (Qab X.prog X.w) X.A X.env X.xe)(hc:PT X c tc)(hb:Cv X body tb):PS X (.While c body [] pos) (ll tc tb):=by
 intro pins s σ H D I h;obtain⟨W,⟨m0,w0⟩,turn⟩:=h;refine wpAny_While (codeAny_whileLoop (fun n s'=>∃ σ' H',Inv X pins σ' H' s'/\W n σ' H') ?_ m0 ⟨σ,H,I,w0⟩);rintro n s1 ⟨σ1,H1,I1,w1⟩;refine QbP hp (bh (hc s1 σ1 H1 _ I1 (turn n σ1 H1 w1)) fun b s2 hz_=>ai.el hz_ _ ?_);rintro H2 I2 q2;cases b with
 | true=>
  obtain⟨N,hN,q2⟩:=q2;refine QbP hp (bh (hb s2 σ1 H2 _ I2 q2) fun f s3 q3 =>?_);cases f with
  | next=>
   obtain⟨σ3,H3,I3,n3⟩:=q3;obtain⟨m',hm,w3⟩:=hN σ3 H3 n3;exact⟨m',hm,σ3,H3,I3,w3⟩
  | cont=>
   obtain⟨σ3,H3,I3,n3⟩:=q3;obtain⟨m',hm,w3⟩:=hN σ3 H3 n3;exact⟨m',hm,σ3,H3,I3,w3⟩
  | brk=>exact q3
  | ret v=>exact q3
 | false=>
  exact QdQ ⟨σ1,H2,I2,q2⟩
end
structure It where
 go:Nat->Hp->Prop
 yld:Nat->Hp->V->Hp->Prop
 stop:Nat->Hp->Prop
def gj (X:Cx)(pins:List (Gc×Obj))(H:Hp)(b:Gc):Prop:=
 H b=none/\b≠X.env.locals/\b∉X.fs/\(b∈X.ex\/X.s₀.heap.objs.size<=b)/\(∀x c,X.env.cells.lookup x=some c->c≠b)/\∀p∈X.pn++pins,p.1≠b
def Inv.eU {σ:St}{H H':Hp}{s:KE}{b:Gc}(I:Inv X pins σ H s)(hb:s.heap.objs.size<=b)(hn:H' b=none):gj X pins H' b:=by
 refine⟨hn,Ug (Jx I.lt hb),I.SW hb,.inr (Jg I.sz hb),fun x c e z =>?_,fun p hp z =>?_⟩
 ·obtain⟨v,q⟩:=I.cell x c e;exact absurd (Jx q.lt (by rw[z];exact hb)) (Ue _)
 ·exact absurd (Jx (Jf (I.pin p hp).1) (by rw[z];exact hb)) (Ue _)
structure Turn (P:Qaf)(w:Qag)(K:Ja)(tg:QaE)(J:It)(fp:List Gc)(it:Gc)(tn:Nat->Heap->Prop):Prop where
 mem:it∈fp
 obj:∀i h,tn i h->∀b∈fp,∃o,h.get? b=some o/\∀v,o.data ≠ .cell v
 keep:∀i h h',tn i h->(∀b∈fp,∀o,h.get? b=some o->h'.get? b=some o)->tn i h'
 item:∀(X:Cx),X.prog=P->X.w=w->X.K=K->X.calm=true->∀(i:Nat) (pins:List (Gc×Obj)) (s:KE) (σ:St) (H:Hp) (E:Fk->KE->Prop),Inv X pins σ H s->(∀b∈fp,gj X pins H b)->tn i s.heap->J.go i H ->
  Qaa (Qab P w) X.A (QbS (.ref it)) (fun r s1=>∃u,r=some u /\
   Qaa (Qab P w) X.A (QcT tg (.ref it) u) (fun _ s2=>∃x H',Inv X pins σ H' s2/\RelV x u/\J.yld i H x H'/\tn (i+1) s2.heap/\∀b∈fp,H' b=none) E s1) E s
 done:∀(X:Cx),X.prog=P->X.w=w->X.K=K->X.calm=true->∀(i:Nat) (pins:List (Gc×Obj)) (s:KE) (σ:St) (H:Hp) (E:Fk->KE->Prop),Inv X pins σ H s->(∀b∈fp,gj X pins H b)->tn i s.heap->J.stop i H ->
  Qaa (Qab P w) X.A (QbS (.ref it)) (fun r s1=>r=none/\Inv X pins σ H s1) E s
 self:∀(A:Qax) (i:Nat) (s:KE) (Q:Fk->KE->Prop) (E:Fk->KE->Prop),tn i s.heap->Q (.ref it) s->Qaa (Qab P w) A (Qfa (.ref it)) Q E s
abbrev TI:=St->Hp->(It->Hp->Prop)->Prop
def Z6 (X:Cx)(pins:List (Gc×Obj))(σ:St)(tg:QaE)(R:It->Hp->Prop)(Rg:Fk)(s2:KE):Prop:=
 zR fun it fp tn J H'=>Rg = .ref it/\Inv X pins σ H' s2/\Turn X.prog X.w X.K tg J fp it tn/\tn 0 s2.heap/\(∀b∈fp,gj X pins H' b)/\R J H'
def PI (X:Cx)(tg iter:QaE)(wi:TI):Prop:=
 ∀ ⦃pins:List (Gc×Obj)⦄ (s:KE) (σ:St) (H:Hp) (R:It->Hp->Prop),Inv X pins σ H s->wi σ H R ->
  Qaa (Qab X.prog X.w) X.A (QaR iter X.env) (fun v s1=>Qaa (Qab X.prog X.w) X.A (Qfa v) (Z6 X pins σ tg R) X.xe s1) X.xe s
def CA {s:KE}{tg:QaE}{it:Gc}{u:Fk}{o:Obj}{n:String}{vs:Array Fk}{Q:Unit->KE->Prop}(ho:s.heap.get? it=some o)(hc:o.cls = .type n)(hd:o.data = .fields vs)
  (hn:["enumerate", "zip", "dict_itemiterator", "dict_reverseitemiterator", "odict_iterator", "itertools.zip_longest", "itertools.pairwise"].contains n=false) (hQ:Q () s):Qaa M A (QcT tg (.ref it) u) Q E s:=by
 cases tg<;>first
  | exact tz hQ
  | (cases u<;>first
    | exact tz hQ
    | (refine be (Qev ho ?_)
       rw[hc,hd];show Qaa M A (if (["enumerate", "zip", "dict_itemiterator", "dict_reverseitemiterator", "odict_iterator", "itertools.zip_longest", "itertools.pairwise"].contains n&&vs[0]? == some (QaV _))=true then _ else _) Q E s;rw[if_neg (by intro h;rw[hn,Yu] at h;cases h)];exact tz hQ))
def Se (K:Ja)(a:Gc):It:=
 ⟨fun i H=>eM fun xs x=>aX K H a xs/\xs[i]? = some x,fun i H x H'=>H'=H/\∀xs,aX K H a xs->xs[i]? = some x,fun i H=>∃xs,aX K H a xs/\xs.length<=i⟩
def Itt (K:Ja)(a:Gc):It:=
 ⟨fun i H=>eM fun xs x=>bg K H a xs/\xs[i]? = some x,fun i H x H'=>H'=H/\∀xs,bg K H a xs->xs[i]? = some x,fun i H=>∃xs,bg K H a xs/\xs.length<=i⟩
def Qv (lo:Int)(n:Nat):It:=⟨fun i _=>i<n,fun i H x H'=>H'=H/\x = .int (lo+i),fun i _=>n<=i⟩
def ED {K:Ja}{tg:QaE}(a it:Gc):Turn P w K tg (Se K a) [it] it (fun i h=>h.IsListIter it a i) where
 mem:=by simp
 obj:=fun i h st b hb=>by
  have e:b=it:=by simpa using hb
  subst e;obtain⟨o,e,c,d⟩:=st;exact⟨o,e,fun v z=>by rw[d] at z;cases z⟩
 keep:=fun i h h' st k=>st.at fun o e=>k it (by simp) o e
 item:=by
  intro X hP hw hK hc i pins s σ H E I hf st hg;subst hP hw hK;obtain⟨xs,x,hq,hx⟩:=hg;obtain⟨aA,rv,p,hz⟩:=I.list hq;obtain⟨u,hu,ru⟩:=rv.get hx;obtain⟨f0,f1,f2,f3,f4,f5⟩:=hf it (by simp);refine wpAny_pyNext_list_item st p.isList (by simpa using hu) fun h' st' sb =>?_;have I1:Inv X pins σ H { s with heap:=h' }:=I.turned (fun b o hb e=>(sb.2 b hb).trans e) f0 f1 f3 f4 f5;obtain⟨o,e,c,d⟩:=id st';exact⟨u,rfl,CA e c d rfl ⟨x,H,I1,ru,⟨rfl,fun ys hy=>by rw[I.qI hy hq];exact hx⟩,st',fun b hb=>(hf b hb).1⟩⟩
 done:=by
  intro X hP hw hK hc i pins s σ H E I hf st hg;subst hP hw hK;obtain⟨xs,hq,hx⟩:=hg;obtain⟨aA,rv,p,hz⟩:=I.list hq;obtain⟨f0,f1,f2,f3,f4,f5⟩:=hf it (by simp);have hl:=rv.length;exact wpAny_pyNext_list_end (I.ok.hd hc) st p.isList (by simp;lia) fun h' eb=>⟨rfl,I.turned (fun b o hb e=>eb b o hb e) f0 f1 f3 f4 f5⟩
 self:=fun _ _ _ _ _ st h=>wpAny_pyIter_listiter st h
def Ah {K:Ja}{tg:QaE}(a it:Gc):Turn P w K tg (Itt K a) [it] it (fun i h=>h.IsTupleIter it a i) where
 mem:=by simp
 obj:=fun i h st b hb=>by
  have e:b=it:=by simpa using hb
  subst e;obtain⟨o,e,c,d⟩:=st;exact⟨o,e,fun v z=>by rw[d] at z;cases z⟩
 keep:=fun i h h' st k=>st.at fun o e=>k it (by simp) o e
 item:=by
  intro X hP hw hK hc i pins s σ H E I hf st hg;subst hP hw hK;obtain⟨xs,x,hq,hx⟩:=hg;obtain⟨aA,rv,p,hz⟩:=I.tuple hq;obtain⟨u,hu,ru⟩:=rv.get hx;obtain⟨f0,f1,f2,f3,f4,f5⟩:=hf it (by simp);refine wpAny_pyNext_tuple_item st (show s.heap.IsTuple a aA.toArray from p) (by simpa using hu) fun h' st' sb =>?_;have I1:Inv X pins σ H { s with heap:=h' }:=I.turned (fun b o hb e=>(sb.2 b hb).trans e) f0 f1 f3 f4 f5;obtain⟨o,e,c,d⟩:=id st';exact⟨u,rfl,CA e c d rfl ⟨x,H,I1,ru,⟨rfl,fun ys hy=>by rw[I.uv hy hq];exact hx⟩,st',fun b hb=>(hf b hb).1⟩⟩
 done:=by
  intro X hP hw hK hc i pins s σ H E I hf st hg;subst hP hw hK;obtain⟨xs,hq,hx⟩:=hg;obtain⟨aA,rv,p,hz⟩:=I.tuple hq;obtain⟨f0,f1,f2,f3,f4,f5⟩:=hf it (by simp);have hl:=rv.length;exact wpAny_pyNext_tuple_end (I.ok.hd hc) st (show s.heap.IsTuple a aA.toArray from p) (by simp;lia) fun h' eb=>⟨rfl,I.turned (fun b o hb e=>eb b o hb e) f0 f1 f3 f4 f5⟩
 self:=fun _ _ _ _ _ st h=>wpAny_pyIter_tupleiter st h
def AZ {K:Ja}{tg:QaE}(it:Gc)(lo:Int)(n:Nat):Turn P w K tg (Qv lo n) [it] it (fun i h=>IsRangeIter h it (lo+(i:Nat)*1) ((n:Int)-(i:Nat)) 1) where
 mem:=by simp
 obj:=fun i h st b hb=>by
  have e:b=it:=by simpa using hb
  subst e;exact⟨_,st,fun v z=>by
   cases z⟩
 keep:=fun i h h' st k=>k it (by simp) _ st
 item:=by
  intro X hP hw hK hc i pins s σ H E I hf st hg;subst hP hw hK;obtain⟨f0,f1,f2,f3,f4,f5⟩:=hf it (by simp);refine(Walks.range (prog:=X.prog) (w:=X.w) (I.ok.hd hc) it lo 1 n).item i s _ _ hg st fun v h' tk hv st' kk =>?_;obtain⟨t,rfl⟩:=hv;have I1:Inv X pins σ H { s with heap:=h',toks:=tk }:=I.turned (fun b o hb e=>kk b o (by simpa using hb) e) f0 f1 f3 f4 f5;refine⟨_,rfl,CA st' rfl rfl rfl ⟨.int (lo+i),H,I1,⟨t,?_⟩,⟨rfl,rfl⟩,st',fun b hb=>(hf b hb).1⟩⟩;rw[Int.mul_one]
 done:=by
  intro X hP hw hK hc i pins s σ H E I hf st hg;obtain⟨f0,f1,f2,f3,f4,f5⟩:=hf it (by simp);exact wpAny_pyNext_range_end (I.ok.hd hc) st (by have:n<=i:=hg;lia) fun h' eb=>⟨rfl,I.turned (fun b o hb e=>eb b o hb e) f0 f1 f3 f4 f5⟩
 self:=fun _ _ _ _ _ st h=>wpAny_pyIter_rangeiter st h
section
variable {X:Cx}{tg:QaE}
def ML (K:Ja)(tl:TE):TI:=fun σ H R=>tl σ H fun x H1=>∃a,x = .ref a/\(∃xs,aX K H1 a xs)/\R (Se K a) H1
def RQ (K:Ja)(tl:TE):TI:=fun σ H R=>tl σ H fun x H1=>∃a,x = .ref a/\(∃xs,bg K H1 a xs)/\R (Itt K a) H1
def Kx (hl:PE X l tl):PI X tg l (ML X.K tl):=by
 refine fun pins s σ H R I h=>bh (hl s σ H _ I h) fun v s1 hz_=>ai.el hz_ _ ?_;rintro x H1 I1 r1 q1;obtain⟨a,e,⟨xs,hq⟩,q⟩:=q1;subst e;cases r1;obtain⟨aA,rv,p,hz⟩:=I1.list hq;refine Qcq p.isList ⟨s1.heap.objs.size,[s1.heap.objs.size],_,_,H1,rfl,I1.kept fun b o e=>Jb _ e,ED a _,⟨_,Ji _ rfl,rfl,rfl⟩,fun b hb =>?_,q⟩;have e:b=s1.heap.objs.size:=by simpa using hb
 subst e;exact I1.eU (Je _) (I1.bE.fresh (Je _))
def Pl (hl:PE X l tl):PI X tg l (RQ X.K tl):=by
 refine fun pins s σ H R I h=>bh (hl s σ H _ I h) fun v s1 hz_=>ai.el hz_ _ ?_;rintro x H1 I1 r1 q1;obtain⟨a,e,⟨xs,hq⟩,q⟩:=q1;subst e;cases r1;obtain⟨aA,rv,p,hz⟩:=I1.tuple hq;refine Qeu (show s1.heap.IsTuple a aA.toArray from p) ⟨s1.heap.objs.size,[s1.heap.objs.size],_,_,H1,rfl,I1.kept fun b o e=>Jb _ e,Ah a _,⟨_,Ji _ rfl,rfl,rfl⟩,fun b hb =>?_,q⟩;have e:b=s1.heap.objs.size:=by simpa using hb
 subst e;exact I1.eU (Je _) (I1.bE.fresh (Je _))
def JJ {σ:St}{H:Hp}{s:KE}{R:It->Hp->Prop}{E:Fk->KE->Prop}{lo hi:Int}{t u v:Tok}{tk:Nat}(I:Inv X pins σ H s)(h1: -(2^62)<=lo)(h2:lo<2^62)(h3: -(2^62)<=hi)(h4:hi<2^62)
  (q:R (Qv lo (hi-lo).toNat) H):Qaa (Qab X.prog X.w) X.A (Qfa (.ref s.heap.objs.size)) (Z6 X pins σ tg R) E { s with heap:=s.heap.push { cls := .type "range",data := .fields #[.int lo t,.int hi u,.int 1 v] },toks:=tk }:=by
 refine wpAny_pyIter_range (IsRange.new ..) (small_one h1 h2 h3 h4) ?_;have I1:Inv X pins σ H { s with heap:=s.heap.push { cls := .type "range",data := .fields #[.int lo t,.int hi u,.int 1 v] },toks:=tk }:=I.kept fun b o e=>Jb _ e;refine⟨(s.heap.push { cls := .type "range",data := .fields #[.int lo t,.int hi u,.int 1 v] }).objs.size,[(s.heap.push { cls := .type "range",data := .fields #[.int lo t,.int hi u,.int 1 v] }).objs.size],_,_,H,rfl,
  I1.kept fun b o e=>Jb _ e,AZ _ lo (hi-lo).toNat,?_,fun b hb =>?_,q⟩
 ·have e1:lo+((0:Nat):Int)*1=lo:=by simp
  have e2:(((hi-lo).toNat:Nat):Int)-((0:Nat):Int)=Builtin.Range.rangeSize lo hi 1:=by rw[rangeSize_one];split<;>lia
  rw[e1,e2];exact Ji _ rfl
 ·have e:b=(s.heap.push { cls := .type "range",data := .fields #[.int lo t,.int hi u,.int 1 v] }).objs.size:=by simpa using hb
  subst e;exact I1.eU (Je _) (I1.bE.fresh (Je _))
def RY (ta:TA):TI:=fun σ H R=>ta σ H fun vs H1=>∃j,vs=[.int j] /\ -(2^62)<=j/\j<2^62/\R (Qv 0 j.toNat) H1
def dZ (hg:Gl X "range")(hm:X.mg "range" = none)(ha:PA X [a] ta)(hs:Qaj [a] X.env=[(false,QaR a X.env)]:=by rfl):PI X tg (.Call (.Name "range" p) [a] [] pos) (RY ta):=by
 refine fun pins s σ H R I h=>Call_ (eY I hg hm boot_range (Qan (bh (ha s σ H _ I h) fun us s1 hz_=>ai.el hz_ _ fun vs H1 I1 r1 q1 =>?_) hs rfl));obtain⟨j,e,q1,q2,q⟩:=q1;subst e;cases r1 with
 | cons r rr=>
  cases rr;obtain⟨t,rfl⟩:=r;exact call_range_1 (JJ I1 ⋯ ⋯ q1 q2 (by simpa using q))
def An (wi:TI)(g:TG)(tb:TS):TS:=fun D σ H=>wi σ H fun J H1=>∃W:Nat->Nat->St->Hp->Prop,(∃m,W 0 m σ H1)/\∀i m σ H,W i m σ H ->
 (J.stop i H/\D.nx σ H)\/(J.go i H/\∃N,(∀ σ' H',N σ' H'->∃m',m'<m/\W (i+1) m' σ' H')/\∀x H',J.yld i H x H'->g x σ H' fun σ2 H2=>tb { D with nx:=N,ct:=N,bk:=D.nx } σ2 H2)
def ib (fp:List Gc)(h:Heap):List (Gc×Obj):=fp.filterMap fun b=>(h.get? b).map fun o=>(b,o)
def df {b:Gc}{o:Obj}(hb:b∈fp)(e:h.get? b=some o):(b,o)∈ib fp h:=List.mem_filterMap.mpr ⟨b,hb,by rw[e];rfl⟩
def uC (hp:p∈ib fp h):p.1∈fp/\h.get? p.1=some p.2:=by
 obtain⟨b,hb,e⟩:=List.mem_filterMap.mp hp;cases q:h.get? b with
 | none=>rw[q] at e;cases e
 | some o=>
  rw[q] at e;have e':=Qao e;subst e';exact⟨hb,q⟩
def Inv.pinned {σ:St}{H:Hp}{s:KE}{fp:List Gc}(I:Inv X pins σ H s)(hf:∀b∈fp,gj X pins H b)(ho:∀b∈fp,∃o,s.heap.get? b=some o/\∀v,o.data ≠ .cell v):Inv X (pins++ib fp s.heap) σ H s:=
 I.pU fun p hp=>(J9.mp hp).elim (fun z=>I.pin p (Jz _ z)) fun z=>by
  obtain⟨hb,e⟩:=uC z;obtain⟨f0,f1,f2,_⟩:=hf p.1 hb;obtain⟨o,e',d⟩:=ho p.1 hb;rw[e] at e';cases e';exact⟨e,f0,f1,f2,d⟩
def Inv.fw {σ:St}{H:Hp}{s:KE}(I:Inv X (pins++pl) σ H s):Inv X pins σ H s:=I.pU fun p hp=>I.pin p (Jz _ (Yo _ hp))
def eQ {wi:TI}{g:TG}{tb:TS}{pos:Pos}(hp:PassesOwn (Qab X.prog X.w) X.A X.env X.xe)(hc:X.calm=true)(hi:PI X tg iter wi)(hg:PG X tg g)(hb:Cv X body tb)
  (hs:∀x,Qbh iter X.env x=pure x:=by intro _;rfl):PS X (.For tg iter body [] pos) (An wi g tb):=by
 refine fun pins s σ H D I h=>wpAny_For (bh (hi s σ H _ I h) fun v s1 h1=>bh h1 fun Rg s2 h2 =>?_) hs;obtain⟨it,fp,tn,J,H2,e,I2,T,pJ,f2,W,⟨m0,w0⟩,turn⟩:=h2;subst e;have lx:∀{H':Hp},(∀b∈fp,H' b=none)->∀b∈fp,gj X pins H' b:=fun hn b hb=>⟨hn b hb,(f2 b hb).2⟩
 refine codeAny_forLoop_any (fun n s'=>∃i σ' H',Inv X pins σ' H' s'/\tn i s'.heap/\(∀b∈fp,H' b=none)/\W i n σ' H') ?_ m0 ⟨0,σ,H2,I2,pJ,fun b hb=>(f2 b hb).1,w0⟩;rintro n s3 ⟨i,σ3,H3,I3,gK,fr3,w3⟩
 rcases turn i n σ3 H3 w3 with ⟨stop,qn⟩|⟨go,N,hN,step⟩
 ·refine QbP hp (bh (T.done X rfl rfl rfl hc i pins s3 σ3 H3 X.xe I3 (lx fr3) gK stop) fun r s4 hz_ =>?_);refine ai.el hz_ _ ?_;rintro hr I4;subst hr;exact QdQ ⟨σ3,H3,I4,qn⟩
 ·refine QbP hp (bh (T.item X rfl rfl rfl hc i pins s3 σ3 H3 X.xe I3 (lx fr3) gK go) fun r s4 hz_ =>?_);refine ai.el hz_ _ ?_;rintro u hr h4;subst hr;refine QbP hp (bh h4 fun _ s5 hz_=>ai.el hz_ _ fun x H5 I5 r5 y5 dU fr5=>QbP hp (bh (hg s5 σ3 H5 x u _ (I5.pinned (lx fr5) (T.obj _ _ dU)) r5 (step x H5 y5)) fun _ s6 hz_=>ai.el hz_ _ ?_));rintro σ6 H6 I6 q6;refine QbP hp (bh (hb s6 σ6 H6 _ I6 q6) fun f s7 q7 =>?_);have again:∀{σ7:St} {H7:Hp},Inv X (pins++ib fp s5.heap) σ7 H7 s7->N σ7 H7->∃m,m<n/\∃i σ' H',Inv X pins σ' H' s7/\tn i s7.heap/\(∀b∈fp,H' b=none)/\W i m σ' H':=fun{σ7 H7} I7 n7=>by
   obtain⟨m',hm,w7⟩:=hN σ7 H7 n7;refine⟨m',hm,i+1,σ7,H7,I7.fw,T.keep _ _ _ dU fun b hb o e=>(I7.pin (b,o) (Jz _ (Jz _ (df hb e)))).1,fun b hb =>?_,w7⟩;obtain⟨o,e,d⟩:=T.obj _ _ dU b hb;exact(I7.pin (b,o) (Jz _ (Jz _ (df hb e)))).2.1
  cases f with
  | next=>obtain⟨σ7,H7,I7,n7⟩:=q7;exact again I7 n7
  | cont=>obtain⟨σ7,H7,I7,n7⟩:=q7;exact again I7 n7
  | brk=>obtain⟨σ7,H7,I7,q7⟩:=q7;exact⟨σ7,H7,I7.fw,q7⟩
  | ret v=>obtain⟨x7,σ7,H7,I7,r7,q7⟩:=q7;exact⟨x7,σ7,H7,I7.fw,r7,q7⟩
end
def Gn {K:Ja}{a:Gc}{xs:List V}{g:TG}{tb:TS}{D:Ends}{σ:St}{H:Hp}(Pv:Nat->St->Hp->Prop)(h0:Pv 0 σ H)(hl:∀i σ H,i<=xs.length->Pv i σ H->aX K H a xs)
  (hs:∀i x σ H,xs[i]? = some x->Pv i σ H->g x σ H fun σ2 H2=>tb { D with nx:=Pv (i+1),ct:=Pv (i+1),bk:=D.nx } σ2 H2) (hd:∀ σ H,Pv xs.length σ H->D.nx σ H) :
  ∃W:Nat->Nat->St->Hp->Prop,(∃m,W 0 m σ H)/\∀i m σ H,W i m σ H ->
   ((Se K a).stop i H/\D.nx σ H)\/((Se K a).go i H/\∃N,(∀ σ' H',N σ' H'->∃m',m'<m/\W (i+1) m' σ' H')/\∀x H',(Se K a).yld i H x H'->g x σ H' fun σ2 H2=>tb { D with nx:=N,ct:=N,bk:=D.nx } σ2 H2):=by
 refine⟨fun i m σ H=>m=xs.length-i/\i<=xs.length/\Pv i σ H,⟨xs.length,by simp,Um _,h0⟩,?_⟩;rintro i m σ H ⟨rfl,hi,p⟩;have q:=hl i σ H hi p
 by_cases iL:i<xs.length
 ·refine .inr ⟨⟨xs,xs[i],q,by simp[]⟩,Pv (i+1),fun σ' H' p'=>⟨xs.length-(i+1),⋯,rfl,iL,p'⟩,fun x H' y =>?_⟩;obtain⟨e,y⟩:=y;subst e;exact hs i x σ _ (y xs q) p
 ·have e:i=xs.length:=by lia
  subst e;exact .inl ⟨⟨xs,q,Je _⟩,hd σ H p⟩
def kG {lo:Int}{n:Nat}{g:TG}{tb:TS}{D:Ends}{σ:St}{H:Hp}(Pv:Nat->St->Hp->Prop)(h0:Pv 0 σ H)
  (hs:∀i σ H,i<n->Pv i σ H->g (.int (lo+i)) σ H fun σ2 H2=>tb { D with nx:=Pv (i+1),ct:=Pv (i+1),bk:=D.nx } σ2 H2) (hd:∀ σ H,Pv n σ H->D.nx σ H) :
  ∃W:Nat->Nat->St->Hp->Prop,(∃m,W 0 m σ H)/\∀i m σ H,W i m σ H ->
   ((Qv lo n).stop i H/\D.nx σ H)\/((Qv lo n).go i H/\∃N,(∀ σ' H',N σ' H'->∃m',m'<m/\W (i+1) m' σ' H')/\∀x H',(Qv lo n).yld i H x H'->g x σ H' fun σ2 H2=>tb { D with nx:=N,ct:=N,bk:=D.nx } σ2 H2):=by
 refine⟨fun i m σ H=>m=n-i/\i<=n/\Pv i σ H,⟨n,by simp,Um _,h0⟩,?_⟩;rintro i m σ H ⟨rfl,hi,p⟩
 by_cases iL:i<n
 ·refine .inr ⟨iL,Pv (i+1),fun σ' H' p'=>⟨n-(i+1),⋯,rfl,iL,p'⟩,fun x H' y =>?_⟩;obtain⟨e,y⟩:=y;subst e y;exact hs i σ _ iL p
 ·have e:i=n:=by lia
  subst e;exact .inl ⟨Je _,hd σ H p⟩
abbrev R2:=V->V->Hp->VK->Prop
def fD (X:Cx)(f:Fk->Fk->Sem Fk)(r:R2):Prop:=
 ∀ ⦃pins:List (Gc×Obj)⦄ (s:KE) (σ:St) (H:Hp) (x y:V) (v u:Fk) (Q:VK),Inv X pins σ H s->RelV x v->RelV y u->r x y H Q ->
  Qaa (Qab X.prog X.w) X.A (f v u) (EP X pins σ Q) X.xe s
def Vr (X:Cx)(f:Fk->Sem Fk)(r:V->Hp->VK->Prop):Prop:=
 ∀ ⦃pins:List (Gc×Obj)⦄ (s:KE) (σ:St) (H:Hp) (x:V) (v:Fk) (Q:VK),Inv X pins σ H s->RelV x v->r x H Q ->
  Qaa (Qab X.prog X.w) X.A (f v) (EP X pins σ Q) X.xe s
def bK (X:Cx)(f:Fk)(r:List V->Hp->VK->Prop):Prop:=
 ∀ ⦃pins:List (Gc×Obj)⦄ (s:KE) (σ:St) (H:Hp) (xs:List V) (us:List Fk) (Q:VK),Inv X pins σ H s->Vals xs us->r xs H Q ->
  Qaa (Qab X.prog X.w) X.A (call f us) (EP X pins σ Q) X.xe s
def zr (r:R2)(ta tb:TE):TE:=fun σ H Q=>ta σ H fun x H1=>tb σ H1 fun y H2=>r x y H2 Q
def tUn (r:V->Hp->VK->Prop)(ta:TE):TE:=fun σ H Q=>ta σ H fun x H1=>r x H1 Q
def rI (C:Int->Int->Prop)(g:Int->Int->V):R2:=fun x y H Q=>eM fun i j=>x = .int i/\y = .int j/\C i j/\Q (g i j) H
def Mg (g:Int->Int->V):R2:=fun x y H Q=>eM fun i j=>x = .int i/\y = .int j/\Q (g i j) H
def rU (g:Int->V):V->Hp->VK->Prop:=fun x H Q=>∃i,x = .int i/\Q (g i) H
section
variable {X:Cx}{a b c:QaE}{ta tb tc:TE}{pos:Pos}
def NF (ha:PE X a ta)(hb:PE X b tb){pins:List (Gc×Obj)}{s:KE}{σ:St}{H:Hp}{R:V->V->Hp->Prop}(I:Inv X pins σ H s)
  (h:ta σ H fun x H1=>tb σ H1 fun y H2=>R x y H2) {Q:Fk->KE->Prop} {f:Fk->Fk->Sem Fk}
  (hf:∀v u s2 x y H2,Inv X pins σ H2 s2->RelV x v->RelV y u->R x y H2->Qaa (Qab X.prog X.w) X.A (f v u) Q X.xe s2) :
  Qaa (Qab X.prog X.w) X.A (QaR a X.env) (fun v s₁=>Qaa (Qab X.prog X.w) X.A (QaR b X.env) (fun u s₂=>Qaa (Qab X.prog X.w) X.A (f v u) Q X.xe s₂) X.xe s₁) X.xe s:=by
 refine bh (ha s σ H _ I h) fun v s1 hz_=>ai.el hz_ _ ?_;rintro x H1 I1 r1 q1;refine bh (hb s1 σ H1 _ I1 q1) fun u s2 hz_=>ai.el hz_ _ ?_;rintro y H2 I2 r2 q2;exact hf v u s2 x y H2 I2 r1 r2 q2
def aE (ho:fD X (Qbu op) r)(ha:PE X a ta)(hb:PE X b tb):PE X (.BinOp a op b pos) (zr r ta tb):=
 fun pins s σ H Q I h=>wpAny_BinOp (NF ha hb I h fun v u s2 x y H2 I2 rx ry q=>ho s2 σ H2 x y v u Q I2 rx ry q)
def rR (ho:Vr X (unaryOp op) r)(ha:PE X a ta):PE X (.UnaryOp op a pos) (tUn r ta):=
 fun pins s σ H Q I h=>UnaryOp_ (bh (ha s σ H _ I h) fun v s1 hz_=>ai.el hz_ _ fun x H1 I1 r1 q1=>ho s1 σ H1 x v Q I1 r1 q1)
def Rb {C:Int->Int->Prop}{g:Int->Int->Int}
  (rule:∀i j t u s Q E,C i j->Q (.int (g i j) s.toks) { s with toks:=s.toks+1 } -> Qaa (Qab X.prog X.w) X.A (f (.int i t) (.int j u)) Q E s) :
  fD X f (rI C fun i j =>.int (g i j)):=by
 intro pins s σ H x y v u Q I rx ry h;obtain⟨i,j,rfl,rfl,hc,q⟩:=h;obtain⟨t,rfl⟩:=rx;obtain⟨t',rfl⟩:=ry;exact rule i j t t' s _ _ hc ⟨.int (g i j),H,I.tok _,⟨_,rfl⟩,q⟩
def O5 {g:Int->Int->Int}
  (rule:∀i j t u s Q E,Q (.int (g i j) s.toks) { s with toks:=s.toks+1 } -> Qaa (Qab X.prog X.w) X.A (f (.int i t) (.int j u)) Q E s) :
  fD X f (Mg fun i j =>.int (g i j)):=by
 intro pins s σ H x y v u Q I rx ry h;obtain⟨i,j,rfl,rfl,q⟩:=h;obtain⟨t,rfl⟩:=rx;obtain⟨t',rfl⟩:=ry;exact rule i j t t' s _ _ ⟨.int (g i j),H,I.tok _,⟨_,rfl⟩,q⟩
def LZ {g:Int->Int->Bool}
  (rule:∀i j t u s Q E,Q (.bool (g i j)) s->Qaa (Qab X.prog X.w) X.A (f (.int i t) (.int j u)) Q E s) :
  fD X f (Mg fun i j =>.bl (g i j)):=by
 intro pins s σ H x y v u Q I rx ry h;obtain⟨i,j,rfl,rfl,q⟩:=h;obtain⟨t,rfl⟩:=rx;obtain⟨t',rfl⟩:=ry;exact rule i j t t' s _ _ ⟨.bl (g i j),H,I,rfl,q⟩
def KI (i j:Int):Prop:=0<j/\j<1073741824
def XJ (i j:Int):Prop:=0<=j/\j<=1000000/\i.natAbs<2^64
def A0 (i j:Int):Prop:=(-(2^64)<i/\i<2^64)\/(-(2^64)<j/\j<2^64)
def A0.ok (h:A0 i j):IntMulOk i j:=by
 rcases h with ⟨h1,h2⟩|⟨h1,h2⟩
 ·exact .of_left (intBits_le_64 h1 h2)
 ·exact .of_right (intBits_le_64 h1 h2)
def Nf:fD X (Qbu .Add) (Mg fun i j =>.int (i+j)):=O5 fun _ _ _ _ _ _ _ q=>add_int q
def jL:fD X (Qbu .Sub) (Mg fun i j =>.int (i-j)):=O5 fun _ _ _ _ _ _ _ q=>sub_int q
def Ow:fD X (Qbu .Mult) (rI A0 fun i j =>.int (i*j)):=Rb fun _ _ _ _ _ _ _ hc q=>mul_int q hc.ok
def CY:fD X (Qbu .FloorDiv) (rI KI fun i j =>.int (i / j)):=Rb fun i j _ _ _ _ _ hc q=>by
 have h1:=hc.1;have h2:=hc.2;exact floordiv_int ⋯ (by rw[QcW i ⋯];exact q) (.inl (Qc6 ⋯))
def ig:fD X (Qbu .Mod) (rI (fun _ j=>0<j) fun i j =>.int (i%j)):=Rb fun i j _ _ _ _ _ hc q=>by
 exact mod_int' ⋯ (by rw[Qfh i ⋯];exact q)
def PX:fD X (Qbu .Pow) (rI XJ fun i j =>.int (i^j.toNat)):=Rb fun _ _ _ _ _ _ _ hc q=>pow_int_small hc.1 hc.2.1 hc.2.2 q
def PU:fD X (Qbu .BitAnd) (Mg fun i j =>.int (Builtin.bitAnd i j)):=O5 fun _ _ _ _ _ _ _ q=>and_int q
def JH:fD X (inplaceOp .FloorDiv) (rI KI fun i j =>.int (i / j)):=Rb fun i j _ _ _ _ _ hc q=>by
 have h1:=hc.1;have h2:=hc.2;exact ifloordiv_int ⋯ (by rw[QcW i ⋯];exact q) (.inl (Qc6 ⋯))
def unI {g:Int->Int}
  (rule:∀i t s Q E,Q (.int (g i) s.toks) { s with toks:=s.toks+1 } -> Qaa (Qab X.prog X.w) X.A (f (.int i t)) Q E s) :
  Vr X f (rU fun i =>.int (g i)):=by
 intro pins s σ H x v Q I rx h;obtain⟨i,rfl,q⟩:=h;obtain⟨t,rfl⟩:=rx;exact rule i t s _ _ ⟨.int (g i),H,I.tok _,⟨_,rfl⟩,q⟩
def lz:Vr X (unaryOp .USub) (rU fun i =>.int (-i)):=unI fun _ _ _ _ _ q=>neg_int q
end
def QE:V->V->Bool
 | .non,.non=>true | .non,.int _=>true | .int _,.non=>true | .non,.bl _=>true | .bl _,.non=>true | .non,.str _=>true | .str _,.non=>true
 | .int _,.int _=>true | .bl _,.bl _=>true | .str _,.str _=>true | .byt _,.byt _=>true
 | .int _,.str _=>true | .str _,.int _=>true | .bl _,.str _=>true | .str _,.bl _=>true
 | _,_=>false
def Wo:R2:=fun x y H Q=>QE x y=true/\Q (.bl (decide (x=y))) H
def YO:R2:=fun x y H Q=>QE x y=true/\Q (.bl (!decide (x=y))) H
def BK:decide (V.int i=V.int j)=(i==j):=by
 rw[Wb];simp
def JA:decide (V.bl i=V.bl j)=(i==j):=by
 rw[Wb];simp
def Cf:decide (V.str i=V.str j)=(i==j):=by
 rw[Wb];simp
def CI:decide (V.byt i=V.byt j)=(i.toList==j.toList):=by
 rw[Wb];cases i;cases j;simp
section
variable {X:Cx}{a b c:QaE}{ta tb tc:TE}{pos:Pos}
def br {σ:St}{H:Hp}{s:KE}{Q:VK}{k k':Bool}(I:Inv X pins σ H s)(q:Q (.bl k) H)(e:k=k'):EP X pins σ Q (.bool k') s:=by
 subst e;exact⟨.bl k,H,I,rfl,q⟩
def Sl:fD X (QaC .Eq) Wo:=by
 intro pins s σ H x y v u Q I rx ry h;obtain⟨hs,q⟩:=h;cases x with
 | non=>
  cases rx;cases y with
  | non=>cases ry;exact PySem.EqNone.eq_none_none (br I q (by simp))
  | bl j=>cases ry;exact PySem.EqNone.eq_none_bool (br I q (by simp))
  | int j=>obtain⟨t',rfl⟩:=ry;exact PySem.EqNone.eq_none_int (br I q (by simp))
  | str j=>obtain⟨t',rfl⟩:=ry;exact PySem.EqNone.eq_none_str (br I q (by simp))
  | _=>exact absurd (show false=true from hs) Jr
 | bl i=>
  cases rx;cases y with
  | non=>cases ry;exact PySem.EqNone.eq_bool_none (br I q (by simp))
  | bl j=>cases ry;exact eq_bool (br I q JA)
  | str j=>obtain⟨t',rfl⟩:=ry;exact PySem.EqMixed.eq_bool_str (br I q (by simp))
  | _=>exact absurd (show false=true from hs) Jr
 | int i=>
  obtain⟨t,rfl⟩:=rx;cases y with
  | non=>cases ry;exact PySem.EqNone.eq_int_none (br I q (by simp))
  | int j=>obtain⟨t',rfl⟩:=ry;exact eq_int (br I q BK)
  | str j=>obtain⟨t',rfl⟩:=ry;exact PySem.EqMixed.eq_int_str (br I q (by simp))
  | _=>exact absurd (show false=true from hs) Jr
 | str i=>
  obtain⟨t,rfl⟩:=rx;cases y with
  | non=>cases ry;exact PySem.EqNone.eq_str_none (br I q (by simp))
  | bl j=>cases ry;exact PySem.EqMixed.eq_str_bool (br I q (by simp))
  | int j=>obtain⟨t',rfl⟩:=ry;exact PySem.EqMixed.eq_str_int (br I q (by simp))
  | str j=>obtain⟨t',rfl⟩:=ry;exact eq_str (br I q Cf)
  | _=>exact absurd (show false=true from hs) Jr
 | byt i=>
  obtain⟨t,rfl⟩:=rx;cases y with
  | byt j=>obtain⟨t',rfl⟩:=ry;exact PySem.W.eq_bytes (br I q CI)
  | _=>exact absurd (show false=true from hs) Jr
 | _=>cases y<;>exact absurd (show false=true from hs) Jr
def Q2:fD X (QaC .NotEq) YO:=by
 intro pins s σ H x y v u Q I rx ry h;obtain⟨hs,q⟩:=h;cases x with
 | non=>
  cases rx;cases y with
  | non=>cases ry;exact PySem.EqNone.ne_none_none (br I q (by simp))
  | bl j=>cases ry;exact PySem.EqNone.ne_none_bool (br I q (by simp))
  | int j=>obtain⟨t',rfl⟩:=ry;exact PySem.EqNone.ne_none_int (br I q (by simp))
  | str j=>obtain⟨t',rfl⟩:=ry;exact PySem.EqNone.ne_none_str (br I q (by simp))
  | _=>exact absurd (show false=true from hs) Jr
 | bl i=>
  cases rx;cases y with
  | non=>cases ry;exact PySem.EqNone.ne_bool_none (br I q (by simp))
  | bl j=>cases ry;exact ne_bool (br I q (congrArg not JA))
  | str j=>obtain⟨t',rfl⟩:=ry;exact PySem.EqMixed.ne_bool_str (br I q (by simp))
  | _=>exact absurd (show false=true from hs) Jr
 | int i=>
  obtain⟨t,rfl⟩:=rx;cases y with
  | non=>cases ry;exact PySem.EqNone.ne_int_none (br I q (by simp))
  | int j=>obtain⟨t',rfl⟩:=ry;exact ne_int (br I q (congrArg not BK))
  | str j=>obtain⟨t',rfl⟩:=ry;exact PySem.EqMixed.ne_int_str (br I q (by simp))
  | _=>exact absurd (show false=true from hs) Jr
 | str i=>
  obtain⟨t,rfl⟩:=rx;cases y with
  | non=>cases ry;exact PySem.EqNone.ne_str_none (br I q (by simp))
  | bl j=>cases ry;exact PySem.EqMixed.ne_str_bool (br I q (by simp))
  | int j=>obtain⟨t',rfl⟩:=ry;exact PySem.EqMixed.ne_str_int (br I q (by simp))
  | str j=>obtain⟨t',rfl⟩:=ry;exact ne_str (br I q (congrArg not Cf))
  | _=>exact absurd (show false=true from hs) Jr
 | byt i=>
  obtain⟨t,rfl⟩:=rx;cases y with
  | byt j=>obtain⟨t',rfl⟩:=ry;exact PySem.W.ne_bytes (br I q (congrArg not CI))
  | _=>exact absurd (show false=true from hs) Jr
 | _=>cases y<;>exact absurd (show false=true from hs) Jr
def oZ:fD X (QaC .Lt) (Mg fun i j =>.bl (decide (i<j))):=LZ fun _ _ _ _ _ _ _ q=>lt_int q
def qA:fD X (QaC .LtE) (Mg fun i j =>.bl (decide (i<=j))):=LZ fun _ _ _ _ _ _ _ q=>le_int q
def RD:fD X (QaC .Gt) (Mg fun i j =>.bl (decide (j<i))):=LZ fun _ _ _ _ _ _ _ q=>gt_int q
def Ik:fD X (QaC .GtE) (Mg fun i j =>.bl (decide (j<=i))):=LZ fun _ _ _ _ _ _ _ q=>ge_int q
def O7:fD X (QaC .Is) (fun x y H Q=>y = .non/\Q (.bl (decide (x = .non))) H):=by
 intro pins s σ H x y v u Q I rx ry h;obtain⟨rfl,q⟩:=h;cases ry;refine is_none_gen (br I q ?_);cases x<;>first
  | (cases rx;rfl)
  | (obtain⟨t,rfl⟩:=rx;rfl)
def Lo:fD X (QaC .IsNot) (fun x y H Q=>y = .non/\Q (.bl (!decide (x = .non))) H):=by
 intro pins s σ H x y v u Q I rx ry h;obtain⟨rfl,q⟩:=h;cases ry;refine isnot_none_gen (br I q ?_);cases x<;>first
  | (cases rx;rfl)
  | (obtain⟨t,rfl⟩:=rx;rfl)
def fD.or (h:fD X f r)(h':fD X f r'):fD X f (fun x y H Q=>r x y H Q\/r' x y H Q):=by
 intro pins s σ H x y v u Q I rx ry q
 rcases q with q|q
 ·exact h s σ H x y v u Q I rx ry q
 ·exact h' s σ H x y v u Q I rx ry q
def aO (b:QaE){op:CmpOp}(h:op ≠ .In:=by decide)(h2:op ≠ .NotIn:=by decide):Qdo op b=false:=by
 have e1:(op==CmpOp.In)=false:=by cases op<;>first|rfl|exact absurd rfl h
 have e2:(op==CmpOp.NotIn)=false:=by cases op<;>first|rfl|exact absurd rfl h2
 cases b<;>simp[Qdo,e1,e2]
def eI (ho:fD X (QaC op) r)(ha:PE X a ta)(hb:PE X b tb)(hm:Qdo op b=false):PE X (.Compare a [op] [b] pos) (zr r ta tb):=
 fun pins s σ H Q I h=>wpAny_Compare1 (NF ha hb I h fun v u s2 x y H2 I2 rx ry q=>ho s2 σ H2 x y v u Q I2 rx ry q) hm
def MB (t:TE):TT:=fun σ H Q=>t σ H fun x H'=>∃k,x = .bl k/\Q k H'
def aK (ho:fD X (QaC op) r)(ha:PE X a ta)(hb:PE X b tb)(hm:Qdo op b=false):PT X (.Compare a [op] [b] pos) (MB (zr r ta tb)):=by
 refine fun pins s σ H Q I h=>wpAny_isTrue_Compare1 (bh (ha s σ H _ I h) fun v s1 hz_=>ai.el hz_ _ fun x H1 I1 r1 q1=>bh (hb s1 σ H1 _ I1 q1) fun u s2 ⟨y,H2,I2,r2,q2⟩=>
  bh (ho s2 σ H2 x y v u _ I2 r1 r2 q2) fun c s3 ⟨z,H3,I3,r3,k,e,q3⟩=>?_) hm
 subst e;cases r3;exact Qbg ⟨H3,I3,q3⟩
def HG (r r':R2)(ta tb tc:TE):TE:=fun σ H Q=>ta σ H fun x H1=>tb σ H1 fun y H2=>r x y H2 fun z H3=>∃k,z = .bl k /\
 (if k=true then tc σ H3 fun w' H4=>r' y w' H4 Q else Q (.bl false) H3)
def yK {r r':R2}(ho:fD X (QaC op) r)(xP:fD X (QaC op') r')(ha:PE X a ta)(hb:PE X b tb)(hc:PE X c tc)
  (hm:lastMarks [op,op'] [b,c]=false:=by with_unfolding_all rfl):PE X (.Compare a [op,op'] [b,c] pos) (HG r r' ta tb tc):=by
 refine fun pins s σ H Q I h=>Compare_chain (bh (ha s σ H _ I h) fun v s1 hz_=>ai.el hz_ _ fun x H1 I1 r1 q1=>chain_link (bh (hb s1 σ H1 _ I1 q1) fun u s2 ⟨y,H2,I2,r2,q2⟩=>
  bh (ho s2 σ H2 x y v u _ I2 r1 r2 q2) fun d s3 ⟨z,H3,I3,r3,k,e,q3⟩=>?_)) hm
 subst e;cases r3;refine Qbg ?_;cases k with
 | false=>exact ite_ff ⟨.bl false,H3,I3,rfl,q3⟩
 | true=>exact ite_tt (chain_last (bh (hc s3 σ H3 _ I3 q3) fun w' s4 hz_=>ai.el hz_ _ fun z' H4 I4 r4 q4=>xP s4 σ H4 y z' u w' Q I4 r2 r4 q4))
def xZ {r r':R2}(ho:fD X (QaC op) r)(xP:fD X (QaC op') r')(ha:PE X a ta)(hb:PE X b tb)(hc:PE X c tc)
  (hm:lastMarks [op,op'] [b,c]=false:=by with_unfolding_all rfl):PT X (.Compare a [op,op'] [b,c] pos) (MB (HG r r' ta tb tc)):=by
 refine fun pins s σ H Q I h=>isTrue_chain (bh (ha s σ H _ I h) fun v s1 hz_=>ai.el hz_ _ fun x H1 I1 r1 q1=>test_link (bh (hb s1 σ H1 _ I1 q1) fun u s2 ⟨y,H2,I2,r2,q2⟩=>
  bh (ho s2 σ H2 x y v u _ I2 r1 r2 q2) fun d s3 ⟨z,H3,I3,r3,k,e,q3⟩=>?_)) hm
 subst e;cases r3;refine Qbg ?_;cases k with
 | false=>
  obtain⟨k',e',q'⟩:=q3;cases e';exact ite_ff ⟨H3,I3,q'⟩
 | true=>
  refine ite_tt (test_last (bh (hc s3 σ H3 _ I3 q3) fun w' s4 hz_=>ai.el hz_ _ fun z' H4 I4 r4 q4=>bh (xP s4 σ H4 y z' u w' _ I4 r2 r4 q4) fun d' s5 hz_=>ai.el hz_ _ ?_));rintro z2 H5 I5 r5 ⟨k2,e2,q5⟩;subst e2;cases r5;exact Qbg ⟨H5,I5,q5⟩
def wC:(M2:Nat)<2^63:=by rw[Qdg];decide
def BH:fD X (Qbu .Add) (fun x y H Q=>∃i j,x = .str i/\y = .str j/\i.length+j.length<=M2/\Q (.str (i++j)) H):=by
 intro pins s σ H x y v u Q I rx ry h;obtain⟨i,j,rfl,rfl,hz,q⟩:=h;obtain⟨t,rfl⟩:=rx;obtain⟨t',rfl⟩:=ry;exact add_str (fun t' tk=>⟨.str (i++j),H,I.tok _,⟨_,rfl⟩,q⟩) hz
def vals1 (r:Vals [x] us):∃u,us=[u]/\RelV x u:=by
 cases r with
 | cons r1 r2=>cases r2;exact⟨_,rfl,r1⟩
def vals2 (r:Vals [x,y] us):∃u w',us=[u,w']/\RelV x u/\RelV y w':=by
 cases r with
 | cons r1 r2=>
  cases r2 with
  | cons r3 r4=>cases r4;exact⟨_,_,rfl,r1,r3⟩
def Fy (hc:X.calm=true):bK X (.builtin "max") (fun xs H Q=>∃i j,xs=[.int i,.int j]/\Q (.int (if j>i then j else i)) H):=by
 intro pins s σ H xs us Q I r h;obtain⟨i,j,rfl,q⟩:=h;obtain⟨u,w',rfl,⟨t,rfl⟩,⟨t',rfl⟩⟩:=vals2 r;refine max_two_ints (I.ok.hd hc) fun h' tk k=>⟨_,H,I.kept k,?_,q⟩
 by_cases hj:j>i
 ·rw[if_pos hj,if_pos hj];exact⟨_,rfl⟩
 ·rw[if_neg hj,if_neg hj];exact⟨_,rfl⟩
def Dp:bK X (.type "int") (fun xs H Q=>(∃i,xs=[.int i]/\Q (.int i) H)\/∃k,xs=[.bl k]/\Q (.int (if k then 1 else 0)) H):=by
 intro pins s σ H xs us Q I r h
 rcases h with ⟨i,rfl,q⟩|⟨k,rfl,q⟩
 ·obtain⟨u,rfl,t,rfl⟩:=vals1 r;exact call_int_int ⟨.int i,H,I,⟨_,rfl⟩,q⟩
 ·obtain⟨u,rfl,r1⟩:=vals1 r;cases r1;exact call_int_bool ⟨.int (if k then 1 else 0),H,I.tok _,⟨_,rfl⟩,q⟩
def nB:bK X (.type "str") (fun xs H Q=>∃i,xs=[.int i]/\i.natAbs.log2<1920/\Q (.str (toString i)) H):=by
 intro pins s σ H xs us Q I r h;obtain⟨i,rfl,hz,q⟩:=h;obtain⟨u,rfl,t,rfl⟩:=vals1 r;exact PySem.P.str_of_int hz ⟨.str _,H,I.tok _,⟨_,rfl⟩,q⟩
def Sv (K:Ja)(x:V)(H:Hp)(n:Nat):Prop:=
 match x with
 | .str y=>y.length<=M2/\n=y.length
 | .byt y=>y.size<=M2/\n=y.size
 | .ref p=>(∃xs,aX K H p xs/\n=xs.length)\/∃xs,bg K H p xs/\n=xs.length
 | _=>False
def FZ:bK X (.builtin "len") (fun xs H Q=>∃x n,xs=[x]/\Sv X.K x H n/\Q (.int n) H):=by
 intro pins s σ H xs us Q I r h;obtain⟨x,n,rfl,e,q⟩:=h;obtain⟨u,rfl,rx⟩:=vals1 r;have hs:=Qdg;cases x with
 | str y=>
  obtain⟨t,rfl⟩:=rx;obtain⟨hy,e'⟩:y.length<=M2/\n=y.length:=e;subst e';exact len_str ⋯ ⟨.int _,H,I.tok _,⟨_,rfl⟩,q⟩
 | byt y=>
  obtain⟨t,rfl⟩:=rx;obtain⟨hy,e'⟩:y.size<=M2/\n=y.size:=e;subst e';exact PySem.W.len_bytes ⋯ ⟨.int _,H,I.tok _,⟨_,rfl⟩,q⟩
 | ref p=>
  cases rx;have e':=e
  rcases e' with ⟨xs,hx,e'⟩|⟨xs,hx,e'⟩
  ·subst e';obtain⟨aA,r',pl,hz⟩:=I.list hx;have hlen:=r'.length;exact Calls.call_len_list pl.isList (by simp only[Jy];lia) ⟨.int xs.length,H,I.tok _,⟨_,by simp only[Jy];rw[hlen]⟩,q⟩
  ·subst e';obtain⟨aA,r',pl,hz⟩:=I.tuple hx;have hlen:=r'.length;exact len_tuple pl (by simp only[Jy];lia) ⟨.int xs.length,H,I.tok _,⟨_,by simp only[Jy];rw[hlen]⟩,q⟩
 | _=>exact(show False from e).elim
def xM:bK X (.builtin "divmod") (fun xs H Q=>∃i j,xs=[.int i,.int j]/\KI i j/\∀p,H p=none->Q (.ref p) (upd H p (.tup [.int (i / j),.int (i%j)]))):=by
 intro pins s σ H xs us Q I r h;obtain⟨i,j,rfl,⟨h1,h2⟩,q⟩:=h;obtain⟨u,w',rfl,⟨t,rfl⟩,⟨t',rfl⟩⟩:=vals2 r;refine divmod_int ⋯ ?_ (.inl (Qc6 ⋯));rw[QcW i ⋯,Qfh i ⋯];refine⟨.ref s.heap.objs.size,_,?_,rfl,q _ (I.bE.fresh (Je _))⟩;refine I.laid (fun b o e=>Jb _ e) (Je _) ⟨by simp only[Jq,U8];rw[Qdg];decide,[.int (i / j) s.toks,.int (i%j) (s.toks+1)],.cons ⟨_,rfl⟩ (.cons ⟨_,rfl⟩ .nil),?_⟩;exact⟨_,Ji s.heap rfl,rfl,rfl,0,rfl⟩
end
structure Aq (h:Heap)(x dx C:Gc)(mA:Str->Option Fk):Prop where
 obj:h.get? x=some (Y4 C dx)
 ns:h.Ns1 dx mA
 ne:dx≠x
def Ep {h:Heap}{dx:Gc}{mA:Str->Option Fk}(n:h.Ns1 dx mA):∃od,h.get? dx=some od/\∀name,Qdp name od=some (mA name):=by
 obtain⟨o,es,ep,ho,hd,hk,_,hm⟩:=n;refine⟨o,ho,fun name =>?_⟩;have e:=hm name;unfold nsFind findBy at e;rw[<-Array.find?_toList] at e;unfold Qdp;rw[hd];dsimp only
 split
 ·rename_i y q;rw[q] at e;exact congrArg some e
 ·rename_i q;rw[q] at e;have a:es.toList.any (·.refKey)=false:=by
   rw[List.any_eq_false];intro y hy;obtain⟨z,t,hkey⟩:=hk y (Array.mem_toList_iff.mp hy);simp[DictEntry.refKey,hkey]
  rw[if_neg (by rw[a];exact Jr)];exact congrArg some e
def Aq.look (I:Aq h x dx C mA):∃od,PySem.W.InstAt h x (Y4 C dx) C (some od)/\∀name,Qdp name od=some (mA name):=
 let ⟨od,ho,hl⟩:=Ep I.ns
 ⟨od,⟨I.obj,rfl,rfl,ho⟩,hl⟩
section
variable {prog:Qaf}{w:Qag}{A:Qax}{E:Fk->KE->Prop}{s:KE}{K:Ja}{x dx C f:Gc}{mA:Str->Option Fk}{name:Str}{v:Fk}
def get_map {Q:Fk->KE->Prop}(X:K.In s.heap)(I:Aq s.heap x dx C mA)(hg:Wg K C name=true)(hh:Qb8 K C=true)
  (ha:J3 K (.ref C) name=some none) (hv:mA name=some v) (Pw:PySem.W.handedIn v=true) (h:Q v { s with toks:=s.toks+1 }) :
  Qaa (Qab prog w) A (getAttr (.ref x) name expr) Q E s:=by
 obtain⟨od,J,hl⟩:=I.look;exact PySem.W.get_value X J (Qdy hg).1 (PySem.W.findObj_own hh ha rfl (by rw[hl,hv])) Pw h
def GF {Q:Fk×List Fk->KE->Prop}(X:K.In s.heap)(I:Aq s.heap x dx C mA)(hg:Wg K C name=true)
  (hf:J3 K (.ref C) name=some (some (.ref f))) (ht:Wi K (.ref f)=true) (hv:mA name=none) (h:Q (.ref f,[.ref x]) s) :
  Qaa (Qab prog w) A (getMethod (.ref x) name pl) Q E s:=by
 obtain⟨od,J,hl⟩:=I.look;exact PySem.W.method_fn X J (Qdy hg).1 (Qdy hg).2 hf (beq_iff_eq.mp ht) (by show(Qdp name od).map (·.isSome)=some false;rw[hl,hv];rfl) h
def LC (X:K.In s.heap)(I:Aq s.heap x dx C mA)
  (hs:J3 K (.ref C) "__setattr__" = some (some (.builtin "object.__setattr__"))) (hp:QcP K C=true) (ht:Qeh K C name=some none) (hh:Qb8 K C=true)
  (hw:Qfu mA ns) (hsz:ns.length<=M2)
  (h:∀h',Aq h' x dx C (fun y=>if y=name then some v else mA y)->U6 dx s.heap h'->Q () { s with heap:=h',toks:=s.toks+2 }) :
  Qaa (Qab prog w) A (setAttr (.ref x) name v) Q E s:=by
 obtain⟨od,J,hl⟩:=I.look;refine PySem.W.set_plain X J hs (PySem.W.osa_open X J hp ht fun b =>?_);obtain⟨cd,hc,FQ⟩:=PySem.W.any_some hh;refine be (tz (be (be (wpAny_loadPart I.obj (be (PySem.W.Looks.here (PySem.W.looks_clsIn X hc) ?_))))));rw[FQ];refine tz (be (tz (be (wpAny_nsSet1 I.ns fun h' MV B5 =>?_))));obtain⟨oD,esD,epD,hoD,hdD,hcD⟩:=MV.count (PySem.Within.cons name v hw);exact be (wpAny_lookBehind hoD (by rw[hdD];exact pastItsLine_dict (Jg hcD (by rw[Jq];lia))) (tz (h _ ⟨(B5.2 _ (QaB I.ne)).trans I.obj,MV,I.ne⟩ B5)))
def II {vs:List Fk}{kw:List (Str×Fk)}(X:K.In s.heap)(hm:Qc7 K C=true)
  (hi:J3 K (.ref C) "__init__" = some (some (.ref f))) (hf:PySem.W.typeIn K (.ref f)=some (.type "function"))
  (h:Qa2 (Qab prog w) (A.under (.builtin "type.__call__" ⟨.ref C::vs,kw⟩)) (.call (.ref f) ⟨.ref (s.heap.objs.size+1)::vs,kw⟩) (PySem.W.InitBack (s.heap.objs.size+1) R)
   { s with heap:=(s.heap.push Y1).push (Y4 C s.heap.objs.size) }) :
  Qa2 (Qab prog w) A (.call (.ref C) ⟨vs,kw⟩) R s:=by
 obtain⟨hh,g,d,t,os⟩:=s;exact PySem.W.make_core (PySem.W.makes_of X hm) (PySem.W.looks_findIn X hi) (fun self=>PySem.W.bind_fn X self hf) (.inl rfl) h
end
def jJ (f:Str)(v:V):List (Str×V)->List (Str×V)
 | []=>[(f,v)]
 | (g,x)::r=>if g=f then (g,v)::r else (g,x)::jJ f v r
def pq (f g:Str)(v:V):∀fs,(jJ f v fs).lookup g=if g=f then some v else fs.lookup g
 | []=>by
  show We g [(f,v)]=_
  by_cases h:g=f
  ·have hb:=beq_iff_eq.mpr h;simp only[We,hb,if_pos h]
  ·have hb:=beq_eq_false_iff_ne.mpr h;simp only[We,hb,if_neg h]
 | (k,x)::r=>by
  rw[show jJ f v ((k,x)::r)=(if k=f then (k,v)::r else (k,x)::jJ f v r) from rfl]
  by_cases hk:k=f
  ·rw[if_pos hk]
   by_cases h:g=k
   ·have hb:=beq_iff_eq.mpr h;simp only[We,hb,if_pos (h.trans hk)]
   ·have hb:=beq_eq_false_iff_ne.mpr h;simp only[We,hb,if_neg (fun e:g=f=>h (e.trans hk.symm))]
  ·rw[if_neg hk]
   by_cases h:g=k
   ·have hb:=beq_iff_eq.mpr h;simp only[We,hb,if_neg (fun e:g=f=>hk (h.symm.trans e))]
   ·have hb:=beq_eq_false_iff_ne.mpr h;simp only[We,hb];exact pq f g v r
def nX (f:Str)(v:V):∀fs,f∈(jJ f v fs).map (·.1)/\∀g,g∈fs.map (·.1)->g∈(jJ f v fs).map (·.1)
 | []=>⟨by simp[jJ],fun g h=>by simp at h⟩
 | (k,x)::r=>by
  obtain⟨i1,i2⟩:=nX f v r;rw[show jJ f v ((k,x)::r)=(if k=f then (k,v)::r else (k,x)::jJ f v r) from rfl]
  by_cases hk:k=f
  ·rw[if_pos hk];subst hk;exact⟨by simp,fun g h=>by simpa using h⟩
  ·rw[if_neg hk];refine⟨?_,fun g h =>?_⟩
   ·rw[J0];exact Jk _ i1
   ·rw[J0] at h ⊢
    rcases Jw.mp h with e|e
    ·exact Jw.mpr (.inl e)
    ·exact Jk _ (i2 g e)
def oV (f:Str)(v:V):∀fs,(jJ f v fs).length<=fs.length+1
 | []=>by simp[jJ]
 | (k,x)::r=>by
  have ih:=oV f v r;rw[show jJ f v ((k,x)::r)=(if k=f then (k,v)::r else (k,x)::jJ f v r) from rfl]
  by_cases hk:k=f
  ·rw[if_pos hk,Jq,Jq];lia
  ·rw[if_neg hk,Jq,Jq];lia
def jZ.wW (r:jZ (some v) o):∃u,o=some u/\RelV v u:=by
 cases o with
 | none=>exact(show False from r).elim
 | some u=>exact⟨u,rfl,r⟩
def jZ.none_of (r:jZ none o):o=none:=by
 cases o with
 | none=>rfl
 | some u=>exact(show False from r).elim
def D0 (r:RelV v u):PySem.W.handedIn u=true:=by
 cases v with
 | non=>cases (show u=Qcm from r);rfl
 | bl b=>cases (show u=QeO b from r);rfl
 | int i=>obtain⟨t,e⟩:=(show ∃t,u=QdE i t from r);cases e;rfl
 | str x=>obtain⟨t,e⟩:=(show ∃t,u=QcI x t from r);cases e;rfl
 | byt b=>obtain⟨t,e⟩:=(show ∃t,u=Value.bytes b t from r);cases e;rfl
 | flt b=>obtain⟨t,e⟩:=(show ∃t,u=QfO b t from r);cases e;rfl
 | ref a=>cases (show u=Qap a from r);rfl
 | ty n=>cases (show u=Qa1 n from r);rfl
section
variable {P:Qaf}{w:Qag}{H H':Hp}{h h':Heap}{a C dx:Gc}{fs fs':List (Str×V)}
def pW (bE:jq P w H h)(e:H a=some (.ins C dx fs)):∃mA,Aq h a dx C mA/\(∀f,jZ (fs.lookup f) (mA f))/\Qfu mA (fs.map (·.1))/\fs.length<=1000/\H dx=some (.own a):=by
 obtain⟨d,z,ne,ob,mA,n,r,q⟩:=(show bC P w H h a (.ins C dx fs) from bE a _ e)
 exact⟨mA,⟨ob,n,ne⟩,r,q,z,d⟩
end
structure zm (K:Ja)(C:Gc):Prop where
 pg:Wg K C Qaq=true
 hd:Qb8 K C=true
 po:QcP K C=true
 sa:J3 K (.ref C) "__setattr__" = some (some (.builtin "object.__setattr__"))
def zm.get {K:Ja}{C:Gc}(c:zm K C)(f:Str):Wg K C f=true:=c.pg
def dI (K:Ja)(C:Gc)(f:Str):Prop:=J3 K (.ref C) f=some none
def dI.Sn {K:Ja}{C:Gc}{f:Str}(n:dI K C f):Qeh K C f=some none:=by
 unfold Qeh;rw[show J3 K (.ref C) f=some none from n]
 rfl
structure uV (K:Ja)(C:Gc)(m:Str)(f:Gc):Prop where
 at_:J3 K (.ref C) m=some (some (.ref f))
 fn:Wi K (.ref f)=true
 kp:Ui K (.ref f)=true
section
variable {X:Cx}{pins:List (Gc×Obj)}{σ:St}{H:Hp}{s:KE}{a C dx:Gc}{fs:List (Str×V)}{f:Str}{v:V}{A:Qax}{E:Fk->KE->Prop}
def AL {Q:Fk->KE->Prop}(I:Inv X pins σ H s)(e:H a=some (.ins C dx fs))(c:zm X.K C)(n:dI X.K C f)(l:fs.lookup f=some v)
  (h:∀u s',Inv X pins σ H s'->RelV v u->Q u s'):Qaa (Qab X.prog X.w) A (getAttr (.ref a) f b) Q E s:=by
 obtain⟨mA,O,r,_,_,_⟩:=pW I.bE e;obtain⟨u,hu,ru⟩:=jZ.wW (by rw[<-l];exact r f);exact get_map I.kc O (c.get f) c.hd n hu (D0 ru) (h u _ (I.tok _) ru)
def BB {Q:Fk×List Fk->KE->Prop}(I:Inv X pins σ H s)(e:H a=some (.ins C dx fs))(c:zm X.K C)(k:uV X.K C m g)(l:fs.lookup m=none)
  (h:Q (.ref g,[.ref a]) s):Qaa (Qab X.prog X.w) A (getMethod (.ref a) m pl) Q E s:=by
 obtain⟨mA,O,r,_,_,_⟩:=pW I.bE e;exact GF I.kc O (c.get m) k.at_ k.fn (jZ.none_of (by rw[<-l];exact r m)) h
def Br (I:Inv X pins σ H s)(e:H a=some (.ins C dx fs))(c:zm X.K C)(n:dI X.K C f)(hl:fs.length<1000)(ry:RelV y u)
  (h:∀s',Inv X pins σ (upd H a (.ins C dx (jJ f y fs))) s'->Q () s'):Qaa (Qab X.prog X.w) A (setAttr (.ref a) f u) Q E s:=by
 obtain⟨mA,O,r,wi,_,ho⟩:=pW I.bE e;refine LC I.kc O c.sa c.po n.Sn c.hd wi (by rw[Jc,Qdg];lia) fun h' O' sb=>h _ (I.write (by rw[e];exact QaO) (.inr ho) (fun b q hb z=>(sb.2 b hb).trans z) (let ⟨o,_,_,e',_⟩:=O'.ns; ⟨o,e'⟩) ⟨by rw[ao O.ne];exact ho,?_,O.ne,O'.obj,_,O'.ns,fun g =>?_,fun g hg =>?_⟩)
 ·have:=oV f y fs;lia
 ·show jZ ((jJ f y fs).lookup g) (if g=f then some u else mA g);rw[pq]
  by_cases q:g=f
  ·rw[if_pos q,if_pos q];exact ry
  ·rw[if_neg q,if_neg q];exact r g
 ·by_cases q:g=f
  ·rw[q];exact(nX f y fs).1
  ·refine(nX f y fs).2 g (wi g fun z=>hg ?_);show(if g=f then some u else mA g)=none;rw[if_neg q];exact z
def Inv.made (I:Inv X pins σ H s):Inv X pins σ (upd (upd H s.heap.objs.size (.own (s.heap.objs.size+1))) (s.heap.objs.size+1) (.ins C s.heap.objs.size []))
  { s with heap:=(s.heap.push Y1).push (Y4 C s.heap.objs.size) }:=by
 have e1:(s.heap.push Y1).get? s.heap.objs.size=some Y1:=Ji s.heap rfl;have e2:((s.heap.push Y1).push (Y4 C s.heap.objs.size)).get? (s.heap.objs.size+1)=some (Y4 C s.heap.objs.size):=by
  have:=Ji (s.heap.push Y1) (o:=Y4 C s.heap.objs.size) rfl;rwa[Ua] at this
 refine(I.laid (o := .own (s.heap.objs.size+1)) (t':=s.toks) (fun b u q=>Jb _ q) (Je _) ⟨_,e1⟩).laid (fun b u q=>Jb _ q) (Nat.le_of_eq (Ua _ _)) ?_;have ne:s.heap.objs.size≠s.heap.objs.size+1:=Jo (Y8 _);refine⟨by rw[ao ne,aq],Um _,ne,e2,fun _=>none,(QfZ ⟨Y1,#[],_,e1,rfl,(fun e he=>absurd he (by simp)),fun _=>rfl⟩).at fun o q=>Jb _ q,fun _=>QaO,fun y hy=>absurd rfl hy⟩
def Lm {env:Env}{e:QaE}{f:Str}{pos:Pos}{s:KE}{Q:Fk->KE->Prop}(hb:QbQ e f env (QaR e env)=QaR e env)
  (h:Qaa (Qab prog w) A (QaR e env) (fun o s₁=>Qaa (Qab prog w) A (getAttr o f true) Q E s₁) E s):Qaa (Qab prog w) A (QaR (.Attribute e f pos) env) Q E s:=
 Attribute_any_ h (by rw[arm_eval_Attribute,hb])
end
def Rw (K:Ja)(ta:TE)(f:Str):TE:=fun σ H Q=>ta σ H fun x H1=>zR fun a C dx fs v=>x = .ref a/\H1 a=some (.ins C dx fs)/\zm K C/\dI K C f/\fs.lookup f=some v/\Q v H1
def Od (K:Ja)(ta tv:TE)(f:Str):TS:=fun D σ H=>tv σ H fun y H1=>ta σ H1 fun x H2=>pH fun a C dx fs=>x = .ref a/\H2 a=some (.ins C dx fs)/\zm K C/\dI K C f/\fs.length<1000 /\
 D.nx σ (upd H2 a (.ins C dx (jJ f y fs)))
section
variable {X:Cx}{o e value:QaE}{f:Str}{pos pos' Xq:Pos}{ta tv:TE}
def NG (he:PE X e ta)(hb:QbQ e f X.env (QaR e X.env)=QaR e X.env):PE X (.Attribute e f pos) (Rw X.K ta f):=by
 refine fun pins s σ H Q I h=>Lm hb (bh (he s σ H _ I h) fun u s1 hz_=>ai.el hz_ _ ?_);rintro x H1 I1 rx ⟨a,C,dx,fs,v,ex,ea,c,n,l,q⟩;subst ex;obtain rfl:u=Qap a:=rx;exact AL I1 ea c n l fun u' s2 I2 ru=>⟨v,H1,I2,ru,q⟩
def ia (ha:PE X o ta)(hv:PE X value tv)(hs:Qeb value (some (.Attribute o f pos')) pos.line X.env=pure false):PS X (.Assign [.Attribute o f pos'] value pos) (Od X.K ta tv f):=by
 refine fun pins s σ H D I h=>QeY (bh (hv s σ H _ I h) fun u s1 ⟨y,H1,I1,ry,q⟩=>bh (ha s1 σ H1 _ I1 q) fun ov s2 ⟨x,H2,I2,rx,a,C,dx,fs,ex,ea,c,n,l,q2⟩=>?_) hs;subst ex;obtain rfl:ov=Qap a:=rx;exact Br I2 ea c n l ry fun s3 I3=>⟨σ,_,I3,q2⟩
end
section
variable {X:Cx}{pins:List (Gc×Obj)}{σ:St}{H:Hp}{s:KE}{A:Qax}{E:Fk->KE->Prop}{Q:Fk->KE->Prop}{c:Fk}{b:Bool}
inductive m8 (K:Ja)(H:Hp):V->Fk->Prop where
 | non:m8 K H .non (.type "NoneType")
 | bl (x:Bool):m8 K H (.bl x) (.type "bool")
 | int (i:Int):m8 K H (.int i) (.type "int")
 | str (x:Str):m8 K H (.str x) (.type "str")
 | flt (x:UInt64):m8 K H (.flt x) (.type "float")
 | lst {a:Gc} {xs:List V} (e:H a=some (.lst xs)):m8 K H (.ref a) (.type "list")
 | frz {a:Gc} {o:Obj} {xs:List V} (e:H a=some (.frz o (.lst xs))):m8 K H (.ref a) (.type "list")
 | tup {a:Gc} {xs:List V} (e:H a=some (.tup xs)):m8 K H (.ref a) (.type "tuple")
 | dK {a:Gc} {kvs:List (Key×V)} (e:H a=some (.dK kvs)):m8 K H (.ref a) (.type "dict")
 | dT {a:Gc} {kvs:List (List Key×V)} (e:H a=some (.dT kvs)):m8 K H (.ref a) (.type "dict")
 | ins {a C dx:Gc} {fs:List (Str×V)} (e:H a=some (.ins C dx fs)) (cl:zm K C) (ha:J3 K (.ref C) "__class__" = some (some (.builtin "object.__class__")))
   (hn:PySem.W.specialIn K (.builtin "object.__class__") "__get__" = some (some (.builtin "getset_descriptor.__get__"))) (De:PySem.W.takesIn K (.builtin "object.__class__")=some true)
   (hm:QeR K C (.type "object")=some true):m8 K H (.ref a) (.ref C)
def Fu (I:Inv X pins σ H s)(rx:RelV x u)(ty:m8 X.K H x t)(e:Yv X.K t c=some b)(h:∀tk,Q (.bool b) { s with toks:=tk }):
  Qaa (Qab X.prog X.w) A (call (.builtin "isinstance") [u,c]) Q E s:=by
 cases ty with
 | non=>cases (show u=Qcm from rx);exact U9 Qf1 I.kc QaO e (nofun) h
 | bl y=>cases (show u=QeO y from rx);exact U9 Qf3 I.kc QaO e (nofun) h
 | int i=>obtain⟨t,q⟩:=(show ∃t,u=QdE i t from rx);cases q;exact U9 PySem.W.kitx_int I.kc QaO e (nofun) h
 | str y=>obtain⟨t,q⟩:=(show ∃t,u=QcI y t from rx);cases q;exact U9 PySem.W.kitx_str I.kc QaO e (nofun) h
 | flt y=>obtain⟨t,q⟩:=(show ∃t,u=QfO y t from rx);cases q;exact U9 PySem.W.kitx_float I.kc QaO e (nofun) h
 | @lst a xs ea=>
  cases (show u=Qap a from rx);obtain⟨_,_,n,_,h1⟩:=(show bC X.prog X.w H s.heap a (.lst xs) from I.bE a _ ea)
  exact U9 QdX I.kc ⟨_,h1,rfl⟩ e (nofun) h
 | @frz a ob xs ea=>
  cases (show u=Qap a from rx);obtain⟨_,_,_,n,_,h1⟩:=(show bC X.prog X.w H s.heap a (.frz ob (.lst xs)) from I.bE a _ ea)
  exact U9 QdX I.kc ⟨_,h1,rfl⟩ e (nofun) h
 | @tup a xs ea=>
  cases (show u=Qap a from rx);obtain⟨_,_,_,p⟩:=(show bC X.prog X.w H s.heap a (.tup xs) from I.bE a _ ea)
  obtain⟨o,h1,_,h2,_⟩:=p;exact U9 QfR I.kc ⟨o,h1,h2⟩ e (nofun) h
 | @dK a kvs ea=>
  cases (show u=Qap a from rx);obtain⟨_,_,vs,_,p⟩:=(show bC X.prog X.w H s.heap a (.dK kvs) from I.bE a _ ea)
  obtain⟨o,es,ep,h1,h2,_⟩:=p;exact U9 Qf2 I.kc ⟨o,h1,h2.1⟩ e (nofun) h
 | @dT a kvs ea=>
  cases (show u=Qap a from rx);obtain⟨_,_,xs,_,o,es,ep,h1,h2,_⟩:=(show bC X.prog X.w H s.heap a (.dT kvs) from I.bE a _ ea)
  exact U9 Qf2 I.kc ⟨o,h1,h2.1⟩ e (nofun) h
 | @ins a C dx fs ea cl ha hn De hm=>
  cases (show u=Qap a from rx);obtain⟨mA,O,_⟩:=pW I.bE ea;obtain⟨od,J,_⟩:=O.look;exact U9 (PySem.W.kitx_own (cl.get _) cl.hd ha hn De hm) I.kc J e (nofun) h
end
structure dH (k:Nat)(A:Qax):Prop where
 hd:A.handled=none
 dp:A.depth+3*k+5<recursionLimit
 un:A.units+16*k+200<Qdh
 gd:A.guards=some []
def dH.mono {j k:Nat}{A:Qax}(r:dH k A)(h:j<=k):dH j A:=⟨r.hd,by have:=r.dp;lia,by have:=r.un;lia,r.gd⟩
def dH.deeper (r:dH (k+1) A)(env:Env):dH k (A.deeper env):=
 ⟨r.hd,by have:=r.dp;show A.depth+1+3*k+5<_;lia,by have:=r.un;show A.units+3+16*k+200<_;lia,r.gd⟩
def Af {A:Qax}{C:Gc}{us:List Fk}{kw:List (Str×Fk)}:(A.under (.builtin "type.__call__" ⟨.ref C::us,kw⟩)).depth=A.depth+1:=rfl
def AA {A:Qax}{C:Gc}{us:List Fk}{kw:List (Str×Fk)}:(A.under (.builtin "type.__call__" ⟨.ref C::us,kw⟩)).units=A.units+1:=rfl
def xr {A:Qax}{C:Gc}{us:List Fk}{kw:List (Str×Fk)}:(A.under (.builtin "type.__call__" ⟨.ref C::us,kw⟩)).guards=A.guards:=rfl
def dH.make (r:dH (k+1) A)(C:Gc)(us:List Fk)(kw:List (Str×Fk)):dH k (A.under (.builtin "type.__call__" ⟨.ref C::us,kw⟩)):=
 ⟨r.hd,by have:=r.dp;rw[Af];lia,by have:=r.un;rw[AA];lia,by rw[xr];exact r.gd⟩
def dH.depth (r:dH k A):A.depth<recursionLimit:=by have:=r.dp;lia
def dH.units (r:dH k A):A.units+64<Qdh:=by have:=r.un;lia
def GH:TA:=fun _ H Q=>Q [] H
def m7 (ta:TE)(tr:TA):TA:=fun σ H Q=>ta σ H fun x H1=>tr σ H1 fun xs H2=>Q (x::xs) H2
section
variable {X:Cx}{e:QaE}{es:List QaE}{te:TE}{t:TA}{pos:Pos}
def ae:PA X [] GH:=fun _ _ _ _ H Q I h=>Qcd ⟨[],H,I,.nil,h⟩
def aa (ha:PE X e te)(hr:PA X es t)(hs:Qaj (e::es) X.env=(false,QaR e X.env)::Qaj es X.env:=by rfl):PA X (e::es) (m7 te t):=by
 intro pos pins s σ H Q I h;rw[hs];refine Qb6 (bh (ha s σ H _ I h) fun u s1 hz_=>ai.el hz_ _ ?_);rintro x H1 I1 r1 q1;exact bh (hr s1 σ H1 _ I1 q1) fun us s2 hz_=>ai.el hz_ _ fun xs H2 I2 r2 q2=>⟨x::xs,H2,I2,.cons r1 r2,q2⟩
def TJ (t:TA):TE:=fun σ H Q=>t σ H fun xs H1=>xs.length<=M2/\∀p,H1 p=none->Q (.ref p) (upd H1 p (.tup xs))
def Q7 (t:TA):TE:=fun σ H Q=>t σ H fun xs H1=>xs.length<=M2/\∀p,H1 p=none->Q (.ref p) (upd H1 p (.lst xs))
def Hs (h:PA X es t):PE X (.Tuple es x1 pos) (TJ t):=by
 refine fun pins s σ H Q I hq=>wpAny_Tuple_spliced (bh (h s σ H _ I hq) fun us s1 ⟨xs,H1,I1,r,z,q⟩=>⟨by rw[<-r.length];exact z,⟨.ref s1.heap.objs.size,upd H1 s1.heap.objs.size (.tup xs),I1.laid (fun b u e=>Jb _ e) (Je _) ?_,rfl,q _ (I1.bE.fresh (Je _))⟩⟩);exact⟨z,us,r,⟨_,Ji _ rfl,rfl,rfl,_,rfl⟩⟩
def NV (h:PA X es t):PE X (.List es pos) (Q7 t):=by
 refine fun pins s σ H Q I hq=>wpAny_List_spliced (bh (h s σ H _ I hq) fun us s1 ⟨xs,H1,I1,r,z,q⟩=>⟨by rw[<-r.length];exact z,⟨.ref s1.heap.objs.size,upd H1 s1.heap.objs.size (.lst xs),I1.laid (fun b u e=>Jb _ e) (Je _) ?_,rfl,q _ (I1.bE.fresh (Je _))⟩⟩);exact⟨z,us,0,r,Ji _ rfl⟩
end
abbrev Sp:=List V->Hp->VK->XK->Prop
abbrev G6:=List Env->Hp->KE->XK->Fk->KE->Prop
structure EI (P:Qaf)(w:Qag)(K:Ja)(mg:Str->Option Fk)(base:Heap)(A:Qax)(outer:List Env)(s:KE)(H:Hp):Prop where
 frames:A.frames=some outer
 mod:Mod K mg base
 bs:∀b o,base.get? b=some o->s.heap.get? b=some o/\H b=none
 bsz:base.objs.size<=s.heap.objs.size
 nV:s.heap.FunFrames base outer
 frf:∀b∈pZ outer,H b=none
 bE:jq P w H s.heap
 bare:Qdl s.gens
def CE (outer:List Env)(P:Qaf)(w:Qag)(H:Hp)(s:KE)(Q:VK)(u:Fk)(s':KE):Prop:=
 eM fun v H'=>s'.os=s.os/\Qdl s'.gens/\Un (pZ outer) [] H H' s.heap s'.heap/\jq P w H' s'.heap/\RelV v u/\Q v H'
def CR (CX:G6)(outer:List Env)(P:Qaf)(w:Qag)(H:Hp)(s:KE)(Q:VK)(E:XK)(r:Qb2)(s':KE):Prop:=
 match r with
 | .ok (.ret u)=>CE outer P w H s Q u s'
 | .ok _=>False
 | .error e=>CX outer H s E e s'
structure aW (P:Qaf)(w:Qag)(K:Ja)(mg:Str->Option Fk)(base:Heap)(CX:G6)(k:Nat)(f:Gc)(fd:Qad)(ps:List Str)(sp:Sp):Prop where
 len:∀vs H Q E,sp vs H Q E->vs.length=ps.length
 run:∀(A:Qax) (outer:List Env) (s:KE) (H:Hp) (args:Args) (us:List Fk) (vs:List V) (Q:VK) (E:XK),dH k A->EI P w K mg base A outer s H->QfF s fd args (ps.zip us)->Vals vs us->sp vs H Q E ->
  Qa2 (Qab P w) A (.call (.ref f) args) (CR CX outer P w H s Q E) s
def aW.mono {K:Ja}{mg:Str->Option Fk}{base:Heap}{CX:G6}{j k:Nat}{f:Gc}{fd:Qad}{ps:List Str}{sp:Sp}(F:aW P w K mg base CX j f fd ps sp)(h:j<=k):
  aW P w K mg base CX k f fd ps sp:=⟨F.len,fun A outer s H args us vs Q E hr=>F.run A outer s H args us vs Q E (hr.mono h)⟩
def aW.imp {K:Ja}{mg:Str->Option Fk}{base:Heap}{CX:G6}{k:Nat}{f:Gc}{fd:Qad}{ps:List Str}{sp MK:Sp}(F:aW P w K mg base CX k f fd ps sp)
  (h:∀vs H Q E,MK vs H Q E->sp vs H Q E):aW P w K mg base CX k f fd ps MK:=
 ⟨fun vs H Q E q=>F.len vs H Q E (h _ _ _ _ q),fun A outer s H args us vs Q E hr he hb hv hs=>F.run A outer s H args us vs Q E hr he hb hv (h _ _ _ _ hs)⟩
def EI.make {K:Ja}{mg:Str->Option Fk}{base:Heap}{A:Qax}{outer:List Env}{s:KE}{H:Hp}(e:EI P w K mg base A outer s H)(C:Gc)(us:List Fk)(kw:List (Str×Fk)):
  EI P w K mg base (A.under (.builtin "type.__call__" ⟨.ref C::us,kw⟩)) outer s H:=⟨by first|exact e.frames|(simpa [Around.under,Code.envs,Code.isFrame,pushEnvs] using e.frames),e.mod,e.bs,e.bsz,e.nV,e.frf,e.bE,e.bare⟩
section
variable {X:Cx}{pins:List (Gc×Obj)}{σ:St}{H:Hp}{s s':KE}
def Inv.Ng (I:Inv X pins σ H s):EI X.prog X.w X.K X.mg X.base X.A X.stack s H:=
 ⟨I.ok.frames,I.ok.mod,I.bs,Jg I.ok.bsz I.sz,I.stack,I.vn,I.bE,I.bare⟩
def Inv.after (I:Inv X pins σ H s)(h:CE X.stack X.prog X.w H s Q u s'):EP X pins σ Q u s':=by
 obtain⟨v,H',os,bare,un,bE,r,q⟩:=h;obtain⟨hh,g,d,t,os'⟩:=s';obtain rfl:os'=s.os:=os;exact⟨v,H',I.call un bE bare (fun b z=>absurd z (by simp)),r,q⟩
end
def tf (sp:Sp)(uk:List V)(E:XK)(t:TA):TE:=fun σ H Q=>t σ H fun vs H1=>sp (vs++uk) H1 Q E
def S5 (C:Gc)(m:Str)(sp:Sp)(uk:List V)(E:XK)(ta:TE)(t:TA):TE:=fun σ H Q=>ta σ H fun x H1=>sF fun a dx fs=>x = .ref a/\H1 a=some (.ins C dx fs)/\fs.lookup m=none /\
 t σ H1 fun vs H2=>sp (x::(vs++uk)) H2 Q E
def RJ (C:Gc)(sp:Sp)(uk:List V)(E:XK)(t:TA):TE:=fun σ H Q=>t σ H fun vs H1=>∀x dx,H1 x=none->H1 dx=none->dx≠x ->
 sp (.ref x::(vs++uk)) (upd (upd H1 dx (.own x)) x (.ins C dx [])) (fun v H2=>v = .non/\Q (.ref x) H2) E
def Binds (K:Ja)(fd:Qad)(ps:List Str)(ds:List Fk):Prop:=
 ∀s us,K.In s.heap->(us++ds).length=ps.length->QfF s fd ⟨us,[]⟩ (ps.zip (us++ds))
def Binds.all {K:Ja}{fd:Qad}{ps:List Str}(h:∀us,us.length=ps.length->bindArgs fd ⟨us,[]⟩=pure (ps.zip us)):Binds K fd ps []:=fun s us _ hl=>by
 rw[Yg] at hl ⊢;exact .of_eq (h us hl)
def Passes (CX:G6)(X:Cx)(E:XK):Prop:=∀pins (σ:St) (H:Hp) (s:KE) (e:Fk) (s':KE),Inv X pins σ H s->CX X.stack H s E e s'->X.xe e s'
section
variable {X:Cx}{CX:G6}{k:Nat}{f C:Gc}{fd:Qad}{ps:List Str}{sp:Sp}{uk:List V}{ds:List Fk}{E:XK}{x m:Str}{p pos apos:Pos}{e o:QaE}{es:List QaE}{ta:TE}{t:TA}
def Bl {σ:St}{H:Hp}{s:KE}{Q:VK}{us:List Fk}{vs:List V}(F:aW X.prog X.w X.K X.mg X.base CX k f fd ps sp)(hr:dH k X.A)(hb:Binds X.K fd ps ds)(hd:Vals uk ds)(hx:Passes CX X E)
  (I:Inv X pins σ H s) (r:Vals vs us) (h:sp (vs++uk) H Q E):Qaa (Qab X.prog X.w) X.A (call (.ref f) us) (EP X pins σ Q) X.xe s:=by
 have r2:=r.append hd;refine QfI (Qc0 (F.run X.A X.stack s H ⟨us,[]⟩ (us++ds) (vs++uk) Q E hr I.Ng (hb s us I.kc (by rw[<-r2.length];exact F.len _ _ _ _ h)) r2 h) fun r s' hq =>?_);cases r with
 | error e=>exact hx pins σ H s e s' I hq
 | ok fl=>
  cases fl with
  | ret u=>exact I.after hq
  | next=>exact Qbm hq
  | brk=>exact Qbm hq
  | cont=>exact Qbm hq
def BL (F:aW X.prog X.w X.K X.mg X.base CX k f fd ps sp)(hr:dH k X.A)(hg:Gl X x)(hm:X.mg x=some (.ref f))(hk:Ui X.K (.ref f)=true)(hb:Binds X.K fd ps ds)(hd:Vals uk ds)(hx:Passes CX X E)
  (ha:PA X (e::es) t) (vW:(x==("__debug__" : Str))=false:=by decide) (he:Qaj (e::es) X.env=(false,QaR e X.env)::Qaj es X.env:=by rfl) (sj:(Qcu pos (Qaj es X.env)).any (·.1)=false:=by rfl) :
  PE X (.Call (.Name x p) (e::es) [] pos) (tf sp uk E t):=
 fun pins s σ H Q I h=>QaS (mr I hg hm (QcE I.ok.mod.Bc hk (bh (ha s σ H _ I h) fun us s1 hz_=>ai.el hz_ _ fun vs H1 I1 r q=>⟨I1.kc,(Bl F hr hb hd hx I1 r q)⟩) he sj) vW)
def G8 (F:aW X.prog X.w X.K X.mg X.base CX k f fd ps sp)(hr:dH k X.A)(hg:Gl X x)(hm:X.mg x=some (.ref f))(hk:Ui X.K (.ref f)=true)(hb:Binds X.K fd ps ds)(hd:Vals uk ds)(hx:Passes CX X E)
  (vW:(x==("__debug__" : Str))=false:=by decide):PE X (.Call (.Name x p) [] [] pos) (tf sp uk E GH):=
 fun pins s σ H Q I h=>QaS (mr I hg hm (PySem.W.callWith_K0 I.kc hk (Bl F hr hb hd hx I .nil h)) vW)
def pS {pl:Sem Bool}(he:PE X o ta)(c:zm X.K C)(hm:uV X.K C m f)(F:aW X.prog X.w X.K X.mg X.base CX k f fd ps sp)(hr:dH k X.A)(hb:Binds X.K fd ps ds)(hd:Vals uk ds)(hx:Passes CX X E)(ha:PA X (e::es) t)
  (nH:Qaj (e::es) X.env=(false,QaR e X.env)::Qaj es X.env:=by rfl) (sj:(Qcu pos (Qaj es X.env)).any (·.1)=false:=by rfl)
  (ht:QaR (.Call (.Attribute o m apos) (e::es) [] pos) X.env=(do
   let ov <-QaR o X.env
   standAt apos.atName
   let (f,first) <-holding [ov] (getMethod ov m pl)
   callWith pos f first (Qcu pos (Qaj (e::es) X.env)) (backToKw pos (keywordEach [] X.env))):=by rfl) :
  PE X (.Call (.Attribute o m apos) (e::es) [] pos) (S5 C m sp uk E ta t):=by
 refine fun pins s σ H Q I h=>PySem.W.methodCall_KW (bh (he s σ H _ I h) fun u s1 ⟨x,H1,I1,rx,a,dx,fs,ex,ea,l,q⟩=>?_) ht;subst ex;obtain rfl:u=Qap a:=rx;exact BB I1 ea c hm l (QcE I.ok.mod.Bc hm.kp (bh (ha s1 σ H1 _ I1 q) fun us s2 hz_=>ai.el hz_ _ fun vs H2 I2 r q2=>⟨I2.kc,(Bl (vs := .ref a::vs) F hr hb hd hx I2 (.cons rfl r) q2)⟩) nH sj)
structure Mk (K:Ja)(C f:Gc):Prop where
 makes:Qc7 K C=true
 init:J3 K (.ref C) "__init__" = some (some (.ref f))
 fn:Wi K (.ref f)=true
 kp:Ui K (.ref C)=true
def Ig {σ:St}{H:Hp}{s:KE}{Q:VK}{us:List Fk}{vs:List V}(M:Mk X.K C f)(F:aW X.prog X.w X.K X.mg X.base CX k f fd ps sp)(hr:dH (k+1) X.A)(hb:Binds X.K fd ps ds)(hd:Vals uk ds)
  (hx:Passes CX X E) (I:Inv X pins σ H s) (r:Vals vs us)
  (h:∀x dx,H x=none->H dx=none->dx≠x->sp (.ref x::(vs++uk)) (upd (upd H dx (.own x)) x (.ins C dx [])) (fun v H2=>v = .non/\Q (.ref x) H2) E) :
  Qaa (Qab X.prog X.w) X.A (call (.ref C) us) (EP X pins σ Q) X.xe s:=by
 have hq:=h (s.heap.objs.size+1) s.heap.objs.size (I.bE.fresh (Yx _)) (I.bE.fresh (Je _)) (Jo (Y8 _));have I2:=Inv.made (C:=C) I;have r2:Vals (V.ref (s.heap.objs.size+1)::(vs++uk)) (Qap (s.heap.objs.size+1)::(us++ds)) := .cons rfl (r.append hd);have hl:(Qap (s.heap.objs.size+1)::us++ds).length=ps.length:=by
  have e:=r2.length;rw[F.len _ _ _ _ hq] at e;exact e.symm
 refine QfI (II I.kc M.makes M.init (beq_iff_eq.mp M.fn) (Qc0 (F.run _ X.stack _ _ ⟨Qap (s.heap.objs.size+1)::us,[]⟩ (Qap (s.heap.objs.size+1)::(us++ds)) _ _ E (hr.make C us [])
  (I2.Ng.make C us []) (hb _ (Qap (s.heap.objs.size+1)::us) I2.kc hl) r2 hq) fun r s' hq' =>?_))
 cases r with
 | error e=>exact hx pins σ _ _ e s' I2 hq'
 | ok fl=>
  cases fl with
  | ret u=>
   obtain⟨v,H',I3,rv,ev,q3⟩:=I2.after hq';subst ev;exact⟨rv,⟨V.ref (s.heap.objs.size+1),H',I3,rfl,q3⟩⟩
  | next=>exact Qbm hq'
  | brk=>exact Qbm hq'
  | cont=>exact Qbm hq'
def wc (M:Mk X.K C f)(F:aW X.prog X.w X.K X.mg X.base CX k f fd ps sp)(hr:dH (k+1) X.A)(hg:Gl X x)(hm:X.mg x=some (.ref C))(hb:Binds X.K fd ps ds)(hd:Vals uk ds)(hx:Passes CX X E)
  (ha:PA X (e::es) t) (vW:(x==("__debug__" : Str))=false:=by decide) (he:Qaj (e::es) X.env=(false,QaR e X.env)::Qaj es X.env:=by rfl) (sj:(Qcu pos (Qaj es X.env)).any (·.1)=false:=by rfl) :
  PE X (.Call (.Name x p) (e::es) [] pos) (RJ C sp uk E t):=
 fun pins s σ H Q I h=>QaS (mr I hg hm (QcE I.ok.mod.Bc M.kp (bh (ha s σ H _ I h) fun us s1 hz_=>ai.el hz_ _ fun vs H1 I1 r q=>⟨I1.kc,(Ig M F hr hb hd hx I1 r q)⟩) he sj) vW)
end
structure aD (N P:List Str)(sc:Qb1):Prop where
 kind:sc.kind = .function
 co:sc.isCoroutine=false
 gen:sc.isGenerator=false
 nd:N.Nodup
 pre:N.take P.length=P
 par:∀x∈P,sc.names.lookup x=some .local\/sc.names.lookup x=some .cell
 nofree:∀y∈sc.names,y.2 ≠ .free
def tZ {kindOf:Str->Option Qcw}{x:Str}:∀{binds:List (Str×Fk)} {m:Str->Option Fk},(∀v,(x,v)∉binds)->bindL kindOf binds m x=m x
 | [],_,_=>rfl
 | (n,v)::r,m,h=>by
  unfold bindL;rw[tZ fun w hw=>h w (Jk _ hw)]
  split
  ·have:x≠n:=by rintro rfl;exact h v Jn
   simp[this]
  ·rfl
def uN {kindOf:Str->Option Qcw}{x:Str}:∀{binds:List (Str×Fk)} {m:Str->Option Fk},(∀v,(x,v)∉binds)->bindC kindOf binds m x=m x
 | [],_,_=>rfl
 | (n,v)::r,m,h=>by
  unfold bindC;rw[uN fun w hw=>h w (Jk _ hw)]
  split
  ·rfl
  ·have:x≠n:=by rintro rfl;exact h v Jn
   simp[this]
def uE {kindOf:Str->Option Qcw}{x:Str}{v:Fk}:∀{P:List Str} {vs:List Fk} {i:Nat} {m:Str->Option Fk},P.Nodup->P[i]? = some x->vs[i]? = some v->kindOf x=some .local ->
  bindL kindOf (P.zip vs) m x=some v
 | [],_,_,_,_,h,_,_=>by simp at h
 | _::_,[],_,_,_,_,h,_=>by simp at h
 | p::P,w::vs,0,m,nd,h1,h2,hk=>by
  simp at h1 h2;subst h1;subst h2;show bindL kindOf ((p,w)::P.zip vs) m p=_;unfold bindL;rw[tZ fun v hv=>(Yb.mp nd).1 (Qb5 hv).1,if_pos hk];simp
 | p::P,w::vs,i+1,m,nd,h1,h2,hk=>by
  show bindL kindOf ((p,w)::P.zip vs) m x=_;exact uE (Yb.mp nd).2 (by simpa using h1) (by simpa using h2) hk
def uR {kindOf:Str->Option Qcw}{x:Str}{v:Fk}:∀{P:List Str} {vs:List Fk} {i:Nat} {m:Str->Option Fk},P.Nodup->P[i]? = some x->vs[i]? = some v->kindOf x≠some .local ->
  bindC kindOf (P.zip vs) m x=some v
 | [],_,_,_,_,h,_,_=>by simp at h
 | _::_,[],_,_,_,_,h,_=>by simp at h
 | p::P,w::vs,0,m,nd,h1,h2,hk=>by
  simp at h1 h2;subst h1;subst h2;show bindC kindOf ((p,w)::P.zip vs) m p=_;unfold bindC;rw[uN fun v hv=>(Yb.mp nd).1 (Qb5 hv).1,if_neg hk];simp
 | p::P,w::vs,i+1,m,nd,h1,h2,hk=>by
  show bindC kindOf ((p,w)::P.zip vs) m x=_;exact uR (Yb.mp nd).2 (by simpa using h1) (by simpa using h2) hk
def start (N:List Str)(vs:List V):St:=vs.map some++Jt (N.length-vs.length) none
def lE (CX:G6)(P:Qaf)(w:Qag)(K:Ja)(mg:Str->Option Fk)(base:Heap)(N:List Str)(qual:Str)(scope:Qb1)(f:Gc)(cd:Fk)(A:Qax)(outer:List Env)(s:KE)(H:Hp)(E:XK):Cx where
 prog:=P
 w:=w
 K:=K
 mg:=mg
 base:=base
 A:=A.deeper (QbE qual scope s.heap.objs.size f cd)
 N:=N
 s₀:=s
 H₀:=H
 env:=QbE qual scope s.heap.objs.size f cd
 outer:=outer
 stack:=QbE qual scope s.heap.objs.size f cd::outer
 ex:=[]
 calm:=true
 fn:=fun _=>true
 pn:=[]
 xe:=fun e s'=>Qaa (Qab P w) (A.deeper (QbE qual scope s.heap.objs.size f cd)) (leaving (QbE qual scope s.heap.objs.size f cd) e) (fun _ s''=>CX outer H s E e s'') (fun e' s''=>CX outer H s E e' s'') s'
def yP {sc:Qb1}{n:Nat}{x:Str}(h:sc.names.lookup x=some .cell):∃c,(cellsFrom n sc.names []).lookup x=some c:=
 Option.isSome_iff_exists.mp (Qfd sc.names n [] (.inl h))
def Ew {P:Qaf}{w:Qag}{K:Ja}{mg:Str->Option Fk}{base:Heap}{N ps:List Str}{qual:Str}{scope:Qb1}{f:Gc}{cd:Fk}{A:Qax}{outer:List Env}{s s1:KE}{H:Hp}{E:XK}{us:List Fk}{vs:List V}
  (S:aD N ps scope) (hd:A.handled=none) (e0:EI P w K mg base A outer s H) (hl:vs.length=ps.length) (r:Vals vs us)
  (x:InCallC s s.heap.objs.size (bindL (QbE qual scope s.heap.objs.size f cd).kindOf (ps.zip us) fun _=>none) (cellsFrom (s.heap.objs.size+1) scope.names []) (bindC (QbE qual scope s.heap.objs.size f cd).kindOf (ps.zip us) fun _=>none) s1) :
  Inv (lE CX P w K mg base N qual scope f cd A outer s H E) [] (start N vs) H s1:=by
 have sj:ps.length<=N.length:=by have:=congrArg QdH S.pre;rw[Uc] at this;lia
 obtain⟨h1,tk,rfl,hk⟩:=x.done;have QK:∀b,b∉(lE CX P w K mg base N qual scope f cd A outer s H E).ex:=fun b z=>absurd (show b∈([]:List Gc) from z) (by simp);refine⟨⟨e0.mod,S.kind,rfl,rfl,Je _,fun y z c h1 h2 =>?_,fun y hy =>?_,fun y c _ h =>?_,fun _=>hd,Around.frames_deeper e0.frames,.inr ⟨rfl,rfl⟩,fun b z=>absurd z (QK b),e0.bs,e0.bsz,fun b _ _=>QK b,fun b z=>absurd z (QK b),e0.nV,e0.frf⟩,
  rfl,e0.bare,Un.kept hk,⟨_,x.toInCall.ns,fun i y v h1 h2 h3 =>?_⟩,fun y c h=>⟨_,x.cell y c h⟩,e0.bE.fresh (Je _),fun y c h =>?_,fun p hp=>absurd (show p∈([]:List (Gc×Obj)) from hp) (by simp),e0.bE.kept hk,?_⟩
 ·exact name_of_addr x.apart (Qbx h1) (Qbx h2)
 ·have hy:=hy
  rcases hy with hy|hy
  ·exact yP hy
  ·exact absurd rfl (S.nofree _ (Qbx hy))
 ·exact Yi (x.above y c (Qbx h))
 ·have hi:i<vs.length:=by
   unfold start at h2
   by_cases hi:i<vs.length
   ·exact hi
   ·rw[Uj (by simpa using hi)] at h2;rw[Yq] at h2
    split at h2<;>cases h2
  have ha:vs[i]? = some v:=by
   unfold start at h2;rw[Uo (by simpa using hi),Jj] at h2;cases e:vs[i]? with
   | none=>rw[e] at h2;cases h2
   | some a=>rw[e] at h2;cases h2;rfl
  obtain⟨u,hu,rv⟩:=r.get ha;have hp:ps[i]? = some y:=by
   rw[<-S.pre,Qfq ⋯];exact h1
  have ndP:ps.Nodup:=by rw[<-S.pre];exact S.nd.sublist (List.take_sublist _ _)
  refine⟨u,rv,?_⟩
  rcases S.par y (J2 hp) with k|k
  ·exact .inl ⟨k,uE ndP hp hu k⟩
  ·obtain⟨c,e⟩:=yP k;refine .inr ⟨.inl k,c,e,?_⟩;have q:=x.cell y c e;rw[uR ndP hp hu (by show scope.names.lookup y≠_;rw[k];decide)] at q;exact q
 ·exact e0.bE.fresh (Yi (x.above y c (Qbx h)))
 ·unfold start;show _=N.length;rw[Jp,Jc,Uh];lia
def MZ {K:Ja}{mg:Str->Option Fk}{base:Heap}{k:Nat}{f:Gc}{name qual:Str}{params:Arguments}{body:List QdM}{scope:Qb1}{dV kV doc pm cW ct oc:Fk}{an od:Option Gc}
  {Dn:Array (Option Fk)} {N ps:List Str} {sp:Sp} (lk:K.lookup f=some ⟨oc,od,.func (Yd name qual params body scope dV kV doc pm an cW ct),Dn⟩) (zA:Ym K cW qual=true) (S:aD N ps scope)
  (len:∀vs H Q E,sp vs H Q E->vs.length=ps.length)
  (xu:∀A outer s H vs Q E,dH k (A.deeper (QbE qual scope s.heap.objs.size f cW))->sp vs H Q E ->
   ∃t,Cv (lE CX P w K mg base N qual scope f cW A outer s H E) body t/\t { nx:=fun _ H'=>Q .non H',rt:=Q } (start N vs) H) :
  aW P w K mg base CX (k+1) f (Yd name qual params body scope dV kV doc pm an cW ct) ps sp:=by
 refine⟨len,fun A outer s H args us vs Q E hr e0 hb r Kg =>?_⟩;have KX:=e0.mod.Bc.keeps fun b o e=>(e0.bs b o e).1;have R7:∀y∈ps.zip us,scope.names.lookup y.1=some .local\/(scope.names.lookup y.1=some .cell/\((cellsFrom (s.heap.objs.size+1) scope.names []).lookup y.1).isSome=true):=fun⟨n,v⟩ hy=>by
  rcases S.par n (Qb5 hy).1 with q|q
  ·exact .inl q
  ·exact .inr ⟨q,Qfd _ _ _ (.inl q)⟩
 refine codeAny_call_function hr.depth (KX _ _ lk) rfl S.co S.gen rfl (PySem.W.codeRec_of KX zA) (hb _ _ _ _ (wpAny_newFunctionEnv_cells S.kind R7 fun env he s1 x =>?_));subst he;refine⟨(e0.mod.nolimit.keeps fun b o e=>(e0.bs b o e).1).keeps x.toInCall.keep,codeAny_func ?_⟩;obtain⟨t,ht,hq⟩:=xu A outer s H vs Q E (hr.deeper _) Kg;refine Qbr (ht s1 (start N vs) H _ (Ew S hr.hd e0 (len _ _ _ _ Kg) r x) hq) (fun fl s' hs =>?_) fun e s' hs=>hs;have fin:∀{σ':St} {H':Hp} {v:V} {u:Fk},Inv (lE CX P w K mg base N qual scope f cW A outer s H E) [] σ' H' s'->RelV v u->Q v H'->CE outer P w H s Q u s':=
  fun{σ' H' v u} J rv q=>⟨v,H',J.os,J.bare,J.base,J.bE,rv,q⟩
 cases fl with
 | ret u=>
  obtain⟨v,σ',H',J,rv,q⟩:=hs;exact fin J rv q
 | next=>
  obtain⟨σ',H',J,q⟩:=hs;exact fin (v:=V.non) J rfl q
 | brk=>
  obtain⟨_,_,_,q⟩:=hs;exact Qbm q
 | cont=>
  obtain⟨_,_,_,q⟩:=hs;exact Qbm q
section
variable {X:Cx}{x:Str}{p pos:Pos}{e:QaE}{es:List QaE}{t:TA}{id T:String}{r:List V->Hp->VK->Prop}
def TQ (r:List V->Hp->VK->Prop)(t:TA):TE:=fun σ H Q=>t σ H fun vs H1=>r vs H1 Q
def av (hc:bK X (.builtin id) r)(hg:Gl X x)(hm:X.mg x=none)(hv:QaT x=some (.builtin id))(ha:PA X (e::es) t)(hn:x ≠ "__name__":=by decide)(vW:(x==("__debug__" : Str))=false:=by decide)
  (he:Qaj (e::es) X.env=(false,QaR e X.env)::Qaj es X.env:=by rfl) (sj:(Qcu pos (Qaj es X.env)).any (·.1)=false:=by rfl):PE X (.Call (.Name x p) (e::es) [] pos) (TQ r t):=
 fun pins s σ H Q I h=>QaS (eY I hg hm hv (PyProof.Rows.callWith_builtin1 (bh (ha s σ H _ I h) fun us s1 hz_=>ai.el hz_ _ fun vs H1 I1 r1 q1=>hc s1 σ H1 vs us Q I1 r1 q1) he sj) hn vW)
def bj (hc:bK X (.type T) r)(hg:Gl X x)(hm:X.mg x=none)(hv:QaT x=some (.type T))(ha:PA X (e::es) t)(hn:x ≠ "__name__":=by decide)(vW:(x==("__debug__" : Str))=false:=by decide)
  (he:Qaj (e::es) X.env=(false,QaR e X.env)::Qaj es X.env:=by rfl) (sj:(Qcu pos (Qaj es X.env)).any (·.1)=false:=by rfl):PE X (.Call (.Name x p) (e::es) [] pos) (TQ r t):=
 fun pins s σ H Q I h=>QaS (eY I hg hm hv (Qan (bh (ha s σ H _ I h) fun us s1 hz_=>ai.el hz_ _ fun vs H1 I1 r1 q1=>hc s1 σ H1 vs us Q I1 r1 q1) he sj) hn vW)
end
section
variable {κ:Type}[DecidableEq κ]
def gI (kvs:List (κ×V))(k: κ):Option V:=(kvs.find? fun kv=>decide (kv.1=k)).map (·.2)
def putK (kvs:List (κ×V))(k: κ)(v:V):List (κ×V):=
 if (kvs.any fun kv=>decide (kv.1=k))=true then kvs.map (fun kv=>if kv.1=k then (kv.1,v) else kv) else kvs++[(k,v)]
def eB {k: κ}(e:p.1=k):gI (p::r) k=some p.2:=by simp[gI,e]
def dP {k: κ}(e:¬p.1=k):gI (p::r) k=gI r k:=by simp[gI,e]
def m6 (k: κ):∀kvs,(kvs.any fun kv=>decide (kv.1=k))=(gI kvs k).isSome
 | []=>rfl
 | p::r=>by
  rw[Y7]
  by_cases e:p.1=k
  ·simp only[eB e,decide_eq_true e,Bool.true_or,Qf6]
  ·rw[dP e,decide_eq_false e,Bool.false_or];exact m6 k r
def uf (k j: κ)(y:V):∀kvs,gI kvs k=none->gI (kvs++[(k,y)]) j=if j=k then some y else gI kvs j
 | [],_=>by
  by_cases e:k=j
  ·rw[if_pos e.symm];exact eB e
  ·rw[if_neg (fun z=>e z.symm)];exact dP e
 | p::r,hn=>by
  rw[Qcp];have hk:¬p.1=k:=fun z=>by rw[eB z] at hn;cases hn
  rw[dP hk] at hn
  by_cases e:p.1=j
  ·rw[eB e,eB e,if_neg (fun z=>hk (e.trans z))]
  ·rw[dP e,dP e,(uf k j y r hn)]
def gY (kvs:List (κ×V))(k: κ)(v:V):(putK kvs k v).length<=kvs.length+1:=by
 unfold putK
 split
 ·rw[Jc];lia
 ·rw[Jp,Jq,U8];lia
def xN {k: κ}(v:V)(h:gI kvs k=none):putK kvs k v=kvs++[(k,v)]:=by
 unfold putK;rw[m6,h];exact if_neg ∅
def jZ.om (r:jZ o u):o.isSome=u.isSome:=by
 cases o with
 | none=>cases u with
  | none=>rfl
  | some _=>exact(show False from r).elim
 | some _=>cases u with
  | none=>exact(show False from r).elim
  | some _=>rfl
def KV.val (r:KV kvs vs)(k: κ):jZ (gI kvs k) (Qfw vs k):=by
 induction r with
 | nil=>exact QaO
 | @cons p q ps qs h t ih=>
  obtain⟨h1,h2⟩:=h
  by_cases e:p.1=k
  ·have e':=h1.symm.trans e;have b:Qfw (q::qs) k=some q.2:=by simp[Qfw,e']
   rw[eB e,b];exact h2
  ·have e':¬q.1=k:=fun z=>e (h1.trans z);have b:Qfw (q::qs) k=Qfw qs k:=by simp[Qfw,e']
   rw[dP e,b];exact ih
def KV.any (r:KV kvs vs)(k: κ):(kvs.any fun kv=>decide (kv.1=k))=vs.any fun kv=>decide (kv.1=k):=by
 induction r with
 | nil=>rfl
 | cons h t ih=>rw[Y7,Y7,ih,h.1]
def KV.PK (r:KV kvs vs)(k: κ){y:V}{u:Fk}(ry:RelV y u):
  KV (kvs.map fun kv=>if kv.1=k then (kv.1,y) else kv) (vs.map fun kv=>if kv.1=k then (kv.1,u) else kv):=by
 induction r with
 | nil=>exact .nil
 | @cons p q ps qs h t ih=>
  rw[J0,J0];refine .cons ?_ ih;obtain⟨h1,h2⟩:=h
  by_cases e:p.1=k
  ·rw[if_pos e,if_pos (h1.symm.trans e)];exact⟨h1,ry⟩
  ·rw[if_neg e,if_neg (fun z=>e (h1.trans z))];exact⟨h1,h2⟩
def KV.put (r:KV kvs vs)(k: κ){y:V}{u:Fk}(ry:RelV y u):KV (putK kvs k y) (Qex vs k u):=by
 unfold putK Qex;rw[r.any k]
 by_cases e:(vs.any fun kv=>decide (kv.1=k))=true
 ·rw[if_pos e,if_pos e];exact r.PK k ry
 ·rw[if_neg e,if_neg e];exact Paired.snoc r ⟨rfl,ry⟩
def KV.length {vs:List (κ×Fk)}(r:KV kvs vs):kvs.length=vs.length:=Qe2 r
end
def o9 {k:Key}{u:Fk}(r:RelV (kV k) u):(bH P w).is k u=true:=by
 cases k with
 | inl i=>obtain⟨t,e⟩:=(show ∃t,u=QdE i t from r);subst e;exact zd P w i t
 | inr x=>obtain⟨t,e⟩:=(show ∃t,u=QcI x t from r);subst e;exact yJ P w x t
def um:∀{ks:List Key} {us:List Fk},Vals (ks.map kV) us->ItemsAre (bH P w) ks us
 | [],_,r=>by rw[Qcg] at r;cases r;exact .nil
 | k::ks,_,r=>by
  cases r with
  | cons h t=>exact .cons (o9 h) (um t)
abbrev KT (H:Hp):List (List Key×V)->List (List Key×Gc×Fk)->Prop:=QfT fun p q=>p.1=q.1/\H q.2.1=some (.tup (p.1.map kV))/\RelV p.2 q.2.2
def KT.val (r:KT H kvs xs)(k:List Key):jZ (gI kvs k) ((atKey xs k).map (·.2)):=by
 induction r with
 | nil=>exact QaO
 | @cons p q ps qs h t ih=>
  obtain⟨h1,_,h2⟩:=h
  by_cases e:p.1=k
  ·have e':=h1.symm.trans e;have b:atKey (q::qs) k=some q.2:=by simp[atKey,e']
   rw[eB e,b];exact h2
  ·have e':¬q.1=k:=fun z=>e (h1.trans z);have b:atKey (q::qs) k=atKey qs k:=by simp[atKey,e']
   rw[dP e,b];exact ih
def KT.PK (r:KT H kvs xs)(k:List Key){y:V}{u:Fk}(ry:RelV y u):
  KT H (kvs.map fun kv=>if kv.1=k then (kv.1,y) else kv) (xs.map (putAt k u)):=by
 induction r with
 | nil=>exact .nil
 | @cons p q ps qs h t ih=>
  rw[J0,J0];refine .cons ?_ ih;obtain⟨h1,h2,h3⟩:=h;unfold putAt
  by_cases e:p.1=k
  ·rw[if_pos e,if_pos (h1.symm.trans e)];exact⟨h1,h2,ry⟩
  ·rw[if_neg e,if_neg (fun z=>e (h1.trans z))];exact⟨h1,h2,h3⟩
def KT.put (r:KT H kvs xs)(k:List Key){b:Gc}{y:V}{u:Fk}(hb:H b=some (.tup (k.map kV)))(ry:RelV y u):
  KT H (putK kvs k y) (storedH xs k b u):=by
 have e:(kvs.any fun kv=>decide (kv.1=k))=(atKey xs k).isSome:=by
  rw[m6,(r.val k).om,Option.isSome_map]
 unfold putK storedH;rw[e]
 by_cases q:(atKey xs k).isSome=true
 ·rw[if_pos q,if_pos q];exact r.PK k ry
 ·rw[if_neg q,if_neg q];exact Paired.snoc r ⟨rfl,hb,ry⟩
def KT.keeps {kvs:List (List Key×V)}{xs:List (List Key×Gc×Fk)}(r:KT H kvs xs)(ht:∀b ys,H b=some (.tup ys)->H' b=some (.tup ys)):KT H' kvs xs:=
 Paired.S9 r fun _ _ z=>⟨z.1,ht _ _ z.2.1,z.2.2⟩
section
variable {P:Qaf}{w:Qag}{H:Hp}{h:Heap}{a:Gc}
def M4 (ok:jq P w H h)(e:Rd H a u):bC P w H h a u:=e.ok ok
def Cc (ok:jq P w H h)(e:Rd H a (.dK kvs)):kvs.length<=M2/\(a==QbM)=false/\∃vs,KV kvs vs/\h.DictOf (bH P w) a vs:=
 show bC P w H h a (.dK kvs) from M4 ok e
def CG (ok:jq P w H h)(e:H a=some (.dK kvs)):kvs.length<=M2/\(a==QbM)=false/\∃vs,KV kvs vs/\h.DictOf (bH P w) a vs:=Cc ok (.inl e)
def vE (ok:jq P w H h)(e:H a=some (.tup (ks.map kV))):(Qe8 (bH P w)).is h ks a:=by
 obtain⟨_,aA,r,o,h1,_,h2,n,h3⟩:=(show bC P w H h a (.tup (ks.map kV)) from ok a _ e)
 exact⟨o,aA.toArray,n,h1,h2,h3,by simpa using um r⟩
def Ct (ok:jq P w H h)(e:Rd H a (.dT kvs)):kvs.length<=M2/\(a==QbM)=false /\
  ∃xs,KT H kvs xs/\h.DictOfH (Qe8 (bH P w)) a xs:=by
 obtain⟨z,y,xs,r,o,es,ep,h1,h2,h3,h4,h5⟩:=(show bC P w H h a (.dT kvs) from M4 ok e)
 refine⟨z,y,xs,r,o,es,ep,h1,h2,h3,h4,fun x hx =>?_,h5⟩;have all:∀{l:List (List Key×V)} {m:List (List Key×Gc×Fk)},KT H l m->∀x∈m,(Qe8 (bH P w)).is h x.1 x.2.1:=by
  intro l m q
  induction q with
  | nil=>intro x hx;exact nomatch hx
  | @cons p q ps qs hq t ih=>
   intro x hx
   rcases Jw.mp hx with e|hx
   ·subst e;exact vE ok (by rw[<-hq.1];exact hq.2.1)
   ·exact ih x hx
 exact all r x hx
def Rv (ok:jq P w H h)(e:H a=some (.dT kvs)):kvs.length<=M2/\(a==QbM)=false /\
  ∃xs,KT H kvs xs/\h.DictOfH (Qe8 (bH P w)) a xs:=Ct ok (.inl e)
end
def d7 (H:Hp)(a:Gc)(y:V)(r:Option V):Prop:=
 (eM fun kvs k=>Rd H a (.dK kvs)/\y=kV k/\r=gI kvs k)\/sF fun kvs k b=>Rd H a (.dT kvs)/\y = .ref b/\H b=some (.tup (k.map kV))/\r=gI kvs k
def tH (H:Hp)(a:Gc)(y v:V)(H':Hp):Prop:=
 (eM fun kvs k=>H a=some (.dK kvs)/\y=kV k/\kvs.length<M2/\H'=upd H a (.dK (putK kvs k v))) \/
 sF fun kvs k b=>H a=some (.dT kvs)/\y = .ref b/\H b=some (.tup (k.map kV))/\kvs.length<M2/\H'=upd H a (.dT (putK kvs k v))
def d7.k {k:Key}(e:H a=some (.dK kvs)):d7 H a (kV k) (gI kvs k) := .inl ⟨kvs,k,.inl e,rfl,rfl⟩
def tH.k {k:Key}{v:V}(e:H a=some (.dK kvs))(hl:kvs.length<M2):tH H a (kV k) v (upd H a (.dK (putK kvs k v))) := .inl ⟨kvs,k,e,rfl,hl,rfl⟩
section
variable {X:Cx}{pins:List (Gc×Obj)}{σ:St}{H:Hp}{s:KE}{a:Gc}{y v:V}{u r:Fk}{o:Option V}{A:Qax}{E:Fk->KE->Prop}
def Inv.big (I:Inv X pins σ H s):QbM<s.heap.objs.size:=
 U7 ∅ ((I.mod.glob.keeps I.bk).lt)
def Fh (hu:A.units+1<Qdh)(I:Inv X pins σ H s)(g:d7 H a y (some v))(ry:RelV y u)(h:∀w' s',Inv X pins σ H s'->RelV v w'->Q w' s'):
  Qaa (Qab X.prog X.w) A (Qec (.ref a) u) Q E s:=by
 rcases g with ⟨kvs,k,e,ey,l⟩|⟨kvs,k,b,e,ey,eb,l⟩
 ·subst ey;obtain⟨z,hd,vs,rel,dd⟩:=Cc I.bE e;obtain⟨w',hw,rw'⟩:=jZ.wW (by rw[l];exact rel.val k);exact wpAny_getItem_of (o9 ry) dd.mapOf hw (h w' _ (I.tok _) rw')
 ·subst ey;cases (show u=Qap b from ry);obtain⟨z,hd,xs,rel,dd⟩:=Ct I.bE e;obtain⟨w',hw,rw'⟩:=jZ.wW (by rw[l];exact rel.val k);obtain⟨p,hp,zu⟩:=Option.map_eq_some_iff.mp hw;refine wpAny_getItem_heap (Qew hu) (vE I.bE eb) dd hp ?_;rw[zu];exact h w' _ (I.tok _) rw'
def XM (hu:A.units+1<Qdh)(I:Inv X pins σ H s)(g:d7 H a y o)(ry:RelV y u)(h:∀s',Inv X pins σ H s'->Q (.bool o.isSome) s'):
  Qaa (Qab X.prog X.w) A (QaC .In u (.ref a)) Q E s:=by
 rcases g with ⟨kvs,k,e,ey,l⟩|⟨kvs,k,b,e,ey,eb,l⟩
 ·subst ey;obtain⟨z,hd,vs,rel,dd⟩:=Cc I.bE e;refine wpAny_in_of (o9 ry) hd dd.mapOf ?_;rw[<-(rel.val k).om,<-l];exact h _ (I.tok _)
 ·subst ey;cases (show u=Qap b from ry);obtain⟨z,hd,xs,rel,dd⟩:=Ct I.bE e;refine wpAny_in_heap (Qew hu) (vE I.bE eb) hd dd ?_;have q:=(rel.val k).om;rw[Option.isSome_map] at q;rw[<-q,<-l];exact h _ (I.tok _)
def mz {ob:HO}(I:Inv X pins σ H s)(mu:QZ (H a))(hs:U6 a s.heap h')(he:∃q,h'.get? a=some q)(new:bC X.prog X.w (upd H a ob) h' a ob):
  Inv X pins σ (upd H a ob) { s with heap:=h',toks:=t' }:=
 I.write mu (.inl rfl) (fun b q hb z=>(hs.2 b hb).trans z) he new
def BA {kvs:List (Key×V)}{vs:List (Key×Fk)}(z:kvs.length<=M2)(hd:(a==QbM)=false)(rel:KV kvs vs)(dd:h'.DictOf (bH P w) a vs):
  bC P w H' h' a (.dK kvs):=⟨z,hd,vs,rel,dd⟩
def Dc (hu:A.units+1<Qdh)(I:Inv X pins σ H s)(g:tH H a y v H')(ry:RelV y u)(rv:RelV v r)(h:∀s',Inv X pins σ H' s'->Q () s'):
  Qaa (Qab X.prog X.w) A (setItem (.ref a) u r) Q E s:=by
 rcases g with ⟨kvs,k,e,ey,l,eH⟩|⟨kvs,k,b,e,ey,eb,l,eH⟩
 ·subst ey eH;obtain⟨z,hd,vs,rel,dd⟩:=CG I.bE e;have hz:vs.length<=M2:=by rw[<-rel.length];exact z
  have hl:(putK kvs k v).length<=M2:=by have:=gY kvs k v;lia
  exact wpAny_setItem_pairs (o9 ry) dd fun h' dd' hs=>h _ (mz I (by rw[e];exact QaO) hs (let ⟨q,_,_,hq,_⟩:=dd'; ⟨q,hq⟩) (BA hl hd (rel.put k rv) dd'))
 ·subst ey eH;cases (show u=Qap b from ry);obtain⟨z,hd,xs,rel,dd⟩:=Rv I.bE e;have hz:xs.length<=M2:=by rw[<-Qe2 rel];exact z
  have hl:(putK kvs k v).length<=M2:=by have:=gY kvs k v;lia
  refine wpAny_setItem_heap (Qew hu) (vE I.bE eb) dd fun h' dd' hs=>h _ ?_;obtain⟨q,es,ep,hq,h2,h3,h4,_,h5⟩:=dd';refine mz I (by rw[e];exact QaO) hs ⟨q,hq⟩ ⟨hl,hd,_,(rel.put k eb rv).keeps fun c ys ec =>?_,q,es,ep,hq,h2,h3,h4,h5⟩;rw[ao (rE ec e (nofun))];exact ec
end
def PN (i:QaE):Prop:=∀ov iv,Qfl i false ov iv=operate [ov,iv] (Qec ov iv)
def Cy {env:Env}{value slice:QaE}{pos:Pos}{T id:String}{Q:Fk->KE->Prop}
  (hl:Qbs (.type T) "__getitem__" = pure (some (.builtin id))) (hs:PN slice)
  (h:Qaa (Qab prog w) A (QaR value env) (fun o s₁=>Qaa (Qab prog w) A (QaR slice env) (fun i s₂=>s₂.TypeIs o T/\Qaa (Qab prog w) A (Qec o i) Q E s₂) E s₁) E s) :
  Qaa (Qab prog w) A (QaR (.Subscript value slice pos) env) Q E s:=by
 refine QfQ (Qbr h (fun o s₁ h₁=>Qbr h₁ (fun i s₂ h₂ =>?_) fun _ _ x=>x) fun _ _ x=>x);obtain⟨hT,h₂⟩:=h₂;refine be (be (QcR hT hl ?_));have fin:Qaa (Qab prog w) A (Qfl slice false o i) (fun r s₃=>Qaa (Qab prog w) A (letTemporaryGo value o r >>= fun _=>pure r) Q E s₃) E s₂:=by
  rw[hs o i];exact wpAny_operating (Qbr h₂ (fun r s₃ h₃=>be (wpAny_letTemporaryGo (tz h₃))) fun _ _ x=>x)
 first
  | exact tz (be fin)
  | exact be (tz (be fin))
  | exact be fin
def yG {σ:St}{H:Hp}{s:KE}{a:Gc}{y:V}{o:Option V}(I:Inv X pins σ H s)(g:d7 H a y o):s.TypeIs (.ref a) "dict":=by
 rcases g with ⟨kvs,k,e,_,_⟩|⟨kvs,k,b,e,_,_,_⟩
 ·obtain⟨_,_,vs,_,dd⟩:=Cc I.bE e;exact dd.typeIs
 ·obtain⟨_,_,xs,_,dd⟩:=Ct I.bE e;exact dd.typeIs
def SJ (td ty:TE):TE:=fun σ H Q=>td σ H fun x H1=>ty σ H1 fun y H2=>eM fun a v=>x = .ref a/\d7 H2 a y (some v)/\Q v H2
def VA (ty td:TE):TE:=fun σ H Q=>ty σ H fun y H1=>td σ H1 fun x H2=>eM fun a o=>x = .ref a/\d7 H2 a y o/\Q (.bl o.isSome) H2
def Tt (td ty tv:TE):TS:=fun D σ H=>tv σ H fun v H1=>td σ H1 fun x H2=>ty σ H2 fun y H3=>eM fun a H4=>x = .ref a/\tH H3 a y v H4/\D.nx σ H4
section
variable {X:Cx}{o i e value:QaE}{pos pos' Xq:Pos}{td ty tv:TE}
def bU (hu:X.A.units+1<Qdh)(ho:PE X o td)(hi:PE X i ty)(hs:PN i):PE X (.Subscript o i pos) (SJ td ty):=by
 refine fun pins s σ H Q I h=>Cy PySem.F.slot_dict_getitem.lookup hs (bh (ho s σ H _ I h) fun u s1 hz_=>ai.el hz_ _ fun x H1 I1 rx q1=>bh (hi s1 σ H1 _ I1 q1) fun iv s2 hz_=>ai.el hz_ _ ?_);rintro y H2 I2 ry ⟨a,v,ex,g,q2⟩;subst ex;obtain rfl:u=Qap a:=rx;exact⟨yG I2 g,Fh hu I2 g ry fun w' s3 I3 rw'=>⟨v,H2,I3,rw',q2⟩⟩
def Ph (hu:X.A.units+1<Qdh)(hi:PE X i ty)(ho:PE X o td):PC X .In i o (VA ty td):=by
 refine fun pins s σ H Q I h=>bh (hi s σ H _ I h) fun iv s1 hz_=>ai.el hz_ _ fun y H1 I1 ry q1=>bh (ho s1 σ H1 _ I1 q1) fun u s2 hz_=>ai.el hz_ _ ?_;rintro x H2 I2 rx ⟨a,ov,ex,g,q2⟩;subst ex;obtain rfl:u=Qap a:=rx;exact XM hu I2 g ry fun s3 I3=>⟨.bl ov.isSome,H2,I3,rfl,q2⟩
def vZ (hu:X.A.units+1<Qdh)(ho:PE X o td)(hi:PE X i ty)(hv:PE X value tv)(hs:Qeb value (some (.Subscript o i pos')) pos.line X.env=pure false):
  PS X (.Assign [.Subscript o i pos'] value pos) (Tt td ty tv):=by
 refine fun pins s σ H D I h=>wpAny_Assign_Subscript (bh (hv s σ H _ I h) fun r s1 ⟨v,H1,I1,rv,q1⟩=>bh (ho s1 σ H1 _ I1 q1) fun u s2 ⟨x,H2,I2,rx,q2⟩=>bh (hi s2 σ H2 _ I2 q2) fun iv s3 ⟨y,H3,I3,ry,a,H4,ex,g,q3⟩=>?_) hs;subst ex;obtain rfl:u=Qap a:=rx;exact Dc hu I3 g ry rv fun s4 I4=>⟨σ,H4,I4,q3⟩
end
def yd (h:Heap)(hb:QbM<h.objs.size):bC P w H (h.push { cls := .type "dict",data := .dict #[] }) h.objs.size (.dK []):=
 ⟨Um _,beq_eq_false_iff_ne.mpr (QaB (Jo hb)),[],.nil,QcZ h⟩
def qh:List (TE×TE)->St->Hp->(List (V×V)->Hp->Prop)->Prop
 | [],_,H,Q=>Q [] H
 | (tk,tv)::r,σ,H,Q=>tk σ H fun x H1=>tv σ H1 fun y H2=>qh r σ H2 fun ps H3=>Q ((x,y)::ps) H3
abbrev VV:List (V×V)->List (Fk×Fk)->Prop:=QfT fun p q=>RelV p.1 q.1/\RelV p.2 q.2
def SM (X:Cx)(pos:Pos)(keys:List (Option QaE))(values:List QaE)(Bf:List (TE×TE)):Prop:=
 ∀ ⦃pins:List (Gc×Obj)⦄ (s:KE) (σ:St) (H:Hp) (Q:List (V×V)->Hp->Prop),Inv X pins σ H s->qh Bf σ H Q ->
  Qaa (Qab X.prog X.w) X.A (evalPairs (pairTrees keys values X.env pos)) (fun vs s'=>eM fun ps H'=>Inv X pins σ H' s'/\VV ps vs/\Q ps H') X.xe s
def Ly:SM X pos [] [] []:=fun pins s σ H Q I h=>pairTrees_nil_walk ⟨[],H,I,.nil,h⟩
def yn {k v:QaE}{ks:List (Option QaE)}{vs:List QaE}{tk tv:TE}{Bf:List (TE×TE)}(hk:PE X k tk)(hv:PE X v tv)(hr:SM X pos ks vs Bf):
  SM X pos (some k::ks) (v::vs) ((tk,tv)::Bf):=fun pins s σ H Q I h=>
 pairTrees_cons_walk (bh (hk s σ H _ I h) fun u s1 hz_=>ai.el hz_ _ fun x H1 I1 rx q1=>bh (hv s1 σ H1 _ I1 q1) fun w2 s2 ⟨y,H2,I2,ry,q2⟩=>
  bh (hr s2 σ H2 _ I2 q2) fun ws s3 hz_=>ai.el hz_ _ fun ps H3 I3 rel q3=>⟨(x,y)::ps,H3,I3,.cons ⟨rx,ry⟩ rel,q3⟩)
def cY (kvs more:List (Key×V)):List (Key×V):=more.foldl (fun acc kv=>putK acc kv.1 kv.2) kvs
def KV.merge:∀{more:List (Key×V)} {rs:List (Key×Fk)} {kvs:List (Key×V)} {vs:List (Key×Fk)},KV more rs->KV kvs vs->KV (cY kvs more) (Qc4 vs rs):=by
 intro more rs kvs vs r
 induction r generalizing kvs vs with
 | nil=>intro q;exact q
 | @cons p q ps qs h t ih=>
  intro r0;have e:KV (putK kvs p.1 p.2) (Qex vs q.1 q.2):=by
   have:=r0.put p.1 h.2;rw[<-h.1];exact this
  exact ih e
def dR:∀more kvs,(cY kvs more).length<=kvs.length+more.length
 | [],kvs=>by show kvs.length<=kvs.length+0;lia
 | p::r,kvs=>by
  have h1:=dR r (putK kvs p.1 p.2);have h2:=gY kvs p.1 p.2;show(cY (putK kvs p.1 p.2) r).length<=_;rw[Jq];lia
def sA:∀{kvs:List (Key×V)} {ws:List (Fk×Fk)},VV (kvs.map fun kv=>(kV kv.1,kv.2)) ws->∃rs,Carries (bH P w) ws rs/\KV kvs rs
 | [],_,r=>by rw[Qcg] at r;cases r;exact⟨[],QaO,.nil⟩
 | p::kvs,_,r=>by
  cases r with
  | @cons a b as bs h t=>
   obtain⟨rs,c,q⟩:=sA t;obtain⟨b1,b2⟩:=b;exact⟨(p.1,b2)::rs,⟨o9 h.1,rfl,c⟩,.cons ⟨rfl,h.2⟩ q⟩
def Gr (Bf:List (TE×TE)):TE:=fun σ H Q=>∀p,H p=none->qh Bf σ (upd H p (.dK [])) fun ps H2=>H2 p=some (.dK [])/\∃kvs,ps=kvs.map (fun kv=>(kV kv.1,kv.2))/\kvs.length<=15/\Q (.ref p) (upd H2 p (.dK (cY [] kvs)))
def Kk (h:SM X pos keys values Bf)(jR:keys.all (·.isSome)=true)(hl:keys.length=values.length)(h0:keys≠[])
  (NA:keys.length<=15):PE X (.Dict keys values pos) (Gr Bf):=by
 refine fun pins s σ H Q I q=>wpAny_Dict_walk (knd:=bH X.prog X.w) jR hl h0 NA (bh (h _ σ _ _ (I.laid (t':=s.toks) (fun _ _ q=>Jb _ q) (Je _) (yd s.heap I.big)) (q _ (I.bE.fresh (Je s.heap.objs.size)))) fun ws s2 hz_=>ai.el hz_ _ fun ps H2 I2 rel e kvs ep lk q2 =>?_);subst ep;obtain⟨rs,c,rk⟩:=sA rel;obtain⟨z,hd,vs0,r0,dd⟩:=CG I2.bE e;cases r0;refine⟨rs,c,dd,fun h' dd' hs=>⟨.ref s.heap.objs.size,_,?_,rfl,q2⟩⟩;have hz:(cY [] kvs).length<=M2:=by
  have h1:=dR kvs [];rw[U8] at h1;rw[Qdg];lia
 exact mz I2 (by rw[e];exact QaO) hs (let ⟨q,_,_,hq,_⟩:=dd'; ⟨q,hq⟩) (BA hz hd (rk.merge .nil) dd')
end L2
namespace HT
open PySem PyProof.Rows
section
variable {prog:Qaf}{w:Qag}{A:Qax}{E:Fk->KE->Prop}{s:KE}
def eg (n d:Nat):Option Int->Nat
 | none=>d
 | some v=>if v<0 then (v+(n:Int)).toNat else min v.toNat n
def xY (n d:Nat):eg n d none=d:=rfl
def kq (n d k:Nat):eg n d (some (k:Int))=min k n:=rfl
def CT (v:Int)(n d:Nat):(if v<0 then max (v+(n:Int)) 0 else min v (n:Int))=((eg n d (some v):Nat):Int):=by
 show(if v<0 then max (v+(n:Int)) 0 else min v (n:Int))=(((if v<0 then (v+(n:Int)).toNat else min v.toNat n):Nat):Int)
 by_cases hv:v<0
 ·simp only[if_pos hv];lia
 ·simp only[if_neg hv];lia
def Bz (lo hi:Option Int)(n:Nat):Qd5 lo hi 1 (n:Int)=(((eg n 0 lo:Nat):Int),((eg n n hi:Nat):Int)):=by
 refine Qcx ?_ ?_
 ·cases lo with
  | none=>rfl
  | some v=>exact CT v n 0
 ·cases hi with
  | none=>rfl
  | some v=>exact CT v n n
def zP (i j:Nat):QbH (i:Int) (j:Int) 1=j-i:=by
 unfold QbH
 split<;>lia
def sC (p:Qfg v o)(h:Q o s):Qaa (Qab prog w) A (Builtin.Slice.slicePartIndex v) Q E s:=by
 cases p with
 | none=>exact slicePart_none h
 | int i t=>exact slicePart_int h
def nL {lo hi:Option Int}{n:Nat}{Q:Int×Int×Nat->KE->Prop}(hs:s.heap.IsSliceOf sl vl vu .none)(pl:Qfg vl lo)(pu:Qfg vu hi)
  (h:Q (((eg n 0 lo:Nat):Int),1,eg n n hi-eg n 0 lo) s):Qaa (Qab prog w) A (Builtin.Slice.sliceApplied (.ref sl) (pure (n:Int))) Q E s:=by
 obtain⟨os,hos,FL,hds⟩:=id hs;refine be (be (Qai hos hds rfl (be (Qai hos hds rfl (be (Qai hos hds rfl (tz (be (slicePart_none (be (sC pl (be (sC pu (be (tz ?_)))))))))))))));show Qaa _ _ (match Qd5 lo hi 1 (n:Int) with|(lo,hi)=>pure (lo,(1:Int),QbH lo hi 1)) _ _ s;rw[Bz lo hi n];show Qaa _ _ (pure (((eg n 0 lo:Nat):Int),(1:Int),QbH ((eg n 0 lo:Nat):Int) ((eg n n hi:Nat):Int) 1)) _ _ s;rw[zP];exact tz h
def GR (xs:Array Fk)(i k:Nat):((Uy k).filterMap fun(m:Nat)=>xs[((i:Int)+(m:Int)*1).toNat]?).toArray=((xs.toList.drop i).take k).toArray:=by
 have e:(fun(m:Nat)=>xs[((i:Int)+(m:Int)*1).toNat]?)=fun m=>xs[i+m]?:=by
  funext m
  have:((i:Int)+(m:Int)*1).toNat=i+m:=by lia
  rw[this]
 rw[e];have:=pick_run xs i k;rw[List.filterMap_map] at this;have e2:((fun x=>xs[x]?)∘fun x=>i+x)=fun m=>xs[i+m]?:=rfl;rw[e2] at this;rw[this]
def mO {items:Array Fk}{vl vu:Fk}{lo hi:Option Int}{Q:Fk->KE->Prop}(ht:IsTup s.heap t items)(hs:s.heap.IsSliceOf sl vl vu .none)(pl:Qfg vl lo)(pu:Qfg vu hi)
  (hw:¬(eg items.size 0 lo=0/\eg items.size items.size hi=items.size))
  (h:Q (.ref s.heap.objs.size) { s with heap:=s.heap.push { cls := .type "tuple",data := .seq ((items.toList.drop (eg items.size 0 lo)).take (eg items.size items.size hi-eg items.size 0 lo)).toArray } })
  (hsz:items.size<=M2):Qaa (Qab prog w) A (Qec (.ref t) (.ref sl)) Q E s:=by
 have BN:sizeOk (.seq ((items.toList.drop (eg items.size 0 lo)).take (eg items.size items.size hi-eg items.size 0 lo)).toArray):=by
  show((items.toList.drop (eg items.size 0 lo)).take (eg items.size items.size hi-eg items.size 0 lo)).toArray.size<=M2;rw[Jy,Uc,Uv,Ub];lia
 obtain⟨os,hos,FL,hds⟩:=id hs;unfold Qec
 try with_reducible refine Qak ?_
 first|refine be (tz ?_)|skip
 refine be (wpAny_sequenceKey ht.typeIs rfl (be (Qal ht.typeIs QdA
  (Qar QdA ht.typeIs entry_tuple_getitem ?_ (args_tuple_getitem _ _)))))
 show Qaa _ _ (Builtin.Tuple.tupleItemsOf (.ref t) >>= _) _ _ s;refine be (tupleItemsOf_ ht (be (QaX ⟨os,hos,FL⟩ (be (nL hs pl pu ?_)))));have MS:¬((((eg items.size 0 lo:Nat):Int)==0&&(1:Int)==1&&(eg items.size items.size hi-eg items.size 0 lo)==items.size)=true):=by
  intro q;rw[Jv,Jv] at q;have q1:=eq_of_beq q.1.1;have q2:=eq_of_beq q.2;exact hw ⟨⋯,⋯⟩
 show Qaa _ _ (if (((eg items.size 0 lo:Nat):Int)==0&&(1:Int)==1&&(eg items.size items.size hi-eg items.size 0 lo)==items.size)=true then _ else _) _ _ s;rw[if_neg MS,GR]
 first
  | exact be (QaM (tz ⟨_,rfl,tz h⟩) BN)
  | exact be (QaM (be (tz (tz ⟨_,rfl,tz h⟩))) BN)
  | exact be (be (QaM (tz (tz ⟨_,rfl,tz h⟩)) BN))
  | exact be (be (QaM (tz ⟨_,rfl,tz h⟩) BN))
end
end HT
namespace L2
open PySem PySem.Spec PyProof.Rows
abbrev TO:=St->Hp->(Option Int->Hp->Prop)->Prop
def PO (X:Cx)(e:Option QaE)(t:TO):Prop:=
 ∀ ⦃pins:List (Gc×Obj)⦄ (s:KE) (σ:St) (H:Hp) (Q:Option Int->Hp->Prop),Inv X pins σ H s->t σ H Q ->
  Qaa (Qab X.prog X.w) X.A (evalPart e X.env) (fun u s'=>eM fun o H'=>Inv X pins σ H' s'/\Qfg u o/\Q o H') X.xe s
def KY:TO:=fun _ H Q=>Q none H
def TF (t:TE):TO:=fun σ H Q=>t σ H fun x H1=>∃i,x = .int i/\Q (some i) H1
section
variable {X:Cx}{e:QaE}{te:TE}{lo hi:Option QaE}{tl th:TO}{pos p2:Pos}
def gR:PO X none KY:=
 fun pins s σ H Q I h=>tz ⟨none,H,I,.none,h⟩
def cx (h:PE X e te):PO X (some e) (TF te):=by
 refine fun pins s σ H Q I hw=>bh (h s σ H _ I hw) fun u s1 hz_=>ai.el hz_ _ ?_;rintro x H1 I1 r1 q1;obtain⟨i,rfl,q⟩:=q1;obtain⟨t,rfl⟩:=r1;exact⟨some i,H1,I1,.int i t,q⟩
def FN (X:Cx)(r:V->Option Int->Option Int->Hp->VK->Prop):Prop:=
 ∀ ⦃pins:List (Gc×Obj)⦄ (s:KE) (σ:St) (H:Hp) (x:V) (v vl vu:Fk) (lo hi:Option Int) (sl:Gc) (Q:VK),Inv X pins σ H s->RelV x v->s.heap.IsSliceOf sl vl vu .none->Qfg vl lo->Qfg vu hi->r x lo hi H Q ->
  eM fun T id=>Qbs (.type T) "__getitem__" = pure (some (.builtin id))/\s.TypeIs v T/\Qaa (Qab X.prog X.w) X.A (Qec v (.ref sl)) (EP X pins σ Q) X.xe s
def FN.or (h:FN X r)(h':FN X r'):FN X (fun x lo hi H Q=>r x lo hi H Q\/r' x lo hi H Q):=by
 intro pins s σ H x v vl vu lo hi sl Q I rx hs pl pu q
 rcases q with q|q
 ·exact h s σ H x v vl vu lo hi sl Q I rx hs pl pu q
 ·exact h' s σ H x v vl vu lo hi sl Q I rx hs pl pu q
def tSl (r:V->Option Int->Option Int->Hp->VK->Prop)(te:TE)(tl th:TO):TE:=fun σ H Q=>te σ H fun x H1=>tl σ H1 fun l H2=>th σ H2 fun u H3=>r x l u H3 Q
def cT (hr:FN X r)(he:PE X e te)(hl:PO X lo tl)(hu:PO X hi th):PE X (.Subscript e (.Slice lo hi none p2) pos) (tSl r te tl th):=by
 refine fun pins s σ H Q I h=>QfQ (bh (he s σ H _ I h) fun v s1 hz_=>ai.el hz_ _ ?_);rintro x H1 I1 r1 q1;refine wpAny_Slice (bh (hl s1 σ H1 _ I1 q1) fun vl s2 hz_=>ai.el hz_ _ fun l H2 I2 pl q2=>bh (hu s2 σ H2 _ I2 q2) fun vu s3 hz_=>ai.el hz_ _ ?_);rintro u H3 I3 pu q3;refine tz ?_;have I4:Inv X pins σ H3 { s3 with heap:=s3.heap.push { cls := .type "slice",data := .fields #[vl,vu,.none] } }:=I3.kept fun b ob q=>Jb _ q;obtain⟨T,id,hT,ht,hg⟩:=hr { s3 with heap:=s3.heap.push { cls := .type "slice",data := .fields #[vl,vu,.none] } } σ H3 x v vl vu l u s3.heap.objs.size Q I4 r1 (QeI ..) pl pu q3;exact tail_any ht hT hg (by with_unfolding_all rfl)
def kL (xs:List V)(lo hi:Option Int):List V:=(xs.drop (HT.eg xs.length 0 lo)).take (HT.eg xs.length xs.length hi-HT.eg xs.length 0 lo)
def oS (xs:List V)(lo hi:Option Int):(kL xs lo hi).length<=xs.length:=by
 unfold kL;rw[Uc,Uv];lia
def Wk (K:Ja):V->Option Int->Option Int->Hp->VK->Prop:=fun x lo hi H Q=>eM fun a xs=>x = .ref a/\bg K H a xs /\
 ¬(HT.eg xs.length 0 lo=0/\HT.eg xs.length xs.length hi=xs.length)/\∀p,H p=none->Q (.ref p) (upd H p (.tup (kL xs lo hi)))
def OY:FN X (Wk X.K):=by
 intro pins s σ H x v vl vu lo hi sl Q I rx hs pl pu h;obtain⟨a,xs,rfl,hx,hw,q⟩:=h;cases rx;obtain⟨aA,r,ht,hz⟩:=I.tuple hx;have hlen:aA.toArray.size=xs.length:=by rw[Jy];exact r.length.symm
 refine⟨"tuple",_,PyProof.Rows.slot_tuple_getitem.lookup,ht.typeIs,(HT.mO ht hs pl pu (by rw[hlen];exact hw) ?_ (by rw[hlen];exact hz))⟩;rw[hlen];refine⟨.ref s.heap.objs.size,_,I.laid (fun b ob q=>Jb _ q) (Je _) ?_,rfl,q _ (I.bE.fresh (Je _))⟩;exact⟨Jg (oS xs lo hi) hz,_,(r.drop (HT.eg xs.length 0 lo)).take (HT.eg xs.length xs.length hi-HT.eg xs.length 0 lo),uU.new _ _⟩
end
def FH (n:Nat)(i:Int):Option Nat:=if 0<=i then (if i<n then some i.toNat else none) else if -(n:Int)<=i then some (i+n).toNat else none
def CL {α:Type}(xs:List α)(i:Int):Option α:=(FH xs.length i).bind fun j=>xs[j]?
def vV (h:FH n i=some j):seqIndex? i n=some j/\j<n /\ -(n:Int)<=i/\i<n:=by
 unfold FH at h
 by_cases h0:0<=i
 ·rw[if_pos h0] at h
  by_cases h1:i<n
  ·rw[if_pos h1] at h;have e:=Qao h;exact⟨by rw[seqIndex_of h0 h1,e],⋯,⋯,h1⟩
  ·rw[if_neg h1] at h;cases h
 ·rw[if_neg h0] at h
  by_cases h1: -(n:Int)<=i
  ·rw[if_pos h1] at h;have e:=Qao h;exact⟨by rw[seqIndex_neg ⋯ h1,e],⋯,h1,⋯⟩
  ·rw[if_neg h1] at h;cases h
def qa (h:CL xs i=some v):∃j,seqIndex? i xs.length=some j/\xs[j]? = some v/\j<xs.length /\ -(xs.length:Int)<=i/\i<xs.length:=by
 unfold CL at h;cases e:FH xs.length i with
 | none=>rw[e] at h;cases h
 | some j=>
  rw[e] at h;obtain⟨h1,h2,h3,h4⟩:=vV e;exact⟨j,h1,h,h2,h3,h4⟩
def kn {j:Nat}{v: α}(h:xs[j]? = some v):CL xs (j:Int)=some v:=by
 have hj:=(Jm.mp h).1;have e:FH xs.length (j:Int)=some j:=by
  unfold FH;rw[if_pos ⋯,if_pos ⋯];simp
 unfold CL;rw[e];exact h
def Ml (b:QaE):Prop:=∀o i,Qfl b false o i=operate [o,i] (Qec o i)
def JY (X:Cx)(r:R2):Prop:=
 ∀ ⦃value slice:QaE⦄ ⦃pins:List (Gc×Obj)⦄ (s:KE) (σ:St) (H:Hp) (x y:V) (v u:Fk) (Q:VK),Inv X pins σ H s->RelV x v->RelV y u->r x y H Q ->
  Qfl slice false v u=operate [v,u] (Qec v u)->Qaa (Qab X.prog X.w) X.A (subscriptTail value slice v u) (EP X pins σ Q) X.xe s
def Kc (X:Cx)(id:String)(r:V->List V->Hp->VK->Prop):Prop:=
 ∀ ⦃pins:List (Gc×Obj)⦄ (s:KE) (σ:St) (H:Hp) (x:V) (xs:List V) (v:Fk) (us:List Fk) (Q:VK),Inv X pins σ H s->RelV x v->Vals xs us->r x xs H Q ->
  Qaa (Qab X.prog X.w) X.A (call (.builtin id) (v::us)) (EP X pins σ Q) X.xe s
section
variable {X:Cx}{a b:QaE}{ta tb:TE}{pos:Pos}
def JY.or (h:JY X r)(h':JY X r'):JY X (fun x y H Q=>r x y H Q\/r' x y H Q):=by
 intro value slice pins s σ H x y v u Q I rx ry q hs
 rcases q with q|q
 ·exact h s σ H x y v u Q I rx ry q hs
 ·exact h' s σ H x y v u Q I rx ry q hs
def bQ (hr:JY X r)(ha:PE X a ta)(hb:PE X b tb)(hs:Ml b):PE X (.Subscript a b pos) (zr r ta tb):=
 fun pins s σ H Q I h=>QfQ (NF ha hb I h fun v u s2 x y H2 I2 rx ry q=>hr s2 σ H2 x y v u Q I2 rx ry q (hs _ _))
def Q1 (K:Ja):R2:=fun x y H Q=>pH fun p xs i v=>x = .ref p/\y = .int i/\aX K H p xs/\CL xs i=some v/\Q v H
def Tz (K:Ja):R2:=fun x y H Q=>pH fun p xs i v=>x = .ref p/\y = .int i/\bg K H p xs/\CL xs i=some v/\Q v H
def Rj:R2:=fun x y H Q=>sF fun z i c=>x = .str z/\y = .int i/\z.length<=M2/\CL z.cps.toList i=some c/\Q (.str ⟨#[c]⟩) H
def Kv:JY X (Q1 X.K):=by
 intro value slice pins s σ H x y v u Q I rx ry h hs;obtain⟨p,xs,i,z,rfl,rfl,hq,he,q⟩:=h;cases rx;obtain⟨t,rfl⟩:=ry;obtain⟨aA,r,pl,hz⟩:=I.list hq;obtain⟨j,h1,h2,h3,h4,h5⟩:=qa he;obtain⟨w,ew,rw'⟩:=r.get h2;have hl:=r.length;have hn:=wC;have fin:EP X pins σ Q w s:=⟨z,H,I,rw',q⟩
 by_cases h0:0<=i
 ·have hj:i.toNat=j:=by
   rw[seqIndex_of h0 h5] at h1;exact Qao h1
  exact item_listR pl.isList h0 ⋯ (by rw[hj];simpa using ew) fin hs
 ·have hj:(i+(aA.toArray.size:Int)).toNat=j:=by
   rw[seqIndex_neg ⋯ h4] at h1;rw[Jy,<-hl];exact Qao h1
  exact subscriptTail_builtinR pl.isList.typeIs slot_list_getitem.lookup
   (wpAny_getItem_list_neg pl.isList ⋯ (by rw[Jy]<;>lia) ⋯ (by rw[hj];simpa using ew) ⟨rfl,fin⟩) hs
def Na:JY X (Tz X.K):=by
 intro value slice pins s σ H x y v u Q I rx ry h hs;obtain⟨p,xs,i,z,rfl,rfl,hq,he,q⟩:=h;cases rx;obtain⟨t,rfl⟩:=ry;obtain⟨aA,r,pl,hz⟩:=I.tuple hq;obtain⟨j,h1,h2,h3,h4,h5⟩:=qa he;obtain⟨w,ew,rw'⟩:=r.get h2;have hn:=wC;exact subscriptTail_builtinR pl.typeIs slot_tuple_getitem.lookup
  (getItem_tuple pl ⋯ ⋯ (by rw[Jy,<-r.length];exact h1) (by simpa using ew) ⟨rfl,⟨z,H,I,rw',q⟩⟩) hs
def Oq:JY X Rj:=by
 intro value slice pins s σ H x y v u Q I rx ry h hs;obtain⟨z,i,c,rfl,rfl,hz,he,q⟩:=h;obtain⟨t,rfl⟩:=rx;obtain⟨t',rfl⟩:=ry;obtain⟨j,h1,h2,h3,h4,h5⟩:=qa he;have hl:z.cps.toList.length=z.length:=by simp[Str.length]
 rw[hl] at h1 h4 h5;have hn:=wC;exact tail_any (QdK s z t) slot_str_getitem.lookup (getItem_str (by
  rw[(decide_eq_false ⋯),(decide_eq_false ⋯),Qd2]) (by rw[h1];simpa using h2) ⟨.str ⟨#[c]⟩,H,I.tok _,⟨_,rfl⟩,q⟩) hs
def Z2 (K:Ja):R2:=fun x y H Q=>Q1 K x y H Q\/Tz K x y H Q\/Rj x y H Q
def Qe:JY X (Z2 X.K):=Kv.or (Na.or Oq)
def Ak (aA:List Fk)(n j:Nat)(u:Fk):QaF (·.setIfInBounds j u) { cls := .type "list",data := .seq aA.toArray n } = { cls := .type "list",data := .seq (aA.set j u).toArray n }:=by
 simp[QaF]
def Inv.lst {σ:St}{H:Hp}{s:KE}{p:Gc}{xs:List V}(I:Inv X pins σ H s)(h:H p=some (.lst xs)):
  ∃aA n,Vals xs aA/\s.heap.get? p=some { cls := .type "list",data := .seq aA.toArray n } /\ xs.length<=M2:=by
 obtain⟨z,aA,n,r,e⟩:=I.bE p _ h;exact⟨aA,n,r,e,z⟩
def Inv.NH {σ:St}{H:Hp}{s:KE}{p:Gc}{xs ys:List V}{aA its':List Fk}{n n':Nat}{f:Obj->Obj}(I:Inv X pins σ H s)(h:H p=some (.lst xs))
  (ho:s.heap.get? p=some { cls := .type "list",data := .seq aA.toArray n }) (hf:f { cls := .type "list",data := .seq aA.toArray n } = { cls := .type "list",data := .seq its'.toArray n' }) (r:Vals ys its') (hz:ys.length<=M2) (t:Nat) :
  Inv X pins σ (upd H p (.lst ys)) { s with heap:=s.heap.update p f,toks:=t }:=by
 have e:(s.heap.update p f).get? p=some { cls := .type "list",data := .seq its'.toArray n' }:=by
  rw[J4 f ho (by rw[hf]<;>rfl),hf]
 refine I.write (by rw[h];trivial) (.inl rfl) (fun b u hb q=>(J5 _ _ (QaB hb)).trans q) ⟨_,e⟩ ?_;exact⟨hz,its',n',r,e⟩
def Sy:V->V->V->Hp->(Hp->Prop)->Prop:=fun o i v H Q=>pH fun p xs k j=>o = .ref p/\i = .int k/\H p=some (.lst xs)/\FH xs.length k=some j/\Q (upd H p (.lst (xs.set j v)))
def set_list:QI X Sy:=by
 intro pins s σ H o i v ov iv u Q I ro ri rv h;obtain⟨p,xs,k,j,rfl,rfl,hp,hj,q⟩:=h;cases ro;obtain⟨t,rfl⟩:=ri;obtain⟨aA,n,r,ho,hz⟩:=I.lst hp;obtain⟨h1,h2,h3,h4⟩:=vV hj;have hl:=r.length;have hn:=wC;have I':Inv X pins σ (upd H p (.lst (xs.set j v))) { s with heap:=s.heap.update p (QaF (·.setIfInBounds j u)) }:=
  I.NH hp ho (Ak aA n j u) (r.set rv j) (by rw[Wc];exact hz) s.toks
 by_cases h0:0<=k
 ·have hk:k.toNat=j:=by
   rw[seqIndex_of h0 h4] at h1;exact Qao h1
  exact PySem.W.ki_setAt ho h0 ⋯ (by rw[Jy,<-hl];exact h4) (by rw[hk];exact⟨_,I',q⟩)
 ·have hk:(k+(aA.toArray.size:Int)).toNat=j:=by
   rw[seqIndex_neg ⋯ h3] at h1;rw[Jy,<-hl];exact Qao h1
  exact PySem.W.ki_setBack ho ⋯ (by rw[Jy,<-hl];exact h3) ⋯ (by rw[hk];exact⟨_,I',q⟩)
def vU (lo hi:Option Int)(n:Nat):(QbI lo hi none n).1=((HT.eg n 0 lo:Nat):Int)/\(QbI lo hi none n).2.1=((HT.eg n n hi:Nat):Int)/\(QbI lo hi none n).2.2=1:=by
 refine⟨?_,?_,rfl⟩
 ·cases lo with
  | none=>simp[QbI,HT.eg]
  | some i=>
   simp only[QbI,HT.eg,Option.getD_none,if_true]
   by_cases h:i<0
   ·simp only[h,if_true]<;>lia
   ·simp only[h,if_false]<;>lia
 ·cases hi with
  | none=>simp[QbI,HT.eg]
  | some i=>
   simp only[QbI,HT.eg,Option.getD_none,if_true]
   by_cases h:i<0
   ·simp only[h,if_true]<;>lia
   ·simp only[h,if_false]<;>lia
def tJ (aA:List Fk)(lo hi:Option Int):slicePick aA.toArray lo hi none=((aA.drop (HT.eg aA.length 0 lo)).take (HT.eg aA.length aA.length hi-HT.eg aA.length 0 lo)).toArray:=by
 obtain⟨h1,h2,h3⟩:=vU lo hi aA.toArray.size;unfold slicePick;rw[h1,h2,h3];simp only[sliceRange_one,pick_run,Jy]<;>rfl
def O4 (K:Ja):V->Option Int->Option Int->Hp->VK->Prop:=fun x lo hi H Q=>eM fun a xs=>x = .ref a/\aX K H a xs/\∀p,H p=none->Q (.ref p) (upd H p (.lst (kL xs lo hi)))
def KM:FN X (O4 X.K):=by
 intro pins s σ H x v vl vu lo hi sl Q I rx hs pl pu h;obtain⟨a,xs,rfl,hx,q⟩:=h;cases rx;obtain⟨aA,r,ht,hz⟩:=I.list hx;have hlen:=r.length;refine⟨"list",_,slot_list_getitem.lookup,ht.isList.typeIs,(wpAny_getItem_list_slice ht.isList hs pl pu .none (by simp) ?_ (by rw[Jy]<;>lia))⟩;rw[tJ,<-hlen];refine⟨.ref s.heap.objs.size,_,I.laid (fun b ob q=>Jb _ q) (Je _) ?_,rfl,q _ (I.bE.fresh (Je _))⟩;exact⟨Jg (oS xs lo hi) hz,_,0,(r.drop (HT.eg xs.length 0 lo)).take (HT.eg xs.length xs.length hi-HT.eg xs.length 0 lo),Ji _ rfl⟩
def oX:V->Bool
 | .non=>true
 | .bl _=>true
 | .int _=>true
 | .str _=>true
 | _=>false
def Mm:V->V->Bool
 | .non,.non=>true
 | .bl a,.bl b=>a==b
 | .bl a,.int b=>(if a then 1 else 0)==b
 | .int a,.bl b=>a==(if b then 1 else 0)
 | .int a,.int b=>a==b
 | .str a,.str b=>a==b
 | _,_=>false
def Nz {y x:V}{u v:Fk}(ry:RelV y u)(rx:RelV x v)(fy:oX y=true)(fx:oX x=true):SeqAt.EqAt A s u v (Mm y x):=by
 cases y with
 | non=>
  cases ry;cases x with
  | non=>cases rx;exact SeqAt.EqAt.same _
  | bl b=>cases rx;exact SeqAt.EqAt.none_bool b
  | int b=>obtain⟨t,rfl⟩:=rx;exact SeqAt.EqAt.none_int b t
  | str b=>obtain⟨t,rfl⟩:=rx;exact SeqAt.EqAt.none_str b t
  | _=>exact absurd (show false=true from fx) Jr
 | bl a=>
  cases ry;cases x with
  | non=>cases rx;exact SeqAt.EqAt.bool_none a
  | bl b=>cases rx;exact SeqAt.EqAt.bool_bool a b
  | int b=>obtain⟨t,rfl⟩:=rx;exact SeqAt.EqAt.bool_int a b t
  | str b=>obtain⟨t,rfl⟩:=rx;exact SeqAt.EqAt.bool_str a b t
  | _=>exact absurd (show false=true from fx) Jr
 | int a=>
  obtain⟨t',rfl⟩:=ry;cases x with
  | non=>cases rx;exact SeqAt.EqAt.int_none a t'
  | bl b=>cases rx;exact SeqAt.EqAt.int_bool a t' b
  | int b=>obtain⟨t,rfl⟩:=rx;exact SeqAt.EqAt.int_int a t' b t
  | str b=>obtain⟨t,rfl⟩:=rx;exact Qfo a t' b t
  | _=>exact absurd (show false=true from fx) Jr
 | str a=>
  obtain⟨t',rfl⟩:=ry;cases x with
  | non=>cases rx;exact SeqAt.EqAt.str_none a t'
  | bl b=>cases rx;exact SeqAt.EqAt.str_bool a t' b
  | int b=>obtain⟨t,rfl⟩:=rx;exact Qfn a t' b t
  | str b=>obtain⟨t,rfl⟩:=rx;exact SeqAt.EqAt.str_str a t' b t
  | _=>exact absurd (show false=true from fx) Jr
 | _=>exact absurd (show false=true from fy) Jr
def La (x:V)(u:Fk):Bool:=match u with
 | .none=>Mm .non x
 | .bool b=>Mm (.bl b) x
 | .int i _=>Mm (.int i) x
 | .str z _=>Mm (.str z) x
 | _=>false
def GG {x y:V}{u:Fk}(r:RelV y u)(f:oX y=true):La x u=Mm y x:=by
 cases y with
 | non=>cases r;rfl
 | bl b=>cases r;rfl
 | int i=>obtain⟨t,rfl⟩:=r;rfl
 | str z=>obtain⟨t,rfl⟩:=r;rfl
 | _=>exact absurd (show false=true from f) Jr
def vC:∀{xs:List V} {us:List Fk},Vals xs us->xs.all oX=true->us.any (La x)=xs.any fun y=>Mm y x
 | _,_,.nil,_=>rfl
 | y::xs,u::us,.cons r t,f=>by
  rw[Qb3,Jv] at f;rw[Y7,Y7,GG r f.1,vC t f.2]
def sR {x:V}{v:Fk}(rx:RelV x v)(fx:oX x=true):∀{xs:List V} {us:List Fk},Vals xs us->xs.all oX=true->∀u∈us,SeqAt.EqAt A s u v (La x u)
 | _,_,.nil,_=>fun u hu=>by cases hu
 | y::xs,u::us,.cons r t,f=>fun u' hu=>by
  rw[Qb3,Jv] at f
  rcases Jw.mp hu with rfl|hu
  ·rw[GG r f.1];exact Nz r rx f.1 fx
  ·exact sR rx fx t f.2 u' hu
def M0 (x:V)(xs:List V):Bool:=xs.any fun y=>Mm y x
def rIn (K:Ja)(neg:Bool):R2:=fun x y H Q=>eM fun p xs=>y = .ref p/\(aX K H p xs\/bg K H p xs)/\oX x=true/\xs.all oX=true/\Q (.bl (if neg then !M0 x xs else M0 x xs)) H
def DS:fD X (QaC .In) (rIn X.K false):=by
 intro pins s σ H x y v u Q I rx ry h;obtain⟨p,xs,rfl,hq,fx,fs,q⟩:=h;cases ry
 rcases hq with hq|hq
 ·obtain⟨aA,r,pl,hz⟩:=I.list hq;refine SeqAt.in_listAt (La x) pl.isList (fun w hw=>sR rx fx r fs w (by simpa using hw)) ⟨.bl _,H,I,rfl,?_⟩;rw[show aA.toArray.any (La x)=aA.any (La x) by simp,vC r fs];exact q
 ·obtain⟨aA,r,pl,hz⟩:=I.tuple hq;refine SeqAt.in_tupleAt (La x) pl (fun w hw=>sR rx fx r fs w (by simpa using hw)) ⟨.bl _,H,I,rfl,?_⟩;rw[show aA.toArray.any (La x)=aA.any (La x) by simp,vC r fs];exact q
def bK.or (h:bK X f r)(h':bK X f r'):bK X f (fun xs H Q=>r xs H Q\/r' xs H Q):=by
 intro pins s σ H xs us Q I rs q
 rcases q with q|q
 ·exact h s σ H xs us Q I rs q
 ·exact h' s σ H xs us Q I rs q
def wJ:bK X (.type "list") (fun xs H Q=>∃p ys,xs=[.ref p]/\(aX X.K H p ys\/bg X.K H p ys)/\∀l,H l=none->Q (.ref l) (upd H l (.lst ys))):=by
 intro pins s σ H xs us Q I r h;obtain⟨p,ys,rfl,hq,q⟩:=h;obtain⟨u,rfl,rx⟩:=vals1 r;cases rx;have fin:∀aA,Vals ys aA->ys.length<=M2->∀h' c',(∀b o',s.heap.get? b=some o'->h'.get? b=some o') ->
   h'.get? s.heap.objs.size=some { cls := .type "list",dict:=none,data := .seq aA.toArray c',slots := #[] } -> EP X pins σ Q (.ref s.heap.objs.size) { s with heap:=h' }:=fun aA r' hz h' c' kp e=>
  ⟨.ref s.heap.objs.size,_,I.laid kp (Je _) (show bC X.prog X.w _ h' _ (.lst ys) from⟨hz,aA,c',r',e⟩),rfl,q _ (I.bE.fresh (Je _))⟩
 rcases hq with hq|hq
 ·obtain⟨aA,r',pl,hz⟩:=I.list hq;have hlen:=r'.length;obtain⟨o,ho,hc,n,hd⟩:=pl.isList;exact call_list_seq p (.inl rfl) ho hc hd (fun h' c' kp e=>fin aA r' hz h' c' kp e) (by simp only[Jy]<;>lia)
 ·obtain⟨aA,r',pl,hz⟩:=I.tuple hq;have hlen:=r'.length;obtain⟨o,ho,hc,n,hd⟩:=pl;exact call_list_seq p (.inr rfl) ho hc hd (fun h' c' kp e=>fin aA r' hz h' c' kp e) (by simp only[Jy]<;>lia)
def tM:bK X (.type "tuple") (fun xs H Q=>∃p ys,xs=[.ref p]/\((aX X.K H p ys/\∀l,H l=none->Q (.ref l) (upd H l (.tup ys)))\/(bg X.K H p ys/\Q (.ref p) H))):=by
 intro pins s σ H xs us Q I r h;obtain⟨p,ys,rfl,h⟩:=h;obtain⟨u,rfl,rx⟩:=vals1 r;cases rx
 rcases h with ⟨hq,q⟩|⟨hq,q⟩
 ·obtain⟨aA,r',pl,hz⟩:=I.list hq;have hlen:=r'.length;refine call_tuple_list pl.isList (fun h' kp =>?_) (by simp only[Jy]<;>lia);have I1:Inv X pins σ H { s with heap:=h' }:=I.kept kp;have I2:Inv X pins σ (upd H h'.objs.size (.tup ys)) { s with heap:=h'.push { cls := .type "tuple",data := .seq aA.toArray } }:=
   I1.laid (fun b o e=>Jb _ e) (Je _) (show bC X.prog X.w _ _ _ (.tup ys) from⟨hz,aA,r',uU.new _ _⟩)
  exact⟨.ref h'.objs.size,_,I2,rfl,q _ (I1.bE.fresh (Je _))⟩
 ·obtain⟨aA,r',pl,hz⟩:=I.tuple hq;exact call_tuple_same pl ⟨.ref p,H,I,rfl,q⟩
def Sa (K:Ja)(T:String)(x:V)(H:Hp):Prop:=match x with
 | .str _=>T = "str"
 | .int _=>T = "int"
 | .ref p=>(T = "list" /\ ∃xs,aX K H p xs)\/(T = "tuple" /\ ∃o,K.lookup p=some o/\o.cls = .type "tuple" /\ o.dict=none) \/
   (T = "dict" /\ ((∃kvs,H p=some (.dK kvs))\/∃kvs,H p=some (.dT kvs)))\/(T = "set" /\ eM fun S n=>H p=some (.set S n))
 | _=>False
def BG {σ:St}{H:Hp}{s:KE}{T:String}{x:V}{v:Fk}(I:Inv X pins σ H s)(r:RelV x v)(ty:Sa X.K T x H):
  s.TypeIs v T/\∀a,v = .ref a->∃ob,s.heap.get? a=some ob/\ob.dict=none:=by
 cases x with
 | str z=>
  obtain⟨t,rfl⟩:=r;cases (show T = "str" from ty);exact⟨QdK s z t,fun _ e=>nomatch e⟩
 | int i=>
  obtain⟨t,rfl⟩:=r;cases (show T = "int" from ty);exact⟨QfJ s i t,fun _ e=>nomatch e⟩
 | ref p=>
  cases r
  rcases ty with ⟨rfl,xs,hq⟩|⟨rfl,o,hk,hc,hd⟩|⟨rfl,hk⟩|⟨rfl,S,n,hk⟩
  ·obtain⟨aA,_,pl,_⟩:=I.list hq;refine⟨pl.isList.typeIs,fun a e =>?_⟩;cases e;obtain⟨o,n,e,c,hd,_⟩:=pl;exact⟨o,e,hd⟩
  ·refine⟨⟨o,I.kc p o hk,hc⟩,fun a e =>?_⟩;cases e;exact⟨o,I.kc _ o hk,hd⟩
  ·have z:∃o,s.heap.get? p=some o/\o.ExactDict:=by
    rcases hk with ⟨kvs,hk⟩|⟨kvs,hk⟩
    ·obtain⟨_,_,_,_,o,_,_,e,ex,_⟩:=I.bE p _ hk;exact⟨o,e,ex⟩
    ·obtain⟨_,_,_,_,o,_,_,e,ex,_⟩:=I.bE p _ hk;exact⟨o,e,ex⟩
   obtain⟨o,e,ex⟩:=z;refine⟨⟨o,e,ex.1⟩,fun a e2 =>?_⟩;cases e2;exact⟨o,e,ex.2.1⟩
  ·obtain⟨o,_,_,_,e,ex,_⟩:=I.bE p _ hk;refine⟨⟨o,e,ex.1⟩,fun a e2 =>?_⟩;cases e2;exact⟨o,e,ex.2.1⟩
 | _=>exact Qbm ty
def R8 (K:Ja)(T:String)(r:V->List V->Hp->VK->Prop)(to:TE):TE:=fun σ H Q=>to σ H fun x H1=>Sa K T x H1/\r x [] H1 Q
def WQ (K:Ja)(T:String)(r:V->List V->Hp->VK->Prop)(to:TE)(t:TA):TE:=fun σ H Q=>to σ H fun x H1=>Sa K T x H1/\t σ H1 fun xs H2=>r x xs H2 Q
variable {o e:QaE}{es:List QaE}{to:TE}{t:TA}{name:Str}{apos eP:Pos}{T id:String}{r:V->List V->Hp->VK->Prop}
def P9 (pa:QfS T)(slot:Slot T name id)(OT:typeOf (.builtin id)=pure (.type "method_descriptor"))(hm:Kc X id r)(ho:PE X o to)
  (nE:QbQ o name X.env (QaR o X.env)=QaR o X.env:=by rfl) (mK:(apos.endLine==eP.line)=true:=by rfl):PE X (.Call (.Attribute o name apos) [] [] eP) (R8 X.K T r to):=by
 refine fun pins s σ H Q I h=>wpAny_Call_method0_late nE mK (bh (ho s σ H _ I h) fun v s1 hz_=>ai.el hz_ _ ?_);rintro x H1 I1 r1 ⟨ty,q1⟩;obtain⟨h1,h2⟩:=BG I1 r1 ty;exact⟨T,id,pa,slot,OT,h1,h2,Qde rfl (Qf0 (hm s1 σ H1 x [] v [] Q I1 r1 .nil q1))⟩
def QQ (pa:QfS T)(slot:Slot T name id)(OT:typeOf (.builtin id)=pure (.type "method_descriptor"))(hm:Kc X id r)(ho:PE X o to)(ha:PA X (e::es) t)
  (nE:QbQ o name X.env (QaR o X.env)=QaR o X.env:=by rfl)
  (DM:((Qcu eP (Qaj (e::es) X.env)).all (fun x => !x.1)&&(backToKw eP (keywordEach [] X.env)).all (fun x=>x.1.isSome)
   && decide ((e::es).length+([]:List Keyword).length+(if ([]:List Keyword).isEmpty then 0 else 1)<30))=true:=by rfl)
  (mK:(apos.endLine==eP.line)=true:=by rfl) (hs:Qaj (e::es) X.env=(false,QaR e X.env)::Qaj es X.env:=by rfl) (Bn:(Qcu eP (Qaj es X.env)).any (·.1)=false:=by rfl) :
  PE X (.Call (.Attribute o name apos) (e::es) [] eP) (WQ X.K T r to t):=by
 refine fun pins s σ H Q I h=>wpAny_Call_method_late nE DM mK rfl (bh (ho s σ H _ I h) fun v s1 hz_=>ai.el hz_ _ ?_);rintro x H1 I1 r1 ⟨ty,q1⟩;obtain⟨h1,h2⟩:=BG I1 r1 ty;refine⟨T,id,pa,slot,OT,h1,h2,?_⟩;have hA:=ha (pos:=eP) s1 σ H1 _ I1 q1;rw[hs] at hA ⊢;exact Qde (by show(false||(Qcu eP (Qaj es X.env)).any (·.1))=false;rw[Bn]<;>rfl) (Calls.evalArgs_plain (bh hA fun us s2 hz_=>ai.el hz_ _ fun vs H2 I2 r2 q2=>hm s2 σ H2 x vs v us Q I2 r1 r2 q2))
end
def QD (X:Cx)(id:String)(r:V->List V->Hp->VK->Prop):Prop:=
 ∀ ⦃pins:List (Gc×Obj)⦄ (s:KE) (σ:St) (H:Hp) (x:V) (xs:List V) (v:Fk) (us:List Fk) (Q:VK),Inv X pins σ H s->RelV x v->Vals xs us->r x xs H Q ->
  Qaa (Qab X.prog X.w) X.A (call (.builtin id) (v::us)) (EP X pins σ Q) X.xe s
def Vals.hd (h:Vals (x::xs) us):∃u r,us=u::r/\RelV x u/\Vals xs r:=by
 cases h with|cons a b=>exact⟨_,_,rfl,a,b⟩
def Vals.one (h:Vals [x] us):∃u,us=[u]/\RelV x u:=by
 obtain⟨u,r,rfl,a,h⟩:=h.hd;cases h;exact⟨_,rfl,a⟩
def Vals.two (h:Vals [x,y] us):∃u v,us=[u,v]/\RelV x u/\RelV y v:=by
 obtain⟨u,r,rfl,a,h⟩:=h.hd;obtain⟨v,rfl,b⟩:=h.one;exact⟨_,_,rfl,a,b⟩
def Vals.eraseIdx:∀{xs:List V} {us:List Fk} i,Vals xs us->Vals (xs.eraseIdx i) (us.eraseIdx i)
 | _,_,_,.nil =>.nil
 | _,_,0,.cons _ t=>t
 | _,_,i+1,.cons r t =>.cons r (Vals.eraseIdx i t)
def Vals.rep (h:Vals xs us):∀k,Vals (Jt k xs).flatten (Jt k us).flatten
 | 0 =>.nil
 | k+1=>by
  exact Vals.append h (Vals.rep h k)
def uS {α:Type}:∀(l:List α) i,(l.eraseIdx i).length<=l.length
 | [],_=>Je _
 | _::_,0=>Yx _
 | _::r,i+1=>Wh (uS r i)
def foldl_rep (aA:List Fk):∀k acc,
  List.foldl (fun x1 x2=>x1++x2) acc.toArray (Jt k aA.toArray)=(acc++(Jt k aA).flatten).toArray
 | 0,acc=>by simp
 | k+1,acc=>by
  have e:acc.toArray++aA.toArray=(acc++aA).toArray:=by simp
  have e2:(acc++aA)++(Jt k aA).flatten=acc++(Jt (k+1) aA).flatten:=by
   rw[QcF,List.flatten_cons,U0]
  rw[<-e2,<-foldl_rep aA k (acc++aA),<-e,QcF,List.foldl_cons]
section
variable {X:Cx}{pins:List (Gc×Obj)}{σ:St}{H:Hp}{s:KE}{l b:Gc}{xs ys zs:List V}
def Inv.P0 {aA its':List Fk}{n:Nat}{f:Array Fk->Array Fk}{t':Nat}(I:Inv X pins σ H s)(hH:H l=some (.lst xs))
  (e:s.heap.get? l=some { cls := .type "list",data := .seq aA.toArray n }) (hf:f aA.toArray=its'.toArray) (hv:Vals ys its') (hz:ys.length<=M2) :
  Inv X pins σ (upd H l (.lst ys)) { s with heap:=s.heap.update l (QaF f),toks:=t' }:=by
 have q:=PySem.IsL.update e f;rw[hf] at q;refine I.write (by rw[hH];exact trivial) (.inl rfl) (fun b' u hb hu=>(J5 s.heap (QaF f) (QaB hb)).trans hu) ⟨_,q⟩ ?_;exact⟨hz,its',_,hv,q⟩
def Inv.Rf (I:Inv X pins σ H s)(hv:Vals ys aA)(hz:ys.length<=M2):
  Inv X pins σ (upd H s.heap.objs.size (.lst ys)) { s with heap:=s.heap.push { cls := .type "list",data := .seq aA.toArray },toks:=t' }:=
 I.laid (fun _ _ q=>Jb _ q) (Je _) ⟨hz,aA,0,hv,Ji _ rfl⟩
def Inv.fresh (I:Inv X pins σ H s):H s.heap.objs.size=none:=I.bE.fresh (Je _)
def Inv.DC (I:Inv X pins σ H s)(hH:H l=some (.lst xs)):xs.length<=M2/\∃aA n,Vals xs aA/\xs.length=aA.length/\s.heap.get? l=some { cls := .type "list",data := .seq aA.toArray n }:=by
 obtain⟨z,aA,n,r,e⟩:=I.bE l _ hH;exact⟨z,aA,n,r,r.length,e⟩
def JX (h:n<=M2):Qeg n=false:=
 decide_eq_false ⋯
end
section
variable {X:Cx}
def KN:V->List V->Hp->VK->Prop:=fun x vs H Q=>sF fun l xs y=>x = .ref l/\vs=[y]/\H l=some (.lst xs)/\xs.length<M2/\Q .non (upd H l (.lst (xs++[y])))
def C4:QD X "list.append" KN:=by
 intro pins s σ H x vs v us Q I rx rv h;obtain⟨l,xs,y,rfl,rfl,hH,hz,q⟩:=h;cases rx;obtain⟨u,rfl,ru⟩:=rv.one;obtain⟨z,aA,n,r,hl,e⟩:=I.DC hH;refine QcC F.slot_list_append ⟨_,e,rfl⟩ F.entry_list_append (F.args_list_append_2 _ _) (PySem.list_append l aA.toArray n u (by rw[Jy];lia)) ⟨e,⟨.non,_,I.P0 hH e (by simp) (r.append (.cons ru .nil)) ?_,rfl,q⟩⟩;rw[Jp,Qcn];lia
def N1:V->List V->Hp->VK->Prop:=fun x vs H Q=>zR fun l xs i k y=>x = .ref l/\vs=[.int i]/\H l=some (.lst xs) /\ -(2^63)<=i/\i<2^63/\seqIndex? i xs.length=some k/\xs[k]? = some y/\Q y (upd H l (.lst (xs.eraseIdx k)))
def Gy:QD X "list.pop" N1:=by
 intro pins s σ H x vs v us Q I rx rv h;obtain⟨l,xs,i,k,y,rfl,rfl,hH,h1,h2,hk,hy,q⟩:=h;cases rx;obtain⟨u,rfl,ru⟩:=rv.one;obtain⟨t,rfl⟩:=ru;obtain⟨z,aA,n,r,hl,e⟩:=I.DC hH;obtain⟨w,hw,rw'⟩:=r.get hy;refine QcC F.slot_list_pop ⟨_,e,rfl⟩ F.entry_list_pop (F.args_list_pop_2 _ _)
  (MeetsSeq.list_pop_at l aA.toArray n i t k w (fitsIndex_both h1 h2) (by rw[Jy,<-hl];exact hk) (by rw[<-U1];exact hw) (by rw[Jy];lia)) ⟨e,?_⟩
 refine⟨y,_,I.P0 hH e ?_ (r.eraseIdx k) ?_,rw',q⟩
 ·show aA.toArray.eraseIdxIfInBounds k=(aA.eraseIdx k).toArray;rw[List.eraseIdxIfInBounds_toArray]
 ·have:=uS xs k;lia
def QN:R2:=fun x y H Q=>pH fun l b xs zs=>x = .ref l/\y = .ref b/\H l=some (.lst xs)/\H b=some (.lst zs)/\xs.length+zs.length<=M2/\∀p,H p=none->Q (.ref p) (upd H p (.lst (xs++zs)))
def Nk:fD X (Qbu .Add) QN:=by
 intro pins s σ H x y v u Q I rx ry h;obtain⟨l,b,xs,zs,rfl,rfl,hH,hB,hz,q⟩:=h;cases rx;cases ry;obtain⟨z,aA,n,r,hl,e⟩:=I.DC hH;obtain⟨z2,its2,n2,r2,zh,e2⟩:=I.DC hB;refine PySem.P.add_list e e2 ?_ (by rw[Jy,Jy];lia);have ea:aA.toArray++its2.toArray=(aA++its2).toArray:=by simp
 rw[ea];exact⟨.ref _,_,I.Rf (r.append r2) (by rw[Jp];lia),rfl,q _ I.fresh⟩
def RB:R2:=fun x y H Q=>sF fun l k xs=>x = .ref l/\y = .int k/\H l=some (.lst xs) /\ -(2^63)<=k/\k<2^63/\xs.length*k.toNat<=M2 /\
 ∀p,H p=none->Q (.ref p) (upd H p (.lst (Jt k.toNat xs).flatten))
def KA {α:Type}(xs:List α)(k:Nat):(Jt k xs).flatten.length=k*xs.length:=by simp
def OH:fD X (Qbu .Mult) RB:=by
 intro pins s σ H x y v u Q I rx ry h;obtain⟨l,k,xs,rfl,rfl,hH,h1,h2,hz,q⟩:=h;cases rx;obtain⟨t,rfl⟩:=ry;obtain⟨z,aA,n,r,hl,e⟩:=I.DC hH;have hlen:aA.toArray.size*k.toNat<=M2:=by rw[Jy,<-hl];exact hz
 have WL:¬aA.toArray.size*k.toNat>(2^63-1) / 8:=by
  have:(M2:Nat)<=(2^63-1) / 8:=∅;lia
 have VY:¬(!Builtin.List.listFitsIndex k)=true:=by
  rw[fitsIndex_both h1 h2];exact Jr
 have SZ:¬Qeg (aA.toArray.size*k.toNat)=true:=by
  rw[JX hlen];exact Jr
 have XY:List.foldl (fun x1 x2=>x1++x2) #[] (Jt (if aA.toArray.isEmpty=true then 0 else k.toNat) aA.toArray)=(Jt k.toNat aA).flatten.toArray:=by
  have f0:∀m,List.foldl (fun x1 x2=>x1++x2) #[] (Jt m aA.toArray)=(Jt m aA).flatten.toArray:=fun m=>by
   have:=foldl_rep aA m [];exact this
  rw[f0];cases aA with
  | nil=>simp
  | cons a r'=>rw[if_neg (by simp)]
 refine wpAny_binaryOp_repeat_ref rfl ⟨_,e,rfl⟩ (fun s'=>QfJ s' k t) noFill_list_mul F.fills_int_mul F.slot_int_rmul repeat_list F.slot_int_index.lookup
  (QcC F.slot_int_rmul (QfJ s k t) F.entry_int_rmul (F.args_int_rmul_2 _ _) (int___rmul___int_list k t l aA.toArray n)
   ⟨e,rfl,⟨_,e,rfl⟩,QcC F.slot_list_mul ⟨_,e,rfl⟩ F.entry_list_mul (F.args_list_mul_2 _ _) (AutoListH.list___mul___list_int_3 l aA.toArray n k t VY WL SZ) ⟨e,?_⟩⟩)
 rw[XY];exact⟨.ref _,_,I.Rf (r.rep k.toNat) (by rw[KA,Qej];exact hz),rfl,q _ I.fresh⟩
end
section
variable {prog:Qaf}{w:Qag}{A:Qax}{E:Fk->KE->Prop}{s:KE}
set_option maxRecDepth 100000 in
end
end L2
namespace Att
open PySem PySem.W PySem.Calls PyProof.Rows
def pI:∀ns vs,WellAll P h vs (ns.map WData.int)->Qef vs ns:=by
 intro ns
 induction ns with
 | nil=>
  intro vs w;cases w;exact .nil
 | cons n ns ih=>
  intro vs w;cases w with
  | cons a b=>
   cases a;exact .cons _ _ (ih _ b)
def FA {l:OpenLaw}{n:Nat}(hn:l.most=some n){P:Params}{h:Heap}{args:List WData}{vals:List Fk}
  (vR:l.row.toRowW.claim.pre args=true) (YR:WellAll P h vals args) :
  ∃a vs ns,vals=[Qap a]/\args=[WData.list (ns.map WData.int)]/\h.get? a=some { cls := .type "list",data := .seq vs.toArray } /\ Qef vs ns/\ns.length<=n:=by
 obtain⟨d,r,rfl,h1,h2⟩:=hasAllW_cons ((pre_splitW vR).1);obtain rfl:=hasAllW_nil h2;obtain⟨xs,rfl,h3⟩:=hasW_list h1;obtain⟨ns,rfl⟩:=items_int h3;have hlen:ns.length<=n:=by
  have h4:(WTm.not (.lt (.lit (.int (n:Int))) (.len (.arg 0)))).holds [] { args:=[.list (ns.map .int)] } = true:=by
   have h4:=(holds_andW ((pre_splitW vR).2)).1;rw[hn] at h4;exact h4
  have h5:=condW_of h4 (w_not (w_lt w_lit (w_len_list (w_arg rfl))));refine Nat.le_of_not_lt fun q =>?_
  first
   | (rw[decide_eq_true q'] at h5;exact absurd h5 rfl)
   | (simp at h5;lia)
 cases YR with
 | cons w1 w2=>
  cases w2;cases w1 with
  | list ho jR=>exact⟨_,_,ns,rfl,rfl,ho,pI ns _ jR,hlen⟩
def DK (l:OpenLaw)(args:List WData):l.row.toRowW.claim.post args (.bool true) args=true:=
 postW_of
  (show WShape.has [] (.bool true) .bool=true by first|rfl|decide|simp[ WShape.armsAll])
  (show(WTm.eq .res (.lit (.bool true))).value [] { args:=args,res:=some (.bool true),after:=args } = some (.bool (true==true)) from w_eq_bool (w_res rfl) w_lit) rfl
def za {l:OpenLaw}{n:Nat}{q:Qaf}{loose:List Str}{XP:(Str->Option Fk)->Heap->Prop}{YP:Qag->Heap->Prop}{d:DefRec}
  (hn:l.most=some n) (S7:d.params.defaults=[])
  (call:∀w s₀ s₁ mg mb fa o pm cd doc a vs ns,
   Ground q loose [] XP w s₀ mg mb s₁.heap->YP w s₁.heap ->
   s₁.heap.get? fa=some o->o.data = .func (docDef d.name d.params d.body d.scope pm cd doc)->s₁.heap.CodeRec cd d.name->mg d.name=some (.ref fa) ->
   s₁.heap.get? a=some { cls := .type "list",data := .seq vs.toArray } -> Qef vs ns->ns.length<=n->s₁.gens = #[] ->
   Qa2 (Qab l.prog w) Qfx (.call (.ref fa) ⟨[.ref a],[]⟩) (fun r s'=>r = .ok (.ret (.bool true))/\OldK s₁.heap s'.heap/\s'.os=s₁.os/\Qdl s'.gens) s₁) :
  WalkO q loose XP YP l.row.toRowW d [] (fun f vs=>QeQ f vs):=by
 intro w s₀ s₁ mg mb G Y fa o pm cd doc dV kV ho hd zA hD hmg hg args vals as vR hlay hrd YR hlo;obtain rfl:dV = .none:=Dflts.none hD S7;obtain rfl:kV = .none:=Dflts.noKw hD;obtain⟨a,vs,ns,rfl,rfl,hobj,hints,hlen⟩:=FA hn vR YR;refine enter_call (Qc0 (call w s₀ s₁ mg mb fa o pm cd doc a vs ns G Y ho (fd_plain hd) zA hmg hobj hints hlen hg) fun r s' hq =>?_);obtain⟨rfl,h2,h3,h4⟩:=hq;exact⟨.inl ⟨.bool true,.bool true,[],rfl,fun _=>rfl,.bool true,DK l _,fun _=>⟨Qe4,fun _ hm=>(nomatch hm)⟩⟩,h2,h3,h4⟩
end Att
namespace L2
open PySem PySem.Spec PyProof.Rows
def DU (h:Qef vs ns):Vals (ns.map V.int) vs:=by
 induction h with
 | nil=>exact .nil
 | cons n t h ih=>exact .cons ⟨t,rfl⟩ ih
def NY (H:Hp):Prop:=∀b,H b=none\/eM fun o xs=>H b=some (.frz o (.lst xs))
def JL {K:Ja}{mg mb:Str->Option Fk}{CX:G6}{k:Nat}{fa a:Gc}{fd:Qad}{x:Str}{sp:Sp}{s₁:KE}{vs:List Fk}{ns:List Int}
  (KX:K.In s₁.heap) (QB:s₁.heap.Ns W1 mg) (hb:s₁.heap.Ns builtinsNs mb) (hbb:∀x:Str,x ≠ "__name__" -> mb x=QaT x) (VC:s₁.heap.NoLimit) (hg:s₁.gens = #[])
  (ha:s₁.heap.get? a=some { cls := .type "list",data := .seq vs.toArray }) (hi:Qef vs ns) (hl:ns.length<=M2) (hr:dH k Qfx)
  (F:∀base,K.In base->base.Ns W1 mg->aW P w K mg base CX k fa fd [x] sp) (RR:∀(s:KE) (u:Fk),QfF s fd ⟨[u],[]⟩ [(x,u)])
  (Kg:∀H,NY H->aX K H a (ns.map V.int)->sp [.ref a] H (fun v _=>v = .bl true) fun _ _ _=>False)
  (Vu:∀H e s',CX [] H s₁ (fun _ _ _=>False) e s'->False) :
  Qa2 (Qab P w) Qfx (.call (.ref fa) ⟨[.ref a],[]⟩) (fun r s'=>r = .ok (.ret (.bool true))/\OldK s₁.heap s'.heap/\s'.os=s₁.os/\Qdl s'.gens) s₁:=by
 have rv:=DU hi;have core:∀H,NY H->aX K H a (ns.map V.int)->jq P w H s₁.heap->(∀b,H b≠none->b=a)->(H a≠none->K.lookup a=none) ->
   Qa2 (Qab P w) Qfx (.call (.ref fa) ⟨[.ref a],[]⟩) (fun r s'=>r = .ok (.ret (.bool true))/\OldK s₁.heap s'.heap/\s'.os=s₁.os/\Qdl s'.gens) s₁:=by
  intro H hO hS bE hA hK;have B7:∀{b:Gc} {o:Obj},s₁.heap.get? b=some o->H b=none->(Eo s₁.heap H).get? b=some o:=fun e n=>IA e n;have QK:∀{b:Gc} {o:Obj} {es:Array QdC} {ep:Nat},s₁.heap.get? b=some o->o.data = .dict es ep->H b=none:=fun{b o es ep} e d=>by
   cases q:H b with
   | none=>rfl
   | some u=>
    have e':=hA b (by rw[q];simp);subst e';rw[ha] at e;cases e;cases d
  have UY:∀{b:Gc} {m:Str->Option Fk},s₁.heap.Ns b m->(Eo s₁.heap H).Ns b m:=fun{b m} ⟨o,es,ep,e,d,r⟩=>⟨o,es,ep,B7 e (QK e d),d,r⟩
  have ZQ:=fun b o e=>B7 (KX b o e) (by
   cases q:H b with
   | none=>rfl
   | some u=>
    have e':=hA b (by rw[q];simp);subst e';rw[hK (by rw[q];simp)] at e;cases e)
  refine Qc0 ((F _ ZQ (UY QB)).run Qfx [] s₁ H ⟨[.ref a],[]⟩ [.ref a] [.ref a] _ _ hr (⟨rfl,(⟨ZQ,UY QB,⟨mb,UY hb,hbb⟩,let ⟨mc,h1,h2⟩:=VC; ⟨mc,UY h1,h2⟩⟩),fun b o e=>KQ e,Nat.le_of_eq (DQ _ _),trivial,fun b hb=>absurd (show b∈([]:List Gc) from hb) (by simp),bE,.of_eq hg⟩) (RR s₁ (.ref a)) (.cons rfl .nil) (Kg H hO hS)) fun r s' h =>?_;cases r with
  | error e=>exact(Vu H e s' h).elim
  | ok fl=>
   cases fl with
   | next=>exact Qbm h
   | brk=>exact Qbm h
   | cont=>exact Qbm h
   | ret u=>
    obtain⟨v,H',os,bare,un,hok',r',q⟩:=h;subst q;obtain rfl:u=QeO true:=r';refine⟨rfl,OldK.of_keep fun b o e =>?_,os,bare⟩;cases q:H b with
    | none=>exact un.keep b o e q (by intro z;exact absurd (show b∈([]:List Gc) from z) (by simp)) (by simp)
    | some u=>
     rcases hO b with z|⟨ob,xs,z⟩
     ·rw[q] at z;cases z
     ·have z2:=un.kK b ob _ z;obtain⟨e1,_⟩:=bE b _ z;obtain⟨e2,_⟩:=hok' b _ z2;rw[e] at e1;cases e1;exact e2
 cases hk:K.lookup a with
 | some o=>
  have e:=KX a o hk;rw[ha] at e;cases e;refine core (fun _=>none) (fun _ =>.inl rfl) (.inr ⟨_,vs.toArray,_,hk,rfl,rfl,rfl,by rw[Jy,hi.length];exact hl,by simpa using rv⟩) (fun b u z=>by have z':=z;cases z') (fun b z=>absurd rfl z) fun z=>absurd rfl z
 | none=>
  refine core (fun b=>if b=a then some (.frz { cls := .type "list",data := .seq vs.toArray } (.lst (ns.map V.int))) else none) (fun b =>?_) (.inl (.inr ⟨{ cls := .type "list",data := .seq vs.toArray },if_pos rfl⟩)) (fun b u z =>?_) (fun b z =>?_) fun _=>hk
  ·by_cases hb:b=a
   ·exact .inr ⟨_,_,if_pos hb⟩
   ·exact .inl (if_neg hb)
  ·by_cases hb:b=a
   ·have z':=(if_pos hb).symm.trans z;cases z';subst hb;exact⟨ha,by rw[Jc];exact hl,vs,_,rv,ha⟩
   ·have z':=(if_neg hb).symm.trans z;cases z'
  ·by_cases hb:b=a
   ·exact hb
   ·exact absurd (if_neg hb) z
def LI {l:Qei}{n k:Nat}{q:Qaf}{loose:List Str}{XP:(Str->Option Fk)->Heap->Prop}{YP:Qag->Heap->Prop}{d:DefRec}{K:Params->Ja}{CX:Qag->G6}{sp:Qag->Sp}{x:Str}
  (hn:l.most=some n) (MV:n<=M2) (S7:d.params.defaults=[]) (hr:dH k Qfx)
  (hY:∀(w:Qag) (h:Heap),YP w h->(K w.params).In h)
  (F:∀w mg fa h,(K w.params).In h->h.Ns W1 mg->mg d.name=some (.ref fa) ->
   ∃fd,(∀s u,QfF s fd ⟨[u],[]⟩ [(x,u)]) /\
    ∀base,(K w.params).In base->base.Ns W1 mg->aW l.prog w (K w.params) mg base (CX w) k fa fd [x] (sp w))
  (Kg:∀(w:Qag) (H:Hp) (a:Gc) (ns:List Int),ns.length<=n->NY H->aX (K w.params) H a (ns.map V.int)->sp w [.ref a] H (fun v _=>v = .bl true) fun _ _ _=>False)
  (Vu:∀(w:Qag) (H:Hp) (s:KE) (e:Fk) (s':KE),CX w [] H s (fun _ _ _=>False) e s'->False) :
  PySem.W.WalkO q loose XP YP l.row.toRowW d [] (fun f vs=>QeQ f vs):=by
 refine Att.za hn S7 fun w s₀ s₁ mg mb fa o pm cd doc a vs ns G Y ho hd zA hmg hobj hints hlen hg =>?_;have KX:=hY w _ Y;obtain⟨fd,hb,hF⟩:=F w mg fa _ KX G.T.g hmg;exact JL KX G.T.g G.T.b G.T.builtins G.T.nolimit hg hobj hints (Jg hlen MV) hr hF hb (fun H hO hS=>Kg w H a ns hlen hO hS) fun H e s'=>Vu w H s₁ e s'
def inClass (s:QdM)(j:Nat):QdM:=match s with
 | .ClassDef _ _ _ body _ _ _ _ _ _ _=>body.getD j (.Pass ⟨0,0,0,0⟩)
 | _ =>.Pass ⟨0,0,0,0⟩
def cQ (s:QdM):Arguments:=match s with
 | .FunctionDef _ a _ _ _ _ _ _ _ _=>a
 | _=>{ posonlyargs:=[],args:=[],vararg:=none,kwonlyargs:=[],kw_defaults:=[],kwarg:=none,defaults:=[] }
def cy (s:QdM):List QdM:=match s with
 | .FunctionDef _ _ b _ _ _ _ _ _ _=>b
 | _=>[]
def aj (s:QdM):Qb1:=match s with
 | .FunctionDef _ _ _ _ _ _ sc _ _ _=>sc
 | _=>{ kind := .function,names:=[],isGenerator:=false,isCoroutine:=false }
abbrev d6:G6:=fun _ _ _ _ _ _=>False
abbrev E0:XK:=fun _ _ _=>False
def oP:Passes d6 X E0:=fun _ _ _ _ _ _ _ h=>h.elim
structure cj (K:Ja)(x qual:Str)(st:QdM)(f:Gc)(fd:Qad):Prop where
 ex:∃(oc:Fk) (od:Option Gc) (kV doc pm:Fk) (an:Option Gc) (cW ct:Fk) (Dn:Array (Option Fk)),
  fd=Yd x qual (cQ st) (cy st) (aj st) .none kV doc pm an cW ct/\K.lookup f=some ⟨oc,od,.func fd,Dn⟩/\Ym K cW qual=true
 kp:Ui K (.ref f)=true
section
variable {P:Qaf}{w:Qag}{K:Ja}{mg:Str->Option Fk}{base:Heap}
def cj.ok {st:QdM}{f:Gc}{fd:Qad}{N ps:List Str}{k:Nat}{sp:Sp}(F:cj K x qual st f fd)(S:aD N ps (aj st))(len:∀vs H Q E,sp vs H Q E->vs.length=ps.length)
  (xu:∀cW A outer s H vs Q E,dH k (A.deeper (QbE qual (aj st) s.heap.objs.size f cW))->sp vs H Q E ->
   ∃t,Cv (lE d6 P w K mg base N qual (aj st) f cW A outer s H E).UC (cy st) t/\t { nx:=fun _ H'=>Q .non H',rt:=Q } (start N vs) H):aW P w K mg base d6 (k+1) f fd ps sp:=by
 obtain⟨oc,od,kV,doc,pm,an,cW,ct,Dn,rfl,lk,zA⟩:=F.ex;refine MZ lk zA S len fun A outer s H vs Q E hr Kg =>?_;obtain⟨t,h,q⟩:=xu cW A outer s H vs Q E hr Kg;exact⟨t,h.UC,q⟩
def cj.binds {st:QdM}{f:Gc}{fd:Qad}{ps:List Str}(F:cj K x qual st f fd)
  (h:∀kV doc pm an cW ct us,us.length=ps.length->bindArgs (Yd x qual (cQ st) (cy st) (aj st) .none kV doc pm an cW ct) ⟨us,[]⟩=pure (ps.zip us)):Binds K fd ps []:=by
 obtain⟨oc,od,kV,doc,pm,an,cW,ct,Dn,rfl,lk,zA⟩:=F.ex;exact .all (h kV doc pm an cW ct)
def aR {st:QdM}{f:Gc}{oc:Fk}{od an:Option Gc}{Dn:Array (Option Fk)}{kV doc pm cW ct:Fk}(l:K.lookup f=some ⟨oc,od,.func (Yd x qual (cQ st) (cy st) (aj st) .none kV doc pm an cW ct),Dn⟩)
  (c:Ym K cW qual=true) (k:Ui K (.ref f)=true):cj K x qual st f (Yd x qual (cQ st) (cy st) (aj st) .none kV doc pm an cW ct):=⟨⟨oc,od,kV,doc,pm,an,cW,ct,Dn,rfl,l,c⟩,k⟩
end
def kO {k:Nat}(hr:dH k A):A.units+1<Qdh:=J6 (Nat.add_le_add_left (by decide:1<=64) _) hr.units
section
variable {X:Cx}
def pv (i:Nat){x:Str}{pos:Pos}(hN:X.N[i]? = some x:=by rfl)(hv:RU X.env.scope x:=by first|exact Qae rfl|exact QbU (Qae rfl)|exact QbU (QbU rfl))(hd:(x==("__debug__" : Str))=false:=by decide)
  (zA:(x==("__classdict__" : Str))=false:=by decide):PE X (.Name x pos) (G5 i):=OA hN hv hd zA
end
def bF {A B:Prop}(h:B):if false=true then A else B:=by grind
def bL {A B:Prop}(h:A):if true=true then A else B:=
 h
def fR {c A B:Prop}[Decidable c](h1:c->A)(h2:¬c->B):if c then A else B:=by grind
def ak (H H':Hp):Prop:=∀b o,H b=some o->H' b=some o
def ak.refl (H:Hp):ak H H:=fun _ _ h=>h
def ak.trans (a:ak H H1)(b:ak H1 H2):ak H H2:=fun c o h=>b c o (a c o h)
def ak.free (e:ak H H'){l:Gc}(h:H' l=Option.none):H l=Option.none:=by
 cases q:H l with
 | none=>rfl
 | some o=>
  rw[e l o q] at h;cases h
def ak.seq {K:Ja}{H H':Hp}{a:Gc}{xs:List V}(e:ak H H')(h:aX K H a xs):aX K H' a xs:=by
 rcases h with (h|⟨o,h⟩)|h
 ·exact .inl (.inl (e _ _ h))
 ·exact .inl (.inr ⟨o,e _ _ h⟩)
 ·exact .inr h
end L2
namespace Z
open PySem L2
def top (i:Nat):QdM:=PySem.Challenge.pw_oddlong_k34_all_numbers_and_pairs.main.body.getD i (.Pass ⟨0,0,0,0⟩)
abbrev Pd:Nat:=1
abbrev Qt:Nat:=2
abbrev iE:Nat:=3
abbrev iB:Nat:=4
abbrev nI:Nat:=13
abbrev oM:Nat:=14
abbrev ow:Nat:=15
abbrev rC:Nat:=16
abbrev i7:Nat:=17
abbrev jO:Nat:=18
abbrev og:Nat:=19
abbrev km:Nat:=20
abbrev kf:Nat:=22
abbrev ox:Nat:=23
abbrev lV:Nat:=26
abbrev lN:Nat:=27
abbrev gE:Nat:=28
abbrev iU:Nat:=29
abbrev oh:Nat:=30
abbrev kX:Nat:=31
abbrev aY:Nat:=32
abbrev jT:Nat:=33
abbrev gh:Nat:=34
abbrev kj:Nat:=35
abbrev fF:Nat:=36
abbrev nJ:Nat:=38
abbrev lI:Nat:=39
abbrev BE:Nat:=40
abbrev wq:Nat:=41
abbrev oC:Nat:=46
abbrev ik:Nat:=47
abbrev eE:Nat:=48
abbrev eN:Nat:=49
abbrev jI:Nat:=51
abbrev lH:Nat:=52
abbrev lq:Nat:=53
abbrev jB:Nat:=54
abbrev jW:Nat:=55
abbrev j0:Nat:=56
abbrev jS:Nat:=57
abbrev jH:Nat:=58
abbrev lQ:Nat:=59
abbrev ie:Nat:=60
abbrev jU:Nat:=61
abbrev gA:Nat:=62
abbrev oB:Nat:=63
abbrev iz:Nat:=64
end Z
set_option maxHeartbeats 0
namespace Z
open PySem PySem.W PySem.Calls PyProof.Rows L2
def Tj (s:QdM):Pos:=match s with
 | .FunctionDef _ _ _ _ _ _ _ _ _ p=>p
 | _=>default
@[reducible] noncomputable def hs (s:String) (t:Nat):Fk := .str (.ofString s) t
@[reducible] noncomputable def hy (P:Params) (s:String) (t:Nat) (v:Fk):QdC:=⟨PyData.keyHash P (.ofString s),.str (.ofString s) t,v⟩
@[reducible] noncomputable def ht (xs:Array Fk):Obj:=⟨.type "tuple",none,.seq xs 0,#[]⟩
@[reducible] noncomputable def hf (n q:String) (s:QdM) (m:Fk) (c:Gc):Obj:=⟨.type "function",none,.func (fnOf (.ofString n) (.ofString q) (cQ s) (cy s) (aj s) .none .none .none m none (.ref c) .none),#[]⟩
@[reducible] noncomputable def hc (n:String) (t1:Nat) (q:String) (t2 t3:Nat) (i1 i2 i3:Int) (r1:Gc) (b:Bool) (i4:Int) (r2 r3 r4 r5:Gc) (i5 i6:Int) (t4:Nat):Obj:=⟨.type "code",none,.fields #[.str (.ofString n) t1,.str (.ofString q) t2,.str (.ofString "/claim/cut.py") t3,.int i1 0,.int i2 0,.int 0 0,.int 0 0,.int i3 0,.ref r1,.bool b,.int i4 0,.ref r2,.none,.ref r3,.ref r4,.ref r5,.int i5 0,.int i6 0,.str (.ofString "/claim/cut.py") t4],#[]⟩
def W3:Params->Frag:=fun P=>
 (nat_lit 3,⟨(.type "dict"),none,(.dict #[hy P "__name__" 165 (hs "law_oddlong_k34_all_numbers_and_pairs" 713),hy P "__doc__" 166 .none,hy P "__package__" 167 .none,hy P "__loader__" 168 (.builtin "__main__.__loader__#opaque"),hy P "__spec__" 169 .none,hy P "__annotations__" 170 (.ref 6),hy P "__builtins__" 171 (.ref 4),hy P "__file__" 173 (hs "/claim/cut.py" 172),hy P "__cached__" 174 .none,hy P "OddError" 206 (.ref 24),hy P "BadText" 231 (.ref 44),hy P "NoForm" 256 (.ref 63),hy P "TooFar" 281 (.ref 82),hy P "SIGNS" 285 (hs "01" 284),hy P "SMALL_LETTERS" 287 (hs "abcdefghijklmnopqrstuvwxyz" 286),hy P "LONGEST_NAME" 289 (.int 8 288),hy P "SPOT_NAMES" 294 (.ref 85),hy P "SIZE_NAMES" 304 (.ref 86),hy P "JUMPS" 307 (.ref 87),hy P "PARTS" 345 (.ref 88),hy P "made_of" 353 (.ref 106),hy P "is_name" 360 (.ref 113),hy P "is_code" 367 (.ref 120),hy P "two_to" 376 (.ref 127),hy P "figures_of" 386 (.ref 134),hy P "number_of" 395 (.ref 141),hy P "rest_of" 403 (.ref 148),hy P "is_number" 410 (.ref 155),hy P "lookup_of" 418 (.ref 160),hy P "code_at" 430 (.ref 167),hy P "SKIP_FIGURES" 434 (.int 3 433),hy P "put_bare" 445 (.ref 174),hy P "put_part" 455 (.ref 181),hy P "put_distance" 463 (.ref 188),hy P "is_reached" 472 (.ref 195),hy P "bare_at" 483 (.ref 202),hy P "bares_of" 496 (.ref 209),hy P "Reader" 565 (.ref 247),hy P "name_from" 577 (.ref 258),hy P "figures_from" 588 (.ref 265),hy P "many_from" 598 (.ref 272),hy P "distance_from" 609 (.ref 279),hy P "is_book" 617 (.ref 284),hy P "is_entry" 624 (.ref 291),hy P "free" 631 (.ref 298),hy P "clash" 643 (.ref 305),hy P "LEAST_NEAR" 647 (.int 2 646),hy P "MOST_NEAR" 649 (.int 8 648),hy P "MOST_FAR" 651 (.int 16 650),hy P "Form" 689 (.ref 322),hy P "first_wrong" 700 (.ref 333),hy P "is_free_book_of" 706 (.ref 338),hy P "far_is_shorter" 712 (.ref 343),hy P "_law_begin" 722 (.ref 350),hy P "_law_take" 736 (.ref 357),hy P "_law_same" 742 (.ref 362),hy P "_law_mixed" 752 (.ref 369),hy P "_law_codes" 758 (.ref 374),hy P "_law_kinds" 764 (.ref 381),hy P "_law_sizes" 770 (.ref 388),hy P "_law_parts" 785 (.ref 395),hy P "_law_form" 792 (.ref 402),hy P "_law_figures" 802 (.ref 409),hy P "_law_power" 811 (.ref 416),hy P "_law_far_word" 818 (.ref 423),hy P "_law_put" 824 (.ref 428),hy P "law" 830 (.ref 433)] 67),#[]⟩) ::
 (nat_lit 23,⟨(.type "dict"),none,(.dict #[hy P "__module__" 196 (hs "oddlong.errors" 187),hy P "__firstlineno__" 200 (.int 2 199),hy P "__static_attributes__" 201 (.ref 22),hy P "__weakref__" 203 (.ref 25),hy P "__doc__" 204 .none] 3),#[]⟩) ::
 (nat_lit 24,⟨(.type "type"),none,(.cls ⟨(.ofString "OddError"),[(.type "ValueError")],[(.ref 24),(.type "ValueError"),(.type "Exception"),(.type "BaseException"),(.type "object")],23,(.ofString "OddError"),true,[],[(.ref 44),(.ref 63),(.ref 82)],false,none,false⟩),#[(some (.ref 15)),none,(some (hs "OddError" 189)),(some (hs "OddError" 197)),(some (.builtin "ValueError.__new__")),(some (.bool true))]⟩) ::
 (nat_lit 44,⟨(.type "type"),none,(.cls ⟨(.ofString "BadText"),[(.ref 24)],[(.ref 44),(.ref 24),(.type "ValueError"),(.type "Exception"),(.type "BaseException"),(.type "object")],43,(.ofString "BadText"),true,[],[],false,none,false⟩),#[(some (.ref 28)),none,(some (hs "BadText" 207)),(some (hs "BadText" 215)),(some (.builtin "ValueError.__new__")),(some (.bool true))]⟩) ::
 (nat_lit 59,hc "__init__" 244 "NoForm.__init__" 245 246 10 2 3 54 true 181 55 56 57 58 249 10 250) ::
 (nat_lit 60,hf "__init__" "NoForm.__init__" (inClass (top 3) 0) (hs "oddlong.errors" 187) 59) ::
 (nat_lit 62,⟨(.type "dict"),none,(.dict #[hy P "__module__" 239 (hs "oddlong.errors" 187),hy P "__firstlineno__" 243 (.int 8 242),hy P "__init__" 251 (.ref 60),hy P "__static_attributes__" 253 (.ref 61),hy P "__doc__" 254 .none] 2),#[]⟩) ::
 (nat_lit 63,⟨(.type "type"),none,(.cls ⟨(.ofString "NoForm"),[(.ref 24)],[(.ref 63),(.ref 24),(.type "ValueError"),(.type "Exception"),(.type "BaseException"),(.type "object")],62,(.ofString "NoForm"),true,[],[],false,none,false⟩),#[(some (.ref 47)),none,(some (hs "NoForm" 232)),(some (hs "NoForm" 240)),(some (.builtin "ValueError.__new__")),(some (.bool true))]⟩) ::
 (nat_lit 78,hc "__init__" 269 "TooFar.__init__" 270 271 14 2 3 73 true 181 74 75 76 77 274 14 275) ::
 (nat_lit 79,hf "__init__" "TooFar.__init__" (inClass (top 4) 0) (hs "oddlong.errors" 187) 78) ::
 (nat_lit 81,⟨(.type "dict"),none,(.dict #[hy P "__module__" 264 (hs "oddlong.errors" 187),hy P "__firstlineno__" 268 (.int 12 267),hy P "__init__" 276 (.ref 79),hy P "__static_attributes__" 278 (.ref 80),hy P "__doc__" 279 .none] 2),#[]⟩) ::
 (nat_lit 82,⟨(.type "type"),none,(.cls ⟨(.ofString "TooFar"),[(.ref 24)],[(.ref 82),(.ref 24),(.type "ValueError"),(.type "Exception"),(.type "BaseException"),(.type "object")],81,(.ofString "TooFar"),true,[],[],false,none,false⟩),#[(some (.ref 66)),none,(some (hs "TooFar" 257)),(some (hs "TooFar" 265)),(some (.builtin "ValueError.__new__")),(some (.bool true))]⟩) ::
 (nat_lit 85,ht #[(hs "a" 290),(hs "b" 291),(hs "c" 292),(hs "d" 293)]) ::
 (nat_lit 86,ht #[(hs "none" 295),(hs "one" 296),(hs "two" 297),(hs "three" 298),(hs "four" 299),(hs "five" 300),(hs "six" 301),(hs "seven" 302),(hs "eight" 303)]) ::
 (nat_lit 87,ht #[(hs "jump" 305),(hs "zero" 306)]) ::
 (nat_lit 88,⟨(.type "dict"),none,(.dict #[hy P "set" 308 (.ref 89),hy P "add" 311 (.ref 90),hy P "take" 314 (.ref 91),hy P "tell" 317 (.ref 92),hy P "ask" 319 (.ref 93),hy P "jump" 321 (.ref 94),hy P "zero" 323 (.ref 95),hy P "stop" 326 (.ref 96),hy P "farjump" 327 (.ref 97),hy P "farzero" 329 (.ref 98),hy P "skip" 332 (.ref 99)] 11),#[]⟩) ::
 (nat_lit 89,ht #[(hs "spot" 309),(hs "number" 310)]) ::
 (nat_lit 90,ht #[(hs "spot" 312),(hs "spot" 313)]) ::
 (nat_lit 91,ht #[(hs "spot" 315),(hs "spot" 316)]) ::
 (nat_lit 92,ht #[(hs "spot" 318)]) ::
 (nat_lit 93,ht #[(hs "spot" 320)]) ::
 (nat_lit 94,ht #[(hs "near" 322)]) ::
 (nat_lit 95,ht #[(hs "spot" 324),(hs "near" 325)]) ::
 (nat_lit 96,ht #[]) ::
 (nat_lit 97,ht #[(hs "far" 328)]) ::
 (nat_lit 98,ht #[(hs "spot" 330),(hs "far" 331)]) ::
 (nat_lit 99,ht #[(hs "many" 333)]) ::
 (nat_lit 105,hc "made_of" 346 "made_of" 347 348 24 2 3 100 true 181 101 102 103 104 351 24 352) ::
 (nat_lit 106,hf "made_of" "made_of" (top 13) (hs "oddlong.shared" 282) 105) ::
 (nat_lit 112,hc "is_name" 354 "is_name" 355 356 26 1 3 107 true 181 108 109 110 111 358 26 359) ::
 (nat_lit 113,hf "is_name" "is_name" (top 14) (hs "oddlong.shared" 282) 112) ::
 (nat_lit 119,hc "is_code" 361 "is_code" 362 363 28 1 3 114 true 181 115 116 117 118 365 28 366) ::
 (nat_lit 120,hf "is_code" "is_code" (top 15) (hs "oddlong.shared" 282) 119) ::
 (nat_lit 126,hc "two_to" 368 "two_to" 369 370 30 1 3 121 true 181 122 123 124 125 374 30 375) ::
 (nat_lit 127,hf "two_to" "two_to" (top 16) (hs "oddlong.shared" 282) 126) ::
 (nat_lit 133,hc "figures_of" 377 "figures_of" 378 379 35 2 3 128 true 181 129 130 131 132 384 35 385) ::
 (nat_lit 134,hf "figures_of" "figures_of" (top 17) (hs "oddlong.shared" 282) 133) ::
 (nat_lit 140,hc "number_of" 387 "number_of" 388 389 41 1 3 135 true 181 136 137 138 139 393 41 394) ::
 (nat_lit 141,hf "number_of" "number_of" (top 18) (hs "oddlong.shared" 282) 140) ::
 (nat_lit 147,hc "rest_of" 396 "rest_of" 397 398 46 2 3 142 true 181 143 144 145 146 401 46 402) ::
 (nat_lit 148,hf "rest_of" "rest_of" (top 19) (hs "oddlong.shared" 282) 147) ::
 (nat_lit 154,hc "is_number" 404 "is_number" 405 406 52 1 3 149 true 181 150 151 152 153 408 52 409) ::
 (nat_lit 155,hf "is_number" "is_number" (top 20) (hs "oddlong.shared" 282) 154) ::
 (nat_lit 159,⟨(.type "code"),none,(.fields #[(hs "lookup_of" 413),(hs "lookup_of" 414),(hs "/claim/cut.py" 415),(.int 55 0),(.int 1 0),(.int 0 0),(.int 0 0),(.int 3 0),(.ref 156),(.bool true),(.int 181 0),(.ref 157),.none,.none,.none,(.ref 158),(.int 416 0),(.int 55 0),(hs "/claim/cut.py" 417)]),#[]⟩) ::
 (nat_lit 160,hf "lookup_of" "lookup_of" (top 22) (hs "oddlong.texts" 411) 159) ::
 (nat_lit 166,hc "code_at" 419 "code_at" 420 421 57 4 3 161 true 181 162 163 164 165 428 57 429) ::
 (nat_lit 167,hf "code_at" "code_at" (top 23) (hs "oddlong.texts" 411) 166) ::
 (nat_lit 173,hc "put_bare" 435 "put_bare" 436 437 65 2 3 168 true 181 169 170 171 172 443 65 444) ::
 (nat_lit 174,hf "put_bare" "put_bare" (top 26) (hs "oddlong.bare" 431) 173) ::
 (nat_lit 180,hc "put_part" 446 "put_part" 447 448 70 3 3 175 true 181 176 177 178 179 453 70 454) ::
 (nat_lit 181,hf "put_part" "put_part" (top 27) (hs "oddlong.bare" 431) 180) ::
 (nat_lit 187,hc "put_distance" 456 "put_distance" 457 458 79 2 3 182 true 181 183 184 185 186 461 79 462) ::
 (nat_lit 188,hf "put_distance" "put_distance" (top 28) (hs "oddlong.bare" 431) 187) ::
 (nat_lit 194,hc "is_reached" 464 "is_reached" 465 466 85 2 3 189 true 181 190 191 192 193 470 85 471) ::
 (nat_lit 195,hf "is_reached" "is_reached" (top 29) (hs "oddlong.bare" 431) 194) ::
 (nat_lit 201,hc "bare_at" 473 "bare_at" 474 475 88 3 3 196 true 181 197 198 199 200 481 88 482) ::
 (nat_lit 202,hf "bare_at" "bare_at" (top 30) (hs "oddlong.bare" 431) 201) ::
 (nat_lit 208,hc "bares_of" 484 "bares_of" 485 486 93 2 3 203 true 181 204 205 206 207 494 93 495) ::
 (nat_lit 209,hf "bares_of" "bares_of" (top 31) (hs "oddlong.bare" 431) 208) ::
 (nat_lit 222,hc "__init__" 509 "Reader.__init__" 510 511 106 2 3 217 true 181 218 219 220 221 514 106 515) ::
 (nat_lit 223,hf "__init__" "Reader.__init__" (inClass (top 32) 0) (hs "oddlong.bare" 431) 222) ::
 (nat_lit 229,hc "bare_from" 517 "Reader.bare_from" 518 519 113 3 3 224 true 181 225 226 227 228 528 113 529) ::
 (nat_lit 230,hf "bare_from" "Reader.bare_from" (inClass (top 32) 1) (hs "oddlong.bare" 431) 229) ::
 (nat_lit 236,hc "part_from" 531 "Reader.part_from" 532 533 125 4 3 231 true 181 232 233 234 235 538 125 539) ::
 (nat_lit 237,hf "part_from" "Reader.part_from" (inClass (top 32) 2) (hs "oddlong.bare" 431) 236) ::
 (nat_lit 243,hc "number_from" 541 "Reader.number_from" 542 543 134 3 3 238 true 181 239 240 241 242 550 134 551) ::
 (nat_lit 244,hf "number_from" "Reader.number_from" (inClass (top 32) 3) (hs "oddlong.bare" 431) 243) ::
 (nat_lit 246,⟨(.type "dict"),none,(.dict #[hy P "__module__" 504 (hs "oddlong.bare" 431),hy P "__firstlineno__" 508 (.int 104 507),hy P "__init__" 516 (.ref 223),hy P "bare_from" 530 (.ref 230),hy P "part_from" 540 (.ref 237),hy P "number_from" 552 (.ref 244),hy P "__static_attributes__" 558 (.ref 245),hy P "__dict__" 560 (.ref 248),hy P "__weakref__" 562 (.ref 249),hy P "__doc__" 563 .none] 4),#[]⟩) ::
 (nat_lit 247,⟨(.type "type"),none,(.cls ⟨(.ofString "Reader"),[(.type "object")],[(.ref 247),(.type "object")],246,(.ofString "Reader"),true,[],[],false,none,false⟩),#[none,none,(some (hs "Reader" 497)),(some (hs "Reader" 505)),(some (.builtin "object.__new__")),(some (.bool true))]⟩) ::
 (nat_lit 257,hc "name_from" 566 "name_from" 567 568 142 3 3 252 true 181 253 254 255 256 575 142 576) ::
 (nat_lit 258,hf "name_from" "name_from" (top 33) (hs "oddlong.bare" 431) 257) ::
 (nat_lit 264,hc "figures_from" 578 "figures_from" 579 580 148 4 3 259 true 181 260 261 262 263 586 148 587) ::
 (nat_lit 265,hf "figures_from" "figures_from" (top 34) (hs "oddlong.bare" 431) 264) ::
 (nat_lit 271,hc "many_from" 589 "many_from" 590 591 153 2 3 266 true 181 267 268 269 270 596 153 597) ::
 (nat_lit 272,hf "many_from" "many_from" (top 35) (hs "oddlong.bare" 431) 271) ::
 (nat_lit 278,hc "distance_from" 599 "distance_from" 600 601 158 3 3 273 true 181 274 275 276 277 607 158 608) ::
 (nat_lit 279,hf "distance_from" "distance_from" (top 36) (hs "oddlong.bare" 431) 278) ::
 (nat_lit 283,⟨(.type "code"),none,(.fields #[(hs "is_book" 612),(hs "is_book" 613),(hs "/claim/cut.py" 614),(.int 166 0),(.int 1 0),(.int 0 0),(.int 0 0),(.int 3 0),(.ref 280),(.bool true),(.int 181 0),(.ref 281),.none,.none,.none,(.ref 282),(.int 615 0),(.int 166 0),(hs "/claim/cut.py" 616)]),#[]⟩) ::
 (nat_lit 284,hf "is_book" "is_book" (top 38) (hs "oddlong.books" 610) 283) ::
 (nat_lit 290,hc "is_entry" 618 "is_entry" 619 620 172 1 3 285 true 181 286 287 288 289 622 172 623) ::
 (nat_lit 291,hf "is_entry" "is_entry" (top 39) (hs "oddlong.books" 610) 290) ::
 (nat_lit 297,hc "free" 625 "free" 626 627 174 1 3 292 true 181 293 294 295 296 629 174 630) ::
 (nat_lit 298,hf "free" "free" (top 40) (hs "oddlong.books" 610) 297) ::
 (nat_lit 304,hc "clash" 632 "clash" 633 634 176 1 3 299 true 181 300 301 302 303 641 176 642) ::
 (nat_lit 305,hf "clash" "clash" (top 41) (hs "oddlong.books" 610) 304) ::
 (nat_lit 318,hc "__init__" 664 "Form.__init__" 665 666 188 6 3 313 true 181 314 315 316 317 674 188 675) ::
 (nat_lit 319,hf "__init__" "Form.__init__" (inClass (top 46) 0) (hs "oddlong.forms" 644) 318) ::
 (nat_lit 321,⟨(.type "dict"),none,(.dict #[hy P "__module__" 659 (hs "oddlong.forms" 644),hy P "__firstlineno__" 663 (.int 186 662),hy P "__init__" 676 (.ref 319),hy P "__static_attributes__" 682 (.ref 320),hy P "__dict__" 684 (.ref 323),hy P "__weakref__" 686 (.ref 324),hy P "__doc__" 687 .none] 4),#[]⟩) ::
 (nat_lit 322,⟨(.type "type"),none,(.cls ⟨(.ofString "Form"),[(.type "object")],[(.ref 322),(.type "object")],321,(.ofString "Form"),true,[],[],false,none,false⟩),#[none,none,(some (hs "Form" 652)),(some (hs "Form" 660)),(some (.builtin "object.__new__")),(some (.bool true))]⟩) ::
 (nat_lit 332,hc "first_wrong" 690 "first_wrong" 691 692 197 5 3 327 true 181 328 329 330 331 698 197 699) ::
 (nat_lit 333,hf "first_wrong" "first_wrong" (top 47) (hs "oddlong.forms" 644) 332) ::
 (nat_lit 337,⟨(.type "code"),none,(.fields #[(hs "is_free_book_of" 701),(hs "is_free_book_of" 702),(hs "/claim/cut.py" 703),(.int 209 0),(.int 2 0),(.int 0 0),(.int 0 0),(.int 3 0),(.ref 334),(.bool true),(.int 181 0),(.ref 335),.none,.none,.none,(.ref 336),(.int 704 0),(.int 209 0),(hs "/claim/cut.py" 705)]),#[]⟩) ::
 (nat_lit 338,hf "is_free_book_of" "is_free_book_of" (top 48) (hs "oddlong.forms" 644) 337) ::
 (nat_lit 342,⟨(.type "code"),none,(.fields #[(hs "far_is_shorter" 707),(hs "far_is_shorter" 708),(hs "/claim/cut.py" 709),(.int 214 0),(.int 3 0),(.int 0 0),(.int 0 0),(.int 3 0),(.ref 339),(.bool true),(.int 181 0),(.ref 340),.none,.none,.none,(.ref 341),(.int 710 0),(.int 214 0),(hs "/claim/cut.py" 711)]),#[]⟩) ::
 (nat_lit 343,hf "far_is_shorter" "far_is_shorter" (top 49) (hs "oddlong.forms" 644) 342) ::
 (nat_lit 349,hc "_law_begin" 715 "_law_begin" 716 717 218 1 3 344 true 181 345 346 347 348 720 218 721) ::
 (nat_lit 350,hf "_law_begin" "_law_begin" (top 51) (hs "law_oddlong_k34_all_numbers_and_pairs" 713) 349) ::
 (nat_lit 356,hc "_law_take" 723 "_law_take" 724 725 223 2 3 351 true 181 352 353 354 355 734 223 735) ::
 (nat_lit 357,hf "_law_take" "_law_take" (top 52) (hs "law_oddlong_k34_all_numbers_and_pairs" 713) 356) ::
 (nat_lit 361,⟨(.type "code"),none,(.fields #[(hs "_law_same" 737),(hs "_law_same" 738),(hs "/claim/cut.py" 739),(.int 235 0),(.int 2 0),(.int 0 0),(.int 0 0),(.int 3 0),(.ref 358),(.bool true),(.int 181 0),(.ref 359),.none,.none,.none,(.ref 360),(.int 740 0),(.int 235 0),(hs "/claim/cut.py" 741)]),#[]⟩) ::
 (nat_lit 362,hf "_law_same" "_law_same" (top 53) (hs "law_oddlong_k34_all_numbers_and_pairs" 713) 361) ::
 (nat_lit 368,hc "_law_mixed" 743 "_law_mixed" 744 745 249 2 3 363 true 181 364 365 366 367 750 249 751) ::
 (nat_lit 369,hf "_law_mixed" "_law_mixed" (top 54) (hs "law_oddlong_k34_all_numbers_and_pairs" 713) 368) ::
 (nat_lit 373,⟨(.type "code"),none,(.fields #[(hs "_law_codes" 753),(hs "_law_codes" 754),(hs "/claim/cut.py" 755),(.int 255 0),(.int 3 0),(.int 0 0),(.int 0 0),(.int 3 0),(.ref 370),(.bool true),(.int 181 0),(.ref 371),.none,.none,.none,(.ref 372),(.int 756 0),(.int 255 0),(hs "/claim/cut.py" 757)]),#[]⟩) ::
 (nat_lit 374,hf "_law_codes" "_law_codes" (top 55) (hs "law_oddlong_k34_all_numbers_and_pairs" 713) 373) ::
 (nat_lit 380,hc "_law_kinds" 759 "_law_kinds" 760 761 265 0 3 375 true 181 376 377 378 379 762 265 763) ::
 (nat_lit 381,hf "_law_kinds" "_law_kinds" (top 56) (hs "law_oddlong_k34_all_numbers_and_pairs" 713) 380) ::
 (nat_lit 387,hc "_law_sizes" 765 "_law_sizes" 766 767 267 0 3 382 true 181 383 384 385 386 768 267 769) ::
 (nat_lit 388,hf "_law_sizes" "_law_sizes" (top 57) (hs "law_oddlong_k34_all_numbers_and_pairs" 713) 387) ::
 (nat_lit 394,hc "_law_parts" 771 "_law_parts" 772 773 269 1 3 389 true 181 390 391 392 393 783 269 784) ::
 (nat_lit 395,hf "_law_parts" "_law_parts" (top 58) (hs "law_oddlong_k34_all_numbers_and_pairs" 713) 394) ::
 (nat_lit 401,hc "_law_form" 786 "_law_form" 787 788 281 1 3 396 true 181 397 398 399 400 790 281 791) ::
 (nat_lit 402,hf "_law_form" "_law_form" (top 59) (hs "law_oddlong_k34_all_numbers_and_pairs" 713) 401) ::
 (nat_lit 408,hc "_law_figures" 793 "_law_figures" 794 795 283 2 3 403 true 181 404 405 406 407 800 283 801) ::
 (nat_lit 409,hf "_law_figures" "_law_figures" (top 60) (hs "law_oddlong_k34_all_numbers_and_pairs" 713) 408) ::
 (nat_lit 415,hc "_law_power" 803 "_law_power" 804 805 289 1 3 410 true 181 411 412 413 414 809 289 810) ::
 (nat_lit 416,hf "_law_power" "_law_power" (top 61) (hs "law_oddlong_k34_all_numbers_and_pairs" 713) 415) ::
 (nat_lit 422,hc "_law_far_word" 812 "_law_far_word" 813 814 294 1 3 417 true 181 418 419 420 421 816 294 817) ::
 (nat_lit 423,hf "_law_far_word" "_law_far_word" (top 62) (hs "law_oddlong_k34_all_numbers_and_pairs" 713) 422) ::
 (nat_lit 427,⟨(.type "code"),none,(.fields #[(hs "_law_put" 819),(hs "_law_put" 820),(hs "/claim/cut.py" 821),(.int 296 0),(.int 2 0),(.int 0 0),(.int 0 0),(.int 3 0),(.ref 424),(.bool true),(.int 181 0),(.ref 425),.none,.none,.none,(.ref 426),(.int 822 0),(.int 296 0),(hs "/claim/cut.py" 823)]),#[]⟩) ::
 (nat_lit 428,hf "_law_put" "_law_put" (top 63) (hs "law_oddlong_k34_all_numbers_and_pairs" 713) 427) ::
 (nat_lit 432,⟨(.type "code"),none,(.fields #[(hs "law" 825),(hs "law" 826),(hs "/claim/cut.py" 827),(.int 315 0),(.int 1 0),(.int 0 0),(.int 0 0),(.int 3 0),(.ref 429),(.bool true),(.int 181 0),(.ref 430),.none,.none,.none,(.ref 431),(.int 828 0),(.int 315 0),(hs "/claim/cut.py" 829)]),#[]⟩) ::
 (nat_lit 433,hf "law" "law" (top 64) (hs "law_oddlong_k34_all_numbers_and_pairs" 713) 432)::[]
def khA:List Gc:=3::23::24::44::59::60::62::63::78::79::81::82::85::86::87::88::89::90::91::92::93::94::95::96::97::98::99::105::106::112::113::119::120::126::127::133::134::140::141::147::148::154::155::159::160::166::167::173::174::180::181::187::188::194::195::201::202::208::209::222::223::229::230::236::237::243::244::246::247::257::258::264::265::271::272::278::279::283::284::290::291::297::298::304::305::318::319::321::322::332::333::337::338::342::343::349::350::356::357::361::362::368::369::373::374::380::381::387::388::394::395::401::402::408::409::415::416::422::423::427::428::432::433::[]
def Fz:Qaf:=view Qba [1,2,3,4,6,7,8,9,10,11,12,13,14,15,16,17,18,19,20,22,23,25,26,27,28,29,30,31,32,33,34,35,36,38,39,40,41,43,44,45,46,47,48,49,51,52,53,54,55,56,57,58,59,60,61,62,63,64]
def Pg:List Str:=[.ofString "PARTS"]
def Pe:∀P,khA=(W3 P).map (·.1):=fun _=>by kernel_rfl
abbrev MU:Hook:=kHook W3 khA Pe
abbrev Z3:KE->Bool:=fun s=>xlAt Fz [] s&&recOk (RowW.records (Qez (Qed Qam))) s
def Kz {p q:Qaf}{loose:List Str}{Xt:KE->Bool}{α:Type}{Yf:KE -> α}{Ya:Qag -> α}{N:Nat}{g0:Bool}(e:opening p=plainProg p.main.scope.names)(hN:Nat.ble 600 N=true)(f:∀s,fenceModules? p s=some s)
  (h:∀w:Qag,(fun os=>(Qdf treeTable p w N ⟨boot_heap w.params,Array.mk [],boot_drawn,boot_toks,os⟩).map fun s=>(openSeen q loose (importedModules p.main.body) Xt g0 s,Yf s))=fun _=>some (openGood q loose,Ya w)):LeftO p q loose Xt Yf Ya N g0:=fun w=>by
 obtain⟨⟨hp,gs,d,k,os⟩,e1,e2⟩:=Option.map_eq_some_iff.mp (boot_open e hN f w);obtain⟨rfl,rfl,rfl,rfl⟩:hp=boot_heap w.params/\gs=Array.mk []/\d=boot_drawn/\k=boot_toks:=by simpa using e2
 unfold openEnds;rw[e1];exact congrFun (h w) os
def Lq:OpenLaw.wellSaid Qam=true:=by
 rw[PySem.W.Fast.te9446332074065402090]
 kernel_rfl
abbrev BP (w:Qag)(os:OsState):Option KE:=Qdf treeTable Qba w 6334 ⟨boot_heap w.params,Array.mk [],boot_drawn,boot_toks,os⟩
abbrev xc (s:KE):=openSeen Fz Pg (importedModules PySem.Challenge.pw_oddlong_k34_all_numbers_and_pairs.main.body) Z3 true s
abbrev Dr (w:Qag):Prop:=(fun os=>(BP (w) os).map fun s=>((xc s).1,(xc s).2.1,(xc s).2.2.2.2.2.2.1,(xc s).2.2.2.2.2.2.2.2))=fun _=>some (expectedOf Fz,bltViewBooted,plainGoodD Fz Pg,clsGoodW Fz Pg)
def Dy (w:Qag):Dr (w.withFollow "special-get-raises" false):=by
 unfold Dr BP xc Qdf;rw[Qau,Qat,Qaw]
 kernel_rfl
def HM (w:Qag):Dr (w.withFollow "special-get-raises" true):=by
 unfold Dr BP xc Qdf;rw[Qau,Qat,Qaw]
 kernel_rfl
def RL (w:Qag):Dr w:=byRow2 "special-get-raises" (P:=Dr) Dy HM w
abbrev En (w:Qag):Prop:=(fun os=>(BP (w) os).map fun s=>((xc s).2.2.1,(xc s).2.2.2.1))=fun _=>some (true,true)
def Eg (w:Qag):En (w.withFollow "special-get-raises" false):=by
 unfold En BP xc Qdf;rw[Qau,Qat,Qaw]
 kernel_rfl
def JQ (w:Qag):En (w.withFollow "special-get-raises" true):=by
 unfold En BP xc Qdf;rw[Qau,Qat,Qaw]
 kernel_rfl
def Sb (w:Qag):En w:=byRow2 "special-get-raises" (P:=En) Eg JQ w
abbrev ER (w:Qag):Prop:=(fun os=>(BP (w) os).map fun s=>((xc s).2.2.2.2.1,(xc s).2.2.2.2.2.1))=fun _=>some (pinGoodD (drecsOf Fz),plainGoodE Fz (looseW Fz Pg))
def EF (w:Qag):ER (w.withFollow "special-get-raises" false):=by
 unfold ER BP xc Qdf;rw[Qau,Qat,Qaw]
 kernel_rfl
def HJ (w:Qag):ER (w.withFollow "special-get-raises" true):=by
 unfold ER BP xc Qdf;rw[Qau,Qat,Qaw]
 kernel_rfl
def Q3 (w:Qag):ER w:=byRow2 "special-get-raises" (P:=ER) EF HJ w
abbrev FD (w:Qag):Prop:=(fun os=>(BP (w) os).map fun s=>((xc s).2.2.2.2.2.2.2.1,Hook.obs MU s))=fun _=>some (wideGood Fz,Hook.val MU (w))
def EM (w:Qag):FD (w.withFollow "special-get-raises" false):=by
 unfold FD BP xc Qdf;rw[Qau,Qat,Qaw]
 kernel_rfl
def Gi (w:Qag):FD (w.withFollow "special-get-raises" true):=by
 unfold FD BP xc Qdf;rw[Qau,Qat,Qaw]
 kernel_rfl
def Sj (w:Qag):FD w:=byRow2 "special-get-raises" (P:=FD) EM Gi w
def P4 {S A1 A2 A3 A4 A5 A6 A7 A8 A9 B:Type}{x:Option S}{f:S->A1×A2×A3×A4×A5×A6×A7×A8×A9}{o:S->B}{c1:A1}{c2:A2}{c3:A3}{c4:A4}{c5:A5}{c6:A6}{c7:A7}{c8:A8}{c9:A9}{b:B}
  (h:∀s,x=some s->(f s,o s)=((c1,c2,c3,c4,c5,c6,c7,c8,c9),b)) (h0:x=none->False):x.map (fun s=>(f s,o s))=some ((c1,c2,c3,c4,c5,c6,c7,c8,c9),b):=by
 cases x with
 | none=>exact(h0 rfl).elim
 | some s=>exact congrArg some (h s rfl)
def Qc (w:Qag):(fun os=>(BP w os).map fun s=>(xc s,Hook.obs MU s))=fun _=>some (openGood Fz Pg,Hook.val MU w):=by
 funext os
 have e0:=congrFun (RL w) os;have e1:=congrFun (Sb w) os;have e2:=congrFun (Q3 w) os;have e3:=congrFun (Sj w) os;refine P4 (fun s hs =>?_) fun hs =>?_
 ·generalize BP w os=x at hs e0 e1 e2 e3;subst hs;replace e0:=Qao e0;replace e1:=Qao e1;replace e2:=Qao e2;replace e3:=Qao e3;refine Qcx ?_ (QaU e3).2;exact Qcx ((QaU e0).1) (Qcx ((QaU (QaU e0).2).1) (Qcx ((QaU e1).1) (Qcx ((QaU e1).2) (Qcx ((QaU e2).1) (Qcx ((QaU e2).2) (Qcx ((QaU (QaU (QaU e0).2).2).1) (Qcx ((QaU e3).1) ((QaU (QaU (QaU e0).2).2).2))))))))
 ·rw[hs] at e0;cases e0
def Ku:LeftO Qba Fz Pg Z3 (Hook.obs MU) (Hook.val MU) 6334 true:=Kz rfl rfl (fun _=>rfl) Qc
def khD:DefRec:=⟨.ofString "law",cQ (top iz),cy (top iz),aj (top iz),Tj (top iz)⟩
def Kr (hw:RowW.promised (Qez (Qed Qam)))(h:WalkO Fz Pg (XL Fz []) (InK W3) (Qez (Qed Qam)) khD [] fun f vs=>QeQ f vs):OpenLaw.Holds Qam:=
 holds_law Lq fun sd=>holds_open (r:=Qed Qam) (d:=khD) (kwd:=[]) Ku (Hook.of MU) (Hook.keeps MU) (fun s e=>xl_of s (Bool.and_eq_true_iff.mp e).1) XL.keeps (by kernel_rfl) (by kernel_rfl) (by kernel_rfl) (fun s e=>recFacts_of (Bool.and_eq_true_iff.mp e).2) rfl sd ∅ ⟨rfl,rfl,rfl,rfl,rfl,∅⟩ hw h
end Z
set_option maxHeartbeats 4000000
namespace L2
open PySem PySem.Spec PyProof.Rows
abbrev oK:Fk->KE->Prop:=fun _ _=>False
def cS {Q: α->KE->Prop}{E:Fk->KE->Prop}{s:KE}(h:Qaa M A t Q oK s):Qaa M A t Q E s:=
 Qbr h (fun _ _ q=>q) fun _ _ z=>z.elim
def cA {a b:Gc}{n:Nat}(h:a<n)(h':n<=b):a≠b:=by grind
def mx {a b:Gc}{n:Nat}(h:a<n)(h':n<=b):b≠a:=fun e=>cA h h' e.symm
def lG (env:Env):∀(names:List (Str×Qcw)) (acc:List (Str×Gc)),
  (∀y∈names,y.2 = .free->∃c,env.cells.lookup y.1=some c)->(∀n c,acc.lookup n=some c->env.cells.lookup n=some c) ->
  ∃cl,(forIn names acc fun x cs=>(if (x.2==QaY)=true then do
    let a <-cellOf env x.1
    pure (Qc2 ((x.1,a)::cs)) else pure (Qc2 cs):Sem (ForInStep (List (Str×Gc)))))=pure cl /\
   (∀n c,cl.lookup n=some c->env.cells.lookup n=some c)/\(∀n c,acc.lookup n=some c->∃c',cl.lookup n=some c')/\∀y∈names,y.2 = .free->∃c,cl.lookup y.1=some c
 | [],acc,_,h2=>⟨acc,rfl,h2,fun _ c h=>⟨c,h⟩,fun _ h=>nomatch h⟩
 | (n,k)::r,acc,h1,h2=>by
  have hr:=fun y hy=>h1 y (Jk _ hy)
  by_cases hk:k = .free
  ·subst hk;obtain⟨c,hc⟩:=h1 (n,.free) Jn rfl;obtain⟨cl,e,p1,p2,p3⟩:=lG env r ((n,c)::acc) hr (fun m d hm=>by
    rw[Uk] at hm
    by_cases q:m==n
    ·rw[q] at hm;have:m=n:=by simpa using q
     subst this;cases hm;exact hc
    ·have q':(m==n)=false:=by simpa using q
     rw[q'] at hm;exact h2 m d hm)
   refine⟨cl,?_,p1,fun m d hm =>?_,fun y hy hf =>?_⟩
   ·rw[QeG];rw[<-e];unfold cellOf;rw[hc]
    rfl
   ·by_cases q:m=n
    ·subst q;exact p2 m c (by rw[Uk];simp)
    ·exact p2 m d (by rw[Uk];simp -iota only [beq_eq_false_iff_ne.mpr q];exact hm)
   ·rcases Jw.mp hy with rfl|hy
    ·exact p2 n c (by rw[Uk];simp)
    ·exact p3 y hy hf
  ·refine ai.el (lG env r acc hr h2) _ ?_;rintro cl e p1 p2 p3;refine⟨cl,?_,p1,p2,fun y hy hf =>?_⟩
   ·rw[QeG,<-e];have hb:(k==QaY)=false:=by simpa using hk
    simp -iota only [hb,if_false]
    rfl
   ·rcases Jw.mp hy with rfl|hy
    ·exact absurd hf hk
    ·exact p3 y hy hf
def lM (h:∀y∈scope.names,y.2 = .free->∃c,env.cells.lookup y.1=some c):
  ∃cl,closureFor scope env=pure cl/\(∀n c,cl.lookup n=some c->env.cells.lookup n=some c)/\∀y∈scope.names,y.2 = .free->∃c,cl.lookup y.1=some c:=by
 obtain⟨cl,e,p1,_,p3⟩:=lG env scope.names [] h (fun n c h=>by simp at h);refine⟨cl,(Eq.trans ?_ (congrArg (fun m=>m >>= fun cs=>(pure cs:Sem _)) e)),p1,p3⟩
 rfl
def pN (ifs:List QaE)(env:Env):Sem Bool:=forIn ifs true fun c r=>if r=true then do let ok <-isTrue c env (QaR c env);pure (Qc2 ok) else pure (Qc2 r)
section
variable {prog:Qaf}{w:Qag}{A:Qax}{R:Qb2->KE->Prop}{s:KE}
def Be {elt target iter:QaE}{ifs:List QaE}{scope:Qb1}{pos:Pos}{it acc:Fk}{env:Env}(I:Nat->KE->Prop)
  (turn:∀n s,I n s->Qaa (Qab prog w) A (QbS it) (fun r s1=>match r with
   | none=>R (.ok .next) s1
   | some v=>Qaa (Qab prog w) A (QcT target it v) (fun _ s1'=>Qaa (Qab prog w) A (QfN target env v) (fun _ s2=>
     Qaa (Qab prog w) A (pN ifs env) (fun ok s3=>
      if ok=true then Qaa (Qab prog w) A (QaR elt env) (fun x s4=>
       Qaa (Qab prog w) A (call (.builtin "list.append") [acc,x]) (fun _ s5=>∃m,m<n/\I m s5) oK s4) oK s3
      else ∃m,m<n/\I m s3) oK s2) oK s1') oK s1) oK s)
  (n:Nat) (h:I n s):Qa2 (Qab prog w) A (.compLoop (.ListComp elt [⟨target,iter,ifs,0⟩] scope pos) 0 it acc env) R s:=by
 refine codeAny_loop rfl I (fun n s hI=>(show Qaa _ A (Sem.onRaise (compTurn (.ListComp elt [⟨target,iter,ifs,0⟩] scope pos) 0 it acc env) (fun x=>do Qc1 x env;Qft x)) _ _ s from wpAny_noted (be (Qbe (be (cS (bh (turn n s hI) fun r s1 h1 =>?_))))))) n h;cases r with
 | none=>exact tz h1
 | some v=>
  refine be (cS (bh h1 fun _ s1' MG=>be (cS (bh MG fun _ s2 h2=>be (cS (bh h2 fun ok s3 h3 =>?_))))));cases ok with
  | false=>exact tz ⟨rfl,h3⟩
  | true=>exact be (be (cS (bh h3 fun x s4 h4=>be (cS (bh h4 fun _ s5 h5=>tz (tz ⟨rfl,h5⟩))))))
end
def jq.adopt (x:jq P w H h)(hn:H a=none)(new:bC P w (upd H a o) h a o):jq P w (upd H a o) h:=fun b u e=>by
 by_cases hb:b=a
 ·subst hb;rw[aq] at e;cases e;exact new
 ·rw[ao hb] at e;exact(x b u e).hX (fun c v _ q=>q) (fun c q=>by rw[ao (ax q hn)];exact q) fun c xs q=>by rw[ao (ax q hn)];exact q
structure gG (X:Cx)(scope:Qb1)(Nc Fc:List Str)(js:List Nat):Prop where
 kind:scope.kind = .function
 nocell:∀y∈scope.names,y.2 ≠ .cell
 names:∀y∈scope.names,y.2 = .local->scope.names.lookup y.1=some .local
 free:∀y∈scope.names,y.2 = .free->X.env.kindOf y.1=some .cell\/X.env.kindOf y.1=some .free
 frees:∀(k:Nat) (x:Str),Fc[k]? = some x->scope.names.lookup x=some .free/\∃j,js[k]? = some j/\X.N[j]? = some x
 lens:js.length=Fc.length
def dY (σ:St)(js:List Nat):St:=js.map fun j=>(σ[j]?).join
def mi (X:Cx)(Nc Fc:List Str)(scope:Qb1)(cl:List (Str×Gc))(C:Gc)(s:KE)(H:Hp)(fp:List Gc):Cx:=
 { X with N:=Nc++Fc,s₀:=s,H₀:=H,env:=compEnvC scope cl C X.env,outer:=X.stack,stack:=X.stack,ex:=fp,fn:=fun _=>false,pn:=[],xe:=oK }
def jo {env:Env}:∀{names:List (Str×Qcw)} {x:Str} {k:Qcw},(names.map fun(n,k)=>if (k==QaY&&env.scope.kind == .function&&env.kindOf n==some .cell) then (n,QcQ) else (n,k)).lookup x=some k ->
  names.lookup x=some k\/(k = .cell/\names.lookup x=some .free)
 | [],_,_,h=>by simp at h
 | (n,k0)::r,x,k,h=>by
  rw[J0] at h;dsimp only at h
  by_cases hx:x=n
  ·subst hx
   by_cases hc:(k0==QaY&&env.scope.kind == .function&&env.kindOf x==some .cell)=true
   ·rw[if_pos hc] at h;simp -iota only [Uk,beq_self_eq_true] at h;have hk:k0 = .free:=by
     have:=(Jv _ _).mp ((Jv _ _).mp hc).1;simpa using this.1
    subst hk;cases h;exact .inr ⟨rfl,by simp only[Uk,beq_self_eq_true]⟩
   ·rw[if_neg hc] at h;simp -iota only [Uk,beq_self_eq_true] at h ⊢;exact .inl h
  ·have hb:=beq_eq_false_iff_ne.mpr hx;have e:=h;have e2:We x (r.map fun(n,k)=>if (k==QaY&&env.scope.kind == .function&&env.kindOf n==some .cell) then (n,QcQ) else (n,k))=some k:=by
    by_cases hc:(k0==QaY&&env.scope.kind == .function&&env.kindOf n==some .cell)=true
    ·rw[if_pos hc] at e;simp -iota only [Uk,hb] at e;exact e
    ·rw[if_neg hc] at e;simp -iota only [Uk,hb] at e;exact e
   simp -iota only [Uk,hb];exact(@jo env r x k) e2
def fL {env:Env}:∀{names:List (Str×Qcw)} {x:Str},names.lookup x=some .free ->
  (names.map fun(n,k)=>if (k==QaY&&env.scope.kind == .function&&env.kindOf n==some .cell) then (n,QcQ) else (n,k)).lookup x=some .cell \/
  (names.map fun(n,k)=>if (k==QaY&&env.scope.kind == .function&&env.kindOf n==some .cell) then (n,QcQ) else (n,k)).lookup x=some .free
 | [],_,h=>by simp at h
 | (n,k0)::r,x,h=>by
  have ih := @fL env r x;rw[J0];dsimp only
  by_cases hx:x=n
  ·subst hx;simp -iota only [Uk,beq_self_eq_true] at h;cases h
   by_cases hc:(QaY==QaY&&env.scope.kind == .function&&env.kindOf x==some .cell)=true
   ·rw[if_pos hc];left;simp only[Uk,beq_self_eq_true]
   ·rw[if_neg hc];right;simp only[Uk,beq_self_eq_true]
  ·have hb:=beq_eq_false_iff_ne.mpr hx;simp -iota only [Uk,hb] at h
   by_cases hc:(k0==QaY&&env.scope.kind == .function&&env.kindOf n==some .cell)=true
   ·rw[if_pos hc];simp -iota only [Uk,hb];exact ih h
   ·rw[if_neg hc];simp -iota only [Uk,hb];exact ih h
def cL:∀{l:List (Str×Qcw)} {x:Str} {k:Qcw},l.lookup x=some k->(x,k)∈l:=fun h=>Qbx h
section
variable {X:Cx}{pins:List (Gc×Obj)}{σ:St}{H:Hp}{s:KE}{scope:Qb1}{Nc Fc:List Str}{js:List Nat}{cl:List (Str×Gc)}{C D:Gc}{fp:List Gc}
def yY:(mi X Nc Fc scope cl C s H fp).env.kindOf x=(scope.names.map fun(n,k)=>if (k==QaY&&X.env.scope.kind == .function&&X.env.kindOf n==some .cell) then (n,QcQ) else (n,k)).lookup x:=rfl
def rJ (I:Inv X pins σ H s)(c:gG X scope Nc Fc js)(dW:∀n c,cl.lookup n=some c->X.env.cells.lookup n=some c)(kH:∀y∈scope.names,y.2 = .free->∃c,cl.lookup y.1=some c)
  (hC:s.heap.objs.size<=C) (hf:∀b∈fp,gj X pins H b) (ho:∀b∈fp,∃o,s.heap.get? b=some o):(mi X Nc Fc scope cl C s H fp).Ok where
 mod:=I.ok.mod
 kind:=c.kind
 glob:=I.ok.glob
 blt:=I.ok.blt
 above:=hC
 inj:=fun x y a h1 h2=>I.ok.inj x y a (dW _ _ h1) (dW _ _ h2)
 has:=fun x hx=>by
  have key:scope.names.lookup x=some .free:=by
   rcases hx with h|h
   ·rcases jo h with q|⟨_,q⟩
    ·exact absurd rfl (c.nocell _ (cL q))
    ·exact q
   ·rcases jo h with q|⟨q,_⟩
    ·exact q
    ·cases q
  exact kH _ (cL key) rfl
 cab:=fun _ _ h=>nomatch h
 hd:=I.ok.hd
 frames:=I.ok.frames
 stk := .inl rfl
 exf:=fun b hb=>⟨fun z=>by
   obtain⟨o,e⟩:=ho b hb;exact cA (Jf e) hC z,fun x a e z=>(hf b hb).2.2.2.2.1 x a (dW _ _ e) z⟩
 bs:=fun b o e=>I.bs b o e
 bsz:=Jg I.ok.bsz I.sz
 noex:=fun b o e hb=>by
  rcases(hf b hb).2.2.2.1 with z|z
  ·exact I.ok.noex b o e z
  ·exact absurd (Jx (Jf (I.ok.bs b o e).1) z) (Ue _)
 exfs:=fun b hb z=>by
  rcases Jw.mp (I.vO b z) with q|q
  ·exact(hf b hb).2.1 q
  ·exact(hf b hb).2.2.1 q
 nV:=I.stack
 frf:=I.vn
def KR (I:Inv X pins σ H s)(c:gG X scope Nc Fc js)(dW:∀n c,cl.lookup n=some c->X.env.cells.lookup n=some c)(kH:∀y∈scope.names,y.2 = .free->∃c,cl.lookup y.1=some c)
  (hC:s.heap.objs.size<=C) (hD:s.heap.objs.size<=D) (Qr:D≠C) (hf:∀b∈fp,gj X pins H b) (ho:∀b∈fp,∃o,s.heap.get? b=some o) {h1:Heap} {t1:Nat} {m:Str->Option Fk} {ob:Obj}
  (hk:∀b o,s.heap.get? b=some o->h1.get? b=some o) (hm:h1.Ns C m) (hob:h1.get? D=some ob) (hnc:∀v,ob.data ≠ .cell v) :
  Inv (mi X Nc Fc scope cl C s H fp) [(D,ob)] (Jt Nc.length none++dY σ js) H { s with heap:=h1,toks:=t1 }:=by
 refine⟨rJ I c dW kH hC hf ho,rfl,I.bare,Un.kept hk,⟨m,hm,fun i x v e1 e2 e3 =>?_⟩,fun x a e =>?_,I.bE.fresh hC,fun x a e=>I.freeC x a (dW x a e),fun p hp =>?_,I.bE.kept hk,?_⟩
 ·have e1:(Nc++Fc)[i]? = some x:=e1
  by_cases hi:i<Nc.length
  ·rw[Uo (by simpa using hi),Yq] at e2
   split at e2<;>cases e2
  ·rw[Uj ⋯] at e1;rw[Uj (by rw[Uh];lia),Uh] at e2;refine ai.el (c.frees _ _ e1) _ ?_;rintro yU j hj hN;have hv: σ[j]? = some (some v):=by
    unfold dY at e2;rw[Jj,hj] at e2;have e2:some ((σ[j]?).join)=some (some v):=e2;cases q: σ[j]? with
    | none=>rw[q] at e2;cases e2
    | some z=>rw[q] at e2;cases e2;rfl
   have kx:=c.free _ (cL yU) rfl;refine ai.el (I.loc) _ ?_;rintro m0 hn0 hl0;have VM:RU X.env.scope x:=by
    rcases kx with k|k
    ·exact .inr (.inl k)
    ·exact .inr (.inr k)
   refine ai.el (hl0 j x v hN hv VM) _ ?_;rintro u ru lk;refine⟨u,ru,.inr ⟨?_,?_⟩⟩
   ·rw[yY];exact fL yU
   ·obtain⟨a,ha⟩:=kH _ (cL yU) rfl;refine⟨a,ha,?_⟩
    rcases lk with ⟨k,_⟩|⟨_,a',ha',hcell⟩
    ·rcases kx with q|q<;>(rw[k] at q;cases q)
    ·have e:=dW _ _ ha;rw[ha'] at e;cases e;exact hcell.keeps hk
 ·obtain⟨v,z⟩:=I.cell x a (dW x a e);exact⟨v,z.keeps hk⟩
 ·have hp:p=(D,ob):=by
   have:p∈[(D,ob)]:=hp;simpa using this
  subst hp;refine⟨hob,I.bE.fresh hD,Qr,fun z =>?_,hnc⟩
  rcases Jw.mp (I.vO D z) with q|q
  ·exact mx I.lt hD q
  ·exact I.SW hD q
 ·show(Jt Nc.length none++dY σ js).length=(Nc++Fc).length;unfold dY;rw[Jp,Jp,Uh,Jc,c.lens]
end
def Mf (X:Cx)(ifs:List QaE)(t:TT):Prop:=
 ∀ ⦃pins:List (Gc×Obj)⦄ (s:KE) (σ:St) (H:Hp) (Q:Bool->Hp->Prop),Inv X pins σ H s->t σ H Q->Qaa (Qab X.prog X.w) X.A (pN ifs X.env) (TP X pins σ Q) X.xe s
def N3:TT:=fun _ H Q=>Q true H
def bP:Mf X [] N3:=fun _ _ _ H _ I h=>wpAny_tests_nil ⟨H,I,h⟩
def L6 (h:PT X c t):Mf X [c] t:=fun pins s σ H Q I hw=>wpAny_tests_one (h s σ H Q I hw)
def BW (J:It)(n:Nat)(js:List Nat)(g:TG)(tc:TT)(te:TE)(σ:St)(H1:Hp)(fin:List V->Hp->Prop):Prop:=
 ∃W:Nat->Nat->List V->Hp->Prop,(∃m,W 0 m [] H1)/\∀i m ys H,W i m ys H ->
  (J.stop i H/\fin ys H) \/
  (J.go i H/\ys.length<M2/\∀x H',J.yld i H x H'->g x (Jt n none++dY σ js) H' fun σ2 H2=>tc σ2 H2 fun b H3=>
   if b=true then te σ2 H3 fun y H4=>∃m',m'<m/\W (i+1) m' (ys++[y]) H4 else ∃m',m'<m/\W (i+1) m' ys H3)
def oY (wi:TI)(n:Nat)(js:List Nat)(g:TG)(tc:TT)(te:TE):TE:=fun σ H Q=>wi σ H fun J H1=>
 BW J n js g tc te σ H1 fun ys H2=>∀p,H2 p=none->Q (.ref p) (upd H2 p (.lst ys))
def Gk (n:Nat)(g:TG):Prop:=∀x σ H Q,g x σ H Q->g x σ H fun σ' H'=>Q σ' H'/\(∀j,n<=j -> σ'[j]? = σ[j]?) /\ σ'.length = σ.length
def T8 (n:Nat)(g:Fp):Prop:=∀x σ H Q,g x σ H Q->g x σ H fun σ' H'=>Q σ' H'/\(∀j,n<=j -> σ'[j]? = σ[j]?) /\ σ'.length = σ.length
def bb {n i:Nat}(h:i<n:=by decide):Gk n (sy i):=fun x σ H Q q=>⟨q,fun j hj=>Yp ⋯,Wc⟩
def gU:T8 n Nr:=fun x σ H Q q=>⟨q.1,q.2,fun _ _=>rfl,rfl⟩
def bR (h1:Gk n t)(h2:T8 n u)(mt:∀x σ H Q Q',(∀a b,Q a b->Q' a b)->t x σ H Q->t x σ H Q')(mu:∀x σ H Q Q',(∀a b,Q a b->Q' a b)->u x σ H Q->u x σ H Q'):T8 n (HS t u):=fun x σ H Q q=>by
 obtain⟨v,r,e,q⟩:=q;refine⟨v,r,e,mt _ _ _ _ _ (fun σ1 H1 z=>(ai.el (z) _ ?_)) (h1 _ _ _ _ q)⟩;rintro z k1 l1;exact mu _ _ _ _ _ (fun σ2 H2 ⟨z2,k2,l2⟩=>⟨z2,fun j hj=>(k2 j hj).trans (k1 j hj),l2.trans l1⟩) (h2 _ _ _ _ z)
def jK {K:Ja}{n m:Nat}{t:Fp}(h:T8 n t):Gk n (K1 K m t):=fun x σ H Q q=>by
 obtain⟨a,xs,e,h1,h2,q⟩:=q;exact⟨a,xs,e,h1,h2,h _ _ _ _ q⟩
def uz {elt tg iter:QaE}{ifs:List QaE}{scope:Qb1}{pos:Pos}{Nc Fc:List Str}{js:List Nat}{wi:TI}{g:TG}{tc:TT}{te:TE}{use:Option (Fk->Sem Unit)}{QV:Fk->KE->Prop}
  (fN:X.calm=true) (c:gG X scope Nc Fc js) (hi:PI X tg iter wi)
  (hg:∀cl C s H fp,PG (mi X Nc Fc scope cl C s H fp) tg g) (DD:∀cl C s H fp,Mf (mi X Nc Fc scope cl C s H fp) ifs tc) (L0:∀cl C s H fp,PE (mi X Nc Fc scope cl C s H fp) elt te) (gk:Gk Nc.length g)
  {pins:List (Gc×Obj)} {s:KE} {σ:St} {H:Hp} {fin:List V->Hp->Prop} (I:Inv X pins σ H s)
  (h:wi σ H fun J H1=>BW J Nc.length js g tc te σ H1 fin)
  (behind:∀C D m ys H2 s2,Inv X pins σ (upd H2 D (.lst ys)) s2->s2.heap.Ns C m->gj X pins (upd H2 D (.lst ys)) C->H2 D=none->fin ys H2->QeN (Qab X.prog X.w) X.A X.xe use QV (.ref D) C (.ok .next) s2)
  (hs:∀x,Qbh iter X.env x=pure x) :
  Qaa (Qab X.prog X.w) X.A (comprehension (.ListComp elt [⟨tg,iter,ifs,0⟩] scope pos) scope X.env (firstIterPos [⟨tg,iter,ifs,0⟩] pos) (newList []) false (QaR iter X.env) use) QV X.xe s:=by
 obtain⟨cl,hclos,dW,kH⟩:=lM fun y hy hf=>I.ok.has y.1 (c.free y hy hf);refine Qdm rfl hs hclos c.kind c.names (bh (hi s σ H _ I h) fun v s1 h1=>bh h1 fun Rg s2 h2 =>?_);obtain⟨it,fp,tn,J,H2,e,I2,T,pJ,f2,W,⟨m0,w0⟩,turn⟩:=h2;subst e;refine QaM (Qd6 c.nocell (by intro y hy;simp at hy) (fun h1 hns1 hsb1 =>?_) c.kind);generalize hG:s2.heap.push { cls := .type "list",dict:=none,data := .seq ([]:List Fk).toArray } = G at hns1 hsb1 ⊢;have hC:G.objs.size=s2.heap.objs.size+1:=by rw[<-hG,Ua]
 have Qr:s2.heap.objs.size≠G.objs.size:=by rw[hC];exact Jo (Y8 _)
 have hle:s2.heap.objs.size<=G.objs.size:=by rw[hC];exact Yx _
 have old:=fun b o e=>
  hsb1.extBut b o (cA (Jf e) hle) (Jb _ (hG▸Jb _ e))
 have hU:h1.PlainList s2.heap.objs.size #[]:=⟨_,hsb1.extBut _ _ Qr (Jb _ (hG▸Ji _ rfl))⟩
 obtain⟨n0,hU⟩:=hU;have fo:∀b∈fp,∃o,s2.heap.get? b=some o:=fun b hb=>let ⟨o,e,_⟩:=T.obj 0 _ pJ b hb; ⟨o,e⟩;have tI:=fun b hb=>let ⟨o,e⟩:=fo b hb;Jf e
 let Xc:Cx:=mi X Nc Fc scope cl G.objs.size s2 H2 fp
 let D:Gc:=s2.heap.objs.size
 have lx:∀{pl:List (Gc×Obj)} {H':Hp},(∀p∈pl,p.1=D)->(∀b∈fp,H' b=none)->∀b∈fp,gj Xc pl H' b:=fun{pl H'} hp hn b hb=>by
  refine⟨hn b hb,?_,?_,.inl hb,fun x a e =>?_,fun p hq =>?_⟩
  ·exact cA (tI b hb) hle
  ·exact(rJ I2 c dW kH hle f2 fo).exfs b hb
  ·exact(f2 b hb).2.2.2.2.1 x a (dW _ _ e)
  ·have q:p∈([]:List (Gc×Obj))++pl:=hq;rw[hp p (by simpa using q)];exact mx (tI b hb) (Je _)
 have loop:∀t1,Qa2 (Qab X.prog X.w) X.A (.compLoop (.ListComp elt [⟨tg,iter,ifs,0⟩] scope pos) 0 (.ref it) (.ref s2.heap.objs.size) (compEnvC scope cl G.objs.size X.env))
   (QeN (Qab X.prog X.w) X.A X.xe use QV (.ref s2.heap.objs.size) G.objs.size) { s2 with heap:=h1,toks:=t1 }:=by
  refine fun t1=>Be (fun n s'=>∃i ys H' aA k,Inv Xc [(D,{ cls := .type "list",data := .seq aA k })] (Jt Nc.length none++dY σ js) H' s'/\Vals ys aA.toList/\ys.length<=M2/\tn i s'.heap/\(∀b∈fp,H' b=none)/\W i n ys H') ?_ m0
   ⟨0,[],H2,#[],n0,KR I2 c dW kH hle (Je _) Qr f2 fo old hns1 hU (fun _ z=>nomatch z),.nil,Um _,T.keep _ _ _ pJ (fun b hb o e=>old b o e),fun b hb=>(f2 b hb).1,w0⟩
  refine fun n s3 hz_=>ai.el hz_ _ ?_;rintro i ys H3 aA k I3 rv hz gK fr3 w3;have HW:∀p∈[(D,({ cls := .type "list",data := .seq aA k }:Obj))],p.1=D:=fun p hp=>congrArg Prod.fst (Js.mp hp)
  rcases turn i n ys H3 w3 with ⟨stop,qn⟩|⟨go,iL,step⟩
  ·refine bh (T.done Xc rfl rfl rfl fN i _ s3 _ H3 oK I3 (lx HW fr3) gK stop) fun r s4 hz_ =>?_;refine ai.el hz_ _ ?_;rintro hr I4;subst hr;obtain⟨hDo,hDn,hDne,hDfs,_⟩:=I4.pin (D,_) (Jz _ Jn);refine ai.el (I4.loc) _ ?_;rintro mC hmC _;have u:=I4.base;have NX:=I2.bE.fresh (Je _);have u':Un (pZ X.stack) fp H2 (upd H3 D (.lst ys)) s2.heap s4.heap:=
    ⟨u.keep,u.slot,fun b o e n hx=>by rw[ao ((fun b o e=>Jo (Jf e)) b o e)];exact u.free b o e n hx,u.there,
      fun b xs e=>by rw[ao (ax e NX)];exact u.lr b xs e,fun b o xs e=>by rw[ao (ax e NX)];exact u.kK b o xs e,
      fun b ps e=>by rw[ao (ax e NX)];exact u.mP b ps e⟩
   have zt:∀b∈fp,(b∈X.ex\/X.s₀.heap.objs.size<=b)/\b≠X.env.locals/\(∀x c,X.env.cells.lookup x=some c->c≠b)/\∀p∈X.pn++pins,p.1≠b:=fun b hb=>
    ⟨(f2 b hb).2.2.2.1,(f2 b hb).2.1,(f2 b hb).2.2.2.2.1,(f2 b hb).2.2.2.2.2⟩
   refine behind G.objs.size D mC ys H3 s4 (I2.Ij I4.os u' (I4.bE.adopt hDn ⟨hz,aA.toList,k,rv,by simpa using hDo⟩) I4.bare zt) hmC (I2.eU hle ?_) hDn qn;rw[ao (QaB Qr)];exact I4.free
  ·refine bh (T.item Xc rfl rfl rfl fN i _ s3 _ H3 oK I3 (lx HW fr3) gK go) fun r s4 hz_ =>?_;refine ai.el hz_ _ ?_;rintro u hr h4;subst hr;refine bh h4 fun _ s5 hz_=>ai.el hz_ _ ?_;rintro x H5 I5 r5 y5 dU fr5;refine bh (hg cl G.objs.size s2 H2 fp s5 _ H5 x u _ (I5.pinned (lx HW fr5) (T.obj _ _ dU)) r5 (gk _ _ _ _ (step x H5 y5))) fun _ s6 hz_=>ai.el hz_ _ ?_;rintro σ6 H6 I6 q6 kσ kl;refine bh (DD cl G.objs.size s2 H2 fp s6 σ6 H6 _ I6 q6) fun b s7 hz_=>ai.el hz_ _ ?_;rintro H7 I7 q7;have later:∀{σ':St} {H':Hp} {s':KE},Inv Xc ([(D,({ cls := .type "list",data := .seq aA k }:Obj))]++ib fp s5.heap) σ' H' s'->tn (i+1) s'.heap/\∀b∈fp,H' b=none:=fun{σ' H' s'} Iz=>by
    refine⟨T.keep _ _ _ dU fun b hb o e=>(Iz.pin (b,o) (Jz _ (Jz _ (df hb e)))).1,fun b hb=>ai.el (T.obj _ _ dU b hb) _ ?_⟩;rintro o e d;exact(Iz.pin (b,o) (Jz _ (Jz _ (df hb e)))).2.1
   have back:∀{pl:List (Gc×Obj)} {H':Hp} {s':KE},Inv Xc pl σ6 H' s'->Inv Xc pl (Jt Nc.length none++dY σ js) H' s':=fun{pl H' s'} Iz=>by
    refine Iz.weak (by rw[<-kl]) fun j v hj =>?_
    by_cases hn:j<Nc.length
    ·rw[Uo (by simpa using hn),Yq] at hj
     split at hj<;>cases hj
    ·rw[kσ j ⋯];exact hj
   cases b with
   | false=>
    rw[if_neg Jr] at q7 ⊢;refine ai.el (q7) _ ?_;rintro m' zC w7;obtain⟨l1,l2⟩:=later I7;exact⟨m',zC,i+1,ys,H7,aA,k,back I7.fw,rv,hz,l1,l2,w7⟩
   | true=>
    refine bh (L0 cl G.objs.size s2 H2 fp s7 σ6 H7 _ I7 q7) fun yv s8 hz_=>ai.el hz_ _ ?_;rintro y H8 I8 r8 q8;refine ai.el (q8) _ ?_;rintro m' zC w8;obtain⟨hDo,hDn,hDne,hDfs,_⟩:=I8.pin (D,_) (Jz _ (Yo _ Jn));obtain⟨l1,l2⟩:=later I8;have hits:aA.size=ys.length:=by
     have e1:=rv.length;simp -iota only [Ub] at e1;lia
    refine wpAny_list_append_plain ⟨k,hDo⟩ fun h9 hl9 hs9 =>?_;obtain⟨k9,hD9⟩:=hl9;have Vo:∀p∈ib fp s5.heap,p.1≠D:=fun p hp=>by
     obtain⟨hb,_⟩:=uC hp;exact cA (tI _ hb) (Je _)
    have I9:Inv Xc (ib fp s5.heap) σ6 H8 { s8 with heap:=h9,toks:=s8.toks }:=(I8.pU fun p hp=>I8.pin p (Jz _ (Jz _ hp))).turned (fun b o hb e=>hs9.extBut b o hb e) hDn Qr (.inr (Je _))
     (fun x a e z=>by
      obtain⟨v,q⟩:=I2.cell x a (dW _ _ e);exact cA q.lt (Je _) z) (fun p hp=>Vo p (by
       have hp:p∈([]:List (Gc×Obj))++ib fp s5.heap:=hp;simpa using hp))
    obtain⟨mX,fr9⟩:tn (i+1) h9/\∀b∈fp,H8 b=none:=by
     exact⟨T.keep _ _ _ l1 fun b hb o e=>hs9.extBut b o (cA (tI _ hb) (Je _)) e,l2⟩
    refine⟨m',zC,i+1,ys++[y],H8,aA.push yv,k9,back (I9.pU fun p hp =>?_),?_,?_,mX,fr9,w8⟩
    ·cases Js.mp hp;exact⟨hD9,hDn,hDne,hDfs,fun _ z=>nomatch z⟩
    ·rw[Qce];exact rv.append (.cons r8 .nil)
    ·rw[Jp,Qcn];lia
 exact codeAny_compStart_list (loop _) (T.self _ 0 _ _ _ (T.keep _ _ _ pJ fun b hb o e=>old b o e) (loop _))
def cn {elt tg iter:QaE}{ifs:List QaE}{scope:Qb1}{pos:Pos}{Nc Fc:List Str}{js:List Nat}{wi:TI}{g:TG}{tc:TT}{te:TE}
  (fN:X.calm=true) (c:gG X scope Nc Fc js) (hi:PI X tg iter wi) (gk:Gk Nc.length g)
  (hg:∀cl C s H fp,PG (mi X Nc Fc scope cl C s H fp) tg g) (DD:∀cl C s H fp,Mf (mi X Nc Fc scope cl C s H fp) ifs tc) (L0:∀cl C s H fp,PE (mi X Nc Fc scope cl C s H fp) elt te)
  (hs:∀x,Qbh iter X.env x=pure x:=by intro _;rfl) :
  PE X (.ListComp elt [⟨tg,iter,ifs,0⟩] scope pos) (oY wi Nc.length js g tc te):=
 fun pins s σ H Q I h=>uz fN c hi hg DD L0 gk I h (fun C D m ys H2 s2 I2 hm hC hD q=>⟨m,hm,fun h' hs'=>⟨.ref D,_,I2.turned (fun b o hb e=>hs'.extBut b o hb e) hC.1 (hC.2.1) hC.2.2.2.1 hC.2.2.2.2.1 hC.2.2.2.2.2,rfl,q D hD⟩⟩) hs
def lK {i:Nat}{y:Str}{elt tg iter:QaE}{ifs:List QaE}{scope:Qb1}{pos pos' py:Pos}{Nc Fc:List Str}{js:List Nat}{wi:TI}{g:TG}{tc:TT}{te:TE}(hN:X.N.Nodup)(hy:X.N[i]? = some y)(hl:Loc X.env.scope y)
  (fN:X.calm=true) (c:gG X scope Nc Fc js) (hi:PI X tg iter wi) (gk:Gk Nc.length g)
  (hg:∀cl C s H fp,PG (mi X Nc Fc scope cl C s H fp) tg g) (DD:∀cl C s H fp,Mf (mi X Nc Fc scope cl C s H fp) ifs tc) (L0:∀cl C s H fp,PE (mi X Nc Fc scope cl C s H fp) elt te)
  (hsw:Qeb (.ListComp elt [⟨tg,iter,ifs,0⟩] scope pos) (some (.Name y py)) pos'.line X.env=pure true:=by rfl)
  (hs:∀x,Qbh iter X.env x=pure x:=by intro _;rfl)
  (hf:X.fn y=true\/X.env.scope.names.lookup y=some .local:=by first|exact .inl rfl|exact .inr rfl|assumption) :
  PS X (.Assign [.Name y py] (.ListComp elt [⟨tg,iter,ifs,0⟩] scope pos) pos') (Hm (oY wi Nc.length js g tc te) (sy i)):=by
 intro pins s σ H E I h;rw[exec_Assign_Name_used _ _ _ _ hsw];refine be (Qbe (be (be (bh (uz fN c hi hg DD L0 gk I h (fun C D m ys H2 s2 I2 hm hC hD q=>(wpAny_assign_Name (ua I2 hN hy hl (v := .ref D) rfl (fun s3 I3 ⟨a,hsa,ha⟩=>?_) hf))) hs) fun _ s' hq=>tz (tz hq)))));have FI:C≠a:=by
  rcases ha with e|e
  ·rw[e];exact hC.2.1
  ·exact fun z=>hC.2.2.2.2.1 _ _ e z.symm
 exact⟨m,hm.at' fun o e=>hsa.extBut _ o FI e,fun h' hs'=>⟨_,_,I3.turned (fun b o hb e=>hs'.extBut b o hb e) hC.1 hC.2.1 hC.2.2.2.1 hC.2.2.2.2.1 hC.2.2.2.2.2,q D hD⟩⟩
section
variable {X:Cx}{pins:List (Gc×Obj)}{σ:St}{H:Hp}{s:KE}{p:Gc}{ys:List V}
def uw (hh:A.handled=none)(I:Inv X pins σ H s)(hq:aX X.K H p ys){R:Fk->KE->Prop}{E:Fk->KE->Prop}
  (h:∀aA it s2,Vals ys aA->aA.length<=M2 ->
   Walks X.prog X.w A it [it,p] [it] aA.toArray.size (fun i v=>aA.toArray[i]? = some v) (fun i h=>h.IsListIter it p i/\h.IsList p aA.toArray)->(s2.heap.IsListIter it p 0/\s2.heap.IsList p aA.toArray)->(∀b∈[it,p],b<s2.heap.objs.size) ->
   (∀h' tk,(∀b o,b∉[it]->s2.heap.get? b=some o->h'.get? b=some o)->Inv X pins σ H { s2 with heap:=h',toks:=tk })->R (.ref it) s2) :
  Qaa (Qab X.prog X.w) A (Qfa (.ref p)) R E s:=by
 obtain⟨aA,rv,pl,hz⟩:=I.list hq;have hl:=pl.isList;have hp:p<s.heap.objs.size:=by obtain⟨o,e,_⟩:=hl;exact Jf e
 refine Qcq hl (h aA s.heap.objs.size _ rv (by have:=rv.length;lia) (Walks.list hh _ p (Jo hp) aA.toArray) ⟨⟨_,Ji _ rfl,rfl,rfl⟩,hl.push _⟩ (fun b hb =>?_) fun h' tk hk =>?_)
 ·show b<(s.heap.push _).objs.size;rw[Ua]
  rcases Jw.mp hb with rfl|hb
  ·exact Y8 _
  ·rw[Js.mp hb];exact Qci hp
 ·exact I.kept fun b o e=>hk b o (fun z=>cA (Jf e) (Je _) (Js.mp z)) (Jb _ e)
def kF (r:Vals ys aA){i:Nat}{v:Fk}(e:aA.toArray[i]? = some v):∃y,ys[i]? = some y/\RelV y v:=by
 have e':aA[i]? = some v:=by simpa using e
 have hi:=(Jm.mp e').1;have hl:=r.length;obtain⟨u,h1,h2⟩:=r.get (i:=i) (x:=ys[i]'⋯) (by simp);rw[e'] at h1;cases h1;exact⟨_,by simp,h2⟩
def Ee (bs:List Bool):(Uy bs.length).all (fun i=>bs.getD i false)=bs.all id:=by
 induction bs with
 | nil=>rfl
 | cons b r ih=>
  rw[Jq,Qdk,Qb3,List.all_map,Qb3,<-ih]
  rfl
def D8 (bs:List Bool):(Uy bs.length).any (fun i=>bs.getD i false)=bs.any id:=by
 induction bs with
 | nil=>rfl
 | cons b r ih=>
  rw[Jq,Qdk,Y7,QfE,Y7,<-ih]
  rfl
def xv {bs:List Bool}{aA:List Fk}(r:Vals (bs.map V.bl) aA):TruthOf X.prog X.w A (fun i v=>aA.toArray[i]? = some v) (fun i=>bs.getD i false):=by
 intro i v s Q E e hQ;obtain⟨y,h1,h2⟩:=kF r e;rw[Jj] at h1;cases q:bs[i]? with
 | none=>rw[q] at h1;cases h1
 | some b=>
  rw[q] at h1;cases h1;cases h2;have:bs.getD i false=b:=by simp[ q]
  have hQ:Q (bs.getD i false) s:=hQ;rw[this] at hQ;exact tz hQ
def yj (hc:X.calm=true):bK X (.builtin "all") (fun xs H Q=>∃(p:Gc) (bs:List Bool),xs=[.ref p]/\aX X.K H p (bs.map V.bl)/\Q (.bl (bs.all id)) H):=by
 intro pins s σ H xs us Q I r h;obtain⟨p,bs,rfl,hq,q⟩:=h;obtain⟨u,rfl,ru⟩:=vals1 r;cases ru;refine call_all_walk (uw (A:=X.A.in1) (I.ok.hd hc) I hq fun aA it s2 rv hz W st iL hI=>⟨it,_,_,_,_,_,fun i=>bs.getD i false,rfl,W,st,xv rv,fun h' tk hk =>?_⟩);have hl:aA.toArray.size=bs.length:=by have:=rv.length;simp at this ⊢;lia
 rw[hl,Ee];exact⟨.bl _,H,hI h' tk hk,rfl,q⟩
def zi (hc:X.calm=true):bK X (.builtin "any") (fun xs H Q=>∃(p:Gc) (bs:List Bool),xs=[.ref p]/\aX X.K H p (bs.map V.bl)/\Q (.bl (bs.any id)) H):=by
 intro pins s σ H xs us Q I r h;obtain⟨p,bs,rfl,hq,q⟩:=h;obtain⟨u,rfl,ru⟩:=vals1 r;cases ru;refine call_any_walk (uw (A:=X.A.in1) (I.ok.hd hc) I hq fun aA it s2 rv hz W st iL hI=>⟨it,_,_,_,_,_,fun i=>bs.getD i false,rfl,W,st,xv rv,fun h' tk hk =>?_⟩);have hl:aA.toArray.size=bs.length:=by have:=rv.length;simp at this ⊢;lia
 rw[hl,D8];exact⟨.bl _,H,hI h' tk hk,rfl,q⟩
def NW (K:Ja)(hc:X.calm=true)(hK:X.K=K:=by rfl):bK X (.builtin "all") (fun xs H Q=>∃(p:Gc) (bs:List Bool),xs=[.ref p]/\aX K H p (bs.map V.bl)/\Q (.bl (bs.all id)) H):=by subst hK;exact yj hc
def YC (K:Ja)(hc:X.calm=true)(hK:X.K=K:=by rfl):bK X (.builtin "any") (fun xs H Q=>∃(p:Gc) (bs:List Bool),xs=[.ref p]/\aX K H p (bs.map V.bl)/\Q (.bl (bs.any id)) H):=by subst hK;exact zi hc
def kQ:Kc X "str.startswith" (fun x vs H Q=>∃a b,x = .str a/\vs=[.str b]/\Q (.bl (Qch a b)) H):=by
 intro pins s σ H x vs v us Q I rx rv h;obtain⟨a,b,rfl,rfl,q⟩:=h;obtain⟨t,rfl⟩:=rx;obtain⟨u,rfl,t',rfl⟩:=rv.one;exact SC.startswith ⟨.bl _,H,I,rfl,q⟩
def Dq:Kc X "str.strip" (fun x vs H Q=>∃a b,x = .str a/\vs=[.str b]/\a.length<=M2/\Q (.str (Qfc a b)) H):=by
 intro pins s σ H x vs v us Q I rx rv h;obtain⟨a,b,rfl,rfl,hz,q⟩:=h;obtain⟨t,rfl⟩:=rx;obtain⟨u,rfl,t',rfl⟩:=rv.one;exact SC.stripChars (fun t' k=>⟨.str _,H,I.tok _,⟨_,rfl⟩,q⟩) hz
def GY:∀{xs:List Str} {aA:List Fk},Vals (xs.map V.str) aA->StrsAre aA xs:=by
 intro xs aA r
 induction xs generalizing aA with
 | nil=>cases r;exact StrsAre.nil
 | cons x xs ih=>
  cases r with
  | cons r1 r2=>
   obtain⟨t,rfl⟩:=r1;exact StrsAre.cons x t (ih r2)
def KU:Kc X "str.join" (fun x vs H Q=>∃sep p xs,x = .str sep/\vs=[.ref p]/\aX X.K H p (xs.map V.str)/\(xs.map (·.length)).sum+xs.length*sep.length<=16777216/\Q (.str (QaQ sep xs)) H):=by
 intro pins s σ H x vs v us Q I rx rv h;obtain⟨sep,p,xs,rfl,rfl,hq,hz,q⟩:=h;obtain⟨t,rfl⟩:=rx;obtain⟨u,rfl,ru⟩:=rv.one;cases ru;obtain⟨aA,r',pl,_⟩:=I.list hq;exact join_list pl.isList (GY r') hz fun t' k=>⟨.str _,H,I.tok _,⟨_,rfl⟩,q⟩
end
mutual
def Den (K:Ja)(H:Hp):Qac->V->Prop
 | .none,v=>v = .non
 | .bool b,v=>v = .bl b
 | .int i,v=>v = .int i
 | .str x,v=>v = .str x
 | .list ds,v=>eM fun a vs=>v = .ref a/\aX K H a vs/\aI K H ds vs
 | .tuple ds,v=>eM fun a vs=>v = .ref a/\bg K H a vs/\aI K H ds vs
 | .dict _,_=>False
def aI (K:Ja)(H:Hp):List Qac->List V->Prop
 | [],vs=>vs=[]
 | d::ds,vs=>eM fun v r=>vs=v::r/\Den K H d v/\aI K H ds r
end
def ak.bZ {K:Ja}{H H':Hp}{a:Gc}{xs:List V}(e:ak H H')(h:bg K H a xs):bg K H' a xs:=by
 rcases h with (h|⟨o,h⟩)|h
 ·exact .inl (.inl (e _ _ h))
 ·exact .inl (.inr ⟨o,e _ _ h⟩)
 ·exact .inr h
mutual
def Den.same {K:Ja}{H H':Hp}(e:ak H H'):∀{d:Qac} {v:V},Den K H d v->Den K H' d v
 | .none,_,h=>by unfold Den at h ⊢;exact h
 | .bool _,_,h=>by unfold Den at h ⊢;exact h
 | .int _,_,h=>by unfold Den at h ⊢;exact h
 | .str _,_,h=>by unfold Den at h ⊢;exact h
 | .list ds,_,h=>by
  unfold Den at h ⊢;obtain⟨a,vs,h1,h2,h3⟩:=h;exact⟨a,vs,h1,e.seq h2,aI.same e h3⟩
 | .tuple ds,_,h=>by
  unfold Den at h ⊢;obtain⟨a,vs,h1,h2,h3⟩:=h;exact⟨a,vs,h1,e.bZ h2,aI.same e h3⟩
 | .dict _,_,h=>by unfold Den at h;exact h.elim
def aI.same {K:Ja}{H H':Hp}(e:ak H H'):∀{ds:List Qac} {vs:List V},aI K H ds vs->aI K H' ds vs
 | [],_,h=>by unfold aI at h ⊢;exact h
 | d::ds,_,h=>by
  obtain⟨v,r,h1,h2,h3⟩:=h;exact⟨v,r,h1,Den.same e h2,aI.same e h3⟩
end
mutual
def Den.reads {X:Cx}{pins:List (Gc×Obj)}{σ:St}{H:Hp}{s:KE}(I:Inv X pins σ H s):∀{d:Qac} {v:V} {u:Fk},Den X.K H d v->RelV v u->∃as,Reads s.heap u d as
 | .none,_,_,h,r=>by unfold Den at h;subst h;cases r;exact⟨_,.none⟩
 | .bool _,_,_,h,r=>by unfold Den at h;subst h;cases r;exact⟨_,.bool _⟩
 | .int _,_,_,h,r=>by unfold Den at h;subst h;obtain⟨t,rfl⟩:=r;exact⟨_,.int _ _⟩
 | .str _,_,_,h,r=>by unfold Den at h;subst h;obtain⟨t,rfl⟩:=r;exact⟨_,.str _ _⟩
 | .list ds,_,_,h,r=>by
  unfold Den at h;obtain⟨a,vs,rfl,h2,h3⟩:=h;cases r;obtain⟨aA,rv,⟨o,n,e1,e2,_,e4⟩,_⟩:=I.list h2;obtain⟨as,q⟩:=aI.reads I h3 rv;exact⟨_,.list e1 e2 e4 (by simpa using q)⟩
 | .tuple ds,_,_,h,r=>by
  unfold Den at h;obtain⟨a,vs,rfl,h2,h3⟩:=h;cases r;obtain⟨aA,rv,⟨o,e1,e2,n,e4⟩,_⟩:=I.tuple h2;obtain⟨as,q⟩:=aI.reads I h3 rv;exact⟨_,.tuple e1 e2 e4 (by simpa using q)⟩
 | .dict _,_,_,h,_=>by unfold Den at h;exact h.elim
def aI.reads {σ:St}{H:Hp}{s:KE}(I:Inv X pins σ H s):∀{ds:List Qac} {vs:List V} {us:List Fk},aI X.K H ds vs->Vals vs us->∃as,ReadsAll s.heap us ds as
 | [],_,_,h,r=>by unfold aI at h;subst h;cases r;exact⟨_,.nil⟩
 | d::ds,_,_,h,r=>by
  obtain⟨v,q,rfl,h2,h3⟩:=h;cases r with
  | cons r1 r2=>
   obtain⟨as,q1⟩:=Den.reads I h2 r1;obtain⟨bs,q2⟩:=aI.reads I h3 r2;exact⟨_,.cons q1 q2⟩
end
section
variable {X:Cx}
open PySem.SeqAt in
def Qj (hu:X.A.units+64<Qdh):fD X (QaC .Eq) (fun x y H Q=>∃d e,Den X.K H d x/\Den X.K H e y/\shaped d=true/\shaped e=true/\Q (.bl (QbO d e)) H):=by
 intro pins s σ H x y v u Q I rx ry h;obtain⟨d,e,hd,he,sd,se,q⟩:=h;obtain⟨as,r1⟩:=hd.reads I rx;obtain⟨bs,r2⟩:=he.reads I ry;exact eq_dataH r1 r2 sd se hu ⟨.bl _,H,I,rfl,q⟩
open PySem.SeqAt in
def Nh (hu:X.A.units+64<Qdh):fD X (QaC .NotEq) (fun x y H Q=>∃d e,Den X.K H d x/\Den X.K H e y/\shaped d=true/\shaped e=true/\Q (.bl (!PyData.eqv d e)) H):=by
 intro pins s σ H x y v u Q I rx ry h;obtain⟨d,e,hd,he,sd,se,q⟩:=h;obtain⟨as,r1⟩:=hd.reads I rx;obtain⟨bs,r2⟩:=he.reads I ry;exact ne_dataH r1 r2 sd se hu ⟨.bl _,H,I,rfl,q⟩
def P8:fD X (QaC .Is) (fun x y H Q=>∃a b,x = .bl a/\y = .bl b/\Q (.bl (decide (a=b))) H):=by
 intro pins s σ H x y v u Q I rx ry h;obtain⟨a,b,rfl,rfl,q⟩:=h;cases rx;cases ry;refine wpAny_is_plain rfl (br I q ?_);cases a<;>cases b<;>rfl
def DI:fD X (QaC .IsNot) (fun x y H Q=>∃a b,x = .bl a/\y = .bl b/\Q (.bl (!decide (a=b))) H):=by
 intro pins s σ H x y v u Q I rx ry h;obtain⟨a,b,rfl,rfl,q⟩:=h;cases rx;cases ry;refine wpAny_isNot_plain rfl (br I q ?_);cases a<;>cases b<;>rfl
def HC:bK X (.builtin "isinstance") (fun xs H Q=>∃x T t b,xs=[x,.ty T]/\m8 X.K H x t/\Yv X.K t (.type T)=some b/\Q (.bl b) H):=by
 intro pins s σ H xs us Q I r h;obtain⟨x,T,t,b,rfl,ty,e,q⟩:=h;obtain⟨u,w',rfl,r1,r2⟩:=vals2 r;cases r2;exact Fu I r1 ty e fun tk=>⟨.bl b,H,I.tok _,rfl,q⟩
def Pt:FN X (fun x lo hi H Q=>∃z,x = .str z/\z.length<=M2/\Q (.str (QaN z lo hi)) H):=by
 intro pins s σ H x v vl vu lo hi sl Q I rx hs pl pu q;obtain⟨z,rfl,hz,q⟩:=q;obtain⟨t,rfl⟩:=rx;refine⟨"str",_,F.slot_str_getitem.lookup,QdK _ _ _,?_⟩;have fin:∀t' k,EP X pins σ Q (.str (QaN z lo hi) t') { s with toks:=k }:=fun t' k=>⟨.str _,H,I.tok _,⟨_,rfl⟩,q⟩
 cases pl with
 | none=>
  cases pu with
  | none=>exact Qck (l:=none) (u:=none) (st:=none) hs rfl (QdR ⟨Jg (QcL z _ _) hz,fin⟩)
  | int j uj=>exact Qck (l:=none) (u:=some (j,uj)) (st:=none) hs rfl (QdR ⟨Jg (QcL z _ _) hz,fin⟩)
 | int i ui=>
  cases pu with
  | none=>exact Qck (l:=some (i,ui)) (u:=none) (st:=none) hs rfl (QdR ⟨Jg (QcL z _ _) hz,fin⟩)
  | int j uj=>exact Qck (l:=some (i,ui)) (u:=some (j,uj)) (st:=none) hs rfl (QdR ⟨Jg (QcL z _ _) hz,fin⟩)
end
section
variable {X:Cx}{pins:List (Gc×Obj)}{σ:St}{H:Hp}{s:KE}{h':Heap}
def Inv.iter {ch:List Gc}(I:Inv X pins σ H s)(hf:∀b∈ch,gj X pins H b)(keep:∀b o,b∉ch->s.heap.get? b=some o->h'.get? b=some o):Inv X pins σ H { s with heap:=h',toks:=t' }:=by
 have Mz:∀b u,H b=some u->b∉ch:=fun b u e z=>by rw[(hf b z).1] at e;cases e
 refine I.step (fun b hb=>⟨(hf b hb).2.2.2.1,(hf b hb).2.1,(hf b hb).2.2.2.2.1,(hf b hb).2.2.2.2.2⟩) (fun b o _ _ hc e _=>keep b o hc e) (fun b o _ _ hc e _=>⟨o.slots,keep b o hc e⟩)
  (fun _ _ _ _ n=>n) (fun b o hc e=>⟨o,keep b o hc e⟩) (fun _ _ e=>e) (fun _ _ _ e=>e) (fun b ps e=>⟨#[],by rw[e];simp⟩) (fun m hm=>hm.at' fun o e=>keep _ o (fun z=>(hf _ z).2.1 rfl) e) (fun b u e =>?_) I.bare
 refine(I.bE b u e).hX (fun c v hc q=>keep c v ?_ q) (fun _ q=>q) fun _ _ q=>q
 rcases hc with z|z
 ·rw[z];exact Mz b u e
 ·exact Mz c _ z
def Inv.adopt (I:Inv X pins σ H s)(hT:gj X pins H T)(hex:X.s₀.heap.objs.size<=T)(new:bC X.prog X.w (upd H T o) s.heap T o):Inv X pins σ (upd H T o) s:=
 ⟨I.ok,I.os,I.bare,⟨I.base.keep,I.base.slot,fun b ob e n hx=>by rw[ao (cA (Jf e) hex)];exact I.base.free b ob e n hx,I.base.there,
   fun b xs e=>by rw[ao (ax (I.base.lr b xs e) hT.1)];exact I.base.lr b xs e,fun b ob xs e=>by rw[ao (ax (I.base.kK b ob xs e) hT.1)];exact I.base.kK b ob xs e,
   fun b ps e=>by
    obtain⟨m,q⟩:=I.base.mP b ps e;exact⟨m,by rw[ao (ax q hT.1)];exact q⟩⟩,
  I.loc,I.cell,by rw[ao (QaB hT.2.1)];exact I.free,fun x c e=>by rw[ao (hT.2.2.2.2.1 x c e)];exact I.freeC x c e,
  fun p hp=>by
   refine ai.el (I.pin p hp) _ ?_;rintro a b c d f;exact⟨a,by rw[ao (hT.2.2.2.2.2 p hp)];exact b,c,d,f⟩,I.bE.adopt hT.1 new,I.len⟩
end
def qJ {i:Nat}{x:V}(r:Vals xs aA)(e:xs[i]? = some x):∃u,aA.toArray[i]? = some u/\RelV x u:=by
 refine ai.el (r.get e) _ ?_;rintro u h1 h2;exact⟨u,by simpa using h1,h2⟩
def Ite (K:Ja)(a:Gc):It:=
 ⟨fun i H=>eM fun xs x=>aX K H a xs/\xs[i]? = some x,
   fun i H v H'=>∃T,v = .ref T/\H T=none/\∀xs x,aX K H a xs->xs[i]? = some x->H'=upd H T (.tup [.int i,x]),
   fun i H=>∃xs,aX K H a xs/\xs.length<=i⟩
def Dj {K:Ja}{elts:List QaE}{k:Nat}{tp:Pos}(e it l:Gc)(hei:e≠it)(hle:l≠e)(hli:l≠it):
  Turn P w K (.Tuple elts k tp) (Ite K l) [e,it] e (fun i h=>(∃old,IsEnum h e it i old)/\h.IsListIter it l i) where
 mem:=by simp
 obj:=fun i h st b hb=>by
  obtain⟨⟨_,h1⟩,⟨o4,h4,_,d4⟩⟩:=st;simp at hb
  rcases hb with rfl|rfl
  ·exact⟨_,h1,fun _ z=>nomatch z⟩
  ·exact⟨_,h4,fun v q=>by rw[d4] at q;cases q⟩
 keep:=fun i h h' st hk=>by
  obtain⟨⟨a,h1⟩,h4⟩:=st;exact⟨⟨a,hk e (by simp) _ h1⟩,h4.at fun o e=>hk it (by simp) o e⟩
 item:=fun X hP hw hK hc i pins s σ H E I hf st go=>by
  subst hP hw hK;obtain⟨⟨old,he⟩,h1⟩:=st;obtain⟨xs,x,q1,e1⟩:=go;obtain⟨its1,r1,p1,_⟩:=I.list q1;obtain⟨u1,g1,ru1⟩:=qJ r1 e1;refine wpAny_pyNext_enum_item he h1 p1.isList g1 hei fun h' a1 a3 a5 a6 a7=>⟨_,rfl,(wpAny_letOwnedTupleGo_enum a1 fun h'' b1 b2 =>?_)⟩
  have kp:∀c o,c∉[e,it]->s.heap.get? c=some o->h''.get? c=some o:=fun c o hc z=>by
   simp only[Jw,Uq,or_false,not_or] at hc;exact b2.extBut c o hc.1 (a7 c o hc.1 hc.2 z)
  have I1:Inv X pins σ H { s with heap:=h'',toks:=s.toks+1 }:=I.iter hf kp;have fT:=I.eU (Je _) (I.bE.fresh (Je _));refine⟨.ref s.heap.objs.size,_,(I1.adopt (o := .tup [.int i,x]) fT I.sz ⟨by show 2<=M2;decide,[.int i s.toks,u1],.cons ⟨_,rfl⟩ (.cons ru1 .nil),⟨_,(b2.extBut _ _ (mx (Jf he) (Je _)) a5),rfl,rfl,_,rfl⟩⟩),rfl,⟨_,rfl,fT.1,fun xs' x' q1' e1' =>?_⟩,⟨⟨_,by
   have z:(((i+1:Nat):Int))=(i:Int)+1:=by lia
   rw[z];exact b1⟩,a3.extBut b2.extBut (QaB hei)⟩,fun c hc =>?_⟩
  ·rw[I.qI q1' q1] at e1';rw[e1] at e1';cases e1';rfl
  ·have FL:c<s.heap.objs.size:=by
    simp at hc;obtain⟨_,h1,_⟩:=h1
    rcases hc with rfl|rfl
    ·exact Jf he
    ·exact Jf h1
   rw[ao (cA FL (Je _))];exact(hf c hc).1
 done:=fun X hP hw hK hc i pins s σ H E I hf st stop=>by
  subst hP hw hK;obtain⟨⟨old,he⟩,h1⟩:=st;obtain⟨xs,q1,e⟩:=stop;obtain⟨its1,r1,p1,_⟩:=I.list q1;have l1':=r1.length;exact wpAny_pyNext_enum_end (I.ok.hd hc) he h1 p1.isList (by simp;lia) fun h' kp=>⟨rfl,(I.iter (ch:=[it]) (fun c hc=>hf c (by simp at hc ⊢;simp[hc])) fun c o hc z=>kp c o (fun q=>hc (by simp[q])) z)⟩
 self:=fun A i s Q E st hQ=>by
  obtain⟨⟨old,he⟩,_⟩:=st;exact wpAny_pyIter_enum he hQ
section
variable {X:Cx}
def Rx (K:Ja)(ta:TA):TI:=fun σ H R=>ta σ H fun vs H1=>∃a,vs=[.ref a]/\(∃xs,aX K H1 a xs)/\R (Ite K a) H1
def KG {elts:List QaE}{k:Nat}{tp:Pos}{a:QaE}{ta:TA}{p pos:Pos}(hg:Gl X "enumerate")(hm:X.mg "enumerate" = none)(ha:PA X [a] ta)(hb:QaT "enumerate" = some (.type "enumerate"):=by first|rfl|decide)(hs:Qaj [a] X.env=[(false,QaR a X.env)]:=by rfl):
  PI X (.Tuple elts k tp) (.Call (.Name "enumerate" p) [a] [] pos) (Rx X.K ta):=by
 refine fun pins s σ H R I h=>Call_ (eY I hg hm hb (Qan (bh (ha s σ H _ I h) fun us s1 hz_=>ai.el hz_ _ fun vs H1 I1 r1 q1 =>?_) hs rfl));obtain⟨l1,e,⟨xs,q1⟩,q⟩:=q1;subst e;obtain⟨u,rfl,ru⟩:=vals1 r1;cases ru;obtain⟨its1,rv1,p1,_⟩:=I1.list q1;have a1:l1<s1.heap.objs.size:=by obtain⟨_,e,_⟩:=p1.isList;exact Jf e
 refine call_enumerate_list p1.isList (fun h' he hi1 hsz hk=>wpAny_pyIter_enum he ?_);have I2:Inv X pins σ H1 { s1 with heap:=h' }:=I1.kept hk;refine⟨_,_,_,_,H1,rfl,I2,Dj _ _ _ (Nat.succ_ne_self _) (Jo (Qci a1)) (Jo a1),⟨⟨_,he⟩,hi1⟩,fun c hc =>?_,q⟩;have FL:s1.heap.objs.size<=c:=by
  simp at hc
  rcases hc with rfl|rfl
  ·exact Ul _ _
  ·exact Je _
 exact I1.eU FL (I1.bE.fresh FL)
end
section
variable {X:Cx}
def RP:R2:=fun x y H Q=>(eM fun i j=>x = .int i/\y = .int j/\Q (.int (i+j)) H)\/(∃i j,x = .str i/\y = .str j/\i.length+j.length<=M2/\Q (.str (i++j)) H)\/QN x y H Q
def QF:fD X (Qbu .Add) RP:=Nf.or (BH.or Nk)
def Tp:R2:=fun x y H Q=>(eM fun i j=>x = .int i/\y = .int j/\A0 i j/\Q (.int (i*j)) H)\/RB x y H Q
def S6:fD X (Qbu .Mult) Tp:=Ow.or OH
structure Fn (P:Qaf)(w:Qag)(K:Ja)(mg:Str->Option Fk)(base:Heap)(k:Nat)(x:Str)(ps:List Str)(sp:Sp):Prop where
 ex:∃f fd,aW P w K mg base d6 k f fd ps sp/\Binds K fd ps []/\Ui K (.ref f)=true/\mg x=some (.ref f)
def Fn.mono {K:Ja}{mg:Str->Option Fk}{base:Heap}{j k:Nat}{x:Str}{ps:List Str}{sp:Sp}(F:Fn P w K mg base j x ps sp)(h:j<=k):Fn P w K mg base k x ps sp:=by
 refine ai.el (F.ex) _ ?_;rintro f fd a b c d;exact⟨f,fd,a.mono h,b,c,d⟩
def aM {p pos:Pos}{e:QaE}{es:List QaE}{t:TA}(F:Fn X.prog X.w X.K X.mg X.base k x ps sp)(hr:dH k X.A)(hg:Gl X x)
  (ha:PA X (e::es) t) (vW:(x==("__debug__" : Str))=false:=by decide) (he:Qaj (e::es) X.env=(false,QaR e X.env)::Qaj es X.env:=by rfl) (sj:(Qcu pos (Qaj es X.env)).any (·.1)=false:=by rfl) :
  PE X (.Call (.Name x p) (e::es) [] pos) (tf sp [] E0 t):=by
 refine ai.el (F.ex) _ ?_;rintro f fd a b c d;exact BL a hr hg d c b .nil oP ha vW he sj
end
def B6 (pn sn:List (Str×Qcw))(N Fc:List Str)(js:List Nat):Bool:=
 sn.all (fun y=>y.2 != .cell)&&sn.all (fun y=>y.2 != .local||sn.lookup y.1==some .local)&&sn.all (fun y=>y.2 != .free||pn.lookup y.1==some .cell||pn.lookup y.1==some .free)&&js.length==Fc.length &&
 (Uy Fc.length).all fun k=>match Fc[k]?,js[k]? with
  | some x,some j=>sn.lookup x==some .free&&N[j]? == some x
  | _,_=>false
def bM {X:Cx}{scope:Qb1}{Nc Fc:List Str}{js:List Nat}(hk:scope.kind = .function:=by rfl)(h:B6 X.env.scope.names scope.names X.N Fc js=true:=by rfl):gG X scope Nc Fc js:=by
 unfold B6 at h;simp -iota only [Jv,Yr,Bool.or_eq_true,bne_iff_ne,beq_iff_eq,ne_eq] at h;obtain⟨⟨⟨⟨h1,h2⟩,h3⟩,h4⟩,h5⟩:=h;refine⟨hk,h1,fun y hy hl=>(h2 y hy).resolve_left (fun z=>z hl),fun y hy hf =>?_,fun k x hx =>?_,h4⟩
 ·rcases h3 y hy with (z|z)|z
  ·exact absurd hf z
  ·exact .inl z
  ·exact .inr z
 ·have hk':=(Jm.mp hx).1;have q:=h5 k (List.mem_range.mpr hk');have hj:k<js.length:=by lia
  rw[hx,Jd hj] at q;simp only[Jv,beq_iff_eq] at q;exact⟨q.1,_,Jd hj,q.2⟩
section
variable {X:Cx}
def Xe (hu:X.A.units+64<Qdh):fD X (QaC .Eq) (fun x y H Q=>Wo x y H Q\/(∃d e,Den X.K H d x/\Den X.K H e y/\QaK d=true/\QaK e=true/\Q (.bl (QbO d e)) H)):=Sl.or (Qj hu)
def YL (hu:X.A.units+64<Qdh):fD X (QaC .NotEq) (fun x y H Q=>YO x y H Q\/(∃d e,Den X.K H d x/\Den X.K H e y/\QaK d=true/\QaK e=true/\Q (.bl (!PyData.eqv d e)) H)):=Q2.or (Nh hu)
def tE:fD X (QaC .Is) (fun x y H Q=>(y = .non/\Q (.bl (decide (x = .non))) H)\/(∃a b,x = .bl a/\y = .bl b/\Q (.bl (decide (a=b))) H)):=O7.or P8
def CP:fD X (QaC .IsNot) (fun x y H Q=>(y = .non/\Q (.bl (!decide (x = .non))) H)\/(∃a b,x = .bl a/\y = .bl b/\Q (.bl (!decide (a=b))) H)):=Lo.or DI
def SH:FN X (fun x lo hi H Q=>O4 X.K x lo hi H Q\/(∃z,x = .str z/\z.length<=M2/\Q (.str (QaN z lo hi)) H)):=KM.or Pt
structure Nm (mg:Str->Option Fk):Prop where
 n_len:mg "len" = none
 n_range:mg "range" = none
 n_max:mg "max" = none
 n_min:mg "min" = none
 n_sum:mg "sum" = none
 n_all:mg "all" = none
 n_any:mg "any" = none
 n_list:mg "list" = none
 n_tuple:mg "tuple" = none
 n_int:mg "int" = none
 n_str:mg "str" = none
 n_bool:mg "bool" = none
 n_zip:mg "zip" = none
 n_enumerate:mg "enumerate" = none
 n_isinstance:mg "isinstance" = none
 n_divmod:mg "divmod" = none
end
def dw {n:Nat}{js:List Nat}{g:TG}{tc:TT}{te:TE}{σ:St}{H1:Hp}{fin:List V->Hp->Prop}(N:Nat)(Pv:Nat->List V->Hp->Prop)(h0:Pv 0 [] H1)
  (go:∀i ys H (Nx:List V->Hp->Prop),i<N->Pv i ys H->(∀ys' H',Pv (i+1) ys' H'->Nx ys' H')->J.go i H/\ys.length<M2 /\
   ∀x H',J.yld i H x H'->g x (Jt n none++dY σ js) H' fun σ2 H2=>tc σ2 H2 fun b H3=>if b=true then te σ2 H3 fun y H4=>Nx (ys++[y]) H4 else Nx ys H3)
  (stop:∀ys H,Pv N ys H->J.stop N H/\fin ys H):BW J n js g tc te σ H1 fin:=by
 refine⟨fun i m ys H=>m=N-i/\i<=N/\Pv i ys H,⟨N,by simp,Um _,h0⟩,(fun i m ys H hz_=>ai.el hz_ _ ?_)⟩;rintro rfl hi p
 by_cases iL:i<N
 ·exact .inr (go i ys H (fun ys' H'=>∃m',m'<N-i/\(m'=N-(i+1)/\i+1<=N/\Pv (i+1) ys' H')) iL p fun ys' H' q=>⟨_,⋯,rfl,iL,q⟩)
 ·have e:i=N:=by lia
  subst e;exact .inl (stop ys H p)
section
variable {X:Cx}(K:Ja)
def kr (hK:X.K=K:=by rfl):JY X (Z2 K):=by subst hK;exact Qe
def Zf (hK:X.K=K:=by rfl):FN X (fun x lo hi H Q=>O4 K x lo hi H Q\/(∃z,x = .str z/\z.length<=M2/\Q (.str (QaN z lo hi)) H)):=by subst hK;exact SH
def fK (hK:X.K=K:=by rfl):bK X (.builtin "len") (fun xs H Q=>∃x n,xs=[x]/\Sv K x H n/\Q (.int n) H):=by subst hK;exact FZ
def uP (hK:X.K=K:=by rfl):Kc X "str.join" (fun x vs H Q=>∃sep p xs,x = .str sep/\vs=[.ref p]/\aX K H p (xs.map V.str)/\(xs.map (·.length)).sum+xs.length*sep.length<=16777216/\Q (.str (QaQ sep xs)) H):=by subst hK;exact KU
def Kf {tg l:QaE}{tl:TE}(hl:PE X l tl)(hK:X.K=K:=by rfl):PI X tg l (ML K tl):=by subst hK;exact Kx hl
def tupK {pos:Pos}{es:List QaE}{k:Nat}{t:Fp}(n:Nat)(hc:X.calm=true)(h:Sg X es t)(hn:(QcD es X.env).length=n:=by rfl)(nH:(QcD es X.env).findIdx? (·.1)=none:=by rfl)(hK:X.K=K:=by rfl):PG X (.Tuple es k pos) (K1 K n t):=by subst hK;exact NI hc h hn nH
def uQ {to:TE}{t:TA}{name:Str}{apos eP:Pos}{T id:String}{r:V->List V->Hp->VK->Prop}(pa:QfS T)(slot:Slot T name id)(OT:typeOf (.builtin id)=pure (.type "method_descriptor"))(hm:Kc X id r)(ho:PE X o to)(ha:PA X (e::es) t)
  (nE:QbQ o name X.env (QaR o X.env)=QaR o X.env:=by rfl)
  (DM:((Qcu eP (Qaj (e::es) X.env)).all (fun x => !x.1)&&(backToKw eP (keywordEach [] X.env)).all (fun x=>x.1.isSome)
   && decide ((e::es).length+([]:List Keyword).length+(if ([]:List Keyword).isEmpty then 0 else 1)<30))=true:=by rfl)
  (mK:(apos.endLine==eP.line)=true:=by rfl) (hs:Qaj (e::es) X.env=(false,QaR e X.env)::Qaj es X.env:=by rfl) (Bn:(Qcu eP (Qaj es X.env)).any (·.1)=false:=by rfl) (hK:X.K=K:=by rfl) :
  PE X (.Call (.Attribute o name apos) (e::es) [] eP) (WQ K T r to t):=by subst hK;exact QQ pa slot OT hm ho ha nE DM mK hs Bn
def XA {name:Str}{apos eP:Pos}{T id:String}{r:V->List V->Hp->VK->Prop}(pa:QfS T)(slot:Slot T name id)(OT:typeOf (.builtin id)=pure (.type "method_descriptor"))(hm:Kc X id r)(ho:PE X o to)
  (nE:QbQ o name X.env (QaR o X.env)=QaR o X.env:=by rfl) (mK:(apos.endLine==eP.line)=true:=by rfl) (hK:X.K=K:=by rfl):PE X (.Call (.Attribute o name apos) [] [] eP) (R8 K T r to):=by subst hK;exact P9 pa slot OT hm ho nE mK
def tm (hu:X.A.units+64<Qdh)(hK:X.K=K:=by rfl):fD X (QaC .Eq) (fun x y H Q=>Wo x y H Q\/(∃d e,Den K H d x/\Den K H e y/\QaK d=true/\QaK e=true/\Q (.bl (QbO d e)) H)):=by subst hK;exact Xe hu
def KJ (hu:X.A.units+64<Qdh)(hK:X.K=K:=by rfl):fD X (QaC .NotEq) (fun x y H Q=>YO x y H Q\/(∃d e,Den K H d x/\Den K H e y/\QaK d=true/\QaK e=true/\Q (.bl (!PyData.eqv d e)) H)):=by subst hK;exact YL hu
end
abbrev Keeps (g h:Heap)(c:Gc->Prop):Prop:=∀b o,¬c b->g.get? b=some o->h.get? b=some o
structure ym (prog:Qaf)(w:Qag)(A:Qax)(it S:Gc)(T:String)(fp:Gc->Prop)(n:Nat)(P:Nat->Fk->Heap->Prop)(R:Fk->Fk->Prop)(St:Nat->Heap->Prop):Prop where
 sfp:¬fp S
 ne:it≠S
 ty:∀i h,St i h->∃o,h.get? it=some o/\o.cls = .type T
 self:∀(s:KE) (Q:Fk->KE->Prop) (E:Fk->KE->Prop),St 0 s.heap->Q (.ref it) s->Qaa (Qab prog w) A (Qfa (.ref it)) Q E s
 item:∀i (s:KE) (Q:Option Fk->KE->Prop) (E:Fk->KE->Prop),i<n->St i s.heap->S<s.heap.objs.size ->
  (∀v h' tk,Keeps s.heap h' fp->St (i+1) h'->P i v h'->(∀j u,P j u s.heap->R u v)->Q (some v) { s with heap:=h',toks:=tk })->Qaa (Qab prog w) A (QbS (.ref it)) Q E s
 stop:∀(s:KE) (Q:Option Fk->KE->Prop) (E:Fk->KE->Prop),St n s.heap->S<s.heap.objs.size->(∀h' tk,Keeps s.heap h' fp->Q none { s with heap:=h',toks:=tk })->Qaa (Qab prog w) A (QbS (.ref it)) Q E s
 keepS:∀i h h',St i h->Keeps h h' (· = S)->St i h'
 keepP:∀j v h h',P j v h->Keeps h h' (fun b=>fp b\/b=S)->P j v h'
 nolen:Qbs (.type T) "__len__" = pure none
 nohint:Qbs (.type T) "__length_hint__" = pure none
 nl:(Qa1 T==Qa1 "list")=false
 nt:(Qa1 T==Qa1 "tuple")=false
structure o7 (h:Heap)(S:Gc)(i:Nat)(P:Nat->Fk->Heap->Prop)(R:Fk->Fk->Prop)(acc:Array Fk)(c:Nat):Prop where
 ob:h.get? S=some { cls := .type "list",data := .seq acc c }
 sz:acc.size=i
 pw:acc.toList.Pairwise R
 all:∀(j:Nat) v,acc[j]? = some v->P j v h
abbrev rq (prog:Qaf)(w:Qag)(A:Qax)(R:Qb2->KE->Prop):Fin->KE->Prop:=fun fin s'=>match fin with
 | .done f=>R (.ok f) s'
 | .again c'=>c'.quiet=true/\Qa2 (Qab prog w) A c' R s'
section
variable {prog:Qaf}{w:Qag}{A:Qax}{it S:Gc}{T:String}{fp:Gc->Prop}{n:Nat}{P:Nat->Fk->Heap->Prop}{R:Fk->Fk->Prop}{St:Nat->Heap->Prop}
abbrev pR (g:Heap)(S:Gc)(fp:Gc->Prop)(n:Nat)(P:Nat->Fk->Heap->Prop)(R:Fk->Fk->Prop)(s:KE)(Z:KE->Prop):Prop:=
 ∀h' tk acc c,Keeps g h' (fun b=>fp b\/b=S)->o7 h' S n P R acc c->Z { s with heap:=h',toks:=tk }
def uu (Fd:ym prog w A.in1 it S T fp n P R St)(hn:n<=M2){s:KE}{Z:Qb2->KE->Prop}{res:Fk}{g:Heap}(fin:pR g S fp n P R s (Z (.ok (.ret res)))):
  ∀k i h tk acc c,i+k=n->St i h->o7 h S i P R acc c->Keeps g h (fun b=>fp b\/b=S) ->
   Qa2 (Qab prog w) A (.builtin "list.extend.loop" ⟨[.ref S,.ref it,res],[]⟩) Z { s with heap:=h,toks:=tk }
 | 0,i,h,tk,acc,c,hk,nH,G,kp=>by
  have e:i=n:=by lia
  subst e;exact QaJ QbR (be (Fd.stop { s with heap:=h,toks:=tk } _ _ nH (Jf G.ob) fun h' tk' k'=>tz (fin h' tk' acc c (fun b o nb q=>k' b o (fun z=>nb (.inl z)) (kp b o nb q)) ⟨k' _ _ Fd.sfp G.ob,G.sz,G.pw,fun j v e=>Fd.keepP _ _ _ _ (G.all j v e) fun b o nb q=>k' b o (fun z=>nb (.inl z)) q⟩)))
 | k+1,i,h,tk,acc,c,hk,nH,G,kp=>by
  refine QaJ QbR (be (Fd.item i { s with heap:=h,toks:=tk } _ _ ⋯ nH (Jf G.ob) fun v h' tk' k' st' pv rv =>?_));have NB:=k' _ _ Fd.sfp G.ob;have other:Keeps h' (h'.update S (QaF (·.push v))) (· = S):=fun b o nb q=>(J5 _ _ (QaB nb)).trans q;have k2:Keeps h (h'.update S (QaF (·.push v))) (fun b=>fp b\/b=S):=fun b o nb q=>other b o (fun z=>nb (.inr z)) (k' b o (fun z=>nb (.inl z)) q);have sz:=G.sz;refine be (Qa9 NB rfl (tz ⟨QaW Qa3 _,(uu Fd hn fin k (i+1) _ tk' (acc.push v) _ ⋯ (Fd.keepS _ _ _ st' other) ⟨J4 _ NB rfl,by rw[Qb4,sz],?_,fun j u e =>?_⟩ (fun b o nb q=>k2 b o nb (kp b o nb q)))⟩) (by rw[sz];lia) (by show(acc.push v).size<=M2+1;rw[Qb4,sz];lia))
  ·rw[Qce];refine Y0.mpr ⟨G.pw,Qb9 _ _,fun a ha b hb =>?_⟩;obtain⟨j,hj⟩:=J7.mp ha;rw[Js.mp hb];exact rv j a (G.all j a (by simpa using hj))
  ·by_cases hj:j<i
   ·rw[Qfv ⋯] at e;exact Fd.keepP _ _ _ _ (G.all j u (by rw[J1 ⋯];exact e)) k2
   ·have NT:j=i:=by
     have:=(U2.mp e).1;rw[Qb4] at this;lia
    subst NT;have e':(acc.push v)[acc.size]? = some u:=by rw[sz];exact e
    rw[Qfj] at e';cases e';exact Fd.keepP _ _ _ _ pv fun b o nb q=>other b o (fun z=>nb (.inr z)) q
def xG (Fd:ym prog w A.in1 it S T fp n P R St)(hn:n<=M2){s:KE}{Z:Qb2->KE->Prop}{res:Fk}{c₀:Nat}(nH:St 0 s.heap)(hS:s.heap.get? S=some { cls := .type "list",data := .seq #[] c₀ })
  (fin:pR s.heap S fp n P R s (Z (.ok (.ret res)))) :
  Qaa (Qab prog w) A.in1 (Qbc (.ref S) (.ref it) res) (rq prog w A Z) (fun e s'=>Z (.error e) s') s:=by
 have go:∀h c tk,Keeps s.heap h (· = S)->h.get? S=some { cls := .type "list",data := .seq #[] c } -> Qa2 (Qab prog w) A (.builtin "list.extend.loop" ⟨[.ref S,.ref it,res],[]⟩) Z { s with heap:=h,toks:=tk }:=
  fun h c tk k o=>uu Fd hn fin n 0 h tk #[] c ⋯ (Fd.keepS _ _ _ nH k) ⟨o,rfl,.nil,fun j v e=>by simp at e⟩ fun b o nb q=>k b o (fun z=>nb (.inr z)) q
 obtain⟨oi,hoi,hci⟩:=Fd.ty 0 _ nH;have hT:s.TypeIs (.ref it) T:=⟨oi,hoi,hci⟩
 have yi:Qa4 (.ref S) (.ref it)=false:=by simp[Qa4,QaB Fd.ne]
 refine be (QaX hT ?_);simp only[yi,Fd.nl,Fd.nt,if_false];refine be (Fd.self s _ _ nH ?_);have hint:∀Q,Q true s->Qaa (Qab prog w) A.in1 (Qbz (.ref it)) Q (fun e s'=>Z (.error e) s') s:=fun Q q=>by
  exact be (QcR hT Fd.nolen (Qbj (fun z=>absurd z ∅) fun _=>Qbj (fun z=>absurd z ∅) fun _=>be (QcR hT Fd.nohint (tz q))))
 refine be (Qak (hint _ (Qbj (fun _=>(be (Qbi (be ?_)))) fun _=>tz ⟨QaW Qa3 _,go _ c₀ _ (fun _ _ _ q=>q) hS⟩)));have o1:=J4 (QaF (·.push Qcm)) hS rfl;refine be (Qa9 hS rfl (Qa9 o1 rfl (tz ⟨QaW Qa3 _,go _ _ _ (fun b o nb q =>?_) (J4 (QaF (·.pop)) o1 rfl)⟩)));exact(J5 _ _ (QaB nb)).trans ((J5 _ _ (QaB nb)).trans q)
def Ei (Fd:ym prog w A.in1 it S T fp n P R St)(hn:n<=M2){s:KE}{Z:Qb2->KE->Prop}(nH:St 0 s.heap)(hS:s.heap.get? S=some { cls := .type "list",data := .seq #[] })
  (fin:pR s.heap S fp n P R s (Z (.ok (.ret .none)))) :
  Qaa (Qab prog w) A.in1 (Builtin.«list.__init__» ⟨[.ref S,.ref it],[]⟩) (rq prog w A Z) (fun e s'=>Z (.error e) s') s:=by
 refine be (be (Qav hS rfl (tz ?_)));have k1:Keeps s.heap (s.heap.update S (QaF (fun _=>(#[]:Array Fk)))) (· = S):=fun b o nb q=>(J5 _ _ (QaB nb)).trans q;refine be (Qa9 hS rfl (be (Qcj (xG Fd hn (Fd.keepS _ _ _ nH k1) (J4 (QaF (fun _=>(#[]:Array Fk))) hS rfl) fun h' tk acc c k G =>?_))));exact fin h' tk acc c (fun b o nb q=>k b o nb (k1 b o (fun z=>nb (.inr z)) q)) G
def uG {Q:Fk->KE->Prop}{E:Fk->KE->Prop}(Fd:ym prog w A.in1.in1 it s.heap.objs.size T fp n P R St)(hn:n<=M2)(nH:∀o,St 0 (s.heap.push o))
  (fin:∀h' tk acc c,Keeps s.heap h' fp->o7 h' s.heap.objs.size n P R acc c->Q (.ref s.heap.objs.size) { s with heap:=h',toks:=tk }) :
  Qaa (Qab prog w) A (call (.type "list") [.ref it]) Q E s:=by
 refine Qc5 (Q₁:=fun obj s₁=>obj = .ref s.heap.objs.size/\s₁={ s with heap:=s.heap.push { cls := .type "list",data := .seq #[] } }) F.called_list (F.typeCall_list_1 _) F.entry_list_init
  (code_list_new _ ⟨rfl,rfl⟩) fun obj s₁ h₁ =>?_
 obtain⟨rfl,rfl⟩:=h₁;have hS:(s.heap.push { cls := .type "list",data := .seq #[] }).get? s.heap.objs.size=some { cls := .type "list",data := .seq #[] }:=Ji _ rfl;exact⟨⟨_,hS,rfl⟩,F.args_list_init_2 _ _,Ei Fd hn (nH _) hS fun h' tk acc c k G=>⟨rfl,fin h' tk acc c (fun b o nb q=>(k b o (fun z=>z.elim nb fun z=>cA (Jf q) (Je _) z) (Jb _ q))) G⟩⟩
end
abbrev hV (h:Heap)(z TI TO a:Gc)(f:Bool):Prop:=
 h.get? z=some { cls := .type "zip",dict:=none,data := .fields #[QaV a,.bool f,.bool false,.ref TI,.ref TO],slots := #[] }
section
variable {prog:Qaf}{w:Qag}{A:Qax}{E:Fk->KE->Prop}{s:KE}{z TI TO i1 i2 l1 l2 a:Gc}{f:Bool}{oa:Obj}
def nz (hz:hV s.heap z TI TO a f)(ha:s.heap.get? a=some oa)
  (q:∀h,hV h z TI TO a true->U6 z s.heap h->Q false { s with heap:=h }):Qaa (Qab prog w) A (Builtin.SmallTypes.ownedTupleIsFree (.ref z)) Q E s:=by
 refine be (Qai hz rfl rfl (be (Qf4 ha (be (Qai hz rfl rfl ?_)))));cases f
 ·exact be (Qah hz (by simp) fun h e k=>tz (q h e k))
 ·exact tz (q s.heap hz (U6.refl _ _))
def w6 (D:QcK z TI TO i1 i2 l1 l2)(hz:hV s.heap z TI TO a f)(ha:s.heap.get? a=some oa)(tj:Qbo s.heap TI (.ref i1) (.ref i2))
  (h1:s.heap.IsListIter i1 l1 k) (h2:s.heap.IsListIter i2 l2 k) (tF:s.heap.IsList l1 xs) (zh:s.heap.IsList l2 ys) (hx:xs[k]? = some x) (hy:ys[k]? = some y)
  (q:∀h',hV h' z TI TO a true->h'.IsListIter i1 l1 (k+1)->h'.IsListIter i2 l2 (k+1)->Qbo h' s.heap.objs.size x y->Keeps s.heap h' (fun b=>b=z\/b=i1\/b=i2)->Q (some (.ref s.heap.objs.size)) { s with heap:=h' }) :
  Qaa (Qab prog w) A (QbS (.ref z)) Q E s:=by
 have hT:s.TypeIs (.ref z) "zip":=⟨_,hz,rfl⟩
 refine be (Qbf (Qal hT QaI (Qar QaI hT QbC ?_ (Qbw _))));change Qaa _ _ (QbV (QfM (.ref z) 2) _) _ _ _;refine be (Qai hz rfl rfl (be (Qai hz rfl rfl (be (Qav tj rfl (be (nz hz ha fun h0 z0 k0=>be (be (be (Qak (be (Qbn (h1.extBut k0.extBut D.i1z) (tF.extBut k0.extBut D.l1z) hx fun h4 e4 k4=>tz (tz (be (be (Qak (be (Qbn ((h2.extBut k0.extBut D.i2z).extBut k4.extBut D.i12.symm) ((zh.extBut k0.extBut D.l2z).extBut k4.extBut D.l2i1) hy fun h5 e5 k5=>tz (tz (tz (be (Qcr (hsz:=by show 2<=M2;decide) (tz ⟨_,rfl,tz ?_⟩)))))))))))))))))))))));have hsz:h5.objs.size=s.heap.objs.size:=by rw[k5.1,k4.1,k0.1]
 rw[hsz];refine q (h5.push { cls := .type "tuple",data := .seq #[x,y] }) (Jb _ (k5.extBut _ _ D.i2z.symm (k4.extBut _ _ D.i1z.symm z0))) ((e4.extBut k5.extBut D.i12).at fun o e=>Jb _ e) (e5.at fun o e=>Jb _ e) (by rw[<-hsz];exact Ji _ rfl) fun b o nb e =>?_;exact Jb _ (k5.extBut _ _ (fun z=>nb (.inr (.inr z))) (k4.extBut _ _ (fun z=>nb (.inr (.inl z))) (k0.extBut _ _ (fun z=>nb (.inl z)) e)))
def vF (hh:A.handled=none)(D:QcK z TI TO i1 i2 l1 l2)(hz:hV s.heap z TI TO a f)(ha:s.heap.get? a=some oa)(tj:Qbo s.heap TI (.ref i1) (.ref i2))
  (h1:s.heap.IsListIter i1 l1 k) (h2:s.heap.IsListIter i2 l2 k) (tF:s.heap.IsList l1 xs) (zh:s.heap.IsList l2 ys) (he:xs[k]? = none\/ys[k]? = none)
  (q:∀h',Keeps s.heap h' (fun b=>b=z\/b=i1\/b=i2)->Q none { s with heap:=h' }) :
  Qaa (Qab prog w) A (QbS (.ref z)) Q E s:=by
 have hT:s.TypeIs (.ref z) "zip":=⟨_,hz,rfl⟩
 refine be (Qbf (Qal hT QaI (Qar QaI hT QbC ?_ (Qbw _))));change Qaa _ _ (QbV (QfM (.ref z) 2) _) _ _ _;refine be (Qai hz rfl rfl (be (Qai hz rfl rfl (be (Qav tj rfl (be (nz hz ha fun h0 z0 k0=>be (be (be (Qak ?_))))))))));cases hx:xs[k]? with
 | none=>
  refine be (QdW hh (h1.extBut k0.extBut D.i1z) (tF.extBut k0.extBut D.l1z) hx fun h4 e k4 oe=>ai.el (oe) _ ?_);rintro o ho hc;exact be (QaD ⟨o,ho,hc⟩ Qbt (tz (q h4 fun b o nb x=>k4 _ _ (fun z=>nb (.inr (.inl z))) (k0.extBut _ _ (fun z=>nb (.inl z)) x))))
 | some x=>
  refine be (Qbn (h1.extBut k0.extBut D.i1z) (tF.extBut k0.extBut D.l1z) hx fun h4 e4 k4=>tz (tz (be (be (Qak (be (QdW hh ((h2.extBut k0.extBut D.i2z).extBut k4.extBut D.i12.symm) ((zh.extBut k0.extBut D.l2z).extBut k4.extBut D.l2i1) (he.resolve_left (by rw[hx];exact nofun)) fun h5 e k5 oe=>ai.el (oe) _ ?_)))))));rintro o ho hc;exact be (QaD ⟨o,ho,hc⟩ Qbt (tz (q h5 fun b o nb x=>k5 _ _ (fun z=>nb (.inr (.inr z))) (k4.extBut _ _ (fun z=>nb (.inr (.inl z))) (k0.extBut _ _ (fun z=>nb (.inl z)) x)))))
end
structure zg (z TI TO i1 i2 l1 l2 S:Gc)(xs ys:Array Fk)(i:Nat)(h:Heap):Prop where
 ti:Qbo h TI (.ref i1) (.ref i2)
 to:∃a b,Qbo h TO a b
 it1:h.IsListIter i1 l1 i
 it2:h.IsListIter i2 l2 i
 a1:h.IsList l1 xs
 a2:h.IsList l2 ys
 zp:QfX h z TI TO .none\/0<i/\∃a f oa,hV h z TI TO a f/\h.get? a=some oa/\S<a
abbrev rW (z TO i1 i2:Gc)(b:Gc):Prop:=b=z\/b=TO\/b=i1\/b=i2
abbrev Cr (S:Gc)(xs ys:Array Fk)(j:Nat)(v:Fk)(h:Heap):Prop:=sF fun a x y=>v = .ref a/\S<a/\xs[j]? = some x/\ys[j]? = some y/\Qbo h a x y
abbrev jE (u v:Fk):Prop:=∃a b,u = .ref a/\v = .ref b/\a<b
def xX {z TI TO i1 i2 l1 l2 S:Gc}{xs ys:Array Fk}(hh:A.handled=none)(D:QcK z TI TO i1 i2 l1 l2)(b1:z<S)(b2:TI<S)(b3:TO<S)(b4:i1<S)(b5:i2<S)(b6:l1<S)(b7:l2<S):
  ym prog w A z S "zip" (rW z TO i1 i2) (min xs.size ys.size) (Cr S xs ys) jE (zg z TI TO i1 i2 l1 l2 S xs ys) where
 sfp:=fun q=>by
  rcases q with q|q|q|q<;>(rw[q] at b1 b3 b4 b5;first|exact absurd b1 (Ue _)|exact absurd b3 (Ue _)|exact absurd b4 (Ue _)|exact absurd b5 (Ue _))
 ne:=Jo b1
 ty:=fun i h st=>by
  rcases st.zp with q|⟨_,a,f,oa,q,_⟩
  ·exact⟨_,q,rfl⟩
  ·exact⟨_,q,rfl⟩
 self:=fun s Q E st q=>by
  rcases st.zp with r|⟨r,_⟩
  ·exact Qdw r q
  ·exact absurd r (Ue _)
 item:=fun i s Q E hi st hS q=>by
  obtain⟨ti,⟨a,b,to⟩,it1,it2,a1,a2,zp⟩:=st;have hx:xs[i]? = some (xs[i]'⋯):=J1 ⋯;have hy:ys[i]? = some (ys[i]'⋯):=J1 ⋯;have old:∀j u,Cr S xs ys j u s.heap->jE u (.ref s.heap.objs.size):=fun j u hz_=>ai.el hz_ _ fun a x y e _ _ _ p=>⟨a,_,e,rfl,Jf p⟩
  rcases zp with r|⟨hi0,c,f,oc,r,oc',hc⟩
  ·refine wpAny_pyNext_zip_item D r ti to it1 it2 a1 a2 hx hy fun h' r1 r2 r3 r4 r5 r6 r7 =>?_;have kp:Keeps s.heap h' (rW z TO i1 i2):=fun b o nb e=>r7 b o (fun z=>nb (.inl z)) (fun z=>nb (.inr (.inl z))) (fun z=>nb (.inr (.inr (.inl z)))) (fun z=>nb (.inr (.inr (.inr z)))) e;refine q _ h' s.toks kp ⟨r7 _ _ D.TIz D.TITO D.TIi1 D.TIi2 ti,⟨_,_,r2⟩,r3,r4,a1.at fun o e=>r7 _ _ D.l1z D.l1TO D.l1i1 D.l1i2 e,a2.at fun o e=>r7 _ _ D.l2z D.l2TO D.l2i1 D.l2i2 e,.inr ⟨Qdq _,_,_,_,r1,r5,hS⟩⟩ ⟨_,_,_,rfl,hS,hx,hy,r5⟩ old
  ·have ne:∀{b:Gc},b<S->c≠b:=fun hb=>Ug (U7 hb hc);refine w6 D r oc' ti it1 it2 a1 a2 hx hy fun h' r1 r2 r3 r4 r5 =>?_;have kp:Keeps s.heap h' (rW z TO i1 i2):=fun b o nb e=>r5 b o (fun z=>z.elim (fun z=>nb (.inl z)) fun z=>nb (.inr (.inr z))) e;refine q _ h' s.toks kp ⟨r5 _ _ (fun z=>z.elim D.TIz fun z=>z.elim D.TIi1 D.TIi2) ti,⟨_,_,r5 _ _ (fun z=>z.elim D.TOz fun z=>z.elim D.TOi1 D.TOi2) to⟩,r2,r3,a1.at fun o e=>r5 _ _ (fun z=>z.elim D.l1z fun z=>z.elim D.l1i1 D.l1i2) e,a2.at fun o e=>r5 _ _ (fun z=>z.elim D.l2z fun z=>z.elim D.l2i1 D.l2i2) e,
    .inr ⟨Qdq _,_,_,_,r1,r5 _ _ (fun z=>z.elim (ne b1) fun z=>z.elim (ne b4) (ne b5)) oc',hc⟩⟩ ⟨_,_,_,rfl,hS,hx,hy,r4⟩ old
 stop:=fun s Q E st hS q=>by
  obtain⟨ti,⟨a,b,to⟩,it1,it2,a1,a2,zp⟩:=st;have he:xs[min xs.size ys.size]? = none\/ys[min xs.size ys.size]? = none:=by
   rcases QfU xs.size ys.size with h|h
   ·exact .inl (Ur ⋯)
   ·exact .inr (Ur ⋯)
  rcases zp with r|⟨hi0,c,f,oc,r,oc',hc⟩
  ·exact wpAny_pyNext_zip_end hh D r ti to it1 it2 a1 a2 he fun h' k=>q h' s.toks fun b o nb e=>k b o (fun z=>nb (.inl z)) (fun z=>nb (.inr (.inl z))) (fun z=>nb (.inr (.inr (.inl z)))) (fun z=>nb (.inr (.inr (.inr z)))) e
  ·exact vF hh D r oc' ti it1 it2 a1 a2 he fun h' k=>q h' s.toks fun b o nb e=>k b o (fun z=>z.elim (fun z=>nb (.inl z)) fun z=>nb (.inr (.inr z))) e
 keepS:=fun i h h' st k=>by
  obtain⟨ti,⟨a,b,to⟩,it1,it2,a1,a2,zp⟩:=st;refine⟨k _ _ (Jo b2) ti,⟨a,b,k _ _ (Jo b3) to⟩,it1.at fun o e=>k _ o (Jo b4) e,it2.at fun o e=>k _ o (Jo b5) e,a1.at fun o e=>k _ o (Jo b6) e,a2.at fun o e=>k _ o (Jo b7) e,?_⟩
  rcases zp with r|⟨hi0,c,f,oc,r,oc',hc⟩
  ·exact .inl (k _ _ (Jo b1) r)
  ·exact .inr ⟨hi0,c,f,oc,k _ _ (Jo b1) r,k _ _ (Ug hc) oc',hc⟩
 keepP:=fun j v h h' ⟨a,x,y,e,ha,h1,h2,p⟩ k=>by
  have ne:∀{b:Gc},b<S->a≠b:=fun hb=>Ug (U7 hb ha);exact⟨a,x,y,e,ha,h1,h2,k _ _ (fun z=>z.elim (fun z=>z.elim (ne b1) fun z=>z.elim (ne b3) fun z=>z.elim (ne b4) (ne b5)) (Ug ha)) p⟩
 nolen:=by rw[QcS,QbT];kernel_rfl
 nohint:=by rw[QcS,QbT];kernel_rfl
 nl:=∅
 nt:=∅
def Inv.mN {σ:St}:∀(as:List Gc) (ps:List (List V)) {H:Hp} {s:KE},Inv X pins σ H s->as.Nodup->as.length=ps.length->(∀a∈as,gj X pins H a/\X.s₀.heap.objs.size<=a) ->
  (∀(j:Nat) a p,as[j]? = some a->ps[j]? = some p->p.length<=M2/\∃aA,Vals p aA/\uU s.heap a aA.toArray) ->
  ∃H',Inv X pins σ H' s/\ak H H'/\(∀b,b∉as->H' b=H b)/\∀(j:Nat) a p,as[j]? = some a->ps[j]? = some p->H' a=some (.tup p)
 | [],ps,H,s,I,_,_,_,_=>⟨H,I,ak.refl H,fun _ _=>rfl,fun j a p h _=>by simp at h⟩
 | a::as,[],H,s,I,_,hl,_,_=>by simp at hl
 | a::as,p::ps,H,s,I,nd,hl,hf,ho=>by
  obtain⟨na,Sf⟩:=Yb.mp nd;obtain⟨fa,sa⟩:=hf a Jn;obtain⟨hz,aA,rv,ht⟩:=ho 0 a p rfl rfl;obtain⟨H',I',sm,same,all⟩:=Inv.mN as ps (I.adopt (o := .tup p) fa sa ⟨hz,aA,rv,ht⟩) Sf (by simpa using hl) (fun b hb=>by
   obtain⟨fb,sb⟩:=hf b (Jk _ hb);exact⟨⟨by rw[ao (fun e=>na (by rw[<-e];exact hb))];exact fb.1,fb.2⟩,sb⟩) (fun j b q h1 h2=>ho (j+1) b q h1 h2)
  refine⟨H',I',fun b o e=>sm b o (by rw[ao (ax e fa.1)];exact e),fun b hb =>?_,fun j b q h1 h2 =>?_⟩
  ·rw[same b fun z=>hb (Jk _ z),ao (fun z=>hb (by rw[z];exact Jn))]
  ·cases j with
   | zero=>
    cases h1;cases h2;rw[same a na];exact aq
   | succ j=>exact all j b q h1 h2
def p9:∀{l:List Fk},(∀v∈l,∃a,v = .ref a)->∃as:List Gc,l=as.map Qap
 | [],_=>⟨[],rfl⟩
 | v::r,h=>by
  obtain⟨a,rfl⟩:=h v Jn;obtain⟨as,rfl⟩:=p9 fun u hu=>h u (Jk _ hu);exact⟨a::as,rfl⟩
section
variable {X:Cx}
def tLZ (K:Ja)(ta:TA):TE:=fun σ H Q=>ta σ H fun vs H1=>pH fun l1 l2 xs ys=>vs=[.ref l1,.ref l2]/\aX K H1 l1 xs/\aX K H1 l2 ys /\
 ∀H' p (as:List Gc),ak H1 H'->H1 p=none->H' p=some (.lst (as.map V.ref))->as.length=min xs.length ys.length ->
  (∀(j:Nat) a x y,as[j]? = some a->xs[j]? = some x->ys[j]? = some y->H1 a=none/\H' a=some (.tup [x,y]))->Q (.ref p) H'
def ux {xs ys:List V}(j:Nat)(x y:V)(hx:xs[j]? = some x)(hy:ys[j]? = some y):((xs.zip ys).map fun q=>[q.1,q.2])[j]? = some [x,y]:=by grind
def Bd {p p2 pos qK:Pos}(hc:X.calm=true)(Nb:Gl X "list")(Nw:X.mg "list" = none)(RK:Gl X "zip")(TB:X.mg "zip" = none)(ha:PA X [a,b] ta)
  (Hc:QaT "list" = some (.type "list"):=by first|rfl|decide) (Rt:QaT "zip" = some (.type "zip"):=by first|rfl|decide)
  (Oe:Qaj [.Call (.Name "zip" p2) [a,b] [] qK] X.env=[(false,QaR (.Call (.Name "zip" p2) [a,b] [] qK) X.env)]:=by rfl)
  (hs:Qaj [a,b] X.env=[(false,QaR a X.env),(false,QaR b X.env)]:=by rfl) (B5:Qaj [b] X.env=[(false,QaR b X.env)]:=by rfl) :
  PE X (.Call (.Name "list" p) [.Call (.Name "zip" p2) [a,b] [] qK] [] pos) (tLZ X.K ta):=by
 refine fun pins s σ H Q I h=>QaS (eY I Nb Nw Hc (Qan (Qb6 (Call_ (eY I RK TB Rt (Qan (bh (ha s σ H _ I h) fun us s1 hz_=>ai.el hz_ _ fun vs H1 I1 r1 q1 =>?_) (by rw[hs,B5]) (by rw[B5];rfl))))) Oe rfl));obtain⟨l1,l2,xs,ys,e,q1,q2,q⟩:=q1;subst e;obtain⟨u,w',rfl,r1,r2⟩:=vals2 r1;cases r1;cases r2;obtain⟨its1,rv1,p1,hz1⟩:=I1.list q1;refine ai.el (I1.list q2) _ ?_;rintro its2 rv2 p2 hz2;have e1:=rv1.length;have e2:=rv2.length;have a1:l1<s1.heap.objs.size:=by obtain⟨_,e,_⟩:=p1.isList;exact Jf e
 have a2:l2<s1.heap.objs.size:=by obtain⟨_,e,_⟩:=p2.isList;exact Jf e
 refine call_zip_2 p1.isList p2.isList fun h' hz tj zW hi1 hi2 hsz hk=>Qcd ?_;have uh:s1.heap.objs.size<=h'.objs.size:=by rw[hsz];exact Ul _ _
 have jv:∀n,n<5->s1.heap.objs.size+n<h'.objs.size:=fun n hn=>by rw[hsz];exact QdZ hn _
 have zs:∀o,zg (s1.heap.objs.size+4) (s1.heap.objs.size+2) (s1.heap.objs.size+3) s1.heap.objs.size (s1.heap.objs.size+1) l1 l2 h'.objs.size its1.toArray its2.toArray 0 (h'.push o):=fun o=>
  ⟨Jb _ tj,⟨_,_,Jb _ zW⟩,hi1.at fun o e=>Jb _ e,hi2.at fun o e=>Jb _ e,(p1.isList.at fun o e=>hk _ o e).push _,(p2.isList.at fun o e=>hk _ o e).push _,.inl (Jb _ hz)⟩
 refine uG (xX (I.ok.hd hc) (QeK a1 a2) (jv 4 ∅) (jv 2 ∅) (jv 3 ∅) (jv 0 ∅) (jv 1 ∅) (Jx a1 uh) (Jx a2 uh)) (by simp;lia) zs fun h2 tk acc c hk2 G =>?_;obtain⟨hS2,hsz2,hpw,jR⟩:=G;obtain⟨as,hU⟩:=p9 (l:=acc.toList) fun v hv=>by
  obtain⟨j,hj⟩:=J7.mp hv;obtain⟨a,_,_,e,_⟩:=jR j v (by simpa using hj);exact⟨a,e⟩
 have jM:∀j a,as[j]? = some a->∃x y,h'.objs.size<a/\its1.toArray[j]? = some x/\its2.toArray[j]? = some y/\Qbo h2 a x y:=fun j a h=>by
  obtain⟨a',x,y,e,g⟩:=jR j (.ref a) (by
   have:acc.toList[j]? = some (.ref a):=by rw[hU,Jj,h];rfl
   simpa using this)
  cases e;exact⟨x,y,g⟩
 have above:∀a∈as,h'.objs.size<a:=fun a ha=>by
  obtain⟨j,hj⟩:=J7.mp ha;obtain⟨_,_,g,_⟩:=jM j a hj;exact g
 have old:∀b o,s1.heap.get? b=some o->h2.get? b=some o:=fun b o e=>by
  have gt:∀n,b≠s1.heap.objs.size+n:=fun n=>Jo (Jx (Jf e) (Ul _ _));exact hk2 b o (fun z=>z.elim (gt 4) fun z=>z.elim (gt 3) fun z=>z.elim (gt 0) (gt 1)) (hk b o e)
 have I2:Inv X pins σ H1 { s1 with heap:=h2,toks:=tk }:=I1.kept old;have tP:=fun a ha=>Yi (J6 uh (above a ha));have nd:as.Nodup:=by
  rw[hU,Qee] at hpw;exact hpw.imp fun hz_=>ai.el hz_ _ fun a b e1 e2 h=>by cases e1;cases e2;exact Jo h
 have eU:∀a,s1.heap.objs.size<=a->gj X pins H1 a/\X.s₀.heap.objs.size<=a:=fun a ha=>⟨I1.eU ha (I1.bE.fresh ha),Jg I1.sz ha⟩
 have FP:as.length=min xs.length ys.length:=by
  have z:acc.toList.length=as.length:=by rw[hU,Jc]
  simp at z hsz2;lia
 obtain⟨H',I',sm,same,all⟩:=I2.mN as ((xs.zip ys).map fun q=>[q.1,q.2]) nd (by rw[Jc,Yh];lia) (fun a ha=>eU a (tP a ha)) (fun j a pp h1 h2'=>by
  refine ai.el (jM j a h1) _ ?_;rintro x y _ g1 g2 g3;refine ai.el (kF rv1 g1) _ ?_;rintro vx gx rx;refine ai.el (kF rv2 g2) _ ?_;rintro vy gy ry;have z:=ux j vx vy gx gy;rw[z] at h2';cases h2';exact⟨by show 2<=M2;decide,[x,y],.cons rx (.cons ry .nil),⟨_,g3,rfl,rfl,_,rfl⟩⟩)
 have IB:=fun hm=>Ue _ (above _ hm);have nP:=I1.bE.fresh uh;obtain⟨fS,sS⟩:=eU h'.objs.size uh;have I3:=I'.adopt (o := .lst (as.map V.ref)) ⟨by rw[same _ IB];exact nP,fS.2⟩ sS ⟨by rw[Jc];lia,acc.toList,c,by
  rw[hU];clear hS2 hU all same I' sm tP nd FP IB above jM
  induction as with
  | nil=>exact .nil
  | cons a r ih=>exact .cons rfl ih,by simpa using hS2⟩
 refine⟨.ref h'.objs.size,_,I3,rfl,q _ _ as (fun b o e =>?_) nP aq FP fun j a x y h1 h2' h3'=>⟨(eU a (tP a (J2 h1))).1.1,?_⟩⟩
 ·rw[ao (ax e nP)];exact sm b o e
 ·rw[ao (fun z=>IB (by rw[<-z];exact J2 h1))];exact all j a [x,y] h1 (ux j x y h2' h3')
end
structure ju (H:Hp)(p:Gc)(o:HO)(H':Hp):Prop where
 nn:H p=none
 eq:H'=upd H p o
def ju.at {p:Gc}{o:HO}(n:ju H p o H'):H' p=some o:=by rw[n.eq];exact aq
def ju.ne {p a:Gc}{o:HO}(n:ju H p o H')(h:a≠p):H' a=H a:=by rw[n.eq];exact ao h
def ju.same {p:Gc}{o:HO}(n:ju H p o H'):ak H H':=fun a u e=>by rw[n.ne (ax e n.nn)];exact e
def ju.back {p a:Gc}{o:HO}(n:ju H p o H')(h:H' a=none):H a=none:=by
 cases e:H a with
 | none=>rfl
 | some u=>rw[n.same a u e] at h;cases h
structure Ip (H:Hp)(p:Gc)(o:HO)(H':Hp):Prop where
 eq:H'=upd H p o
def Ip.at {p:Gc}{o:HO}(n:Ip H p o H'):H' p=some o:=by rw[n.eq];exact aq
def Ip.ne {p a:Gc}{o:HO}(n:Ip H p o H')(h:a≠p):H' a=H a:=by rw[n.eq];exact ao h
def v8 {F:Gc->Hp->Prop}:(∀p,H p=none->F p (upd H p o)) = ∀p H',ju H p o H'->F p H':=
 propext ⟨fun h p H' n=>by rw[n.eq];exact h p n.nn,fun h p hp=>h p _ ⟨hp,rfl⟩⟩
def KZ {F:Hp->Prop}:F (upd H p o) = ∀H',Ip H p o H'->F H':=
 propext ⟨fun h H' n=>by rw[n.eq];exact h,fun h=>h _ ⟨rfl⟩⟩
section
variable {X:Cx}{pos:Pos}{es:List QaE}{t:TA}
def Im (t:TA):TE:=fun σ H Q=>t σ H fun xs H1=>xs.length<=M2/\∀p H',ju H1 p (.tup xs) H'->Q (.ref p) H'
def MO (t:TA):TE:=fun σ H Q=>t σ H fun xs H1=>xs.length<=M2/\∀p H',ju H1 p (.lst xs) H'->Q (.ref p) H'
def dg (h:PA X es t):PE X (.Tuple es x1 pos) (Im t):=by
 have e:Im t=TJ t:=by
  funext σ H Q
  show t σ H _=t σ H _
  congr 1;funext xs H1
  exact congrArg (_ /\ ·) (v8).symm
 rw[e];exact Hs h
def gL (h:PA X es t):PE X (.List es pos) (MO t):=by
 have e:MO t=Q7 t:=by
  funext σ H Q
  show t σ H _=t σ H _
  congr 1;funext xs H1
  exact congrArg (_ /\ ·) (v8).symm
 rw[e];exact NV h
def Ag (Bf:List (TE×TE)):TE:=fun σ H Q=>∀p H0,ju H p (.dK []) H0->qh Bf σ H0 fun ps H2=>H2 p=some (.dK [])/\∃kvs,ps=kvs.map (fun kv=>(kV kv.1,kv.2))/\kvs.length<=15/\∀H3,Ip H2 p (.dK (cY [] kvs)) H3->Q (.ref p) H3
def SU (h:SM X pos keys values Bf)(jR:keys.all (·.isSome)=true)(hl:keys.length=values.length)(h0:keys≠[])
  (NA:keys.length<=15):PE X (.Dict keys values pos) (Ag Bf):=by
 have e:Ag Bf=Gr Bf:=by
  funext σ H Q
  unfold Ag Gr;rw[v8 (F:=fun p H0=>qh Bf σ H0 fun ps H2=>H2 p=some (.dK [])/\∃kvs,ps=kvs.map (fun kv=>(kV kv.1,kv.2))/\kvs.length<=15/\Q (.ref p) (upd H2 p (.dK (cY [] kvs))))];simp only[<-KZ]
 rw[e];exact Kk h jR hl h0 NA
end
section
variable {X:Cx}(K:Ja)
def X8 (K:Ja):V->Option Int->Option Int->Hp->VK->Prop:=fun x lo hi H Q=>(eM fun a xs=>x = .ref a/\aX K H a xs/\∀p H',ju H p (.lst (kL xs lo hi)) H'->Q (.ref p) H')\/(∃z,x = .str z/\z.length<=M2/\Q (.str (QaN z lo hi)) H)
def QA (hK:X.K=K:=by rfl):FN X (X8 K):=by
 subst hK;refine fun pins s σ H x v vl vu lo hi sl Q I rx hs pl pu q=>SH s σ H x v vl vu lo hi sl Q I rx hs pl pu ?_
 rcases q with ⟨a,xs,e,h,q⟩|q
 ·exact .inl ⟨a,xs,e,h,fun p hp=>q p _ ⟨hp,rfl⟩⟩
 ·exact .inr q
def HD (hK:X.K=K:=by rfl):bK X (.type "list") (fun xs H Q=>∃p ys,xs=[.ref p]/\(aX K H p ys\/bg K H p ys)/\∀l H',ju H l (.lst ys) H'->Q (.ref l) H'):=by
 subst hK;refine fun pins s σ H xs us Q I r h=>ai.el (h) _ ?_;rintro p ys e h q;exact wJ s σ H xs us Q I r ⟨p,ys,e,h,fun l hl=>q l _ ⟨hl,rfl⟩⟩
def nK (hK:X.K=K:=by rfl):bK X (.type "tuple") (fun xs H Q=>∃p ys,xs=[.ref p]/\((aX K H p ys/\∀l H',ju H l (.tup ys) H'->Q (.ref l) H')\/(bg K H p ys/\Q (.ref p) H))):=by
 subst hK;refine fun pins s σ H xs us Q I r h=>ai.el (h) _ ?_;rintro p ys e h;refine tM s σ H xs us Q I r ⟨p,ys,e,?_⟩
 rcases h with ⟨h,q⟩|h
 ·exact .inl ⟨h,fun l hl=>q l _ ⟨hl,rfl⟩⟩
 ·exact .inr h
end
section
variable {X:Cx}
def MI:R2:=fun x y H Q=>(eM fun i j=>x = .int i/\y = .int j/\Q (.int (i+j)) H)\/(∃i j,x = .str i/\y = .str j/\i.length+j.length<=M2/\Q (.str (i++j)) H) \/
 pH fun l b xs zs=>x = .ref l/\y = .ref b/\H l=some (.lst xs)/\H b=some (.lst zs)/\xs.length+zs.length<=M2/\∀p H',ju H p (.lst (xs++zs)) H'->Q (.ref p) H'
def bX:fD X (Qbu .Add) MI:=by
 refine fun pins s σ H x y v u Q I rx ry h=>QF s σ H x y v u Q I rx ry ?_
 rcases h with h|h|⟨l,b,xs,zs,e1,e2,h1,h2,h3,q⟩
 ·exact .inl h
 ·exact .inr (.inl h)
 ·exact .inr (.inr ⟨l,b,xs,zs,e1,e2,h1,h2,h3,fun p hp=>q p _ ⟨hp,rfl⟩⟩)
def MQ:R2:=fun x y H Q=>(eM fun i j=>x = .int i/\y = .int j/\A0 i j/\Q (.int (i*j)) H) \/
 sF fun l k xs=>x = .ref l/\y = .int k/\H l=some (.lst xs) /\ -(2^63)<=k/\k<2^63/\xs.length*k.toNat<=M2/\∀p H',ju H p (.lst (Jt k.toNat xs).flatten) H'->Q (.ref p) H'
def qD:fD X (Qbu .Mult) MQ:=by
 refine fun pins s σ H x y v u Q I rx ry h=>S6 s σ H x y v u Q I rx ry ?_
 rcases h with h|⟨l,k,xs,e1,e2,h1,h2,h3,h4,q⟩
 ·exact .inl h
 ·exact .inr ⟨l,k,xs,e1,e2,h1,h2,h3,h4,fun p hp=>q p _ ⟨hp,rfl⟩⟩
def Lc:bK X (.builtin "divmod") (fun xs H Q=>∃i j,xs=[.int i,.int j]/\KI i j/\∀p H',ju H p (.tup [.int (i / j),.int (i%j)]) H'->Q (.ref p) H'):=by
 refine fun pins s σ H xs us Q I r h=>ai.el (h) _ ?_;rintro i j e c q;exact xM s σ H xs us Q I r ⟨i,j,e,c,fun p hp=>q p _ ⟨hp,rfl⟩⟩
def kE:QD X "list.append" (fun x vs H Q=>∃l xs y,x = .ref l/\vs=[y]/\H l=some (.lst xs)/\xs.length<M2/\∀H',Ip H l (.lst (xs++[y])) H'->Q .non H'):=by
 refine fun pins s σ H x xs v us Q I rx rv h=>ai.el (h) _ ?_;rintro l ys y e1 e2 h1 h2 q;exact C4 s σ H x xs v us Q I rx rv ⟨l,ys,y,e1,e2,h1,h2,q _ ⟨rfl⟩⟩
def M9:QD X "list.pop" (fun x vs H Q=>∃l xs i y,x = .ref l/\vs=[.int i]/\H l=some (.lst xs)/\0<=i/\i<2^63/\xs[i.toNat]? = some y/\∀H',Ip H l (.lst (xs.eraseIdx i.toNat)) H'->Q y H'):=by
 refine fun pins s σ H x xs v us Q I rx rv h=>ai.el (h) _ ?_;rintro l ys i y e1 e2 h1 h2 h3 h4 q;refine Gy s σ H x xs v us Q I rx rv ⟨l,ys,i,i.toNat,y,e1,e2,h1,⋯,h3,?_,h4,q _ ⟨rfl⟩⟩;obtain⟨j,hj,hj2,_⟩:=qa (kn h4);have:FH ys.length i=some i.toNat:=by unfold FH;rw[if_pos h2,if_pos ⋯]
 exact(vV this).1
end
def iC {n:Nat}{js:List Nat}{g:TG}{tc:TT}{te:TE}{σ:St}{H1:Hp}{Q:V->Hp->Prop}(N:Nat)(Pv:Nat->List V->Hp->Prop)(h0:Pv 0 [] H1)
  (go:∀i ys H (Nx:List V->Hp->Prop),i<N->Pv i ys H->(∀ys' H',Pv (i+1) ys' H'->Nx ys' H')->J.go i H/\ys.length<M2 /\
   ∀x H',J.yld i H x H'->g x (Jt n none++dY σ js) H' fun σ2 H2=>tc σ2 H2 fun b H3=>if b=true then te σ2 H3 fun y H4=>Nx (ys++[y]) H4 else Nx ys H3)
  (stop:∀ys H,Pv N ys H->J.stop N H/\∀p H',ju H p (.lst ys) H'->Q (.ref p) H'):BW J n js g tc te σ H1 fun ys H2=>∀p,H2 p=none->Q (.ref p) (upd H2 p (.lst ys)):=
 dw N Pv h0 go fun ys H h=>⟨(stop ys H h).1,fun p hp=>(stop ys H h).2 p _ ⟨hp,rfl⟩⟩
def lC {i:Int}{v: α}(h0:0<=i)(h:xs[i.toNat]? = some v):CL xs i=some v:=by
 have q:=kn h;have e:((i.toNat:Nat):Int)=i:=by lia
 rw[e] at q;exact q
def FG:Qac->String
 | .none => "NoneType"
 | .bool _ => "bool"
 | .int _ => "int"
 | .str _ => "str"
 | .list _ => "list"
 | .tuple _ => "tuple"
 | .dict _ => "dict"
def RC (d:Qac)(T:String):Bool:=FG d==T||(FG d == "bool" && T == "int")
def yH (K:Ja)(d:Qac):Yv K (.type (FG d)) (.type "bool")=some (RC d "bool")/\Yv K (.type (FG d)) (.type "int")=some (RC d "int")/\Yv K (.type (FG d)) (.type "str")=some (RC d "str") /\
  Yv K (.type (FG d)) (.type "list")=some (RC d "list")/\Yv K (.type (FG d)) (.type "tuple")=some (RC d "tuple"):=by
 cases d<;>exact⟨rfl,rfl,rfl,rfl,rfl⟩
section
variable {X:Cx}
def CC {σ:St}{H:Hp}{s:KE}{x:V}{u:Fk}{d:Qac}(I:Inv X pins σ H s)(rx:RelV x u)(h:Den X.K H d x):∃HH,PySem.W.KitX X.K u (.type (FG d)) HH/\HH s.heap/\u ≠ .builtin "__main__.__loader__#opaque":=by
 cases d with
 | none=>unfold Den at h;subst h;cases rx;exact⟨_,Qf1,QaO,nofun⟩
 | bool b=>unfold Den at h;subst h;cases rx;exact⟨_,Qf3,QaO,nofun⟩
 | int i=>unfold Den at h;subst h;obtain⟨t,rfl⟩:=rx;exact⟨_,PySem.W.kitx_int,QaO,nofun⟩
 | str y=>unfold Den at h;subst h;obtain⟨t,rfl⟩:=rx;exact⟨_,PySem.W.kitx_str,QaO,nofun⟩
 | list ds=>
  unfold Den at h;refine ai.el (h) _ ?_;rintro a vs rfl h2 _;cases rx;obtain⟨aA,_,⟨o,n,e1,e2,_⟩,_⟩:=I.list h2;exact⟨_,QdX,⟨o,e1,e2⟩,nofun⟩
 | tuple ds=>
  unfold Den at h;refine ai.el (h) _ ?_;rintro a vs rfl h2 _;cases rx;obtain⟨aA,_,⟨o,e1,e2,_⟩,_⟩:=I.tuple h2;exact⟨_,QfR,⟨o,e1,e2⟩,nofun⟩
 | dict _=>unfold Den at h;exact h.elim
def EC:bK X (.builtin "isinstance") (fun xs H Q=>∃x T d b,xs=[x,.ty T]/\Den X.K H d x/\Yv X.K (.type (FG d)) (.type T)=some b/\Q (.bl b) H):=by
 refine fun pins s σ H xs us Q I r h=>ai.el (h) _ ?_;rintro x T d b rfl hd e q;refine ai.el (vals2 r) _ ?_;rintro u w' rfl r1 r2;cases r2;refine ai.el (CC I r1 hd) _ ?_;rintro HH Z hh hx;exact U9 Z I.kc hh e hx fun tk=>⟨.bl b,H,I.tok _,rfl,q⟩
def Bg:bK X (.builtin "isinstance") (fun xs H Q=>∃(x:V) (p:Gc) (Ts:List String) (d:Qac) (b:Bool),xs=[x,.ref p]/\H p=some (.tup (Ts.map V.ty))/\Den X.K H d x/\PySem.W.kitAny X.K (.type (FG d)) (Ts.map Qa1)=some b/\Q (.bl b) H):=by
 refine fun pins s σ H xs us Q I r h=>ai.el (h) _ ?_;rintro x p Ts d b rfl hp hd e q;refine ai.el (vals2 r) _ ?_;rintro u w' rfl r1 r2;cases r2;refine ai.el (CC I r1 hd) _ ?_;rintro HH Z hh hx;obtain⟨hz,aA,rv,o,h1,qu,h2,n,h3⟩:=(show bC X.prog X.w H s.heap p (.tup (Ts.map V.ty)) from I.bE p _ hp)
 have ei:aA=Ts.map Qa1:=by
  clear e hp h3 h2 h1 qu hz
  induction Ts generalizing aA with
  | nil=>cases rv;rfl
  | cons T Ts ih=>
   cases rv with
   | cons q1 q2=>cases q1;rw[ih _ q2];rfl
 subst ei;obtain⟨cls,dd,data,sl⟩:=o;subst h2 h3;exact PySem.W.kia_tup Z I.kc hh h1 e hx fun tk=>⟨.bl b,H,I.tok _,rfl,q⟩
def V8 (K:Ja):List V->Hp->VK->Prop:=fun xs H Q=>(∃x T d b,xs=[x,.ty T]/\Den K H d x/\Yv K (.type (FG d)) (.type T)=some b/\Q (.bl b) H) \/
 ∃x T t b,xs=[x,.ty T]/\m8 K H x t/\Yv K t (.type T)=some b/\Q (.bl b) H
def jN (K:Ja)(hK:X.K=K:=by rfl):bK X (.builtin "isinstance") (V8 K):=by subst hK;exact EC.or HC
def Ss (K:Ja):List V->Hp->VK->Prop:=fun xs H Q=>∃(x:V) (p:Gc) (Ts:List String) (d:Qac) (b:Bool),xs=[x,.ref p]/\H p=some (.tup (Ts.map V.ty))/\Den K H d x/\PySem.W.kitAny K (.type (FG d)) (Ts.map Qa1)=some b/\Q (.bl b) H
def RT (K:Ja)(hK:X.K=K:=by rfl):bK X (.builtin "isinstance") (Ss K):=by subst hK;exact Bg
end
def YY (k:Bool):String:=if k then "tuple" else "list"
def Il (k:Bool):String:=if k then "tuple_iterator" else "list_iterator"
def fA (k:Bool)(h:Heap)(a:Gc)(aA:Array Fk):Prop:=∃o,h.get? a=some o/\o.cls = .type (YY k)/\∃n,o.data = .seq aA n
def jw (k:Bool)(h:Heap)(it a:Gc)(i:Nat):Prop:=∃o,h.get? it=some o/\o.cls = .type (Il k)/\o.data = .fields #[.ref a,.int i 0]
def fA.at {a:Gc}{aA:Array Fk}(x:fA k h a aA)(e:∀o,h.get? a=some o->h'.get? a=some o):fA k h' a aA:=let ⟨o,ho,r⟩:=x; ⟨o,e _ ho,r⟩
def jw.at {it a:Gc}{i:Nat}(x:jw k h it a i)(e:∀o,h.get? it=some o->h'.get? it=some o):jw k h' it a i:=let ⟨o,ho,r⟩:=x; ⟨o,e _ ho,r⟩
def fA.lt (x:fA k h a aA):a<h.objs.size:=let ⟨_,e,_⟩:=x;Jf e
def jw.lt (x:jw k h it a i):it<h.objs.size:=let ⟨_,e,_⟩:=x;Jf e
section
variable {prog:Qaf}{w:Qag}{A:Qax}{E:Fk->KE->Prop}{s:KE}{k:Bool}{it a:Gc}{i:Nat}{aA:Array Fk}
def qe (h1:jw k s.heap it a i)(h2:fA k s.heap a aA)(hx:aA[i]? = some x)
  (q:∀h',jw k h' it a (i+1)->U6 it s.heap h'->Q x { s with heap:=h' }):Qaa (Qab prog w) A (QdD (.ref it)) Q E s:=by
 cases k with
 | false=>exact Qbn h1 h2 hx q
 | true=>
  obtain⟨o,ho,hc,hd⟩:=h1;obtain⟨ol,hol,_,nl,hdl⟩:=h2;have hT:s.TypeIs (.ref it) "tuple_iterator":=⟨o,ho,hc⟩
  refine be (Qal hT QbY (Qar QbY hT Qfr ?_ (Qfi _)));change Qaa _ _ (QbV (QfM (.ref it) 0) _) _ _ s;refine be (Qai ho hd rfl (be (Qai ho hd rfl (be (Qav hol hdl ?_)))));simp only[Uw,hx];refine be (Qc3 ho hd (by simp) (tz ⟨x,rfl,tz (q _ ⟨_,J4 _ ho (QdB (QcU hd _)),(Obj.cls_mapFields ..).trans hc,?_⟩ (U6.update ..))⟩));rw[QcU hd];simp[QaV]
def yN (hh:A.handled=none)(h1:jw k s.heap it a i)(h2:fA k s.heap a aA)(hx:aA[i]? = none)
  (q:∀h' e,Heap.ExtBut it s.heap h'->(∃o,h'.get? e=some o/\o.cls = .type "StopIteration")->E (.ref e) { s with heap:=h' }):Qaa (Qab prog w) A (QdD (.ref it)) Q E s:=by
 cases k with
 | false=>exact QdW hh h1 h2 hx q
 | true=>
  obtain⟨o,ho,hc,hd⟩:=h1;obtain⟨ol,hol,_,nl,hdl⟩:=h2;have hT:s.TypeIs (.ref it) "tuple_iterator":=⟨o,ho,hc⟩
  refine be (Qal hT QbY (Qar QbY hT Qfr ?_ (Qfi _)));change Qaa _ _ (QbV (QfM (.ref it) 0) _) _ _ s;refine be (Qai ho hd rfl (be (Qai ho hd rfl (be (Qav hol hdl ?_)))));simp only[Uw,hx];refine be (Qbi (be (Qc3 ho hd (by simp) (be (be (QaM (be (wpAny_of_eq (by first|rfl|(simp only[];rfl)) (QaM (be (wpAny_handled ?_)) (by size_fits)))) (by size_fits)))))));rw[show A.in1.handled=none from hh];exact be (tz (wpAny_throw (q _ _ (((U6.update ..).extBut.push _).push _) ⟨_,Ji _ rfl,rfl⟩)))
end
structure xI (k1 k2:Bool)(z TI TO i1 i2 l1 l2:Gc)(i:Nat)(h:Heap):Prop where
 zp:QfX h z TI TO .none
 ti:Qbo h TI (.ref i1) (.ref i2)
 to:∃a b,Qbo h TO a b
 it1:jw k1 h i1 l1 i
 it2:jw k2 h i2 l2 i
section
variable {prog:Qaf}{w:Qag}{A:Qax}{E:Fk->KE->Prop}{s:KE}{k1 k2:Bool}{z TI TO i1 i2 l1 l2:Gc}{i:Nat}{xs ys:Array Fk}
abbrev PL (z TO i1 i2:Gc)(b:Gc):Prop:=b=z\/b=TO\/b=i1\/b=i2
def DZ (D:QcK z TI TO i1 i2 l1 l2)(st:xI k1 k2 z TI TO i1 i2 l1 l2 i s.heap)(tF:fA k1 s.heap l1 xs)(zh:fA k2 s.heap l2 ys)(hx:xs[i]? = some x)(hy:ys[i]? = some y)
  (q:∀h',QfX h' z TI TO (QaV s.heap.objs.size)->Qbo h' TO x y->jw k1 h' i1 l1 (i+1)->jw k2 h' i2 l2 (i+1)->Qbo h' s.heap.objs.size x y->Keeps s.heap h' (PL z TO i1 i2)->Q (some (.ref s.heap.objs.size)) { s with heap:=h' }) :
  Qaa (Qab prog w) A (QbS (.ref z)) Q E s:=by
 obtain⟨hz,tj,⟨a,b,zW⟩,h1,h2⟩:=st;have hT:s.TypeIs (.ref z) "zip":=⟨_,hz,rfl⟩
 refine be (Qbf (Qal hT QaI (Qar QaI hT QbC ?_ (Qbw _))));change Qaa _ _ (QbV (QfM (.ref z) 2) _) _ _ _;refine be (Qai hz rfl rfl (be (Qai hz rfl rfl (be (Qav tj rfl (be (be (Qai hz rfl rfl (tz (be (Qbi (be (Qai hz rfl rfl (be (Qah hz (by simp) fun g1 z1 e1=>be (be (be (QcH (be (qe (h1.at fun o e=>e1.extBut _ _ D.i1z e) (tF.at fun o e=>e1.extBut _ _ D.l1z e) hx fun g2 it1 e2=>tz ?_))))))))))))))))))));have to2:=e2.extBut _ _ D.TOi1 (e1.extBut _ _ D.TOz zW);refine be (Qav to2 rfl (be (Qb0 to2 fun g3 to3 e3=>be (Qcj (tz ?_)))));have Ds:Keeps s.heap g3 (fun c=>c=z\/c=i1\/c=TO):=fun c o nc e=>e3.extBut _ _ (fun q=>nc (.inr (.inr q))) (e2.extBut _ _ (fun q=>nc (.inr (.inl q))) (e1.extBut _ _ (fun q=>nc (.inl q)) e));refine be (be (QcH (be (qe (h2.at fun o e=>Ds _ _ (fun q=>q.elim D.i2z fun q=>q.elim D.i12.symm D.TOi2.symm) e) (zh.at fun o e=>Ds _ _ (fun q=>q.elim D.l2z fun q=>q.elim D.l2i1 D.l2TO) e) hy fun g4 it2 e4=>tz ?_))));have Rl:=e4.extBut _ _ D.TOi2 to3;refine be (Qav Rl rfl (be (Qb0 Rl fun g5 LG e5=>be (Qcj (tz (tz ?_))))));have LG:Qbo g5 TO x y:=LG;refine be (Qav LG rfl (be (Qcr ?_)));have hsz:g5.objs.size=s.heap.objs.size:=by rw[e5.1,e4.1,e3.1,e2.1,e1.1]
 have z5:=e5.extBut _ _ D.TOz.symm (e4.extBut _ _ D.i2z.symm (e3.extBut _ _ D.TOz.symm (e2.extBut _ _ D.i1z.symm z1)));have k5:Keeps s.heap g5 (PL z TO i1 i2):=fun c o nc e=>e5.extBut _ _ (fun q=>nc (.inr (.inl q))) (e4.extBut _ _ (fun q=>nc (.inr (.inr (.inr q)))) (Ds c o (fun q=>q.elim (fun q=>nc (.inl q)) fun q=>q.elim (fun q=>nc (.inr (.inr (.inl q)))) fun q=>nc (.inr (.inl q))) e));have QJ:=Jf z5;refine be ?_;have z6:QfX (g5.push { cls := .type "tuple",data := .seq #[x,y] }) z TI TO .ellipsis:=Jb _ z5;refine be (Qah z6 (by simp) fun g7 z7 e7=>Qah z7 (by simp) fun g8 z8 e8=>tz ⟨_,rfl,tz ?_⟩);have up:∀c o,c≠z->g5.get? c=some o->g8.get? c=some o:=fun c o c1 e=>e8.extBut _ _ c1 (e7.extBut _ _ c1 (Jb _ e));have tp:=e8.extBut _ _ (Ug QJ) (e7.extBut _ _ (Ug QJ) (Ji _ rfl));rw[hsz] at z8 tp ⊢;exact q g8 z8 (up _ _ D.TOz LG) ((it1.at fun o e=>e5.extBut _ _ D.TOi1.symm (e4.extBut _ _ D.i12 (e3.extBut _ _ D.TOi1.symm e))).at fun o e=>up _ o D.i1z e) ((it2.at fun o e=>e5.extBut _ _ D.TOi2.symm e).at fun o e=>up _ o D.i2z e) tp fun c o nc e=>up c o (fun q=>nc (.inl q)) (k5 c o nc e)
def Dk (hh:A.handled=none)(D:QcK z TI TO i1 i2 l1 l2)(st:xI k1 k2 z TI TO i1 i2 l1 l2 i s.heap)(tF:fA k1 s.heap l1 xs)(zh:fA k2 s.heap l2 ys)(Zl:xs[i]? = none\/ys[i]? = none)
  (q:∀h',Keeps s.heap h' (PL z TO i1 i2)->Q none { s with heap:=h' }):Qaa (Qab prog w) A (QbS (.ref z)) Q E s:=by
 obtain⟨hz,tj,⟨a,b,zW⟩,h1,h2⟩:=st;have hT:s.TypeIs (.ref z) "zip":=⟨_,hz,rfl⟩
 refine be (Qbf (Qal hT QaI (Qar QaI hT QbC ?_ (Qbw _))));change Qaa _ _ (QbV (QfM (.ref z) 2) _) _ _ _;refine be (Qai hz rfl rfl (be (Qai hz rfl rfl (be (Qav tj rfl (be (be (Qai hz rfl rfl (tz (be (Qbi (be (Qai hz rfl rfl (be (Qah hz (by simp) fun g1 z1 e1=>be (be (be (QcH ?_))))))))))))))))));cases hx:xs[i]? with
 | none=>
  refine be (yN hh (h1.at fun o e=>e1.extBut _ _ D.i1z e) (tF.at fun o e=>e1.extBut _ _ D.l1z e) hx fun g2 e e2 oe=>ai.el (oe) _ ?_);rintro o ho hc;have z2:=e2 _ _ D.i1z.symm z1;have ez:e≠z:=fun q=>by subst q;rw[z2] at ho;cases ho;simp at hc
  exact Qah z2 (by simp) fun g3 _ e3=>be (QaD ⟨o,e3.extBut _ _ ez ho,hc⟩ Qbt (tz (q g3 fun c o nc h=>e3.extBut _ _ (fun q=>nc (.inl q)) (e2 _ _ (fun q=>nc (.inr (.inr (.inl q)))) (e1.extBut _ _ (fun q=>nc (.inl q)) h)))))
 | some x=>
  refine be (qe (h1.at fun o e=>e1.extBut _ _ D.i1z e) (tF.at fun o e=>e1.extBut _ _ D.l1z e) hx fun g2 it1 e2=>tz ?_);have to2:=e2.extBut _ _ D.TOi1 (e1.extBut _ _ D.TOz zW);refine be (Qav to2 rfl (be (Qb0 to2 fun g3 to3 e3=>be (Qcj (tz ?_)))));have Ds:Keeps s.heap g3 (fun c=>c=z\/c=i1\/c=TO):=fun c o nc e=>e3.extBut _ _ (fun q=>nc (.inr (.inr q))) (e2.extBut _ _ (fun q=>nc (.inr (.inl q))) (e1.extBut _ _ (fun q=>nc (.inl q)) e));refine be (be (QcH (be (yN hh (h2.at fun o e=>Ds _ _ (fun q=>q.elim D.i2z fun q=>q.elim D.i12.symm D.TOi2.symm) e) (zh.at fun o e=>Ds _ _ (fun q=>q.elim D.l2z fun q=>q.elim D.l2i1 D.l2TO) e) (Zl.resolve_left (by rw[hx];exact nofun)) fun g4 e e4 oe=>ai.el (oe) _ ?_))));rintro o ho hc;have z4:=e4 _ _ D.i2z.symm (e3.extBut _ _ D.TOz.symm (e2.extBut _ _ D.i1z.symm z1));have ez:e≠z:=fun q=>by subst q;rw[z4] at ho;cases ho;simp at hc
  exact Qah z4 (by simp) fun g5 _ e5=>be (QaD ⟨o,e5.extBut _ _ ez ho,hc⟩ Qbt (tz (q g5 fun c o nc h=>e5.extBut _ _ (fun q=>nc (.inl q)) (e4 _ _ (fun q=>nc (.inr (.inr (.inr q)))) (Ds c o (fun q=>q.elim (fun q=>nc (.inl q)) fun q=>q.elim (fun q=>nc (.inr (.inr (.inl q)))) fun q=>nc (.inr (.inl q))) h)))))
def zb (h:fA k s.heap a aA)(q:Q (.ref s.heap.objs.size) { s with heap:=s.heap.push { cls := .type (Il k),data := .fields #[.ref a,.int 0 0] } }):Qaa (Qab prog w) A (Qfa (.ref a)) Q E s:=by
 cases k with
 | false=>exact Qcq h q
 | true=>exact Qeu h q
end
abbrev Kn (k:Bool)(a:Gc):Obj:={ cls := .type (Il k),data := .fields #[.ref a,.int 0 0] }
abbrev zpH (k1 k2:Bool)(h:Heap)(a b:Gc):Heap:=((((h.push (Kn k1 a)).push (Kn k2 b)).push { cls := .type "tuple",data := .seq #[.ref h.objs.size,.ref (h.objs.size+1)] }).push { cls := .type "tuple",data := .seq #[.none,.none] }).push
 { cls := .type "zip",data := .fields #[.none,.bool false,.bool false,.ref (h.objs.size+2),.ref (h.objs.size+3)] }
def G2 (k1 k2:Bool)(a b:Gc)(xs ys:Array Fk):
  Meets (Builtin.«zip.__new__» ⟨[.type "zip",.ref a,.ref b],[]⟩) (fun _ R s=>fA k1 s.heap a xs/\fA k2 s.heap b ys/\R (.ok (.ret (.ref (s.heap.objs.size+4)))) { s with heap:=zpH k1 k2 s.heap a b }):=
 .of_wp fun prog w A R s h=>by
  obtain⟨hp,g,d,tk,os⟩:=s;obtain⟨tF,zh,h⟩:=h;have dW:=sub_zip
  wp_walk using zb tF,zb (zh.at fun o e=>Jb _ e)
  refine⟨_,rfl,?_⟩;simp only[Ua] at h ⊢;exact h
section
variable {prog:Qaf}{w:Qag}{A:Qax}{E:Fk->KE->Prop}{s:KE}
def EW {a b:Gc}{xs ys:Array Fk}{Q:Fk->KE->Prop}(h1:fA k1 s.heap a xs)(h2:fA k2 s.heap b ys)
  (q:∀h',xI k1 k2 (s.heap.objs.size+4) (s.heap.objs.size+2) (s.heap.objs.size+3) s.heap.objs.size (s.heap.objs.size+1) a b 0 h'->(∀c o,s.heap.get? c=some o->h'.get? c=some o)->Q (.ref (s.heap.objs.size+4)) { s with heap:=h' }) :
  Qaa (Qab prog w) A (call (.type "zip") [.ref a,.ref b]) Q E s:=by
 refine callType_new F.called_zip rfl (F.typeCall_zip_2 _ _) (F.newCall_zip_2 _ _) (fun obj=>F.args_object_init_3 obj _ _) F.entry_zip_new (G2 k1 k2 a b xs ys) ⟨h1,h2,?_⟩;have up:∀{h:Heap} {c:Gc} {o:Obj} p,h.get? c=some o->(h.push p).get? c=some o:=fun p e=>Jb p e;have last:∀{h:Heap} {n:Nat} {p:Obj},h.objs.size=n->p.isFreed=false->(h.push p).get? n=some p:=fun e hf=>by rw[<-e];exact Ji _ hf
 have z1:(s.heap.push (Kn k1 a)).objs.size=s.heap.objs.size+1:=Ua ..;have z2:((s.heap.push (Kn k1 a)).push (Kn k2 b)).objs.size=s.heap.objs.size+2:=by rw[Ua,z1]
 have z3:(((s.heap.push (Kn k1 a)).push (Kn k2 b)).push { cls := .type "tuple",data := .seq #[.ref s.heap.objs.size,.ref (s.heap.objs.size+1)] }).objs.size=s.heap.objs.size+3:=by rw[Ua,z2]
 have z4:((((s.heap.push (Kn k1 a)).push (Kn k2 b)).push { cls := .type "tuple",data := .seq #[.ref s.heap.objs.size,.ref (s.heap.objs.size+1)] }).push { cls := .type "tuple",data := .seq #[.none,.none] }).objs.size=s.heap.objs.size+4:=by rw[Ua,z3]
 have st:xI k1 k2 (s.heap.objs.size+4) (s.heap.objs.size+2) (s.heap.objs.size+3) s.heap.objs.size (s.heap.objs.size+1) a b 0 (zpH k1 k2 s.heap a b):=
  ⟨last z4 rfl,up _ (up _ (last z2 rfl)),⟨.none,.none,up _ (last z3 rfl)⟩,⟨_,up _ (up _ (up _ (up _ (last rfl rfl)))),rfl,rfl⟩,⟨_,up _ (up _ (up _ (last z1 rfl))),rfl,rfl⟩⟩
 exact⟨⟨_,st.zp,rfl⟩,q _ st (fun c o e=>up _ (up _ (up _ (up _ (up _ e)))))⟩
end
def kI (k:Bool)(K:Ja)(H:Hp)(a:Gc)(xs:List V):Prop:=if k=true then bg K H a xs else aX K H a xs
def Inv.Fx {σ:St}{H:Hp}{s:KE}{k:Bool}{a:Gc}{xs:List V}(I:Inv X pins σ H s)(h:kI k X.K H a xs):∃aA,Vals xs aA/\fA k s.heap a aA.toArray/\xs.length<=M2:=by
 cases k with
 | false=>
  obtain⟨aA,r,⟨o,n,e1,e2,_,e4⟩,z⟩:=I.list h;exact⟨aA,r,⟨o,e1,e2,n,e4⟩,z⟩
 | true=>
  obtain⟨aA,r,⟨o,e1,e2,n,e4⟩,z⟩:=I.tuple h;exact⟨aA,r,⟨o,e1,e2,n,e4⟩,z⟩
def Inv.yh {σ:St}{H:Hp}{s:KE}{k:Bool}{a:Gc}{xs ys:List V}(I:Inv X pins σ H s)(h:kI k X.K H a xs)(h':kI k X.K H a ys):xs=ys:=by
 cases k with
 | false=>exact I.qI h h'
 | true=>exact I.uv h h'
def RI (K:Ja)(k1 k2:Bool)(a b:Gc):It:=
 ⟨fun i H=>pH fun xs ys x y=>kI k1 K H a xs/\kI k2 K H b ys/\xs[i]? = some x/\ys[i]? = some y,
   fun i H v H'=>∃T,v = .ref T/\∀xs ys x y,kI k1 K H a xs->kI k2 K H b ys->xs[i]? = some x->ys[i]? = some y->ju H T (.tup [x,y]) H',
   fun i H=>eM fun xs ys=>kI k1 K H a xs/\kI k2 K H b ys/\(xs.length<=i\/ys.length<=i)⟩
def Ek {K:Ja}{elts:List QaE}{k:Nat}{tp:Pos}(k1 k2:Bool)(z TI TO i1 i2 l1 l2:Gc)(D:QcK z TI TO i1 i2 l1 l2):
  Turn P w K (.Tuple elts k tp) (RI K k1 k2 l1 l2) [z,TI,TO,i1,i2] z (xI k1 k2 z TI TO i1 i2 l1 l2) where
 mem:=by simp
 obj:=fun i h st b hb=>by
  obtain⟨h1,h2,⟨_,_,h3⟩,⟨o4,h4,_,d4⟩,⟨o5,h5,_,d5⟩⟩:=st;simp at hb
  rcases hb with rfl|rfl|rfl|rfl|rfl
  ·exact⟨_,h1,fun _ z=>nomatch z⟩
  ·exact⟨_,h2,fun _ z=>nomatch z⟩
  ·exact⟨_,h3,fun _ z=>nomatch z⟩
  ·exact⟨_,h4,fun v q=>by rw[d4] at q;cases q⟩
  ·exact⟨_,h5,fun v q=>by rw[d5] at q;cases q⟩
 keep:=fun i h h' st hk=>by
  obtain⟨h1,h2,⟨a,b,h3⟩,h4,h5⟩:=st;exact⟨hk z (by simp) _ h1,hk TI (by simp) _ h2,⟨a,b,hk TO (by simp) _ h3⟩,h4.at fun o e=>hk i1 (by simp) o e,h5.at fun o e=>hk i2 (by simp) o e⟩
 item:=fun X hP hw hK hc i pins s σ H E I hf st go=>by
  subst hP hw hK;obtain⟨xs,ys,x,y,q1,q2,e1,e2⟩:=go;refine ai.el (I.Fx q1) _ ?_;rintro its1 r1 p1 _;refine ai.el (I.Fx q2) _ ?_;rintro its2 r2 p2 _;refine ai.el (qJ r1 e1) _ ?_;rintro u1 g1 ru1;refine ai.el (qJ r2 e2) _ ?_;rintro u2 g2 ru2;have hz:=st.zp;have tj:=st.ti;refine DZ D st p1 p2 g1 g2 fun h' a1 a2 a3 a4 a5 a7=>⟨_,rfl,(wpAny_letOwnedTupleGo_zip a1 fun h'' b1 b2 =>?_)⟩
  have kp:∀c o,c∉[z,TO,i1,i2]->s.heap.get? c=some o->h''.get? c=some o:=fun c o hc e=>by
   simp only[Jw,Uq,or_false] at hc;exact b2.extBut c o (fun q=>hc (.inl q)) (a7 c o hc e)
  have I1:Inv X pins σ H { s with heap:=h'',toks:=s.toks }:=I.iter (fun c hc=>hf c (by simp at hc ⊢;rcases hc with q|q|q|q<;>simp[q])) kp;have fT:=I.eU (Je _) (I.bE.fresh (Je _));refine⟨.ref s.heap.objs.size,_,(I1.adopt (o := .tup [x,y]) fT I.sz ⟨by show 2<=M2;decide,[u1,u2],.cons ru1 (.cons ru2 .nil),⟨_,(b2.extBut _ _ (mx (Jf hz) (Je _)) a5),rfl,rfl,_,rfl⟩⟩),rfl,⟨_,rfl,fun xs' ys' x' y' q1' q2' e1' e2' =>?_⟩,⟨b1,b2.extBut _ _ D.TIz (a7 _ _ (fun q=>q.elim D.TIz fun q=>q.elim D.TITO fun q=>q.elim D.TIi1 D.TIi2) tj),⟨_,_,b2.extBut _ _ D.TOz a2⟩,a3.at fun o e=>b2.extBut _ _ D.i1z e,a4.at fun o e=>b2.extBut _ _ D.i2z e⟩,fun c hc =>?_⟩
  ·rw[I.yh q1' q1] at e1';rw[I.yh q2' q2] at e2';rw[e1] at e1';rw[e2] at e2';cases e1';cases e2';exact⟨fT.1,rfl⟩
  ·obtain⟨_,_,⟨_,_,zW⟩,h1,h2⟩:=st;have FL:c<s.heap.objs.size:=by
    simp at hc
    rcases hc with rfl|rfl|rfl|rfl|rfl
    ·exact Jf hz
    ·exact Jf tj
    ·exact Jf zW
    ·exact h1.lt
    ·exact h2.lt
   rw[ao (cA FL (Je _))];exact(hf c hc).1
 done:=fun X hP hw hK hc i pins s σ H E I hf st stop=>by
  subst hP hw hK;obtain⟨xs,ys,q1,q2,e⟩:=stop;refine ai.el (I.Fx q1) _ ?_;rintro its1 r1 p1 _;refine ai.el (I.Fx q2) _ ?_;rintro its2 r2 p2 _;have l1':=r1.length;have l2':=r2.length;refine Dk (I.ok.hd hc) D st p1 p2 ?_ fun h' kp=>⟨rfl,?_⟩
  ·rcases e with e|e
   ·exact .inl (by simp;lia)
   ·exact .inr (by simp;lia)
  ·refine I.iter (ch:=[z,TO,i1,i2]) (fun c hc=>hf c (by simp at hc ⊢;rcases hc with q|q|q|q<;>simp[q])) fun c o hc e =>?_;simp only[Jw,Uq,or_false] at hc;exact kp c o hc e
 self:=fun A i s Q E st hQ=>Qdw st.zp hQ
section
variable {X:Cx}
def Ro (K:Ja)(ta:TA):TI:=fun σ H R=>ta σ H fun vs H1=>pH fun k1 k2 a b=>vs=[.ref a,.ref b]/\(∃xs,kI k1 K H1 a xs)/\(∃ys,kI k2 K H1 b ys)/\R (RI K k1 k2 a b) H1
def p0 (K:Ja){elts:List QaE}{k:Nat}{tp:Pos}{a b:QaE}{ta:TA}{p pos:Pos}(hg:Gl X "zip")(hm:X.mg "zip" = none)(ha:PA X [a,b] ta)(hb:QaT "zip" = some (.type "zip"):=by first|rfl|decide)
  (hs:Qaj [a,b] X.env=[(false,QaR a X.env),(false,QaR b X.env)]:=by rfl) (B5:Qaj [b] X.env=[(false,QaR b X.env)]:=by rfl) (hK:X.K=K:=by rfl) :
  PI X (.Tuple elts k tp) (.Call (.Name "zip" p) [a,b] [] pos) (Ro K ta):=by
 subst hK;refine fun pins s σ H R I h=>Call_ (eY I hg hm hb (Qan (bh (ha s σ H _ I h) fun us s1 ⟨vs,H1,I1,r1,q1⟩=>?_) (by rw[hs,B5]) (by rw[B5];rfl)));obtain⟨k1,k2,l1,l2,e,⟨xs,q1⟩,⟨ys,q2⟩,q⟩:=q1;subst e;refine ai.el (vals2 r1) _ ?_;rintro u w' rfl r1 r2;cases r1;cases r2;refine ai.el (I1.Fx q1) _ ?_;rintro its1 rv1 p1 _;refine ai.el (I1.Fx q2) _ ?_;rintro its2 rv2 p2 _;refine EW p1 p2 fun h' st hk=>Qdw st.zp ?_;have I2:Inv X pins σ H1 { s1 with heap:=h' }:=I1.kept hk;refine⟨_,_,_,_,H1,rfl,I2,Ek k1 k2 _ _ _ _ _ _ _ (QeK p1.lt p2.lt),st,fun c hc =>?_,q⟩;have FL:s1.heap.objs.size<=c:=by
  simp at hc
  rcases hc with rfl|rfl|rfl|rfl|rfl
  ·exact Ul _ _
  ·exact Ul _ _
  ·exact Ul _ _
  ·exact Je _
  ·exact Ul _ _
 exact I1.eU FL (I1.bE.fresh FL)
end
def Itx (z:Str):It:=⟨fun i _=>i<z.cps.size,fun i H x H'=>H'=H/\∀c,z.cps[i]? = some c->x = .str ⟨#[c]⟩,fun i _=>z.cps.size<=i⟩
def EZ {K:Ja}{tg:QaE}(it:Gc)(z:Str)(t:Tok):Turn P w K tg (Itx z) [it] it (fun i h=>h.IsStrIter it "str_ascii_iterator" z t i) where
 mem:=by simp
 obj:=fun i h st b hb=>by
  have e:b=it:=by simpa using hb
  subst e;obtain⟨o,h1,h2,h3⟩:=st;exact⟨o,h1,fun v q=>by rw[h3] at q;cases q⟩
 keep:=fun i h h' st k=>by
  obtain⟨o,h1,r⟩:=st;exact⟨o,k it (by simp) o h1,r⟩
 item:=by
  intro X hP hw hK hc i pins s σ H E I hf st hg;obtain⟨f0,f1,f2,f3,f4,f5⟩:=hf it (by simp);have hg:i<z.cps.size:=hg;refine wpAny_pyNext_ascii_item st (c:=z.cps[i]) (by simp[]) fun h' st' hs' =>?_;have I1:Inv X pins σ H { s with heap:=h',toks:=s.toks+1 }:=I.turned (fun b o hb e=>hs'.extBut b o hb e) f0 f1 f3 f4 f5;obtain⟨o,h1,h2,h3⟩:=id st';refine⟨_,rfl,CA h1 h2 h3 rfl ⟨.str ⟨#[z.cps[i]]⟩,H,I1,⟨_,rfl⟩,⟨rfl,fun c e =>?_⟩,st',fun b hb=>(hf b hb).1⟩⟩;rw[J1 hg] at e;cases e;rfl
 done:=by
  intro X hP hw hK hc i pins s σ H E I hf st hg;obtain⟨f0,f1,f2,f3,f4,f5⟩:=hf it (by simp);exact wpAny_pyNext_ascii_end (I.ok.hd hc) st (Ur hg) fun h' eb=>⟨rfl,I.turned (fun b o hb e=>eb b o hb e) f0 f1 f3 f4 f5⟩
 self:=fun _ _ _ _ _ st h=>wpAny_pyIter_striter_ascii st h
def RV (tl:TE):TI:=fun σ H R=>tl σ H fun x H1=>∃z,x = .str z/\z.cps.all (· < 128)=true/\R (Itx z) H1
section
variable {X:Cx}{tg:QaE}
def pM (hl:PE X l tl):PI X tg l (RV tl):=by
 refine fun pins s σ H R I h=>bh (hl s σ H _ I h) fun v s1 hz_=>ai.el hz_ _ ?_;rintro x H1 I1 r1 q1;obtain⟨z,e,hz,q⟩:=q1;subst e;obtain⟨t,rfl⟩:=r1;refine wpAny_pyIter_ascii hz ⟨s1.heap.objs.size,[s1.heap.objs.size],_,_,H1,rfl,I1.kept fun b o e=>Jb _ e,EZ _ z t,⟨_,Ji _ rfl,rfl,rfl⟩,fun b hb =>?_,q⟩;have e:b=s1.heap.objs.size:=by simpa using hb
 subst e;exact I1.eU (Je _) (I1.bE.fresh (Je _))
def iY (K:Ja){l:QaE}{tl:TE}(hl:PE X l tl)(hK:X.K=K:=by rfl):PI X tg l (RQ K tl):=by subst hK;exact Pl hl
end
def Ed (n:Nat):sliceRange (QbI none none (some (-1)) n).1 (QbI none none (some (-1)) n).2.1 (QbI none none (some (-1)) n).2.2=(Uy n).map fun k=>n-1-k:=by
 rw[<-(PyProof.Rows.picked_rev n)]
 rfl
def GB {α β:Type}{f: α->Option β}{g: α -> β}:∀{l:List α},(∀k∈l,f k=some (g k))->l.filterMap f=l.map g
 | [],_=>rfl
 | a::l,h=>by
  rw[List.filterMap_cons_some (h a Jn),J0,GB fun k hk=>h k (Jk _ hk)]
def FW (aA:List Fk):slicePick aA.toArray none none (some (-1))=aA.reverse.toArray:=by
 unfold slicePick;rw[Ed,Jy]
 congr 1
 apply List.ext_getElem?;intro i;rw[List.filterMap_map];have hm:∀k∈Uy aA.length,((fun x=>aA.toArray[x]?)∘fun k=>aA.length-1-k) k=some (aA.reverse.getD k .none):=fun k hk=>by
  have hk:=List.mem_range.mp hk;simp only[Function.comp];rw[U3,List.getElem?_reverse (by omega +splitMinMax),Wa,Jd (by omega +splitMinMax)]
  rfl
 have e2:(Uy aA.length).filterMap ((fun x=>aA.toArray[x]?)∘fun k=>aA.length-1-k)=(Uy aA.length).map fun k=>aA.reverse.getD k .none:=by
  exact GB hm
 rw[e2,Jj]
 by_cases hi:i<aA.length
 ·rw[List.getElem?_range hi,Jd (by simpa using hi)];simp[ hi]
 ·rw[Qco (by simp;lia),Qco (by simp;lia)]
  rfl
section
variable {X:Cx}{e:QaE}{te:TE}{pos p2 p3 p4:Pos}{j:Nat}
def XX (K:Ja)(te:TE):TE:=fun σ H Q=>te σ H fun x H1=>eM fun a xs=>x = .ref a/\aX K H1 a xs/\∀p H',ju H1 p (.lst xs.reverse) H'->Q (.ref p) H'
def Vals.rev:∀{xs:List V} {us:List Fk},Vals xs us->Vals xs.reverse us.reverse:=by
 intro xs us t
 induction t with
 | nil=>exact .nil
 | cons r _ ih=>
  rw[Qcf,Qcf];exact ih.append (.cons r .nil)
def NR (K:Ja)(he:PE X e te)(hK:X.K=K:=by rfl):PE X (.Subscript e (.Slice none none (some (.UnaryOp .USub (.Constant (.int 1) j p4) p3)) p2) pos) (XX K te):=by
 subst hK;refine fun pins s σ H Q I h=>QfQ (bh (he s σ H _ I h) fun v s1 hz_=>ai.el hz_ _ ?_);rintro x H1 I1 r1 q1;obtain⟨a,xs,rfl,hx,q⟩:=q1;cases r1;refine wpAny_Slice (tz (tz ?_));have hs:PE X (.UnaryOp .USub (.Constant (.int 1) j p4) p3) (tUn (rU fun i =>.int (-i)) (tC (.int 1))):=rR lz ah;refine bh (cx hs s1 σ H1 (fun o H2=>o=some (-1)/\H2=H1) I1 ⟨1,rfl,-1,rfl,rfl,rfl⟩) fun vs s3 hz_=>ai.el hz_ _ ?_;rintro o H3 I3 ps eo eh;subst eo eh;have I4:Inv X pins σ H3 { s3 with heap:=s3.heap.push { cls := .type "slice",data := .fields #[.none,.none,vs] } }:=I3.kept fun b ob q=>Jb _ q;obtain⟨aA,r,ht,hz⟩:=I4.list hx;have hlen:=r.length;refine tail_any ht.isList.typeIs slot_list_getitem.lookup (wpAny_getItem_list_slice ht.isList (QeI ..) .none .none ps ∅ ?_ (by rw[Jy];lia)) (by with_unfolding_all rfl);rw[FW];refine⟨.ref _,_,I4.laid (fun b ob q=>Jb _ q) (Je _) ?_,rfl,q _ _ ⟨I4.bE.fresh (Je _),rfl⟩⟩;exact⟨by rw[List.length_reverse];exact hz,_,0,r.rev,Ji _ rfl⟩
end
section
variable {X:Cx}(K:Ja)
def ZJ (hK:X.K=K:=by rfl):fD X (QaC .In) (rIn K false):=by subst hK;exact DS
end
section
variable {prog:Qaf}{w:Qag}{A:Qax}{R:Qb2->KE->Prop}{s:KE}
def yz {kx vx target iter:QaE}{ifs:List QaE}{scope:Qb1}{pos:Pos}{it:Fk}{D:Gc}{env:Env}(I:Nat->KE->Prop)
  (turn:∀n s,I n s->Qaa (Qab prog w) A (QbS it) (fun r s1=>match r with
   | none=>R (.ok .next) s1
   | some v=>Qaa (Qab prog w) A (QcT target it v) (fun _ s1'=>Qaa (Qab prog w) A (QfN target env v) (fun _ s2=>
     Qaa (Qab prog w) A (pN ifs env) (fun ok s3=>
      if ok=true then Qaa (Qab prog w) A (QaR kx env) (fun kv s4=>Qaa (Qab prog w) A (QaR vx env) (fun vv s5=>
       Qaa (Qab prog w) A (dictSet D kv vv) (fun _ s6=>∃m,m<n/\I m s6) oK s5) oK s4) oK s3
      else ∃m,m<n/\I m s3) oK s2) oK s1') oK s1) oK s)
  (n:Nat) (h:I n s):Qa2 (Qab prog w) A (.compLoop (.DictComp kx vx [⟨target,iter,ifs,0⟩] scope pos) 0 it (.ref D) env) R s:=by
 refine codeAny_loop rfl I (fun n s hI=>(show Qaa _ A (Sem.onRaise (compTurn (.DictComp kx vx [⟨target,iter,ifs,0⟩] scope pos) 0 it (.ref D) env) (fun x=>do Qc1 x env;Qft x)) _ _ s from wpAny_noted (be (Qbe (be (cS (bh (turn n s hI) fun r s1 h1 =>?_))))))) n h;cases r with
 | none=>exact tz h1
 | some v=>
  refine be (cS (bh h1 fun _ s1' MG=>be (cS (bh MG fun _ s2 h2=>be (cS (bh h2 fun ok s3 h3 =>?_))))));cases ok with
  | false=>exact tz ⟨rfl,h3⟩
  | true=>
   exact be (be (cS (bh h3 fun kv s4 h4=>be (Qak (cS (bh h4 fun vv s5 h5=>be (Qbe (Qak (cS (bh h5 fun _ s6 h6=>tz ⟨rfl,h6⟩))))))))))
end
section
variable {X:Cx}{pins:List (Gc×Obj)}{σ:St}{H:Hp}{s:KE}{a:Gc}{y v:V}{u r:Fk}{A:Qax}{E:Fk->KE->Prop}
def ET (I:Inv X pins σ H s)(e:H a=some (.dK kvs))(l:kvs.length<M2)(ry:RelV (kV k) u)(rv:RelV v r)
  (h:∀s',Inv X pins σ (upd H a (.dK (putK kvs k v))) s'->Q () s'):Qaa (Qab X.prog X.w) A (dictSet a u r) Q E s:=by
 refine ai.el (CG I.bE e) _ ?_;rintro z hd vs rel dd;have hz:vs.length<=M2:=by rw[<-rel.length];exact z
 exact QcX (o9 ry) dd fun h' dd' hs=>h _ (mz I (by rw[e];exact QaO) hs (let ⟨q,_,_,hq,_⟩:=dd'; ⟨q,hq⟩) (BA (by have:=gY kvs k v;lia) hd (rel.put k rv) dd'))
end
section
variable {X:Cx}{pins:List (Gc×Obj)}{σ:St}{H:Hp}{s:KE}{scope:Qb1}{Nc Fc:List Str}{js:List Nat}{cl:List (Str×Gc)}{C:Gc}{fp:List Gc}
def xT (I:Inv X pins σ H s)(c:gG X scope Nc Fc js)(dW:∀n c,cl.lookup n=some c->X.env.cells.lookup n=some c)(kH:∀y∈scope.names,y.2 = .free->∃c,cl.lookup y.1=some c)
  (hC:s.heap.objs.size<=C) (hf:∀b∈fp,gj X pins H b) (ho:∀b∈fp,∃o,s.heap.get? b=some o) {h1:Heap} {t1:Nat} {m:Str->Option Fk}
  (hk:∀b o,s.heap.get? b=some o->h1.get? b=some o) (hm:h1.Ns C m) :
  Inv (mi X Nc Fc scope cl C s H fp) [] (Jt Nc.length none++dY σ js) H { s with heap:=h1,toks:=t1 }:=by
 refine⟨rJ I c dW kH hC hf ho,rfl,I.bare,Un.kept hk,⟨m,hm,fun i x v e1 e2 e3 =>?_⟩,fun x a e =>?_,I.bE.fresh hC,fun x a e=>I.freeC x a (dW x a e),fun p hp =>?_,I.bE.kept hk,?_⟩
 ·have e1:(Nc++Fc)[i]? = some x:=e1
  by_cases hi:i<Nc.length
  ·rw[Uo (by simpa using hi),Yq] at e2
   split at e2<;>cases e2
  ·rw[Uj ⋯] at e1;rw[Uj (by rw[Uh];lia),Uh] at e2;refine ai.el (c.frees _ _ e1) _ ?_;rintro yU j hj hN;have hv: σ[j]? = some (some v):=by
    unfold dY at e2;rw[Jj,hj] at e2;have e2:some ((σ[j]?).join)=some (some v):=e2;cases q: σ[j]? with
    | none=>rw[q] at e2;cases e2
    | some z=>rw[q] at e2;cases e2;rfl
   have kx:=c.free _ (cL yU) rfl;refine ai.el (I.loc) _ ?_;rintro m0 hn0 hl0;have VM:RU X.env.scope x:=by
    rcases kx with k|k
    ·exact .inr (.inl k)
    ·exact .inr (.inr k)
   refine ai.el (hl0 j x v hN hv VM) _ ?_;rintro u ru lk;refine⟨u,ru,.inr ⟨?_,?_⟩⟩
   ·rw[yY];exact fL yU
   ·obtain⟨a,ha⟩:=kH _ (cL yU) rfl;refine⟨a,ha,?_⟩
    rcases lk with ⟨k,_⟩|⟨_,a',ha',hcell⟩
    ·rcases kx with q|q<;>(rw[k] at q;cases q)
    ·have e:=dW _ _ ha;rw[ha'] at e;cases e;exact hcell.keeps hk
 ·obtain⟨v,z⟩:=I.cell x a (dW x a e);exact⟨v,z.keeps hk⟩
 ·have hp:=hp;cases hp
 ·show(Jt Nc.length none++dY σ js).length=(Nc++Fc).length;unfold dY;rw[Jp,Jp,Uh,Jc,c.lens]
end
def MN (J:It)(n:Nat)(js:List Nat)(g:TG)(tc:TT)(tk tv:TE)(σ:St)(D:Gc)(H1:Hp)(fin:Hp->Prop):Prop:=
 ∃W:Nat->Nat->Hp->Prop,(∃m,W 0 m H1)/\∀i m H,W i m H ->
  (J.stop i H/\fin H) \/
  (J.go i H/\∀x H',J.yld i H x H'->g x (Jt n none++dY σ js) H' fun σ2 H2=>tc σ2 H2 fun b H3=>
   if b=true then tk σ2 H3 fun y H4=>tv σ2 H4 fun z H5=>eM fun kvs k=>H5 D=some (.dK kvs)/\y=kV k/\kvs.length<M2/\∃m',m'<m/\W (i+1) m' (upd H5 D (.dK (putK kvs k z))) else ∃m',m'<m/\W (i+1) m' H3)
def PR (wi:TI)(n:Nat)(js:List Nat)(g:TG)(tc:TT)(tk tv:TE):TE:=fun σ H Q=>wi σ H fun J H1=>∀D,H1 D=none->MN J n js g tc tk tv σ D (upd H1 D (.dK [])) fun H2=>Q (.ref D) H2
def Bo {kx vx tg iter:QaE}{ifs:List QaE}{scope:Qb1}{pos:Pos}{Nc Fc:List Str}{js:List Nat}{wi:TI}{g:TG}{tc:TT}{tk tv:TE}{use:Option (Fk->Sem Unit)}{QV:Fk->KE->Prop}
  (fN:X.calm=true) (c:gG X scope Nc Fc js) (hi:PI X tg iter wi)
  (hg:∀cl C s H fp,PG (mi X Nc Fc scope cl C s H fp) tg g) (DD:∀cl C s H fp,Mf (mi X Nc Fc scope cl C s H fp) ifs tc) (De:∀cl C s H fp,PE (mi X Nc Fc scope cl C s H fp) kx tk) (WS:∀cl C s H fp,PE (mi X Nc Fc scope cl C s H fp) vx tv) (gk:Gk Nc.length g)
  {pins:List (Gc×Obj)} {s:KE} {σ:St} {H:Hp} {fin:Gc->Hp->Prop} (I:Inv X pins σ H s)
  (h:wi σ H fun J H1=>∀D,H1 D=none->MN J Nc.length js g tc tk tv σ D (upd H1 D (.dK [])) (fin D))
  (behind:∀(C D:Gc) (m:Str->Option Fk) (H2:Hp) (s2:KE),Inv X pins σ H2 s2->s2.heap.Ns C m->gj X pins H2 C->fin D H2->QeN (Qab X.prog X.w) X.A X.xe use QV (.ref D) C (.ok .next) s2)
  (hs:∀x,Qbh iter X.env x=pure x) :
  Qaa (Qab X.prog X.w) X.A (comprehension (.DictComp kx vx [⟨tg,iter,ifs,0⟩] scope pos) scope X.env (firstIterPos [⟨tg,iter,ifs,0⟩] pos) newDict false (QaR iter X.env) use) QV X.xe s:=by
 obtain⟨cl,hclos,dW,kH⟩:=lM fun y hy hf=>I.ok.has y.1 (c.free y hy hf);refine Qdm rfl hs hclos c.kind c.names (bh (hi s σ H _ I h) fun v s1 h1=>bh h1 fun Rg s2 h2 =>?_);obtain⟨it,fp,tn,J,H2,e,I2,T,pJ,f2,all⟩:=h2;subst e;refine QaM (Qd6 c.nocell (by intro y hy;simp at hy) (fun h1 hns1 hsb1 =>?_) c.kind);have Ho:=I2.laid (t':=s2.toks) (fun _ _ q=>Jb _ q) (Je _) (yd s2.heap I2.big);obtain⟨W,⟨m0,w0⟩,turn⟩:=all _ (I2.bE.fresh (Je _));have Ti:∀b∈fp,∃o,s2.heap.get? b=some o:=fun b hb=>let ⟨o,e,_⟩:=T.obj 0 _ pJ b hb; ⟨o,e⟩;have tI:=fun b hb=>let ⟨o,e⟩:=Ti b hb;Jf e;generalize hG:s2.heap.push { cls := .type "dict",dict:=none,data := .dict #[] } = G at hns1 hsb1 Ho ⊢;have toG:∀b o,s2.heap.get? b=some o->G.get? b=some o:=fun b o e=>hG▸Jb _ e;have hC:G.objs.size=s2.heap.objs.size+1:=by rw[<-hG,Ua]
 have old:=fun b o e=>
  hsb1.extBut b o (cA (Jf e) (Je _)) (Jb _ e)
 let D:Gc:=s2.heap.objs.size
 let s2':KE:={ s2 with heap:=G,toks:=s2.toks }
 let H2':Hp:=upd H2 D (.dK [])
 have N7:∀b∈fp,gj X pins H2' b:=fun b hb=>by
  obtain⟨a1,a2⟩:=f2 b hb;refine⟨?_,a2⟩;show upd H2 D (.dK []) b=none;rw[ao (Jo (tI b hb))];exact a1
 have fo:∀b∈fp,∃o,s2'.heap.get? b=some o:=fun b hb=>let ⟨o,e⟩:=Ti b hb; ⟨o,toG b o e⟩;have W2:∀b∈fp,b<G.objs.size:=fun b hb=>by have:=tI b hb;rw[hC];exact Qci this
 let Xc:Cx:=mi X Nc Fc scope cl G.objs.size s2' H2' fp
 have lx:∀{H':Hp},(∀b∈fp,H' b=none)->∀b∈fp,gj Xc [] H' b:=fun{H'} hn b hb=>by
  refine⟨hn b hb,?_,?_,.inl hb,fun x a e =>?_,fun p hq =>?_⟩
  ·exact cA (W2 b hb) (Je _)
  ·exact(rJ Ho c dW kH (Je _) N7 fo).exfs b hb
  ·exact(f2 b hb).2.2.2.2.1 x a (dW _ _ e)
  ·have q:p∈([]:List (Gc×Obj))++[]:=hq;simp at q
 have loop:∀t1,Qa2 (Qab X.prog X.w) X.A (.compLoop (.DictComp kx vx [⟨tg,iter,ifs,0⟩] scope pos) 0 (.ref it) (.ref s2.heap.objs.size) (compEnvC scope cl G.objs.size X.env))
   (QeN (Qab X.prog X.w) X.A X.xe use QV (.ref s2.heap.objs.size) G.objs.size) { s2 with heap:=h1,toks:=t1 }:=by
  refine fun t1=>yz (fun n s'=>∃i H',Inv Xc [] (Jt Nc.length none++dY σ js) H' s'/\tn i s'.heap/\(∀b∈fp,H' b=none)/\W i n H') ?_ m0
   ⟨0,H2',xT Ho c dW kH (Je _) N7 fo old hns1,T.keep _ _ _ pJ (fun b hb o e=>old b o (toG b o e)),fun b hb=>(N7 b hb).1,w0⟩
  refine fun n s3 hz_=>ai.el hz_ _ ?_;rintro i H3 I3 gK fr3 w3
  rcases turn i n H3 w3 with ⟨stop,qn⟩|⟨go,step⟩
  ·refine bh (T.done Xc rfl rfl rfl fN i _ s3 _ H3 oK I3 (lx fr3) gK stop) fun r s4 hz_ =>?_;refine ai.el hz_ _ ?_;rintro hr I4;subst hr;refine ai.el (I4.loc) _ ?_;rintro mC hmC _;have u:=I4.base;have zt:∀b∈fp,(b∈X.ex\/X.s₀.heap.objs.size<=b)/\b≠X.env.locals/\(∀x c,X.env.cells.lookup x=some c->c≠b)/\∀p∈X.pn++pins,p.1≠b:=fun b hb=>
    ⟨(f2 b hb).2.2.2.1,(f2 b hb).2.1,(f2 b hb).2.2.2.2.1,(f2 b hb).2.2.2.2.2⟩
   exact behind G.objs.size D mC H3 s4 (Ho.Ij I4.os u I4.bE I4.bare zt) hmC (Ho.eU (Je _) I4.free) qn
  ·refine bh (T.item Xc rfl rfl rfl fN i _ s3 _ H3 oK I3 (lx fr3) gK go) fun r s4 hz_ =>?_;refine ai.el hz_ _ ?_;rintro u hr h4;subst hr;refine bh h4 fun _ s5 hz_=>ai.el hz_ _ ?_;rintro x H5 I5 r5 y5 dU fr5;refine bh (hg cl G.objs.size s2' H2' fp s5 _ H5 x u _ (I5.pinned (lx fr5) (T.obj _ _ dU)) r5 (gk _ _ _ _ (step x H5 y5))) fun _ s6 hz_=>ai.el hz_ _ ?_;rintro σ6 H6 I6 q6 kσ kl;refine bh (DD cl G.objs.size s2' H2' fp s6 σ6 H6 _ I6 q6) fun b s7 hz_=>ai.el hz_ _ ?_;rintro H7 I7 q7;have later:∀{σ':St} {H':Hp} {s':KE},Inv Xc ([]++ib fp s5.heap) σ' H' s'->tn (i+1) s'.heap/\∀b∈fp,H' b=none:=fun{σ' H' s'} Iz=>by
    refine⟨T.keep _ _ _ dU fun b hb o e=>(Iz.pin (b,o) (Jz _ (Jz _ (df hb e)))).1,fun b hb=>ai.el (T.obj _ _ dU b hb) _ ?_⟩;rintro o e d;exact(Iz.pin (b,o) (Jz _ (Jz _ (df hb e)))).2.1
   have back:∀{pl:List (Gc×Obj)} {H':Hp} {s':KE},Inv Xc pl σ6 H' s'->Inv Xc pl (Jt Nc.length none++dY σ js) H' s':=fun{pl H' s'} Iz=>by
    refine Iz.weak (by rw[<-kl]) fun j v hj =>?_
    by_cases hn:j<Nc.length
    ·rw[Uo (by simpa using hn),Yq] at hj
     split at hj<;>cases hj
    ·rw[kσ j ⋯];exact hj
   cases b with
   | false=>
    rw[if_neg Jr] at q7 ⊢;refine ai.el (q7) _ ?_;rintro m' zC w7;obtain⟨l1,l2⟩:=later I7;exact⟨m',zC,i+1,H7,back I7.fw,l1,l2,w7⟩
   | true=>
    refine bh (De cl G.objs.size s2' H2' fp s7 σ6 H7 _ I7 q7) fun yv s8 hz_=>ai.el hz_ _ ?_;rintro y H8 I8 r8 q8;refine bh (WS cl G.objs.size s2' H2' fp s8 σ6 H8 _ I8 q8) fun zv s9 hz_=>ai.el hz_ _ ?_;rintro z H9 I9 r9 q9;refine ai.el (q9) _ ?_;rintro kvs k eD ey hl m' zC w9;subst ey;refine ET (X:=Xc) I9 eD hl r8 r9 fun Qy I10 =>?_;obtain⟨l1,l2⟩:=later I10;exact⟨m',zC,i+1,_,back I10.fw,l1,l2,w9⟩
 exact codeAny_compStart_dict (loop _) (T.self _ 0 _ _ _ (T.keep _ _ _ pJ fun b hb o e=>old b o (toG b o e)) (loop _))
def IW {kx vx tg iter:QaE}{ifs:List QaE}{scope:Qb1}{pos:Pos}{Nc Fc:List Str}{js:List Nat}{wi:TI}{g:TG}{tc:TT}{tk tv:TE}
  (fN:X.calm=true) (c:gG X scope Nc Fc js) (hi:PI X tg iter wi) (gk:Gk Nc.length g)
  (hg:∀cl C s H fp,PG (mi X Nc Fc scope cl C s H fp) tg g) (DD:∀cl C s H fp,Mf (mi X Nc Fc scope cl C s H fp) ifs tc) (De:∀cl C s H fp,PE (mi X Nc Fc scope cl C s H fp) kx tk) (WS:∀cl C s H fp,PE (mi X Nc Fc scope cl C s H fp) vx tv)
  (hs:∀x,Qbh iter X.env x=pure x:=by intro _;rfl) :
  PE X (.DictComp kx vx [⟨tg,iter,ifs,0⟩] scope pos) (PR wi Nc.length js g tc tk tv):=
 fun pins s σ H Q I h=>Bo fN c hi hg DD De WS gk I h (fun C D m H2 s2 I2 hm hC q=>⟨m,hm,fun h' hs'=>⟨.ref D,_,I2.turned (fun b o hb e=>hs'.extBut b o hb e) hC.1 (hC.2.1) hC.2.2.2.1 hC.2.2.2.2.1 hC.2.2.2.2.2,rfl,q⟩⟩) hs
def my:∀{ns:List Int} {us:List Fk},Qef us ns->Vals (ns.map V.int) us
 | _,_,.nil =>.nil
 | _,_,.cons _ _ h =>.cons ⟨_,rfl⟩ (my h)
open PySem.W
def UA (h base:Heap)(e:Gc)(cls a0:Fk)(dx:Option Gc)(fl:Fk):Prop:=∃oe vs T oT ts,
 h.get? e=some oe/\oe.cls=cls/\oe.dict=dx/\oe.data = .fields vs/\vs[0]? = some a0/\vs[1]? = some (.ref T)/\base.get? T=none/\T≠e/\h.get? T=some oT/\oT.data = .fields ts/\ts[3]? = some fl
def wD (base:Heap)(l:List Env)(e:Gc)(cls a0:Fk)(dx:Option Gc)(h:Heap):Prop:=base.StaysIn h/\base.get? e=none/\h.FunFrames base l/\UA h base e cls a0 dx .none
def MP (base:Heap)(l:List Env)(e:Gc)(cls a0:Fk)(dx:Option Gc)(L:Gc)(h:Heap):Prop:=base.StaysIn h/\base.get? e=none/\h.FunFrames base l/\UA h base e cls a0 dx (QaV L)
section
variable {M:Model}{A:Qax}{E:Fk->KE->Prop}{s:KE}{base:Heap}{env:Env}{outer:List Env}{L e:Gc}{cls a0:Fk}{dx:Option Gc}{Q:Unit->KE->Prop}
def rj {hn:Bool}(yU:A.frames=some (env::outer))(mE:s.heap.FunFrames base (env::outer))(hf:env.frame=some L)(he:s.heap.get? e=some oe)(hX:base.StaysIn s.heap)(new:base.get? e=none)
  (hd:oe.data = .fields vs) (sz:1<vs.size) (h0:vs[0]? = some a0)
  (q:∀h',base.StaysIn h'->h'.FunFrames base (env::outer)->UA h' base e oe.cls a0 oe.dict (QaV L)->s.heap.UpToSlots h'->Q () { s with heap:=h' }) :
  Qaa M A (do let a <-frameOf env;let pl <-entryPlaceOf L hn;let b <-EntryCells.newEntry head a .none (QaV L) .none pl;setField (.ref e) 1 b) Q E s:=by
 have apart:e∉(env::outer).filterMap (·.frame):=fun m=>by
  obtain⟨_,o,ho,nf⟩:=mE.mem m;rw[he] at ho;cases ho;exact nf vs hd
 refine be (wpAny_frameOf_fun yU mE hf fun h1 so=>be (wpAny_entryPlaceOf fun pl isp=>be (QaM ?_ (isp.sizeOk5 _ _ _ _ _))));obtain⟨tr,etr⟩:∃tr:Obj,tr={ cls := .type "traceback",dict:=none,data := .fields ([head,.ref L,.none,QaV L,.none]++(if pl.isEmpty then Jt 6 Qcm else pl)).toArray }:=⟨_,rfl⟩
 rw[<-etr];have e1:=(so.2.1 e apart).trans he;have zw:base.StaysIn h1:=fun b o x=>(so.2.1 b fun m=>by rw[(mE.mem m).1] at x;cases x).trans (hX b o x);have e2:(h1.push tr).get? e=some oe:=Jb _ e1;refine Qc3 e2 hd sz (q _ ?_ ?_ ?_ ?_)
 all_goals have nT:=Ug (Jf e1)
 all_goals have kp:∀b o,b≠e->h1.get? b=some o->((h1.push tr).update e (QbL (·.setIfInBounds 1 (Qap h1.objs.size)))).get? b=some o:=fun b o nb x=>(J5 _ _ (QaB nb)).trans (Jb _ x)
 all_goals have nr:∀b o,s.heap.get? b=some o->(∀ws,o.data ≠ .fields ws)->b≠e:=fun b o x nf z=>(by rw[z,he] at x;cases x;exact nf vs hd)
 ·exact fun b o x=>kp b o (fun z=>by rw[z,new] at x;cases x) (zw b o x)
 ·refine mE.of_keeps fun b o x nf =>?_;obtain⟨sl,hs⟩:=so.2.2 b o x;exact⟨_,kp b _ (nr b o x nf) hs,rfl⟩
 ·have d3:=QcU hd (·.setIfInBounds 1 (Qap h1.objs.size));refine⟨_,_,h1.objs.size,tr,_,(J4 (QbL (·.setIfInBounds 1 (Qap h1.objs.size))) e2 (QdB d3)),Obj.cls_mapFields _ _,?_,d3,by rw[Array.getElem?_setIfInBounds_ne ∅];exact h0,by simp[sz],zw.fresh,nT,(J5 _ _ (QaB nT)).trans (Ji h1 (by rw[etr];rfl)),by rw[etr],?_⟩
  ·obtain⟨c1,c2,c3,c4⟩:=oe;cases c3<;>rfl
  ·first
    | (simp;done)
    | (rcases isp with rfl|⟨_,_,_,_,_,_,_,rfl⟩<;>simp)
 ·intro b o x nf;obtain⟨sl,hs⟩:=so.2.2 b o x;exact⟨sl,kp b _ (nr b o x nf) hs⟩
def AK (yU:A.frames=some (env::outer))(mE:s.heap.FunFrames base (env::outer))(hf:env.frame=some L)(he:s.heap.get? e=some oe)(hX:base.StaysIn s.heap)(new:base.get? e=none)
  (hd:oe.data = .fields vs) (h1:vs[1]? = some .none) (h0:vs[0]? = some a0) (q:∀h',MP base (env::outer) e oe.cls a0 oe.dict L h'->s.heap.UpToSlots h'->Q () { s with heap:=h' }):Qaa M A (Qc1 (.ref e) env) Q E s:=by
 unfold Qc1;simp only[hf];exact be (Qai he hd h1 (rj yU mE hf he hX new hd (U2.mp h1).1 h0 fun h' k1 k2 k3 k4=>q h' ⟨k1,new,k2,k3⟩ k4))
def slot_set (hT:s.heap.get? T=some oT)(dT:oT.data = .fields ts)(nT:base.get? T=none)(hX:base.StaysIn s.heap){l:List Env}(mE:s.heap.FunFrames base l):
  (∀b,b≠T->(s.heap.update T (QbL (·.setIfInBounds 3 x))).get? b=s.heap.get? b)/\base.StaysIn (s.heap.update T (QbL (·.setIfInBounds 3 x)))/\(s.heap.update T (QbL (·.setIfInBounds 3 x))).FunFrames base l /\
   ∀b o,s.heap.get? b=some o->(∀ws,o.data ≠ .fields ws)->(s.heap.update T (QbL (·.setIfInBounds 3 x))).get? b=some o:=by
 have off:∀b,b≠T->(s.heap.update T (QbL (·.setIfInBounds 3 x))).get? b=s.heap.get? b:=fun b nb=>J5 _ _ (QaB nb);have kp:∀b o,s.heap.get? b=some o->(∀ws,o.data ≠ .fields ws)->(s.heap.update T (QbL (·.setIfInBounds 3 x))).get? b=some o:=fun b o z nf=>
  (off b fun w=>by rw[w,hT] at z;cases z;exact nf ts dT).trans z
 exact⟨off,fun b o z=>(off b fun w=>by rw[w,nT] at z;cases z).trans (hX b o z),mE.of_keeps fun b o z nf=>⟨o,kp b o z nf,rfl⟩,kp⟩
def K4 (yU:A.frames=some (env::outer))(hf:env.frame=some L)(FK:wD base (env::outer) e cls a0 dx s.heap)(q:∀h',MP base (env::outer) e cls a0 dx L h'->s.heap.UpToSlots h'->Q () { s with heap:=h' }):Qaa M A (Qc1 (.ref e) env) Q E s:=by
 obtain⟨hX,new,mE,oe,vs,T,oT,ts,he,rfl,rfl,hd,h0,h1,nT,ne,hT,dT,h3⟩:=FK;obtain⟨off,pJ,fu2,kp⟩:=slot_set hT dT nT hX mE;unfold Qc1;simp only[hf];refine be (Qai he hd h1 (be (Qai hT dT h3 (be (Qc3 hT dT (U2.mp h3).1 ?_)))));refine rj yU fu2 hf ((off e (QaB ne)).trans he) pJ new hd (U2.mp h1).1 h0 fun h' k1 k2 k3 k4=>q h' ⟨k1,new,k2,k3⟩ fun b o z nf=>k4 b o (kp b o z nf) nf
def MW (hX:base.StaysIn s.heap)(new:base.get? e=none)(mE:s.heap.FunFrames base l)(tr:UA s.heap base e cls a0 dx fl)(q:∀h',wD base l e cls a0 dx h'->s.heap.UpToSlots h'->Q () { s with heap:=h' }):
  Qaa M A (setFlight (.ref e) none) Q E s:=by
 obtain⟨oe,vs,T,oT,ts,he,rfl,rfl,hd,h0,h1,nT,ne,hT,dT,h3⟩:=tr;have Qp:=(U2.mp h3).1;obtain⟨off,pJ,fu2,kp⟩:=slot_set hT dT nT hX mE;refine be (Qai he hd h1 ?_);have Z1:=QcU dT (·.setIfInBounds 3 ((none:Option Gc).elim Qcm fun f=>QaV f));exact Qc3 hT dT Qp (q _ ⟨pJ,new,fu2,oe,vs,T,_,_,(off e (QaB ne)).trans he,rfl,rfl,hd,h0,h1,nT,ne,J4 _ hT (QdB Z1),Z1,by simp[Qp]⟩ fun b o z nf=>⟨o.slots,kp b o z nf⟩)
def wD.tail (x:wD base (env::outer) e cls a0 dx h):wD base outer e cls a0 dx h:=let ⟨a,b,⟨_,_,c⟩,d⟩:=x; ⟨a,b,c,d⟩
def EU (yU:A.frames=some (env::outer))(hf:env.frame=some L)(FK:wD base (env::outer) e cls a0 dx s.heap)(q:∀h',wD base outer e cls a0 dx h'->s.heap.UpToSlots h'->Q () { s with heap:=h' }):Qaa M A (leaving env (.ref e)) Q E s:=
 be (K4 yU hf FK fun h1 hd up=>MW hd.1 hd.2.1 hd.2.2.1 hd.2.2.2 fun h2 fly2 up2=>q h2 fly2.tail (up.trans up2))
def wm (yU:A.frames=some (env::outer))(mE:s.heap.FunFrames base (env::outer))(hf:env.frame=some L)(he:s.heap.get? e=some oe)(hX:base.StaysIn s.heap)(new:base.get? e=none)
  (hd:oe.data = .fields vs) (h1:vs[1]? = some .none) (h0:vs[0]? = some a0) (q:∀h',wD base outer e oe.cls a0 oe.dict h'->s.heap.UpToSlots h'->Q () { s with heap:=h' }):Qaa M A (leaving env (.ref e)) Q E s:=
 be (AK yU mE hf he hX new hd h1 h0 fun h1 hd up=>MW hd.1 hd.2.1 hd.2.2.1 hd.2.2.2 fun h2 fly2 up2=>q h2 fly2.tail (up.trans up2))
end
def bC.ex (x:bC P w H h a o):∃q,h.get? a=some q:=by
 cases o with
 | lst xs=>obtain⟨_,_,_,_,e⟩:=x;exact⟨_,e⟩
 | tup xs=>obtain⟨_,_,_,_,e,_⟩:=x;exact⟨_,e⟩
 | dK kvs=>obtain⟨_,_,_,_,_,_,_,e,_⟩:=x;exact⟨_,e⟩
 | dT kvs=>obtain⟨_,_,_,_,_,_,_,e,_⟩:=x;exact⟨_,e⟩
 | set S n=>obtain⟨_,_,_,_,e,_⟩:=x;exact⟨_,e⟩
 | ins C dx fs=>exact⟨_,x.2.2.2.1⟩
 | own y=>exact x
 | xd fs=>obtain⟨_,⟨_,_,_,e,_⟩,_⟩:=x;exact⟨_,e⟩
 | rng lo hi=>obtain⟨_,_,_,e⟩:=x;exact⟨_,e⟩
 | frz ob u=>exact⟨_,x.1⟩
 | tbl ps=>exact⟨_,x⟩
 | met f y=>exact⟨_,x⟩
 | ext φ=>exact x.2.1
def jq.part {h h' B:Heap}(x:jq P w H h)(hB:B.StaysIn h)(hB':B.StaysIn h')(jv:∀b u,H b=some u->∃o,B.get? b=some o):jq P w H h':=fun a o e=>
 (x a o e).hX (fun b u hb q=>by
  obtain⟨o',eo⟩:∃o',B.get? b=some o':=by
   rcases hb with hb|hb
   ·subst hb;exact jv _ _ e
   ·exact jv _ _ hb
  have:=hB b o' eo;rw[q] at this;cases this;exact hB' b _ eo) (fun _ q=>q) fun _ _ q=>q
def jA (H:Hp)(a:Gc):Hp:=fun b=>if b=a then none else H b
def dq:jA H a a=none:=if_pos rfl
def bO {a b:Gc}(h:b≠a):jA H a b=H b:=if_neg h
def vY (P:Qaf)(w:Qag)(base:Heap):G6:=fun outer H s E e s'=>Ka fun ea cls t B H' dx=>e = .ref ea/\s'.os=s.os/\Qdl s'.gens/\Un (pZ outer) [] H H' s.heap s'.heap/\jq P w H' s'.heap /\
 base.StaysIn B/\(∀b o,s.heap.get? b=some o->b∉pZ outer->∃o',B.get? b=some o')/\(∀b u,H' b=some u->∃o',B.get? b=some o')/\wD B outer ea cls (.ref t) dx s'.heap/\E cls dx H'
def yx {base h:Heap}:∀{l:List Env} {b:Gc},h.FunFrames base l->b∈pZ l->∃o,h.get? b=some o/\∀vs,o.data ≠ .fields vs:=fun{l b} hl hb=>by
 refine ai.el (hl.mem hb) _ ?_;rintro _ o e n;exact⟨o,e,n⟩
section
variable {P:Qaf}{w:Qag}{K:Ja}{mg:Str->Option Fk}{base:Heap}{N:List Str}{qual:Str}{scope:Qb1}{f:Gc}{cd:Fk}{A:Qax}{outer:List Env}{s0:KE}{H0:Hp}{E:XK}
def zO {σ:St}{H:Hp}{s:KE}{e t:Gc}{oe:Obj}{vs:Array Fk}
  (I:Inv (lE (vY P w base) P w K mg base N qual scope f cd A outer s0 H0 E) pins σ H s) (he:s.heap.get? e=some oe) (new:s0.heap.get? e=none) (hd:oe.data = .fields vs) (v1:vs[1]? = some .none) (v0:vs[0]? = some (.ref t))
  (QY:H e=none\/∃ φ,H e=some (.ext φ)) (hE:E oe.cls oe.dict (jA H e)):(lE (vY P w base) P w K mg base N qual scope f cd A outer s0 H0 E).xe (.ref e) s:=by
 let env:=QbE qual scope s0.heap.objs.size f cd
 let B:=hideAll s.heap (e::pZ (env::outer))
 have nH:B.StaysIn s.heap:=fun b o q=>of_hideAll _ q;have Pp:s.heap.FunFrames base (env::outer):=I.stack;have WD:∀b o,s0.heap.get? b=some o->b≠s0.heap.objs.size:=fun b o q=>Jo (Jf q);have Fw:∀b o,s0.heap.get? b=some o->b≠e:=fun b o q z=>by rw[z,new] at q;cases q
 have O3:=fun b hb=>by
  have:b∈(env::outer).filterMap (·.frame):=hb;exact Jw.mp this
 have hbs:=fun b o q z=>by
  exact Fw b _ (I.ok.bs b o q).1 z
 have jv:∀b u,jA H e b=some u->∃o,B.get? b=some o:=fun b u q=>by
  have nb:b≠e:=fun z=>by rw[z,dq] at q;cases q
  rw[bO nb] at q;obtain⟨o,eo⟩:=(I.bE b u q).ex;refine⟨o,Qfm _ eo fun z =>?_⟩
  rcases Jw.mp z with z|z
  ·exact nb z
  ·have:=I.vn b z;rw[q] at this;cases this
 have VZ:base.StaysIn B:=fun b o q=>by
  refine Qfm _ (I.bs b o q).1 fun z =>?_
  rcases Jw.mp z with z|z
  ·exact hbs b o q z
  ·have:=(Pp.mem z).1;rw[q] at this;cases this
 have ub:Un (pZ outer) [] H0 H s0.heap s.heap:=I.base;refine wm I.ok.frames (funFrames_hide Pp fun v hv a ha=>Jk _ (List.mem_filterMap.mpr ⟨v,hv,ha⟩)) rfl he nH (hideAll_none _ (Jn ..)) hd v1 v0 fun h' FK up =>?_;have hk:=fun b o ne hb q=>FK.1 b o (Qfm _ q fun z=>(Jw.mp z).elim ne hb);have ya:∀b o,b∈pZ (env::outer)->s.heap.get? b=some o->∃sl,h'.get? b=some { o with slots:=sl }:=fun b o hb q=>by
  refine ai.el (yx Pp hb) _ ?_;rintro o' e' nf;rw[q] at e';cases e';exact up b o q nf
 have old:=fun b o q hb z=>(O3 b z).elim (WD b o q) hb;have SN:jq P w (jA H e) s.heap:=fun b u q=>by
  have nb:b≠e:=fun z=>by rw[z,dq] at q;cases q
  rw[bO nb] at q;refine(I.bE b u q).hX (fun _ _ _ z=>z) (fun c z =>?_) fun c xs z =>?_
  all_goals
   have nc:c≠e:=fun y=>by
    rw[y] at z
    rcases QY with l|⟨φ,l⟩<;>(rw[l] at z;cases z)
   rw[bO nc];exact z
 have Hq:∀b o,H0 b=some o->(∀ φ,H b≠some (.ext φ))->H b≠none->jA H e b=H b:=fun b o q n1 n2=>by
  refine bO fun z =>?_;rw[z] at n1 n2
  rcases QY with l|⟨φ,l⟩
  ·exact n2 l
  ·exact n1 φ l
 refine⟨e,oe.cls,t,B,jA H e,oe.dict,rfl,I.os,I.bare,⟨?_,?_,?_,?_,?_,?_,?_⟩,SN.part nH FK.1 jv,VZ,?_,jv,FK,hE⟩
 ·exact fun b o q n hb pF=>hk b o (Fw b o q) (old b o q hb) (ub.keep b o q n hb pF)
 ·intro b o q n hb pF;obtain⟨sl,e1⟩:=ub.slot b o q n hb pF;obtain⟨sl',e2⟩:=ya b _ (by show b∈(env::outer).filterMap (·.frame);rw[Y5];exact Jk _ hb) e1;exact⟨sl',e2⟩
 ·intro b o q n pF;rw[bO (Fw b o q)];exact ub.free b o q n pF
 ·intro b o q pF;obtain⟨o1,e1⟩:=ub.there b o q pF
  by_cases hb:b∈pZ (env::outer)
  ·obtain⟨sl,e2⟩:=ya b o1 hb e1;exact⟨_,e2⟩
  ·exact⟨o1,hk b o1 (Fw b o q) hb e1⟩
 ·intro b xs q;have z:=ub.lr b xs q;rw[Hq b _ q (fun φ y=>by rw[z] at y;cases y) (fun y=>by rw[z] at y;cases y)];exact z
 ·intro b o u q;have z:=ub.kK b o u q;rw[Hq b _ q (fun φ y=>by rw[z] at y;cases y) (fun y=>by rw[z] at y;cases y)];exact z
 ·intro b ps q;obtain⟨m,z⟩:=ub.mP b ps q;refine⟨m,?_⟩;rw[Hq b _ q (fun φ y=>by rw[z] at y;cases y) (fun y=>by rw[z] at y;cases y)];exact z
 ·intro b o q hb;obtain⟨o1,e1⟩:=ub.there b o q (by simp);exact⟨o1,Qfm _ e1 fun z=>(Jw.mp z).elim (Fw b o q) (old b o q hb)⟩
def uy (hE:∀c d H,E' c d H->E c d H):Passes (vY P w base) (lE (vY P w base) P w K mg base N qual scope f cd A outer s0 H0 E) E':=by
 intro pins σ H s ev s' I h
 let env:=QbE qual scope s0.heap.objs.size f cd
 obtain⟨e,cls,t,B,H',dx,rfl,os',bare',u1,hok',VZ,hold,jv,FK,q⟩:=h;have ub:Un (pZ outer) [] H0 H s0.heap s.heap:=I.base;have WD:∀b o,s0.heap.get? b=some o->b≠s0.heap.objs.size:=fun b o q=>Jo (Jf q);have O3:=fun b hb=>by
  have:b∈(env::outer).filterMap (·.frame):=hb;exact Jw.mp this
 have dW:=fun b hb=>by
  show b∈(env::outer).filterMap (·.frame);rw[Y5];exact Jk _ hb
 have old:=fun b o q hb z=>(O3 b z).elim (WD b o q) hb;refine EU I.ok.frames rfl FK fun h' fly' up =>?_;have step:∀b o,s.heap.get? b=some o->b∉pZ (env::outer)->∀o1,s'.heap.get? b=some o1->h'.get? b=some o1:=fun b o q hb o1 e1=>by
  obtain⟨o',eo⟩:=hold b o q hb;have e2:=FK.1 b o' eo;rw[e1] at e2;cases e2;exact fly'.1 b _ eo
 have ya:∀b o,b∈pZ (env::outer)->s'.heap.get? b=some o->∃sl,h'.get? b=some { o with slots:=sl }:=fun b o hb q=>by
  refine ai.el (yx FK.2.2.1 hb) _ ?_;rintro o' e' nf;rw[q] at e';cases e';exact up b o q nf
 refine⟨e,cls,t,B,H',dx,rfl,(os'.trans I.os),bare',⟨?_,?_,?_,?_,?_,?_,?_⟩,hok'.part FK.1 fly'.1 jv,VZ,?_,jv,fly',hE _ _ _ q⟩
 ·intro b o q n hb pF;have e1:=ub.keep b o q n hb pF;have n1:=ub.free b o q n pF;have uI:=old b o q hb;exact step b o e1 uI o (u1.keep b o e1 n1 uI (by simp))
 ·intro b o q n hb pF;obtain⟨sl,e1⟩:=ub.slot b o q n hb pF;have n1:=ub.free b o q n pF;obtain⟨sl1,e2⟩:=u1.slot b _ e1 n1 (dW b hb) (by simp);obtain⟨sl2,e3⟩:=ya b _ (dW b hb) e2;exact⟨sl2,e3⟩
 ·intro b o q n pF;have n1:=ub.free b o q n pF;obtain⟨o1,e1⟩:=ub.there b o q pF;exact u1.free b o1 e1 n1 (by simp)
 ·intro b o q pF;obtain⟨o1,e1⟩:=ub.there b o q pF;obtain⟨o2,e2⟩:=u1.there b o1 e1 (by simp)
  by_cases hb:b∈pZ (env::outer)
  ·obtain⟨sl,e3⟩:=ya b o2 hb e2;exact⟨_,e3⟩
  ·exact⟨o2,step b o1 e1 hb o2 e2⟩
 ·exact fun b xs q=>u1.lr b xs (ub.lr b xs q)
 ·exact fun b o u q=>u1.kK b o u (ub.kK b o u q)
 ·intro b ps q;obtain⟨m1,e1⟩:=ub.mP b ps q;obtain⟨m2,e2⟩:=u1.mP b _ e1;exact⟨m1++m2,by rw[e2,Array.append_assoc]⟩
 ·intro b o q hb;obtain⟨o1,e1⟩:=ub.there b o q (by simp);exact hold b o1 e1 (old b o q hb)
end
section
variable {X:Cx}{L:Gc}{pins:List (Gc×Obj)}{σ:St}{H:Hp}{s:KE}
def Inv.JO (I:Inv X pins σ H s)(h0:H e=none)(h1:e≠X.env.locals)(h2:∀x c,X.env.cells.lookup x=some c->c≠e)(h3:∀p∈X.pn++pins,p.1≠e)(h4:∀b u,X.s₀.heap.get? b=some u->b≠e)
  (new:bC X.prog X.w (upd H e o) s.heap e o):Inv X pins σ (upd H e o) s:=by
 refine⟨I.ok,I.os,I.bare,⟨I.base.keep,I.base.slot,fun b u q n hx =>?_,I.base.there,fun b xs q =>?_,fun b u xs q =>?_,fun b ps q =>?_⟩,I.loc,I.cell,?_,fun x c q =>?_,fun p hp =>?_,I.bE.adopt h0 new,I.len⟩
 ·rw[ao (h4 b u q)];exact I.base.free b u q n hx
 ·have z:=I.base.lr b xs q;rw[ao (ax z h0)];exact z
 ·have z:=I.base.kK b u xs q;rw[ao (ax z h0)];exact z
 ·obtain⟨m,z⟩:=I.base.mP b ps q;exact⟨m,by rw[ao (ax z h0)];exact z⟩
 ·rw[ao (QaB h1)];exact I.free
 ·rw[ao (h2 x c q)];exact I.freeC x c q
 ·obtain⟨p1,p2,p3⟩:=I.pin p hp;exact⟨p1,by rw[ao (h3 p hp)];exact p2,p3⟩
end
section
variable {P:Qaf}{w:Qag}{K:Ja}{mg:Str->Option Fk}{base:Heap}
def cj.S3 {st:QdM}{f:Gc}{fd:Qad}{N ps:List Str}{k:Nat}{sp:Sp}(F:cj K x qual st f fd)(S:aD N ps (aj st))(len:∀vs H Q E,sp vs H Q E->vs.length=ps.length)
  (xu:∀cW A outer s H vs Q E,dH k (A.deeper (QbE qual (aj st) s.heap.objs.size f cW))->sp vs H Q E ->
   ∃t,Cv (lE (vY P w base) P w K mg base N qual (aj st) f cW A outer s H E) (cy st) t/\t { nx:=fun _ H'=>Q .non H',rt:=Q } (start N vs) H):aW P w K mg base (vY P w base) (k+1) f fd ps sp:=by
 refine ai.el (F.ex) _ ?_;rintro oc od kV doc pm an cW ct Dn rfl lk zA;exact MZ lk zA S len fun A outer s H vs Q E hr Kg=>xu cW A outer s H vs Q E hr Kg
structure C0 (P:Qaf)(w:Qag)(K:Ja)(mg:Str->Option Fk)(base:Heap)(k:Nat)(x:Str)(ps:List Str)(sp:Sp):Prop where
 ex:∃f fd,aW P w K mg base (vY P w base) k f fd ps sp/\Binds K fd ps []/\Ui K (.ref f)=true/\mg x=some (.ref f)
def C0.mono {x:Str}{ps:List Str}{sp:Sp}(F:C0 P w K mg base j x ps sp)(h:j<=k):C0 P w K mg base k x ps sp:=by
 refine ai.el (F.ex) _ ?_;rintro f fd a b c d;exact⟨f,fd,a.mono h,b,c,d⟩
def GN {k:Nat}{x:Str}{ps:List Str}{sp:Sp}{p pos:Pos}{e:QaE}{es:List QaE}{t:TA}
  (F:C0 P w K mg base k x ps sp) (hr:dH k (A.deeper (QbE qual scope s0.heap.objs.size fa cd))) (hg:Gl (lE (vY P w base) P w K mg base N qual scope fa cd A outer s0 H0 E) x) (hE:∀c d H,E' c d H->E c d H)
  (ha:PA (lE (vY P w base) P w K mg base N qual scope fa cd A outer s0 H0 E) (e::es) t) (vW:(x==("__debug__" : Str))=false:=by decide)
  (he:Qaj (e::es) (QbE qual scope s0.heap.objs.size fa cd)=(false,QaR e (QbE qual scope s0.heap.objs.size fa cd))::Qaj es (QbE qual scope s0.heap.objs.size fa cd):=by rfl)
  (sj:(Qcu pos (Qaj es (QbE qual scope s0.heap.objs.size fa cd))).any (·.1)=false:=by rfl) :
  PE (lE (vY P w base) P w K mg base N qual scope fa cd A outer s0 H0 E) (.Call (.Name x p) (e::es) [] pos) (tf sp [] E' t):=by
 refine ai.el (F.ex) _ ?_;rintro f fd a b c d;exact BL a hr hg d c b .nil (uy hE) ha vW he sj
end
def C0.calm {P:Qaf}{w:Qag}{K:Ja}{mg:Str->Option Fk}{base:Heap}{k:Nat}{x:Str}{ps:List Str}{sp MK:Sp}(F:C0 P w K mg base k x ps sp)(h:∀vs H Q E,MK vs H Q E->sp vs H Q (fun _ _ _=>False)):Fn P w K mg base k x ps MK:=by
 refine ai.el (F.ex) _ ?_;rintro f fd a b c d;refine⟨f,fd,⟨fun vs H Q E q=>a.len _ _ _ _ (h _ _ _ _ q),fun A outer s H args us vs Q E hr he hb hv hs=>Qc0 (a.run A outer s H args us vs Q _ hr he hb hv (h _ _ _ _ hs)) fun r s' q =>?_⟩,b,c,d⟩;cases r with
 | error e=>obtain⟨_,_,_,_,_,_,_,_,_,_,_,_,_,_,_,z⟩:=q;exact z
 | ok fl=>cases fl<;>exact q
open PySem.Calls Builtin Builtin.ObjectAttr Builtin.Getset_descriptor
section
variable {X:Cx}
def gV (hg:Gl X x)(hm:X.mg x=some (.ref C))(hd:(x==("__debug__" : Str))=false:=by decide):PE X (.Name x pos) (tC (.ref C)):=v9 hg hm rfl hd
end
section
variable {X:Cx}
def Mj:fD X (Qbu .Mult) (fun x y H Q=>∃(z:Str) (n:Int),x = .str z/\y = .int n/\MulOk z n/\Q (.str (QbW z n)) H):=by
 intro pins s σ H x y v u Q I rx ry h;obtain⟨z,n,rfl,rfl,ok,q⟩:=h;obtain⟨t,rfl⟩:=rx;obtain⟨t',rfl⟩:=ry;exact SB.mul ok fun t' k=>⟨.str _,H,I.tok _,⟨_,rfl⟩,q⟩
def SS:R2:=fun x y H Q=>MQ x y H Q\/∃(z:Str) (n:Int),x = .str z/\y = .int n/\MulOk z n/\Q (.str (QbW z n)) H
def Ni:fD X (Qbu .Mult) SS:=qD.or Mj
def j4 {z:Str}{n:Int}(h1:z.length<=1000)(h2:n<=1000)(h3: -1000<=n):MulOk z n:=by
 refine⟨?_,fun a _ =>?_,fun a _ =>?_⟩
 ·rw[decide_eq_false ⋯,decide_eq_false ⋯];rfl
 ·have:(1000:Int)<=(2^63-1) / n:=by
   rw[Int.le_ediv_iff_mul_le ⋯];lia
  lia
 ·have:z.length*n.toNat<=1000*1000:=Nat.mul_le_mul h1 ⋯;show decide (_>M2)=false;simp;exact Jg this ∅
end
def oneMore {K:Type}[DecidableEq K](D:List K)(k:K):List K:=if k∈D then D else D++[k]
def cp {K:Type}[DecidableEq K](ks:Nat->K):Nat->List K
 | 0=>[]
 | i+1=>oneMore (cp ks i) (ks i)
def lD {K:Type}[DecidableEq K](ks:Nat->K):∀i,(cp ks i).length<=i
 | 0=>Je _
 | i+1=>by
  have:=lD ks i;unfold cp oneMore
  split
  ·lia
  ·rw[Jp];exact Wh this
section
variable {prog:Qaf}{w:Qag}{K:Type}[DecidableEq K]{knd:QbF prog w K}
def mW (knd:QbF prog w K)(h:Heap)(a:Gc)(D:List K):Prop:=h.SetOf knd a (fun k=>decide (k∈D)) D.length
def mW.at' {h h':Heap}{a:Gc}{D:List K}(x:mW knd h a D)(k:∀o,h.get? a=some o->h'.get? a=some o):mW knd h' a D:=by
 obtain⟨o,es,ep,t,e,r⟩:=x;exact⟨o,es,ep,t,k _ e,r⟩
variable {A:Qax}{R:Qb2->KE->Prop}{I:Gc}{fp wr:List Gc}{G:Array QeT->Array QeT->Prop}{n:Nat}{P:Nat->Fk->Prop}{St:Nat->KE->Prop}
end
abbrev pQ (led:Bool):Obj:={ cls := .type "set",dict:=none,data := .set #[] 0 (.fresh 0 0 led) }
def Up (xs:List Nat):Prop:=xs.Pairwise (· < ·)
def Up.lt {xs:Array Nat}(h:Up xs.toList){i j:Nat}(hj:j<xs.size)(yB:i<j):xs[i]<xs[j]:=by
 have:=Uz.mp h i j (by simpa using U7 yB hj) (by simpa using hj) yB;simpa using this
structure Cut (xs:Array Nat)(j p:Nat):Prop where
 le:p<=xs.size
 lo:∀i (h:i<xs.size),i<p->xs[i]<j
 hi:∀i (h:i<xs.size),p<=i->j<=xs[i]
def qE (u:Up xs.toList)(j:Nat):∀fuel lo hi,hi-lo<=fuel->lo<=hi->hi<=xs.size->(∀i h,i<lo->xs[i]<j)->(∀i h,hi<=i->j<=xs[i])->Cut xs j (QeP xs j fuel lo hi)
 | 0,lo,hi,hf,hl,hs,h1,h2=>by
  have e:lo=hi:=by lia
  subst e;exact⟨hs,h1,h2⟩
 | fuel+1,lo,hi,hf,hl,hs,h1,h2=>by
  unfold QeP
  by_cases iL:lo<hi
  ·rw[if_pos iL];have hm:(lo+hi) / 2<xs.size:=by lia
   have e:xs.getD ((lo+hi) / 2) j=xs[(lo+hi) / 2]:=by simp[ hm]
   dsimp only;rw[e]
   by_cases hc:xs[(lo+hi) / 2]<j
   ·rw[if_pos hc];refine qE u j fuel _ _ ⋯ ⋯ hs (fun i h zy =>?_) h2
    by_cases q:i=(lo+hi) / 2
    ·subst q;exact hc
    ·exact U7 (u.lt hm ⋯) hc
   ·rw[if_neg hc];refine qE u j fuel _ _ ⋯ ⋯ ⋯ h1 (fun i h zy =>?_)
    by_cases q:i=(lo+hi) / 2
    ·subst q;lia
    ·have:=u.lt h (show(lo+hi) / 2<i by lia);lia
  ·rw[if_neg iL];have e:lo=hi:=by lia
   subst e;exact⟨hs,h1,h2⟩
def iw (u:Up xs.toList)(j:Nat):Cut xs j (QaG xs j):=
 qE u j _ _ _ ⋯ (Um _) (Je _) (fun i h z=>absurd z (Wd _)) fun i h z=>absurd h ⋯
def Cut.next {xs:Array Nat}{p i:Nat}(u:Up xs.toList)(h:i<xs.size)(c:Cut xs (xs[i]+1) p):p=i+1:=by
 have h1:¬p<i+1:=fun z=>by have:=c.hi i h ⋯;lia
 have h2:¬i+1<p:=fun z=>by
  have hs:i+1<xs.size:=by have:=c.le;lia
  have a:=c.lo (i+1) hs z;have b:=u.lt hs (Y8 i);lia
 lia
def dG (t:QcM):Prop:=t.dummies = #[]/\Up t.place.toList
def AE:dG (SetTable.fresh a b led):=⟨rfl,Qe4⟩
def iO (t:QcM)(n:Nat):dG (t.standIn n):=⟨rfl,by
 show List.Pairwise _ (Array.range n).toList;rw[Array.toList_range];exact QfA⟩
def has_none (j:Nat):QeZ #[] j=false:=by
 unfold QeZ;simp
def ES (g:dG t)(j:Nat):t.slot j = .empty\/∃i,t.slot j = .live i:=by
 unfold SetTable.slot;dsimp only
 split
 ·exact .inr ⟨_,rfl⟩
 ·rw[g.1,has_none];exact .inl rfl
def DF {t:QcM}(g:dG t){j:Nat}(h:t.slot j = .empty):j∉t.place.toList:=fun hm=>by
 obtain⟨i,hi,e⟩:=Ys.mp hm;have zy:i<t.place.size:=by simpa using hi
 have e':t.place[i]=j:=by simpa using e
 have c:=iw g.2 j;have hp:QaG t.place j=i:=by
  have h1:¬i<QaG t.place j:=fun z=>by have:=c.lo i zy z;lia
  have h2:¬QaG t.place j<i:=fun z=>by
   have hs:QaG t.place j<t.place.size:=by lia
   have a:=c.hi _ hs (Je _);have b:=g.2.lt zy z;lia
  lia
 unfold SetTable.slot at h;dsimp only at h;rw[hp,J1 zy,e'] at h;simp at h
def qO (g:dG t){h:Int}{j:Nat}{d:Option Nat}:∀fuel p,p.dummy=none->Qdi t (fun _=>h+1) h fuel p=some (.empty j d)->t.slot j = .empty/\d=none
 | 0,p,hp,e=>by unfold Qdi at e;cases e
 | fuel+1,p,hp,e=>by
  unfold Qdi at e
  rcases ES g p.j with q|⟨i,q⟩
  ·rw[q] at e;cases e;exact⟨q,hp⟩
  ·rw[q] at e;dsimp only at e;rw[if_neg (by rw[beq_iff_eq];lia)] at e;refine qO g fuel _ ?_ e;unfold SetTable.advance
   split
   ·exact hp
   ·exact hp
def Hn (g:dG t){j:Nat}(h:t.slot j = .empty):dG (t.put j).1:=by
 have c:=iw g.2 j;refine⟨?_,?_⟩
 ·show(if QeZ t.dummies j=true then _ else t.dummies) = #[];rw[g.1,has_none,if_neg Jr]
 ·show Up (SetTable.insertAt t.place _ j).toList;rw[SetTable.toList_insertAt];have u:=g.2;refine Y0.mpr ⟨QcV (List.take_sublist _ _) u,List.pairwise_cons.mpr ⟨fun x hx =>?_,QcV (List.drop_sublist _ _) u⟩,fun x hx y hy =>?_⟩
  ·obtain⟨i,hi,e⟩:=Ys.mp hx;have zy:QaG t.place j+i<t.place.size:=by rw[Uv] at hi;simp at hi;lia
   have:=c.hi _ zy (Ul _ _);have e':t.place[QaG t.place j+i]=x:=by simpa using e
   have FI:j≠x:=fun z=>(DF g h) (by rw[z];exact List.mem_of_mem_drop hx);lia
  ·have hxj:x<j:=by
    obtain⟨i,hi,e⟩:=Ys.mp hx;rw[Uc] at hi;have zy:i<t.place.size:=by simp at hi;lia
    have:=c.lo i zy ⋯;have e':t.place[i]=x:=by simpa using e
    lia
   rcases Jw.mp hy with rfl|hy
   ·exact hxj
   ·obtain⟨i,hi,e⟩:=Ys.mp hy;have zy:QaG t.place j+i<t.place.size:=by rw[Uv] at hi;simp at hi;lia
    have:=c.hi _ zy (Ul _ _);have e':t.place[QaG t.place j+i]=y:=by simpa using e
    lia
def Km (g:dG t)(n:Nat):dG (t.orStandIn n):=by
 unfold Qfy
 split
 ·exact g
 ·exact iO t n
def Hu (g:dG t)(es:Array (Int×Fk))(h:Int)(x:Fk):dG (layNew t es h x).2.1/\(layNew t es h x).2.1.led=t.led:=by
 unfold layNew
 split
 ·rename_i slot wasDummy hs;dsimp only;have Ca:t.slot slot = .empty:=by
   unfold SetTable.freeSlot at hs
   split at hs
   ·rename_i j d hp;obtain⟨h1,h2⟩:=qO g _ _ rfl hp;subst h2;cases hs;exact h1
   ·cases hs
  refine⟨Km (Hn g Ca) _,?_⟩;unfold Qfy
  split<;>rfl
 ·exact⟨iO t _,rfl⟩
def qy {β:Type}(f:Nat->Option β):∀l,List.Sublist ((l.filterMap fun j=>(f j).map (j, ·)).map (·.1)) l
 | []=>List.Sublist.refl _
 | j::l=>by
  rw[Y5];cases f j with
  | none=>exact List.Sublist.cons _ (qy f l)
  | some b=>exact List.Sublist.cons_cons _ (qy f l)
def Fq {led plain:Bool}{hs:Array Int}{t:QcM}{order:Array Nat}(e:SetTable.laid mask finger moves led plain hs=some (t,order)):dG t/\t.led=led:=by
 unfold SetTable.laid at e;cases q:SetTable.layClean mask hs with
 | none=>rw[q] at e;cases e
 | some owner=>
  rw[q] at e;cases e;exact⟨⟨rfl,(QcV (qy _ _) QfA)⟩,rfl⟩
def Bi (es:Array (Int×Fk))(n:Nat):dG (Qd8 t es n).2.1/\(Qd8 t es n).2.1.led=t.led:=by
 unfold Qd8
 split
 ·rename_i t' order hr;dsimp only
  split
  ·unfold SetTable.relaid at hr;exact Fq hr
  ·exact⟨iO t _,rfl⟩
 ·exact⟨iO t _,rfl⟩
section
variable {prog:Qaf}{w:Qag}{K:Type}[DecidableEq K]{knd:QbF prog w K}{A:Qax}{E:Fk->KE->Prop}{s:KE}{a:Gc}
def mQ (w:Qag)(h:Heap)(a:Gc):Prop:=∃o es ep t,h.get? a=some o/\o.data = .set es ep t/\dG t/\(w.params.followText "set-order" = false->t.led=true)
def mQ.at' (x:mQ w h a)(k:∀o,h.get? a=some o->h'.get? a=some o):mQ w h' a:=by
 obtain⟨o,es,ep,t,e,r⟩:=x;exact⟨o,es,ep,t,k _ e,r⟩
def dE (knd:QbF prog w K)(h:Heap)(a:Gc)(D:List K):Prop:=mW knd h a D/\mQ w h a
def yw (ho:s.heap.get? a=some o)(hd:o.data = .set es ep t){FJ:Array (Int×Fk)}{t':QcM}(g:dG t')(l:w.params.followText "set-order" = false->t'.led=true):
  (s.heap.update a (Qea FJ t')).get? a=some { o with data := .set FJ (ep+1) t' } /\ mQ w (s.heap.update a (Qea FJ t')) a:=by
 have e:=J4 (Qea FJ t') ho (by rw[putSet_of FJ t' hd];rfl);rw[putSet_of FJ t' hd] at e;exact⟨e,_,_,_,_,e,rfl,g,l⟩
def AR {k:K}{x:Fk}{Q:Bool->KE->Prop}(hk:knd.is k x=true)(hx:x.scannable=true)(S:dE knd s.heap a D)(room:D.length+1<Qe9)
  (fin:∀b h',U6 a s.heap h'->dE knd h' a (oneMore D k)->Q b { s with heap:=h' }):Qaa (Qab prog w) A (setAddHashed a x (knd.hash k)) Q E s:=by
 obtain⟨HK,o',FJ,ep',t',xP,FQ,gt',ld'⟩:=S;obtain⟨o,es,ep,t,ho,ex,hd,el,mem,bnd,fit,len⟩:=id HK;obtain⟨gt,ld⟩:dG t/\(w.params.followText "set-order" = false->t.led=true):=by
  rw[ho] at xP;cases xP;rw[hd] at FQ;cases FQ;exact⟨gt',ld'⟩
 refine Qak (be (QaL ho hd fit ?_));dsimp only;rw[(byScan_of hx bnd el),if_pos rfl];refine be (be (Qbi (be (wpAny_setScan_of hk ho hd fit el ?_))));have Tf:∀b {s1:KE} {Q':Unit->KE->Prop},Q' () s1->Qaa (Qab prog w) A (match b with|true=>rule "set.scan.the-table-gave-way" | false=>pure ()) Q' E s1:=fun b s1 Q' q=>by
  cases b
  ·exact tz q
  ·exact Qbi q
 cases hr:es.toList.findIdx? (fun e=>knd.is k e.2) with
 | some j=>
  obtain⟨hj,hp,_⟩:=List.findIdx?_eq_some_iff_getElem.mp hr;refine tz (tz ?_);have q:=fin false s.heap (U6.refl a s.heap) (by
   unfold oneMore;rw[if_pos (of_decide_eq_true ((mem k).mpr ⟨_,Ud hj,hp⟩))];exact⟨HK,_,_,_,_,ho,hd,gt,ld⟩)
  exact q
 | none=>
  have O0:k∉D:=fun z=>by
   obtain⟨e,he,hp⟩:=(mem k).mp (decide_eq_true z);have:=List.findIdx?_eq_none_iff.mp hr e he;rw[hp] at this;cases this
  have more:∀k',decide (k'∈oneMore D k)=(decide (k'∈D)||decide (k'=k)):=fun k'=>by
   unfold oneMore;rw[if_neg O0];simp[]
  obtain⟨g1,l1⟩:=Hu gt es (knd.hash k) x;have pm:=layNew_perm t es (knd.hash k) x;have ft:=layNew_fits t es (knd.hash k) x;generalize layNew t es (knd.hash k) x=L at g1 l1 pm ft ⊢;obtain⟨es1,t1,dummy,gv⟩:=L;rw[Qce] at pm;have el1:=(el.push hk hx).perm pm;have S4:∀k',decide (k'∈oneMore D k)=true ↔ ∃e∈es1.toList,knd.is k' e.2=true:=fun k'=>by
   rw[more];exact mem_push_iff hk mem pm k'
  have Qu:es1.size=(oneMore D k).length:=by
   unfold oneMore;rw[if_neg O0,<-Ub,pm.length_eq,Jp,Jp,Ub,len];rfl
  have NJ:(oneMore D k).length=D.length+1:=by
   unfold oneMore;rw[if_neg O0,Jp];rfl
  have So:es1.size<Qe9:=by lia
  have Ws:=fun z=>l1.trans (ld z);have tail:∀t2,dG t2->(w.params.followText "set-order" = false->t2.led=true)->t2.fits es1.size=true->∀c,
    Qaa (Qab prog w) A (do
     storeSet a es1 t2
     if c=true then do
       (match (Qd8 t2 es1 (QbK es1.size)).2.2 with|true=>rule "set.scan.the-table-gave-way" | false=>pure ())
       storeSet a (Qd8 t2 es1 (QbK es1.size)).1 (Qd8 t2 es1 (QbK es1.size)).2.1
       pure (some true)
      else pure (some true)) (fun r s'=>r=some true/\∃h',s'={ s with heap:=h' } /\ U6 a s.heap h'/\dE knd h' a (oneMore D k)) E s:=by
   refine fun t2 g2 ld2 ft2 c=>be (wpAny_storeSet_of ho hd ?_ (QeM So));obtain⟨e1,gs1⟩:=yw ho hd g2 ld2;have Ke:=U6.update s.heap a (Qea es1 t2);cases c with
   | false=>
    exact tz ⟨rfl,_,rfl,Ke,⟨_,_,_,_,e1,ex,rfl,el1,S4,So,ft2,Qu⟩,gs1⟩
   | true=>
    have Ki:=relayAll_perm t2 es1 (QbK es1.size);have Zh:=relayAll_fits t2 es1 (QbK es1.size);obtain⟨g3,l3⟩:=Bi es1 (QbK es1.size);generalize Qd8 t2 es1 (QbK es1.size)=L2 at Ki Zh g3 l3 ⊢;obtain⟨es2,t3,gv2⟩:=L2;dsimp only at Ki Zh g3 l3 ⊢;have Rp:es2.size=es1.size:=by rw[<-Ub,Ki.length_eq,Ub]
    refine be (Tf _ (be (wpAny_storeSet_of e1 rfl ?_ (QeM ⋯))));obtain⟨e2,gs2⟩:=yw (s:={ s with heap:=s.heap.update a (Qea es1 t2) }) e1 rfl g3 (fun z=>l3.trans (ld2 z));refine tz ⟨rfl,_,rfl,Ke.trans (U6.update _ a _),⟨_,_,_,_,e2,ex,rfl,el1.perm Ki,fun k'=>(S4 k').trans ⟨fun hz_=>ai.el hz_ _ fun e he q=>⟨e,Ki.mem_iff.mpr he,q⟩,fun hz_=>ai.el hz_ _ fun e he q=>⟨e,Ki.mem_iff.mp he,q⟩⟩,⋯,Zh,Rp.trans Qu⟩,gs2⟩
  have out:∀r s',(r=some true/\∃h',s'={ s with heap:=h' } /\ U6 a s.heap h'/\dE knd h' a (oneMore D k))->Qaa (Qab prog w) A (match r with|some added=>pure added|none=>setAddHashedIn a x (knd.hash k) 99999) Q E s':=by
   rintro r s' ⟨rfl,h',rfl,sb,sk⟩;exact tz (fin true h' sb sk)
  refine be (Tf _ ?_);cases sj:t1.plain with
  | false=>
   exact be (tz (Qbr (tail t1 g1 Ws ft _) (fun r s' q=>out r s' q) fun _ _ z=>z))
  | true=>
   refine be ?_;rw[hashByValue_scannable 8 hx];refine tz ?_;cases plainKind x with
   | true=>
    exact Qbr (tail t1 g1 Ws ft _) (fun r s' q=>out r s' q) fun _ _ z=>z
   | false=>
    exact Qbr (tail { t1 with plain:=false } g1 Ws (SetTable.fits_plain_off ft) _) (fun r s' q=>out r s' q) fun _ _ z=>z
def dE.at' {h h':Heap}(x:dE knd h a D)(k:∀o,h.get? a=some o->h'.get? a=some o):dE knd h' a D:=⟨x.1.at' k,x.2.at' k⟩
def IM {k:K}{x:Fk}{Q:Fk->KE->Prop}(hk:knd.is k x=true)(hx:x.scannable=true)(S:dE knd s.heap a D)(room:D.length+1<Qe9)
  (fin:∀h',U6 a s.heap h'->dE knd h' a (oneMore D k)->Q .none { s with heap:=h',toks:=s.toks+1 }):Qaa (Qab prog w) A (call (.builtin "set.add") [.ref a,x]) Q E s:=by
 refine Qar F.slot_set_add (show s.heap.SetOf knd a _ _ from S.1).typeIs F.entry_set_add ?_ (F.args_set_add_2 _ _);unfold Builtin.«set.add» Builtin.Frozenset.oneOther QdP setAdd;simp only[Qdc,bind_assoc];exact be (tz (be (tz (be (Qak (be (knd.pyHash hk (AR hk hx S room fun b h' sb sk=>tz ⟨_,rfl,fin h' sb sk⟩))))))))
end
structure qr (P:Qaf)(w:Qag)(K:Type)[DecidableEq K] where
 knd:QbF P w K
 v:K->V
 ok:∀k u,RelV (v k) u->knd.is k u=true/\u.scannable=true
def Ks (P:Qaf)(w:Qag):qr P w Str:=⟨strKind P w,V.str,fun k u r=>by obtain⟨t,rfl⟩:=r;exact⟨strKind_is _ _ _ _,rfl⟩⟩
def Ej (P:Qaf)(w:Qag):qr P w Int:=⟨intKind P w,V.int,fun k u r=>by obtain⟨t,rfl⟩:=r;exact⟨intKind_is _ _ _ _,rfl⟩⟩
def gO {K:Type}[DecidableEq K](kv:qr P w K)(a:Gc)(D:List K):HO := .ext fun h=>dE kv.knd h a D
def BS {K:Type}[DecidableEq K]{kv:qr P w K}{a:Gc}{D:List K}{H:Hp}{h:Heap}(x:dE kv.knd h a D):bC P w H h a (gO kv a D):=by
 obtain⟨o,es,ep,t,e,rest⟩:=x.1;exact⟨x,⟨o,e⟩,fun h1 h2 y k=>dE.at' y k⟩
section
variable {prog:Qaf}{w:Qag}{A:Qax}{R:Qb2->KE->Prop}{s:KE}
def yL {ex target iter:QaE}{ifs:List QaE}{scope:Qb1}{pos:Pos}{it:Fk}{D:Gc}{env:Env}(I:Nat->KE->Prop)
  (turn:∀n s,I n s->Qaa (Qab prog w) A (QbS it) (fun r s1=>match r with
   | none=>R (.ok .next) s1
   | some v=>Qaa (Qab prog w) A (QcT target it v) (fun _ s1'=>Qaa (Qab prog w) A (QfN target env v) (fun _ s2=>
     Qaa (Qab prog w) A (pN ifs env) (fun ok s3=>
      if ok=true then Qaa (Qab prog w) A (QaR ex env) (fun ev s4=>Qaa (Qab prog w) A (call (.builtin "set.add") [.ref D,ev]) (fun _ s6=>∃m,m<n/\I m s6) oK s4) oK s3
      else ∃m,m<n/\I m s3) oK s2) oK s1') oK s1) oK s)
  (n:Nat) (h:I n s):Qa2 (Qab prog w) A (.compLoop (.SetComp ex [⟨target,iter,ifs,0⟩] scope pos) 0 it (.ref D) env) R s:=by
 refine codeAny_loop rfl I (fun n s hI=>(show Qaa _ A (Sem.onRaise (compTurn (.SetComp ex [⟨target,iter,ifs,0⟩] scope pos) 0 it (.ref D) env) (fun x=>do Qc1 x env;Qft x)) _ _ s from wpAny_noted (be (Qbe (be (cS (bh (turn n s hI) fun r s1 h1 =>?_))))))) n h;cases r with
 | none=>exact tz h1
 | some v=>
  refine be (cS (bh h1 fun _ s1' MG=>be (cS (bh MG fun _ s2 h2=>be (cS (bh h2 fun ok s3 h3 =>?_))))));cases ok with
  | false=>exact tz ⟨rfl,h3⟩
  | true=>
   exact be (be (cS (bh h3 fun ev s4 h4=>be (Qbe (be (cS (bh h4 fun _ s6 h6=>tz (tz ⟨rfl,h6⟩))))))))
def zk {ex target iter ifs rest scope pos it acc env}(h0:Qa2 (Qab prog w) A (.compLoop (.SetComp ex (⟨target,iter,ifs,0⟩::rest) scope pos) 0 it acc env) R s)
  (h:Qaa (Qab prog w) A (Qfa it) (fun it' s'=>Qa2 (Qab prog w) A (.compLoop (.SetComp ex (⟨target,iter,ifs,0⟩::rest) scope pos) 0 it' acc env) R s') (notedBy (Qab prog w) A env fun x s'=>R (.error x) s') s) :
  Qa2 (Qab prog w) A (.compStart (.SetComp ex (⟨target,iter,ifs,0⟩::rest) scope pos) 0 it acc env) R s:=by
 refine codeAny_of_tree (show Qaa _ A ((compStart (.SetComp ex (⟨target,iter,ifs,0⟩::rest) scope pos) 0 it acc env).onRaise (fun x=>do Qc1 x env;standAt theWindowsPlace)) _ _ s from wpAny_notedAt (be (Qbd (Qbp ?_))))
 split
 ·first
   | exact be (tz (tz ⟨rfl,h0⟩))
   | exact tz ⟨rfl,h0⟩
 ·refine be (Qbi ?_);exact be (Qbe (be (Qbr h (fun it' s' h'=>tz ⟨rfl,h'⟩) fun _ _ x=>x)))
end
section
variable {X:Cx}{pins:List (Gc×Obj)}{σ:St}{H:Hp}{s:KE}{a:Gc}{u:Fk}{A:Qax}{E:Fk->KE->Prop}{K:Type}[DecidableEq K]{kv:qr X.prog X.w K}
def R4 (I:Inv X pins σ H s)(e:H a=some (gO kv a D))(l:D.length<=4000)(ry:RelV (kv.v k) u)
  (h:∀v s',Inv X pins σ (upd H a (gO kv a (oneMore D k))) s'->Q v s'):Qaa (Qab X.prog X.w) A (call (.builtin "set.add") [.ref a,u]) Q E s:=by
 obtain⟨h1,h2⟩:=kv.ok k u ry;refine IM h1 h2 ((show bC X.prog X.w H s.heap a (gO kv a D) from I.bE a _ e).1) (by unfold Qe9;lia) fun h' sb y =>?_;obtain⟨o,es,ep,t,eo,_⟩:=y.1;exact h _ _ (mz I (by rw[e];exact QaO) sb ⟨o,eo⟩ (BS y))
end
def Gx {KT:Type}[DecidableEq KT](kv:qr P w KT)(J:It)(n:Nat)(js:List Nat)(g:TG)(tc:TT)(te:TE)(σ:St)(D:Gc)(H1:Hp)(fin:Hp->Prop):Prop:=
 ∃W:Nat->Nat->Hp->Prop,(∃m,W 0 m H1)/\∀i m H,W i m H ->
  (J.stop i H/\fin H) \/
  (J.go i H/\∀x H',J.yld i H x H'->g x (Jt n none++dY σ js) H' fun σ2 H2=>tc σ2 H2 fun b H3=>
   if b=true then te σ2 H3 fun y H4=>∃ks k,H4 D=some (gO kv D ks)/\y=kv.v k/\ks.length<=4000/\∃m',m'<m/\W (i+1) m' (upd H4 D (gO kv D (oneMore ks k))) else ∃m',m'<m/\W (i+1) m' H3)
def Py {KT:Type}[DecidableEq KT](kv:qr P w KT)(wi:TI)(n:Nat)(js:List Nat)(g:TG)(tc:TT)(te:TE):TE:=fun σ H Q=>wi σ H fun J H1=>∀D,H1 D=none->Gx kv J n js g tc te σ D (upd H1 D (gO kv D [])) fun H2=>Q (.ref D) H2
def K7 {s:KE}{Q:Fk->KE->Prop}{E:Fk->KE->Prop}(h:∀led,(w.params.followText "set-order" = false->led=true)->Q (.ref s.heap.objs.size) { s with heap:=s.heap.push (pQ led) }):Qaa (Qab prog w) A (newSet (.type "set")) Q E s:=
 be (be (Qbd (tz (be (wpAny_alloc (tz (h _ fun z=>by show(!w.params.followText "set-order")=true;rw[z];rfl)))))))
def AI {K:Type}[DecidableEq K]{knd:QbF prog w K}{h:Heap}{a:Gc}{led:Bool}(e:h.get? a=some (pQ led)):mW knd h a []:=
 (setObjOf_fresh (knd:=knd) led).setOf e ∅
def AB {K:Type}[DecidableEq K]{knd:QbF prog w K}{h:Heap}{a:Gc}{led:Bool}(l:w.params.followText "set-order" = false->led=true)(e:h.get? a=some (pQ led)):dE knd h a []:=⟨AI e,_,_,_,_,e,rfl,AE,l⟩
def Bt {KT:Type}[DecidableEq KT](kv:qr X.prog X.w KT){ex tg iter:QaE}{ifs:List QaE}{scope:Qb1}{pos:Pos}{Nc Fc:List Str}{js:List Nat}{wi:TI}{g:TG}{tc:TT}{te:TE}{use:Option (Fk->Sem Unit)}{QV:Fk->KE->Prop}
  (fN:X.calm=true) (c:gG X scope Nc Fc js) (hi:PI X tg iter wi)
  (hg:∀cl C s H fp,PG (mi X Nc Fc scope cl C s H fp) tg g) (DD:∀cl C s H fp,Mf (mi X Nc Fc scope cl C s H fp) ifs tc) (L0:∀cl C s H fp,PE (mi X Nc Fc scope cl C s H fp) ex te) (gk:Gk Nc.length g)
  {pins:List (Gc×Obj)} {s:KE} {σ:St} {H:Hp} {fin:Gc->Hp->Prop} (I:Inv X pins σ H s)
  (h:wi σ H fun J H1=>∀D,H1 D=none->Gx kv J Nc.length js g tc te σ D (upd H1 D (gO kv D [])) (fin D))
  (behind:∀(C D:Gc) (m:Str->Option Fk) (H2:Hp) (s2:KE),Inv X pins σ H2 s2->s2.heap.Ns C m->gj X pins H2 C->fin D H2->QeN (Qab X.prog X.w) X.A X.xe use QV (.ref D) C (.ok .next) s2)
  (hs:∀x,Qbh iter X.env x=pure x) :
  Qaa (Qab X.prog X.w) X.A (comprehension (.SetComp ex [⟨tg,iter,ifs,0⟩] scope pos) scope X.env (firstIterPos [⟨tg,iter,ifs,0⟩] pos) (newSet (.type "set")) false (QaR iter X.env) use) QV X.xe s:=by
 obtain⟨cl,hclos,dW,kH⟩:=lM fun y hy hf=>I.ok.has y.1 (c.free y hy hf);refine Qdm rfl hs hclos c.kind c.names (bh (hi s σ H _ I h) fun v s1 h1=>bh h1 fun Rg s2 h2 =>?_);obtain⟨it,fp,tn,J,H2,e,I2,T,pJ,f2,all⟩:=h2;subst e;refine K7 fun led hled=>(Qd6 c.nocell (by intro y hy;simp at hy) (fun h1 hns1 hsb1 =>?_) c.kind)
 have Ho:=I2.laid (o:=gO kv s2.heap.objs.size []) (t':=s2.toks) (fun _ _ q=>Jb _ q) (Je _) (BS (AB hled (Ji _ rfl)));obtain⟨W,⟨m0,w0⟩,turn⟩:=all _ (I2.bE.fresh (Je _));have Ti:∀b∈fp,∃o,s2.heap.get? b=some o:=fun b hb=>let ⟨o,e,_⟩:=T.obj 0 _ pJ b hb; ⟨o,e⟩;have tI:=fun b hb=>let ⟨o,e⟩:=Ti b hb;Jf e;generalize hG:s2.heap.push (pQ led)=G at hns1 hsb1 Ho ⊢;have toG:∀b o,s2.heap.get? b=some o->G.get? b=some o:=fun b o e=>hG▸Jb _ e;have hC:G.objs.size=s2.heap.objs.size+1:=by rw[<-hG,Ua]
 have old:=fun b o e=>
  hsb1.extBut b o (cA (Jf e) (Je _)) (Jb _ e)
 let D:Gc:=s2.heap.objs.size
 let s2':KE:={ s2 with heap:=G,toks:=s2.toks }
 let H2':Hp:=upd H2 D (gO kv D [])
 have N7:∀b∈fp,gj X pins H2' b:=fun b hb=>by
  obtain⟨a1,a2⟩:=f2 b hb;refine⟨?_,a2⟩;show upd H2 D (gO kv D []) b=none;rw[ao (Jo (tI b hb))];exact a1
 have fo:∀b∈fp,∃o,s2'.heap.get? b=some o:=fun b hb=>let ⟨o,e⟩:=Ti b hb; ⟨o,toG b o e⟩;have W2:∀b∈fp,b<G.objs.size:=fun b hb=>by have:=tI b hb;rw[hC];exact Qci this
 let Xc:Cx:=mi X Nc Fc scope cl G.objs.size s2' H2' fp
 have lx:∀{H':Hp},(∀b∈fp,H' b=none)->∀b∈fp,gj Xc [] H' b:=fun{H'} hn b hb=>by
  refine⟨hn b hb,?_,?_,.inl hb,fun x a e =>?_,fun p hq =>?_⟩
  ·exact cA (W2 b hb) (Je _)
  ·exact(rJ Ho c dW kH (Je _) N7 fo).exfs b hb
  ·exact(f2 b hb).2.2.2.2.1 x a (dW _ _ e)
  ·have q:p∈([]:List (Gc×Obj))++[]:=hq;simp at q
 have loop:∀t1,Qa2 (Qab X.prog X.w) X.A (.compLoop (.SetComp ex [⟨tg,iter,ifs,0⟩] scope pos) 0 (.ref it) (.ref s2.heap.objs.size) (compEnvC scope cl G.objs.size X.env))
   (QeN (Qab X.prog X.w) X.A X.xe use QV (.ref s2.heap.objs.size) G.objs.size) { s2 with heap:=h1,toks:=t1 }:=by
  refine fun t1=>yL (fun n s'=>∃i H',Inv Xc [] (Jt Nc.length none++dY σ js) H' s'/\tn i s'.heap/\(∀b∈fp,H' b=none)/\W i n H') ?_ m0
   ⟨0,H2',xT Ho c dW kH (Je _) N7 fo old hns1,T.keep _ _ _ pJ (fun b hb o e=>old b o (toG b o e)),fun b hb=>(N7 b hb).1,w0⟩
  refine fun n s3 hz_=>ai.el hz_ _ ?_;rintro i H3 I3 gK fr3 w3
  rcases turn i n H3 w3 with ⟨stop,qn⟩|⟨go,step⟩
  ·refine bh (T.done Xc rfl rfl rfl fN i _ s3 _ H3 oK I3 (lx fr3) gK stop) fun r s4 ⟨hr,I4⟩=>?_;subst hr;refine ai.el (I4.loc) _ ?_;rintro mC hmC _;have u:=I4.base;have zt:∀b∈fp,(b∈X.ex\/X.s₀.heap.objs.size<=b)/\b≠X.env.locals/\(∀x c,X.env.cells.lookup x=some c->c≠b)/\∀p∈X.pn++pins,p.1≠b:=fun b hb=>
    ⟨(f2 b hb).2.2.2.1,(f2 b hb).2.1,(f2 b hb).2.2.2.2.1,(f2 b hb).2.2.2.2.2⟩
   exact behind G.objs.size D mC H3 s4 (Ho.Ij I4.os u I4.bE I4.bare zt) hmC (Ho.eU (Je _) I4.free) qn
  ·refine bh (T.item Xc rfl rfl rfl fN i _ s3 _ H3 oK I3 (lx fr3) gK go) fun r s4 hz_=>ai.el hz_ _ fun u hr h4 =>?_;subst hr;refine bh h4 fun _ s5 hz_=>ai.el hz_ _ fun x H5 I5 r5 y5 dU fr5=>bh (hg cl G.objs.size s2' H2' fp s5 _ H5 x u _ (I5.pinned (lx fr5) (T.obj _ _ dU)) r5 (gk _ _ _ _ (step x H5 y5))) fun _ s6 hz_=>ai.el hz_ _ fun σ6 H6 I6 q6 kσ kl=>bh (DD cl G.objs.size s2' H2' fp s6 σ6 H6 _ I6 q6) fun b s7 hz_=>ai.el hz_ _ fun H7 I7 q7 =>?_;have later:∀{σ':St} {H':Hp} {s':KE},Inv Xc ([]++ib fp s5.heap) σ' H' s'->tn (i+1) s'.heap/\∀b∈fp,H' b=none:=fun{σ' H' s'} Iz=>by
    refine⟨T.keep _ _ _ dU fun b hb o e=>(Iz.pin (b,o) (Jz _ (Jz _ (df hb e)))).1,fun b hb=>ai.el (T.obj _ _ dU b hb) _ ?_⟩;rintro o e d;exact(Iz.pin (b,o) (Jz _ (Jz _ (df hb e)))).2.1
   have back:∀{pl:List (Gc×Obj)} {H':Hp} {s':KE},Inv Xc pl σ6 H' s'->Inv Xc pl (Jt Nc.length none++dY σ js) H' s':=fun{pl H' s'} Iz=>by
    refine Iz.weak (by rw[<-kl]) fun j v hj =>?_
    by_cases hn:j<Nc.length
    ·rw[Uo (by simpa using hn),Yq] at hj
     split at hj<;>cases hj
    ·rw[kσ j ⋯];exact hj
   cases b with
   | false=>
    rw[if_neg Jr] at q7 ⊢;refine ai.el (q7) _ ?_;rintro m' zC w7;obtain⟨l1,l2⟩:=later I7;exact⟨m',zC,i+1,H7,back I7.fw,l1,l2,w7⟩
   | true=>
    refine bh (L0 cl G.objs.size s2' H2' fp s7 σ6 H7 _ I7 q7) fun yv s8 hz_=>ai.el hz_ _ fun y H8 I8 r8 q8=>ai.el (q8) _ ?_;rintro ks k eD ey hl m' zC w9;subst ey;refine R4 (X:=Xc) I8 eD hl r8 fun _ Qy I10 =>?_;obtain⟨l1,l2⟩:=later I10;exact⟨m',zC,i+1,_,back I10.fw,l1,l2,w9⟩
 exact zk (loop _) (T.self _ 0 _ _ _ (T.keep _ _ _ pJ fun b hb o e=>old b o (toG b o e)) (loop _))
def xj {KT:Type}[DecidableEq KT](kv:qr X.prog X.w KT){ex tg iter:QaE}{ifs:List QaE}{scope:Qb1}{pos:Pos}{Nc Fc:List Str}{js:List Nat}{wi:TI}{g:TG}{tc:TT}{te:TE}
  (fN:X.calm=true) (c:gG X scope Nc Fc js) (hi:PI X tg iter wi) (gk:Gk Nc.length g)
  (hg:∀cl C s H fp,PG (mi X Nc Fc scope cl C s H fp) tg g) (DD:∀cl C s H fp,Mf (mi X Nc Fc scope cl C s H fp) ifs tc) (L0:∀cl C s H fp,PE (mi X Nc Fc scope cl C s H fp) ex te)
  (hs:∀x,Qbh iter X.env x=pure x:=by intro _;rfl) :
  PE X (.SetComp ex [⟨tg,iter,ifs,0⟩] scope pos) (Py kv wi Nc.length js g tc te):=
 fun pins s σ H Q I h=>Bt kv fN c hi hg DD L0 gk I h (fun C D m H2 s2 I2 hm hC q=>⟨m,hm,fun h' hs'=>⟨.ref D,_,I2.turned (fun b o hb e=>hs'.extBut b o hb e) hC.1 (hC.2.1) hC.2.2.2.1 hC.2.2.2.2.1 hC.2.2.2.2.2,rfl,q⟩⟩) hs
def Dd {KT:Type}[DecidableEq KT](kv:qr X.prog X.w KT):bK X (.builtin "len") (fun xs H Q=>∃a D,xs=[.ref a]/\H a=some (gO kv a D)/\Q (.int (D.length:Nat)) H):=by
 refine fun pins s σ H xs us Q I r h=>ai.el (h) _ ?_;rintro a D rfl ha q;refine ai.el (vals1 r) _ ?_;rintro u rfl ru;cases ru;obtain⟨o,es,ep,t,h1,h2,h3,h4,h5,h6,h7,h8⟩:=(show bC X.prog X.w H s.heap a (gO kv a D) from I.bE a _ ha).1.1;have hb:Qe9=4096:=rfl;refine call_len_set h1 h2 h3 h7 ⋯ ⟨.int (D.length:Nat),H,I.tok _,⟨_,by rw[h8]⟩,q⟩
def yr {KT:Type}[DecidableEq KT]{kv:qr P w KT}{J:It}{n:Nat}{js:List Nat}{g:TG}{tc:TT}{te:TE}{σ:St}{D:Gc}{H1:Hp}{fin:Hp->Prop}(N:Nat)(Pv:Nat->Hp->Prop)(h0:Pv 0 H1)
  (go:∀i H (Nx:Hp->Prop),i<N->Pv i H->(∀H',Pv (i+1) H'->Nx H')->J.go i H /\
   ∀x H',J.yld i H x H'->g x (Jt n none++dY σ js) H' fun σ2 H2=>tc σ2 H2 fun b H3=>if b=true then te σ2 H3 fun y H4=>∃ks k,H4 D=some (gO kv D ks)/\y=kv.v k/\ks.length<=4000/\Nx (upd H4 D (gO kv D (oneMore ks k))) else Nx H3)
  (stop:∀H,Pv N H->J.stop N H/\fin H):Gx kv J n js g tc te σ D H1 fin:=by
 refine⟨fun i m H=>m=N-i/\i<=N/\Pv i H,⟨N,by simp,Um _,h0⟩,(fun i m H hz_=>ai.el hz_ _ ?_)⟩;rintro rfl hi p
 by_cases iL:i<N
 ·obtain⟨g1,g2⟩:=go i H (fun H'=>∃m',m'<N-i/\(m'=N-(i+1)/\i+1<=N/\Pv (i+1) H')) iL p fun H' q=>⟨_,⋯,rfl,iL,q⟩
  exact .inr ⟨g1,fun x H' y=>g2 x H' y⟩
 ·have e:i=N:=by lia
  subst e;exact .inl (stop H p)
section
variable {X:Cx}
def uZ {x:Str}{z:Str}{t:Tok}{pos:Pos}(hg:Gl X x)(hm:X.mg x=some (.str z t))(hd:(x==("__debug__" : Str))=false:=by decide):PE X (.Name x pos) (tC (.str z)):=v9 (v := .str z) hg hm ⟨t,rfl⟩ hd
def kB {x:Str}{z:Int}{t:Tok}{pos:Pos}(hg:Gl X x)(hm:X.mg x=some (.int z t))(hd:(x==("__debug__" : Str))=false:=by decide):PE X (.Name x pos) (tC (.int z)):=v9 (v := .int z) hg hm ⟨t,rfl⟩ hd
end
def mq:∀{ss:List Str} {us:List Fk},StrsAre us ss->Vals (ss.map V.str) us:=by
 intro ss us h
 induction h with
 | nil=>exact .nil
 | cons _ _ _ ih=>exact .cons ⟨_,rfl⟩ ih
def i9:∀{ss:List Str} {us:List Fk},Vals (ss.map V.str) us->StrsAre us ss
 | [],_,.nil =>.nil
 | _::_,_,.cons ⟨_,e⟩ t=>by subst e;exact .cons _ _ (i9 t)
section
variable {X:Cx}(K:Ja)
def sortedS (hK:X.K=K:=by rfl):bK X (.builtin "sorted") (fun xs H Q=>∃p ss,xs=[.ref p]/\aX K H p (ss.map V.str)/\ss.length<64 /\
  ∀ms q H',ms.Perm ss->Qa5 ms=true->ju H q (.lst (ms.map V.str)) H'->Q (.ref q) H'):=by
 subst hK;intro pins s σ H xs us Q I r h;obtain⟨p,ss,rfl,hq,hl,q⟩:=h;obtain⟨u,rfl,ru⟩:=vals1 r;cases ru;obtain⟨aA,rv,pl,hz⟩:=I.list hq;have hn:aA.length=ss.length:=by have:=rv.length;rw[Jc] at this;exact this.symm
 refine sorted_strs pl.isList (i9 rv) ⋯ fun out ms a1 a2 a3 =>?_;obtain⟨e,he⟩:=sortedAll_at s.heap aA out;have hm:=a2.length_eq;refine⟨.ref (s.heap.objs.size+1),_,I.laid (o := .lst (ms.map V.str)) (fun _ _=>sortedAll_old) (Yx _) ⟨?_,out.toList,e,(mq a1),?_⟩,rfl,q ms _ _ a2 a3 ⟨I.bE.fresh (Yx _),rfl⟩⟩
 ·rw[Jc];exact Jg (show ms.length<=64 by lia) ∅
 ·simpa [QcB] using he
end
def CV {X:Cx}{st:QdM}:PS X st (fun _ _ _=>False):=by
 intro pins s σ H D I h;exact h.elim
section
variable {X:Cx}
def qC:∀{xs:List V} {us:List Fk} (j:Nat),Vals xs us->Vals (xs.eraseIdx j) (us.eraseIdx j)
 | _,_,_,.nil=>by simp;exact .nil
 | _,_,0,.cons _ t=>by simpa using t
 | _,_,j+1,.cons h t=>by simpa using .cons h (qC j t)
end
def PE.weak (h:PE X e t)(w:∀ σ H Q,t' σ H Q->t σ H Q):PE X e t':=fun _ s σ H Q I q=>h s σ H Q I (w σ H Q q)
def PA.weak (h:PA X es t)(w:∀ σ H Q,t' σ H Q->t σ H Q):PA X es t':=fun _ _ s σ H Q I q=>h s σ H Q I (w σ H Q q)
def newOf (H H':Hp):Hp:=fun a=>match H a with
 | none=>H' a
 | some _=>none
def lA (h:H a=none):newOf H H' a=H' a:=by unfold newOf;rw[h]
def j6 (h:newOf H H' a=some o):H a=none/\H' a=some o:=by
 unfold newOf at h;cases e:H a with
 | none=>rw[e] at h;exact⟨rfl,h⟩
 | some u=>rw[e] at h;cases h
def FX:ak (newOf H H') H':=fun _ _ h=>(j6 h).2
def sH {H H1 H2:Hp}(s:ak H1 H2):ak (newOf H H1) (newOf H H2):=fun a o h=>by
 rw[lA (j6 h).1];exact s a o (j6 h).2
def zD (s:ak H H1):ak (newOf H1 H2) (newOf H H2):=fun a o h=>by
 rw[lA (s.free (j6 h).1)];exact(j6 h).2
def NS (K:Ja)(d:Qac):TE:=fun _ H Q=>∀v H',ak H H'->Den K (newOf H H') d v->Q v H'
def Cu (K:Ja)(ds:List Qac):TA:=fun _ H Q=>∀vs H',ak H H'->aI K (newOf H H') ds vs->Q vs H'
section
variable {X:Cx}{K:Ja}
def lit_int:PE X (.Constant (.int i) j pos) (NS K (.int i)):=ah.weak fun σ H Q h=>h _ H (ak.refl _) (by unfold Den;rfl)
def GC:PA X [] (Cu K []):=ae.weak fun σ H Q h=>h [] H (ak.refl _) (by unfold aI;rfl)
def eR {d:Qac}{ds:List Qac}(h:PE X e (NS K d))(hs:PA X es (Cu K ds))(nH:Qaj (e::es) X.env=(false,QaR e X.env)::Qaj es X.env:=by rfl):PA X (e::es) (Cu K (d::ds)):=
 (aa h hs nH).weak fun σ H Q q v H1 s1 d1 vs H2 s2 d2=>q (v::vs) H2 (s1.trans s2) (by
  exact⟨v,vs,rfl,d1.same (sH s2),d2.same (zD s1)⟩)
def B0:∀{ds:List Qac} {vs:List V},aI K H ds vs->vs.length=ds.length
 | [],_,h=>by unfold aI at h;subst h;rfl
 | d::ds,vs,h=>by
  obtain⟨v,r,rfl,h1,h2⟩:=h;rw[Jq,Jq,B0 h2]
def L5 (h:PA X es (Cu K ds))(hl:ds.length<=1000:=by decide):PE X (.List es pos) (NS K (.list ds)):=
 (gL h).weak fun σ H Q q vs H1 s1 d1=>⟨Jg (by rw[B0 d1];exact hl) (show 1000<=M2 by decide),fun p H' n=>q _ _ (s1.trans n.same) (by
  exact⟨p,vs,rfl,aX.of (by rw[lA (s1.free n.nn)];exact n.at),d1.same (sH n.same)⟩)⟩
end
structure MT (K:Ja)(w:Qag)(a:Gc):Prop where
 ex:∃es n,K.lookup a=some ⟨.type "dict",none,.dict es n,#[]⟩/\Qc8 w.params es.toList
def SI (K:Ja)(w:Qag)(td ty:TE):TE:=fun σ H Q=>td σ H fun x H1=>ty σ H1 fun y H2=>∃a k u v,x = .ref a/\y = .str k/\MT K w a/\Jh K a k=some (some u)/\RelV v u/\Q v H2
section
variable {X:Cx}{o i:QaE}{td ty:TE}{pos:Pos}
def C3 (K:Ja)(w:Qag)(ho:PE X o td)(hi:PE X i ty)(hs:PN i)(hK:X.K=K:=by rfl)(hw:X.w=w:=by rfl):PE X (.Subscript o i pos) (SI K w td ty):=by
 subst hK hw;refine fun pins s σ H Q I h=>Cy PySem.F.slot_dict_getitem.lookup hs (bh (ho s σ H _ I h) fun u s1 hz_=>ai.el hz_ _ fun x H1 I1 rx q1=>bh (hi s1 σ H1 _ I1 q1) fun iv s2 hz_=>ai.el hz_ _ ?_);rintro y H2 I2 ry ⟨a,k,u',v,ex,ey,cd,e,rv,q2⟩;subst ex ey;obtain rfl:u=Qap a:=rx;obtain⟨t,rfl⟩:=ry;obtain⟨es,n,hl,hk⟩:=cd.ex;have hm:=PySem.W.mapOf_K (prog:=X.prog) I2.kc hl hk;exact⟨hm.typeIs,wpAny_getItem_of (strKind_is X.prog X.w k t) hm (PySem.W.find_K hl e) ⟨v,H2,I2.tok _,rv,q2⟩⟩
end
section
variable {X:Cx}
def Ra (K:Ja):V->Option Int->Option Int->Hp->VK->Prop:=fun x lo hi H Q=>eM fun a xs=>x = .ref a/\bg K H a xs /\
 ¬(HT.eg xs.length 0 lo=0/\HT.eg xs.length xs.length hi=xs.length)/\∀p H',ju H p (.tup (kL xs lo hi)) H'->Q (.ref p) H'
def OO (K:Ja)(hK:X.K=K:=by rfl):FN X (Ra K):=by
 subst hK;refine fun pins s σ H x v vl vu lo hi sl Q I rx hs pl pu q=>OY s σ H x v vl vu lo hi sl Q I rx hs pl pu ?_;obtain⟨a,xs,e,h,nw,q⟩:=q;exact⟨a,xs,e,h,nw,fun p hp=>q p _ ⟨hp,rfl⟩⟩
end
def dX {K:Ja}{a:Gc}{aA:List Fk}{n:Nat}{sl:Array (Option Fk)}{xs:List V}(h:K.lookup a=some ⟨.type "tuple",none,.seq aA.toArray n,sl⟩)(hv:Vals xs aA)(hz:xs.length<=1000)(H:Hp):bg K H a xs:=
 .inr ⟨_,aA.toArray,n,h,rfl,rfl,rfl,Jg (by rw[Jy,<-hv.length];exact hz) (show 1000<=M2 by decide),by simpa using hv⟩
def Li (r:dH k A):A.units+66<Qdh:=by have:=r.un;lia
def AW {k:Nat}{x:Str}{ps:List Str}{sp:Sp}{p pos:Pos}(F:Fn X.prog X.w X.K X.mg X.base k x ps sp)(hr:dH k X.A)(hg:Gl X x)(vW:(x==("__debug__" : Str))=false:=by decide):
  PE X (.Call (.Name x p) [] [] pos) (tf sp [] E0 GH):=by
 obtain⟨f,fd,a,b,c,d⟩:=F.ex;exact G8 a hr hg d c b .nil oP vW
abbrev eO:List Fk:=[.type "ValueError",.type "Exception",.type "BaseException",.type "object"]
structure sN (K:Frag)(C:Gc)(f:Str):Prop where
 sa:findIn K (.ref C) "__setattr__" = some (some (.builtin "object.__setattr__"))
 na:findIn K (.ref C) f=some none
 mo:mroIn K C (.type "object")=some true
 cl:∃cd D,clsIn K C=some cd/\cd.mro = .ref C :: .ref D::eO/\cd.hasDict=true
def Raw (o:Obj):Prop:=∃t,o.data = .fields #[.ref t,.none,.none,.none,.bool false,.none]
def Raw.nc (h:Raw o):notCls o=true:=by
 obtain⟨_,_,dt,_⟩:=o;obtain⟨t,h⟩:=h;cases h;rfl
def xW (e C:Gc):HO := .ext fun h=>∃o,h.get? e=some o/\o.cls = .ref C/\o.dict=none/\Raw o
def Dv (e C dx:Gc):HO := .ext fun h=>∃o,h.get? e=some o/\o.cls = .ref C/\o.dict=some dx/\Raw o
section
variable {prog:Qaf}{w:Qag}{A:Qax}{K:Frag}{C e:Gc}{s:KE}{E:Fk->KE->Prop}{f:Str}{v:Fk}
def E8 (X:K.In s.heap)(O:sN K C f)(hx:s.heap.get? e=some o)(hc:o.cls = .ref C)(hd:o.dict=none)(hn:notCls o=true)
  (k:∀h' tk,h'.get? e=some { o with dict:=some s.heap.objs.size } -> h'.Ns1 s.heap.objs.size (fun y=>if y=f then some v else none)->(∀b ob,b≠e->s.heap.get? b=some ob->h'.get? b=some ob)->Q () { s with heap:=h',toks:=tk }) :
  Qaa (Qab prog w) A (setAttr (.ref e) f v) Q E s:=by
 have J:InstAt s.heap e o C none:=⟨hx,hc,hn,by rw[hd];trivial⟩
 refine ai.el (O.cl) _ ?_;rintro cd D c1 c2 c3;have SF:=PySem.F.store_object;have Vx:Looks (Qab prog w) s.heap (mroOf (.ref C)) cd.mro:=(looks_clsIn X c1).andThen .now;refine set_plain X J O.sa (QcJ SF.slot.plain SF.entry (@check_slot (Qab prog w) _ _ { s with toks:=s.toks+1 } "object.__setattr__" "object" "__setattr__" (.ref e) [.str f s.toks,v] [] _ SF.kind SF.split (J.type.andThen (looks_mroIn X O.mo)) (SF.args (.ref e) (.str f s.toks) v) ?_));rw[osa_eq,refuse_eq];refine be (be (J.type.here (s:={ s with toks:=s.toks+1 }) (be (Vx.here (s:={ s with toks:=s.toks+1 }) ?_))));rw[c2,refuseLoop_ref,refuseLoop_ref,PySem.F.store_ValueError.passes];refine tz (be (J.type.here (s:={ s with toks:=s.toks+1 }) (be ((looks_findIn X O.na).here (s:={ s with toks:=s.toks+1 }) (be (tz ?_))))));obtain⟨oc,od,odt,Dn⟩:=o;subst hc hd;have Fw:=Jo (Jf hx);refine be (tz (be (be (wpAny_loadPart hx (be ((looks_clsIn X c1).here (s:={ s with toks:=s.toks+1 }) ?_))))));rw[c3];dsimp only;rw[if_neg ∅,if_neg (by simp[typeHasDict])]
 split
 ·rename_i c;exact absurd hn (by simp[notCls])
 have UH:(s.heap.push { cls := .type "dict",data := .dict #[] }).get? e=some ⟨.ref C,none,odt,Dn⟩:=Jb _ hx;refine be (wpAny_alloc' (be (wpAny_update' UH (tz ?_))));obtain⟨G,hG⟩:∃G,G=(s.heap.push { cls := .type "dict",data := .dict #[] }).update e fun o=>{ cls:=o.cls,dict:=some s.heap.objs.size,data:=o.data,slots:=o.slots }:=⟨_,rfl⟩
 have gd:G.get? s.heap.objs.size=some { cls := .type "dict",data := .dict #[] }:=by
  rw[hG];exact(Heap.get?_update_ne _ _ _ _ Fw.symm).trans (Heap.get?_push_at rfl rfl)
 have ge:G.get? e=some ⟨.ref C,some s.heap.objs.size,odt,Dn⟩:=by
  rw[hG];refine J4 _ UH ?_;cases odt<;>first|rfl|exact(Heap.get?_some_iff.mp hx).2
 have go:∀b ob,b≠e->s.heap.get? b=some ob->G.get? b=some ob:=fun b ob nb q=>by
  rw[hG];exact(Heap.get?_update_ne _ _ _ _ nb).trans (Jb _ q)
 rw[<-hG];refine be (tz (be (wpAny_nsSet1 (QfZ ⟨_,#[],_,gd,rfl,(fun a ha=>absurd ha (by simp)),fun _=>rfl⟩) fun h2 ns2 sb=>ai.el (ns2.count (Within.cons f v Within.nil)) _ ?_)));rintro oD eD pD hoD dD cD;refine be (wpAny_lookBehind hoD ?_ ?_)
 ·rw[dD];refine pastItsLine_dict (Jg cD ?_);rw[Jq,U8,Qdg];lia
 exact tz (k h2 _ ((sb.2 e Fw).trans ge) ns2 fun b ob nb q=>(sb.2 b (Jo (Jf q))).trans (go b ob nb q))
end
section
variable {prog:Qaf}{w:Qag}{A:Qax}{E:Fk->KE->Prop}{h0:Heap}{g0:Array QeT}{d0:Drawn}{t0:Nat}{UR:OsState}{nm qn:Str}{C N fi:Gc}{bs up tail:List Fk}{hdct:Bool}{sn:List Str}{sub:List Fk}{ab:Bool}
 {col:Option Bool} {dd:Option Gc} {k0 k1 k2 k3 k5:Option Fk} {B newId JS:String}
def DP (FB:ExcBaseFacts B newId JS tail)(TL:OwnTail h0 tail up){vs:List Fk}{oi:Obj}{Q:Fin->KE->Prop}
  (Aj:h0.get? C=some (QbJ nm qn C N bs up hdct sn sub ab col dd k0 k1 k2 k3 k5 newId)) (jv:∀h1,(∀b o,h0.get? b=some o->h1.get? b=some o)->Looks (Qab prog w) h1 (Qbs (.ref C) "__init__") (some (.ref fi))) (Xl:h0.get? fi=some oi) (Xi:oi.cls = .type "function") (fit:vs.length<=M2)
  (run:∀h' e,Qe5 h0 h' e (.ref C) vs->Qaa (Qab prog w) A (call (.ref fi) (.ref e::vs)) (fun r s'=>r = .none/\Q (.done (.ret (.ref e))) s') E ⟨h',g0,d0,t0,UR⟩) :
  Qaa (Qab prog w) A (Builtin.«type.__call__» ⟨.ref C::vs,[]⟩) Q E ⟨h0,g0,d0,t0,UR⟩:=by
 repeat (first
  | with_reducible refine Qcs Aj ?_
  | with_reducible refine wpAny_madeBy_exc Aj ?_
  | wp_step)
 refine codeAny_call_builtin_code (Qd4 _ FB.quiet) (wpAny_check_new_subT FB TL Aj (codeAny_exc_new_subT FB TL Aj ?_ fit));obtain⟨H1,e1⟩:∃H1,H1=(h0.push { cls := .type "tuple",data := .seq vs.toArray }).push { cls := .ref C,data := .fields #[.ref h0.objs.size,.none,.none,.none,.bool false,.none] }:=⟨_,rfl⟩
 have kp:∀b o,h0.get? b=some o->H1.get? b=some o:=fun b o z=>by
  rw[e1];exact Jb _ (Jb _ z)
 have me:H1.get? (h0.objs.size+1)=some { cls := .ref C,data := .fields #[.ref h0.objs.size,.none,.none,.none,.bool false,.none] }:=by
  rw[e1]
  heap_get
 have mt:H1.get? h0.objs.size=some { cls := .type "tuple",data := .seq vs.toArray }:=by
  rw[e1];exact Jb _ (Heap.get?_push_at rfl rfl)
 rw[<-e1];have self:(Qap C::up).contains (.ref C)=true:=by simp
 repeat (first
  | with_reducible refine Qcs me ?_
  | (with_reducible refine wpAny_isSubtype_exc (kp _ _ Aj) ?_;rw[self])
  | wp_step)
 refine(jv H1 kp).at (Qak (be (be (QaX ⟨_,kp _ _ Xl,Xi⟩ (tz (be (Qbr (run H1 _ ⟨kp,QdJ (Yx _),h0.objs.size,me,QdJ (Je _),mt⟩) (fun r s' hr =>?_) fun _ _ x=>x)))))));obtain⟨rfl,q⟩:=hr
 wp_walk
 exact q
def Rr (FB:ExcBaseFacts B newId JS tail)(TL:OwnTail h0 tail up){vs:List Fk}{oi:Obj}{Q:Fk->KE->Prop}
  (Aj:h0.get? C=some (QbJ nm qn C N bs up hdct sn sub ab col dd k0 k1 k2 k3 k5 newId)) (jv:∀h1,(∀b o,h0.get? b=some o->h1.get? b=some o)->Looks (Qab prog w) h1 (Qbs (.ref C) "__init__") (some (.ref fi))) (Xl:h0.get? fi=some oi) (Xi:oi.cls = .type "function") (fit:vs.length<=M2)
  (run:∀h' e,Qe5 h0 h' e (.ref C) vs->Qaa (Qab prog w) (A.under (.builtin "type.__call__" ⟨.ref C::vs,[]⟩)) (call (.ref fi) (.ref e::vs)) (fun r s'=>r = .none/\Q (.ref e) s') E ⟨h',g0,d0,t0,UR⟩) :
  Qaa (Qab prog w) A (call (.ref C) vs) Q E ⟨h0,g0,d0,t0,UR⟩:=by
 have b1:=tc_lookup;have b2:=tc_bind (.ref C);refine QfI (codeAny_of_tree ?_)
 repeat (any_goals (first
  | assumption
  | with_reducible refine Qcs Aj ?_
  | wp_step))
 exact⟨rfl,codeAny_call_builtin_at (Qd4 _ ∅) entry_typeCall (wpAny_check_type_call_sub Aj (DP FB TL Aj jv Xl Xi fit fun h' e m=>run h' e m))⟩
end
section
variable {X:Cx}{pins:List (Gc×Obj)}{σ:St}{H:Hp}{s:KE}{e C:Gc}
def Ld {H:Hp}{h:Heap}{o:Obj}(h1:h.get? e=some o)(h2:o.cls = .ref C)(h3:o.dict=none)(h4:Raw o):bC P w H h e (xW e C):=
 ⟨⟨o,h1,h2,h3,h4⟩,⟨o,h1⟩,fun a b ⟨o,e1,r⟩ k=>⟨o,k _ e1,r⟩⟩
def K6 {H:Hp}{h:Heap}{o:Obj}{dx:Gc}(h1:h.get? e=some o)(h2:o.cls = .ref C)(h3:o.dict=some dx)(h4:Raw o):bC P w H h e (Dv e C dx):=
 ⟨⟨o,h1,h2,h3,h4⟩,⟨o,h1⟩,fun a b ⟨o,e1,r⟩ k=>⟨o,k _ e1,r⟩⟩
def Inv.noObj (I:Inv X pins σ H s)(h:s.heap.get? e=none):H e=none:=by
 cases z:H e with
 | none=>rfl
 | some o=>obtain⟨q,hq⟩:=(I.bE e o z).ex;rw[hq] at h;cases h
def Inv.Rm (I:Inv X pins σ H s)(m:Qe5 s.heap h' e (.ref C) us)(hex:X.ex=[]):Inv X pins σ (upd H e (xW e C)) { s with heap:=h',toks:=tk }:=by
 obtain⟨k,ne,t0,me,nt,mt⟩:=m;have I2:Inv X pins σ H { s with heap:=h',toks:=tk }:=I.kept k;have hs:∀b o,s.heap.get? b=some o->b≠e:=fun b o q z=>by rw[z,ne] at q;cases q
 refine I2.JO (I.noObj ne) (fun z =>?_) (fun x c q =>?_) (fun p hp =>?_) (fun b u q =>?_) (Ld me rfl rfl ⟨_,rfl⟩)
 ·obtain⟨m,⟨oL,_,_,q,_⟩,_⟩:=I.loc;exact hs _ _ q z.symm
 ·obtain⟨v,o,e1,_⟩:=I.cell x c q;exact hs _ _ e1
 ·exact hs _ _ (I.pin p hp).1
 ·obtain⟨o',q'⟩:=I.base.there b u q (by rw[hex];exact nofun);exact hs _ _ q'
structure Pu (K:Frag)(C fi:Gc):Prop where
 cl:∃nm qn N bs D hdct sn sub ab col dd k0 k1 k2 k3 k5,K.lookup C=some (QbJ nm qn C N bs (.ref D::eO) hdct sn sub ab col dd k0 k1 k2 k3 k5 "ValueError.__new__")/\∀h:Heap,K.In h->OwnTail h eO (.ref D::eO)
 ini:findIn K (.ref C) "__init__" = some (some (.ref fi))
 fn:∃oi:Obj,K.lookup fi=some oi/\oi.cls = .type "function"
 kp:keepIn K (.ref C)=true
def IZ (C:Gc)(sp:Sp)(t:TA):TE:=fun σ H Q=>t σ H fun vs H1=>vs.length<=1000/\∀e,H1 e=none->sp (.ref e::vs) (upd H1 e (xW e C)) (fun v H2=>v = .non/\Q (.ref e) H2) E0
def E3 {fi:Gc}{fd:Qad}{ps:List Str}{sp:Sp}{Q:VK}{us:List Fk}{vs:List V}(M:Pu X.K C fi)(F:aW X.prog X.w X.K X.mg X.base d6 k fi fd ps sp)(hr:dH (k+1) X.A)(hb:Binds X.K fd ps [])(hex:X.ex=[])
  (I:Inv X pins σ H s) (r:Vals vs us) (hl:vs.length<=1000) (h:∀e,H e=none->sp (.ref e::vs) (upd H e (xW e C)) (fun v H2=>v = .non/\Q (.ref e) H2) E0):Qaa (Qab X.prog X.w) X.A (call (.ref C) us) (EP X pins σ Q) X.xe s:=by
 refine ai.el (M.cl) _ ?_;rintro nm qn N bs D hdct sn sub ab col dd k0 k1 k2 k3 k5 lk TL;refine ai.el (M.fn) _ ?_;rintro oi l2 ft;have Bc:=I.kc;refine Rr PySem.F.excBase_ValueError (TL _ Bc) (Bc _ _ lk) (fun h1 kp=>looks_findIn (fun a o z=>kp a o (Bc a o z)) M.ini) (Bc _ _ l2) ft (by rw[<-r.length];exact Jg hl ∅) fun h' e m =>?_;have I2:Inv X pins σ (upd H e (xW e C)) { s with heap:=h',toks:=s.toks }:=I.Rm m hex;have hq:=h e (I.noObj m.2);have r2:Vals (V.ref e::vs) (Qap e::us) := .cons rfl r;have UK:=hb { s with heap:=h',toks:=s.toks } (Qap e::us) I2.kc (by rw[Yg];exact(by rw[<-r2.length];exact F.len _ _ _ _ hq));rw[Yg] at UK;refine QfI (Qc0 (F.run _ X.stack { s with heap:=h',toks:=s.toks } _ ⟨Qap e::us,[]⟩ (Qap e::us) _ _ E0 (hr.make C us []) (I2.Ng.make C us []) UK r2 hq) fun rr s' hq' =>?_);cases rr with
 | error x=>exact hq'.elim
 | ok fl=>
  cases fl with
  | ret u=>
   obtain⟨v,H',I3,rv,ev,q3⟩:=I2.after hq';subst ev;exact⟨rv,⟨V.ref e,H',I3,rfl,q3⟩⟩
  | next=>exact hq'.elim
  | brk=>exact hq'.elim
  | cont=>exact hq'.elim
def FR {fi:Gc}{fd:Qad}{ps:List Str}{sp:Sp}{x:Str}{p pos:Pos}{a:QaE}{as:List QaE}{t:TA}(M:Pu X.K C fi)(F:aW X.prog X.w X.K X.mg X.base d6 k fi fd ps sp)(hr:dH (k+1) X.A)(hg:Gl X x)(hm:X.mg x=some (.ref C))
  (hb:Binds X.K fd ps []) (ha:PA X (a::as) t) (hex:X.ex=[]:=by rfl) (vW:(x==("__debug__" : Str))=false:=by decide) (he:Qaj (a::as) X.env=(false,QaR a X.env)::Qaj as X.env:=by rfl) (sj:(Qcu pos (Qaj as X.env)).any (·.1)=false:=by rfl) :
  PE X (.Call (.Name x p) (a::as) [] pos) (IZ C sp t):=
 fun pins s σ H Q I h=>QaS (mr I hg hm (QcE I.ok.mod.Bc M.kp (bh (ha s σ H _ I h) fun us s1 hz_=>ai.el hz_ _ fun vs H1 I1 r q=>⟨I1.kc,(E3 M F hr hb hex I1 r q.1 q.2)⟩) he sj) vW)
def Sq (K:Frag)(to tv:TE)(f:Str):TS:=fun D σ H=>tv σ H fun v H1=>to σ H1 fun x H2=>∃e C,x = .ref e/\H2 e=some (xW e C)/\sN K C f/\∀dx,H2 dx=none->dx≠e->D.nx σ (upd (upd H2 e (Dv e C dx)) dx (.xd [(f,v)]))
def CU {to tv:TE}{pos pos':Pos}(ho:PE X o to)(hv:PE X value tv)(hs:Qeb value (some (.Attribute o f pos')) pos.line X.env=pure false):PS X (.Assign [.Attribute o f pos'] value pos) (Sq X.K to tv f):=by
 refine fun pins s σ H D I h=>QeY (bh (hv s σ H _ I h) fun u s1 ⟨v,H1,I1,ru,q⟩=>bh (ho s1 σ H1 _ I1 q) fun ov s2 ⟨x,H2,I2,rx,e,C,ex,ee,S,q2⟩=>?_) hs;subst ex;obtain rfl:ov=Qap e:=rx;obtain⟨ob,b1,b2,b3,b4⟩:=(show bC X.prog X.w H2 s2.heap e (xW e C) from I2.bE e _ ee).1;have Fw:=Jo (Jf b1);refine E8 I2.kc S b1 b2 b3 b4.nc fun h' tk a1 a2 a3 =>?_;have I3:Inv X pins σ (upd H2 e (Dv e C s2.heap.objs.size)) { s2 with heap:=h',toks:=tk }:=I2.write (by rw[ee];exact QaO) (.inl rfl) a3 ⟨_,a1⟩ (K6 a1 b2 rfl b4);have hd:=I2.bE.fresh (Je _);have fp:=I2.eU (Je _) hd;refine⟨σ,_,?_,q2 _ hd Fw.symm⟩;refine I3.JO (by rw[ao Fw.symm];exact hd) fp.2.1 fp.2.2.2.2.1 fp.2.2.2.2.2 (fun b u q z =>?_) ⟨_,a2,fun g =>?_⟩
 ·have:=Jf q;rw[z] at this;exact absurd (Jx this I2.sz) (Ue _)
 ·show jZ (We g [(f,v)]) (if g=f then some u else none)
  by_cases z:g=f
  ·rw[if_pos z,z,List.lookup_cons_self];exact ru
  ·rw[if_neg z];have:We g [(f,v)]=none:=by
    rw[Uk];have:(g==f)=false:=by simpa using z
    rw[this];rfl
   rw[this];trivial
end
section
variable {K:Frag}{C D N:Gc}{nm qn:Str}{bs up:List Fk}{hdct:Bool}{sn:List Str}{sub:List Fk}{ab:Bool}{col:Option Bool}{dd:Option Gc}{k0 k1 k2 k3 k5:Option Fk}
def DG (lk:K.lookup C=some (QbJ nm qn C N bs up hdct sn sub ab col dd k0 k1 k2 k3 k5 "ValueError.__new__"))(made:excIn K C eO "ValueError.__new__" = true):nsOkIn K N=true/\nsIn K N "__init__" = some none:=by
 have h:(C==C && "ValueError.__new__" == "ValueError.__new__" && !false&&tailIn K eO up&&nsOkIn K N&&nsIn K N "__init__" == some none)=true:=by
  unfold excIn at made;rw[lk] at made;exact made
 have h1:=Bool.and_eq_true_iff.mp h;exact⟨(Bool.and_eq_true_iff.mp h1.1).2,beq_iff_eq.mp h1.2⟩
def xo (lk:K.lookup C=some (QbJ nm qn C N bs eO hdct sn sub ab col dd k0 k1 k2 k3 k5 "ValueError.__new__"))(made:excIn K C eO "ValueError.__new__" = true)(h:Heap)(Bc:K.In h):OwnTail h eO (.ref C::eO):=by
 obtain⟨a,b⟩:=DG lk made;exact .own (Bc _ _ lk) (.of_isNs (isNs_of_in Bc a)) (nsMap_none_of_in Bc a b) .base
def yW (lk:K.lookup C=some (QbJ nm qn C N bs (.ref D::eO) true sn sub ab col dd k0 k1 k2 k3 k5 "ValueError.__new__"))(sa:findIn K (.ref C) "__setattr__" = some (some (.builtin "object.__setattr__")))(na:findIn K (.ref C) f=some none)
  (mo:mroIn K C (.type "object")=some true):sN K C f:=by
 refine⟨sa,na,mo,⟨{ name:=nm,bases:=bs,mro := .ref C :: .ref D::eO,ns:=N,qualname:=qn,hasDict:=true,slotNames:=sn,subclasses:=sub,abstract:=ab,collection:=col,hasDel:=false },D,?_,rfl,rfl⟩⟩;unfold clsIn;rw[lk]
end
structure Ck (K:Ja)(P:Qaf)(w:Qag)(a:Gc)(es:Array QdC)(n:Nat)(kvs:List (Str×Fk)):Prop where
 l:K.lookup a=some ⟨.type "dict",none,.dict es n,#[]⟩
 k:Qc8 w.params es.toList
 p:Pairs (QdS P w) es.toList kvs
 nd:(kvs.map (·.1)).Nodup
 ns:(a==QbM)=false
def Ck.at {K:Ja}{P:Qaf}{w:Qag}{a:Gc}{es:Array QdC}{n:Nat}{kvs:List (Str×Fk)}{h:Heap}(D:Ck K P w a es n kvs)(X:K.In h):h.DictAt (QdS P w) a kvs n:=
 ⟨_,es,X _ _ D.l,⟨rfl,rfl,rfl⟩,rfl,fun e he=>by
  obtain⟨x,t,e1,e2⟩:=D.k.all e (Array.mem_toList_iff.mpr he);exact⟨x,by rw[e1];exact strKind_is P w x t,e2⟩,D.p,D.nd⟩
def RA:Kc X "int.bit_length" (fun x vs H Q=>∃a,x = .int a/\vs=[]/\Q (.int ((QbA a:Nat):Int)) H):=by
 intro pins s σ H x vs v us Q I rx rv h;obtain⟨a,rfl,rfl,q⟩:=h;obtain⟨t,rfl⟩:=rx;cases rv;exact call_gives Qep (QfJ _ _ _) PySem.F.entry_int_bit_length (PySem.F.args_int_bit_length_1 _) (PySem.AutoIntG2.int_bit_length_int_0 a t) ⟨.int _,H,I.tok _,⟨_,rfl⟩,q⟩
structure Bh (h:Heap)(S it d:Gc)(i n ep:Nat):Prop where
 ex:∃(x0:Fk) (f:Bool) (ok ov:Fk),h.get? it=some { cls := .type "dict_itemiterator",dict:=none,data := .fields #[x0,.bool f,.ref d,.int i 0,.int n 0,.int ep 0,ok,ov],slots := #[] } /\ (x0 = .none\/∃(a:Gc) (oa:Obj),x0=QaV a/\h.get? a=some oa/\a≠it/\a≠S)
section
variable {prog:Qaf}{w:Qag}{K:Type}[DecidableEq K]{knd:KeyKind prog w K}{A:Qax}{E:Fk->KE->Prop}{s:KE}
def EB (st:Bh s.heap S it d i n ep)(hS:S<s.heap.objs.size)
  (q:∀h',Bh h' S it d i n ep->h'.get? s.heap.objs.size=some { cls := .type "tuple",data := .seq #[key,val] } -> h'.objs.size=s.heap.objs.size+1->(∀b o,b≠it->s.heap.get? b=some o->h'.get? b=some o)->Q (.ref s.heap.objs.size) { s with heap:=h' }) :
  Qaa (Qab prog w) A (Builtin.Dict_items.pairFromOwner (.ref it) 6 key val) Q E s:=by
 obtain⟨⟨x0,f,ok,ov,e,hx0⟩⟩:=st;have low:=Jf e;refine be (Qcr ?_);obtain⟨h2,eh2⟩:∃h2,h2=s.heap.push { cls := .type "tuple",data := .seq #[key,val] }:=⟨_,rfl⟩
 have t2:h2.get? s.heap.objs.size=some { cls := .type "tuple",data := .seq #[key,val] }:=by rw[eh2];exact Ji _ rfl
 have z2:h2.objs.size=s.heap.objs.size+1:=by rw[eh2,Ua]
 have k2:∀b o,s.heap.get? b=some o->h2.get? b=some o:=fun b o x=>by rw[eh2];exact Jb _ x
 have e2:=k2 _ _ e;rw[<-eh2];refine be ?_
 rcases hx0 with rfl|⟨a,oa,rfl,ha,na,nS⟩
 ·refine be (Qai e2 rfl rfl (tz ?_));refine be (Qai e2 rfl rfl (be (Qai e2 rfl rfl (be (Qah e2 (by simp) fun h3 e3 s3=>be (Qah e3 (by simp) fun h4 e4 s4=>be (Qah e4 (by simp) fun h5 e5 s5=>be (Qah e5 (by simp) fun h6 e6 s6 =>?_))))))));have kk:=fun b o nb x=>s6.extBut b o nb (s5.extBut b o nb (s4.extBut b o nb (s3.extBut b o nb x)));have t6:=kk _ _ (Ug low) t2;exact be (Qcj (tz (q h6 ⟨_,_,_,_,e6,.inr ⟨_,_,rfl,t6,Ug low,Ug hS⟩⟩ t6 (by rw[s6.1,s5.1,s4.1,s3.1];exact z2) fun b o nb x=>kk b o nb (k2 b o x))))
 ·refine be (Qai e2 rfl rfl ?_);refine be (Qf4 (k2 _ _ ha) (be (Qai e2 rfl rfl ?_)));cases f
  ·refine be (Qah e2 (by simp) fun h3 e3 s3=>tz ?_);exact tz (q h3 ⟨_,_,_,_,e3,.inr ⟨a,oa,rfl,s3.extBut _ _ na (k2 _ _ ha),na,nS⟩⟩ (s3.extBut _ _ (Ug low) t2) (by rw[s3.1];exact z2) fun b o nb x=>s3.extBut b o nb (k2 b o x))
  ·refine tz ?_;exact tz (q h2 ⟨_,_,_,_,e2,.inr ⟨a,oa,rfl,k2 _ _ ha,na,nS⟩⟩ t2 z2 fun b o nb x=>k2 b o x)
def AU (yy:Bh s.heap S it d i kvs.length ep)(hS:S<s.heap.objs.size)
  (hm:s.heap.DictAt knd d kvs ep) (hx:kvs[i]? = some (k,v))
  (hQ:∀key h',knd.is k key=true->Bh h' S it d (i+1) kvs.length ep->h'.get? s.heap.objs.size=some { cls := .type "tuple",data := .seq #[key,v] } -> h'.objs.size=s.heap.objs.size+1 ->
   (∀b o,b≠it->s.heap.get? b=some o->h'.get? b=some o)->Q (some (.ref s.heap.objs.size)) { s with heap:=h' }) :
  Qaa (Qab prog w) A (QbS (.ref it)) Q E s:=by
 obtain⟨⟨x0,f,ok,ov,e,hx0⟩⟩:=yy;obtain⟨od,es,hod,zA,hdd,hk,Le,hn⟩:=id hm;have hT:s.TypeIs (.ref it) "dict_itemiterator":=⟨_,e,rfl⟩
 have hsz:es.size=kvs.length:=by rw[<-Le.length];simp
 have iL:i<es.size:=by rw[hsz];exact(Jm.mp hx).1
 obtain⟨hkey,hval⟩:=Le.get? (e:=es[i]) (by simp[]) hx;refine be (Qbf (Qal hT QbG (Qar QbG hT QeW ?_ (QeJ _))))
 repeat (first
  | with_reducible refine QbD hT ?_
  | with_reducible refine wpAny_typeNameOf_itemiter hT ?_
  | with_reducible refine Qd7 e rfl ?_
  | with_reducible refine wpAny_dictEntries hod hdd ?_
  | with_reducible refine wpAny_dictEpoch hod hdd ?_
  | with_reducible refine Qct hT ?_
  | wp_step)
 simp only[ Uw,J1 iL];refine be (be (QbD hT (tz (be (Qct hT ?_)))));change Qaa _ _ (QbV (setField (.ref it) 3 (QaV ((i:Int)+1))) _) _ _ _;refine be (Qah e (by simp) fun h1 e1 s1 =>?_);have z:((i+1:Nat):Int)=(i:Int)+1:=by lia
 have zw:Bh h1 S it d (i+1) kvs.length ep:=⟨x0,f,ok,ov,by rw[z];exact e1,hx0.imp id fun⟨a,oa,h1,h2,h3,h4⟩=>⟨a,oa,h1,s1.extBut _ _ h3 h2,h3,h4⟩⟩
 have FO:QaZ { s with heap:=h1 } (.ref it) "dict_itemiterator":=⟨_,e1,rfl⟩
 refine be (Qak (be (Qct FO (be (Qct FO (EB zw (by show S<h1.objs.size;rw[s1.1];exact hS) fun h' st' t' z' k' =>?_))))));rw[s1.1] at t' z' ⊢;refine tz ⟨_,rfl,tz (hQ _ h' hkey st' (by rw[<-hval];exact t') z' fun b o nb x=>k' b o nb (s1.extBut b o nb x))⟩
def zS (hh:A.handled=none)(yy:Bh s.heap S it d i kvs.length ep)
  (hm:s.heap.DictAt knd d kvs ep) (hx:kvs[i]? = none) (hQ:∀h',Heap.ExtBut it s.heap h'->Q none { s with heap:=h' }) :
  Qaa (Qab prog w) A (QbS (.ref it)) Q E s:=by
 obtain⟨⟨x0,f,ok,ov,e,hx0⟩⟩:=yy;obtain⟨od,es,hod,zA,hdd,hk,Le,hn⟩:=id hm;have hT:s.TypeIs (.ref it) "dict_itemiterator":=⟨_,e,rfl⟩
 have hsz:es.size=kvs.length:=by rw[<-Le.length];simp
 refine be (Qbf (Qal hT QbG (Qar QbG hT QeW ?_ (QeJ _))))
 repeat (first
  | with_reducible refine QbD hT ?_
  | with_reducible refine Qd7 e rfl ?_
  | with_reducible refine wpAny_dictEntries hod hdd ?_
  | with_reducible refine wpAny_dictEpoch hod hdd ?_
  | wp_step)
 simp only[ Uw,Ur (by rw[hsz];simpa using hx)];refine be (be (QbD hT (tz ?_)));change Qaa _ _ (QbV (setField (.ref it) 2 .none) _) _ _ _;refine be (Qah e (by simp) fun h1 e1 s1 =>?_)
 wp_walk
 refine Qa6 hh (be (QaD ⟨_,Ji _ rfl,rfl⟩ Qbt (tz (hQ _ fun b o nb x =>?_))));exact Jb _ (Jb _ (s1.extBut b o nb x))
end
structure Hd (prog:Qaf)(w:Qag)(A:Qax)(it S:Gc)(fp:Gc->Prop)(n:Nat)(P:Nat->Fk->Heap->Prop)(R:Fk->Fk->Prop)(St:Nat->Heap->Prop):Prop where
 sfp:¬fp S
 item:∀i (s:KE) (Q:Option Fk->KE->Prop) (E:Fk->KE->Prop),i<n->St i s.heap->S<s.heap.objs.size ->
  (∀v h' tk,Keeps s.heap h' fp->St (i+1) h'->P i v h'->(∀j u,P j u s.heap->R u v)->Q (some v) { s with heap:=h',toks:=tk })->Qaa (Qab prog w) A (QbS (.ref it)) Q E s
 stop:∀(s:KE) (Q:Option Fk->KE->Prop) (E:Fk->KE->Prop),St n s.heap->S<s.heap.objs.size->(∀h' tk,Keeps s.heap h' fp->Q none { s with heap:=h',toks:=tk })->Qaa (Qab prog w) A (QbS (.ref it)) Q E s
 keepS:∀i h h',St i h->Keeps h h' (· = S)->St i h'
 keepP:∀j v h h',P j v h->Keeps h h' (fun b=>fp b\/b=S)->P j v h'
section
variable {prog:Qaf}{w:Qag}{A:Qax}{it S:Gc}{fp:Gc->Prop}{n:Nat}{P:Nat->Fk->Heap->Prop}{R:Fk->Fk->Prop}{St:Nat->Heap->Prop}
def lP (Fd:Hd prog w A.in1 it S fp n P R St)(hn:n<=M2){s:KE}{Z:Qb2->KE->Prop}{res:Fk}{g:Heap}(fin:pR g S fp n P R s (Z (.ok (.ret res)))):
  ∀k i h tk acc c,i+k=n->St i h->o7 h S i P R acc c->Keeps g h (fun b=>fp b\/b=S) ->
   Qa2 (Qab prog w) A (.builtin "list.extend.loop" ⟨[.ref S,.ref it,res],[]⟩) Z { s with heap:=h,toks:=tk }
 | 0,i,h,tk,acc,c,hk,nH,G,kp=>by
  have e:i=n:=by lia
  subst e;exact QaJ QbR (be (Fd.stop { s with heap:=h,toks:=tk } _ _ nH (Jf G.ob) fun h' tk' k'=>tz (fin h' tk' acc c (fun b o nb q=>k' b o (fun z=>nb (.inl z)) (kp b o nb q)) ⟨k' _ _ Fd.sfp G.ob,G.sz,G.pw,fun j v e=>Fd.keepP _ _ _ _ (G.all j v e) fun b o nb q=>k' b o (fun z=>nb (.inl z)) q⟩)))
 | k+1,i,h,tk,acc,c,hk,nH,G,kp=>by
  refine QaJ QbR (be (Fd.item i { s with heap:=h,toks:=tk } _ _ ⋯ nH (Jf G.ob) fun v h' tk' k' st' pv rv =>?_));have NB:=k' _ _ Fd.sfp G.ob;have other:Keeps h' (h'.update S (QaF (·.push v))) (· = S):=fun b o nb q=>(J5 _ _ (QaB nb)).trans q;have k2:Keeps h (h'.update S (QaF (·.push v))) (fun b=>fp b\/b=S):=fun b o nb q=>other b o (fun z=>nb (.inr z)) (k' b o (fun z=>nb (.inl z)) q);have sz:=G.sz;refine be (Qa9 NB rfl (tz ⟨QaW Qa3 _,(lP Fd hn fin k (i+1) _ tk' (acc.push v) _ ⋯ (Fd.keepS _ _ _ st' other) ⟨J4 _ NB rfl,by rw[Qb4,sz],?_,fun j u e =>?_⟩ (fun b o nb q=>k2 b o nb (kp b o nb q)))⟩) (by rw[sz];lia) (by show(acc.push v).size<=M2+1;rw[Qb4,sz];lia))
  ·rw[Qce];refine Y0.mpr ⟨G.pw,Qb9 _ _,fun a ha b hb =>?_⟩;obtain⟨j,hj⟩:=J7.mp ha;rw[Js.mp hb];exact rv j a (G.all j a (by simpa using hj))
  ·by_cases hj:j<i
   ·rw[Qfv ⋯] at e;exact Fd.keepP _ _ _ _ (G.all j u (by rw[J1 ⋯];exact e)) k2
   ·have NT:j=i:=by
     have:=(U2.mp e).1;rw[Qb4] at this;lia
    subst NT;have e':(acc.push v)[acc.size]? = some u:=by rw[sz];exact e
    rw[Qfj] at e';cases e';exact Fd.keepP _ _ _ _ pv fun b o nb q=>other b o (fun z=>nb (.inr z)) q
end
section
variable {prog:Qaf}{w:Qag}{K:Type}[DecidableEq K]{knd:KeyKind prog w K}
abbrev mV (knd:KeyKind prog w K)(it S:Gc)(kvs:List (K×Fk))(j:Nat)(v:Fk)(h:Heap):Prop:=∃a k key val,v = .ref a/\S<a/\it<a/\kvs[j]? = some (k,val)/\knd.is k key=true/\a<h.objs.size/\h.get? a=some { cls := .type "tuple",data := .seq #[key,val] }
def Bw {it d S:Gc}{kvs:List (K×Fk)}{ep:Nat}(hh:A.handled=none)(n1:it≠S)(n2:d≠it)(n3:d≠S):
  Hd prog w A it S (· = it) kvs.length (mV knd it S kvs) jE (fun i h=>Bh h S it d i kvs.length ep/\h.DictAt knd d kvs ep) where
 sfp:=fun z=>n1 z.symm
 item:=fun i s Q E hi st hS q=>by
  obtain⟨st,hm⟩:=st;refine AU st hS hm (Jd hi) fun key h' hk st' t' z' k' =>?_;refine q _ h' s.toks (fun b o nb x=>k' b o nb x) ⟨st',?_⟩ ⟨_,_,key,_,rfl,hS,(by obtain⟨⟨_,_,_,_,e,_⟩⟩:=st;exact Jf e),Jd hi,hk,by rw[z'];exact Y8 _,t'⟩ fun j u hu =>?_
  ·obtain⟨o,es,ho,r⟩:=hm;exact⟨o,es,k' _ _ n2 ho,r⟩
  ·refine ai.el (hu) _ ?_;rintro a _ _ _ rfl _ _ _ _ ha _;exact⟨a,_,rfl,rfl,ha⟩
 stop:=fun s Q E st hS q=>by
  obtain⟨st,hm⟩:=st;exact zS hh st hm (Qco (Je _)) fun h' kb=>q h' s.toks fun b o nb x=>kb b o nb x
 keepS:=fun i h h' st k=>by
  obtain⟨⟨⟨x0,f,ok,ov,e,hx⟩⟩,⟨o,es,ho,r⟩⟩:=st;exact⟨⟨x0,f,ok,ov,k _ _ n1 e,hx.imp id fun⟨a,oa,h1,h2,h3,h4⟩=>⟨a,oa,h1,k _ _ h4 h2,h3,h4⟩⟩,⟨o,es,k _ _ n3 ho,r⟩⟩
 keepP:=fun j v h h' p k=>by
  refine ai.el (p) _ ?_;rintro a kk key val h1 h2 h3 h4 h5 h6 h7;have z:=k a _ (fun z=>z.elim (fun z=>Ue _ (z▸h3)) fun z=>Ue _ (z▸h2)) h7;exact⟨a,kk,key,val,h1,h2,h3,h4,h5,Jf z,z⟩
def Dx:isSubtype (.type "dict_items") (.type "dict_items")=pure true:=rfl
def xn {S vw d:Gc}{kvs:List (K×Fk)}{ep:Nat}(hh:A.in1.handled=none){s:KE}{Z:Qb2->KE->Prop}{res:Fk}{c₀:Nat}(hv:s.heap.IsItemsView vw d)(hm:s.heap.DictAt knd d kvs ep)(hn:kvs.length<=M2)
  (UX:vw≠S) (TX:d≠S) (hS:s.heap.get? S=some { cls := .type "list",data := .seq #[] c₀ })
  (fin:∀h' tk acc c,Keeps s.heap h' (· = S)->o7 h' S kvs.length (mV knd s.heap.objs.size S kvs) jE acc c->Z (.ok (.ret res)) { s with heap:=h',toks:=tk }) :
  Qaa (Qab prog w) A.in1 (Qbc (.ref S) (.ref vw) res) (rq prog w A Z) (fun e s'=>Z (.error e) s') s:=by
 have yi:Qa4 (.ref S) (.ref vw)=false:=by simp[Qa4,QaB UX]
 refine be (QaX hv.typeIs ?_);simp only[yi,if_false];refine be (wpAny_pyIter_items hv hm ?_);obtain⟨h1,eh1⟩:∃h1,h1=s.heap.push { cls := .type "dict_itemiterator",data := .fields #[.none,.bool false,.ref d,.int 0 0,.int kvs.length 0,.int ep 0,.none,.none] }:=⟨_,rfl⟩
 have k1:∀b o,s.heap.get? b=some o->h1.get? b=some o:=fun b o x=>by rw[eh1];exact Jb _ x
 rw[<-eh1];have FO:QaZ { s with heap:=h1 } (.ref vw) "dict_items":=by
  obtain⟨o,ho,hc,_⟩:=hv;exact⟨o,k1 _ _ ho,hc⟩
 have hint:∀Q,Q false { s with heap:=h1 } -> Qaa (Qab prog w) A.in1 (Qbz (.ref vw)) Q (fun e s'=>Z (.error e) s') { s with heap:=h1 }:=fun Q q=>by
  exact be (QcR FO F.slot_dict_items_len.lookup (be (QaD FO Dx (Qbj (fun z=>absurd z ∅) fun _=>Qbj (fun _=>(be (QaX FO (tz q)))) fun z=>absurd (show _=true by decide +kernel) z))))
 refine be (Qak (hint _ ?_));have nP:=k1 _ _ hS;have go:∀h c tk,Keeps h1 h (· = S)->h.get? S=some { cls := .type "list",data := .seq #[] c } -> Qa2 (Qab prog w) A (.builtin "list.extend.loop" ⟨[.ref S,.ref s.heap.objs.size,res],[]⟩) Z { s with heap:=h,toks:=tk }:=
  fun h c tk k o=>by
   have Fd:=Bw (knd:=knd) (kvs:=kvs) (ep:=ep) hh (Ug (Jf hS)) (Jo hm.lt_size) TX;obtain⟨od,es,ho,r⟩:=hm;refine lP Fd hn (fun h' tk acc c k' G=>fin h' tk acc c (fun b o nb q=>k' b o (fun z=>z.elim (fun z=>Ue _ (z▸Jf q)) nb) (k1 b o q)) G) kvs.length 0 h tk #[] c ⋯ (Fd.keepS _ _ _ ⟨⟨.none,false,.none,.none,by rw[eh1];exact Ji _ rfl,.inl rfl⟩,od,es,k1 _ _ ho,r⟩ k) ⟨o,rfl,.nil,fun j v e=>by simp at e⟩ fun b o nb q=>k b o (fun z=>nb (.inr z)) q
 refine Qbj (fun _=>(be (Qbi (be ?_)))) fun z=>absurd (show _=true by decide +kernel) z;have o1:=J4 (QaF (·.push Qcm)) nP rfl;refine be (Qa9 nP rfl (Qa9 o1 rfl (tz ⟨QaW Qa3 _,go _ _ _ (fun b o nb q =>?_) (J4 (QaF (·.pop)) o1 rfl)⟩)));exact(J5 _ _ (QaB nb)).trans ((J5 _ _ (QaB nb)).trans q)
def DE {S vw d:Gc}{kvs:List (K×Fk)}{ep:Nat}(hh:A.in1.handled=none){s:KE}{Z:Qb2->KE->Prop}(hv:s.heap.IsItemsView vw d)(hm:s.heap.DictAt knd d kvs ep)(hn:kvs.length<=M2)
  (UX:vw≠S) (TX:d≠S) (hS:s.heap.get? S=some { cls := .type "list",data := .seq #[] })
  (fin:∀h' tk acc c,Keeps s.heap h' (· = S)->o7 h' S kvs.length (mV knd s.heap.objs.size S kvs) jE acc c->Z (.ok (.ret .none)) { s with heap:=h',toks:=tk }) :
  Qaa (Qab prog w) A.in1 (Builtin.«list.__init__» ⟨[.ref S,.ref vw],[]⟩) (rq prog w A Z) (fun e s'=>Z (.error e) s') s:=by
 refine be (be (Qav hS rfl (tz ?_)));have k1:Keeps s.heap (s.heap.update S (QaF (fun _=>(#[]:Array Fk)))) (· = S):=fun b o nb q=>(J5 _ _ (QaB nb)).trans q;refine be (Qa9 hS rfl (be (Qcj ?_)));have hz:(s.heap.update S (QaF (fun _=>(#[]:Array Fk)))).objs.size=s.heap.objs.size:=Heap.size_update ..;obtain⟨ov,hov,c1,c2⟩:=hv;obtain⟨od,es,ho,r⟩:=hm;refine xn hh ⟨ov,k1 _ _ UX hov,c1,c2⟩ ⟨od,es,k1 _ _ TX ho,r⟩ hn UX TX (J4 (QaF (fun _=>(#[]:Array Fk))) hS rfl) fun h' tk acc c k G =>?_;refine fin h' tk acc c (fun b o nb q=>k b o nb (k1 b o nb q)) ?_;rw[hz.symm];exact G
def Et {vw d:Gc}{kvs:List (K×Fk)}{ep:Nat}(hh:A.handled=none){s:KE}{Q:Fk->KE->Prop}(hv:s.heap.IsItemsView vw d)(hm:s.heap.DictAt knd d kvs ep)(hn:kvs.length<=M2)
  (fin:∀h' tk acc c,(∀b o,s.heap.get? b=some o->h'.get? b=some o)->o7 h' s.heap.objs.size kvs.length (mV knd (s.heap.objs.size+1) s.heap.objs.size kvs) jE acc c->Q (.ref s.heap.objs.size) { s with heap:=h',toks:=tk }) :
  Qaa (Qab prog w) A (call (.type "list") [.ref vw]) Q E s:=by
 refine Qc5 (Q₁:=fun obj s₁=>obj = .ref s.heap.objs.size/\s₁={ s with heap:=s.heap.push { cls := .type "list",data := .seq #[] } }) F.called_list (F.typeCall_list_1 _) F.entry_list_init
  (code_list_new _ ⟨rfl,rfl⟩) fun obj s₁ h₁ =>?_
 obtain⟨rfl,rfl⟩:=h₁;have hS:(s.heap.push { cls := .type "list",data := .seq #[] }).get? s.heap.objs.size=some { cls := .type "list",data := .seq #[] }:=Ji _ rfl;obtain⟨ov,hov,c1,c2⟩:=hv;obtain⟨od,es,ho,r⟩:=hm;refine⟨⟨_,hS,rfl⟩,F.args_list_init_2 _ _,DE (A:=A.in1) hh ⟨ov,Jb _ hov,c1,c2⟩ ⟨od,es,Jb _ ho,r⟩ hn (Jo (Jf hov)) (Jo (Jf ho)) hS fun h' tk acc c k G=>⟨rfl,fin h' tk acc c (fun b o q =>?_) ?_⟩⟩
 ·exact k b o (Jo (Jf q)) (Jb _ q)
 ·have e:(s.heap.push { cls := .type "list",data := .seq #[] }).objs.size=s.heap.objs.size+1:=Ua ..;rw[<-e];exact G
end
def Tn (h:(bH P w).is k u=true):RelV (kV k) u:=by
 cases k with
 | inl i=>exact QcY h
 | inr x=>exact QdL h
def Si (r:KV kvs vs):∀{j:Nat} {k:Key} {u:Fk},vs[j]? = some (k,u)->∃v,kvs[j]? = some (k,v)/\RelV v u:=by
 induction r with
 | nil=>intro j k u h;simp at h
 | @cons p q ps qs h t ih=>
  intro j k u e;cases j with
  | zero=>
   cases e;have h1:p.1=k:=h.1;exact⟨p.2,by rw[<-h1];rfl,h.2⟩
  | succ j=>exact ih e
section
variable {X:Cx}
def tLI (to:TE):TE:=fun σ H Q=>to σ H fun x H1=>∃a kvs,x = .ref a/\H1 a=some (.dK kvs) /\
 ∀H' p (as:List Gc),ak H1 H'->H1 p=none->H' p=some (.lst (as.map V.ref))->as.length=kvs.length ->
  (∀(j:Nat) b k v,as[j]? = some b->kvs[j]? = some (k,v)->H1 b=none/\H' b=some (.tup [kV k,v]))->Q (.ref p) H'
def Df {p pos apos eP:Pos}(hc:X.calm=true)(Nb:Gl X "list")(Nw:X.mg "list" = none)(ho:PE X o to)
  (Hc:QaT "list" = some (.type "list"):=by first|rfl|decide)
  (Oe:Qaj [.Call (.Attribute o "items" apos) [] [] eP] X.env=[(false,QaR (.Call (.Attribute o "items" apos) [] [] eP) X.env)]:=by rfl)
  (nE:QbQ o "items" X.env (QaR o X.env)=QaR o X.env:=by rfl) (mK:(apos.endLine==eP.line)=true:=by rfl) :
  PE X (.Call (.Name "list" p) [.Call (.Attribute o "items" apos) [] [] eP] [] pos) (tLI to):=by
 refine fun pins s σ H Q I h=>QaS (eY I Nb Nw Hc (Qan (Qb6 (wpAny_Call_method0_late nE mK (bh (ho s σ H _ I h) fun v s1 ⟨x,H1,I1,r1,q1⟩=>(ai.el (q1) _ ?_)))) Oe rfl));rintro a kvs rfl ea q;cases r1;obtain⟨h1,h2⟩:=BG I1 (x := .ref a) rfl (show Sa X.K "dict" (.ref a) H1 from .inr (.inr (.inl ⟨rfl,.inl ⟨kvs,ea⟩⟩)));refine ai.el (CG I1.bE ea) _ ?_;rintro hz hsm vs rel dd;refine⟨"dict", "dict.items",PySem.F.plainAttrs_dict,Qe0,PySem.F.type_dict_items,h1,h2,Qde rfl (Qf0 (call_meetsIn Qe0 h1 PySem.F.entry_dict_items (PySem.F.args_dict_items_1 _) (meets_dict_items (bH X.prog X.w) a hsm) ⟨⟨vs,dd⟩,(Qcd ?_)⟩))⟩;obtain⟨ep,dat⟩:=dd.dictAt;obtain⟨hp,ehp⟩:∃hp,hp=s1.heap.push { cls := .type "dict_items",data := .fields #[.ref a] }:=⟨_,rfl⟩
 have hk:∀b o,s1.heap.get? b=some o->hp.get? b=some o:=fun b o x=>by rw[ehp];exact Jb _ x
 have hsz:hp.objs.size=s1.heap.objs.size+1:=by rw[ehp,Ua]
 have uh:s1.heap.objs.size<=hp.objs.size:=by rw[hsz];exact Yx _
 rw[<-ehp];have rl:=rel.length;refine Et (I.ok.hd hc) ⟨_,by rw[ehp];exact Ji _ rfl,rfl,rfl⟩ (dat.keep hk) (by rw[<-rl];exact hz) fun h' tk acc c hk2 G =>?_;obtain⟨gob,gsz,gpw,gall⟩:=G;obtain⟨as,hU⟩:=p9 (l:=acc.toList) fun v hv=>by
  obtain⟨j,hj⟩:=J7.mp hv;obtain⟨b,_,_,_,e,_⟩:=gall j v (by simpa using hj);exact⟨b,e⟩
 have jM:∀j b,as[j]? = some b->∃k key val,hp.objs.size<b/\vs[j]? = some (k,val)/\(bH X.prog X.w).is k key=true/\h'.get? b=some { cls := .type "tuple",data := .seq #[key,val] }:=fun j b hb=>by
  obtain⟨b',k,key,val,e,g1,_,g3,g4,_,g6⟩:=gall j (.ref b) (by
   have:acc.toList[j]? = some (.ref b):=by rw[hU,Jj,hb];rfl
   simpa using this)
  cases e;exact⟨k,key,val,g1,g3,g4,g6⟩
 have above:∀b∈as,hp.objs.size<b:=fun b hb=>by
  obtain⟨j,hj⟩:=J7.mp hb;obtain⟨_,_,_,g,_⟩:=jM j b hj;exact g
 have I2:Inv X pins σ H1 { s1 with heap:=h',toks:=tk }:=I1.kept fun b o e=>hk2 b o (hk b o e);have tP:=fun b hb=>Yi (J6 uh (above b hb));have nd:as.Nodup:=by
  rw[hU,Qee] at gpw;exact gpw.imp fun⟨a,b,e1,e2,h⟩=>by cases e1;cases e2;exact Jo h
 have eU:∀b,s1.heap.objs.size<=b->gj X pins H1 b/\X.s₀.heap.objs.size<=b:=fun b hb=>⟨I1.eU hb (I1.bE.fresh hb),Jg I1.sz hb⟩
 have FP:as.length=kvs.length:=by
  have z:acc.toList.length=as.length:=by rw[hU,Jc]
  simp at z gsz;lia
 obtain⟨H',I',sm,same,all⟩:=I2.mN as (kvs.map fun q=>[kV q.1,q.2]) nd (by rw[Jc];exact FP) (fun b hb=>eU b (tP b hb)) (fun j b pp g1 g2=>by
  refine ai.el (jM j b g1) _ ?_;rintro k key val _ c1 c2 c3;refine ai.el (Si rel c1) _ ?_;rintro v c4 c5;rw[Jj,c4] at g2;cases g2;exact⟨by show 2<=M2;decide,[key,val],.cons (Tn c2) (.cons c5 .nil),⟨_,c3,rfl,rfl,_,rfl⟩⟩)
 have IB:=fun hm=>Ue _ (above _ hm);have nP:=I1.bE.fresh uh;obtain⟨fS,sS⟩:=eU hp.objs.size uh;have I3:=I'.adopt (o := .lst (as.map V.ref)) ⟨by rw[same _ IB];exact nP,fS.2⟩ sS ⟨by rw[Jc];lia,acc.toList,c,by
  rw[hU];clear gob hU all same I' sm tP nd FP IB above jM
  induction as with
  | nil=>exact .nil
  | cons a r ih=>exact .cons rfl ih,by simpa using gob⟩
 refine⟨.ref hp.objs.size,_,I3,rfl,q _ _ as (fun b o e =>?_) nP aq FP fun j b k v g1 g2=>⟨(eU b (tP b (J2 g1))).1.1,?_⟩⟩
 ·rw[ao (ax e nP)];exact sm b o e
 ·rw[ao (fun z=>IB (by rw[<-z];exact J2 g1))];exact all j b [kV k,v] g1 (by rw[Jj,g2];rfl)
end
def fq:Slot "set_iterator" "__next__" "set_iterator.__next__":=by
 refine .of (owner := "set_iterator") (n := "__next__") ?_ ?_ ?_ ?_ ?_ ?_
 ·rw[QcS,QbT];kernel_rfl
 ·decide +kernel
 ·decide +kernel
 ·decide +kernel
 ·first
   | exact .inl ∅
   | exact .inr ∅
 ·rw[isSubtype_type];kernel_rfl
def mn:entryFor table "set_iterator.__next__" = some Builtin.«set_iterator.__next__»:=entryFor_of_fast (by kernel_rfl)
def pA (a:Fk):argsOk "set_iterator.__next__" ⟨[a],[]⟩:=by
 unfold argsOk;rw[signature?_of (id := "set_iterator.__next__") (n := "__txen__".toList) (o := "rotareti_tes".toList) (rows:=Manifest.sig_set_iterator) (by kernel_rfl) (by kernel_rfl)]
 kernel_rfl
def sJ:entryFor table "set.__iter__" = some Builtin.«frozenset.__iter__»:=entryFor_alias (id' := "frozenset.__iter__") (by kernel_rfl) rfl ∅ (by kernel_rfl)
def eX {α:Type}:∀{l:List α} {i:Nat} (h:i<l.length),Yc (l[i]::l.eraseIdx i) l
 | x::l,0,h=>Yc.refl _
 | x::l,i+1,h=>by
  rw[List.eraseIdx_cons_succ,List.getElem_cons_succ];exact(Yc.swap _ _ _).trans ((eX (Nat.lt_of_succ_lt_succ h)).cons x)
def Ce {α:Type}(next:Nat->Nat):∀(n k:Nat) (left:List α) (out:Array α),left.length=n->Yc (QeL next n k left out).toList (out.toList++left)
 | 0,k,left,out,h=>by
  unfold QeL;rw[Ux h,Yg]
 | n+1,k,left,out,h=>by
  unfold QeL;have hp:next k%left.length<left.length:=Nat.mod_lt _ ⋯;rw[Jd hp];dsimp only;refine(Ce next n (k+1) _ _ (by rw[QdG,if_pos hp];lia)).trans ?_;rw[Qce,U0];refine Yc.append_left _ ?_;rw[List.singleton_append];exact eX hp
def Dz {α:Type}(next:Nat->Nat)(xs:Array α):Yc (Qdx next xs).toList xs.toList:=Ce next _ 0 _ #[] rfl
def AQ {M:Model}{A:Qax}{E:Fk->KE->Prop}{α:Type}:∀(n:Nat) (xs:List α) (s:KE) (Q:List α->KE->Prop),xs.length=n ->
  (∀ys d,Yc ys xs->Q ys { s with drawn:=d })->Qaa M A (drawOrder n xs) Q E s:=by
 intro n
 induction n with
 | zero=>
  intro xs s Q h q;unfold drawOrder;exact tz (q [] s.drawn (by rw[Ux h]))
 | succ n ih=>
  intro xs s Q h q;cases xs with
  | nil=>cases h
  | cons x xs=>
   unfold drawOrder;refine be (fun Γ p hΓ =>?_);unfold choose;rw[Sem.wp_choose];refine⟨by simp,?_⟩;have hp:M.w.draws .order (s.drawn.get .order)%(x::xs).length<(x::xs).length:=Nat.mod_lt _ (by simp);generalize M.w.draws .order (s.drawn.get .order)%(x::xs).length=i at hp ⊢;rw[Sem.wp_pure];dsimp only;rw[Jd hp];refine be (ih _ _ _ (by rw[QdG,if_pos hp];lia) fun ys d hy=>tz (q _ d ?_));exact(hy.cons _).trans (eX hp)
def N6 (w:Qag):Bool:=w.params.followText "set-order"
inductive JF (w:Qag)(a:Gc)(es:Array (Int×Fk))(ep:Nat)(t:QcM)(lo i:Nat)(h:Heap)(it:Gc):Fk->List Fk->Prop
 | text (b:N6 w=true):JF w a es ep t lo i h it (.int 0 0) ((Qdx (w.params.setOrder a ep) es).toList.map (·.2))
 | places (b:N6 w=false) (d:(!t.plain&&decide (es.size>1))=false) (l:t.led=true) (z:Nat) (c:Cut t.place z i):JF w a es ep t lo i h it (.int (z:Int) 0) (es.toList.map (·.2))
 | drawn (ys:List Nat) (p:Yc ys (Uy es.size)) (tp:Gc) (low:lo<=tp) (ne:tp≠it) (o:Obj) (n:Nat) (e:h.get? tp=some o) (d:o.data = .seq (ys.map fun(k:Nat)=>QaV k).toArray n):JF w a es ep t lo i h it (.ref tp) (ys.map fun k=>(es.toList.map (·.2)).getD k .none)
structure Mu (w:Qag)(a:Gc)(es:Array (Int×Fk))(ep:Nat)(t:QcM)(lo:Nat)(vals:List Fk)(it:Gc)(i:Nat)(h:Heap):Prop where
 set:∃o,h.get? a=some o/\o.data = .set es ep t
 fit:t.fits es.size=true
 good:dG t
 ne:a≠it
 low:lo<=it
 ex:∃first,JF w a es ep t lo i h it first vals/\h.get? it=some { cls := .type "set_iterator",data := .fields #[first,.int i 0,.ref a,.int es.size 0,.int ep 0] }
def Mu.keep {w:Qag}{a:Gc}{es:Array (Int×Fk)}{ep:Nat}{t:QcM}{lo:Nat}{vals:List Fk}{it:Gc}{i:Nat}{h h':Heap}(x:Mu w a es ep t lo vals it i h)(k:∀b o,h.get? b=some o->(b=a\/lo<=b)->h'.get? b=some o):Mu w a es ep t lo vals it i h':=by
 obtain⟨⟨o,e1,e2⟩,ft,g,ne,low,first,so,e3⟩:=x;refine⟨⟨o,k _ _ e1 (.inl rfl),e2⟩,ft,g,ne,low,first,?_,k _ _ e3 (.inr low)⟩;cases so with
 | text b=>exact .text b
 | places b d l z c=>exact .places b d l z c
 | drawn ys p tp tl ne o n e d=>exact .drawn ys p tp tl ne o n (k _ _ e (.inr tl)) d
section
variable {prog:Qaf}{w:Qag}{A:Qax}{E:Fk->KE->Prop}{s:KE}{a:Gc}{es:Array (Int×Fk)}{ep:Nat}{t:QcM}{o:Obj}{lo:Nat}
def GZ {Q:Fk->KE->Prop}(ho:s.heap.get? a=some o)(hx:o.ExactSet)(hd:o.data = .set es ep t)(hf:t.fits es.size=true)(g:dG t)(l:N6 w=false->t.led=true)(hz:es.size<=M2)
  (fin:∀it h' d vals,vals.length=es.size->Yc vals (es.toList.map (·.2))->s.heap.objs.size<=it->(∀b o,s.heap.get? b=some o->h'.get? b=some o)->Mu w a es ep t s.heap.objs.size vals it 0 h'->Q (.ref it) { s with heap:=h',drawn:=d }) :
  Qaa (Qab prog w) A (Qfa (.ref a)) Q E s:=by
 have hT:s.TypeIs (.ref a) "set":=⟨o,ho,hx.1⟩
 have low:a<s.heap.objs.size:=Jf ho;refine wpAny_pyIter_slot hT F.slot_set_iter (Qar F.slot_set_iter hT sJ ?_ (F.args_set_iter_1 _));unfold Builtin.«frozenset.__iter__» Builtin.Frozenset.slot0 slotArgs QdP Builtin.Frozenset.sizeOf setEntries setDrawn setEpoch QfK;simp -iota only [Qdc,Qfs,Yz, ↓reduceIte,bind_assoc,U8,bne_self_eq_false];dsimp only
 try simp -iota only [bind_assoc,Yz, ↓reduceIte]
 refine be (tz (be (tz (be (QaL ho hd hf (be (tz (be (tz (be (QaL ho hd hf ?_)))))))))));refine be (Qbd (be (tz (be (tz ?_)))));have last:∀(s1:KE) (d:Drawn) (first:Fk) (vals:List Fk),s1.drawn=d->s1.gens=s.gens->s1.toks=s.toks->s1.os=s.os->(∀b o,s.heap.get? b=some o->s1.heap.get? b=some o)->s.heap.objs.size<=s1.heap.objs.size->vals.length=es.size->Yc vals (es.toList.map (·.2)) ->
   (∀h' it,s1.heap.objs.size<=it->(∀b o,s1.heap.get? b=some o->h'.get? b=some o)->JF w a es ep t s.heap.objs.size 0 h' it first vals) ->
   Qaa (Qab prog w) A.in1 (do
    let x <-setState a
    let y <-pure x.2.1
    let z <-newFields "set_iterator" [first,QaV 0,.ref a,QaV es.size,QaV y]
    ret z) (fun fin s'=>∃v,fin = .done (.ret v)/\∃T' r,s'.TypeIs v T'/\Qbs (.type T') (Wp "__next__")=pure (some r)/\Q v s') E s1:=by
  intro s1 d first vals e1 e2 e3 e4 k1 z1 hl hp so
  refine be (QaL (k1 _ _ ho) hd hf (be (tz ?_)));unfold newFields;refine be (QaM (tz ?_));refine⟨_,rfl, "set_iterator",_,⟨_,Ji _ rfl,rfl⟩,fq.lookup,?_⟩;have k2:∀b o,s1.heap.get? b=some o->(s1.heap.push { cls := .type "set_iterator",data := .fields [first,QaV 0,.ref a,QaV es.size,QaV ep].toArray }).get? b=some o:=fun b o x=>Jb _ x;have q:=fin s1.heap.objs.size (s1.heap.push { cls := .type "set_iterator",data := .fields [first,QaV 0,.ref a,QaV es.size,QaV ep].toArray }) d vals hl hp z1 (fun b o x=>k2 b o (k1 b o x)) ⟨⟨o,k2 _ _ (k1 _ _ ho),hd⟩,hf,g,Jo (Jx low z1),z1,first,so _ _ (Je _) k2,Ji _ rfl⟩;subst e1;rw[<-e2,<-e3,<-e4] at q;exact q
 have lv:(es.toList.map (·.2)).length=es.size:=by rw[Jc,Ub]
 cases hb:N6 w with
 | true=>
  have uI:w.params.followText "set-order" = true:=hb;refine Qbp ?_;rw[if_neg (by show ¬((!w.params.followText "set-order" && _)=true);rw[uI];exact Jr)];refine be (tz ?_);have pm:=Dz (w.params.setOrder a ep) es;exact last s s.drawn _ _ rfl rfl rfl rfl (fun _ _ x=>x) (Je _) (by rw[Jc,pm.length_eq,Ub]) (pm.map _) fun h' it _ _ =>.text hb
 | false=>
  have uI:w.params.followText "set-order" = false:=hb;refine Qbp ?_;cases hc:(!t.plain&&decide (es.size>1)) with
  | false=>
   rw[if_neg (by show ¬((!w.params.followText "set-order" && (!t.plain&&decide (es.size>1)))=true);rw[uI,hc];exact Jr)];refine be (tz ?_);exact last s s.drawn _ _ rfl rfl rfl rfl (fun _ _ x=>x) (Je _) lv (Yc.refl _) fun h' it _ _ =>.places hb hc (l hb) 0 ⟨Um _,fun i _ z=>absurd z (Wd _),fun i _ _=>Um _⟩
  | true=>
   rw[if_pos (by show(!w.params.followText "set-order" && (!t.plain&&decide (es.size>1)))=true;rw[uI,hc];rfl)];refine be (AQ _ _ _ _ Y2 fun ys d hy =>?_);have T1:ys.length=es.size:=by rw[hy.length_eq,Y2]
   refine be (Qcr ?_ (by rw[Jc,T1];exact hz));have rm:Yc (ys.map fun k=>(es.toList.map (·.2)).getD k .none) (es.toList.map (·.2)):=by
    refine(hy.map _).trans ?_;have:(Uy es.size).map (fun k=>(es.toList.map (·.2)).getD k .none)=es.toList.map (·.2):=by
     refine List.ext_getElem (by rw[Jc,Y2,lv]) fun i h1 h2 =>?_;rw[Y9,List.getElem_range,U3,Jd h2];rfl
    rw[this]
   refine last { s with heap:=s.heap.push { cls := .type "tuple",data := .seq (ys.map fun(i:Nat)=>QaV i).toArray },drawn:=d } d _ _ rfl rfl rfl rfl (fun b o x=>Jb _ x) (by show _<=(s.heap.push _).objs.size;rw[Ua];exact Yx _) (by rw[Jc,T1]) rm fun h' it yy k' =>?_;refine .drawn ys hy _ (Je _) ?_ _ 0 (k' _ _ (Ji _ rfl)) rfl;have yy:(s.heap.push { cls := .type "tuple",data := .seq (ys.map fun(i:Nat)=>QaV i).toArray }).objs.size<=it:=yy;rw[Ua] at yy;exact Jo yy
def tX {Q:Array (Int×Fk)->KE->Prop}(b:N6 w=true)(ho:s.heap.get? a=some o)(hd:o.data = .set es ep t)(hf:t.fits es.size=true)(q:Q (Qdx (w.params.setOrder a ep) es) s):Qaa (Qab prog w) A (setWalk a) Q E s:=by
 unfold setWalk QfK;have b':w.params.followText "set-order" = true:=b;refine be (QaL ho hd hf (be (be (Qbd (tz ?_)))));refine Qbp ?_;rw[if_pos (show({ program:=(Qab prog w).prog,params:=(Qab prog w).w.params }:Setting).params.followText "set-order" = true from b')];exact be (Qbd (tz q))
def Hg {vals:List Fk}{it:Gc}{i:Nat}{v:Fk}{Q:Option Fk->KE->Prop}(st:Mu w a es ep t lo vals it i s.heap)(hv:vals[i]? = some v)
  (fin:∀h',(∀b o,b≠it->s.heap.get? b=some o->h'.get? b=some o)->h'.objs.size=s.heap.objs.size->Mu w a es ep t lo vals it (i+1) h'->Q (some v) { s with heap:=h' }) :
  Qaa (Qab prog w) A (QbS (.ref it)) Q E s:=by
 obtain⟨⟨o,ho,hd⟩,hf,g,ne,low,first,so,e⟩:=st;have hT:s.TypeIs (.ref it) "set_iterator":=⟨_,e,rfl⟩
 refine be (Qbf (Qal (name:=Wp "__next__") hT fq (Qar fq hT mn ?_ (pA _))));unfold Builtin.«set_iterator.__next__» slotArgs setEntries setNext QfK;simp -iota only [Qdc,Qfs,Yz, ↓reduceIte,bind_assoc,U8,bne_self_eq_false];dsimp only
 try simp -iota only [bind_assoc,Yz, ↓reduceIte]
 refine be (tz (be (Qd7 e rfl ?_)));dsimp only;refine be (QaL ho hd hf (be (tz ?_)));refine Qbp ?_;rw[if_neg (by simp)];cases so with
 | text b=>
  have b':w.params.followText "set-order" = true:=b;refine be (QaL ho hd hf (be (Qbd (be (tz ?_)))));refine be (Qbp ?_);rw[if_pos (show({ program:=(Qab prog w).prog,params:=(Qab prog w).w.params }:Setting).params.followText "set-order" = true from b')];refine Qbp ?_;rw[if_neg (by simp)];refine be (tX b ho hd hf (tz ?_));have hx:((Qdx (w.params.setOrder a ep) es)[(i:Int).toNat]?).map (fun e=>(e.2,(0:Int).toNat))=some (v,0):=by
   rw[Uw,<-U1];rw[Jj] at hv;cases q:(Qdx (w.params.setOrder a ep) es).toList[i]? with
   | none=>rw[q] at hv;cases hv
   | some y=>rw[q] at hv;cases hv;rfl
  rw[hx];refine be (Qah e (by simp) fun h1 e1 s1=>be (Qah (s:={ s with heap:=h1 }) e1 (by simp) fun h2 e2 s2 =>?_));refine tz ⟨_,rfl,tz (fin h2 (fun b o nb x=>s2.extBut b o nb (s1.extBut b o nb x)) (s2.1.trans s1.1) ⟨⟨o,s2.extBut _ _ ne (s1.extBut _ _ ne ho),hd⟩,hf,g,ne,low,_,.text b,?_⟩)⟩;simpa [QaV] using e2
 | places b d l z c=>
  have b':w.params.followText "set-order" = false:=b;have hps:t.place.size=es.size:=by
   have:=hf;simp only[SetTable.fits,Jv,beq_iff_eq] at this;exact this.1
  have hi:i<es.size:=by
   have:=(Jm.mp hv).1;rwa[Jc,Ub] at this
  refine be (QaL ho hd hf (be (Qbd (be (tz ?_)))));refine be (Qbp ?_);rw[if_neg (by show ¬(w.params.followText "set-order" = true);rw[b'];exact Jr)];refine Qbp ?_;rw[if_neg (by show ¬((!t.plain&&decide (es.size>1))=true);rw[d];exact Jr)];refine be ?_;show Qaa _ _ (if (!t.led && !es.isEmpty)=true then Qfk "set:maker-not-led" else pure ()) _ _ _;rw[l];refine tz ?_;have Hc:QaG t.place ((z:Int)).toNat=i:=by
   rw[Uw];have c2:=iw g.2 z;have h1:¬QaG t.place z<i:=fun q=>by
    have hs:QaG t.place z<t.place.size:=by lia
    have:=c2.hi _ hs (Je _);have:=c.lo _ hs q;lia
   have h2:¬i<QaG t.place z:=fun q=>by
    have hs:i<t.place.size:=by lia
    have:=c2.lo _ hs q;have:=c.hi _ hs (Je _);lia
   lia
  refine tz ?_;dsimp only;rw[Hc,J1 hi,J1 (show i<t.place.size by lia)];have Pw:es[i].2=v:=by
   rw[Jj,U1,J1 hi] at hv
   injection hv
  dsimp only;rw[Pw];refine be (Qah e (by simp) fun h1 e1 s1=>be (Qah (s:={ s with heap:=h1 }) e1 (by simp) fun h2 e2 s2 =>?_));refine tz ⟨_,rfl,tz (fin h2 (fun b o nb x=>s2.extBut b o nb (s1.extBut b o nb x)) (s2.1.trans s1.1) ⟨⟨o,s2.extBut _ _ ne (s1.extBut _ _ ne ho),hd⟩,hf,g,ne,low,_,.places b d l (t.place[i]+1) ?_,?_⟩)⟩
  ·have c3:=iw g.2 (t.place[i]+1);rw[Cut.next g.2 ⋯ c3] at c3;exact c3
  ·simpa [QaV] using e2
 | drawn ys p tp tl nt ot n et dt=>
  dsimp only;unfold seqItems?;refine be (be (Qev et ?_));rw[dt];refine tz ?_;dsimp only;rw[Jj] at hv;cases hy:ys[i]? with
  | none=>rw[hy] at hv;cases hv
  | some y=>
   rw[hy] at hv
   injection hv with hv
   have Z8:y<es.size:=List.mem_range.mp (p.mem_iff.mp (J2 hy));have sj:(ys.map fun(k:Nat)=>QaV k).toArray[(i:Int).toNat]? = some (QaV y):=by
    rw[Uw,Wa,Jj,hy];rfl
   rw[sj];have Fw:es[y].2=v:=by
    rw[<-hv];dsimp only;rw[U3,Jj,U1,J1 Z8];rfl
   show Qaa _ _ (setNextDrawn a ((y:Int)).toNat ((ep:Int)).toNat >>= _) _ _ _;rw[Uw,Uw];unfold setNextDrawn;refine be (be (QaL ho hd hf ?_));dsimp only;refine Qbp ?_;rw[if_neg (by simp),J1 Z8];refine tz ?_;show Qaa _ _ (setField (.ref it) 1 (QaV ((i:Int)+1)) >>= fun _=>ret es[y].2) _ _ _;rw[Fw];refine be (Qah e (by simp) fun h1 e1 s1 =>?_);refine tz ⟨_,rfl,tz (fin h1 (fun b o nb x=>s1.extBut b o nb x) s1.1 ⟨⟨o,s1.extBut _ _ ne ho,hd⟩,hf,g,ne,low,_,.drawn ys p tp tl nt ot n (s1.extBut _ _ nt et) dt,?_⟩)⟩;simpa [QaV] using e1
def Hk {vals:List Fk}{it:Gc}{Q:Option Fk->KE->Prop}(hh:A.handled=none)(st:Mu w a es ep t lo vals it es.size s.heap)(hl:vals.length=es.size)
  (fin:∀h',(∀b o,b≠it->s.heap.get? b=some o->h'.get? b=some o)->Q none { s with heap:=h' }) :
  Qaa (Qab prog w) A (QbS (.ref it)) Q E s:=by
 obtain⟨⟨o,ho,hd⟩,hf,g,ne,low,first,so,e⟩:=st;have hT:s.TypeIs (.ref it) "set_iterator":=⟨_,e,rfl⟩
 refine be (Qbf (Qal (name:=Wp "__next__") hT fq (Qar fq hT mn ?_ (pA _))));unfold Builtin.«set_iterator.__next__» slotArgs setEntries setNext QfK;simp -iota only [Qdc,Qfs,Yz, ↓reduceIte,bind_assoc,U8,bne_self_eq_false];dsimp only
 try simp -iota only [bind_assoc,Yz, ↓reduceIte]
 refine be (tz (be (Qd7 e rfl ?_)));dsimp only;refine be (QaL ho hd hf (be (tz ?_)));refine Qbp ?_;rw[if_neg (by simp)];cases so with
 | text b=>
  have b':w.params.followText "set-order" = true:=b;refine be (QaL ho hd hf (be (Qbd (be (tz ?_)))));refine be (Qbp ?_);rw[if_pos (show({ program:=(Qab prog w).prog,params:=(Qab prog w).w.params }:Setting).params.followText "set-order" = true from b')];refine Qbp ?_;rw[if_neg (by simp)];refine be (tX b ho hd hf (tz ?_));have hx:((Qdx (w.params.setOrder a ep) es)[(es.size:Int).toNat]?).map (fun e=>(e.2,(0:Int).toNat))=none:=by
   have:(Qdx (w.params.setOrder a ep) es).size=es.size:=by rw[<-hl,Jc,Ub]
   rw[Uw,Ur ⋯];rfl
  rw[hx];refine be (Qah e (by simp) fun h1 e1 s1 =>?_)
  wp_walk
  refine Qa6 hh (be (QaD (T := "StopIteration") (b:=true) ⟨_,Ji _ rfl,rfl⟩ Qbt (tz (fin _ fun b o nb x =>?_))));exact Jb _ (Jb _ (s1.extBut b o nb x))
 | places b d l z c=>
  have b':w.params.followText "set-order" = false:=b;have hps:t.place.size=es.size:=by
   have:=hf;simp only[SetTable.fits,Jv,beq_iff_eq] at this;exact this.1
  refine be (QaL ho hd hf (be (Qbd (be (tz ?_)))));refine be (Qbp ?_);rw[if_neg (by show ¬(w.params.followText "set-order" = true);rw[b'];exact Jr)];refine Qbp ?_;rw[if_neg (by show ¬((!t.plain&&decide (es.size>1))=true);rw[d];exact Jr)];refine be ?_;show Qaa _ _ (if (!t.led && !es.isEmpty)=true then Qfk "set:maker-not-led" else pure ()) _ _ _;rw[l];refine tz ?_;have Hc:es.size<=QaG t.place ((z:Int)).toNat:=by
   rw[Uw];have c2:=iw g.2 z;refine Nat.not_lt.mp fun q =>?_;have hs:QaG t.place z<t.place.size:=by lia
   have:=c2.hi _ hs (Je _);have:=c.lo _ hs q;lia
  refine tz ?_;dsimp only;rw[Ur Hc];dsimp only;refine be (Qah e (by simp) fun h1 e1 s1 =>?_)
  wp_walk
  refine Qa6 hh (be (QaD (T := "StopIteration") (b:=true) ⟨_,Ji _ rfl,rfl⟩ Qbt (tz (fin _ fun b o nb x =>?_))));exact Jb _ (Jb _ (s1.extBut b o nb x))
 | drawn ys p tp tl nt ot n et dt=>
  dsimp only;unfold seqItems?;refine be (be (Qev et ?_));rw[dt];refine tz ?_;dsimp only;have T1:ys.length=es.size:=by rw[p.length_eq,Y2]
  have sj:(ys.map fun(k:Nat)=>QaV k).toArray[(es.size:Int).toNat]? = none:=by
   rw[Uw,Ur (by rw[Jy,Jc,T1];exact Je _)]
  rw[sj];refine be (Qah e (by simp) fun h0 e0 s0=>be (Qah (s:={ s with heap:=h0 }) e0 (by simp) fun h1 e1 s1 =>?_))
  wp_walk
  refine Qa6 hh (be (QaD (T := "StopIteration") (b:=true) ⟨_,Ji _ rfl,rfl⟩ Qbt (tz (fin _ fun b o nb x =>?_))));exact Jb _ (Jb _ (s1.extBut b o nb (s0.extBut b o nb x)))
end
section
variable {prog:Qaf}{w:Qag}{a:Gc}{es:Array (Int×Fk)}{ep:Nat}{t:QcM}{lo:Nat}
def Ib {A:Qax}{it S:Gc}{vals:List Fk}(hh:A.handled=none)(hl:vals.length=es.size)(n1:it≠S)(n2:a≠S)(hS:S<lo):
  Hd prog w A it S (· = it) es.size (fun i v _=>vals[i]? = some v) (fun _ _=>True) (fun i h=>Mu w a es ep t lo vals it i h) where
 sfp:=fun z=>n1 z.symm
 item:=fun i s Q E hi st _ q=>Hg st (v:=vals[i]) (Jd ⋯) fun h' k' z' st'=>q _ h' s.toks (fun b o nb x=>k' b o nb x) st' (Jd ⋯) fun _ _ _=>trivial
 stop:=fun s Q E st _ q=>Hk hh st hl fun h' k'=>q h' s.toks fun b o nb x=>k' b o nb x
 keepS:=fun i h h' st k=>st.keep fun b o e hb=>k b o (fun z=>by
  rcases hb with rfl|hb
  ·exact n2 z
  ·subst z;exact absurd hS (Nat.not_lt.mpr hb)) e
 keepP:=fun j v h h' p k=>p
def Lb:isSubtype (.type "set") (.type "set")=pure true:=by
 first|rfl|decide|(unfold isSubtype;rfl)
def Aw {A:Qax}{S:Gc}{o:Obj}(hh:A.in1.handled=none){s:KE}{Z:Qb2->KE->Prop}{res:Fk}{c0:Nat}(ho:s.heap.get? a=some o)(hx:o.ExactSet)(hd:o.data = .set es ep t)(hf:t.fits es.size=true)(g:dG t)(l:N6 w=false->t.led=true)(hz:es.size<=M2)
  (haS:a≠S) (hS:s.heap.get? S=some { cls := .type "list",data := .seq #[] c0 })
  (fin:∀h' tk d acc c vals,Keeps s.heap h' (· = S)->vals.length=es.size->Yc vals (es.toList.map (·.2))->o7 h' S es.size (fun i v _=>vals[i]? = some v) (fun _ _=>True) acc c->Z (.ok (.ret res)) { s with heap:=h',toks:=tk,drawn:=d }) :
  Qaa (Qab prog w) A.in1 (Qbc (.ref S) (.ref a) res) (rq prog w A Z) (fun e s'=>Z (.error e) s') s:=by
 have hT:s.TypeIs (.ref a) "set":=⟨o,ho,hx.1⟩
 have yi:Qa4 (.ref S) (.ref a)=false:=by simp[Qa4,QaB haS]
 have low:=Jf hS;unfold Qbc;refine be (QaX hT ?_);simp only[yi,show(Qa1 "set" == Qa1 "list")=false by decide,show(Qa1 "set" == Qa1 "tuple")=false by decide,Qd2,Yz,if_false];refine be (GZ ho hx hd hf g l hz fun it h1 d vals hl hp yy k1 zw =>?_);have FO:QaZ { s with heap:=h1,drawn:=d } (.ref a) "set":=⟨o,k1 _ _ ho,hx.1⟩
 have hint:∀(Q:Bool->KE->Prop),Q false { s with heap:=h1,drawn:=d } -> Qaa (Qab prog w) A.in1 (Qbz (.ref a)) Q (fun e s'=>Z (.error e) s') { s with heap:=h1,drawn:=d }:=fun Q q=>by
  unfold Qbz;refine be (QcR FO F.slot_set_len.lookup ?_);refine be (QaD (T := "set") (b:=true) FO Lb ?_);refine Qbj (fun z=>absurd z ∅) fun _=>Qbj (fun _ =>?_) fun z=>absurd (show _=true by decide +kernel) z;exact be (QaX FO (tz q))
 refine be (Qak (hint _ ?_));have nP:=k1 _ _ hS;have nS:it≠S:=fun z=>by subst z;exact absurd low (Nat.not_lt.mpr yy)
 have go:∀(h:Heap) (c tk:Nat),Keeps h1 h (· = S)->h.get? S=some { cls := .type "list",data := .seq #[] c } -> Qa2 (Qab prog w) A (.builtin "list.extend.loop" ⟨[.ref S,.ref it,res],[]⟩) Z { s with heap:=h,toks:=tk,drawn:=d }:=fun h c tk k ob=>by
  have Fd:=Ib (prog:=prog) (w:=w) (ep:=ep) (t:=t) (vals:=vals) (A:=A.in1) hh hl nS haS low;refine lP Fd hz (s:={ s with drawn:=d }) (g:=h1) (fun h' tk acc c k' G=>fin h' tk d acc c vals (fun b o nb q=>k' b o (fun z=>z.elim (fun z=>by subst z;exact absurd (Jf q) (Nat.not_lt.mpr yy)) nb) (k1 b o q)) hl hp G) es.size 0 h tk #[] c ⋯ (Fd.keepS _ _ _ zw k) ⟨ob,rfl,.nil,fun j v e=>by simp at e⟩ fun b o nb q=>k b o (fun z=>nb (.inr z)) q
 refine Qbj (fun _ =>?_) fun z=>absurd (show _=true by decide +kernel) z;refine be (Qbi (be ?_));have o1:=J4 (QaF (·.push Qcm)) nP rfl;have o2:=J4 (QaF (·.pop)) o1 rfl;refine be (Qa9 (s:={ s with heap:=h1,drawn:=d }) nP rfl (Qa9 (hz:=by seq_fits) o1 rfl (tz ⟨QaW Qa3 _,go _ _ _ (fun b o nb q =>?_) o2⟩)));exact(J5 _ _ (QaB nb)).trans ((J5 _ _ (QaB nb)).trans q)
def y6 {A:Qax}{E:Fk->KE->Prop}{o:Obj}(hh:A.handled=none){s:KE}{Q:List Fk->KE->Prop}(ho:s.heap.get? a=some o)(hx:o.ExactSet)(hd:o.data = .set es ep t)(hf:t.fits es.size=true)(g:dG t)(l:N6 w=false->t.led=true)(hz:es.size<=M2)
  (fin:∀h' tk d vals,s.heap.objs.size<=h'.objs.size->(∀b o,s.heap.get? b=some o->h'.get? b=some o)->Yc vals (es.toList.map (·.2))->Q vals { s with heap:=h',toks:=tk,drawn:=d }):Qaa (Qab prog w) A (collect (.ref a)) Q E s:=by
 unfold collect;refine be (wpAny_runValue (QaJ PySem.F.entry_proto_collect ?_));rw[QfG PySem.F.plain_proto_collect _];show Qaa _ A.in1 (newList [] >>= fun l=>again (.builtin "list.__iadd__" ⟨[l,.ref a],[]⟩)) _ _ s;refine be (QaM (tz ⟨QaW Qe1 _,QaJ PySem.F.entry_list_iadd ?_⟩));rw[QfG Qe1 _];have k0:∀b o,s.heap.get? b=some o->(s.heap.push { cls := .type "list",data := .seq ([]:List Fk).toArray }).get? b=some o:=fun b o x=>Jb _ x;refine Aw (s:={ s with heap:=s.heap.push { cls := .type "list",data := .seq ([]:List Fk).toArray } }) (A:=A) (res := .ref s.heap.objs.size)
  (Z:=fun(r:Qb2) s'=>match r with
   | .ok (.ret v)=>Qaa (Qab prog w) A (match v with
    | .ref a=>(load a >>= fun o=>match o.data with
     | .seq xs _=>pure xs.toList
     | _=>Qfk "internal:collect")
    | _=>Qfk "internal:collect") Q E s'
   | .ok _=>False
   | .error e=>E e s') hh (k0 _ _ ho) hx hd hf g l hz (Jo (Jf ho)) (Ji _ rfl) fun h' tk d acc c vals k hl hp G =>?_
 refine be (Qev G.ob (tz ?_));have e:acc.toList=vals:=by
  refine List.ext_getElem? fun j =>?_
  by_cases hj:j<acc.size
  ·rw[U1,J1 hj];exact(G.all j _ (J1 hj)).symm
  ·rw[U1,Ur ⋯,Qco (by have:=G.sz;lia)]
 rw[e];exact fin h' tk d vals (Yi (Jf G.ob)) (fun b o x=>k b o (Jo (Jf x)) (k0 b o x)) hp
end
def oW {α:Type}[DecidableEq α]:∀{D ns:List α},D.Nodup->(∀k∈D,k∈ns)->ns.length<=D.length->Yc ns D
 | [],ns,_,_,hl=>by rw[Ux (Nat.le_zero.mp hl)]
 | k::D,ns,nd,sub,hl=>by
  obtain⟨nk,Sf⟩:=Yb.mp nd;have hk:=sub k Jn;refine(Qf7 hk).trans (Yc.cons k (oW Sf (fun x hx =>?_) ?_))
  ·exact(List.mem_erase_of_ne (fun z=>nk (by rw[<-z];exact hx))).mpr (sub x (Jk _ hx))
  ·rw[Qfp hk];rw[Jq] at hl;lia
def yS:∀{vs:List Fk},(∀v∈vs,∃k t,v = .int k t)->∃ns,Qef vs ns/\∀k,k∈ns ↔ ∃t,QdE k t∈vs
 | [],_=>⟨[],.nil,fun k=>⟨(nofun),(fun⟨_,h⟩=>nomatch h)⟩⟩
 | v::vs,h=>by
  obtain⟨ns,h1,h2⟩:=yS (vs:=vs) fun u hu=>h u (Jk _ hu);obtain⟨k,t,rfl⟩:=h v Jn;refine⟨k::ns,.cons k t h1,fun j=>⟨fun hj =>?_,fun⟨u,hu⟩=>?_⟩⟩
  ·rcases Jw.mp hj with rfl|hj
   ·exact⟨t,Jn⟩
   ·obtain⟨u,hu⟩:=(h2 j).mp hj;exact⟨u,Jk _ hu⟩
  ·rcases Jw.mp hu with e|hu
   ·cases e;exact Jn
   ·exact Jk _ ((h2 j).mpr ⟨u,hu⟩)
def x9:∀{vs:List Fk} {ns:List Int},Qef vs ns->vs.length=ns.length
 | _,_,.nil=>rfl
 | _,_,.cons _ _ h=>by rw[Jq,Jq,x9 h]
def Inv.drawn {X:Cx}{pins:List (Gc×Obj)}{σ:St}{H:Hp}{s:KE}(d:Drawn)(I:Inv X pins σ H s):Inv X pins σ H { s with drawn:=d }:=⟨I.ok,I.os,I.bare,I.base,I.loc,I.cell,I.free,I.freeC,I.pin,I.bE,I.len⟩
def BI {X:Cx}(hc:X.calm=true):bK X (.builtin "sorted") (fun xs H Q=>∃(a:Gc) (D:List Int),xs=[.ref a]/\H a=some (gO (Ej X.prog X.w) a D)/\D.Nodup/\D.length<64 /\
  ∀(ms:List Int) (q:Gc) (H':Hp),ms.Perm D->ms.Pairwise (· <= ·)->ju H q (.lst (ms.map V.int)) H'->Q (.ref q) H'):=by
 intro pins s σ H xs us Q I r h;obtain⟨a,D,rfl,ha,nd,hl,q⟩:=h;obtain⟨u,rfl,ru⟩:=vals1 r;cases ru;obtain⟨HK,o',FJ,ep',t',xP,FQ,g',l'⟩:=(show bC X.prog X.w H s.heap a (gO (Ej X.prog X.w) a D) from I.bE a _ ha).1;obtain⟨o,es,ep,t,ho,ex,hd,el,mem,bnd,fit,len⟩:=id HK;obtain⟨g,l⟩:dG t/\(X.w.params.followText "set-order" = false->t.led=true):=by
  rw[ho] at xP;cases xP;rw[hd] at FQ;cases FQ;exact⟨g',l'⟩
 refine Qe6 kind_sorted plain_sorted entry_sorted (args_sorted1 _) ?_;unfold Builtin.«sorted»;refine be (m:=checkCount "sorted" 1 1 _) (tz ?_);refine be (y6 (A:=X.A.in1) (show X.A.in1.handled=none from I.ok.hd hc) ho ex hd fit g l (QeM bnd) fun h1 tk d vals hle k1 pm =>?_);have hv:∀v∈vals,∃k t,v = .int k t:=fun v hv=>by
  obtain⟨e,he,rfl⟩:=Ut.mp (pm.mem_iff.mp hv);obtain⟨⟨k,hk,_⟩,_⟩:=el e he;obtain⟨t,ht⟩:=QcY hk;exact⟨k,t,ht⟩
 obtain⟨ns,hI,QB⟩:=yS hv;have hlen:vals.length=D.length:=by rw[pm.length_eq,Jc,Ub,len]
 have hnl:=x9 hI;have pD:Yc ns D:=oW nd (fun k hk=>by
  obtain⟨e,he,h2⟩:=(mem k).mp (decide_eq_true hk);obtain⟨t,ht⟩:=QcY h2;exact(QB k).mpr ⟨t,by rw[<-ht];exact pm.mem_iff.mpr (Ut.mpr ⟨e,he,rfl⟩)⟩) ⋯
 refine be (wpAny_newList ?_ (Jg (show vals.length<=64 by lia) ∅));have ob:(h1.push (QcB "list" vals.toArray 0)).get? h1.objs.size=some (QcB "list" vals.toArray 0):=Ji _ rfl;refine be (Qak (Qar slot_list_sort ⟨_,ob,rfl⟩ entry_list_sort (list_sort_tree ob hI ⋯ fun out ms a1 a2 a3=>⟨_,rfl,tz ⟨_,rfl,?_⟩⟩) (args_list_sort _)));obtain⟨e,he⟩:=sortedHeap_at (out:=out) ob;have hm:ms.length=D.length:=(a2.trans pD).length_eq;have hr:=my a1;have kk:∀b o,s.heap.get? b=some o->(sortedHeap (h1.push (QcB "list" vals.toArray 0)) h1.objs.size vals out).get? b=some o:=fun b NB x=>by
  have x1:=k1 b NB x;rw[sortedHeap_old (Jo (Jf x1)) (by rw[size_push'];exact Qci (Jf x1)),Heap.get?_push_ne _ _ _ (Jo (Jf x1))];exact x1
 refine⟨.ref h1.objs.size,_,(I.laid (a:=h1.objs.size) (o := .lst (ms.map V.int)) (t':=tk) kk hle ⟨?_,out.toList,e,hr,?_⟩).drawn d,rfl,q ms _ _ (a2.trans pD) a3 ⟨I.bE.fresh hle,rfl⟩⟩
 ·rw[Jc];exact Jg (show ms.length<=64 by lia) ∅
 ·simpa [QcB] using he
def Lj:Qbs (.type "list") "keys" = pure none:=rfl
def Te:Qbs (.type "list") "__getattr__" = pure none:=rfl
def nN:isSubtype (.type "AttributeError") (.type "AttributeError")=pure true:=rfl
section
variable {prog:Qaf}{w:Qag}{A:Qax}{E:Fk->KE->Prop}{h:Heap}{g:Array QeT}{d:Drawn}{t:Nat}{os:OsState}{a:Gc}{o:Obj}
def AN {tk:Tok}{Q:Fin->KE->Prop}(hx:h.get? a=some o)(hc:o.cls = .type "list")(qu:o.dict=none){xs:Array Fk}{n:Nat}(hd:o.data = .seq xs n)(hh:A.handled=none)
  (hq:∀e h' t',(∀b o,h.get? b=some o->h'.get? b=some o)->(∃oe,h'.get? e=some oe/\oe.cls = .type "AttributeError")->E (.ref e) ⟨h',g,d,t',os⟩) :
  Qaa (Qab prog w) A (Builtin.«object.__getattribute__» ⟨[.ref a,.str "keys" tk],[]⟩) Q E ⟨h,g,d,t,os⟩:=by
 have hT:(⟨h,g,d,t,os⟩:KE).TypeIs (.ref a) "list":=⟨_,hx,hc⟩
 have f4:=Lj
 repeat (any_goals (first|assumption|wp_step))
 rw[hd]
 repeat (any_goals (first|assumption|wp_step))
 rw[qu,hc]
 repeat (any_goals (first|assumption|wp_step))
 have f9:=nN;unfold QfL noteAttr
 wp_walk
 repeat (any_goals (first|assumption|wp_step))
 refine Qa6 hh (hq _ _ _ (fun b o' x =>?_) ⟨_,J4 _ (Ji _ rfl) rfl,rfl⟩);have x1:=Jb { cls:=Qa1 "tuple",data:=Data.seq #[QcI (Wp (toString "'" ++ toString ((Qdj "list").elim "list" fun x=>x.tpName)++toString "' object has no attribute '")++Wp "keys" ++ Wp "'") t] } x;rw[J5 _ _ (Ug (Jf x1))];exact Jb _ x1
def DN {R:Qb2->KE->Prop}(hx:h.get? a=some o)(hc:o.cls = .type "list")(qu:o.dict=none){xs:Array Fk}{n:Nat}(hd:o.data = .seq xs n)(hh:A.handled=none)
  (hq:∀e h' t',(∀b o,h.get? b=some o->h'.get? b=some o)->(∃oe,h'.get? e=some oe/\oe.cls = .type "AttributeError")->R (.error (.ref e)) ⟨h',g,d,t',os⟩) :
  Qa2 (Qab prog w) A (.call (.builtin "list.__getattribute__") ⟨[.ref a,.str "keys" tk],[]⟩) R ⟨h,g,d,t,os⟩:=
 QcJ F.slot_list_getattribute.plain F.entry_list_ga (F.slot_list_getattribute.check _ _ _ _ _ _ _ _ (show(⟨h,g,d,t,os⟩:KE).TypeIs (.ref a) "list" from⟨_,hx,hc⟩) (F.args_list_getattribute_2 _ _) (AN hx hc qu hd hh hq))
def E7 (hx:h.get? a=some o)(hc:o.cls = .type "list")(qu:o.dict=none){xs:Array Fk}{n:Nat}(hd:o.data = .seq xs n)(hh:A.handled=none)
  (hq:∀h' t',(∀b o,h.get? b=some o->h'.get? b=some o)->Q none ⟨h',g,d,t',os⟩):Qaa (Qab prog w) A (getAttr? (.ref a) "keys") Q E ⟨h,g,d,t,os⟩:=by
 have hT:(⟨h,g,d,t+1,os⟩:KE).TypeIs (.ref a) "list":=⟨_,hx,hc⟩
 have f2:=F.slot_list_getattribute.lookup;have f3:=F.slot_list_getattribute.bind (.ref a);have f4:=Te
 repeat (any_goals (first|assumption|wp_step))
 refine DN hx hc qu hd hh fun e h' t' k hoe =>?_;have Rq:QaZ ⟨h',g,d,t',os⟩ (.ref e) "AttributeError":=hoe;have f5:=nN;refine be (QaD Rq f5 ?_)
 repeat (any_goals (first|assumption|wp_step))
 exact hq h' t' k
end
def cG:entryFor table "dict.update.loop" = some Builtin.«dict.update.loop»:=entryFor_of_fast (by kernel_rfl)
def cH:plainId "dict.update.loop" = true:=∅
section
variable {prog:Qaf}{w:Qag}{K:Type}[DecidableEq K]{knd:KeyKind prog w K}{A:Qax}{E:Fk->KE->Prop}
def lL (knd:KeyKind prog w K)(h:Heap)(v:Fk)(kv:K×Fk):Prop:=∃tp o n ku,v = .ref tp/\h.get? tp=some o/\o.cls = .type "tuple" /\ o.data = .seq #[ku,kv.2] n/\knd.is kv.1 ku=true
def rG {s:KE}{R:Qb2->KE->Prop}{it l d:Gc}{items:Array Fk}{kvs:List (K×Fk)}{g:Heap}(hh:A.in1.handled=none)(hl:g.IsList l items)(hn:items.size=kvs.length)(hz:kvs.length<=100000)
  (hp:∀(j:Nat) v kv,items[j]? = some v->kvs[j]? = some kv->lL knd g v kv) (lit:∀b o,g.get? b=some o->b≠it/\b≠d) (ne:d≠it)
  (fin:∀h tk,(∀b o,b≠d->b≠it->g.get? b=some o->h.get? b=some o)->h.DictOf knd d (Qc4 [] kvs)->R (.ok (.ret .none)) { s with heap:=h,toks:=tk }) :
  ∀k i h tk acc,i+k=kvs.length->acc.length<=i->Qc4 acc (kvs.drop i)=Qc4 [] kvs->(∀b o,b≠d->b≠it->g.get? b=some o->h.get? b=some o)->h.IsListIter it l i->h.DictOf knd d acc ->
   Qa2 (Qab prog w) A (.builtin "dict.update.loop" ⟨[.ref d,.ref it,QaV i,.none],[]⟩) R { s with heap:=h,toks:=tk }
 | 0,i,h,tk,acc,hk,ha,hm,kp,hi,hd=>by
  have e:i=kvs.length:=by lia
  subst e;have rA:h.IsList l items:=by
   obtain⟨o,ho,r⟩:=hl;exact⟨o,kp _ _ (lit _ _ ho).2 (lit _ _ ho).1 ho,r⟩
  refine QaJ cG (be (wpAny_pyNext_list_end hh hi rA (by rw[Ur ⋯]) fun h' eb =>?_));refine be (tz (tz (fin h' tk (fun b o nd ni x=>eb b o ni (kp b o nd ni x)) ?_)));rw[Qes] at hm;rw[<-hm];obtain⟨o,es,ep,ho,r⟩:=hd;exact⟨o,es,ep,eb _ _ ne ho,r⟩
 | k+1,i,h,tk,acc,hk,ha,hm,kp,hi,hd=>by
  have iL:i<kvs.length:=by lia
  have rA:h.IsList l items:=by
   obtain⟨o,ho,r⟩:=hl;exact⟨o,kp _ _ (lit _ _ ho).2 (lit _ _ ho).1 ho,r⟩
  have yy:items[i]? = some items[i]:=J1 ⋯;obtain⟨tp,o,n,ku,ev,ho,hc,hdat,hkey⟩:=hp i _ _ yy (Jd iL);refine QaJ cG (be (wpAny_pyNext_list_item hi rA yy fun h1 hi1 Ke =>?_));rw[ev];have MY:=Ke.extBut _ _ (lit _ _ ho).1 (kp _ _ (lit _ _ ho).2 (lit _ _ ho).1 ho);have Oo:h1.DictOf knd d acc:=by
   obtain⟨o,es,ep,ho,r⟩:=hd;exact⟨o,es,ep,Ke.extBut _ _ ne ho,r⟩
  have hT:QaZ { s with heap:=h1,toks:=tk } (.ref tp) "tuple":=⟨o,MY,hc⟩
  refine be (Qak (be (QfH (be (QaX hT (be (Qav MY hdat (tz (Qak (QcX hkey Oo (fun h2 Qo sb2=>(tz ⟨QaW cH _,?_⟩)) (Jg (show acc.length<=100000 by lia) ∅)))))))))));have:=rG hh hl hn hz hp lit ne fin k (i+1) h2 (tk+1) (Qex acc kvs[i].1 kvs[i].2) ⋯ ?_ ?_ (fun b o nd ni x=>sb2.extBut b o nd (Ke.extBut b o ni (kp b o nd ni x))) ?_ Qo
  ·exact this
  ·refine Jg ?_ (Wh ha);unfold Qex
   split
   ·rw[Jc];exact Yx _
   ·rw[Jp];exact Je _
  ·rw[<-hm,QbX iL]
   rfl
  ·obtain⟨oi,e1,r⟩:=hi1;exact⟨oi,sb2.extBut _ _ (QaB ne) e1,r⟩
def Au {Q:Fk->KE->Prop}{l:Gc}{items:Array Fk}{kvs:List (K×Fk)}{ol:Obj}{n:Nat}(hh:A.handled=none)(ho:s.heap.get? l=some ol)(hc:ol.cls = .type "list")(qu:ol.dict=none)(hd:ol.data = .seq items n)(hn:items.size=kvs.length)(hz:kvs.length<=100000)
  (hp:∀(j:Nat) v kv,items[j]? = some v->kvs[j]? = some kv->lL knd s.heap v kv)
  (fin:∀h tk,(∀b o,s.heap.get? b=some o->h.get? b=some o)->h.DictOf knd s.heap.objs.size (Qc4 [] kvs)->Q (.ref s.heap.objs.size) { s with heap:=h,toks:=tk }) :
  Qaa (Qab prog w) A (call (.type "dict") [.ref l]) Q E s:=by
 refine Qc5 (Q₁:=fun obj s₁=>obj = .ref s.heap.objs.size/\s₁={ s with heap:=s.heap.push { cls := .type "dict",data := .dict #[] } }) QeV (Qd1 _) QeD (Qfb _ ⟨rfl,rfl⟩) ?_;rintro obj s1 ⟨rfl,rfl⟩;have new:(s.heap.push { cls := .type "dict",data := .dict #[] }).DictOf knd s.heap.objs.size []:=QcZ s.heap;have k0:∀b o,s.heap.get? b=some o->(s.heap.push { cls := .type "dict",data := .dict #[] }).get? b=some o:=fun b o x=>Jb _ x;refine⟨new.typeIs,Qel _ _,(be (be (QdV new.typeIs (tz ?_))))⟩;have hT:QaZ { s with heap:=s.heap.push { cls := .type "dict",data := .dict #[] } } (.ref l) "list":=⟨ol,k0 _ _ ho,hc⟩
 refine be (QaX hT (be (E7 (k0 _ _ ho) hc qu hd hh fun h1 t1 k1 =>?_)));have kk:=fun b o x=>k1 b o (k0 b o x);refine be (Qbi (be (Qcq ⟨ol,kk _ _ ho,hc,n,hd⟩ ?_)));have hS:s.heap.objs.size<h1.objs.size:=by
  obtain⟨o,es,ep,e,_⟩:=new;exact Jf (k1 _ _ e)
 refine tz ⟨QaW cH _,?_⟩;have low:∀b o,s.heap.get? b=some o->b≠h1.objs.size/\b≠s.heap.objs.size:=fun b o x=>⟨Jo (Jf (kk b o x)),Jo (Jf x)⟩
 refine rG (A:=A.in1) hh ⟨ol,ho,hc,n,hd⟩ hn hz hp low (Jo hS) (fun h tk k dd=>⟨rfl,fin h tk (fun b o x=>k b o (low b o x).2 (low b o x).1 x) dd⟩) kvs.length 0 _ _ [] ⋯ (Je _) rfl (fun b o nd ni x=>Jb _ (kk b o x)) ⟨_,Ji _ rfl,rfl,rfl⟩ ?_;obtain⟨o,es,ep,e,r⟩:=new;exact⟨o,es,ep,Jb _ (k1 _ _ e),r⟩
end
section
variable {X:Cx}{pins:List (Gc×Obj)}{σ:St}{H:Hp}{s:KE}
def uT (I:Inv X pins σ H s)(as:List Gc):∀{kvs:List (Key×V)},as.length=kvs.length->(∀(j:Nat) b kv,as[j]? = some b->kvs[j]? = some kv->bg X.K H b [kV kv.1,kv.2]) ->
  ∃vs,KV kvs vs/\∀(j:Nat) b kv,as[j]? = some b->vs[j]? = some kv->lL (bH X.prog X.w) s.heap (.ref b) kv:=by
 induction as with
 | nil=>
  intro kvs hl _;rw[Ux hl.symm];exact⟨[],.nil,fun j b kv h=>by simp at h⟩
 | cons a as ih=>
  intro kvs hl h;cases kvs with
  | nil=>cases hl
  | cons p kvs=>
  obtain⟨vs,h1,h2⟩:=ih (by simpa using hl) fun j b kv e1 e2=>h (j+1) b kv e1 e2;obtain⟨aA,r,⟨o,e1,e2,n,e3⟩,_⟩:=I.tuple (h 0 a p rfl rfl);obtain⟨ku,vu,rfl,r1,r2⟩:=r.two;refine⟨(p.1,vu)::vs,.cons ⟨rfl,r2⟩ h1,fun j b kv e4 e5 =>?_⟩;cases j with
  | zero=>
   cases e4;cases e5;exact⟨a,o,n,ku,rfl,e1,e2,e3,o9 r1⟩
  | succ j=>exact h2 j b kv e4 e5
def kU:∀{as:List Gc} {aA:List Fk},Vals (as.map V.ref) aA->aA=as.map Qap
 | [],_,rv=>by cases rv;rfl
 | a::as,_,rv=>by
  obtain⟨v,r,rfl,rv1,rv2⟩:=rv.hd;cases rv1;rw[kU rv2];rfl
def BZ (K:Ja)(hc:X.calm=true)(hK:X.K=K:=by rfl):bK X (.type "dict") (fun xs H Q=>∃(p:Gc) (as:List Gc) (kvs:List (Key×V)),xs=[.ref p]/\aX K H p (as.map V.ref)/\as.length=kvs.length/\kvs.length<=100000 /\
  (∀(j:Nat) b kv,as[j]? = some b->kvs[j]? = some kv->bg K H b [kV kv.1,kv.2])/\∀d H',ju H d (.dK (cY [] kvs)) H'->Q (.ref d) H'):=by
 subst hK;intro pins s σ H xs us Q I r h;obtain⟨p,as,kvs,rfl,hp,hl,hz,ht,q⟩:=h;obtain⟨u,rfl,ru⟩:=vals1 r;cases ru;obtain⟨aA,rv,⟨o,n,e1,e2,e3,e4⟩,_⟩:=I.list hp;obtain⟨vs,kv,pa⟩:=uT I _ hl ht;have hits:=kU rv;have kl:=kv.length;refine Au (knd:=bH X.prog X.w) (kvs:=vs) (I.ok.hd hc) e1 e2 e3 e4 (by rw[hits];simp;lia) ⋯ (fun j v kw h1 h2 =>?_) fun h1 tk k1 dd =>?_
 ·rw[hits] at h1;simp only[Wa,Jj] at h1;cases e:as[j]? with
  | none=>rw[e] at h1;cases h1
  | some b=>rw[e] at h1;cases h1;exact pa j b kw e h2
 ·have ml:=dR kvs [];exact⟨.ref s.heap.objs.size,_,I.laid (o := .dK (cY [] kvs)) k1 (Je _) ⟨Jg (show _<=100000 by simp at ml;lia) ∅,(beq_eq_false_iff_ne.mpr (Ug I.big)),_,KV.merge kv .nil,dd⟩,rfl,q _ _ ⟨I.bE.fresh (Je _),rfl⟩⟩
end
section
variable {X:Cx}
def LX:QD X "list.remove" (fun x vs H Q=>∃(l:Gc) (xs:List Str) (y:Str),x = .ref l/\vs=[.str y]/\H l=some (.lst (xs.map V.str))/\y∈xs/\∀H',Ip H l (.lst ((xs.erase y).map V.str)) H'->Q .non H'):=by
 intro pins s σ H x vs v us Q I rx rv h;obtain⟨l,xs,y,rfl,rfl,hH,hy,q⟩:=h;cases rx;obtain⟨u,rfl,ru⟩:=vals1 rv;obtain⟨t,rfl⟩:=ru;obtain⟨z,aA,n,r,hl,e⟩:=I.DC hH;have hlen:=r.length;rw[Jc] at hlen;obtain⟨j,hj⟩:∃j,j=xs.idxOf y:=⟨_,rfl⟩
 have jl:j<xs.length:=by rw[hj];exact List.idxOf_lt_length_iff.mpr hy
 have jy:xs[j]=y:=by simp only[hj];exact List.getElem_idxOf (by rw[<-hj];exact jl)
 have jn:∀m (hm:m<xs.length),m<j->xs[m]≠y:=fun m hm hmj w=>by
  have:m<List.findIdx (· == y) xs:=by rw[hj] at hmj;exact hmj
  have:=QfB this;rw[w] at this;simp at this
 let ev:Fk->Bool:=fun u=>match u with | .str a _=>a==y|_=>false
 have at':∀m (hm:m<aA.length),∃t',aA[m] = .str (xs[m]'⋯) t':=fun m hm=>by
  obtain⟨a,h1,h2⟩:=kF r (i:=m) (v:=aA[m]) (by simp[hm]);rw[Jj,Jd ⋯] at h1;cases h1;exact h2
 refine QcC F.slot_list_remove ⟨_,e,rfl⟩ F.entry_list_remove (F.args_list_remove_2 _ _) (MeetsSeq.list_remove l aA.toArray n (.str y t) ev (fun w hw =>?_) j (by rw[Jy];lia) ?_ ?_ (by rw[Jy];lia)) ⟨e,?_⟩
 ·have hw:w∈aA:=by simpa using hw
  obtain⟨i,hi,ew⟩:=Ys.mp hw;obtain⟨t',e'⟩:=at' i hi;rw[<-ew,e'];have z:=SeqRoads2.EqGives.str (xs[i]'⋯) y t' t;rw[show((xs[i]'⋯).cps.toList==y.cps.toList)=((xs[i]'⋯)==y) from by rw[Wb,beq_iff_eq,beq_iff_eq,Array.toList_inj];exact⟨fun q=>by generalize xs[i]'⋯=x at q ⊢;cases x;cases y;simp_all,fun q=>by rw[q]⟩] at z;exact z
 ·obtain⟨t',e'⟩:=at' j ⋯;show ev aA[j]=true;rw[e'];show(xs[j]==y)=true;rw[jy];simp
 ·intro m hm hmj;have zC:m<aA.length:=by rw[Jy] at hm;exact hm
  obtain⟨t',e'⟩:=at' m zC;show ev aA[m]=false;rw[e'];show(xs[m]==y)=false;simpa using jn m ⋯ hmj
 ·have ex:(xs.map V.str).eraseIdx j=(xs.erase y).map V.str:=by
   rw[List.erase_eq_eraseIdx_of_idxOf (i:=j) hj.symm,Yy,Yy,Ju,List.map_take,List.map_drop]
  refine⟨.non,_,I.P0 (ys:=(xs.map V.str).eraseIdx j) (its':=aA.eraseIdx j) hH e ?_ (qC j r) (by rw[QdG];split<;>lia),rfl,?_⟩
  ·simp[Array.eraseIdxIfInBounds,show j<aA.length by lia]
  ·exact q _ ⟨by rw[ex]⟩
end
section
variable {M:Model}{A:Qax}{E:Fk->KE->Prop}{s:KE}{env:Env}
variable {nm q:Str}{C N:Gc}{bs bm:List Fk}{hdct:Bool}{sn:List Str}{sub:List Fk}{ab:Bool}{col:Option Bool}{dd:Option Gc}{k0 k1 k2 k3 k5:Option Fk}{newId:String}
def FE (hh:A.handled=none)(hb:bm.contains (.type "BaseException")=true)
  (h:Qaa M A (QaR x env) (fun v s1=>∃e o,v = .ref e/\s1.heap.get? C=some (QbJ nm q C N bs bm hdct sn sub ab col dd k0 k1 k2 k3 k5 newId)/\s1.heap.get? e=some o/\o.cls = .ref C/\Raw o/\E (.ref e) s1) E s) :
  Qaa M A (exec (.Raise (some x) none pos) env) Q E s:=by
 have hcB:(Qap C::bm).contains (.type "BaseException")=true:=by rw[List.contains_cons,hb,Bool.or_true]
 refine be (Qbe (be (be (Qbr h (fun v s1 h1=>be (Qbe (tz ?_))) fun _ _ z=>z))));obtain⟨e,o,rfl,hC,he,hc,⟨t,hd⟩,hE⟩:=h1;obtain⟨oc,od,odt,Dn⟩:=o;subst hc hd;obtain⟨hp,g,d,tk,os⟩:=s1
 repeat (first|with_reducible refine Qcs he ?_|with_reducible refine Qcs hC ?_|(with_reducible refine wpAny_isSubtype_exc hC ?_;rw[hcB])|wp_step)
 exact Qa6 hh hE
end
section
variable {P:Qaf}{w:Qag}{K:Ja}{mg:Str->Option Fk}{base:Heap}{N:List Str}{qual:Str}{scope:Qb1}{f:Gc}{cd:Fk}{A:Qax}{outer:List Env}{s0:KE}{H0:Hp}{E:XK}
def LD (C:Gc)(H0:Hp)(E:XK)(sp:Sp)(t:TA):TS:=fun _ σ H=>IZ C sp t σ H fun v H2=>∃e dx,v = .ref e/\H2 e=some (Dv e C dx)/\H0 e=none/\E (.ref C) (some dx) (jA H2 e)
def tR {fi C:Gc}{fd:Qad}{ps:List Str}{sp:Sp}{x:Str}{p eP pos:Pos}{a:QaE}{as:List QaE}{t:TA}(M:Pu K C fi)(F:aW P w K mg base d6 k fi fd ps sp)(hr:dH (k+1) (A.deeper (QbE qual scope s0.heap.objs.size f cd)))
  (hg:Gl (lE (vY P w base) P w K mg base N qual scope f cd A outer s0 H0 E) x) (hm:mg x=some (.ref C)) (hb:Binds K fd ps []) (ha:PA (lE (vY P w base) P w K mg base N qual scope f cd A outer s0 H0 E) (a::as) t) (vW:(x==("__debug__" : Str))=false:=by decide)
  (he:Qaj (a::as) (QbE qual scope s0.heap.objs.size f cd)=(false,QaR a (QbE qual scope s0.heap.objs.size f cd))::Qaj as (QbE qual scope s0.heap.objs.size f cd):=by rfl) (sj:(Qcu eP (Qaj as (QbE qual scope s0.heap.objs.size f cd))).any (·.1)=false:=by rfl) :
  PS (lE (vY P w base) P w K mg base N qual scope f cd A outer s0 H0 E) (.Raise (some (.Call (.Name x p) (a::as) [] eP)) none pos) (LD C H0 E sp t):=by
 intro pins s σ H D I h;obtain⟨nm,qn,Nn,bs,Db,hdct,sn,sub,ab,col,dd,k0,k1,k2,k3,k5,lk,TL⟩:=id M.cl;refine FE (C:=C) (nm:=nm) (q:=qn) (N:=Nn) (bs:=bs) (bm := .ref Db::eO) (hdct:=hdct) (sn:=sn) (sub:=sub) (ab:=ab) (col:=col) (dd:=dd) (k0:=k0) (k1:=k1) (k2:=k2) (k3:=k3) (k5:=k5) (newId := "ValueError.__new__")
  (I.ok.hd rfl) (by simp[]) (bh (FR (p:=p) M F hr hg hm hb ha rfl vW he sj s σ H _ I h) fun v s1 ⟨y,H1,I1,ry,e,dx,ey,ee,h0,hE⟩=>?_)
 subst ey;obtain rfl:v=Qap e:=ry;obtain⟨ob,b1,b2,b3,b4⟩:=(show bC P w H1 s1.heap e (Dv e C dx) from I1.bE e _ ee).1;obtain⟨t0,b5⟩:=id b4;have ub:Un (pZ outer) [] H0 H1 s0.heap s1.heap:=I1.base;refine⟨e,ob,rfl,I1.kc _ _ lk,b1,b2,b4,zO I1 b1 ?_ b5 rfl rfl (.inr ⟨_,ee⟩) (by rw[b2,b3];exact hE)⟩;cases z:s0.heap.get? e with
 | none=>rfl
 | some o=>
  have:=ub.free e o z h0 (by simp);rw[ee] at this;cases this
end
def VQ {X:Cx}:bK X (.type "int") (fun xs H Q=>∃x n,xs=[.str x]/\PySem.intText? x=some n/\x.length<=640/\Q (.int n) H):=by
 intro pins s σ H xs us Q I r h;obtain⟨x,n,rfl,e,hl,q⟩:=h;obtain⟨u,rfl,t,rfl⟩:=vals1 r;exact KIN.call_text e hl ⟨.int n,H,I.tok _,⟨_,rfl⟩,q⟩
def dh {h h':Heap}{it:Gc}{ty:String}{z:Str}{t:Tok}{i:Nat}(x:h.IsStrIter it ty z t i)(k:∀o,h.get? it=some o->h'.get? it=some o):h'.IsStrIter it ty z t i:=
 let ⟨o,a,r⟩:=x; ⟨o,k o a,r⟩
open Builtin.Str
def m5:∀tk xs,Vals (xs.map V.str) (strValues (numbered tk xs))
 | _,[] =>.nil
 | tk,x::r =>.cons ⟨tk,rfl⟩ (m5 (tk+1) r)
section
variable {X:Cx}
def IT:Kc X "str.split" (fun x vs H Q=>eM fun a b=>x = .str a/\vs=[.str b]/\b.length≠0/\a.length<=10000000/\(Qcv a b).length<=10000000/\∀p H',ju H p (.lst ((Qcv a b).map V.str)) H'->Q (.ref p) H'):=by
 intro pins s σ H x vs v us Q I rx rv h;obtain⟨a,b,rfl,rfl,hb,ha,hn,q⟩:=h;obtain⟨t,rfl⟩:=rx;obtain⟨u,rfl,t',rfl⟩:=rv.one;have uI:(b.length==0)=false:=by simpa using hb
 have new:∀tk aA,Vals ((Qcv a b).map V.str) aA->EP X pins σ Q (.ref s.heap.objs.size) { s with toks:=tk,heap:=s.heap.push { cls := .type "list",data := .seq aA.toArray } }:=fun tk aA r=>
  ⟨.ref _,_,I.laid (o := .lst ((Qcv a b).map V.str)) (fun _ _ e=>Jb _ e) (Je _) ⟨by rw[Jc];exact Jg hn ∅,aA,0,r,Ji _ rfl⟩,rfl,q _ _ ⟨I.bE.fresh (Je _),rfl⟩⟩
 have self:Qcv a b=[a]->Vals ((Qcv a b).map V.str) [.str a t]:=fun e=>by rw[e];exact .cons ⟨t,rfl⟩ .nil
 by_cases h1:(decide (a.length<b.length)||decide (strKind a<strKind b))=true
 ·exact QcC QeU (QdK _ _ _) QeC (Qek _ _) (meets_str_split_cannot_occur a b t t' h1) (new s.toks _ (self (if_pos h1)))
 have MG:=Yl.mpr h1
 by_cases hf:(occurrences a b 0 a.length (a.length+1)).isEmpty=true
 ·exact QcC QeU (QdK _ _ _) QeC (Qek _ _) (meets_str_split_not_found a b t t' MG uI hf) (new s.toks _ (self ((if_neg h1).trans (if_pos hf))))
 have e:Qcv a b=partsBetween a (occurrences a b 0 a.length (a.length+1)) b.length:=(if_neg h1).trans (if_neg hf);refine QcC QeU (QdK _ _ _) QeC (Qek _ _) (meets_str_split_sep a b t t' MG uI (Yl.mpr hf) (Jg ha ∅) (by rw[<-e];exact Jg hn ∅)) (new _ _ ?_);rw[<-e,strsFrom_eq];exact m5 _ _
end
section
variable {prog:Qaf}{w:Qag}{A:Qax}{E:Fk->KE->Prop}{s:KE}
def Ai {n:Nat}{Q:List Fk->KE->Prop}(ho:s.heap.get? l=some o)(hc:o.cls = .type "tuple")(hd:o.data = .seq vs.toArray n)(hz:vs.length<=M2)
  (h:Q vs { s with heap:=(s.heap.push (QcB "list" #[] 0)).update s.heap.objs.size (QaF (· ++ vs.toArray)) }):Qaa (Qab prog w) A (collect (.ref l)) Q E s:=by
 have ho2:(s.heap.push (QcB "list" #[] 0)).get? l=some o:=Jb _ ho;have hn:(s.heap.push (QcB "list" #[] 0)).get? s.heap.objs.size=some (QcB "list" #[] 0):=Ji _ rfl;refine be (wpAny_runValue (QaJ entry_proto_collect' (be (wpAny_newList (tz ⟨Qd4 _ ∅,QaJ entry_list_iadd' ?_⟩)))));show Qaa _ _ (Qbc (.ref s.heap.objs.size) (.ref l) (.ref s.heap.objs.size)) _ _ { s with heap:=s.heap.push (QcB "list" #[] 0) };refine be (QaX ⟨o,ho2,hc⟩ ?_);rw[if_pos (by simp)];refine be (listItems_at ho2 hd (be (listItems_at hn rfl (be (listUpdate_at hn rfl (tz (be (Qev (get?_update_seq hn _) ?_))) (Um _) (by rw[Array.size_append,Jy];exact Jg (by show 0+vs.length<=vs.length;lia) (Nat.le_succ_of_le hz)))))));have e:((#[]:Array Fk)++vs.toArray).toList=vs:=by simp
 refine tz ?_;rw[e];exact h
def BF {n:Nat}{ss:List Str}{Q:Fk->KE->Prop}(ho:s.heap.get? l=some o)(hc:o.cls = .type "tuple")(hd:o.data = .seq vs.toArray n)(hS:StrsAre vs ss)(AJ:vs.length<64)
  (h:∀out ms,StrsAre out.toList ms->ms.Perm ss->Qa5 ms=true->Q (.ref (s.heap.objs.size+1)) { s with heap:=sortedAll s.heap vs out }):Qaa (Qab prog w) A (call (.builtin "sorted") [.ref l]) Q E s:=by
 have k1:((s.heap.push (QcB "list" #[] 0)).update s.heap.objs.size (QaF (· ++ vs.toArray))).objs.size=s.heap.objs.size+1:=(Heap.size_update ..).trans (size_push' _ _);have k2:(((s.heap.push (QcB "list" #[] 0)).update s.heap.objs.size (QaF (· ++ vs.toArray))).push (QcB "list" vs.toArray 0)).get? _=some (QcB "list" vs.toArray 0):=Ji _ rfl;refine Qe6 kind_sorted plain_sorted entry_sorted (args_sorted1 _) (be (tz (be (Ai ho hc hd (Jg (Yi AJ) ∅) (be (wpAny_newList ?_))))));rw[k1] at k2;rw[k1];refine be (Qak (Qar slot_list_sort ⟨_,k2,rfl⟩ entry_list_sort (list_sort_treeK strKind_oneLt k2 hS.keysOf (fun v₁ v₂ rest e=>keyKind_strs (by rw[<-e];exact hS)) AJ fun st a1 a2=>⟨_,rfl,tz ⟨_,rfl,?_⟩⟩) (args_list_sort _)));obtain⟨ms,h1,h2,h3⟩:=sorted_out_str hS a1 a2;exact h _ ms h1 h2 h3
end
section
variable {X:Cx}(K:Ja)
def HE (hK:X.K=K:=by rfl):bK X (.builtin "sorted") (fun xs H Q=>∃p ss,xs=[.ref p]/\bg K H p (ss.map V.str)/\ss.length<64 /\
  ∀ms q H',ms.Perm ss->Qa5 ms=true->ju H q (.lst (ms.map V.str)) H'->Q (.ref q) H'):=by
 subst hK;intro pins s σ H xs us Q I r h;obtain⟨p,ss,rfl,hq,hl,q⟩:=h;obtain⟨u,rfl,ru⟩:=vals1 r;cases ru;obtain⟨aA,rv,⟨o,ho,hc,n,hd⟩,hz⟩:=I.tuple hq;have hn:aA.length=ss.length:=by have:=rv.length;rw[Jc] at this;exact this.symm
 refine BF ho hc hd (i9 rv) ⋯ fun out ms a1 a2 a3 =>?_;obtain⟨e,he⟩:=sortedAll_at s.heap aA out;have hm:=a2.length_eq;refine⟨.ref (s.heap.objs.size+1),_,I.laid (o := .lst (ms.map V.str)) (fun _ _=>sortedAll_old) (Yx _) ⟨?_,out.toList,e,mq a1,?_⟩,rfl,q ms _ _ a2 a3 ⟨I.bE.fresh (Yx _),rfl⟩⟩
 ·rw[Jc];exact Jg (show ms.length<=64 by lia) ∅
 ·simpa [QcB] using he
def xF (hK:X.K=K:=by rfl):bK X (.builtin "sorted") (fun xs H Q=>∃p ss,xs=[.ref p]/\(aX K H p (ss.map V.str)\/bg K H p (ss.map V.str))/\ss.length<64 /\
  ∀ms q H',ms.Perm ss->Qa5 ms=true->ju H q (.lst (ms.map V.str)) H'->Q (.ref q) H'):=by
 intro pins s σ H xs us Q I r h;obtain⟨p,ss,e,hq,hl,q⟩:=h
 rcases hq with hq|hq
 ·exact L2.sortedS K hK s σ H xs us Q I r ⟨p,ss,e,hq,hl,q⟩
 ·exact HE K hK s σ H xs us Q I r ⟨p,ss,e,hq,hl,q⟩
end
def G9:Qbs (.type "tuple") "keys" = pure none:=rfl
def NC:Qbs (.type "tuple") "__getattr__" = pure none:=by intros;rfl
section
variable {prog:Qaf}{w:Qag}{A:Qax}{E:Fk->KE->Prop}{h:Heap}{g:Array QeT}{d:Drawn}{t:Nat}{os:OsState}{a:Gc}{o:Obj}
def xS {tk:Tok}{Q:Fin->KE->Prop}(hx:h.get? a=some o)(hc:o.cls = .type "tuple")(qu:o.dict=none){xs:Array Fk}{n:Nat}(hd:o.data = .seq xs n)(hh:A.handled=none)
  (hq:∀e h' t',(∀b o,h.get? b=some o->h'.get? b=some o)->(∃oe,h'.get? e=some oe/\oe.cls = .type "AttributeError")->E (.ref e) ⟨h',g,d,t',os⟩) :
  Qaa (Qab prog w) A (Builtin.«object.__getattribute__» ⟨[.ref a,.str "keys" tk],[]⟩) Q E ⟨h,g,d,t,os⟩:=by
 have hT:(⟨h,g,d,t,os⟩:KE).TypeIs (.ref a) "tuple":=⟨_,hx,hc⟩
 have f4:=G9
 repeat (any_goals (first|assumption|wp_step))
 rw[hd]
 repeat (any_goals (first|assumption|wp_step))
 rw[qu,hc]
 repeat (any_goals (first|assumption|wp_step))
 have f9:=nN;unfold QfL noteAttr
 wp_walk
 repeat (any_goals (first|assumption|wp_step))
 refine Qa6 hh (hq _ _ _ (fun b o' x =>?_) ⟨_,J4 _ (Ji _ rfl) rfl,rfl⟩);have x1:=Jb { cls:=Qa1 "tuple",data:=Data.seq #[QcI (Wp (toString "'" ++ toString ((Qdj "tuple").elim "tuple" fun x=>x.tpName)++toString "' object has no attribute '")++Wp "keys" ++ Wp "'") t] } x;rw[J5 _ _ (Ug (Jf x1))];exact Jb _ x1
def zG {R:Qb2->KE->Prop}(hx:h.get? a=some o)(hc:o.cls = .type "tuple")(qu:o.dict=none){xs:Array Fk}{n:Nat}(hd:o.data = .seq xs n)(hh:A.handled=none)
  (hq:∀e h' t',(∀b o,h.get? b=some o->h'.get? b=some o)->(∃oe,h'.get? e=some oe/\oe.cls = .type "AttributeError")->R (.error (.ref e)) ⟨h',g,d,t',os⟩) :
  Qa2 (Qab prog w) A (.call (.builtin "tuple.__getattribute__") ⟨[.ref a,.str "keys" tk],[]⟩) R ⟨h,g,d,t,os⟩:=
 QcJ F.slot_tuple_getattribute.plain F.entry_tuple_ga (F.slot_tuple_getattribute.check _ _ _ _ _ _ _ _ (show(⟨h,g,d,t,os⟩:KE).TypeIs (.ref a) "tuple" from⟨_,hx,hc⟩) (F.args_tuple_getattribute_2 _ _) (xS hx hc qu hd hh hq))
def Bm (hx:h.get? a=some o)(hc:o.cls = .type "tuple")(qu:o.dict=none){xs:Array Fk}{n:Nat}(hd:o.data = .seq xs n)(hh:A.handled=none)
  (hq:∀h' t',(∀b o,h.get? b=some o->h'.get? b=some o)->Q none ⟨h',g,d,t',os⟩):Qaa (Qab prog w) A (getAttr? (.ref a) "keys") Q E ⟨h,g,d,t,os⟩:=by
 have hT:(⟨h,g,d,t+1,os⟩:KE).TypeIs (.ref a) "tuple":=⟨_,hx,hc⟩
 have f2:=F.slot_tuple_getattribute.lookup;have f3:=F.slot_tuple_getattribute.bind (.ref a);have f4:=NC
 repeat (any_goals (first|assumption|wp_step))
 refine zG hx hc qu hd hh fun e h' t' k hoe =>?_;have Rq:QaZ ⟨h',g,d,t',os⟩ (.ref e) "AttributeError":=hoe;have f5:=nN;refine be (QaD Rq f5 ?_)
 repeat (any_goals (first|assumption|wp_step))
 exact hq h' t' k
end
section
variable {prog:Qaf}{w:Qag}{K:Type}[DecidableEq K]{knd:KeyKind prog w K}{A:Qax}{E:Fk->KE->Prop}
def oQ {s:KE}{R:Qb2->KE->Prop}{it l d:Gc}{items:Array Fk}{kvs:List (K×Fk)}{g:Heap}(hh:A.in1.handled=none)(hl:g.IsTuple l items)(hn:items.size=kvs.length)(hz:kvs.length<=100000)
  (hp:∀(j:Nat) v kv,items[j]? = some v->kvs[j]? = some kv->lL knd g v kv) (lit:∀b o,g.get? b=some o->b≠it/\b≠d) (ne:d≠it)
  (fin:∀h tk,(∀b o,b≠d->b≠it->g.get? b=some o->h.get? b=some o)->h.DictOf knd d (Qc4 [] kvs)->R (.ok (.ret .none)) { s with heap:=h,toks:=tk }) :
  ∀k i h tk acc,i+k=kvs.length->acc.length<=i->Qc4 acc (kvs.drop i)=Qc4 [] kvs->(∀b o,b≠d->b≠it->g.get? b=some o->h.get? b=some o)->h.IsTupleIter it l i->h.DictOf knd d acc ->
   Qa2 (Qab prog w) A (.builtin "dict.update.loop" ⟨[.ref d,.ref it,QaV i,.none],[]⟩) R { s with heap:=h,toks:=tk }
 | 0,i,h,tk,acc,hk,ha,hm,kp,hi,hd=>by
  have e:i=kvs.length:=by lia
  subst e;have rA:h.IsTuple l items:=by
   obtain⟨o,ho,r⟩:=hl;exact⟨o,kp _ _ (lit _ _ ho).2 (lit _ _ ho).1 ho,r⟩
  refine QaJ cG (be (wpAny_pyNext_tuple_end hh hi rA (by rw[Ur ⋯]) fun h' eb =>?_));refine be (tz (tz (fin h' tk (fun b o nd ni x=>eb b o ni (kp b o nd ni x)) ?_)));rw[Qes] at hm;rw[<-hm];obtain⟨o,es,ep,ho,r⟩:=hd;exact⟨o,es,ep,eb _ _ ne ho,r⟩
 | k+1,i,h,tk,acc,hk,ha,hm,kp,hi,hd=>by
  have iL:i<kvs.length:=by lia
  have rA:h.IsTuple l items:=by
   obtain⟨o,ho,r⟩:=hl;exact⟨o,kp _ _ (lit _ _ ho).2 (lit _ _ ho).1 ho,r⟩
  have yy:items[i]? = some items[i]:=J1 ⋯;obtain⟨tp,o,n,ku,ev,ho,hc,hdat,hkey⟩:=hp i _ _ yy (Jd iL);refine QaJ cG (be (wpAny_pyNext_tuple_item hi rA yy fun h1 hi1 Ke =>?_));rw[ev];have MY:=Ke.extBut _ _ (lit _ _ ho).1 (kp _ _ (lit _ _ ho).2 (lit _ _ ho).1 ho);have Oo:h1.DictOf knd d acc:=by
   obtain⟨o,es,ep,ho,r⟩:=hd;exact⟨o,es,ep,Ke.extBut _ _ ne ho,r⟩
  have hT:QaZ { s with heap:=h1,toks:=tk } (.ref tp) "tuple":=⟨o,MY,hc⟩
  refine be (Qak (be (QfH (be (QaX hT (be (Qav MY hdat (tz (Qak (QcX hkey Oo (fun h2 Qo sb2=>(tz ⟨QaW cH _,?_⟩)) (Jg (show acc.length<=100000 by lia) ∅)))))))))));have:=oQ hh hl hn hz hp lit ne fin k (i+1) h2 (tk+1) (Qex acc kvs[i].1 kvs[i].2) ⋯ ?_ ?_ (fun b o nd ni x=>sb2.extBut b o nd (Ke.extBut b o ni (kp b o nd ni x))) ?_ Qo
  ·exact this
  ·refine Jg ?_ (Wh ha);unfold Qex
   split
   ·rw[Jc];exact Yx _
   ·rw[Jp];exact Je _
  ·rw[<-hm,QbX iL]
   rfl
  ·obtain⟨oi,e1,r⟩:=hi1;exact⟨oi,sb2.extBut _ _ (QaB ne) e1,r⟩
def x8 {Q:Fk->KE->Prop}{l:Gc}{items:Array Fk}{kvs:List (K×Fk)}{ol:Obj}{n:Nat}(hh:A.handled=none)(ho:s.heap.get? l=some ol)(hc:ol.cls = .type "tuple")(qu:ol.dict=none)(hd:ol.data = .seq items n)(hn:items.size=kvs.length)(hz:kvs.length<=100000)
  (hp:∀(j:Nat) v kv,items[j]? = some v->kvs[j]? = some kv->lL knd s.heap v kv)
  (fin:∀h tk,(∀b o,s.heap.get? b=some o->h.get? b=some o)->h.DictOf knd s.heap.objs.size (Qc4 [] kvs)->Q (.ref s.heap.objs.size) { s with heap:=h,toks:=tk }) :
  Qaa (Qab prog w) A (call (.type "dict") [.ref l]) Q E s:=by
 refine Qc5 (Q₁:=fun obj s₁=>obj = .ref s.heap.objs.size/\s₁={ s with heap:=s.heap.push { cls := .type "dict",data := .dict #[] } }) QeV (Qd1 _) QeD (Qfb _ ⟨rfl,rfl⟩) ?_;rintro obj s1 ⟨rfl,rfl⟩;have new:(s.heap.push { cls := .type "dict",data := .dict #[] }).DictOf knd s.heap.objs.size []:=QcZ s.heap;have k0:∀b o,s.heap.get? b=some o->(s.heap.push { cls := .type "dict",data := .dict #[] }).get? b=some o:=fun b o x=>Jb _ x;refine⟨new.typeIs,Qel _ _,(be (be (QdV new.typeIs (tz ?_))))⟩;have hT:QaZ { s with heap:=s.heap.push { cls := .type "dict",data := .dict #[] } } (.ref l) "tuple":=⟨ol,k0 _ _ ho,hc⟩
 refine be (QaX hT (be (Bm (k0 _ _ ho) hc qu hd hh fun h1 t1 k1 =>?_)));have kk:=fun b o x=>k1 b o (k0 b o x);refine be (Qbi (be (Qeu ⟨ol,kk _ _ ho,hc,n,hd⟩ ?_)));have hS:s.heap.objs.size<h1.objs.size:=by
  obtain⟨o,es,ep,e,_⟩:=new;exact Jf (k1 _ _ e)
 refine tz ⟨QaW cH _,?_⟩;have low:∀b o,s.heap.get? b=some o->b≠h1.objs.size/\b≠s.heap.objs.size:=fun b o x=>⟨Jo (Jf (kk b o x)),Jo (Jf x)⟩
 refine oQ (A:=A.in1) hh ⟨ol,ho,hc,n,hd⟩ hn hz hp low (Jo hS) (fun h tk k dd=>⟨rfl,fin h tk (fun b o x=>k b o (low b o x).2 (low b o x).1 x) dd⟩) kvs.length 0 _ _ [] ⋯ (Je _) rfl (fun b o nd ni x=>Jb _ (kk b o x)) ⟨_,Ji _ rfl,rfl,rfl⟩ ?_;obtain⟨o,es,ep,e,r⟩:=new;exact⟨o,es,ep,Jb _ (k1 _ _ e),r⟩
end
section
variable {X:Cx}{pins:List (Gc×Obj)}{σ:St}{H:Hp}{s:KE}
def PH (K:Ja)(hc:X.calm=true)(hK:X.K=K:=by rfl):bK X (.type "dict") (fun xs H Q=>∃(p:Gc) (as:List Gc) (kvs:List (Key×V)),xs=[.ref p]/\bg K H p (as.map V.ref)/\as.length=kvs.length/\kvs.length<=100000 /\
  (∀(j:Nat) b kv,as[j]? = some b->kvs[j]? = some kv->bg K H b [kV kv.1,kv.2])/\∀d H',ju H d (.dK (cY [] kvs)) H'->Q (.ref d) H'):=by
 subst hK;intro pins s σ H xs us Q I r h;obtain⟨p,as,kvs,rfl,hp,hl,hz,ht,q⟩:=h;obtain⟨u,rfl,ru⟩:=vals1 r;cases ru;obtain⟨aA,rv,⟨o,e1,e3,e2,n,e4⟩,_⟩:=I.nK hp;obtain⟨vs,kv,pa⟩:=uT I _ hl ht;have hits:=kU rv;have kl:=kv.length;refine x8 (knd:=bH X.prog X.w) (kvs:=vs) (I.ok.hd hc) e1 e2 e3 e4 (by rw[hits];simp;lia) ⋯ (fun j v kw h1 h2 =>?_) fun h1 tk k1 dd =>?_
 ·rw[hits] at h1;simp only[Wa,Jj] at h1;cases e:as[j]? with
  | none=>rw[e] at h1;cases h1
  | some b=>rw[e] at h1;cases h1;exact pa j b kw e h2
 ·have ml:=dR kvs [];exact⟨.ref s.heap.objs.size,_,I.laid (o := .dK (cY [] kvs)) k1 (Je _) ⟨Jg (show _<=100000 by simp at ml;lia) ∅,(beq_eq_false_iff_ne.mpr (Ug I.big)),_,KV.merge kv .nil,dd⟩,rfl,q _ _ ⟨I.bE.fresh (Je _),rfl⟩⟩
def vX (K:Ja)(hc:X.calm=true)(hK:X.K=K:=by rfl):bK X (.type "dict") (fun xs H Q=>∃(p:Gc) (as:List Gc) (kvs:List (Key×V)),xs=[.ref p]/\(aX K H p (as.map V.ref)\/bg K H p (as.map V.ref))/\as.length=kvs.length/\kvs.length<=100000 /\
  (∀(j:Nat) b kv,as[j]? = some b->kvs[j]? = some kv->bg K H b [kV kv.1,kv.2])/\∀d H',ju H d (.dK (cY [] kvs)) H'->Q (.ref d) H'):=by
 intro pins s σ H xs us Q I r h;obtain⟨p,as,kvs,e,hp,hl⟩:=h
 rcases hp with hp|hp
 ·exact BZ K hc hK s σ H xs us Q I r ⟨p,as,kvs,e,hp,hl⟩
 ·exact PH K hc hK s σ H xs us Q I r ⟨p,as,kvs,e,hp,hl⟩
def OI (hc:X.calm=true):bK X (.type "list") (fun xs H Q=>pH fun d es n kvs=>xs=[.ref d]/\Ck X.K X.prog X.w d es n kvs/\kvs.length<=1000/\∀p H',ju H p (.lst ((kvs.map (·.1)).map V.str)) H'->Q (.ref p) H'):=by
 intro pins s σ H xs us Q I r h;obtain⟨d,es,n,kvs,rfl,D,AJ,q⟩:=h;obtain⟨u,rfl,ru⟩:=vals1 r;cases ru;refine kdl_call (kdl_dict D.ns) (I.ok.hd hc) (D.at I.kc) (Jg AJ ∅) fun h' tk acc c k hS items=>⟨.ref s.heap.objs.size,_,I.laid (o := .lst ((kvs.map (·.1)).map V.str)) k (Je _) ⟨by rw[Jc,Jc];exact Jg AJ ∅,acc.toList,c,?_,by simpa using hS⟩,rfl,q _ _ ⟨I.bE.fresh (Je _),rfl⟩⟩
 have hi:=fun j v ej=>items.2 j v (by rw[<-U1];exact ej);have hl:acc.toList.length=kvs.length:=by rw[Ub];exact items.1
 generalize acc.toList=aA at hi hl;clear D items q AJ
 induction kvs generalizing aA with
 | nil=>rw[Ux hl];exact .nil
 | cons p kvs ih=>
  cases aA with
  | nil=>cases hl
  | cons v aA=>
   refine .cons ?_ (ih aA (fun j u e=>hi (j+1) u e) (Qe3 hl));obtain⟨k,x,e1,e2⟩:=hi 0 v rfl;cases e1;obtain⟨t,e3⟩:=QdL e2;exact⟨t,e3⟩
end
def GI:Qbs (.type "zip") "keys" = pure none:=by intros;rfl
def OQ:Qbs (.type "zip") "__getattr__" = pure none:=by intros;rfl
def OD:entryFor table "zip.__getattribute__" = some Builtin.«object.__getattribute__»:=entryFor_alias (id' := "object.__getattribute__") (by kernel_rfl) ∅ ∅ (by kernel_rfl)
section
variable {prog:Qaf}{w:Qag}{A:Qax}{E:Fk->KE->Prop}{h:Heap}{g:Array QeT}{d:Drawn}{t:Nat}{os:OsState}{a:Gc}{o:Obj}{fs:Array Fk}
def y7 {tk:Tok}{Q:Fin->KE->Prop}(hx:h.get? a=some o)(hc:o.cls = .type "zip")(qu:o.dict=none)(hd:o.data = .fields fs)(hh:A.handled=none)
  (hq:∀e h' t',(∀b o,h.get? b=some o->h'.get? b=some o)->(∃oe,h'.get? e=some oe/\oe.cls = .type "AttributeError")->E (.ref e) ⟨h',g,d,t',os⟩) :
  Qaa (Qab prog w) A (Builtin.«object.__getattribute__» ⟨[.ref a,.str "keys" tk],[]⟩) Q E ⟨h,g,d,t,os⟩:=by
 have hT:(⟨h,g,d,t,os⟩:KE).TypeIs (.ref a) "zip":=⟨_,hx,hc⟩
 have f4:=GI
 repeat (any_goals (first|assumption|wp_step))
 rw[hd];dsimp only;unfold instanceDict
 repeat (any_goals (first|assumption|wp_step))
 rw[qu,hc]
 repeat (any_goals (first|assumption|wp_step))
 have f9:=nN;unfold QfL noteAttr
 wp_walk
 rw[show(Qdj "AttributeError").elim false (fun t=>t.mro.contains "StopIteration" || t.mro.contains "SystemExit")=false by decide +kernel,if_neg Jr]
 repeat (any_goals (first|assumption|wp_step))
 refine Qa6 hh (hq _ _ _ (fun b o' x =>?_) ⟨_,J4 _ (Ji _ rfl) rfl,rfl⟩);have x1:=Jb (h:=h) { cls:=Qa1 "tuple",data:=Data.seq #[QcI (Wp (toString "'" ++ toString ((Qdj "zip").elim "zip" fun x=>x.tpName)++toString "' object has no attribute '")++Wp "keys" ++ Wp "'") t] } x;rw[J5 _ _ (Ug (Jf x1))];exact Jb _ x1
def Bk {Q:Option Fk->KE->Prop}(hx:h.get? a=some o)(hc:o.cls = .type "zip")(qu:o.dict=none)(hd:o.data = .fields fs)(hh:A.handled=none)
  (hq:∀h' t',(∀b o,h.get? b=some o->h'.get? b=some o)->Q none ⟨h',g,d,t',os⟩):Qaa (Qab prog w) A (getAttr? (.ref a) "keys") Q E ⟨h,g,d,t,os⟩:=by
 have hT:(⟨h,g,d,t+1,os⟩:KE).TypeIs (.ref a) "zip":=⟨_,hx,hc⟩
 have f2:=F.slot_zip_getattribute.lookup;have f3:=F.slot_zip_getattribute.bind (.ref a);have f4:=OQ
 repeat (any_goals (first|assumption|wp_step))
 refine QcJ F.slot_zip_getattribute.plain OD (F.slot_zip_getattribute.check _ _ _ _ _ _ _ _ hT (F.args_zip_getattribute_2 _ _) (y7 hx hc qu hd hh fun e h' t' k hoe =>?_));have Rq:QaZ ⟨h',g,d,t',os⟩ (.ref e) "AttributeError":=hoe;have f5:=nN;refine be (QaD Rq f5 ?_)
 repeat (any_goals (first|assumption|wp_step))
 exact hq h' t' k
end
section
variable {prog:Qaf}{w:Qag}{K:Type}[DecidableEq K]{knd:KeyKind prog w K}{A:Qax}{E:Fk->KE->Prop}
variable {it d:Gc}{T:String}{fp:Gc->Prop}{n:Nat}{P:Nat->Fk->Heap->Prop}{R:Fk->Fk->Prop}{St:Nat->Heap->Prop}
def ze {s:KE}{Z:Qb2->KE->Prop}{kvs:List (K×Fk)}{g:Heap}(Fd:ym prog w A.in1 it d T fp n P R St)(hn:n=kvs.length)(hz:kvs.length<=100000)
  (hp:∀(j:Nat) v kv h,P j v h->kvs[j]? = some kv->lL knd h v kv)
  (fin:∀h tk,Keeps g h (fun b=>fp b\/b=d)->h.DictOf knd d (Qc4 [] kvs)->Z (.ok (.ret .none)) { s with heap:=h,toks:=tk }) :
  ∀k i h tk acc,i+k=kvs.length->acc.length<=i->Qc4 acc (kvs.drop i)=Qc4 [] kvs->Keeps g h (fun b=>fp b\/b=d)->St i h->h.DictOf knd d acc ->
   Qa2 (Qab prog w) A (.builtin "dict.update.loop" ⟨[.ref d,.ref it,QaV i,.none],[]⟩) Z { s with heap:=h,toks:=tk }
 | 0,i,h,tk,acc,hk,ha,hm,kp,hi,hd=>by
  have e:i=n:=by lia
  subst e;refine QaJ cG ?_;have dl:d<h.objs.size:=by obtain⟨o,es,ep,ho,r⟩:=hd;exact Jf ho
  refine be (Fd.stop { s with heap:=h,toks:=tk } _ _ hi dl fun h' tk' k'=>be (tz (tz (fin h' tk' (fun b o nb x=>k' b o (fun z=>nb (.inl z)) (kp b o nb x)) ?_))));rw[hn,Qes] at hm;rw[<-hm];obtain⟨o,es,ep,ho,r⟩:=hd;exact⟨o,es,ep,k' _ _ Fd.sfp ho,r⟩
 | k+1,i,h,tk,acc,hk,ha,hm,kp,hi,hd=>by
  have iL:i<kvs.length:=by lia
  have dl:d<h.objs.size:=by obtain⟨o,es,ep,ho,r⟩:=hd;exact Jf ho
  refine QaJ cG (be (Fd.item i { s with heap:=h,toks:=tk } _ _ ⋯ hi dl fun v h1 tk1 k1 zw p1 r1 =>?_));obtain⟨tp,o,m,ku,ev,MY,hc,hdat,hkey⟩:=hp i _ _ _ p1 (Jd iL);subst ev;have Oo:h1.DictOf knd d acc:=by
   obtain⟨o,es,ep,ho,r⟩:=hd;exact⟨o,es,ep,k1 _ _ Fd.sfp ho,r⟩
  have hT:QaZ { s with heap:=h1,toks:=tk1 } (.ref tp) "tuple":=⟨o,MY,hc⟩
  refine be (Qak (be (QfH (be (QaX hT (be (Qav MY hdat (tz (Qak (QcX hkey Oo (fun h2 Qo sb2=>(tz ⟨QaW cH _,?_⟩)) (Jg (show acc.length<=100000 by lia) ∅)))))))))));have ZU:=fun b o nb x=>sb2.extBut b o nb x;refine ze Fd hn hz hp fin k (i+1) h2 _ (Qex acc kvs[i].1 kvs[i].2) ⋯ ?_ ?_ (fun b o nb x=>ZU b o (fun z=>nb (.inr z)) (k1 b o (fun z=>nb (.inl z)) (kp b o nb x))) (Fd.keepS _ _ _ zw ZU) Qo
  ·refine Jg ?_ (Wh ha);unfold Qex
   split
   ·rw[Jc];exact Yx _
   ·rw[Jp];exact Je _
  ·rw[<-hm,QbX iL]
   rfl
def JI {Q:Fk->KE->Prop}{kvs:List (K×Fk)}{oz:Obj}{fs:Array Fk}(hh:A.handled=none)(hT:T = "zip")(ho:s.heap.get? it=some oz)(hc:oz.cls = .type "zip")(qu:oz.dict=none)(hd:oz.data = .fields fs)
  (Fd:ym prog w A.in1.in1 it s.heap.objs.size T fp n P R St) (hn:n=kvs.length) (hz:kvs.length<=100000) (hp:∀(j:Nat) v kv h,P j v h->kvs[j]? = some kv->lL knd h v kv) (nH:∀h',(∀b o,s.heap.get? b=some o->h'.get? b=some o)->St 0 h')
  (fin:∀h tk,Keeps s.heap h fp->h.DictOf knd s.heap.objs.size (Qc4 [] kvs)->Q (.ref s.heap.objs.size) { s with heap:=h,toks:=tk }) :
  Qaa (Qab prog w) A (call (.type "dict") [.ref it]) Q E s:=by
 refine Qc5 (Q₁:=fun obj s₁=>obj = .ref s.heap.objs.size/\s₁={ s with heap:=s.heap.push { cls := .type "dict",data := .dict #[] } }) QeV (Qd1 _) QeD (Qfb _ ⟨rfl,rfl⟩) ?_;rintro obj s1 ⟨rfl,rfl⟩;have new:(s.heap.push { cls := .type "dict",data := .dict #[] }).DictOf knd s.heap.objs.size []:=QcZ s.heap;have k0:∀b o,s.heap.get? b=some o->(s.heap.push { cls := .type "dict",data := .dict #[] }).get? b=some o:=fun b o x=>Jb _ x;refine⟨new.typeIs,Qel _ _,(be (be (QdV new.typeIs (tz ?_))))⟩;have hTy:QaZ { s with heap:=s.heap.push { cls := .type "dict",data := .dict #[] } } (.ref it) "zip":=⟨oz,k0 _ _ ho,hc⟩
 refine be (QaX hTy (be (Bk (k0 _ _ ho) hc qu hd hh fun h1 t1 k1 =>?_)));have kk:=fun b o x=>k1 b o (k0 b o x);have zw:=nH h1 kk;have Zs:h1.DictOf knd s.heap.objs.size []:=by
  obtain⟨o,es,ep,e,r⟩:=new;exact⟨o,es,ep,k1 _ _ e,r⟩
 exact be (Qbi (be (Fd.self ⟨h1,s.gens,s.drawn,t1,s.os⟩ _ _ zw (tz ⟨QaW cH _,(ze Fd hn hz hp (fun h tk k dd=>⟨rfl,fin h tk (fun b o nb x=>k b o (fun z=>z.elim nb fun z=>cA (Jf x) (Je _) z) x) dd⟩) kvs.length 0 _ _ [] ⋯ (Je _) rfl (fun b o nb x=>kk b o x) zw Zs)⟩))))
end
section
variable {X:Cx}
def NZ:∀{ks:List Key} {aA:List Fk},Vals (ks.map kV) aA->∀(i:Nat) k u,ks[i]? = some k->aA[i]? = some u->RelV (kV k) u
 | ks,aA,r,i,k,u,h1,h2=>by
  obtain⟨u',h3,r3⟩:=r.get (by rw[Jj,h1];rfl);rw[h2] at h3;cases h3;exact r3
def tDZ (K:Ja)(ta:TA):TE:=fun σ H Q=>ta σ H fun vs H1=>pH fun l1 l2 (ks:List Key) ys=>vs=[.ref l1,.ref l2]/\aX K H1 l1 (ks.map kV)/\aX K H1 l2 ys/\ks.length=ys.length/\ks.length<=100000 /\
 ∀d H',ju H1 d (.dK (cY [] (ks.zip ys))) H'->Q (.ref d) H'
def AH {p p2 pos qK:Pos}(hc:X.calm=true)(Nb:Gl X "dict")(Nw:X.mg "dict" = none)(RK:Gl X "zip")(TB:X.mg "zip" = none)(ha:PA X [a,b] ta)
  (Hc:QaT "dict" = some (.type "dict"):=by first|rfl|decide) (Rt:QaT "zip" = some (.type "zip"):=by first|rfl|decide)
  (Oe:Qaj [.Call (.Name "zip" p2) [a,b] [] qK] X.env=[(false,QaR (.Call (.Name "zip" p2) [a,b] [] qK) X.env)]:=by rfl)
  (hs:Qaj [a,b] X.env=[(false,QaR a X.env),(false,QaR b X.env)]:=by rfl) (B5:Qaj [b] X.env=[(false,QaR b X.env)]:=by rfl) :
  PE X (.Call (.Name "dict" p) [.Call (.Name "zip" p2) [a,b] [] qK] [] pos) (tDZ X.K ta):=by
 refine fun pins s σ H Q I h=>QaS (eY I Nb Nw Hc (Qan (Qb6 (Call_ (eY I RK TB Rt (Qan (bh (ha s σ H _ I h) fun us s1 hz_=>ai.el hz_ _ fun vs H1 I1 r1 q1 =>?_) (by rw[hs,B5]) (by rw[B5];rfl))))) Oe rfl));obtain⟨l1,l2,ks,ys,e,q1,q2,el,ez,q⟩:=q1;subst e;obtain⟨u,w',rfl,r1,r2⟩:=vals2 r1;cases r1;cases r2;obtain⟨its1,rv1,p1,hz1⟩:=I1.list q1;refine ai.el (I1.list q2) _ ?_;rintro its2 rv2 p2 hz2;have e1:=rv1.length;have e2:=rv2.length;rw[Jc] at e1;have a1:l1<s1.heap.objs.size:=by obtain⟨_,e,_⟩:=p1.isList;exact Jf e
 have a2:l2<s1.heap.objs.size:=by obtain⟨_,e,_⟩:=p2.isList;exact Jf e
 refine call_zip_2 p1.isList p2.isList fun h' hz tj zW hi1 hi2 hsz hk=>Qcd ?_;have uh:s1.heap.objs.size<=h'.objs.size:=by rw[hsz];exact Ul _ _
 have jv:∀n,n<5->s1.heap.objs.size+n<h'.objs.size:=fun n hn=>by rw[hsz];exact QdZ hn _
 have kvL:KV (ks.zip ys) (ks.zip its2):=by
  have:∀{ks:List Key} {ys:List V} {aA:List Fk},Vals ys aA->ks.length=ys.length->KV (ks.zip ys) (ks.zip aA):=by
   intro ks
   induction ks with
   | nil=>intro ys aA r e;exact .nil
   | cons k ks ih=>
    intro ys aA r e;cases ys with
    | nil=>cases e
    | cons y ys=>
     obtain⟨v,r',rfl,rv1,rv2⟩:=r.hd;exact .cons ⟨rfl,rv1⟩ (ih rv2 (by simpa using e))
  exact this rv2 el
 have zl:(ks.zip its2).length=ks.length:=by rw[Yh];lia
 refine JI (knd:=bH X.prog X.w) (kvs:=ks.zip its2) (I1.ok.hd hc) rfl hz rfl rfl rfl
  (xX (I.ok.hd hc) (QeK a1 a2) (jv 4 ∅) (jv 2 ∅) (jv 3 ∅) (jv 0 ∅) (jv 1 ∅) (Jx a1 uh) (Jx a2 uh)) (by simp;lia) ⋯ (fun j v kv h hP hkv =>?_) (fun h2 k2=>⟨k2 _ _ tj,⟨_,_,k2 _ _ zW⟩,hi1.at fun o e=>k2 _ _ e,hi2.at fun o e=>k2 _ _ e,(p1.isList.at fun o e=>hk _ o e).at fun o e=>k2 _ o e,(p2.isList.at fun o e=>hk _ o e).at fun o e=>k2 _ o e,.inl (k2 _ _ hz)⟩) fun h2 tk k2 dd =>?_
 ·obtain⟨a,x,y,rfl,_,gx,gy,pr⟩:=hP;have z:=(U5).mp hkv;have gy:its2[j]? = some y:=by simpa using gy
  have ey:=Qao (gy.symm.trans z.2);subst ey;exact⟨a,_,_,x,rfl,pr,rfl,rfl,o9 (NZ rv1 j kv.1 x z.1 (by simpa using gx))⟩
 ·have kk:∀b o,s1.heap.get? b=some o->h2.get? b=some o:=fun b o e=>by
   have gt:∀n,b≠s1.heap.objs.size+n:=fun n=>Jo (Jx (Jf e) (Ul _ _));exact k2 b o (fun z=>z.elim (gt 4) fun z=>z.elim (gt 3) fun z=>z.elim (gt 0) (gt 1)) (hk b o e)
  have ml:=dR (ks.zip ys) [];exact⟨.ref h'.objs.size,_,I1.laid (o := .dK (cY [] (ks.zip ys))) kk uh ⟨Jg (show _<=100000 by simp at ml;lia) ∅,(beq_eq_false_iff_ne.mpr (Ug (Jx I1.big uh))),_,KV.merge kvL .nil,dd⟩,rfl,q _ _ ⟨I1.bE.fresh uh,rfl⟩⟩
end
abbrev qB (h:Heap)(it:Gc)(x:Str)(t:Tok)(i:Nat):Prop:=h.IsStrIter it "str_ascii_iterator" x t i
section
variable {prog:Qaf}{w:Qag}{A:Qax}{E:Fk->KE->Prop}{s:KE}{z TI TO i1 i2 l a:Gc}{f:Bool}{oa:Obj}{x:Str}{t:Tok}{i c:Nat}{ys:Array Fk}
def EK (D:QcK z TI TO i1 i2 l l)(hz:QfX s.heap z TI TO .none)(tj:Qbo s.heap TI (.ref i1) (.ref i2))(zW:∃a b,Qbo s.heap TO a b)
  (h1:qB s.heap i1 x t i) (h2:s.heap.IsListIter i2 l i) (hl:s.heap.IsList l ys) (hx:x.cps[i]? = some c) (hy:ys[i]? = some y)
  (q:∀h' tk tk',QfX h' z TI TO (QaV s.heap.objs.size)->(∃a b,Qbo h' TO a b)->qB h' i1 x t (i+1)->h'.IsListIter i2 l (i+1)->Qbo h' s.heap.objs.size (.str ⟨#[c]⟩ tk) y->Keeps s.heap h' (rW z TO i1 i2)->Q (some (.ref s.heap.objs.size)) { s with heap:=h',toks:=tk' }) :
  Qaa (Qab prog w) A (QbS (.ref z)) Q E s:=by
 obtain⟨a,b,zW⟩:=zW;have hT:s.TypeIs (.ref z) "zip":=⟨_,hz,rfl⟩
 refine be (Qbf (Qal hT QaI (Qar QaI hT QbC ?_ (Qbw _))));change Qaa _ _ (QbV (QfM (.ref z) 2) _) _ _ _;refine be (Qai hz rfl rfl (be (Qai hz rfl rfl (be (Qav tj rfl (be (be (Qai hz rfl rfl (tz (be (Qbi (be (Qai hz rfl rfl (be (Qah hz (by simp) fun g1 z1 e1=>be (be (be (QcH (be (wpAny_nextOf_ascii_item (dh h1 fun o e=>e1.extBut _ _ D.i1z e) hx fun g2 it1 e2=>tz ?_))))))))))))))))))));have to2:=e2.extBut _ _ D.TOi1 (e1.extBut _ _ D.TOz zW);refine be (Qav to2 rfl (be (Qb0 to2 fun g3 to3 e3=>be (Qcj (tz ?_)))));have Ds:Keeps s.heap g3 (fun c=>c=z\/c=i1\/c=TO):=fun c o nc e=>e3.extBut _ _ (fun q=>nc (.inr (.inr q))) (e2.extBut _ _ (fun q=>nc (.inr (.inl q))) (e1.extBut _ _ (fun q=>nc (.inl q)) e));refine be (be (QcH (be (Qbn (h2.at fun o e=>Ds _ _ (fun q=>q.elim D.i2z fun q=>q.elim D.i12.symm D.TOi2.symm) e) (hl.at fun o e=>Ds _ _ (fun q=>q.elim D.l2z fun q=>q.elim D.l2i1 D.l2TO) e) hy fun g4 it2 e4=>tz ?_))));have Rl:=e4.extBut _ _ D.TOi2 to3;refine be (Qav Rl rfl (be (Qb0 Rl fun g5 LG e5=>be (Qcj (tz (tz ?_))))));have LG:Qbo g5 TO (.str ⟨#[c]⟩ s.toks) y:=LG;refine be (Qav LG rfl (be (Qcr ?_)));have hsz:g5.objs.size=s.heap.objs.size:=by rw[e5.1,e4.1,e3.1,e2.1,e1.1]
 have z5:=e5.extBut _ _ D.TOz.symm (e4.extBut _ _ D.i2z.symm (e3.extBut _ _ D.TOz.symm (e2.extBut _ _ D.i1z.symm z1)));have k5:Keeps s.heap g5 (rW z TO i1 i2):=fun c o nc e=>e5.extBut _ _ (fun q=>nc (.inr (.inl q))) (e4.extBut _ _ (fun q=>nc (.inr (.inr (.inr q)))) (Ds c o (fun q=>q.elim (fun q=>nc (.inl q)) fun q=>q.elim (fun q=>nc (.inr (.inr (.inl q)))) fun q=>nc (.inr (.inl q))) e));have QJ:=Jf z5;refine be ?_;have z6:QfX (g5.push { cls := .type "tuple",data := .seq #[.str ⟨#[c]⟩ s.toks,y] }) z TI TO .ellipsis:=Jb _ z5;refine be (Qah z6 (by simp) fun g7 z7 e7=>Qah z7 (by simp) fun g8 z8 e8=>tz ⟨_,rfl,tz ?_⟩);have up:∀c o,c≠z->g5.get? c=some o->g8.get? c=some o:=fun c o c1 e=>e8.extBut _ _ c1 (e7.extBut _ _ c1 (Jb _ e));have tp:=e8.extBut _ _ (Ug QJ) (e7.extBut _ _ (Ug QJ) (Ji _ rfl));rw[hsz] at z8 tp ⊢;exact q g8 s.toks (s.toks+1) z8 ⟨_,_,up _ _ D.TOz LG⟩ (dh (dh it1 fun o e=>e5.extBut _ _ D.TOi1.symm (e4.extBut _ _ D.i12 (e3.extBut _ _ D.TOi1.symm e))) fun o e=>up _ o D.i1z e) ((it2.at fun o e=>e5.extBut _ _ D.TOi2.symm e).at fun o e=>up _ o D.i2z e) tp fun c o nc e=>up c o (fun q=>nc (.inl q)) (k5 c o nc e)
def Iw (D:QcK z TI TO i1 i2 l l)(hz:hV s.heap z TI TO a f)(ha:s.heap.get? a=some oa)(tj:Qbo s.heap TI (.ref i1) (.ref i2))
  (h1:qB s.heap i1 x t i) (h2:s.heap.IsListIter i2 l i) (hl:s.heap.IsList l ys) (hx:x.cps[i]? = some c) (hy:ys[i]? = some y)
  (q:∀h' tk tk',hV h' z TI TO a true->qB h' i1 x t (i+1)->h'.IsListIter i2 l (i+1)->Qbo h' s.heap.objs.size (.str ⟨#[c]⟩ tk) y->Keeps s.heap h' (fun b=>b=z\/b=i1\/b=i2)->Q (some (.ref s.heap.objs.size)) { s with heap:=h',toks:=tk' }) :
  Qaa (Qab prog w) A (QbS (.ref z)) Q E s:=by
 have hT:s.TypeIs (.ref z) "zip":=⟨_,hz,rfl⟩
 refine be (Qbf (Qal hT QaI (Qar QaI hT QbC ?_ (Qbw _))));change Qaa _ _ (QbV (QfM (.ref z) 2) _) _ _ _;refine be (Qai hz rfl rfl (be (Qai hz rfl rfl (be (Qav tj rfl (be (nz hz ha fun h0 z0 k0=>be (be (be (Qak (be (wpAny_nextOf_ascii_item (dh h1 fun o e=>k0.extBut _ _ D.i1z e) hx fun h4 e4 k4=>tz (tz (be (be (Qak (be (Qbn ((h2.extBut k0.extBut D.i2z).extBut k4.extBut D.i12.symm) ((hl.extBut k0.extBut D.l2z).extBut k4.extBut D.l2i1) hy fun h5 e5 k5=>tz (tz (tz (be (Qcr (hsz:=by show 2<=M2;decide) (tz ⟨_,rfl,tz ?_⟩)))))))))))))))))))))));have hsz:h5.objs.size=s.heap.objs.size:=by rw[k5.1,k4.1,k0.1]
 rw[hsz];refine q (h5.push { cls := .type "tuple",data := .seq #[.str ⟨#[c]⟩ s.toks,y] }) s.toks (s.toks+1) (Jb _ (k5.extBut _ _ D.i2z.symm (k4.extBut _ _ D.i1z.symm z0))) (dh e4 fun o e=>Jb _ (k5.extBut _ _ D.i12 e)) (e5.at fun o e=>Jb _ e) (by rw[<-hsz];exact Ji _ rfl) fun b o nb e =>?_;exact Jb _ (k5.extBut _ _ (fun z=>nb (.inr (.inr z))) (k4.extBut _ _ (fun z=>nb (.inr (.inl z))) (k0.extBut _ _ (fun z=>nb (.inl z)) e)))
def GJ (hh:A.handled=none)(D:QcK z TI TO i1 i2 l l)(hz:hV s.heap z TI TO a f)(ha:s.heap.get? a=some oa)(tj:Qbo s.heap TI (.ref i1) (.ref i2))
  (h1:qB s.heap i1 x t i) (hx:x.cps[i]? = none)
  (q:∀h',Keeps s.heap h' (fun b=>b=z\/b=i1\/b=i2)->Q none { s with heap:=h' }) :
  Qaa (Qab prog w) A (QbS (.ref z)) Q E s:=by
 have hT:s.TypeIs (.ref z) "zip":=⟨_,hz,rfl⟩
 refine be (Qbf (Qal hT QaI (Qar QaI hT QbC ?_ (Qbw _))));change Qaa _ _ (QbV (QfM (.ref z) 2) _) _ _ _;refine be (Qai hz rfl rfl (be (Qai hz rfl rfl (be (Qav tj rfl (be (nz hz ha fun h0 z0 k0=>be (be (be (Qak (be (wpAny_nextOf_ascii_end hh (dh h1 fun o e=>k0.extBut _ _ D.i1z e) hx fun h4 e k4 oe=>ai.el (oe) _ ?_))))))))))));rintro o ho hc;exact be (QaD ⟨o,ho,hc⟩ Qbt (tz (q h4 fun b o nb x=>k4 _ _ (fun z=>nb (.inr (.inl z))) (k0.extBut _ _ (fun z=>nb (.inl z)) x))))
end
abbrev ztH (h:Heap)(x:Str)(t:Tok)(b:Gc):Heap:=((((h.push { cls := .type "str_ascii_iterator",data := .fields #[.str x t,.int 0 0] }).push { cls := .type "list_iterator",data := .fields #[.ref b,.int 0 0] }).push { cls := .type "tuple",data := .seq #[.ref h.objs.size,.ref (h.objs.size+1)] }).push { cls := .type "tuple",data := .seq #[.none,.none] }).push
 { cls := .type "zip",data := .fields #[.none,.bool false,.bool false,.ref (h.objs.size+2),.ref (h.objs.size+3)] }
def LF (x:Str)(t:Tok)(b:Gc)(ys:Array Fk):
  Meets (Builtin.«zip.__new__» ⟨[.type "zip",.str x t,.ref b],[]⟩) (fun _ R s=>x.cps.all (· < 128)=true/\s.heap.IsList b ys/\R (.ok (.ret (.ref (s.heap.objs.size+4)))) { s with heap:=ztH s.heap x t b }):=
 .of_wp fun prog w A R s h=>by
  obtain⟨hp,g,d,tk,os⟩:=s;obtain⟨hx,zh,h⟩:=h;have dW:=sub_zip;have hL2:Heap.IsList (Shared.heap ⟨hp.push { cls := .type "str_ascii_iterator",data := .fields #[.str x t,.int 0 0] },g,d,tk,os⟩) b ys:=zh.at fun o e=>Jb _ e;have s1:(hp.push { cls := .type "str_ascii_iterator",data := .fields #[.str x t,.int 0 0] }).objs.size=hp.objs.size+1:=Ua ..
  wp_walk using wpAny_pyIter_ascii hx,Qcq hL2
  refine⟨_,rfl,?_⟩;simp -iota only [Ua] at h ⊢;exact h
section
variable {prog:Qaf}{w:Qag}{A:Qax}{E:Fk->KE->Prop}{s:KE}
def Hz {b:Gc}{ys:Array Fk}{Q:Fk->KE->Prop}(h1:x.cps.all (· < 128)=true)(h2:s.heap.IsList b ys)
  (q:∀h',QfX h' (s.heap.objs.size+4) (s.heap.objs.size+2) (s.heap.objs.size+3) .none->Qbo h' (s.heap.objs.size+2) (.ref s.heap.objs.size) (.ref (s.heap.objs.size+1))->Qbo h' (s.heap.objs.size+3) .none .none->qB h' s.heap.objs.size x t 0->h'.IsListIter (s.heap.objs.size+1) b 0->h'.objs.size=s.heap.objs.size+5->(∀c o,s.heap.get? c=some o->h'.get? c=some o)->Q (.ref (s.heap.objs.size+4)) { s with heap:=h' }) :
  Qaa (Qab prog w) A (call (.type "zip") [.str x t,.ref b]) Q E s:=by
 refine callType_new F.called_zip rfl (F.typeCall_zip_2 _ _) (F.newCall_zip_2 _ _) (fun obj=>F.args_object_init_3 obj _ _) F.entry_zip_new (LF x t b ys) ⟨h1,h2,?_⟩;have up:∀{h:Heap} {c:Gc} {o:Obj} p,h.get? c=some o->(h.push p).get? c=some o:=fun p e=>Jb p e;have last:∀{h:Heap} {n:Nat} {p:Obj},h.objs.size=n->p.isFreed=false->(h.push p).get? n=some p:=fun e hf=>by rw[<-e];exact Ji _ hf
 have z1:=Ua s.heap { cls := .type "str_ascii_iterator",data := .fields #[.str x t,.int 0 0] };have z2:=Ua (s.heap.push { cls := .type "str_ascii_iterator",data := .fields #[.str x t,.int 0 0] }) { cls := .type "list_iterator",data := .fields #[.ref b,.int 0 0] };rw[z1] at z2;have z3:=Ua ((s.heap.push { cls := .type "str_ascii_iterator",data := .fields #[.str x t,.int 0 0] }).push { cls := .type "list_iterator",data := .fields #[.ref b,.int 0 0] }) { cls := .type "tuple",data := .seq #[.ref s.heap.objs.size,.ref (s.heap.objs.size+1)] };rw[z2] at z3;have z4:=Ua (((s.heap.push { cls := .type "str_ascii_iterator",data := .fields #[.str x t,.int 0 0] }).push { cls := .type "list_iterator",data := .fields #[.ref b,.int 0 0] }).push { cls := .type "tuple",data := .seq #[.ref s.heap.objs.size,.ref (s.heap.objs.size+1)] }) { cls := .type "tuple",data := .seq #[.none,.none] };rw[z3] at z4;have zz:(ztH s.heap x t b).get? (s.heap.objs.size+4)=some _:=last z4 rfl;refine⟨⟨_,zz,rfl⟩,q _ zz (up _ (up _ (last z2 rfl))) (up _ (last z3 rfl)) ⟨_,up _ (up _ (up _ (up _ (last rfl rfl)))),rfl,rfl⟩ ⟨_,up _ (up _ (up _ (last z1 rfl))),rfl,rfl⟩ ?_ fun c o e=>up _ (up _ (up _ (up _ (up _ e))))⟩;rw[Ua,z4]
end
structure B9 (z TI TO i1 i2 l S:Gc)(x:Str)(t:Tok)(ys:Array Fk)(i:Nat)(h:Heap):Prop where
 ti:Qbo h TI (.ref i1) (.ref i2)
 to:∃a b,Qbo h TO a b
 it1:qB h i1 x t i
 it2:h.IsListIter i2 l i
 a2:h.IsList l ys
 zp:QfX h z TI TO .none/\i=0\/0<i/\∃a f oa,hV h z TI TO a f/\h.get? a=some oa/\S<a
abbrev Gh (S:Gc)(x:Str)(ys:Array Fk)(j:Nat)(v:Fk)(h:Heap):Prop:=pH fun a c tk y=>v = .ref a/\S<a/\x.cps[j]? = some c/\ys[j]? = some y/\Qbo h a (.str ⟨#[c]⟩ tk) y
def Ir {z TI TO i1 i2 l S:Gc}{x:Str}{t:Tok}{ys:Array Fk}(hh:A.handled=none)(hn:0<x.cps.size)(hy:x.cps.size<=ys.size)(D:QcK z TI TO i1 i2 l l)(b1:z<S)(b2:TI<S)(b3:TO<S)(b4:i1<S)(b5:i2<S)(b6:l<S):
  ym prog w A z S "zip" (rW z TO i1 i2) x.cps.size (Gh S x ys) jE (B9 z TI TO i1 i2 l S x t ys) where
 sfp:=fun q=>by
  rcases q with q|q|q|q<;>(rw[q] at b1 b3 b4 b5;first|exact absurd b1 (Ue _)|exact absurd b3 (Ue _)|exact absurd b4 (Ue _)|exact absurd b5 (Ue _))
 ne:=Jo b1
 ty:=fun i h st=>by
  rcases st.zp with ⟨q,_⟩|⟨_,a,f,oa,q,_⟩
  ·exact⟨_,q,rfl⟩
  ·exact⟨_,q,rfl⟩
 self:=fun s Q E st q=>by
  rcases st.zp with ⟨r,_⟩|⟨r,_⟩
  ·exact Qdw r q
  ·exact absurd r (Ue _)
 item:=fun i s Q E hi st hS q=>by
  obtain⟨ti,to,it1,it2,a2,zp⟩:=st;have hx:=J1 hi;have hy:ys[i]? = some (ys[i]'⋯):=J1 ⋯;have old:∀j u,Gh S x ys j u s.heap->jE u (.ref s.heap.objs.size):=fun j u hz_=>ai.el hz_ _ fun a c tk y e _ _ _ p=>⟨a,_,e,rfl,Jf p⟩
  rcases zp with ⟨r,_⟩|⟨hi0,c,f,oc,r,oc',hc⟩
  ·refine EK D r ti to it1 it2 a2 hx hy fun h' tk tk' r1 r2 r3 r4 r5 r7 =>?_;have n2:∀{b:Gc},b≠z->b≠TO->b≠i1->b≠i2->¬rW z TO i1 i2 b:=fun c1 c2 c3 c4 q=>q.elim c1 fun q=>q.elim c2 fun q=>q.elim c3 c4;refine q _ h' tk' r7 ⟨r7 _ _ (n2 D.TIz D.TITO D.TIi1 D.TIi2) ti,r2,r3,r4,a2.at fun o e=>r7 _ _ (n2 D.l2z D.l2TO D.l2i1 D.l2i2) e,.inr ⟨Qdq _,_,_,_,r1,r5,hS⟩⟩ ⟨_,_,_,_,rfl,hS,hx,hy,r5⟩ old
  ·have ne:∀{b:Gc},b<S->c≠b:=fun hb=>Ug (U7 hb hc);refine Iw D r oc' ti it1 it2 a2 hx hy fun h' tk tk' r1 r2 r3 r4 r5 =>?_;obtain⟨ta,tb,to⟩:=to;refine q _ h' tk' (fun b o nb e=>r5 b o (fun z=>z.elim (fun z=>nb (.inl z)) fun z=>nb (.inr (.inr z))) e) ⟨r5 _ _ (fun z=>z.elim D.TIz fun z=>z.elim D.TIi1 D.TIi2) ti,⟨_,_,r5 _ _ (fun z=>z.elim D.TOz fun z=>z.elim D.TOi1 D.TOi2) to⟩,r2,r3,a2.at fun o e=>r5 _ _ (fun z=>z.elim D.l2z fun z=>z.elim D.l2i1 D.l2i2) e,
    .inr ⟨Qdq _,_,_,_,r1,r5 _ _ (fun z=>z.elim (ne b1) fun z=>z.elim (ne b4) (ne b5)) oc',hc⟩⟩ ⟨_,_,_,_,rfl,hS,hx,hy,r4⟩ old
 stop:=fun s Q E st hS q=>by
  obtain⟨ti,to,it1,it2,a2,zp⟩:=st
  rcases zp with ⟨_,r⟩|⟨hi0,c,f,oc,r,oc',hc⟩
  ·rw[r] at hn;exact absurd hn (Ue _)
  ·exact GJ hh D r oc' ti it1 (Ur (Je _)) fun h' k=>q h' s.toks fun b o nb e=>k b o (fun z=>z.elim (fun z=>nb (.inl z)) fun z=>nb (.inr (.inr z))) e
 keepS:=fun i h h' st k=>by
  obtain⟨ti,⟨a,b,to⟩,it1,it2,a2,zp⟩:=st;refine⟨k _ _ (Jo b2) ti,⟨a,b,k _ _ (Jo b3) to⟩,dh it1 fun o e=>k _ o (Jo b4) e,it2.at fun o e=>k _ o (Jo b5) e,a2.at fun o e=>k _ o (Jo b6) e,?_⟩
  rcases zp with ⟨r,r0⟩|⟨hi0,c,f,oc,r,oc',hc⟩
  ·exact .inl ⟨k _ _ (Jo b1) r,r0⟩
  ·exact .inr ⟨hi0,c,f,oc,k _ _ (Jo b1) r,k _ _ (Ug hc) oc',hc⟩
 keepP:=fun j v h h' hz_ k=>ai.el hz_ _ fun a c tk y e ha h1 h2 p=>by
  have ne:∀{b:Gc},b<S->a≠b:=fun hb=>Ug (U7 hb ha);exact⟨a,c,tk,y,e,ha,h1,h2,k _ _ (fun z=>z.elim (fun z=>z.elim (ne b1) fun z=>z.elim (ne b3) fun z=>z.elim (ne b4) (ne b5)) (Ug ha)) p⟩
 nolen:=by rw[QcS,QbT];kernel_rfl
 nohint:=by rw[QcS,QbT];kernel_rfl
 nl:=∅
 nt:=∅
section
variable {X:Cx}
def ZS (K:Ja)(ta:TA):TE:=fun σ H Q=>ta σ H fun vs H1=>sF fun x l2 ys=>vs=[.str x,.ref l2]/\aX K H1 l2 ys/\x.cps.all (· < 128)=true/\0<x.cps.size/\x.cps.size<=ys.length /\
 ∀H' p (as:List Gc),ak H1 H'->H1 p=none->H' p=some (.lst (as.map V.ref))->as.length=x.cps.size ->
  (∀(j:Nat) a c y,as[j]? = some a->x.cps[j]? = some c->ys[j]? = some y->H1 a=none/\H' a=some (.tup [.str ⟨#[c]⟩,y]))->Q (.ref p) H'
def yk {p p2 pos qK:Pos}(hc:X.calm=true)(Nb:Gl X "list")(Nw:X.mg "list" = none)(RK:Gl X "zip")(TB:X.mg "zip" = none)(ha:PA X [a,b] ta)
  (Hc:QaT "list" = some (.type "list"):=by first|rfl|decide) (Rt:QaT "zip" = some (.type "zip"):=by first|rfl|decide)
  (Oe:Qaj [.Call (.Name "zip" p2) [a,b] [] qK] X.env=[(false,QaR (.Call (.Name "zip" p2) [a,b] [] qK) X.env)]:=by rfl)
  (hs:Qaj [a,b] X.env=[(false,QaR a X.env),(false,QaR b X.env)]:=by rfl) (B5:Qaj [b] X.env=[(false,QaR b X.env)]:=by rfl) :
  PE X (.Call (.Name "list" p) [.Call (.Name "zip" p2) [a,b] [] qK] [] pos) (ZS X.K ta):=by
 refine fun pins s σ H Q I h=>QaS (eY I Nb Nw Hc (Qan (Qb6 (Call_ (eY I RK TB Rt (Qan (bh (ha s σ H _ I h) fun us s1 hz_=>ai.el hz_ _ fun vs H1 I1 r1 q1 =>?_) (by rw[hs,B5]) (by rw[B5];rfl))))) Oe rfl));obtain⟨x,l2,ys,e,q2,xa,xp,xy,q⟩:=q1;subst e;obtain⟨u,w',rfl,ru,r2⟩:=vals2 r1;cases r2;obtain⟨t,rfl⟩:∃t,u = .str x t:=ru;refine ai.el (I1.list q2) _ ?_;rintro its2 rv2 p2 hz2;have e2:=rv2.length;have a2:l2<s1.heap.objs.size:=by obtain⟨_,e,_⟩:=p2.isList;exact Jf e
 refine Hz xa p2.isList fun h' hz tj zW hi1 hi2 hsz hk=>Qcd ?_;have uh:s1.heap.objs.size<=h'.objs.size:=by rw[hsz];exact Ul _ _
 have jv:∀n,n<5->s1.heap.objs.size+n<h'.objs.size:=fun n hn=>by rw[hsz];exact QdZ hn _
 have zs:∀o,B9 (s1.heap.objs.size+4) (s1.heap.objs.size+2) (s1.heap.objs.size+3) s1.heap.objs.size (s1.heap.objs.size+1) l2 h'.objs.size x t its2.toArray 0 (h'.push o):=fun o=>
  ⟨Jb _ tj,⟨_,_,Jb _ zW⟩,dh hi1 fun o e=>Jb _ e,hi2.at fun o e=>Jb _ e,(p2.isList.at fun o e=>hk _ o e).push _,.inl ⟨Jb _ hz,rfl⟩⟩
 refine uG (Ir (I.ok.hd hc) xp (by simp;lia) (QeK a2 a2) (jv 4 ∅) (jv 2 ∅) (jv 3 ∅) (jv 0 ∅) (jv 1 ∅) (Jx a2 uh)) ⋯ zs fun h2 tk acc c hk2 G =>?_;obtain⟨hS2,hsz2,hpw,jR⟩:=G;obtain⟨as,hU⟩:=p9 (l:=acc.toList) fun v hv=>by
  obtain⟨j,hj⟩:=J7.mp hv;obtain⟨a,_,_,_,e,_⟩:=jR j v (by simpa using hj);exact⟨a,e⟩
 have jM:∀j a,as[j]? = some a->sF fun c tk y=>h'.objs.size<a/\x.cps[j]? = some c/\its2.toArray[j]? = some y/\Qbo h2 a (.str ⟨#[c]⟩ tk) y:=fun j a h=>by
  obtain⟨a',c,tk,y,e,g⟩:=jR j (.ref a) (by
   have:acc.toList[j]? = some (.ref a):=by rw[hU,Jj,h];rfl
   simpa using this)
  cases e;exact⟨c,tk,y,g⟩
 have above:∀a∈as,h'.objs.size<a:=fun a ha=>by
  obtain⟨j,hj⟩:=J7.mp ha;obtain⟨_,_,_,g,_⟩:=jM j a hj;exact g
 have old:∀b o,s1.heap.get? b=some o->h2.get? b=some o:=fun b o e=>by
  have gt:∀n,b≠s1.heap.objs.size+n:=fun n=>Jo (Jx (Jf e) (Ul _ _));exact hk2 b o (fun z=>z.elim (gt 4) fun z=>z.elim (gt 3) fun z=>z.elim (gt 0) (gt 1)) (hk b o e)
 have I2:Inv X pins σ H1 { s1 with heap:=h2,toks:=tk }:=I1.kept old;have tP:=fun a ha=>Yi (J6 uh (above a ha));have nd:as.Nodup:=by
  rw[hU,Qee] at hpw;exact hpw.imp fun hz_=>ai.el hz_ _ fun a b e1 e2 h=>by cases e1;cases e2;exact Jo h
 have eU:∀a,s1.heap.objs.size<=a->gj X pins H1 a/\X.s₀.heap.objs.size<=a:=fun a ha=>⟨I1.eU ha (I1.bE.fresh ha),Jg I1.sz ha⟩
 have FP:as.length=x.cps.size:=by
  have z:acc.toList.length=as.length:=by rw[hU,Jc]
  simp at z hsz2;lia
 let ps:List (List V):=(x.cps.toList.zip ys).map fun q=>[V.str ⟨#[q.1]⟩,q.2]
 have psg:∀j c y,x.cps[j]? = some c->ys[j]? = some y->ps[j]? = some [V.str ⟨#[c]⟩,y]:=fun j c y h1 h2=>by
  rw[Jj,(U5 (z:=(c,y))).mpr ⟨by simpa using h1,h2⟩]
  rfl
 obtain⟨H',I',sm,same,all⟩:=I2.mN as ps nd (by show _=((x.cps.toList.zip ys).map _).length;rw[Jc,Yh];have:=Ub (xs:=x.cps);lia) (fun a ha=>eU a (tP a ha)) (fun j a pp h1 h2'=>by
  refine ai.el (jM j a h1) _ ?_;rintro c tk y _ g1 g2 g3;refine ai.el (kF rv2 g2) _ ?_;rintro vy gy ry;rw[psg j c vy g1 gy] at h2';cases h2';exact⟨by show 2<=M2;decide,[.str ⟨#[c]⟩ tk,y],.cons ⟨_,rfl⟩ (.cons ry .nil),⟨_,g3,rfl,rfl,_,rfl⟩⟩)
 have IB:=fun hm=>Ue _ (above _ hm);have nP:=I1.bE.fresh uh;obtain⟨fS,sS⟩:=eU h'.objs.size uh;have I3:=I'.adopt (o := .lst (as.map V.ref)) ⟨by rw[same _ IB];exact nP,fS.2⟩ sS ⟨by rw[Jc];lia,acc.toList,c,by
  rw[hU];clear hS2 hU all same I' sm tP nd FP IB above jM
  induction as with
  | nil=>exact .nil
  | cons a r ih=>exact .cons rfl ih,by simpa using hS2⟩
 refine⟨.ref h'.objs.size,_,I3,rfl,q _ _ as (fun b o e =>?_) nP aq FP fun j a c y h1 h2' h3'=>⟨(eU a (tP a (J2 h1))).1.1,?_⟩⟩
 ·rw[ao (ax e nP)];exact sm b o e
 ·rw[ao (fun z=>IB (by rw[<-z];exact J2 h1))];exact all j a _ h1 (psg j c y h2' h3')
end
def CJ {β:Type}{M:Model}{A:Qax}{E:Fk->KE->Prop}{s s1:KE}{f:Nat -> β->Sem (ForInStep β)}{Q: β->KE->Prop}{b0 b1: β}{j:Nat}
  (go:∀i,i<j->∀R:ForInStep β->KE->Prop,R (.yield b0) s->Qaa M A (f i b0) R E s) (stop:∀R:ForInStep β->KE->Prop,R (.done b1) s1->Qaa M A (f j b0) R E s) (q:Q b1 s1) :
  ∀(n k:Nat),k<=j->j<k+n->Qaa M A (forIn (List.range' k n) b0 f) Q E s
 | 0,k,h1,h2=>by lia
 | n+1,k,h1,h2=>by
  rw[List.range'_succ,QeG]
  by_cases h:k=j
  ·subst h;exact be (stop _ (tz q))
  ·exact be (go k ⋯ _ (CJ go stop q n (k+1) ⋯ ⋯))
section
variable {X:Cx}
def Pa (K:Ja)(hK:X.K=K:=by rfl):QD X "tuple.index" (fun x vs H Q=>pH fun(l:Gc) (xs:List Str) (y:Str) (j:Nat)=>x = .ref l/\vs=[.str y]/\bg K H l (xs.map V.str)/\xs[j]? = some y/\(∀m,m<j->xs[m]? ≠ some y)/\Q (.int (j:Nat)) H):=by
 subst hK;intro pins s σ H x vs v us Q I rx rv h;refine ai.el h _ ?_;rintro l xs y j rfl rfl hH hj MS q;cases rx;obtain⟨u,rfl,t,rfl⟩:=vals1 rv;obtain⟨aA,r,⟨o,ho,hc,n,hd⟩,hz⟩:=I.tuple hH;have hlen:=r.length;rw[Jc] at hlen;have jl:j<xs.length:=(Jm.mp hj).1;have at':∀m (hm:m<xs.length),∃t',aA.toArray[m]? = some (.str (xs[m]) t'):=fun m hm=>by
  obtain⟨a,h1,h2⟩:=kF r (i:=m) (v:=aA[m]'⋯) (by simp);rw[Jj,Jd hm] at h1;cases h1;obtain⟨t',e⟩:=h2;exact⟨t',by rw[Wa,Jd ⋯,e]⟩
 refine Qar F.slot_tuple_index ⟨_,ho,hc⟩ F.entry_tuple_index ?_ (F.args_tuple_index_2 _ _);unfold Builtin.«tuple.index»;refine be (m:=selfAndSome _ _ _ _ _) (tz ?_);refine be (wpAny_tupleItemsOf ho hd ?_);dsimp only;refine be (tz (be (tz ?_)));refine be ?_;rw[Std.Legacy.Range.forIn_eq_forIn_range'];refine CJ (j:=j) (b1:=(some (.done (.ret (.int (j:Nat) s.toks))),())) (s1:={ s with toks:=s.toks+1 }) (fun i hi R hR =>?_) (fun R hR =>?_) ?_ _ 0 (Um _) ?_
 ·obtain⟨t',e⟩:=at' i ⋯;rw[e];refine be (Qe7 ?_);have FI:xs[i]'⋯≠y:=fun z=>MS i hi (by rw[Jd ⋯,z]);rw[decide_eq_false FI];exact tz hR
 ·obtain⟨t',e⟩:=at' j jl;rw[e];refine be (Qe7 ?_);have he:xs[j]=y:=(Jm.mp hj).2;rw[decide_eq_true he]
  wp_walk
  exact hR
 ·exact tz ⟨_,rfl,.int (j:Nat),H,I.tok _,⟨_,rfl⟩,q⟩
 ·simp;lia
end
end L2
namespace Z
open PySem L2
def sizeOk {n:Nat}(h:n<=10000000):n<=M2:=Jg h ∅
def nA (l:List Str)(h:decide l.Nodup=true:=by decide +kernel):l.Nodup:=of_decide_eq_true h
def IJ (i:Nat):(2:Int)^i+2^i=2^(i+1):=by rw[QcN];lia
end Z
namespace L2
set_option genSizeOf false
set_option genInjectivity false
set_option genSizeOf false
set_option genInjectivity false
end L2
namespace Z
open PySem L2
structure xU (H:Hp)(b c:Gc)(t:Int)(ns:List Int):Prop where
 d:H b=some (.dK [(.inr "cells",.ref c),(.inr "turn",.int t)])
 l:H c=some (.lst (ns.map V.int))
 ne:0<ns.length
 le:ns.length<=64
def ip (H:Hp)(b c:Gc):Hp:=fun a=>if a=b\/a=c then none else H a
def cZ {H:Hp}{b c a:Gc}(h1:a≠b)(h2:a≠c):ip H b c a=H a:=if_neg (fun z=>z.elim h1 h2)
def oE {H:Hp}{b c a:Gc}{o:HO}(h:ip H b c a=some o):H a=some o/\a≠b/\a≠c:=by
 unfold ip at h
 split at h
 ·cases h
 ·rename_i n;exact⟨h,fun z=>n (.inl z),fun z=>n (.inr z)⟩
def xU.bc {H:Hp}{b c:Gc}{t:Int}{ns:List Int}(x:xU H b c t ns):b≠c:=rE x.d x.l (by intro z;cases z)
def xU.Ie {H:Hp}{b c:Gc}{t:Int}{ns:List Int}(x:xU H b c t ns):d7 H b (.str "turn") (some (.int t)):=d7.k (k:=Qbb "turn") x.d
def xU.oI {H:Hp}{b c:Gc}{t:Int}{ns:List Int}(x:xU H b c t ns):d7 H b (.str "cells") (some (.ref c)):=d7.k (k:=Qbb "cells") x.d
def xU.JT {H:Hp}{b c:Gc}{t:Int}{ns:List Int}(x:xU H b c t ns)(t':Int):tH H b (.str "turn") (.int t') (upd H b (.dK [(.inr "cells",.ref c),(.inr "turn",.int t')])):=
 tH.k (k:=Qbb "turn") x.d (by show 2<M2;decide)
def xU.turned {H:Hp}{b c:Gc}{t:Int}{ns:List Int}(x:xU H b c t ns)(t':Int):xU (upd H b (.dK [(.inr "cells",.ref c),(.inr "turn",.int t')])) b c t' ns:=
 ⟨aq,by rw[ao (QaB x.bc)];exact x.l,x.ne,x.le⟩
def EG {H:Hp}{b c:Gc}{o:HO}:ip (upd H b o) b c=ip H b c:=by
 funext a;unfold ip;split
 ·rfl
 ·rename_i n;exact ao (fun z=>n (.inl z))
def Dh {H:Hp}{b c:Gc}{o:HO}:ip (upd H c o) b c=ip H b c:=by
 funext a;unfold ip;split
 ·rfl
 ·rename_i n;exact ao (fun z=>n (.inr z))
def Bb:Sp:=fun vs H Q _=>zR fun(b c:Gc) (t:Int) (ns:List Int) (many:Int)=>vs=[.ref b,.int many]/\xU H b c t ns/\0<=t/\t<100000000/\0<many/\many<1073741824 /\
 ∀(r:Int) (H':Hp) (LV:List Int),0<=r->r<many->xU H' b c (t+1) LV->ak (ip H b c) (ip H' b c)->Q (.int r) H'
def at_of {ns:List Int}{p:Int}(h0:0<=p)(h1:p<ns.length):∃v,CL (ns.map V.int) p=some (.int v)/\ns[p.toNat]? = some v:=by
 have hk:p.toNat<ns.length:=by lia
 have ek:p=((p.toNat:Nat):Int):=by lia
 have q:CL (ns.map V.int) ((p.toNat:Nat):Int)=some (.int ns[p.toNat]):=kn (by rw[Jj,Jd hk]<;>rfl);rw[<-ek] at q;exact⟨_,q,Jd hk⟩
def Nq {a j m:Int}(h0:0<m)(h:m<2^64):A0 (a%m) j:=by
 have h1:=QcG a (b:=m) ⋯;have h2:=Qca a h0;exact .inl ⟨⋯,⋯⟩
def NK {n:Nat}{p:Int}(h0:0<=p)(h1:p<n):FH n p=some p.toNat:=by unfold FH;rw[if_pos h0,if_pos h1]
def sV {H H':Hp}{b c:Gc}(h:∀a o,a≠b->a≠c->H a=some o->H' a=some o):ak (ip H b c) (ip H' b c):=fun a o e=>by
 refine ai.el (oE e) _ ?_;rintro e h1 h2;rw[cZ h1 h2];exact h a o h1 h2 e
end Z
namespace L2
open PySem
def Gm (t:TG):Prop:=∀x σ H (Q Q':St->Hp->Prop),(∀a b,Q a b->Q' a b)->t x σ H Q->t x σ H Q'
def Vb (t:Fp):Prop:=∀x σ H (Q Q':St->Hp->Prop),(∀a b,Q a b->Q' a b)->t x σ H Q->t x σ H Q'
def bA {i:Nat}:Gm (sy i):=fun _ _ _ _ _ h q=>h _ _ q
def cw:Vb Nr:=fun _ _ _ _ _ h q=>⟨q.1,h _ _ q.2⟩
def dQ {t:TG}{u:Fp}(a:Gm t)(b:Vb u):Vb (HS t u):=fun _ _ _ _ _ h ⟨v,r,e,q⟩=>⟨v,r,e,a _ _ _ _ _ (fun _ _ z=>b _ _ _ _ _ h z) q⟩
def Qg {K:Ja}{n:Nat}{t:Fp}(a:Vb t):Gm (K1 K n t):=fun _ _ _ _ _ h ⟨v,r,e,h1,h2,q⟩=>⟨v,r,e,h1,h2,a _ _ _ _ _ h q⟩
def aI.get {K:Ja}{H:Hp}:∀{ds:List Qac} {vs:List V} {i:Nat} {d:Qac},aI K H ds vs->ds[i]? = some d->∃v,vs[i]? = some v/\Den K H d v
 | [],_,_,_,_,e=>by simp at e
 | d::ds,vs,i,d',h,e=>by
  unfold aI at h;obtain⟨v,r,rfl,h1,h2⟩:=h;cases i with
  | zero=>cases e;exact⟨v,rfl,h1⟩
  | succ i=>exact aI.get (i:=i) h2 e
def aI.len {K:Ja}{H:Hp}:∀{ds:List Qac} {vs:List V},aI K H ds vs->vs.length=ds.length
 | [],_,h=>by unfold aI at h;subst h;rfl
 | d::ds,vs,h=>by
  unfold aI at h;obtain⟨v,r,rfl,h1,h2⟩:=h;rw[Jq,Jq,aI.len h2]
def Den.pair {K:Ja}{H:Hp}{a b:Str}{v:V}(h:Den K H (.tuple [.str a,.str b]) v):∃p,v = .ref p/\bg K H p [.str a,.str b]:=by
 unfold Den at h;obtain⟨p,vs,e,h1,h2⟩:=h;unfold aI at h2;obtain⟨v1,r1,rfl,d1,h2⟩:=h2;unfold aI at h2;obtain⟨v2,r2,rfl,d2,h2⟩:=h2;unfold aI at h2;subst h2;unfold Den at d1 d2;subst d1 d2;exact⟨p,e,h1⟩
end L2
namespace Z
open PySem L2
def aQ (bk:List (Str×Str)):Qac := .list (bk.map fun q =>.tuple [.str q.1,.str q.2])
def bG {H:Hp}{p:Gc}(h:H p=none)(o:HO):ak H (upd H p o):=fun b u q=>by rw[ao (ax q h)];exact q
end Z
namespace L2
open PySem
def j3 {J:It}{g:TG}{tb:TS}{D:Ends}{σ:St}{H:Hp}(N:Nat)(Pv:Nat->St->Hp->Prop)(h0:Pv 0 σ H)
  (go:∀i σ H,i<N->Pv i σ H->J.go i H/\∀x H',J.yld i H x H'->g x σ H' fun σ2 H2=>tb { D with nx:=Pv (i+1),ct:=Pv (i+1),bk:=D.nx } σ2 H2)
  (stop:∀ σ H,Pv N σ H->J.stop N H/\D.nx σ H) :
  ∃W:Nat->Nat->St->Hp->Prop,(∃m,W 0 m σ H)/\∀i m σ H,W i m σ H ->
   (J.stop i H/\D.nx σ H)\/(J.go i H/\∃N:St->Hp->Prop,(∀ σ' H',N σ' H'->∃m',m'<m/\W (i+1) m' σ' H')/\∀x H',J.yld i H x H'->g x σ H' fun σ2 H2=>tb { D with nx:=N,ct:=N,bk:=D.nx } σ2 H2):=by
 refine⟨fun i m σ H=>m=N-i/\i<=N/\Pv i σ H,⟨N,by simp,Um _,h0⟩,?_⟩;intro i m σ H;refine ai.go ?_;rintro rfl hi p
 by_cases iL:i<N
 ·obtain⟨g1,g2⟩:=go i σ H iL p;exact .inr ⟨g1,Pv (i+1),fun σ' H' p'=>⟨N-(i+1),⋯,rfl,iL,p'⟩,g2⟩
 ·have e:i=N:=by lia
  subst e;exact .inl (stop σ H p)
def dJ {t u:TS}{D:Ends}{σ:St}{H:Hp}(Ex:St->Hp->Prop)(h:∀Nx:St->Hp->Prop,(∀ σ H,Ex σ H->Nx σ H)->t { D with nx:=Nx } σ H)(fin:∀ σ H,Ex σ H->u D σ H):HN t u D σ H:=h (u D) fin
def M5 {t:TE}{σ:St}{H:Hp}{Q:VK}(Ex:V->Hp->Prop)(h:∀Qn:VK,(∀v H,Ex v H->Qn v H)->t σ H Qn)(fin:∀v H,Ex v H->Q v H):t σ H Q:=h Q fin
def mv {c:TT}{tb:TS}{D:Ends}{σ:St}{H:Hp}(Pv:Nat->St->Hp->Prop)(h0:∃m,Pv m σ H)
  (hs:∀m σ H,Pv m σ H->c σ H fun b H1=>if b=true then ∃N:St->Hp->Prop,(∀ σ' H',N σ' H'->∃m',m'<m/\Pv m' σ' H')/\tb { D with nx:=N,ct:=N,bk:=D.nx } σ H1 else D.nx σ H1):ll c tb D σ H:=⟨Pv,h0,hs⟩
def gu {te:TE}{g:TG}{u:TS}{D:Ends}{σ:St}{H:Hp}(Ex:V->Hp->Prop)(h:∀Qn:VK,(∀v H,Ex v H->Qn v H)->te σ H Qn)(fin:∀v H,Ex v H->g v σ H (u D)):HN (Hm te g) u D σ H:=h _ fin
def N2 {te:TE}{g:TG}{D:Ends}{σ:St}{H:Hp}(Ex:V->Hp->Prop)(h:∀Qn:VK,(∀v H,Ex v H->Qn v H)->te σ H Qn)(fin:∀v H,Ex v H->g v σ H D.nx):Hm te g D σ H:=h _ fin
def gn {i:Nat}{v:V}{σ:St}{H:Hp}{Q:St->Hp->Prop}(h:Q (σ.set i (some v)) H):sy i v σ H Q:=h
end L2
namespace Z
open PySem L2
def Bx (H:Hp)(b c:Gc)(t:Int):Prop:=∃ns,xU H b c t ns
structure Step (b c:Gc)(H H':Hp)(t t' N:Int):Prop where
 le:t<=t'
 ub:t'<=t+N
 bx:Bx H' b c t'
 sm:ak (ip H b c) (ip H' b c)
def Step.refl {b c:Gc}{H:Hp}{t:Int}(h:Bx H b c t):Step b c H H t t 0:=⟨QdO _,⋯,h,ak.refl _⟩
def Step.trans {b c:Gc}{H H' H2:Hp}{t t' t2 N M:Int}(x:Step b c H H' t t' N)(y:Step b c H' H2 t' t2 M):Step b c H H2 t t2 (N+M):=
 ⟨by have:=x.le;have:=y.le;lia,by have:=x.ub;have:=y.ub;lia,y.bx,x.sm.trans y.sm⟩
def Step.more {b c:Gc}{H H':Hp}{t t' N M:Int}(x:Step b c H H' t t' N)(h:N<=M):Step b c H H' t t' M:=⟨x.le,by have:=x.ub;lia,x.bx,x.sm⟩
def Bx.bq {H:Hp}{b c p:Gc}{t:Int}(x:Bx H b c t)(h:H p=none):p≠b/\p≠c:=by
 obtain⟨ns,x⟩:=x;exact⟨fun z=>(by rw[z,x.d] at h;cases h),fun z=>(by rw[z,x.l] at h;cases h)⟩
def Bx.upd {H:Hp}{b c p:Gc}{t:Int}{o:HO}(x:Bx H b c t)(h1:p≠b)(h2:p≠c):Bx (upd H p o) b c t:=by
 obtain⟨ns,x⟩:=x;exact⟨ns,by rw[ao (QaB h1)];exact x.d,by rw[ao (QaB h2)];exact x.l,x.ne,x.le⟩
def Step.new {b c p:Gc}{H H':Hp}{t t' N:Int}(x:Step b c H H' t t' N)(h:H' p=none)(o:HO):Step b c H (upd H' p o) t t' N:=
 ⟨x.le,x.ub,x.bx.upd (x.bx.bq h).1 (x.bx.bq h).2,x.sm.trans (sV fun a u _ _ e=>by rw[ao (ax e h)];exact e)⟩
def Step.chg {b c p:Gc}{H H':Hp}{t t' N:Int}(x:Step b c H H' t t' N)(h:H p=none)(h1:p≠b)(h2:p≠c)(o:HO):Step b c H (upd H' p o) t t' N:=
 ⟨x.le,x.ub,x.bx.upd h1 h2,fun a u e=>by
  have q:=x.sm a u e;refine ai.el (oE q) _ ?_;rintro q n1 n2;rw[cZ n1 n2,ao (fun z =>?_)]
  ·exact q
  ·rw[z] at e;rw[(oE e).1] at h;cases h⟩
def Step.old {b c a:Gc}{H H':Hp}{t t' N:Int}{o:HO}(x:Step b c H H' t t' N)(h:H a=some o)(h1:a≠b)(h2:a≠c):H' a=some o:=
 (oE (x.sm a o (by rw[cZ h1 h2];exact h))).1
def Step.fresh {b c a:Gc}{H H':Hp}{t t' N:Int}(x:Step b c H H' t t' N)(hb:Bx H b c t)(h:H' a=none):H a=none:=by
 obtain⟨h1,h2⟩:=x.bx.bq h;cases e:H a with
 | none=>rfl
 | some o=>rw[x.old e h1 h2] at h;cases h
def ak.ip {H H':Hp}{b c:Gc}(s:ak H H'):ak (ip H b c) (ip H' b c):=sV fun a o _ _ e=>s a o e
def Bx.same {H H':Hp}{b c:Gc}{t:Int}(x:Bx H b c t)(s:ak H H'):Bx H' b c t:=by
 obtain⟨ns,x⟩:=x;exact⟨ns,s _ _ x.d,s _ _ x.l,x.ne,x.le⟩
def Step.same {b c:Gc}{H H':Hp}{t:Int}(x:Bx H b c t)(s:ak H H'):Step b c H H' t t 0:=⟨QdO _,⋯,x.same s,ak.ip s⟩
def Ez:Sp:=fun vs H Q _=>pH fun(b c:Gc) (t many:Int)=>vs=[.ref b,.int many]/\Bx H b c t/\0<=t/\t<100000000/\0<many/\many<1073741824 /\
 ∀(r:Int) (H':Hp),0<=r->r<many->Step b c H H' t (t+1) 1->Q (.int r) H'
def LU {vs:List V}{H:Hp}{Q:VK}{E:XK}(h:Ez vs H Q E):Bb vs H Q E:=by
 obtain⟨b,c,t,many,e,⟨ns,bx⟩,h1,h2,h3,h4,q⟩:=h;exact⟨b,c,t,ns,many,e,bx,h1,h2,h3,h4,fun r H' LV r0 r1 bx' sm=>q r H' r0 r1 ⟨⋯,⋯,⟨LV,bx'⟩,sm⟩⟩
def N5 (vs:List V)(j:Nat):kL vs none (some (j:Int))=vs.take j:=by
 unfold kL;rw[HT.xY,HT.kq,QdI,Nat.sub_zero]
 rcases QfU j vs.length with h|h
 ·rw[Nat.min_eq_left h]
 ·rw[Nat.min_eq_right h,Us (Je _),Us h]
def qL (vs:List V)(j:Nat):kL vs (some (j:Int)) none=vs.drop j:=by
 unfold kL;rw[HT.xY,HT.kq]
 rcases QfU j vs.length with h|h
 ·rw[Nat.min_eq_left h,Us (by rw[Uv];exact Je _)]
 ·rw[Nat.min_eq_right h,QfD (Je _),QfD h];simp
def Fn.imp {P:Qaf}{w:Qag}{K:Ja}{mg:Str->Option Fk}{base:Heap}{k:Nat}{x:Str}{ps:List Str}{sp MK:Sp}(F:Fn P w K mg base k x ps sp)(h:∀vs H Q E,MK vs H Q E->sp vs H Q E):Fn P w K mg base k x ps MK:=by
 refine ai.el (F.ex) _ ?_;rintro f fd a b c d;exact⟨f,fd,a.imp h,b,c,d⟩
def Step.pK {b c p:Gc}{H H' H2:Hp}{t t' N:Int}{o:HO}(x:Step b c H H' t t' N)(n:ju H' p o H2):Step b c H H2 t t' N:=by rw[n.eq];exact x.new n.nn _
def Step.JK {b c p:Gc}{H H' H2:Hp}{t t' N:Int}{o:HO}(x:Step b c H H' t t' N)(n:Ip H' p o H2)(h:H p=none)(h1:p≠b)(h2:p≠c):Step b c H H2 t t' N:=by rw[n.eq];exact x.chg h h1 h2 _
def sQ (x:Str):Prop:=∀c∈x.cps.toList,c=48\/c=49
def rQ (g:Str):∀(parts:List Str) (acc:Array Nat),(parts.foldl (fun acc p=>acc++g.cps++p.cps) acc).toList=acc.toList++parts.flatMap (fun p=>g.cps.toList++p.cps.toList)
 | [],acc=>by simp
 | p::r,acc=>by rw[List.foldl_cons,rQ g r];simp
def cP (xs:List Str):(QaQ "" xs).cps.toList=xs.flatMap (fun p=>p.cps.toList):=by
 cases xs with
 | nil=>rfl
 | cons x r=>
  show((r.foldl (fun acc p=>acc++(Wp "").cps++p.cps) x.cps)).toList=_;rw[rQ];have e:(Wp "").cps.toList=[]:=rfl;simp[e]
def aH (x y:Str):(x++y).cps.toList=x.cps.toList++y.cps.toList:=by
 show(x.cps++y.cps).toList=_;simp
def str_len (x:Str):x.length=x.cps.toList.length:=by simp[Str.length]
def Sh (n:Nat)(d:Qac):Prop:=d.canLay0=true/\d.depth<=n
def Sh.all {n:Nat}:∀{ds:List Qac},(∀d∈ds,Sh n d)->Qcb ds=true/\Qbq ds<=n
 | [],_=>⟨by simp[Qcb],by simp[Qbq]⟩
 | d::ds,h=>by
  obtain⟨h1,h2⟩:=h d Jn;obtain⟨h3,h4⟩:=Sh.all fun e he=>h e (Jk _ he);exact⟨by simp[Qcb,h1,h3],by simp only[Qbq];lia⟩
def Sh.list {n:Nat}{ds:List Qac}(h:∀d∈ds,Sh n d):Sh (n+1) (.list ds):=by
 obtain⟨h1,h2⟩:=Sh.all h;exact⟨by simpa [Qby] using h1,by simp only[Qa0];lia⟩
def Sh.tuple {n:Nat}{ds:List Qac}(h:∀d∈ds,Sh n d):Sh (n+1) (.tuple ds):=by
 obtain⟨h1,h2⟩:=Sh.all h;exact⟨by simpa [Qby] using h1,by simp only[Qa0];lia⟩
def Sh.shaped {n:Nat}{d:Qac}(h:Sh n d)(hn:n<=64):QaK d=true:=by
 unfold QaK;rw[h.1,decide_eq_true (Jg h.2 hn)]
 rfl
def Sh.str {n:Nat}{x:Str}(h:Qby (.str x)=true):Sh n (.str x):=⟨h,by simp[Qa0]⟩
def Sh.int {n:Nat}{i:Int}:Sh n (.int i):=⟨by simp[Qby],by simp[Qa0]⟩
def eC {x:Str}(h:∀ch∈x.cps.toList,ch<128):Qby (.str x)=true:=by
 simp only[Qby,PyData.strOk];rw[<-Array.all_toList,Yr];intro ch hc;have:=h ch hc;exact decide_eq_true ⋯
def Den.strs {K:Ja}{H:Hp}:∀(xs:List Str),aI K H (xs.map QbB) (xs.map V.str)
 | []=>by unfold aI;rfl
 | x::xs=>by
  rw[J0];unfold aI;exact⟨_,_,rfl,by unfold Den;rfl,Den.strs xs⟩
def Den.list {K:Ja}{H:Hp}{l:Gc}{ds:List Qac}{vs:List V}(h:aX K H l vs)(hd:aI K H ds vs):Den K H (.list ds) (.ref l):=by
 unfold Den;exact⟨l,vs,rfl,h,hd⟩
def nC {n:Nat}:∀{ds:List Qac} {d:Qac},Qbq ds<=n->d∈ds->d.depth<=n
 | [],_,_,h=>nomatch h
 | e::ds,d,hn,h=>by
  simp only[Qbq] at hn
  rcases Jw.mp h with rfl|h
  ·lia
  ·exact nC ⋯ h
def gf {n:Nat}:∀{ds:List Qac} {d:Qac},Qas ds<=n->d∈ds->d.weight<=n
 | [],_,_,h=>nomatch h
 | e::ds,d,hn,h=>by
  simp only[Qas] at hn
  rcases Jw.mp h with rfl|h
  ·lia
  ·exact gf ⋯ h
def iZ:∀(ds:List Qac),ds.length<=Qas ds
 | []=>by simp
 | e::ds=>by
  simp only[Qas,Jq];have:=iZ ds;lia
def all_true (n:Nat):(Jt n true).all id=true:=by
 induction n with
 | zero=>rfl
 | succ n ih=>rw[QcF,Qb3,ih];rfl
def aI.of_get {K:Ja}{H:Hp}:∀{ds:List Qac} {vs:List V},ds.length=vs.length->(∀(j:Nat) d v,ds[j]? = some d->vs[j]? = some v->Den K H d v)->aI K H ds vs
 | [],[],_,_=>by unfold aI;rfl
 | [],_::_,h,_=>by simp at h
 | _::_,[],h,_=>by simp at h
 | d::ds,v::vs,h,g=>by
  unfold aI;exact⟨v,vs,rfl,g 0 d v rfl rfl,aI.of_get (by simpa using h) fun j d' v' h1 h2=>g (j+1) d' v' h1 h2⟩
def kR (a b:Str):V:=if Qch a b=true then .str (QaN a (some (b.length:Nat)) none) else if Qch b a=true then .str (QaN b (some (a.length:Nat)) none) else .non
def u9:Sp:=fun vs H Q _=>∃a b:Str,vs=[.str a,.str b]/\a.length<=1000000/\b.length<=1000000/\Q (kR a b) H
section
variable {P:Qaf}{w:Qag}{K:Ja}{mg:Str->Option Fk}{base:Heap}{f:Gc}{fd:Qad}
def LK:aD ["one", "other"] ["one", "other"] (aj (top og)):=⟨rfl,rfl,rfl,∅,rfl,∅,∅⟩
def Mc (F:cj K "rest_of" "rest_of" (top og) f fd)(T:Nm mg):aW P w K mg base d6 1 f fd ["one", "other"] u9:=by
 refine F.ok LK (fun vs H Q E h =>?_) (fun cW A outer s H vs Q E hr h =>?_)
 ·obtain⟨a,b,rfl,_⟩:=h
  rfl
 unfold u9 at h;refine ai.el h _ ?_;clear h;rintro a b rfl ha hb q;refine⟨_,(af (bf (cN (uQ K QaA Qeo Qen kQ (pv 0) (aa (pv 1) ae))) (ag (au (cT (Zf K) (pv 0) (cx (av (fK K) rfl T.n_len (by rfl) (aa (pv 1) ae))) gR))) aF)
  (af (bf (cN (uQ K QaA Qeo Qen kQ (pv 1) (aa (pv 0) ae))) (ag (au (cT (Zf K) (pv 1) (cx (av (fK K) rfl T.n_len (by rfl) (aa (pv 0) ae))) gR))) aF)
  (ag (au cf)))),?_⟩
 unfold kR at q;refine⟨_,rfl,rfl,_,rfl,a,b,rfl,rfl,_,rfl,?_⟩;refine fR (fun c =>?_) (fun c =>?_)
 ·rw[if_pos c] at q;exact⟨_,rfl,_,rfl,_,_,rfl,⟨sizeOk (Jg hb ∅),rfl⟩,_,rfl,.inr ⟨a,rfl,sizeOk (Jg ha ∅),q⟩⟩
 ·rw[if_neg c] at q;refine⟨_,rfl,rfl,_,rfl,b,a,rfl,rfl,_,rfl,?_⟩;refine fR (fun c =>?_) (fun c =>?_)
  ·rw[if_pos c] at q;exact⟨_,rfl,_,rfl,_,_,rfl,⟨sizeOk (Jg ha ∅),rfl⟩,_,rfl,.inr ⟨b,rfl,sizeOk (Jg hb ∅),q⟩⟩
  ·rw[if_neg c] at q;exact q
end
def TM (bk:List (Str×Str))(j:Nat):Prop:=∀(i' j':Nat) a b,i'<j'->j'<j->bk[i']? = some a->bk[j']? = some b->kR a.2 b.2 = .non
def uY (K:Ja):Sp:=fun vs H Q _=>∃(v:V) (bk:List (Str×Str)),vs=[v]/\Den K H (aQ bk) v/\bk.length<=1000/\(∀q∈bk,q.2.length<=200000) /\
 (TM bk bk.length->∀H',ak H H'->Q .non H') /\
 ∀(i j:Nat) a b,bk[i]? = some a->bk[j]? = some b->i<j->TM bk j->(∀(i':Nat) a',i'<i->bk[i']? = some a'->kR a'.2 b.2 = .non)->kR a.2 b.2 ≠ .non ->
  ∀p H',ak H H'->H p=none->H' p=some (.tup [.str a.1,.str b.1])->Q (.ref p) H'
section
variable {P:Qaf}{w:Qag}{K:Ja}{mg:Str->Option Fk}{base:Heap}{f:Gc}{fd:Qad}
def tV:aD ["book", "at", "other", "code", "one", "code_ahead"] ["book"] (aj (top wq)):=⟨rfl,rfl,rfl,∅,rfl,∅,∅⟩
def GD (vs:List V)(j:Nat)(h:j<=vs.length):kL vs none (some (j:Int))=vs.take j:=by
 unfold kL;have e:HT.eg vs.length vs.length (some (j:Int))=j:=by
  unfold HT.eg;dsimp only;rw[if_neg (show ¬((j:Int)<0) by lia)];lia
 rw[e];show((vs.drop 0).take (j-0))=_;simp
def QR (F:cj K "clash" "clash" (top wq) f fd)(T:Nm mg)(Ob:Fn P w K mg base 1 "rest_of" ["one", "other"] u9):aW P w K mg base d6 2 f fd ["book"] (uY K):=by
 refine F.ok tV (fun vs H Q E h =>?_) (fun cW A outer s H vs Q E hr h =>?_)
 ·obtain⟨v,bk,rfl,_⟩:=h
  rfl
 obtain⟨v,bk,rfl,hD,hlen,hle,q0,q1⟩:=h;refine⟨_,(af (eQ Qay rfl (KG rfl T.n_enumerate (aa (pv 0) ae)) (tupK K 2 rfl (ay (ar (i:=1) tV.nd rfl (Qae rfl)) (ay (tupK K 2 rfl (ay (ar (i:=2) tV.nd rfl (Qae rfl)) (ay (ar (i:=3) tV.nd rfl (Qae rfl)) bD))) bD))) (ag (eQ Qay rfl (Kf K (cT (Zf K) (pv 0) gR (cx (pv 1)))) (tupK K 2 rfl (ay (ar (i:=4) tV.nd rfl (Qae rfl)) (ay (ar (i:=5) tV.nd rfl (Qae rfl)) bD))) (ag (bf (aK CP (aM Ob hr rfl (aa (pv 5) (aa (pv 3) ae))) cf (aO _)) (ag (au (Hs (aa (pv 4) (aa (pv 2) ae))))) aF)))))
  (ag (au cf))),?_⟩
 unfold aQ at hD;unfold Den at hD;obtain⟨l,vs,rfl,hS,hDs⟩:=hD;have hvl:vs.length=bk.length:=by rw[hDs.len,Jc]
 have item:∀i (hi:i<bk.length),∃a,vs[i]? = some (.ref a)/\bg K H a [.str bk[i].1,.str bk[i].2]:=fun i hi=>by
  obtain⟨x,hx,dx⟩:=hDs.get (i:=i) (d := .tuple [.str bk[i].1,.str bk[i].2]) (by rw[Jj,Jd hi];rfl);obtain⟨a,rfl,hT⟩:=dx.pair;exact⟨a,hx,hT⟩
 have Aj:∀i (hi:i<bk.length),bk[i].2.length<=1000000:=fun i hi=>Jg (hle _ (Ud hi)) ∅;refine⟨_,rfl,l,rfl,⟨_,hS⟩,?_⟩;refine j3 (N:=bk.length) (fun j σ H'=>ak H H'/\TM bk j/\∃x1 x2 x3 x4 x5,σ=[some (.ref l),x1,x2,x3,x4,x5]) ⟨ak.refl _,fun i' j' a b _ h=>absurd h (Wd _),_,_,_,_,_,rfl⟩ ?_ ?_
 ·rintro j σ H' hj ⟨sm,nc,x1,x2,x3,x4,x5,rfl⟩;obtain⟨a,hx,hT⟩:=item j hj;refine⟨⟨_,_,sm.seq hS,hx⟩,?_⟩;rintro x H2 ⟨t1,rfl,ht1,hy⟩;have e:=hy _ _ (sm.seq hS) hx;subst e;have iK:=sm.trans (bG ht1 (.tup [.int j,.ref a]));refine⟨t1,_,rfl,bg.of aq,rfl,_,_,rfl,_,_,rfl,a,_,rfl,iK.bZ hT,rfl,_,_,rfl,_,_,rfl,rfl,rfl,?_⟩;refine⟨_,rfl,_,rfl,_,rfl,.inl ⟨l,_,rfl,iK.seq hS,fun p hp =>?_⟩⟩;rw[GD vs j ⋯];have MX:=iK.trans (bG hp (.lst (vs.take j)));refine⟨p,rfl,⟨_,aX.of aq⟩,?_⟩;refine Gn (xs:=vs.take j) (fun i σ H4=>ak (upd (upd H' t1 (.tup [.int j,.ref a])) p (.lst (vs.take j))) H4/\(∀(i':Nat) a',i'<i->bk[i']? = some a'->kR a'.2 bk[j].2 = .non)/\∃y4 y5,σ=[some (.ref l),some (.int j),some (.str bk[j].1),some (.str bk[j].2),y4,y5]) ⟨ak.refl _,fun i' a' h=>absurd h (Wd _),_,_,rfl⟩ ?_ ?_ ?_
  ·rintro i σ H4 hi ⟨tY,_,_⟩;exact tY.seq (aX.of aq)
  ·rintro i x σ H4 hix ⟨tY,ng,y4,y5,rfl⟩;have yB:i<j:=by
    have:=(Jm.mp hix).1;rw[Uc] at this;lia
   have T4:i<bk.length:=by lia
   obtain⟨a',pF,hT'⟩:=item i T4;rw[Qfq yB,pF] at hix;cases hix;have W0:=MX.trans tY;refine⟨a',_,rfl,W0.bZ hT',rfl,_,_,rfl,_,_,rfl,rfl,?_⟩;refine⟨_,rfl,_,rfl,bk[i].2,bk[j].2,rfl,Aj i T4,Aj j hj,.inl ⟨rfl,_,rfl,?_⟩⟩;refine fR (fun c =>?_) (fun c =>?_)
   ·have hr:kR bk[i].2 bk[j].2 ≠ .non:=by simpa using c
    refine⟨_,rfl,_,rfl,by show 2<=M2;decide,fun t2 ht2 =>?_⟩;exact q1 i j bk[i] bk[j] (Jd T4) (Jd hj) yB nc ng hr t2 _ (W0.trans (bG ht2 _)) (W0.free ht2) aq
   ·have hr:kR bk[i].2 bk[j].2 = .non:=by simpa using c
    refine⟨tY,fun i' b' zy uI =>?_,_,_,rfl⟩
    by_cases z:i'<i
    ·exact ng i' b' z uI
    ·have:i'=i:=by lia
     subst this;rw[Jd T4] at uI;cases uI;exact hr
  ·rintro σ H4 ⟨tY,ng,y4,y5,rfl⟩;refine⟨MX.trans tY,fun i' j' a1 b1 h1 h2 e1 e2 =>?_,_,_,_,_,_,rfl⟩
   by_cases z:j'<j
   ·exact nc i' j' a1 b1 h1 z e1 e2
   ·have:j'=j:=by lia
    subst this;rw[Jd hj] at e2;cases e2;exact ng i' a1 (by rw[Uc];lia) e1
 ·rintro σ H' ⟨sm,nc,x1,x2,x3,x4,x5,rfl⟩;exact⟨⟨_,sm.seq hS,by rw[hvl];exact Je _⟩,q0 nc H' sm⟩
end
abbrev sg (x:Str):List Nat:=x.cps.toList
def RF (a b:Str):Prop := ¬(sg a <+: sg b)/\¬(sg b <+: sg a)
def RF.symm {a b:Str}(h:RF a b):RF b a:=⟨h.2,h.1⟩
def lj (x y:Str):sg (x++y)=sg x++sg y:=aH x y
def RF.ext {a b u v:Str}(h:RF a b):RF (a++u) (b++v):=by
 refine⟨fun z =>?_,fun z =>?_⟩
 ·rw[lj,lj] at z
  rcases Qcl ((Qb7 _ _).trans z) (Qb7 (sg b) (sg v)) with q|q
  ·exact h.1 q
  ·exact h.2 q
 ·rw[lj,lj] at z
  rcases Qcl ((Qb7 _ _).trans z) (Qb7 (sg a) (sg u)) with q|q
  ·exact h.2 q
  ·exact h.1 q
abbrev fE (cs:List Str):Prop:=cs.Pairwise RF
def fE.perm {cs ds:List Str}(h:fE cs)(p:cs.Perm ds):fE ds:=(p.pairwise_iff fun h=>RF.symm h).mp h
abbrev s0:Str := "0"
abbrev s1:Str := "1"
def RF.two (x:Str):RF (x++s0) (x++s1):=by
 have e0:sg (x++s0)=sg x++[48]:=aH x s0;have e1:sg (x++s1)=sg x++[49]:=aH x s1;refine⟨fun z =>?_,fun z =>?_⟩
 ·rw[e0,e1] at z;have:=z.eq_of_length (by simp);simp at this
 ·rw[e0,e1] at z;have:=z.eq_of_length (by simp);simp at this
def RF.one {x y u:Str}(h:RF y x):RF y (x++u):=by
 have z:=h.ext (u:=Qaq) (v:=u);have e:y++Qaq=y:=by
  show(⟨y.cps ++ #[]⟩:Str)=y;simp
 rw[e] at z;exact z
def fE.split {A B:List Str}{x:Str}(h:fE (A++x::B)):fE (A++[x++s0,x++s1]++B):=by
 rw[U0];refine ai.el (Y0.mp h) _ ?_;rintro hA hxB hAB;obtain⟨hx,hB⟩:=List.pairwise_cons.mp hxB;refine Y0.mpr ⟨hA,?_,fun a ha y hy =>?_⟩
 ·refine Y0.mpr ⟨List.pairwise_cons.mpr ⟨fun y hy=>by rw[Js.mp hy];exact RF.two x,Qb9 _ _⟩,hB,fun y hy z hz =>?_⟩;have q:=(hx z hz).symm;simp at hy
  rcases hy with rfl|rfl
  ·exact q.one.symm
  ·exact q.one.symm
 ·rcases J9.mp hy with hy|hy
  ·have q:=hAB a ha x Jn;simp at hy
   rcases hy with rfl|rfl
   ·exact q.one
   ·exact q.one
  ·exact hAB a ha y (Jk _ hy)
def iR (x y:Str):Qch x y=true↔sg y <+: sg x:=by
 have hl:y.length=(sg y).length:=str_len y;have hx:x.length=(sg x).length:=str_len x;have e:(x.cps.extract 0 (0+y.length)==y.cps)=true↔(sg x).take y.length=sg y:=by
  rw[beq_iff_eq,<-Array.toList_inj];simp[Array.toList_extract]
 show(decide (0+y.length<=x.length)&&(x.cps.extract 0 (0+y.length)==y.cps))=true↔_;rw[Jv,decide_eq_true_iff,e];constructor
 ·rintro⟨_,h⟩;rw[<-h];exact List.take_prefix _ _
 ·intro h;exact⟨by have:=h.length_le;lia,by rw[hl];exact(List.prefix_iff_eq_take.mp h).symm⟩
def tU {a b:Str}:kR a b = .non↔RF a b:=by
 unfold kR RF
 by_cases h1:Qch a b=true
 ·rw[if_pos h1];exact⟨(nofun),fun z=>absurd ((iR a b).mp h1) z.2⟩
 ·rw[if_neg h1]
  by_cases h2:Qch b a=true
  ·rw[if_pos h2];exact⟨(nofun),fun z=>absurd ((iR b a).mp h2) z.1⟩
  ·rw[if_neg h2];exact⟨fun _=>⟨fun z=>h2 ((iR b a).mpr z),fun z=>h1 ((iR a b).mpr z)⟩,fun _=>rfl⟩
def BM (bk:List (Str×Str)):TM bk bk.length↔fE (bk.map (·.2)):=by
 constructor
 ·intro h;refine Uz.mpr fun i j hi hj yB =>?_;rw[Jc] at hi hj;rw[Y9,Y9];exact tU.mp (h i j _ _ yB hj (Jd hi) (Jd hj))
 ·intro h i j a b yB hj ha hb;obtain⟨zy,rfl⟩:=Jm.mp ha;obtain⟨NT,rfl⟩:=Jm.mp hb;have z:=Uz.mp h i j (by rw[Jc];exact zy) (by rw[Jc];exact NT) yB;rw[Y9,Y9] at z;exact tU.mpr z
def Bq (K:Ja):Sp:=fun vs H Q _=>∃(v:V) (bk:List (Str×Str)),vs=[v]/\Den K H (aQ bk) v/\bk.length<=1000/\(∀q∈bk,q.2.length<=200000) /\
 (fE (bk.map (·.2))->∀H',ak H H'->Q (.bl true) H')/\(¬fE (bk.map (·.2))->∀H',ak H H'->Q (.bl false) H')
section
variable {P:Qaf}{w:Qag}{K:Ja}{mg:Str->Option Fk}{base:Heap}{f:Gc}{fd:Qad}
def Mn:aD ["book"] ["book"] (aj (top BE)):=⟨rfl,rfl,rfl,∅,rfl,∅,∅⟩
def KH (F:cj K "free" "free" (top BE) f fd)(T:Nm mg)(Lu:Fn P w K mg base 2 "clash" ["book"] (uY K)):aW P w K mg base d6 3 f fd ["book"] (Bq K):=by
 refine F.ok Mn (fun vs H Q E h =>?_) (fun cW A outer s H vs Q E hr h =>?_)
 ·obtain⟨v,bk,rfl,_⟩:=h
  rfl
 obtain⟨v,bk,rfl,hD,hl,hc,q1,q2⟩:=h;refine⟨_,(ag (au (eI tE (aM (Lu.mono ∅) hr rfl (aa (pv 0) ae)) cf (aO _)))),?_⟩;refine⟨_,rfl,v,bk,rfl,hD,hl,hc,fun nc H' sm =>.inl ⟨rfl,q1 ((BM bk).mp nc) H' sm⟩,fun i j a b ha hb yB _ _ FI p H' sm hp Z7 =>.inl ⟨rfl,q2 (fun fr =>?_) H' sm⟩⟩;exact FI ((BM bk).mpr fr i j a b yB (Jm.mp hb).1 ha hb)
end
end Z
set_option maxHeartbeats 30000000
namespace Z
open PySem L2
abbrev fG:Str := "01"
abbrev wY:Str := "abcdefghijklmnopqrstuvwxyz"
def ij (x y:Str):Bool:=decide (V.str (Qfc x y)=V.str (Wp ""))
def dF:Qac->Bool
 | .str x=>decide ((1:Int)<=(x.length:Nat))&&(decide (((x.length:Nat):Int)<=8)&&ij x wY)
 | _=>false
def cF:Qac->Bool
 | .str x => !decide (V.str x=V.str (Wp ""))&&ij x fG
 | _=>false
def bz:Qac->Bool
 | .tuple [a,b]=>dF a&&cF b
 | _=>false
def gm:Qac->Str
 | .tuple (.str x::_)=>x
 | _=>Qaq
def dr:Qac->Bool
 | .list ds => !ds.isEmpty&&(ds.all bz&&decide ((cp (fun i=>(ds.map gm).getD i Qaq) ds.length).length=ds.length))
 | _=>false
def qV (K:Ja):Sp:=fun vs H Q _=>∃(v:V) (d:Qac),vs=[v]/\Den K H d v/\d.weight<=300000/\QaK d=true/\(∀ds,d = .list ds->ds.length<=4000)/\∀H',ak H H'->Q (.bl (dr d)) H'
def rp:Sp:=fun vs H Q _=>∃x y:Str,vs=[.str x,.str y]/\x.length<=1000000/\Q (.bl (ij x y)) H
def nD (K:Ja)(f:Qac->Bool):Sp:=fun vs H Q _=>∃(v:V) (d:Qac),vs=[v]/\Den K H d v/\d.weight<=1000000/\∀H',ak H H'->Q (.bl (f d)) H'
section
variable {P:Qaf}{w:Qag}{K:Ja}{mg:Str->Option Fk}{base:Heap}{f:Gc}{fd:Qad}{t1 t2 t3:Tok}
def zX:aD ["text", "signs"] ["text", "signs"] (aj (top nI)):=⟨rfl,rfl,rfl,∅,rfl,∅,∅⟩
def L3 (F:cj K "made_of" "made_of" (top nI) f fd)(T:Nm mg):aW P w K mg base d6 1 f fd ["text", "signs"] rp:=by
 refine F.ok zX (fun vs H Q E h =>?_) (fun cW A outer s H vs Q E hr h =>?_)
 ·obtain⟨x,y,rfl,_⟩:=h
  rfl
 obtain⟨x,y,rfl,hx,q⟩:=h;have eu:=hr.units;refine⟨_,(ag (au (eI (tm K eu) (uQ K QaA PySem.F.slot_str_strip PySem.F.type_str_strip Dq (pv 0) (aa (pv 1) ae)) aw (aO _)))),?_⟩;exact⟨_,rfl,rfl,_,rfl,x,y,rfl,rfl,sizeOk (Jg hx ∅),.inl ⟨rfl,q⟩⟩
def Ay:aD ["thing"] ["thing"] (aj (top oM)):=⟨rfl,rfl,rfl,∅,rfl,∅,∅⟩
def D9 (F:cj K "is_name" "is_name" (top oM) f fd)(T:Nm mg)(gw:mg "LONGEST_NAME" = some (.int 8 t1))(fH:mg "SMALL_LETTERS" = some (.str wY t2))(iy:Fn P w K mg base 1 "made_of" ["text", "signs"] rp):aW P w K mg base d6 2 f fd ["thing"] (nD K dF):=by
 refine F.ok Ay (fun vs H Q E h =>?_) (fun cW A outer s H vs Q E hr h =>?_)
 ·obtain⟨v,d,rfl,_⟩:=h
  rfl
 obtain⟨v,d,rfl,hd,hw,q⟩:=h;have eu:=hr.units;have hq:=q H (ak.refl _);refine⟨_,(ag (au (fJ (av (jN K) rfl T.n_isinstance (by rfl) (aa (pv 0) (aa (bS rfl T.n_str (by rfl) (v := .ty "str") rfl) ae))) (fJ (yK qA qA ah (av (fK K) rfl T.n_len (by rfl) (aa (pv 0) ae)) (kB rfl gw)) (lR (aM (iy.mono ∅) hr rfl (aa (pv 0) (aa (uZ rfl fH) ae)))))))),?_⟩;refine⟨_,rfl,.inl ⟨_, "str",d,_,rfl,hd,(yH K d).2.2.1,_,rfl,?_⟩⟩;cases d with
 | str x=>
  have e:=hd;unfold Den at e;subst e;have ND:x.length<=1000000:=hw;refine bL ⟨_,rfl,_,_,rfl,⟨sizeOk (Jg ND ∅),rfl⟩,_,_,rfl,rfl,_,rfl,?_⟩;have hq:Q (.bl (decide ((1:Int)<=(x.length:Nat))&&(decide (((x.length:Nat):Int)<=8)&&ij x wY))) H:=hq;refine fR (fun c1 =>?_) (fun c1 =>?_)
  ·rw[c1,U4] at hq;refine⟨_,_,rfl,rfl,_,rfl,fR (fun c2 =>?_) (fun c2 =>?_)⟩
   ·rw[c2,U4] at hq;exact⟨_,rfl,x,_,rfl,ND,hq⟩
   ·rw[Yl.mpr c2,Yu] at hq;exact hq
  ·rw[Yl.mpr c1,Yu] at hq;exact⟨_,rfl,bF hq⟩
 | _=>exact bF hq
def Bp:aD ["thing"] ["thing"] (aj (top ow)):=⟨rfl,rfl,rfl,∅,rfl,∅,∅⟩
def C8 (F:cj K "is_code" "is_code" (top ow) f fd)(T:Nm mg)(kz:mg "SIGNS" = some (.str fG t3))(iy:Fn P w K mg base 1 "made_of" ["text", "signs"] rp):aW P w K mg base d6 2 f fd ["thing"] (nD K cF):=by
 refine F.ok Bp (fun vs H Q E h =>?_) (fun cW A outer s H vs Q E hr h =>?_)
 ·obtain⟨v,d,rfl,_⟩:=h
  rfl
 obtain⟨v,d,rfl,hd,hw,q⟩:=h;have eu:=hr.units;have hq:=q H (ak.refl _);refine⟨_,(ag (au (fJ (av (jN K) rfl T.n_isinstance (by rfl) (aa (pv 0) (aa (bS rfl T.n_str (by rfl) (v := .ty "str") rfl) ae))) (fJ (eI (KJ K eu) (pv 0) aw (aO _)) (lR (aM (iy.mono ∅) hr rfl (aa (pv 0) (aa (uZ rfl kz) ae)))))))),?_⟩;refine⟨_,rfl,.inl ⟨_, "str",d,_,rfl,hd,(yH K d).2.2.1,_,rfl,?_⟩⟩;cases d with
 | str x=>
  have e:=hd;unfold Den at e;subst e;have ND:x.length<=1000000:=hw;have hq:Q (.bl (!decide (V.str x=V.str (Wp ""))&&ij x fG)) H:=hq;refine bL ⟨_,rfl,.inl ⟨rfl,_,rfl,fR (fun c1 =>?_) (fun c1 =>?_)⟩⟩
  ·rw[c1,U4] at hq;exact⟨_,rfl,x,_,rfl,ND,hq⟩
  ·rw[Yl.mpr c1,Yu] at hq;exact hq
 | _=>exact bF hq
def yV:aD ["thing"] ["thing"] (aj (top lI)):=⟨rfl,rfl,rfl,∅,rfl,∅,∅⟩
def AD (F:cj K "is_entry" "is_entry" (top lI) f fd)(T:Nm mg)(E2:Fn P w K mg base 2 "is_name" ["thing"] (nD K dF))(DW:Fn P w K mg base 2 "is_code" ["thing"] (nD K cF)):aW P w K mg base d6 3 f fd ["thing"] (nD K bz):=by
 refine F.ok yV (fun vs H Q E h =>?_) (fun cW A outer s H vs Q E hr h =>?_)
 ·obtain⟨v,d,rfl,_⟩:=h
  rfl
 obtain⟨v,d,rfl,hd,hw,q⟩:=h;have eu:=hr.units;refine⟨_,(ag (au (fJ (av (jN K) rfl T.n_isinstance (by rfl) (aa (pv 0) (aa (bS rfl T.n_tuple (by rfl) (v := .ty "tuple") rfl) ae))) (fJ (eI (tm K eu) (av (fK K) rfl T.n_len (by rfl) (aa (pv 0) ae)) ah (aO _)) (fJ (aM (E2.mono ∅) hr rfl (aa (bQ (kr K) (pv 0) ah (fun _ _=>rfl)) ae)) (lR (aM (DW.mono ∅) hr rfl (aa (bQ (kr K) (pv 0) ah (fun _ _=>rfl)) ae)))))))),?_⟩;refine⟨_,rfl,.inl ⟨_, "tuple",d,_,rfl,hd,(yH K d).2.2.2.2,_,rfl,?_⟩⟩;cases d with
 | tuple ds=>
  have e:=hd;unfold Den at e;obtain⟨a,us,rfl,hT,hds⟩:=e;have hl:=hds.len;refine bL ⟨_,rfl,_,_,rfl,.inr ⟨_,hT,rfl⟩,.inl ⟨rfl,_,rfl,fR (fun c1 =>?_) (fun c1 =>?_)⟩⟩
  ·have c1:V.int ((us.length:Nat):Int)=V.int 2:=of_decide_eq_true c1;have c1:us.length=2:=by injection c1 with c1;lia
   rw[hl] at c1
   match ds,c1,hds,hw,q with
   | [d1,d2],_,hds,hw,q=>
    unfold aI at hds;obtain⟨v1,r1,rfl,h1,hds⟩:=hds;unfold aI at hds;obtain⟨v2,r2,rfl,h2,hds⟩:=hds;unfold aI at hds;subst hds;have hw:Qaz d1+1+(Qaz d2+1+0)<=1000000:=by simpa only [Qaz,Qas] using hw
    have q:∀H',ak H H'->Q (.bl (dF d1&&cF d2)) H':=q;refine⟨_,rfl,.inr (.inl ⟨a,_,0,_,rfl,rfl,hT,rfl,v1,d1,rfl,h1,⋯,fun H1 sm1=>⟨_,rfl,fR (fun c2 =>?_) (fun c2 =>?_)⟩⟩)⟩
    ·refine⟨_,rfl,.inr (.inl ⟨a,_,1,_,rfl,rfl,sm1.bZ hT,rfl,v2,d2,rfl,h2.same sm1,⋯,fun H2 iK =>?_⟩)⟩;have z:=q H2 (sm1.trans iK);rw[c2,U4] at z;exact z
    ·have z:=q H1 sm1;rw[Yl.mpr c2,Yu] at z;exact z
  ·have c1:¬(V.int ((us.length:Nat):Int)=V.int 2):=of_decide_eq_false (Yl.mpr c1);have z:=q H (ak.refl _);have e:bz (.tuple ds)=false:=by
    match ds,hl with
    | [],_=>rfl
    | [_],_=>rfl
    | [_,_],hl=>exact absurd (by rw[hl];rfl) c1
    | _::_::_::_,_=>rfl
   rw[e] at z;exact z
 | _=>exact bF (q H (ak.refl _))
def GL {d:Qac}(h:dF d=true):∃x,d = .str x:=by
 cases d<;>first|exact⟨_,rfl⟩|(simp[dF] at h)
def FU {d:Qac}(h:cF d=true):∃x,d = .str x:=by
 cases d<;>first|exact⟨_,rfl⟩|(simp[cF] at h)
def yF {d:Qac}(h:bz d=true):∃x y:Str,d = .tuple [.str x,.str y]:=by
 cases d with
 | tuple ds=>
  match ds,h with
  | [],h=>simp[bz] at h
  | [_],h=>simp[bz] at h
  | [a,b],h=>
   have h:(dF a&&cF b)=true:=h;rw[Jv] at h;obtain⟨x,rfl⟩:=GL h.1;obtain⟨y,rfl⟩:=FU h.2;exact⟨x,y,rfl⟩
  | _::_::_::_,h=>simp[bz] at h
 | _=>simp[bz] at h
def BX (ds:List Qac):QbO (.list ds) (.list [])=ds.isEmpty:=by
 cases ds<;>simp[QbO,QbZ]
def AO:aD ["thing"] ["thing"] (aj (top nJ)):=⟨rfl,rfl,rfl,∅,rfl,∅,∅⟩
def Dm (F:cj K "is_book" "is_book" (top nJ) f fd)(T:Nm mg)(zJ:Fn P w K mg base 3 "is_entry" ["thing"] (nD K bz)):aW P w K mg base d6 4 f fd ["thing"] (qV K):=by
 refine F.ok AO (fun vs H Q E h =>?_) (fun cW A outer s H vs Q E hr h =>?_)
 ·obtain⟨v,d,rfl,_⟩:=h
  rfl
 obtain⟨v,d,rfl,hd,hw,T6,DM,q⟩:=h;have eu:=hr.units;refine⟨_,(af (bf (PW.pt (mZ (eJ (cN (av (jN K) rfl T.n_isinstance (by rfl) (aa (pv 0) (aa (bS rfl T.n_list (by rfl) (v := .ty "list") rfl) ae))))) (kh (aK (tm K eu) (pv 0) (gL ae) (aO _))))) (ag (au sX)) aF)
  (af (bf (eJ (cN (av (NW K rfl) rfl T.n_all (by rfl) (aa (cn rfl (bM (Nc:=["part"]) (Fc:=[]) (js:=[])) (Kf K (pv 0)) (bb (i:=0) (n:=1) ∅) (fun _ _ _ _ _=>(ar (i:=0) (nA ["part"]) rfl (Qae rfl))) (fun _ _ _ _ _=>bP) (fun _ _ _ _ _=>(aM (zJ.mono ∅) hr rfl (aa (pv 0) ae)))) ae)))) (ag (au sX)) aF)
  (ag (au (eI (tm K eu) (av (Dd (Ks P w)) rfl T.n_len (by rfl) (aa (xj (Ks P w) rfl (bM (Nc:=["name", "code"]) (Fc:=[]) (js:=[])) (Kf K (pv 0)) (jK (bR (bb (i:=0) (n:=2) ∅) (bR (bb (i:=1) (n:=2) ∅) gU bA cw) bA (dQ bA cw))) (fun _ _ _ _ _=>(tupK K 2 rfl (ay (ar (i:=0) (nA ["name", "code"]) rfl (Qae rfl)) (ay (ar (i:=1) (nA ["name", "code"]) rfl (Qae rfl)) bD)))) (fun _ _ _ _ _=>bP) (fun _ _ _ _ _=>(pv 0))) ae)) (av (fK K) rfl T.n_len (by rfl) (aa (pv 0) ae)) (aO _)))))),?_⟩
 refine⟨_,rfl,.inl ⟨_, "list",d,_,rfl,hd,(yH K d).2.2.2.1,_,rfl,?_⟩⟩;cases d with
 | list ds=>
  have e:=hd;unfold Den at e;obtain⟨a,us,rfl,hS,hds⟩:=e;have hl:=hds.len;have DM:=DM ds rfl;have hwt:Qas ds<=300000:=by simpa only [Qaz] using hw
  refine bF ⟨_,rfl,by show 0<=M2;decide,fun pe H1 n1 =>?_⟩;have WX:Den K H1 (.list []) (.ref pe):=Den.list (aX.of n1.at) (Den.strs []);refine .inr ⟨_,_,hd.same n1.same,WX,T6,∅,_,rfl,?_⟩;rw[BX];cases hem:ds.isEmpty with
  | true=>
   have z:=q H1 n1.same;have e:dr (.list ds)=false:=by simp[dr,hem]
   rw[e] at z;exact bL z
  | false=>
   refine bF ?_;have nP:=n1.same.seq hS;have QW:=hds.same n1.same;have lw:=iZ ds;refine⟨_,rfl,a,rfl,⟨_,nP⟩,?_⟩;refine dw (N:=ds.length) (fun i ys H'=>ak H1 H'/\ys=((ds.take i).map bz).map V.bl) ⟨ak.refl _,rfl⟩ ?_ ?_
   ·rintro i ys H2 Nx hi ⟨iK,rfl⟩ nx;obtain⟨x,hx,dx⟩:=QW.get (i:=i) (Jd hi);refine⟨⟨_,_,iK.seq nP,hx⟩,J6 (show _<=300000 by rw[Jc,Jc,Uc];lia) ∅,?_⟩;rintro x' H3 ⟨rfl,hy⟩;have e:=hy _ (iK.seq nP);rw[hx] at e;cases e;refine gn ⟨_,rfl,_,_,rfl,dx.same iK,Jg (gf (n:=300000) hwt (Ud hi)) ∅,fun H4 tY=>nx _ _ ⟨iK.trans tY,?_⟩⟩;rw[Ye hi,Ju,Ju]
    rfl
   ·rintro ys H2 ⟨iK,rfl⟩;refine⟨⟨_,iK.seq nP,by rw[hl];exact Je _⟩,fun p hp =>?_⟩;rw[Yj];refine⟨p,_,rfl,aX.of aq,_,rfl,?_⟩;have Mi:ak H1 (upd H2 p (.lst ((ds.map bz).map V.bl))):=iK.trans (bG hp _);have Q5:(ds.map bz).any id=ds.any bz:=by rw[QfE];rfl
    have Q5:(ds.map bz).all id=ds.all bz:=by rw[List.all_map];rfl
    rw[Q5];cases jR:ds.all bz with
    | false=>
     have z:=q _ (n1.same.trans Mi);have e:dr (.list ds)=false:=by simp[dr,hem,jR]
     rw[e] at z;exact bL z
    | true=>
     refine bF ?_;generalize upd H2 p (.lst ((ds.map bz).map V.bl))=H3 at Mi;have ent:∀i (hi:i<ds.length),∃x y:Str,ds[i] = .tuple [.str x,.str y]:=fun i hi=>yF (Yr.mp jR _ (Ud hi));refine⟨_,rfl,a,rfl,⟨_,Mi.seq nP⟩,fun D hD =>?_⟩;refine yr (N:=ds.length) (fun i H'=>H' D=some (gO (Ks P w) D (cp (fun i=>(ds.map gm).getD i Qaq) i))/\∀a u,a≠D->H3 a=some u->H' a=some u) ⟨aq,fun a u h e=>by rw[ao h];exact e⟩ ?_ ?_
     ·rintro i H4 Nx hi ⟨hD4,kp⟩ nx;obtain⟨x,hx,dx⟩:=(QW.same Mi).get (i:=i) (Jd hi);obtain⟨nm,cd,ed⟩:=ent i hi;rw[ed] at dx;obtain⟨pa,rfl,hT⟩:=dx.pair;have tY:ak H3 H4:=fun a u e=>kp a u (ax e hD) e;refine⟨⟨_,_,tY.seq (Mi.seq nP),hx⟩,?_⟩;rintro x' H5 ⟨rfl,hy⟩;have e:=hy _ (tY.seq (Mi.seq nP));rw[hx] at e;cases e;have enm:(ds.map gm).getD i Qaq=nm:=by
       rw[show(ds.map gm).getD i Qaq=((ds.map gm)[i]?).getD Qaq from rfl,Jj,Jd hi,ed]
       rfl
      have ml:=lD (fun i=>(ds.map gm).getD i Qaq) i;refine⟨pa,_,rfl,tY.bZ hT,rfl,_,_,rfl,_,_,rfl,rfl,_,rfl,_,nm,hD4,rfl,⋯,nx _ ⟨?_,fun a u h e =>?_⟩⟩
      ·rw[aq];show _=some (gO (Ks P w) D (oneMore (cp (fun i=>(ds.map gm).getD i Qaq) i) ((ds.map gm).getD i Qaq)));rw[enm]
       rfl
      ·rw[ao h];exact kp a u h e
     ·rintro H4 ⟨hD4,kp⟩;have tY:ak H3 H4:=fun a u e=>kp a u (ax e hD) e;refine⟨⟨_,tY.seq (Mi.seq nP),by rw[hl];exact Je _⟩,?_⟩;refine⟨D,_,rfl,hD4,_,rfl,_,_,rfl,.inl ⟨_,tY.seq (Mi.seq nP),rfl⟩,.inl ⟨rfl,?_⟩⟩;have z:=q H4 (n1.same.trans (Mi.trans tY));have e:dr (.list ds)=decide (V.int ((cp (fun i=>(ds.map gm).getD i Qaq) ds.length).length:Nat)=V.int (us.length:Nat)):=by
       show(!ds.isEmpty&&(ds.all bz&&decide ((cp (fun i=>(ds.map gm).getD i Qaq) ds.length).length=ds.length)))=_;rw[hem,jR,Bool.not_false,U4,U4,Wb,decide_eq_true_iff,decide_eq_true_iff,hl];constructor
       ·intro z;rw[z]
       ·intro z;injection z with z;lia
      rw[e] at z;exact z
 | _=>exact bL (q H (ak.refl _))
end
def cJ {H:Hp}{b c:Gc}:ak (ip H b c) H:=fun a o e=>(oE e).1
def jY {K:Ja}{H:Hp}{ds:List Qac}{vs:List V}{j:Nat}{d:Qac}{v:V}(h:aI K H ds vs)(hd:ds[j]? = some d)(hv:vs[j]? = some v):Den K H d v:=by
 obtain⟨u,hu,q⟩:=h.get hd;rw[hv] at hu;cases hu;exact q
def pY {K:Ja}{H:Hp}{ds:List Qac}{vs:List V}{d:Qac}{v:V}(h:aI K H ds vs)(q:Den K H d v):aI K H (ds++[d]) (vs++[v]):=by
 have hl:=h.len;refine aI.of_get (by simp[hl]) fun j d' v' h1 h2 =>?_
 by_cases e:j<ds.length
 ·rw[Uo e] at h1;rw[Uo ⋯] at h2;exact jY h h1 h2
 ·rw[Uj ⋯] at h1;rw[Uj ⋯,hl] at h2;have:j-ds.length=0:=by
   have:=(Jm.mp h1).1;simp at this;lia
  rw[this] at h1 h2;cases h1;cases h2;exact q
def ZX:List Qac->Bool
 | []=>true
 | .int _::_=>false
 | _::_=>true
mutual
def Mp:Qac->Bool
 | .list ds=>ZX ds&&lS ds
 | .tuple ds=>lS ds
 | _=>true
def lS:List Qac->Bool
 | []=>true
 | d::ds=>Mp d&&lS ds
end
def Mh {K:Ja}{H:Hp}{d:Qac}{i:Int}(h:Den K H d (.int i)):d = .int i:=by
 cases d with
 | int k=>unfold Den at h;cases h;rfl
 | none=>unfold Den at h;cases h
 | bool b=>unfold Den at h;cases h
 | str x=>unfold Den at h;cases h
 | list ds=>unfold Den at h;obtain⟨_,_,e,_⟩:=h;cases e
 | tuple ds=>unfold Den at h;obtain⟨_,_,e,_⟩:=h;cases e
 | dict _=>unfold Den at h;exact h.elim
mutual
def Den.hide {K:Ja}{H:Hp}{b c:Gc}{t:Int}(bx:Bx H b c t):∀{d:Qac} {v:V},Mp d=true->Den K H d v->Den K (ip H b c) d v
 | .none,_,_,h=>by unfold Den at h ⊢;exact h
 | .bool _,_,_,h=>by unfold Den at h ⊢;exact h
 | .int _,_,_,h=>by unfold Den at h ⊢;exact h
 | .str _,_,_,h=>by unfold Den at h ⊢;exact h
 | .list ds,_,n,h=>by
  unfold Den at h ⊢;unfold Mp at n;rw[Jv] at n;obtain⟨a,vs,h1,h2,h3⟩:=h;refine⟨a,vs,h1,?_,aI.hide bx n.2 h3⟩;obtain⟨ns,bx⟩:=bx
  rcases h2 with (h2|⟨o,h2⟩)|h2
  ·refine .inl (.inl ?_);rw[cZ (fun z=>by rw[z,bx.d] at h2;cases h2) (fun z =>?_)]
   ·exact h2
   rw[z,bx.l] at h2;cases h2;cases ds with
   | nil=>
    unfold aI at h3;have:=bx.ne;cases ns with
    | nil=>exact absurd this ∅
    | cons i ns=>cases h3
   | cons d ds=>
    unfold aI at h3;obtain⟨v,r,e,hv,_⟩:=h3;cases ns with
    | nil=>cases e
    | cons i ns=>
     cases e;rw[Mh hv] at n;exact absurd n.1 (by simp[ZX])
  ·refine .inl (.inr ⟨o,?_⟩);rw[cZ (fun z=>by rw[z,bx.d] at h2;cases h2) (fun z=>by rw[z,bx.l] at h2;cases h2)];exact h2
  ·exact .inr h2
 | .tuple ds,_,n,h=>by
  unfold Den at h ⊢;unfold Mp at n;obtain⟨a,vs,h1,h2,h3⟩:=h;refine⟨a,vs,h1,?_,aI.hide bx n h3⟩;obtain⟨ns,bx⟩:=bx
  rcases h2 with (h2|⟨o,h2⟩)|h2
  ·refine .inl (.inl ?_);rw[cZ (fun z=>by rw[z,bx.d] at h2;cases h2) (fun z=>by rw[z,bx.l] at h2;cases h2)];exact h2
  ·refine .inl (.inr ⟨o,?_⟩);rw[cZ (fun z=>by rw[z,bx.d] at h2;cases h2) (fun z=>by rw[z,bx.l] at h2;cases h2)];exact h2
  ·exact .inr h2
 | .dict _,_,_,h=>by unfold Den at h;exact h.elim
def aI.hide {K:Ja}{H:Hp}{b c:Gc}{t:Int}(bx:Bx H b c t):∀{ds:List Qac} {vs:List V},lS ds=true->aI K H ds vs->aI K (ip H b c) ds vs
 | [],_,_,h=>by unfold aI at h ⊢;exact h
 | d::ds,_,n,h=>by
  unfold aI at h ⊢;unfold lS at n;rw[Jv] at n;obtain⟨v,r,h1,h2,h3⟩:=h;exact⟨v,r,h1,Den.hide bx n.1 h2,aI.hide bx n.2 h3⟩
end
def Av {i:Int}(h:i.natAbs<2^200):Qaz (.int i)<=201:=by
 simp only[Qaz]
 split
 ·lia
 ·rename_i h0;have FI:i.natAbs≠0:=by
   intro z;exact h0 (by simp;lia)
  have:=(Nat.log2_lt FI).mpr h;lia
def vN (K:Ja):Sp:=fun vs H Q _=>eM fun(a:Gc) (ns:List Int)=>vs=[.ref a]/\aX K H a (ns.map V.int)/\ns.length<=63 /\
 ∀(b c:Gc) (H':Hp),Bx H' b c 0->H b=none->H c=none->ak H (ip H' b c)->Q (.ref b) H'
def Den.ints {K:Ja}{H:Hp}:∀(ns:List Int),aI K H (ns.map Qc9) (ns.map V.int)
 | []=>by unfold aI;rfl
 | n::ns=>by
  rw[J0,J0];unfold aI;exact⟨_,_,rfl,by unfold Den;rfl,Den.ints ns⟩
def Pr (ds:List Qac):QbO (.list ds) (.list [])=ds.isEmpty:=by
 cases ds<;>simp[QbO,QbZ]
def KW {n:Nat}(ns:List Int):Sh (n+1) (.list (ns.map Qc9)):=Sh.list fun d hd=>by
 refine ai.el (Ut.mp hd) _ ?_;rintro i _ rfl;exact Sh.int
section
variable {P:Qaf}{w:Qag}{K:Ja}{mg:Str->Option Fk}{base:Heap}{f:Gc}{fd:Qad}
def iV:aD ["_law_script", "_law_cells"] ["_law_script"] (aj (top jI)):=⟨rfl,rfl,rfl,∅,rfl,∅,∅⟩
def Gb (F:cj K "_law_begin" "_law_begin" (top jI) f fd)(T:Nm mg):aW P w K mg base d6 1 f fd ["_law_script"] (vN K):=by
 refine F.ok iV (fun vs H Q E h =>?_) (fun cW A outer s H vs Q E hr h =>?_)
 ·obtain⟨a,ns,rfl,_⟩:=h
  rfl
 obtain⟨a,ns,rfl,hS,hlen,q⟩:=h;have eu:=hr.units;refine⟨_,(af (aB (i:=1) iV.nd rfl (Qae rfl) (bj (HD K) rfl T.n_list (by rfl) (aa (cT (QA K) (pv 0) gR (cx ah)) ae)))
  (af (bf (aK (tm K eu) (pv 1) (gL ae) (aO _)) (ag (aB (i:=1) iV.nd rfl (Qae rfl) (gL (aa ah ae)))) aF)
  (ag (au (SU (yn aw (pv 1) (yn aw ah Ly)) rfl rfl ∅ ∅))))),?_⟩
 refine⟨_,rfl,_,rfl,.inl ⟨a,_,rfl,hS,fun r1 H1 n1 =>?_⟩⟩;refine⟨r1,_,rfl,.inl (aX.of n1.at),fun r2 H2 n2=>gn ?_⟩;have hc:kL (ns.map V.int) none (some 63)=ns.map V.int:=by
  have e:=N5 (ns.map V.int) 63;rw[Us (by rw[Jc];exact hlen)] at e;exact e
 have MV:H2 r2=some (.lst (ns.map V.int)):=by rw[<-hc];exact n2.at
 have iK:=n1.same.trans n2.same;dsimp only;refine dJ (t:=xg _ _ _) (fun σ H'=>eM fun(r:Gc) (LV:List Int) =>σ=[some (.ref a),some (.ref r)]/\H' r=some (.lst (LV.map V.int))/\0<LV.length/\LV.length<=64/\H r=none/\ak H H') (fun Nx nx =>?_) ?_
 ·refine⟨_,rfl,by show 0<=M2;decide,fun r3 H3 n3 =>?_⟩;have d2:Den K H3 (.list (ns.map Qc9)) (.ref r2):=Den.list (aX.of (n3.same _ _ MV)) (Den.ints ns);have d3:Den K H3 (.list []) (.ref r3):=Den.list (aX.of n3.at) (Den.ints []);refine .inr ⟨_,_,d2,d3,(KW (n:=1) ns).shaped ∅,∅,_,rfl,?_⟩;rw[Pr];refine fR (fun e =>?_) (fun e =>?_)
  ·refine⟨by show 1<=M2;decide,fun r4 H4 n4=>gn (nx _ _ ⟨r4,[_],rfl,n4.at,∅,∅,(iK.trans n3.same).free n4.nn,iK.trans (n3.same.trans n4.same)⟩)⟩
  ·refine nx _ _ ⟨r2,ns,rfl,n3.same _ _ MV,?_,⋯,n1.same.free n2.nn,iK.trans n3.same⟩;cases ns with
   | nil=>exact absurd rfl e
   | cons _ _=>exact Qdq _
 intro σ H3;refine ai.go ?_;rintro r LV rfl hr' l0 l1 hn sm;intro p H0 n0;refine⟨_,rfl,?_⟩;refine⟨n0.at,[(.inr "cells",.ref r),(.inr "turn",.int 0)],rfl,by show 2<=15;decide,fun H6 n6 =>?_⟩;have Le:r≠p:=ax hr' n0.nn;have hp:H p=none:=sm.free n0.nn;refine q p r H6 ⟨LV,?_,?_,l0,l1⟩ hp hn (fun b o e =>?_)
 ·rw[n6.at];rfl
 ·rw[n6.ne Le,n0.ne Le];exact hr'
 ·have V0:b≠p:=ax e hp;have UK:b≠r:=ax e hn;rw[cZ V0 UK,n6.ne V0,n0.ne V0];exact sm _ _ e
end
def uD {K:Ja}{H:Hp}:∀{ns:List Int} {vs:List V},aI K H (ns.map Qc9) vs->vs=ns.map V.int
 | [],_,h=>by rw[Qcg] at h;unfold aI at h;exact h
 | n::ns,_,h=>by
  rw[J0] at h;unfold aI at h;obtain⟨v,r,rfl,h1,h2⟩:=h;unfold Den at h1;rw[h1,uD h2];rfl
def Io {K:Ja}{H:Hp}{ns:List Int}{v:V}(h:Den K H (.list (ns.map Qc9)) v):∃p,v = .ref p/\aX K H p (ns.map V.int):=by
 unfold Den at h;obtain⟨p,vs,rfl,h1,h2⟩:=h;rw[uD h2] at h1;exact⟨p,rfl,h1⟩
def xU.same {H H':Hp}{b c:Gc}{t:Int}{ns:List Int}(x:xU H b c t ns)(s:ak H H'):xU H' b c t ns:=⟨s _ _ x.d,s _ _ x.l,x.ne,x.le⟩
section
variable {P:Qaf}{w:Qag}{K:Ja}{mg:Str->Option Fk}{base:Heap}{f:Gc}{fd:Qad}
def cM:aD ["_law_state", "_law_many", "_law_turn", "_law_place", "_law_cell", "_law_digit", "_law_prime", "_law_mixed_here"] ["_law_state", "_law_many"] (aj (top lH)):=⟨rfl,rfl,rfl,∅,rfl,∅,∅⟩
def K5 (F:cj K "_law_take" "_law_take" (top lH) f fd)(T:Nm mg):aW P w K mg base d6 1 f fd ["_law_state", "_law_many"] Bb:=by
 refine F.ok cM (fun vs H Q E h =>?_) (fun cW A outer s H vs Q E hr h =>?_)
 ·obtain⟨b,c,t,ns,many,rfl,_⟩:=h
  rfl
 obtain⟨b,c,t,ns,many,rfl,bx,t0,t1,m0,m1,q⟩:=h;have hu:=kO hr;refine⟨_,(af (aB (i:=2) cM.nd rfl (Qae rfl) (aE bX (bU hu (pv 0) aw (fun _ _=>rfl)) ah))
  (af (vZ hu (pv 0) aw (pv 2) rfl)
  (af (aB (i:=3) cM.nd rfl (Qae rfl) (aE ig (pv 2) (av (fK K) rfl T.n_len (by rfl) (aa (bU hu (pv 0) aw (fun _ _=>rfl)) ae))))
  (af (aB (i:=4) cM.nd rfl (Qae rfl) (bQ (kr K) (bU hu (pv 0) aw (fun _ _=>rfl)) (pv 3) (fun _ _=>rfl)))
  (af (bf (aK Ik (pv 4) (aE PX ah ah) (aO _)) (af (hW (av Lc rfl T.n_divmod (by rfl) (aa (pv 4) (aa (pv 1) ae))) (tupK K 2 rfl (ay (Oc (bU hu (pv 0) aw (fun _ _=>rfl)) (pv 3) set_list) (ay (ar (i:=5) cM.nd rfl (Qae rfl)) bD))))
  (ag (au (pv 5)))) aF)
  (af (aB (i:=6) cM.nd rfl (Qae rfl) (bQ (kr K) (L5 (K:=K) (eR lit_int (eR lit_int (eR lit_int (eR lit_int (eR lit_int (eR lit_int (eR lit_int GC)))))))) (aE ig (pv 2) ah) (fun _ _=>rfl)))
  (af (aB (i:=7) cM.nd rfl (Qae rfl) (aE ig (aE qD (aE bX (aE bX (aE ig (pv 4) (pv 6)) (aE qD (aE qD (pv 2) (pv 2)) ah)) ah) ah) ah))
  (af (aB (i:=7) cM.nd rfl (Qae rfl) (aE ig (aE qD (pv 7) (pv 7)) (pv 6)))
  (ag (au (aE ig (aE CY (aE ig (aE qD (aE bX (pv 7) (aE qD (pv 2) ah)) ah) ah) ah) (pv 1)))))))))))),?_⟩
 refine⟨_,rfl,b,_,rfl,bx.Ie,.inl ⟨_,_,rfl,rfl,?_⟩⟩;refine⟨_,rfl,_,rfl,b,_,rfl,bx.JT (t+1),?_⟩;have zo:=bx.turned (t+1);refine⟨_,rfl,_,rfl,b,_,rfl,zo.oI,_,_,rfl,.inl ⟨_,aX.of zo.l,rfl⟩,_,_,rfl,rfl,?_,?_⟩
 ·rw[Jc];have:=zo.ne;lia
 have hlen:(ns.map V.int).length=ns.length:=Jc _;have LS:0<=(t+1)%((ns.map V.int).length:Int):=QcG _ (by have:=zo.ne;lia);have HI:(t+1)%((ns.map V.int).length:Int)<ns.length:=by rw[hlen];exact Qca _ (by have:=zo.ne;lia)
 refine ai.el (at_of LS HI) _ ?_;rintro v hv Pw;refine⟨_,rfl,b,_,rfl,zo.oI,_,rfl,.inl ⟨c,_,_,_,rfl,rfl,aX.of zo.l,hv,?_⟩⟩;refine⟨_,rfl,_,_,rfl,rfl,⟨∅,∅,∅⟩,_,_,rfl,rfl,_,rfl,?_⟩;refine fR (fun _ =>?_) (fun _ =>?_)
 ·refine⟨_,rfl,_,rfl,v,many,rfl,⟨m0,⋯⟩,fun pt H2 n2 =>?_⟩;obtain⟨hpb,hpc⟩:pt≠b/\pt≠c:=⟨fun z=>(by have:=n2.nn;rw[z,zo.d] at this;cases this),fun z=>(by have:=n2.nn;rw[z,zo.l] at this;cases this)⟩
  have Qw:=zo.same n2.same;refine⟨pt,_,rfl,bg.of n2.at,rfl,_,_,rfl,?_⟩;refine⟨_,rfl,b,_,rfl,Qw.oI,_,rfl,c,_,_,_,rfl,rfl,Qw.l,NK LS (by simpa only [hlen] using HI),?_⟩;refine⟨_,_,rfl,rfl,_,rfl,?_⟩;refine q (v%many) _ (ns.set ((t+1)%((ns.map V.int).length:Int)).toNat (v / many)) (QcG _ ⋯) (Qca _ m0) ⟨?_,?_,?_,?_⟩ ?_
  ·rw[ao Qw.bc];exact Qw.d
  ·rw[aq,List.map_set]
  ·rw[Wc];exact zo.ne
  ·rw[Wc];exact zo.le
  ·rw[Dh];refine sV fun a o h1 h2 e =>?_;rw[n2.ne (fun z =>?_),ao h1]
   ·exact e
   ·have z2:=n2.nn;rw[ao hpb,<-z,e] at z2;cases z2
 ·intro v1 H2 iK d2;obtain⟨L,hL,jR,d2⟩:∃L:List Int,L.length=7/\(∀x∈L,0<x/\x<2147483648)/\Den K H2 (.list (L.map Qc9)) v1:=by
   refine⟨[_,_,_,_,_,_,_],?_,?_,d2.same FX⟩
   ·rfl
   ·decide
  obtain⟨pp,rfl,hS⟩:=Io d2;have h70:0<=(t+1)%7:=QcG _ ∅;have h71:(t+1)%7<7:=Qca _ ∅;have Qw:=zo.same iK;refine⟨_,rfl,_,_,rfl,rfl,(by dsimp only;decide),?_⟩;refine ai.el (at_of h70 (show(t+1)%7<(L.length:Int) by rw[hL];exact h71)) _ ?_;rintro pr Le hpr';have WT:=jR pr (J2 hpr');refine .inl ⟨pp,_,_,_,rfl,rfl,hS,Le,?_⟩;obtain⟨pr0,pr1⟩:=WT;refine⟨_,rfl,_,rfl,_,_,rfl,rfl,pr0,_,rfl,_,rfl,.inl ⟨_,_,rfl,rfl,.inl ⟨⋯,⋯⟩,.inl ⟨_,_,rfl,rfl,.inr ⟨∅,∅⟩,.inl ⟨_,_,rfl,rfl,.inl ⟨_,_,rfl,rfl,.inl ⟨_,_,rfl,rfl,.inr ⟨∅,∅⟩,_,_,rfl,rfl,(by dsimp only;decide),?_⟩⟩⟩⟩⟩⟩;have cm:∀(x y p:Int),0<p->p<2^64->A0 (x%p) y:=fun x y p h0 h1=>Nq h0 h1;refine⟨_,rfl,_,rfl,.inl ⟨_,_,rfl,rfl,cm _ _ _ ∅ ∅,?_⟩⟩;refine⟨_,rfl,_,_,rfl,rfl,pr0,?_⟩;refine⟨_,rfl,_,rfl,.inl ⟨_,_,rfl,rfl,.inl ⟨⋯,⋯⟩,.inl ⟨_,_,rfl,rfl,.inl ⟨_,_,rfl,rfl,.inr ⟨∅,∅⟩,_,_,rfl,rfl,(by dsimp only;decide),_,_,rfl,rfl,⟨∅,∅⟩,_,rfl,_,_,rfl,rfl,m0,?_⟩⟩⟩⟩;refine q _ _ ns (QcG _ ⋯) (Qca _ m0) Qw ?_;have:=ak.ip (b:=b) (c:=c) iK;rw[EG] at this;exact this
end
def kP (x:Str):Bool:=x.cps.all (· < 128)
mutual
def Pz:Qac->Bool
 | .none | .bool _=>true
 | .int i=>decide (i.natAbs<10^40)
 | .str x=>kP x
 | .list ds | .tuple ds=>Mr ds
 | .dict _=>false
def Mr:List Qac->Bool
 | []=>true
 | d::ds=>Pz d&&Mr ds
end
def Fa (ts:List Str):(listText ts).length<=piled ts+2:=by
 unfold listText;rw[Qdn];have e:(((("]" : String):Str))).length=1:=rfl;rw[e];cases ts with
 | nil=>exact Je _
 | cons t ts=>
  have q:=textFrom_length_pos ts 1 ((("[" : String):Str)++((if 0>0 then ", " else "" : String):Str)++t) ∅;show(textFrom 1 _ ts).length+1<=_;rw[q,Qdn,Qdn,piled_cons];have e1:(((("[" : String):Str))).length=1:=rfl;have e2:((((if 0>0 then ", " else "" : String):Str))).length=0:=rfl;rw[e1,e2];lia
def E4 (ts:List Str):(tupleText ts).length<=piled ts+3:=by
 unfold tupleText;rw[Qdn,Qdn];have e1:((("(" : String):Str)).length=1:=rfl;have e3:(((if ts.length==1 then ",)" else ")" : String):Str)).length<=2:=by split<;>decide
 have e2:(Str.join ", " ts).length<=piled ts:=by
  cases ts with
  | nil=>exact Je _
  | cons t ts=>have:=join_length_add (t::ts) (by simp);lia
 rw[e1];lia
def Mo {i:Int}(h:i.natAbs<10^40):(Wp (toString i)).length<=41:=by
 cases i with
 | ofNat n=>
  have:=Qdz (v:=Int.ofNat n) (by simp) (k:=40) ∅ (by
   have h:n<10^40:=h;show((n:Nat):Int)<10^40
   exact_mod_cast h)
  lia
 | negSucc n=>
  have h:n+1<10^40:=h;have:=Qdz (v:=Int.ofNat (n+1)) (by show(0:Int)<=((n+1:Nat):Int);lia) (k:=40) ∅ (by
   show((n+1:Nat):Int)<10^40
   exact_mod_cast h)
  have e:toString (Int.negSucc n) = "-" ++ toString (Int.ofNat (n+1)):=rfl;rw[e];have e2:∀a b:String,(Wp (a++b)).length=(Wp a).length+(Wp b).length:=fun a b=>by
   simp[PyProof.Rows.ofString_length]
  rw[e2];have e3:(Wp "-").length=1:=rfl;lia
mutual
def xw:∀(d:Qac),Pz d=true->d.shown.length<=44*d.weight+42/\d.showable=true/\d.canLay0=true
 | .none,_=>⟨∅,rfl,rfl⟩
 | .bool b,_=>⟨by cases b<;>decide +kernel,rfl,rfl⟩
 | .int i,h=>by
  have h:i.natAbs<10^40:=by simpa [Pz] using h
  refine⟨?_,?_,rfl⟩
  ·have:=Mo h;simp only[Qd3];show(Wp (toString i)).length<=_;lia
  ·simp only[Qeq,decide_eq_true_eq]
   by_cases z:i.natAbs=0
   ·rw[z];decide
   ·exact(Nat.log2_lt z).mpr (Jx h ∅)
 | .str x,h=>by
  have hx:∀c∈x.cps.toList,c<128:=fun c hc=>by
   have h:kP x=true:=by simpa only [Pz] using h
   unfold kP at h;rw[Yw] at h;have:=h c (by simpa using hc);simpa using this
  refine⟨?_,rfl,?_⟩
  ·have:=StrLaws.reprText_len x fun c hc=>Jx (hx c hc) ∅;simp only[Qd3,Qaz];have e:x.cps.size=x.length:=rfl;lia
  ·exact(Sh.str (n:=0) (eC fun ch hc=>by have:=hx ch hc;lia)).1
 | .list ds,h=>by
  obtain⟨h1,h2,h3⟩:=oy ds (by simpa only [Pz] using h);refine⟨?_,by simpa only [Qeq] using h2,by simpa only [Qby] using h3⟩;have:=Fa (Qdd ds);simp only[Qd3,Qaz];lia
 | .tuple ds,h=>by
  obtain⟨h1,h2,h3⟩:=oy ds (by simpa only [Pz] using h);refine⟨?_,by simpa only [Qeq] using h2,by simpa only [Qby] using h3⟩;have:=E4 (Qdd ds);simp only[Qd3,Qaz];lia
 | .dict _,h=>by simp[Pz] at h
def oy:∀(ds:List Qac),Mr ds=true->piled (Qdd ds)<=44*Qas ds/\Qf5 ds=true/\Qcb ds=true
 | [],_=>⟨Je _,rfl,rfl⟩
 | d::ds,h=>by
  simp only[Mr,Jv] at h;refine ai.el (xw d h.1) _ ?_;rintro a1 a2 a3;refine ai.el (oy ds h.2) _ ?_;rintro b1 b2 b3;refine⟨?_,by simp only[Qf5,a2,b2];rfl,by simp only[Qcb,a3,b3];rfl⟩;simp only[Qdd,Qas,piled_cons];lia
end
def qc {ds:List Qac}:Mr ds=true ↔ ∀d∈ds,Pz d=true:=by
 induction ds with
 | nil=>simp[Mr]
 | cons d ds ih=>simp[Mr,ih]
def qb {m:Nat}:∀{ds:List Qac},(∀e∈ds,e.depth<=m)->Qbq ds<=m
 | [],_=>by simp[Qbq]
 | d::ds,h=>by
  have:=qb (m:=m) (ds:=ds) fun e he=>h e (Jk _ he);have:=h d Jn;simp only[Qbq];lia
structure Gd (w dp:Nat)(d:Qac):Prop where
 pz:Pz d=true
 wt:d.weight<=w
 dp:d.depth<=dp
def Gd.mono {w dp w' Th:Nat}{d:Qac}(h:Gd w dp d)(hw:w<=w')(hd:dp<=Th):Gd w' Th d:=⟨h.pz,Jg h.wt hw,Jg h.dp hd⟩
def Gd.shaped {w dp:Nat}{d:Qac}(h:Gd w dp d)(hd:dp<=64):QaK d=true:=by
 unfold QaK;rw[(xw d h.pz).2.2,decide_eq_true (Jg h.dp hd)];rfl
def IC (xs ys:List Qac):Qas (xs++ys)=Qas xs+Qas ys:=by
 induction xs with
 | nil=>simp[Qas]
 | cons x xs ih=>rw[Qcp];simp only[Qas,ih];lia
structure Gs (w dp:Nat)(ds:List Qac):Prop where
 pz:∀d∈ds,Pz d=true
 wt:Qas ds<=w
 dp:∀d∈ds,d.depth<=dp
def Gs.list {w dp:Nat}{ds:List Qac}(h:Gs w dp ds):Gd w (dp+1) (.list ds):=⟨by simp only[Pz];exact qc.mpr h.pz,by simp only[Qaz];exact h.wt,by simp only[Qa0];have:=qb h.dp;lia⟩
def Gs.tuple {w dp:Nat}{ds:List Qac}(h:Gs w dp ds):Gd w (dp+1) (.tuple ds):=⟨by simp only[Pz];exact qc.mpr h.pz,by simp only[Qaz];exact h.wt,by simp only[Qa0];have:=qb h.dp;lia⟩
def Gs.mono {w dp w' Th:Nat}{ds:List Qac}(h:Gs w dp ds)(hw:w<=w')(hd:dp<=Th):Gs w' Th ds:=⟨h.pz,Jg h.wt hw,fun d m=>Jg (h.dp d m) hd⟩
def Gs.app {w dp w':Nat}{xs ys:List Qac}(h:Gs w dp xs)(g:Gs w' dp ys):Gs (w+w') dp (xs++ys):=
 ⟨fun d m=>(J9.mp m).elim (h.pz d) (g.pz d),by rw[IC];have:=h.wt;have:=g.wt;lia,fun d m=>(J9.mp m).elim (h.dp d) (g.dp d)⟩
def Gs.one {w dp:Nat}{d:Qac}(h:Gd w dp d):Gs (w+1) dp [d]:=
 ⟨fun e m=>by rw[Js.mp m];exact h.pz,by have:=h.wt;simp only[Qas];lia,fun e m=>by rw[Js.mp m];exact h.dp⟩
def Gs.cons {w dp w':Nat}{d:Qac}{ds:List Qac}(h:Gd w dp d)(g:Gs w' dp ds):Gs (w+1+w') dp (d::ds):=(Gs.one h).app g
def Gs.nil {dp:Nat}:Gs 0 dp []:=⟨(fun d m=>nomatch m),Je _,(fun d m=>nomatch m)⟩
def Gs.at {w dp:Nat}{ds:List Qac}{d:Qac}(h:Gs w dp ds)(m:d∈ds):Gd w dp d:=⟨h.pz d m,gf h.wt m,h.dp d m⟩
def Gd.JB {w dp:Nat}{ds:List Qac}(h:Gd w (dp+1) (.tuple ds)):Gs w dp ds:=⟨qc.mp (by simpa only [Pz] using h.pz),by simpa only [Qaz] using h.wt,fun d m=>nC (by have:=h.dp;simp only[Qa0] at this;lia) m⟩
def Gd.int {w dp:Nat}{i:Int}(h:i.natAbs<10^40)(hw:201<=w):Gd w dp (.int i):=⟨by simpa [Pz] using h,Jg (Av (Jx h ∅)) hw,by simp[Qa0]⟩
def Gd.str {w dp:Nat}{x:Str}(h:kP x=true)(hw:x.length<=w):Gd w dp (.str x):=⟨by simpa only [Pz] using h,by simp only[Qaz];exact hw,by simp[Qa0]⟩
def Lh {K:Ja}{H:Hp}{x:Str}:Den K H (.str x) (.str x):=by unfold Den;rfl
def u4 {K:Ja}{H:Hp}{x:Int}:Den K H (.int x) (.int x):=by unfold Den;rfl
def fM {K:Ja}{H:Hp}:aI K H [] []:=by unfold aI;rfl
def bJ {K:Ja}{H:Hp}{d:Qac}{v:V}{ds:List Qac}{vs:List V}(h:Den K H d v)(g:aI K H ds vs):aI K H (d::ds) (v::vs):=by unfold aI;exact⟨_,_,rfl,h,g⟩
def SX {K:Ja}{G:Hp}{p:Gc}{ds:List Qac}{vs:List V}(h:G p=some (.tup vs))(g:aI K G ds vs):Den K G (.tuple ds) (.ref p):=by unfold Den;exact⟨p,vs,rfl,bg.of h,g⟩
def CQ {K:Ja}{G:Hp}{p:Gc}{ds:List Qac}{vs:List V}(h:G p=some (.lst vs))(g:aI K G ds vs):Den K G (.list ds) (.ref p):=by unfold Den;exact⟨p,vs,rfl,aX.of h,g⟩
def Mb {x:Str}:kP x=true ↔ ∀c∈x.cps.toList,c<128:=by
 unfold kP;rw[Yw];constructor
 ·intro h c hc;have:=h c (by simpa using hc);simpa using this
 ·intro h c hc;have:=h c (by simpa using hc);simpa using this
def NJ:Qac->Nat
 | .list ds | .tuple ds=>ds.length
 | _=>0
def gX:Qac->Qac
 | .tuple ds =>.list ds
 | d=>d
def cX:Qac->List (Str×Str)
 | .list ds=>ds.map fun d=>match d with
  | .tuple [.str x,.str y]=>(x,y)
  | _=>(Qaq,Qaq)
 | _=>[]
def wU {d:Qac}(h:dr d=true):d=aQ (cX d)/\∀q∈cX d,dF (.str q.1)=true/\cF (.str q.2)=true:=by
 cases d with
 | list ds=>
  replace h:(!ds.isEmpty&&(ds.all bz&&decide ((cp (fun i=>(ds.map gm).getD i Qaq) ds.length).length=ds.length)))=true:=h;rw[Jv,Jv,Yr] at h;have he:=h.2.1;clear h
  induction ds with
  | nil=>exact⟨rfl,fun q hq=>nomatch hq⟩
  | cons e ds ih=>
   obtain⟨e1,e2⟩:=ih fun x hx=>he x (Jk _ hx);have z:=he e Jn;obtain⟨x,y,rfl⟩:=yF z;have z:(dF (.str x)&&cF (.str y))=true:=z;rw[Jv] at z;have e1:ds=(cX (.list ds)).map fun q =>.tuple [.str q.1,.str q.2]:=QdY e1;refine⟨?_,fun q hq =>?_⟩
   ·show PyData.list (.tuple [.str x,.str y]::ds) = .list (.tuple [.str x,.str y]::(cX (.list ds)).map fun q =>.tuple [.str q.1,.str q.2]);rw[<-e1]
   ·rcases Jw.mp (show q∈(x,y)::cX (.list ds) from hq) with rfl|hq
    ·exact z
    ·exact e2 q hq
 | _=>simp[dr] at h
def eZ {x y:Str}(h:x.cps.toList=y.cps.toList):x=y:=by
 cases x;cases y
 congr 1
 exact Array.toList_inj.mp h
def uo:∀(p:Str) (l:List Str),QeE p l=true->(p::l).Pairwise fun a b=>a.cps.toList<=b.cps.toList
 | p,[],_=>by simp
 | p,x::r,h=>by
  have h:(!Spec.ltCps x.cps.toList p.cps.toList&&QeE x r)=true:=h;rw[Jv,PyProof.Rows.ltCps_eq,Bool.not_eq_true',decide_eq_false_iff_not] at h;have ih:=uo x r h.2;have px:p.cps.toList<=x.cps.toList:=h.1;refine List.pairwise_cons.mpr ⟨fun y hy =>?_,ih⟩
  rcases Jw.mp hy with rfl|hy
  ·exact px
  ·exact List.le_trans px ((List.pairwise_cons.mp ih).1 y hy)
def uL {a:List Str}(h:Qa5 a=true):a.Pairwise fun a b=>a.cps.toList<=b.cps.toList:=by
 cases a with
 | nil=>exact .nil
 | cons p l=>exact uo p l h
def Di {a b:List Str}(h:a.Perm b)(ha:Qa5 a=true)(hb:Qa5 b=true):a=b:=
 h.eq_of_pairwise (fun x y _ _ h1 h2=>eZ (List.le_antisymm h1 h2)) (uL ha) (uL hb)
def xi (bk:List (Str×Str)):Bool := @decide (fE (bk.map (·.2))) (Qbv _)
def dA (names:List Str)(d:Qac):Bool:=dr (gX d)&&(decide (((cX (gX d)).map (·.1)).Perm names)&&xi (cX (gX d)))
structure MC (d:Qac):Prop where
 pz:Pz d=true
 wt:d.weight<=300000
 sh:QaK d=true
 AJ:∀ds,gX d = .list ds->ds.length<=60
 cd:∀q∈cX (gX d),q.2.length<=200000
def zH (d:Qac):(gX d).weight=d.weight:=by cases d<;>simp only[gX,Qaz]
def Pn {d:Qac}(h:Pz d=true):Pz (gX d)=true:=by cases d<;>simpa only [gX,Pz] using h
def N4 {d:Qac}(h:QaK d=true):QaK (gX d)=true:=by cases d<;>exact h
def Oj {K:Ja}{H:Hp}{bk:List (Str×Str)}{v:V}(h:Den K H (aQ bk) v):eM fun(a:Gc) (us:List V)=>v = .ref a/\aX K H a us/\us.length=bk.length/\∀(i:Nat) (q:Str×Str),bk[i]? = some q->∃b:Gc,us[i]? = some (.ref b)/\bg K H b [.str q.1,.str q.2]:=by
 unfold aQ Den at h;obtain⟨a,us,rfl,hS,hds⟩:=h;refine⟨a,us,rfl,hS,by have:=hds.len;rw[Jc] at this;exact this,fun i q e =>?_⟩;obtain⟨u,hu,du⟩:=hds.get (i:=i) (d := .tuple [.str q.1,.str q.2]) (by rw[Jj,e];rfl);unfold Den at du;obtain⟨b,vs,rfl,hT,hd⟩:=du;unfold aI at hd;obtain⟨x,r,rfl,hx,hd⟩:=hd;unfold aI at hd;obtain⟨y,r,rfl,hy,hd⟩:=hd;unfold aI at hd;unfold Den at hx hy;subst hd hx hy;exact⟨b,hu,hT⟩
def yo:∀(a b:List Str),QbZ (a.map QbB) (b.map QbB)=decide (a=b)
 | [],[]=>by simp[QbZ]
 | [],_::_=>by simp[QbZ]
 | _::_,[]=>by simp[QbZ]
 | x::a,y::b=>by
  rw[J0,J0];simp only[QbZ,QbO,yo a b,List.cons.injEq,Bool.decide_and]
  rfl
def Am {x:Str}(h:kP x=true):∀c∈x.cps.toList,c<128:=fun c hc=>by
 unfold kP at h;rw[Yw] at h;have:=h c (by simpa using hc);simpa using this
def Iq {ks:List Str}(h:∀x∈ks,kP x=true):QaK (.list (ks.map QbB))=true:=(Sh.list (n:=0) fun d hd=>by
 obtain⟨x,hx,rfl⟩:=Ut.mp hd;exact Sh.str (eC fun ch hc=>by have:=Am (h x hx) ch hc;lia)).shaped ∅
def IU (K:Ja):Sp:=fun vs H Q _=>pH fun(v:V) (d:Qac) (p:Gc) (ns:List Str)=>vs=[v,.ref p]/\Den K H d v/\MC d/\(aX K H p (ns.map V.str)\/bg K H p (ns.map V.str))/\ns.length<64/\(∀x∈ns,kP x=true)/\∀H',ak H H'->Q (.bl (dA ns d)) H'
section
variable {P:Qaf}{w:Qag}{K:Ja}{mg:Str->Option Fk}{base:Heap}{f:Gc}{fd:Qad}
def gr:aD ["thing", "names", "book"] ["thing", "names"] (aj (top eE)):=⟨rfl,rfl,rfl,∅,rfl,∅,∅⟩
def Pf (F:cj K "is_free_book_of" "is_free_book_of" (top eE) f fd)(T:Nm mg)(gB:mg "sorted" = none)(Fm:Fn P w K mg base 4 "is_book" ["thing"] (qV K))(OJ:Fn P w K mg base 3 "free" ["book"] (Bq K)):aW P w K mg base d6 5 f fd ["thing", "names"] (IU K):=by
 refine F.ok gr (fun vs H Q E h =>?_) (fun cW A outer s H vs Q E hr h =>?_)
 ·obtain⟨v,d,p,ns,rfl,_⟩:=h
  rfl
 obtain⟨v,d,p,ns,rfl,hd,fit,QB,nl,na,q⟩:=h;have eu:=hr.units;refine⟨_,(af (aB (i:=2) gr.nd rfl (Qae rfl) (sf (cN (av (jN K) rfl T.n_isinstance (by rfl) (aa (pv 0) (aa (bS rfl T.n_tuple (by rfl) (v := .ty "tuple") rfl) ae)))) (bj (HD K) rfl T.n_list (by rfl) (aa (pv 0) ae)) (pv 0)))
  (af (bf (PW.pt (mZ (eJ (cN (aM (Fm.mono ∅) hr rfl (aa (pv 2) ae)))) (kh (aK (KJ K eu) (av (xF K) rfl gB (by rfl) (aa (cn rfl (bM (Nc:=["name", "code"]) (Fc:=[]) (js:=[])) (Kf K (pv 2)) (jK (bR (bb (i:=0) (n:=2) ∅) (bR (bb (i:=1) (n:=2) ∅) gU bA cw) bA (dQ bA cw))) (fun _ _ _ _ _=>(tupK K 2 rfl (ay (ar (i:=0) (nA ["name", "code"]) rfl (Qae rfl)) (ay (ar (i:=1) (nA ["name", "code"]) rfl (Qae rfl)) bD)))) (fun _ _ _ _ _=>bP) (fun _ _ _ _ _=>(pv 0))) ae)) (av (xF K) rfl gB (by rfl) (aa (pv 1) ae)) (aO _))))) (ag (au sX)) aF)
  (ag (au (aM (OJ.mono ∅) hr rfl (aa (pv 2) ae)))))),?_⟩
 refine gu (te:=ZW _ _ _) (fun v2 H'=>ak H H'/\Den K H' (gX d) v2) (fun Qn qn =>?_) ?_
 ·refine⟨_,rfl,.inl ⟨_, "tuple",d,_,rfl,hd,(yH K d).2.2.2.2,_,rfl,?_⟩⟩;cases d with
  | tuple ds=>
   have e:=hd;unfold Den at e;obtain⟨a,us,rfl,hT,hds⟩:=e;refine bL ⟨_,rfl,a,us,rfl,.inr hT,fun l H1 n1=>qn _ _ ⟨n1.same,?_⟩⟩;show Den K H1 (.list ds) _;unfold Den;exact⟨l,us,rfl,aX.of n1.at,hds.same n1.same⟩
  | _=>exact bF ⟨_,rfl,qn _ _ ⟨ak.refl _,hd⟩⟩
 rintro v2 H1 ⟨s1,d1⟩;refine gn ?_;refine⟨_,rfl,v2,gX d,rfl,d1,by rw[zH];exact fit.wt,N4 fit.sh,fun ds e=>Jg (fit.AJ ds e) ∅,fun H2 s2 =>?_⟩;have xf:=s1.trans s2;refine⟨_,rfl,?_⟩;cases hb:dr (gX d) with
 | false=>
  have z:=q H2 xf;rw[show dA ns d=false by unfold dA;rw[hb,Yu]] at z;exact bL (bL z)
 | true=>
  obtain⟨eb,ok⟩:=wU hb;have fl:=fit.AJ (match gX d with | .list ds=>ds|_=>[]) (by rw[eb];rfl);have d2:=d1.same s2;rw[eb] at d2;have bl:(cX (gX d)).length<=60:=by
   rw[eb] at fl;have:((cX (gX d)).map fun q=>Qcz [.str q.1,.str q.2]).length<=60:=fl;rw[Jc] at this;exact this
  have wt:(aQ (cX (gX d))).weight<=300000:=by rw[<-eb,zH];exact fit.wt
  have ZL:Pz (aQ (cX (gX d)))=true:=by rw[<-eb];exact Pn fit.pz
  have fb:dA ns d=(decide (((cX (gX d)).map (·.1)).Perm ns)&&xi (cX (gX d))):=by unfold dA;rw[hb,U4]
  have cd:=fit.cd;generalize cX (gX d)=bk at d2 bl wt fb ok ZL cd;rw[fb] at q;refine bF ?_;obtain⟨a,us,rfl,hS,hul,hds⟩:=Oj d2;have pz:Pz (aQ bk)=true:=ZL;have az:∀x∈bk.map (·.1),kP x=true:=fun x hx=>by
   obtain⟨q0,hq0,rfl⟩:=Ut.mp hx;have h1:Mr (bk.map fun q=>Qcz [.str q.1,.str q.2])=true:=by simpa only [aQ,Pz] using pz
   have h2:=qc.mp h1 _ (Ut.mpr ⟨q0,hq0,rfl⟩);simp only[Pz,Mr,Jv] at h2;exact h2.1
  have small:∀{n:Nat},n<=10000->n<M2:=fun h=>J6 h ∅;refine⟨_,rfl,a,rfl,⟨_,hS⟩,?_⟩;refine dw (N:=bk.length) (fun i ys H'=>ak H2 H'/\ys=((bk.take i).map (·.1)).map V.str) ⟨ak.refl _,rfl⟩ ?_ ?_
  ·rintro i ys H3 Ny hi ⟨s3,rfl⟩ ny;obtain⟨b,uI,hT⟩:=hds i bk[i] (Jd hi);refine⟨⟨_,_,s3.seq hS,uI⟩,small (by rw[Jc,Jc,Uc];lia),?_⟩;rintro x' H4 ⟨rfl,hy⟩;have e:=hy _ (s3.seq hS);rw[uI] at e;cases e;refine⟨b,_,rfl,s3.bZ hT,rfl,_,_,rfl,gn ⟨_,_,rfl,gn ⟨rfl,_,rfl,ny _ _ ⟨s3,?_⟩⟩⟩⟩;rw[Ye hi,Ju,Ju]
   rfl
  ·rintro ys H3 ⟨s3,rfl⟩;refine⟨⟨_,s3.seq hS,by rw[hul];exact Je _⟩,fun pv hp =>?_⟩;rw[Yj];have s3':ak H2 (upd H3 pv (.lst ((bk.map (·.1)).map V.str))):=s3.trans (bG hp _);refine⟨pv,bk.map (·.1),rfl,.inl (aX.of aq),by rw[Jc];lia,fun ms q1 H4 pm so n4 =>?_⟩;have s4:=s3'.trans n4.same;refine⟨_,rfl,p,ns,rfl,QB.imp (xf.trans s4).seq (xf.trans s4).bZ,nl,fun ms2 q2 H5 Ki so2 n5 =>.inr ⟨.list (ms.map .str),.list (ms2.map .str),Den.list (aX.of (n5.same _ _ n4.at)) (Den.strs _),Den.list (aX.of n5.at) (Den.strs _),Iq fun x hx=>az x (pm.mem_iff.mp hx),Iq fun x hx=>na x (Ki.mem_iff.mp hx),?_⟩⟩;have s5:=s4.trans n5.same;have ev:QbO (.list (ms.map .str)) (.list (ms2.map .str))=decide (ms=ms2):=by simp only[QbO];exact yo ms ms2
   rw[ev]
   by_cases e:ms=ms2
   ·have pp:(bk.map (·.1)).Perm ns:=pm.symm.trans (by rw[e];exact Ki);rw[show decide ((bk.map (·.1)).Perm ns)=true from decide_eq_true pp,U4] at q;rw[decide_eq_true e];refine⟨_,rfl,bF ⟨_,rfl,.ref a,bk,rfl,d2.same s5,⋯,cd,fun fr H6 s6 =>?_,fun fr H6 s6 =>?_⟩⟩
    ·have z:=q H6 (xf.trans (s5.trans s6));rw[show xi bk=true from @decide_eq_true _ (Qbv _) fr] at z;exact z
    ·have z:=q H6 (xf.trans (s5.trans s6));rw[show xi bk=false from @decide_eq_false _ (Qbv _) fr] at z;exact z
   ·have np:¬(bk.map (·.1)).Perm ns:=fun pp=>e (Di (pm.trans (pp.trans Ki.symm)) so so2);have z:=q H5 (xf.trans s5);rw[show decide ((bk.map (·.1)).Perm ns)=false from decide_eq_false np,Yu] at z;rw[decide_eq_false e];exact⟨_,rfl,bL z⟩
end
abbrev aG:List Str:=["set", "add", "take", "tell", "ask", "jump", "zero", "stop", "farjump", "farzero", "skip"]
abbrev bI:List Str:=["a", "b", "c", "d"]
abbrev aN:List Str:=["none", "one", "two", "three", "four", "five", "six", "seven", "eight"]
def rK:Qac->Bool
 | .int _=>true
 | _=>false
def fg (bk:List (Str×Str)):List (Key×V):=bk.map fun q=>((Qbb q.1:Key),V.str q.2)
def aV:List (Str×Str)->Str->Str
 | [],_=>Qaq
 | q::r,x=>if q.1=x then q.2 else aV r x
def lX (bk:List (Str×Str))(near dM:Int):Bool:=["jump", "zero"].any fun j:String=>decide (((aV bk (Wp ("far" ++ j))).length:Int)+dM<((aV bk (Wp j)).length:Int)+near)
def xV:Qac->Bool
 | .int i=>decide (2<=i)&&decide (i<=8)
 | _=>false
def EE (d1:Qac):Qac->Qac->Bool
 | .int n,.int f=>decide (n<f)&&(decide (f<=16) && !lX (cX (gX d1)) n f)
 | _,_=>false
def Hv (d1 d4 d5:Qac):Option Str:=if xV d4=false then some "near" else if EE d1 d4 d5=false then some "far" else none
def nj (d1 d2 d3 d4 d5:Qac):Option Str:=
 if dA aG d1=false then some "kinds" else if dA bI d2=false then some "spots" else if dA aN d3=false then some "sizes" else Hv d1 d4 d5
def Go:Option Str->V
 | none =>.non
 | some x =>.str x
def gJ:∀{bk:List (Str×Str)} {x:Str},x∈bk.map (·.1)->gI (fg bk) (.inr x)=some (.str (aV bk x))
 | q::r,x,h=>by
  show gI ((Qbb q.1,V.str q.2)::fg r) _=some (.str (if q.1=x then q.2 else aV r x))
  by_cases e:q.1=x
  ·rw[eB (by rw[e]),if_pos e]
  ·rw[dP (fun z=>e (QcO z)),if_neg e];refine gJ ?_
   rcases Jw.mp h with z|z
   ·exact absurd z.symm e
   ·exact z
def Ar:∀{bk:List (Str×Str)} (x:Str),(∀q∈bk,q.2.length<=200000)->(aV bk x).length<=200000
 | [],_,_=>Um _
 | q::r,x,h=>by
  unfold aV
  split
  ·exact h q Jn
  ·exact Ar x fun z hz=>h z (Jk _ hz)
def uA:∀(kvs acc:List (Key×V)),(kvs.map (·.1)).Nodup->(∀kv∈kvs,gI acc kv.1=none)->cY acc kvs=acc++kvs
 | [],acc,_,_=>by show acc=acc++[];rw[Yg]
 | kv::kvs,acc,nd,h=>by
  rw[J0] at nd;obtain⟨n1,n2⟩:=Yb.mp nd;show cY (putK acc kv.1 kv.2) kvs=_;rw[xN _ (h kv Jn),uA kvs _ n2 fun kw hw =>?_]
  ·rw[U0];rfl
  ·rw[uf _ _ _ _ (h kv Jn),if_neg (fun z=>n1 (by rw[<-z];exact Yk hw))];exact h kw (Jk _ hw)
def fz {bk:List (Str×Str)}(h:(bk.map (·.1)).Nodup):cY [] (fg bk)=fg bk:=by
 have nd:((fg bk).map (·.1)).Nodup:=by
  unfold fg;rw[Yn];refine List.pairwise_map.mpr ((List.pairwise_map.mp h).imp fun{a b} z e=>z (QcO e))
 rw[uA _ _ nd fun kv _=>rfl]
 rfl
def va {K:Ja}{H:Hp}{bk:List (Str×Str)}{us:List V}(h:aI K H (bk.map fun q =>.tuple [.str q.1,.str q.2]) us):∃as:List Gc,us=as.map V.ref/\as.length=bk.length/\∀(j:Nat) b (kv:Key×V),as[j]? = some b->(fg bk)[j]? = some kv->bg K H b [kV kv.1,kv.2]:=by
 induction bk generalizing us with
 | nil=>
  unfold aI at h;subst h;exact⟨[],rfl,rfl,fun j b kv e=>nomatch e⟩
 | cons q bk ih=>
  rw[J0] at h;unfold aI at h;obtain⟨v,r,rfl,hd,h⟩:=h;obtain⟨as,rfl,hl,hk⟩:=ih h;unfold Den at hd;obtain⟨b,vs,rfl,hT,hd⟩:=hd;unfold aI at hd;obtain⟨x,r,rfl,hx,hd⟩:=hd;unfold aI at hd;obtain⟨y,r,rfl,hy,hd⟩:=hd;unfold aI at hd;unfold Den at hx hy;subst hd hx hy;refine⟨b::as,rfl,by rw[Jq,Jq,hl],fun j c kv e1 e2 =>?_⟩;cases j with
  | zero=>cases e1;cases e2;exact hT
  | succ j=>exact hk j c kv e1 e2
def pP {K:Ja}{H:Hp}{d:Qac}{bk:List (Str×Str)}{v:V}(h:Den K H d v)(e:gX d=aQ bk):∃(p:Gc) (as:List Gc),v = .ref p/\(aX K H p (as.map V.ref)\/bg K H p (as.map V.ref))/\as.length=bk.length/\∀(j:Nat) b (kv:Key×V),as[j]? = some b->(fg bk)[j]? = some kv->bg K H b [kV kv.1,kv.2]:=by
 cases d with
 | list ds=>
  have e:ds=bk.map fun q =>.tuple [.str q.1,.str q.2]:=QdY e;unfold Den at h;obtain⟨p,us,rfl,hS,hd⟩:=h;rw[e] at hd;obtain⟨as,rfl,hl,hk⟩:=va hd;exact⟨p,as,rfl,.inl hS,hl,hk⟩
 | tuple ds=>
  have e:ds=bk.map fun q =>.tuple [.str q.1,.str q.2]:=QdY e;unfold Den at h;obtain⟨p,us,rfl,hS,hd⟩:=h;rw[e] at hd;obtain⟨as,rfl,hl,hk⟩:=va hd;exact⟨p,as,rfl,.inr hS,hl,hk⟩
 | _=>exact absurd e (by unfold aQ gX;exact nofun)
def zZ (K:Ja):Sp:=fun vs H Q _=>∃(v:V) (d:Qac),vs=[v]/\Den K H d v/\∀H',ak H H'->Q (.bl (rK d)) H'
def HF (K:Ja):Sp:=fun vs H Q _=>zR fun(v:V) (d:Qac) (bk:List (Str×Str)) (n f:Int)=>vs=[v,.int n,.int f]/\Den K H d v/\gX d=aQ bk/\bk.length<=60/\(∀q∈bk,q.2.length<=200000)/\(bk.map (·.1)).Nodup/\(∀x∈aG,x∈bk.map (·.1))/\∀H',ak H H'->Q (.bl (lX bk n f)) H'
section
variable {P:Qaf}{w:Qag}{K:Ja}{mg:Str->Option Fk}{base:Heap}{f:Gc}{fd:Qad}{aJ aP aS aZ:Gc}{t1 t2 t3:Tok}
def vT:aD ["thing"] ["thing"] (aj (top km)):=⟨rfl,rfl,rfl,∅,rfl,∅,∅⟩
def Hi (F:cj K "is_number" "is_number" (top km) f fd)(T:Nm mg):aW P w K mg base d6 1 f fd ["thing"] (zZ K):=by
 refine F.ok vT (fun vs H Q E h =>?_) (fun cW A outer s H vs Q E hr h =>?_)
 ·obtain⟨v,d,rfl,_⟩:=h
  rfl
 obtain⟨v,d,rfl,hd,q⟩:=h;have hq:=q H (ak.refl _);refine⟨_,(ag (au (fJ (av (jN K) rfl T.n_isinstance (by rfl) (aa (pv 0) (aa (bS rfl T.n_int (by rfl) (v := .ty "int") rfl) ae))) (lR (Gz (av (jN K) rfl T.n_isinstance (by rfl) (aa (pv 0) (aa (bS rfl T.n_bool (by rfl) (v := .ty "bool") rfl) ae)))))))),?_⟩;refine⟨_,rfl,.inl ⟨_, "int",d,_,rfl,hd,(yH K d).2.1,_,rfl,?_⟩⟩;cases d with
 | int i=>exact bL ⟨_,rfl,.inl ⟨_, "bool",.int i,_,rfl,hd,(yH K (.int i)).1,_,rfl,hq⟩⟩
 | bool i=>exact bL ⟨_,rfl,.inl ⟨_, "bool",.bool i,_,rfl,hd,(yH K (.bool i)).1,_,rfl,hq⟩⟩
 | _=>exact bF hq
def gQ:aD ["kinds", "near", "far", "codes"] ["kinds", "near", "far"] (aj (top eN)):=⟨rfl,rfl,rfl,∅,rfl,∅,∅⟩
def OG (F:cj K "far_is_shorter" "far_is_shorter" (top eN) f fd)(T:Nm mg)(da:mg "dict" = none)(uW:mg "JUMPS" = some (.ref aJ))(hJ:∀H,bg K H aJ [V.str "jump",V.str "zero"]):aW P w K mg base d6 1 f fd ["kinds", "near", "far"] (HF K):=by
 refine F.ok gQ (fun vs H Q E h =>?_) (fun cW A outer s H vs Q E hr h =>?_)
 ·obtain⟨v,d,bk,n,f,rfl,_⟩:=h
  rfl
 obtain⟨v,d,bk,n,f,rfl,hd,ea,bl,cl,nd,hk,q⟩:=h;have hu:=kO hr;have eu:=hr.units;obtain⟨p,as,rfl,sq,al,hT⟩:=pP hd ea;have bn:(fg bk).length=bk.length:=by unfold fg;rw[Jc]
 refine⟨_,(af (aB (i:=3) gQ.nd rfl (QbU rfl) (bj (vX K rfl) rfl da (by rfl) (aa (pv 0) ae)))
  (ag (au (av (YC K rfl) rfl T.n_any (by rfl) (aa (cn rfl (bM (Nc:=["jump"]) (Fc:=["far", "near", "codes"]) (js:=[2,1,3])) (iY K (gV rfl uW)) (bb (i:=0) (n:=1) ∅) (fun _ _ _ _ _=>(ar (i:=0) (nA ["jump", "far", "near", "codes"]) rfl (Qae rfl))) (fun _ _ _ _ _=>bP) (fun _ _ _ _ _=>(eI oZ (aE bX (av (fK K) rfl T.n_len (by rfl) (aa (bU hu (pv 3) (aE bX aw (pv 0)) (fun _ _=>rfl)) ae)) (pv 1)) (aE bX (av (fK K) rfl T.n_len (by rfl) (aa (bU hu (pv 3) (pv 0) (fun _ _=>rfl)) ae)) (pv 2)) (aO _)))) ae))))),?_⟩
 refine⟨_,rfl,p,as,fg bk,rfl,sq,by rw[bn];exact al,by rw[bn];lia,hT,fun dd H1 n1=>gn ?_⟩;rw[fz nd] at n1;have small:∀{n:Nat},n<=1000000->n<M2:=fun h=>J6 h ∅
 let tst:Str->Bool:=fun j=>decide (((aV bk (Wp "far" ++ j)).length:Int)+f<((aV bk j).length:Int)+n)
 have js:∀j∈(["jump", "zero"]:List Str),j∈aG/\(Wp "far" ++ j)∈aG/\j.length<=10:=∅;refine⟨aJ,rfl,⟨_,hJ _⟩,?_⟩;refine dw (N:=2) (fun i ys H'=>ak H1 H'/\ys=(((["jump", "zero"]:List Str).take i).map tst).map V.bl) ⟨ak.refl _,rfl⟩ ?_ ?_
 ·rintro i ys H2 Ny hi ⟨s2,rfl⟩ ny;have at1:([V.str "jump",V.str "zero"]:List V)[i]? = some (.str ((["jump", "zero"]:List Str)[i])):=by
   match i,hi with
   | 0,_=>rfl
   | 1,_=>rfl
  refine⟨⟨_,_,hJ _,at1⟩,small (by rw[Jc,Jc,Uc];lia),?_⟩;rintro x' H3 ⟨rfl,hy⟩;have e:=hy _ (hJ _);rw[at1] at e;cases e;obtain⟨j,hj⟩:∃j,j=(["jump", "zero"]:List Str)[i]:=⟨_,rfl⟩
  have jm:=js j (by rw[hj];exact Ud _);rw[<-hj];refine gn ?_;have h2:=s2 _ _ n1.at;have gd:∀{Hx:Hp},Hx dd=some (.dK (fg bk))->∀x,x∈aG->d7 Hx dd (.str x) (some (.str (aV bk x))):=fun h x hx=>by
   rw[<-gJ (hk x hx)];exact d7.k (k := .inr x) h
  have l1:=Ar (Wp "far" ++ j) cl;have l2:=Ar j cl;have lf:(Wp "far").length=3:=rfl;have sz:∀{x:Str},x.length<=200000->x.length<=M2:=fun h=>Jg h ∅;refine⟨_,rfl,_,rfl,.inr (.inl ⟨_,_,rfl,rfl,Yi (small (by rw[lf];lia)),dd,_,rfl,gd h2 _ jm.2.1,?_⟩)⟩;refine⟨_,_,rfl,⟨sz l1,rfl⟩,_,rfl,.inl ⟨_,_,rfl,rfl,?_⟩⟩;refine⟨_,rfl,_,rfl,dd,_,rfl,gd h2 _ jm.1,_,_,rfl,⟨sz l2,rfl⟩,_,rfl,.inl ⟨_,_,rfl,rfl,_,_,rfl,rfl,ny _ _ ⟨s2,?_⟩⟩⟩;rw[Ye (show i<(["jump", "zero"]:List Str).length from hi),Ju,Ju,hj]
  rfl
 ·rintro ys H2 ⟨s2,rfl⟩;refine⟨⟨_,hJ _,Je _⟩,fun pv hp=>⟨pv,_,rfl,aX.of aq,?_⟩⟩;exact q _ (n1.same.trans (s2.trans (bG hp _)))
end
def Ma:Qac->Qac
 | .list ds =>.tuple ds
 | d=>d
structure xq (K:Ja)(H:Hp)(v1 v2 v3 v4 v5:V)(d1 d2 d3 d4 d5:Qac):Prop where
 e1:Den K H d1 v1
 e2:Den K H d2 v2
 e3:Den K H d3 v3
 e4:Den K H d4 v4
 e5:Den K H d5 v5
 f1:MC d1
 f2:MC d2
 f3:MC d3
def xq.same {K:Ja}{H H':Hp}{v1 v2 v3 v4 v5:V}{d1 d2 d3 d4 d5:Qac}(h:xq K H v1 v2 v3 v4 v5 d1 d2 d3 d4 d5)(s:ak H H'):xq K H' v1 v2 v3 v4 v5 d1 d2 d3 d4 d5:=⟨h.e1.same s,h.e2.same s,h.e3.same s,h.e4.same s,h.e5.same s,h.f1,h.f2,h.f3⟩
structure Td (K:Ja)(P:Qaf)(w:Qag)(mg:Str->Option Fk)(aP aS aZ:Gc)(t1 t2 t3:Tok):Prop where
 gP:mg "PARTS" = some (.ref aP)
 gS:mg "SPOT_NAMES" = some (.ref aS)
 gZ:mg "SIZE_NAMES" = some (.ref aZ)
 P:sF fun es n kvs=>Ck K P w aP es n kvs/\kvs.map (·.1)=aG
 S:∀H,bg K H aS (bI.map V.str)
 Z:∀H,bg K H aZ (aN.map V.str)
 vl:mg "LEAST_NEAR" = some (.int 2 t1)
 vm:mg "MOST_NEAR" = some (.int 8 t2)
 vf:mg "MOST_FAR" = some (.int 16 t3)
def P1 (K:Ja):Sp:=fun vs H Q _=>∃(v1 v2 v3 v4 v5:V) (d1 d2 d3 d4 d5:Qac),vs=[v1,v2,v3,v4,v5]/\xq K H v1 v2 v3 v4 v5 d1 d2 d3 d4 d5/\∀H',ak H H'->Q (Go (nj d1 d2 d3 d4 d5)) H'
def Ii {d:Qac}(h:rK d=false):xV d=false:=by cases d<;>first|rfl|cases h
def B2 {d:Qac}(h:rK d=true):∃i,d = .int i:=by cases d<;>first|exact⟨_,rfl⟩|cases h
def oj:(∀x∈aG,kP x=true)/\(∀x∈bI,kP x=true)/\∀x∈aN,kP x=true:=∅
def cU:aG.Nodup:=∅
section
variable {P:Qaf}{w:Qag}{K:Ja}{mg:Str->Option Fk}{base:Heap}{f:Gc}{fd:Qad}{aP aS aZ:Gc}{t1 t2 t3:Tok}
def rh:aD ["kinds", "spots", "sizes", "near", "far"] ["kinds", "spots", "sizes", "near", "far"] (aj (top ik)):=⟨rfl,rfl,rfl,∅,rfl,∅,∅⟩
def R0 (F:cj K "first_wrong" "first_wrong" (top ik) f fd)(T:Nm mg)(M:Td K P w mg aP aS aZ t1 t2 t3)(eF:Fn P w K mg base 5 "is_free_book_of" ["thing", "names"] (IU K))(pf:Fn P w K mg base 1 "is_number" ["thing"] (zZ K))(oO:Fn P w K mg base 1 "far_is_shorter" ["kinds", "near", "far"] (HF K)):aW P w K mg base d6 6 f fd ["kinds", "spots", "sizes", "near", "far"] (P1 K):=by
 refine F.ok rh (fun vs H Q E h =>?_) (fun cW A outer s H vs Q E hr h =>?_)
 ·obtain⟨v1,v2,v3,v4,v5,d1,d2,d3,d4,d5,rfl,_⟩:=h
  rfl
 obtain⟨v1,v2,v3,v4,v5,d1,d2,d3,d4,d5,rfl,D,q⟩:=h;have eu:=hr.units;have mJ:=M.gP;have xb:=M.gS;have bT:=M.gZ;have mL:=M.vl;have oU:=M.vm;have qk:=M.vf;obtain⟨es,n,kvs,KD,ek⟩:=M.P;refine⟨_,(af (bf (eJ (cN (aM (eF.mono ∅) hr rfl (aa (pv 0) (aa (bj (OI rfl) rfl T.n_list (by rfl) (aa (gV rfl mJ) ae)) ae))))) (ag (au aw)) aF)
  (af (bf (eJ (cN (aM (eF.mono ∅) hr rfl (aa (pv 1) (aa (gV rfl xb) ae))))) (ag (au aw)) aF)
  (af (bf (eJ (cN (aM (eF.mono ∅) hr rfl (aa (pv 2) (aa (gV rfl bT) ae))))) (ag (au aw)) aF)
  (af (bf (PW.pt (mZ (eJ (cN (aM (pf.mono ∅) hr rfl (aa (pv 3) ae)))) (kh (eJ (xZ qA qA (kB rfl mL) (pv 3) (kB rfl oU)))))) (ag (au aw)) aF)
  (af (bf (PW.pt (mZ (eJ (cN (aM (pf.mono ∅) hr rfl (aa (pv 4) ae)))) (mZ (eJ (xZ oZ qA (pv 3) (pv 4) (kB rfl qk))) (kh (cN (aM (oO.mono ∅) hr rfl (aa (pv 0) (aa (pv 3) (aa (pv 4) ae))))))))) (ag (au aw)) aF)
  (ag (au cf))))))),?_⟩
 refine⟨_,rfl,aP,es,n,kvs,rfl,KD,by have:=congrArg QdH ek;rw[Jc] at this;rw[this];decide,fun p H1 n1 =>?_⟩;rw[ek] at n1;refine⟨v1,d1,p,aG,rfl,D.e1.same n1.same,D.f1,.inl (aX.of n1.at),∅,oj.1,fun H2 s2=>⟨_,rfl,?_⟩⟩;have xf:=n1.same.trans s2;have D2:=D.same xf;have wy:∀{y:Option Str},nj d1 d2 d3 d4 d5=y->∀H',ak H H'->Q (Go y) H':=fun e H' sm=>by rw[<-e];exact q H' sm
 cases h1:dA aG d1 with
 | false=>exact bL (wy (if_pos h1) _ xf)
 | true=>
 have Vi:¬dA aG d1=false:=by rw[h1];decide
 refine bF ?_;dsimp only[ck];refine⟨_,rfl,v2,d2,aS,bI,rfl,D2.e2,D2.f2,.inr (M.S _),∅,oj.2.1,fun H3 s3=>⟨_,rfl,?_⟩⟩;have Hy:=xf.trans s3;have D3:=D.same Hy;cases h2:dA bI d2 with
 | false=>exact bL (wy ((if_neg Vi).trans (if_pos h2)) _ Hy)
 | true=>
 have n2':¬dA bI d2=false:=by rw[h2];decide
 refine bF ?_;dsimp only[ck];refine⟨_,rfl,v3,d3,aZ,aN,rfl,D3.e3,D3.f3,.inr (M.Z _),∅,oj.2.2,fun H4 s4=>⟨_,rfl,?_⟩⟩;have PZ:=Hy.trans s4;have D4:=D.same PZ;cases h3:dA aN d3 with
 | false=>exact bL (wy ((if_neg Vi).trans ((if_neg n2').trans (if_pos h3))) _ PZ)
 | true=>
 have n3':¬dA aN d3=false:=by rw[h3];decide
 have wy:∀{y:Option Str},Hv d1 d4 d5=y->∀H',ak H H'->Q (Go y) H':=fun e H' sm=>wy ((if_neg Vi).trans ((if_neg n2').trans ((if_neg n3').trans e))) H' sm;refine bF ?_;dsimp only[ck];refine⟨_,rfl,v4,d4,rfl,D4.e4,fun H5 s5=>⟨_,rfl,?_⟩⟩;have Kj:=PZ.trans s5;have D5:=D.same Kj;cases hd4:rK d4 with
 | false=>exact bL (bL (wy (if_pos (Ii hd4)) _ Kj))
 | true=>
 obtain⟨i,rfl⟩:=B2 hd4;have e4:v4 = .int i:=by have:=D.e4;unfold Den at this;exact this
 subst e4;refine bF ?_;have nF:¬(2<=i/\i<=8)->Hv d1 (.int i) d5=some "near":=fun h=>if_pos (by
  show(decide (2<=i)&&decide (i<=8))=false;rw[Bool.and_eq_false_iff]
  by_cases z:2<=i
  ·exact .inr (decide_eq_false fun y=>h ⟨z,y⟩)
  ·exact .inl (decide_eq_false z))
 refine⟨_,rfl,_,_,rfl,rfl,_,rfl,fR (fun c1 =>?_) (fun c1=>⟨_,rfl,bL (wy (nF fun z=>c1 (decide_eq_true z.1)) _ Kj)⟩)⟩;have c1:2<=i:=of_decide_eq_true c1;refine⟨_,_,rfl,rfl,_,rfl,?_⟩
 by_cases c2:i<=8
 case neg=>
  rw[decide_eq_false c2];exact bL (wy (nF fun z=>c2 z.2) _ Kj)
 rw[decide_eq_true c2];refine bF ?_;dsimp only[ck];have wy:∀{y:Option Str},(if EE d1 (.int i) d5=false then some (Wp "far") else none)=y->∀H',ak H H'->Q (Go y) H':=fun e H' sm=>wy ((if_neg (by
  show ¬(decide (2<=i)&&decide (i<=8))=false;rw[decide_eq_true c1,decide_eq_true c2];decide)).trans e) H' sm
 refine⟨_,rfl,v5,d5,rfl,D5.e5,fun H6 s6=>⟨_,rfl,?_⟩⟩;have zY:=Kj.trans s6;have D6:=D.same zY;cases Va:rK d5 with
 | false=>exact bL (bL (wy (if_pos (by cases d5<;>first|rfl|cases Va)) _ zY))
 | true=>
 obtain⟨j,rfl⟩:=B2 Va;have e5:v5 = .int j:=by have:=D.e5;unfold Den at this;exact this
 subst e5;refine bF ?_;have nG:¬(i<j/\j<=16/\lX (cX (gX d1)) i j=false)->EE d1 (.int i) (.int j)=false:=fun h=>by
  show(decide (i<j)&&(decide (j<=16) && !lX (cX (gX d1)) i j))=false
  by_cases z:i<j
  ·by_cases y:j<=16
   ·rw[decide_eq_true z,decide_eq_true y];cases e:lX (cX (gX d1)) i j with
    | true=>rfl
    | false=>exact absurd ⟨z,y,e⟩ h
   ·rw[decide_eq_true z,decide_eq_false y];rfl
  ·rw[decide_eq_false z];rfl
 refine⟨_,rfl,_,rfl,_,_,rfl,rfl,_,rfl,fR (fun c3 =>?_) (fun c3=>⟨_,rfl,bL (bL (wy (if_pos (nG fun z=>c3 (decide_eq_true z.1))) _ zY))⟩)⟩;have c3:i<j:=of_decide_eq_true c3;refine⟨_,_,rfl,rfl,_,rfl,?_⟩
 by_cases c4:j<=16
 case neg=>
  rw[decide_eq_false c4];exact bL (bL (wy (if_pos (nG fun z=>c4 z.2.1)) _ zY))
 rw[decide_eq_true c4];refine bF ?_;have bo:dr (gX d1)=true/\((cX (gX d1)).map (·.1)).Perm aG:=by
  have z:=h1;unfold dA at z;rw[Jv,Jv] at z;exact⟨z.1,of_decide_eq_true z.2.1⟩
 obtain⟨eb,_⟩:=wU bo.1;have AJ:=bo.2.length_eq;rw[Jc] at AJ;refine⟨_,rfl,_,rfl,_,rfl,v1,d1,cX (gX d1),i,j,rfl,D6.e1,eb,by rw[AJ];decide,D.f1.cd,bo.2.nodup_iff.mpr cU,fun x hx=>bo.2.mem_iff.mpr hx,fun H7 s7=>⟨_,rfl,?_⟩⟩;have UI:=zY.trans s7;cases hf:lX (cX (gX d1)) i j with
 | true=>exact bL (wy (if_pos (nG fun z=>by rw[hf] at z;exact absurd z.2.2 ∅)) _ UI)
 | false=>
  refine bF ?_;dsimp only[ck];refine wy (if_neg ?_) _ UI;show ¬(decide (i<j)&&(decide (j<=16) && !lX (cX (gX d1)) i j))=false;rw[decide_eq_true c3,decide_eq_true c4,hf];decide
end
end Z
namespace L2
open PySem
def cR (K:Ja){X:Cx}{e:QaE}{f:Str}{pos:Pos}{ta:TE}(he:PE X e ta)(hb:QbQ e f X.env (QaR e X.env)=QaR e X.env)(hK:X.K=K:=by rfl):PE X (.Attribute e f pos) (Rw K ta f):=by subst hK;exact NG he hb
end L2
namespace Z
open PySem L2
structure Gw (K:Ja)(CF:Gc):Prop where
 c:zm K CF
 n1:dI K CF "kinds"
 n2:dI K CF "spots"
 n3:dI K CF "sizes"
 n4:dI K CF "near"
 n5:dI K CF "far"
def ke (K:Ja)(CF:Gc)(H:Hp)(m:Gc)(d1 d2 d3 d4 d5:Qac):Prop:=Ka fun(dx:Gc) (w1 w2 w3 w4 w5:V)=>H m=some (.ins CF dx [("kinds",w1),("spots",w2),("sizes",w3),("near",w4),("far",w5)]) /\
 Den K H (Ma d1) w1/\Den K H (Ma d2) w2/\Den K H (Ma d3) w3/\Den K H d4 w4/\Den K H d5 w5
def ke.same {K:Ja}{CF:Gc}{H H':Hp}{m:Gc}{d1 d2 d3 d4 d5:Qac}(h:ke K CF H m d1 d2 d3 d4 d5)(s:ak H H'):ke K CF H' m d1 d2 d3 d4 d5:=by
 obtain⟨dx,w1,w2,w3,w4,w5,e,h1,h2,h3,h4,h5⟩:=h;exact⟨dx,w1,w2,w3,w4,w5,s _ _ e,h1.same s,h2.same s,h3.same s,h4.same s,h5.same s⟩
def S0 (K:Ja)(CF C:Gc):Sp:=fun vs H Q E=>eM fun(H0:Hp) (m:Gc)=>Ka fun dx v1 v2 v3 v4 v5=>zR fun d1 d2 d3 d4 d5=>vs=[.ref m,v1,v2,v3,v4,v5]/\ak H0 H/\H0 m=none/\H m=some (.ins CF dx [])/\xq K H0 v1 v2 v3 v4 v5 d1 d2 d3 d4 d5 /\
 (nj d1 d2 d3 d4 d5=none->∀H',ak H0 H'->ke K CF H' m d1 d2 d3 d4 d5->Q .non H') /\
 (∀y,nj d1 d2 d3 d4 d5=some y->∀ex H',ak H0 H'->H' ex=some (.xd [("why",.str y)])->E (.ref C) (some ex) H')
def Cq {H:Hp}{m:Gc}:ak (jA H m) H:=fun a o e=>by
 by_cases z:a=m
 ·rw[z,dq] at e;cases e
 ·rw[bO z] at e;exact e
def xO {H H':Hp}{m:Gc}(s:ak H H'):ak (jA H m) (jA H' m):=fun a o e=>by
 by_cases z:a=m
 ·rw[z,dq] at e;cases e
 ·rw[bO z] at e ⊢;exact s _ _ e
def pT {H:Hp}{m:Gc}{o:HO}:jA (upd H m o) m=jA H m:=by
 funext a
 by_cases z:a=m
 ·rw[z,dq,dq]
 ·rw[bO z,bO z,ao z]
def Ci {H0 H:Hp}{m:Gc}(s:ak H0 H)(n:H0 m=none):ak H0 (jA H m):=fun a o e=>by
 rw[bO (ax e n)];exact s _ _ e
def vc {ns:List Str}{d:Qac}(h:dA ns d=true):∃ds,d = .list ds\/d = .tuple ds:=by
 unfold dA at h;rw[Jv] at h;cases d with
 | list ds=>exact⟨ds,.inl rfl⟩
 | tuple ds=>exact⟨ds,.inr rfl⟩
 | _=>exact absurd h.1 (by unfold gX dr;exact nofun)
def Ab {d1 d2 d3 d4 d5:Qac}(h:nj d1 d2 d3 d4 d5=none):dA aG d1=true/\dA bI d2=true/\dA aN d3=true:=by
 unfold nj at h;cases h1:dA aG d1 with
 | false=>rw[if_pos h1] at h;cases h
 | true=>
  rw[if_neg (by rw[h1];decide)] at h;cases h2:dA bI d2 with
  | false=>rw[if_pos h2] at h;cases h
  | true=>
   rw[if_neg (by rw[h2];decide)] at h;cases h3:dA aN d3 with
   | false=>rw[if_pos h3] at h;cases h
   | true=>exact⟨rfl,rfl,rfl⟩
def zL {K:Ja}{H:Hp}{m:Gc}{o:HO}{d:Qac}{v:V}{Q:VK}{σ:St}{i:Nat}(hv: σ[i]? = some (some v))(hm:H m=some o)(hd:Den K (jA H m) d v)(hs:∃ds,d = .list ds\/d = .tuple ds)
  (k:∀w H',ak (jA H m) (jA H' m)->H' m=some o->Den K (jA H' m) (Ma d) w->Q w H'):TQ (fun xs H Q=>∃p ys,xs=[.ref p]/\((aX K H p ys/\∀l H',ju H l (.tup ys) H'->Q (.ref l) H')\/(bg K H p ys/\Q (.ref p) H))) (m7 (G5 i) GH) σ H Q:=by
 refine⟨_,hv,?_⟩;obtain⟨ds,rfl|rfl⟩:=hs
 ·unfold Den at hd;obtain⟨p,us,rfl,hS,hD⟩:=hd;refine⟨p,us,rfl,.inl ⟨Cq.seq hS,fun l H' n =>?_⟩⟩;have nl:l≠m:=fun z=>by have:=n.nn;rw[z,hm] at this;cases this
  refine k _ _ (xO n.same) (n.same _ _ hm) ?_;show Den K (jA H' m) (.tuple ds) (.ref l);unfold Den;exact⟨l,us,rfl,bg.of (by rw[bO nl];exact n.at),hD.same (xO n.same)⟩
 ·have FQ:=hd;unfold Den at FQ;obtain⟨p,us,rfl,hS,hD⟩:=FQ;exact⟨p,us,rfl,.inr ⟨Cq.bZ hS,k _ _ (ak.refl _) hm hd⟩⟩
section
variable {P:Qaf}{w:Qag}{K:Ja}{mg:Str->Option Fk}{base:Heap}{f fi:Gc}{fd Cb:Qad}{C CF:Gc}
def tN:aD ["self", "why"] ["self", "why"] (aj (inClass (top iE) 0)):=⟨rfl,rfl,rfl,∅,rfl,∅,∅⟩
def B8 (C:Gc)(f:Str):Sp:=fun vs H Q _=>∃(e:Gc) (v:V),vs=[.ref e,v]/\H e=some (xW e C)/\∀dx,H dx=none->dx≠e->Q .non (upd (upd H e (Dv e C dx)) dx (.xd [(f,v)]))
def tD (F:cj K "__init__" "NoForm.__init__" (inClass (top iE) 0) f fd)(S:sN K C "why"):aW P w K mg base d6 1 f fd ["self", "why"] (B8 C "why"):=by
 refine F.ok tN (fun vs H Q E h =>?_) (fun cW A outer s H vs Q E hr h =>?_)
 ·obtain⟨e,v,rfl,_⟩:=h
  rfl
 obtain⟨e,v,rfl,he,q⟩:=h;refine⟨_,(ag (CU (pv 0) (pv 1) rfl)),?_⟩;exact⟨_,rfl,_,rfl,e,C,rfl,he,S,fun dx h1 h2=>q dx h1 h2⟩
def mH:aD ["self", "kinds", "spots", "sizes", "near", "far", "why"] ["self", "kinds", "spots", "sizes", "near", "far"] (aj (inClass (top oC) 0)):=⟨rfl,rfl,rfl,∅,rfl,∅,∅⟩
def RH (F:cj K "__init__" "Form.__init__" (inClass (top oC) 0) f fd)(T:Nm mg)(MF:Gw K CF)(sv:mg "NoForm" = some (.ref C))(qz:Pu K C fi)(sE:aW P w K mg base d6 1 fi Cb ["self", "why"] (B8 C "why"))(qg:Binds K Cb ["self", "why"] [])(tG:Fn P w K mg base 6 "first_wrong" ["kinds", "spots", "sizes", "near", "far"] (P1 K)):
  aW P w K mg base (vY P w base) 7 f fd ["self", "kinds", "spots", "sizes", "near", "far"] (S0 K CF C):=by
 refine F.S3 mH (fun vs H Q E h =>?_) (fun cW A outer s H vs Q E hr h =>?_)
 ·obtain⟨H0,m,dx,v1,v2,v3,v4,v5,d1,d2,d3,d4,d5,rfl,_⟩:=h
  rfl
 obtain⟨H0,m,dx,v1,v2,v3,v4,v5,d1,d2,d3,d4,d5,rfl,sm,nm,hm,D,qY,qN⟩:=h;have eu:=hr.units;refine⟨_,(af (aB (i:=6) mH.nd rfl (Qae rfl) (aM (tG.mono ∅) hr rfl (aa (pv 1) (aa (pv 2) (aa (pv 3) (aa (pv 4) (aa (pv 5) ae)))))))
  (af (bf (aK CP (pv 6) cf (aO _)) (ag (tR (k:=1) qz sE (hr.mono ∅) rfl sv qg (aa (pv 6) ae))) aF)
  (af (ia (pv 0) (bj (nK K) rfl T.n_tuple (by rfl) (aa (pv 1) ae)) rfl)
  (af (ia (pv 0) (bj (nK K) rfl T.n_tuple (by rfl) (aa (pv 2) ae)) rfl)
  (af (ia (pv 0) (bj (nK K) rfl T.n_tuple (by rfl) (aa (pv 3) ae)) rfl)
  (af (ia (pv 0) (pv 4) rfl)
  (ag (ia (pv 0) (pv 5) rfl)))))))),?_⟩
 have nb:∀{Hx:Hp} {a:Gc},ak H Hx->Hx a=none->H a=none:=fun{Hx a} s h=>by
  cases e:H a with
  | none=>rfl
  | some o=>rw[s _ _ e] at h;cases h
 refine⟨_,rfl,_,rfl,_,rfl,_,rfl,_,rfl,v1,v2,v3,v4,v5,d1,d2,d3,d4,d5,rfl,D.same sm,fun H1 s1=>gn ?_⟩;have X2:=sm.trans s1;refine⟨_,rfl,.inl ⟨rfl,?_⟩⟩;cases hw:nj d1 d2 d3 d4 d5 with
 | some y=>
  refine⟨_,rfl,bL ?_⟩;refine⟨_,rfl,by show 1<=1000;decide,fun e he=>⟨e,.str y,rfl,aq,fun dx c1 c2=>⟨rfl,e,dx,rfl,?_,nb s1 he,?_⟩⟩⟩
  ·rw[ao (QaB c2),aq]
  ·refine qN y hw dx _ (fun a o z =>?_) ?_
   ·have z1:=X2 _ _ z;have na:a≠e:=ax z1 he;have nd:a≠dx:=fun y=>by
     rw[ao c2,<-y,z1] at c1;cases c1
    rw[bO na,ao nd,ao na,ao na];exact z1
   ·rw[bO c2,aq]
 | none=>
  refine⟨_,rfl,bF ?_⟩;obtain⟨o1,o2,o3⟩:=Ab hw;have D1:=D.same (Ci X2 nm);dsimp only[ck];unfold HN Od;dsimp only;refine zL (by rfl) (s1 _ _ hm) D1.e1 (vc o1) fun w1 H2 s2 m2 t1 =>?_;refine⟨_,rfl,m,CF,dx,_,rfl,m2,MF.c,MF.n1,by show 0<1000;decide,?_⟩;refine zL (by rfl) aq (pT▸D1.e2.same s2) (vc o2) fun w2 H3 s3 m3 t2 =>?_;rw[pT] at s3;refine⟨_,rfl,m,CF,dx,_,rfl,m3,MF.c,MF.n2,by show 1<1000;decide,?_⟩;refine zL (by rfl) aq (pT▸D1.e3.same (s2.trans s3)) (vc o3) fun w3 H4 s4 m4 t3 =>?_;rw[pT] at s4;refine⟨_,rfl,m,CF,dx,_,rfl,m4,MF.c,MF.n3,by show 2<1000;decide,?_⟩;refine⟨_,rfl,_,rfl,m,CF,dx,_,rfl,aq,MF.c,MF.n4,by show 3<1000;decide,?_⟩;refine⟨_,rfl,_,rfl,m,CF,dx,_,rfl,aq,MF.c,MF.n5,by show 4<1000;decide,?_⟩;have PZ:=s2.trans (s3.trans s4);have fin:∀{Hx:Hp},ak (jA Hx m) (jA H4 m)->∀{o p q:HO},ak (jA Hx m) (upd (upd (upd H4 m o) m p) m q):=fun{Hx} h {o p q}=>h.trans fun a u e=>by
   have na:a≠m:=fun y=>by rw[y,dq] at e;cases e
   rw[bO na] at e;rw[ao na,ao na,ao na];exact e
  refine qY hw _ ?_ ⟨dx,w1,w2,w3,v4,v5,?_,?_,?_,?_,?_,?_⟩
  ·exact fun a o e=>by
    have z:=((Ci X2 nm).trans PZ) _ _ e;have na:a≠m:=fun y=>by rw[y,nm] at e;cases e
    rw[bO na] at z;rw[ao na,ao na,ao na];exact z
  ·exact aq
  ·exact t1.same (fin (s3.trans s4))
  ·exact t2.same (fin s4)
  ·exact t3.same (fin (ak.refl _))
  ·exact D1.e4.same (fin PZ)
  ·exact D1.e5.same (fin PZ)
end
def wb (ks:List Str)(x:Str):M0 (.str x) (ks.map V.str)=ks.contains x:=by
 unfold M0;rw[QfE,List.contains_eq_any_beq]
 congr 1
 funext y
 show Mm (.str y) (.str x)=(x==y)
 show(y==x)=(x==y)
 rw[Wb,beq_iff_eq,beq_iff_eq];exact eq_comm
def jd {H0 H:Hp}{p:Gc}{o:HO}(h:ak H0 H)(n:H0 p=none):ak H0 (upd H p o):=fun x u e=>by
 rw[ao (ax e n)];exact h x u e
def rB {x:Str}{A B:Prop}(q:A):if decide (V.str x=V.str x)=true then A else B:=by
 rw[decide_eq_true rfl];exact bL q
def fI {x y:Str}{A B:Prop}(q:B)(h:(x==y)=false:=by decide +kernel):if decide (V.str x=V.str y)=true then A else B:=by
 rw[decide_eq_false (fun z=>by injection z with z;rw[z,beq_self_eq_true] at h;cases h)];exact bF q
def ZN {ks:List Str}{x:Str}{A B:Prop}(q:B)(h:ks.contains x=false:=by decide +kernel):if (if false=true then !M0 (.str x) (ks.map V.str) else M0 (.str x) (ks.map V.str))=true then A else B:=by
 rw[if_neg Jr,wb,h];exact bF q
def Vn {ks:List Str}{x:Str}{A B:Prop}(q:A)(h:ks.contains x=true:=by decide +kernel):if (if false=true then !M0 (.str x) (ks.map V.str) else M0 (.str x) (ks.map V.str))=true then A else B:=by
 rw[if_neg Jr,wb,h];exact bL q
def cV {α:Type}{l:List α}{i:Nat}(h:i<l.length):l.take (i+1)=l.take i++[l[i]]:=by
 rw[List.take_succ,Jd h];rfl
def OU (K:Ja)(CF C:Gc):Sp:=fun vs H Q E=>Ka fun(lp:Gc) v1 v2 v3 v4 v5=>zR fun d1 d2 d3 d4 d5=>vs=[.ref lp]/\aX K H lp [v1,v2,v3,v4,v5]/\xq K H v1 v2 v3 v4 v5 d1 d2 d3 d4 d5 /\
 (nj d1 d2 d3 d4 d5=none->∀m H',ak H H'->H m=none->ke K CF H' m d1 d2 d3 d4 d5->Q (.ref m) H') /\
 (∀y,nj d1 d2 d3 d4 d5=some y->∀ex H',ak H H'->H' ex=some (.xd [("why",.str y)])->E (.ref C) (some ex) H')
def G4 (K:Ja)(CF:Gc):Sp:=fun vs H Q _=>Ka fun(lp:Gc) v1 v2 v3 v4 v5=>zR fun d1 d2 d3 d4 d5=>vs=[.ref lp]/\aX K H lp [v1,v2,v3,v4,v5]/\xq K H v1 v2 v3 v4 v5 d1 d2 d3 d4 d5/\nj d1 d2 d3 d4 d5=none /\
 ∀m H',ak H H'->H m=none->ke K CF H' m d1 d2 d3 d4 d5->Q (.ref m) H'
def O1 {K:Ja}{CF C:Gc}{vs:List V}{H:Hp}{Q:VK}{E:XK}(h:G4 K CF vs H Q E):OU K CF C vs H Q (fun _ _ _=>False):=by
 obtain⟨lp,v1,v2,v3,v4,v5,d1,d2,d3,d4,d5,rfl,hl,D,hw,q⟩:=h;exact⟨lp,v1,v2,v3,v4,v5,d1,d2,d3,d4,d5,rfl,hl,D,fun _ m H' s n fo=>q m H' s n fo,fun y hy=>by rw[hw] at hy;cases hy⟩
section
variable {P:Qaf}{w:Qag}{K:Ja}{mg:Str->Option Fk}{base:Heap}{f:Gc}{fd:Qad}{C CF cO c1 c2 c3 c4 c5 c6 c7 gi:Gc}{ZY:Qad}
def xk:aD ["_law_parts_here"] ["_law_parts_here"] (aj (top lQ)):=⟨rfl,rfl,rfl,∅,rfl,∅,∅⟩
def Q6 (F:cj K "_law_form" "_law_form" (top lQ) f fd)(T:Nm mg)(K9:Mk K CF gi)(AX:mg "Form" = some (.ref CF))(mR:aW P w K mg base (vY P w base) 7 gi ZY ["self", "kinds", "spots", "sizes", "near", "far"] (S0 K CF C))(mF:Binds K ZY ["self", "kinds", "spots", "sizes", "near", "far"] []):
  aW P w K mg base (vY P w base) 9 f fd ["_law_parts_here"] (OU K CF C):=by
 refine F.S3 xk (fun vs H Q E h =>?_) (fun cW A outer s H vs Q E hr h =>?_)
 ·obtain⟨lp,v1,v2,v3,v4,v5,d1,d2,d3,d4,d5,rfl,_⟩:=h
  rfl
 obtain⟨lp,v1,v2,v3,v4,v5,d1,d2,d3,d4,d5,rfl,hl,D,qY,qN⟩:=h;have eu:=hr.units;refine⟨_,(ag (au (wc K9 (mR.mono (by first|decide|exact Je _)) (hr.mono (by first|decide|exact Je _)) rfl AX mF .nil (uy (E':=E) fun _ _ _ z=>z) (aa (bQ (kr K) (pv 0) ah (fun _ _=>rfl)) (aa (bQ (kr K) (pv 0) ah (fun _ _=>rfl)) (aa (bQ (kr K) (pv 0) ah (fun _ _=>rfl)) (aa (bQ (kr K) (pv 0) ah (fun _ _=>rfl)) (aa (bQ (kr K) (pv 0) ah (fun _ _=>rfl)) ae)))))))),?_⟩;have ix:∀{i:Int} {v:V},([v1,v2,v3,v4,v5]:List V)[i.toNat]? = some v->True:=fun _=>trivial;refine⟨_,rfl,.inl ⟨lp,_,_,v1,rfl,rfl,hl,rfl,_,rfl,.inl ⟨lp,_,_,v2,rfl,rfl,hl,rfl,_,rfl,.inl ⟨lp,_,_,v3,rfl,rfl,hl,rfl,_,rfl,.inl ⟨lp,_,_,v4,rfl,rfl,hl,rfl,_,rfl,.inl ⟨lp,_,_,v5,rfl,rfl,hl,rfl,fun x dx hx hdx ne =>?_⟩⟩⟩⟩⟩⟩;refine⟨H,x,dx,v1,v2,v3,v4,v5,d1,d2,d3,d4,d5,rfl,(bG hdx _).trans (bG (by rw[ao (QaB ne)];exact hx) _),hx,aq,D,fun e H' s fo=>⟨rfl,qY e x H' s hx fo⟩,qN⟩
end
def wG (K:Ja)(n:Nat):Sp:=fun vs H Q _=>sF fun(v1 v2:V) (d:Qac)=>vs=[v1,v2]/\Den K H d v1/\Den K H d v2/\d.depth<n/\d.weight<=1000000/\∀H',ak H H'->Q (.bl true) H'
section
variable {P:Qaf}{w:Qag}{K:Ja}{mg:Str->Option Fk}{base:Heap}{f:Gc}{fd:Qad}
def xh:aD ["_law_found", "_law_due"] ["_law_found", "_law_due"] (aj (top lq)):=⟨rfl,rfl,rfl,∅,rfl,∅,∅⟩
def L1 {n:Nat}(F:cj K "_law_same" "_law_same" (top lq) f fd)(T:Nm mg)(gq:Fn P w K mg base n "_law_same" ["_law_found", "_law_due"] (wG K n)):aW P w K mg base d6 (n+1) f fd ["_law_found", "_law_due"] (wG K (n+1)):=by
 refine F.ok xh (fun vs H Q E h =>?_) (fun cW A outer s H vs Q E hr h =>?_)
 ·obtain⟨v1,v2,d,rfl,_⟩:=h
  rfl
 obtain⟨v1,v2,d,rfl,d1,d2,hn,hw,q⟩:=h;have eu:=hr.units;refine⟨_,(af (bf (aK tE (pv 1) cf (aO _)) (ag (au (eI tE (pv 0) cf (aO _)))) aF)
  (af (bf (cN (av (jN K) rfl T.n_isinstance (by rfl) (aa (pv 1) (aa (bS rfl T.n_bool (by rfl) (v := .ty "bool") rfl) ae)))) (ag (au (fJ (av (jN K) rfl T.n_isinstance (by rfl) (aa (pv 0) (aa (bS rfl T.n_bool (by rfl) (v := .ty "bool") rfl) ae))) (lR (eI (tm K eu) (pv 0) (pv 1) (aO _)))))) aF)
  (af (bf (cN (av (RT K) rfl T.n_isinstance (by rfl) (aa (pv 1) (aa (dg (aa (bS rfl T.n_list (by rfl) (v := .ty "list") rfl) (aa (bS rfl T.n_tuple (by rfl) (v := .ty "tuple") rfl) ae))) ae)))) (af (bf (PW.pt (mZ (aK (KJ K eu) (av (jN K) rfl T.n_isinstance (by rfl) (aa (pv 0) (aa (bS rfl T.n_list (by rfl) (v := .ty "list") rfl) ae))) (av (jN K) rfl T.n_isinstance (by rfl) (aa (pv 1) (aa (bS rfl T.n_list (by rfl) (v := .ty "list") rfl) ae))) (aO _)) (kh (aK (KJ K eu) (av (jN K) rfl T.n_isinstance (by rfl) (aa (pv 0) (aa (bS rfl T.n_tuple (by rfl) (v := .ty "tuple") rfl) ae))) (av (jN K) rfl T.n_isinstance (by rfl) (aa (pv 1) (aa (bS rfl T.n_tuple (by rfl) (v := .ty "tuple") rfl) ae))) (aO _))))) (ag (au sX)) aF)
  (af (bf (aK (KJ K eu) (av (fK K) rfl T.n_len (by rfl) (aa (pv 0) ae)) (av (fK K) rfl T.n_len (by rfl) (aa (pv 1) ae)) (aO _)) (ag (au sX)) aF)
  (ag (au (av (NW K rfl) rfl T.n_all (by rfl) (aa (cn rfl (bM (Nc:=["_law_one", "_law_other"]) (Fc:=[]) (js:=[])) (p0 K rfl T.n_zip (aa (pv 0) (aa (pv 1) ae))) (jK (bR (bb (i:=0) (n:=2) ∅) (bR (bb (i:=1) (n:=2) ∅) gU bA cw) bA (dQ bA cw))) (fun _ _ _ _ _=>(tupK K 2 rfl (ay (ar (i:=0) (nA ["_law_one", "_law_other"]) rfl (Qae rfl)) (ay (ar (i:=1) (nA ["_law_one", "_law_other"]) rfl (Qae rfl)) bD)))) (fun _ _ _ _ _=>bP) (fun _ _ _ _ _=>(aM (gq.mono (by first|decide|exact Je _|lia)) hr rfl (aa (pv 0) (aa (pv 1) ae))))) ae)))))) aF)
  (af (bf (cN (av (jN K) rfl T.n_isinstance (by rfl) (aa (pv 1) (aa (bS rfl T.n_str (by rfl) (v := .ty "str") rfl) ae)))) (ag (au (fJ (av (jN K) rfl T.n_isinstance (by rfl) (aa (pv 0) (aa (bS rfl T.n_str (by rfl) (v := .ty "str") rfl) ae))) (lR (eI (tm K eu) (pv 0) (pv 1) (aO _)))))) aF)
  (ag (au (fJ (av (jN K) rfl T.n_isinstance (by rfl) (aa (pv 0) (aa (bS rfl T.n_int (by rfl) (v := .ty "int") rfl) ae))) (fJ (Gz (av (jN K) rfl T.n_isinstance (by rfl) (aa (pv 0) (aa (bS rfl T.n_bool (by rfl) (v := .ty "bool") rfl) ae)))) (lR (eI (tm K eu) (pv 0) (pv 1) (aO _))))))))))),?_⟩
 cases d with
 | none=>
  have GA:=d1;have FT:=d2;unfold Den at GA FT;subst GA FT;exact⟨_,rfl,.inl ⟨rfl,_,rfl,bL ⟨_,rfl,.inl ⟨rfl,q H (ak.refl _)⟩⟩⟩⟩
 | bool b=>
  have GA:=d1;have FT:=d2;unfold Den at GA FT;subst GA FT;refine⟨_,rfl,.inl ⟨rfl,_,rfl,bF ?_⟩⟩;refine⟨_,rfl,.inl ⟨_, "bool",.bool b,true,rfl,d2,rfl,_,rfl,bL ?_⟩⟩;refine⟨_,rfl,.inl ⟨_, "bool",.bool b,true,rfl,d1,rfl,_,rfl,bL ⟨_,rfl,_,rfl,.inl ⟨rfl,?_⟩⟩⟩⟩;rw[decide_eq_true rfl];exact q H (ak.refl _)
 | int i=>
  have GA:=d1;have FT:=d2;unfold Den at GA FT;subst GA FT;refine⟨_,rfl,.inl ⟨rfl,_,rfl,bF ?_⟩⟩;refine⟨_,rfl,.inl ⟨_, "bool",.int i,false,rfl,d2,rfl,_,rfl,bF ?_⟩⟩;refine⟨_,rfl,by show 2<=M2;decide,fun p H1 n1=>⟨_,p,["list", "tuple"],.int i,false,rfl,n1.at,d2,rfl,_,rfl,bF ?_⟩⟩;refine⟨_,rfl,.inl ⟨_, "str",.int i,false,rfl,d2,rfl,_,rfl,bF ?_⟩⟩;refine⟨_,rfl,.inl ⟨_, "int",.int i,true,rfl,d1,rfl,_,rfl,bL ⟨_,rfl,.inl ⟨_, "bool",.int i,false,rfl,d1,rfl,_,rfl,_,rfl,bL ⟨_,rfl,_,rfl,.inl ⟨rfl,?_⟩⟩⟩⟩⟩⟩;rw[decide_eq_true rfl];exact q H1 n1.same
 | str x=>
  have GA:=d1;have FT:=d2;unfold Den at GA FT;subst GA FT;refine⟨_,rfl,.inl ⟨rfl,_,rfl,bF ?_⟩⟩;refine⟨_,rfl,.inl ⟨_, "bool",.str x,false,rfl,d2,rfl,_,rfl,bF ?_⟩⟩;refine⟨_,rfl,by show 2<=M2;decide,fun p H1 n1=>⟨_,p,["list", "tuple"],.str x,false,rfl,n1.at,d2,rfl,_,rfl,bF ?_⟩⟩;refine⟨_,rfl,.inl ⟨_, "str",.str x,true,rfl,d2,rfl,_,rfl,bL ?_⟩⟩;refine⟨_,rfl,.inl ⟨_, "str",.str x,true,rfl,d1,rfl,_,rfl,bL ⟨_,rfl,_,rfl,.inl ⟨rfl,?_⟩⟩⟩⟩;rw[decide_eq_true rfl];exact q H1 n1.same
 | list ds=>
  have e1:=d1;have e2:=d2;unfold Den at e1 e2;obtain⟨a1,vs1,rfl,s1,ds1⟩:=e1;obtain⟨a2,vs2,rfl,s2,ds2⟩:=e2;simp only[Qa0] at hn;simp only[Qaz] at hw;have hlw:=iZ ds;refine⟨_,rfl,.inl ⟨rfl,_,rfl,bF ?_⟩⟩;refine⟨_,rfl,.inl ⟨_, "bool",.list ds,false,rfl,d2,rfl,_,rfl,bF ?_⟩⟩;refine⟨_,rfl,by show 2<=M2;decide,fun p H1 n1=>⟨_,p,["list", "tuple"],.list ds,true,rfl,n1.at,d2.same n1.same,rfl,_,rfl,bL ?_⟩⟩;have b1:=d1.same n1.same;have b2:=d2.same n1.same;refine⟨_,rfl,.inl ⟨_, "list",.list ds,true,rfl,b1,rfl,_,rfl,.inl ⟨_, "list",.list ds,true,rfl,b2,rfl,.inl ⟨rfl,_,rfl,bF ?_⟩⟩⟩⟩;refine⟨_,rfl,.inl ⟨_, "tuple",.list ds,false,rfl,b1,rfl,_,rfl,.inl ⟨_, "tuple",.list ds,false,rfl,b2,rfl,.inl ⟨rfl,_,rfl,bF ?_⟩⟩⟩⟩;refine⟨_,rfl,_,_,rfl,.inl ⟨vs1,n1.same.seq s1,rfl⟩,_,rfl,_,_,rfl,.inl ⟨vs2,n1.same.seq s2,rfl⟩,.inl ⟨rfl,_,rfl,?_⟩⟩;rw[decide_eq_true (show V.int (vs1.length:Nat)=V.int (vs2.length:Nat) by rw[ds1.len,ds2.len])];refine bF ?_;refine⟨_,rfl,_,rfl,false,false,a1,a2,rfl,⟨_,n1.same.seq s1⟩,⟨_,n1.same.seq s2⟩,?_⟩;refine dw (N:=ds.length) (fun i ys H'=>ak H1 H'/\ys=(Jt i true).map V.bl) ⟨ak.refl _,rfl⟩ ?_ ?_
  ·rintro i ys H2 Nx hi ⟨sm,rfl⟩ nx;have iK:=n1.same.trans sm;obtain⟨x,hx,dx⟩:=ds1.get (i:=i) (d:=ds[i]) (Jd hi);obtain⟨y,hy,dy⟩:=ds2.get (i:=i) (d:=ds[i]) (Jd hi);have q1:kI false K H2 a1 vs1:=iK.seq s1;have q2:kI false K H2 a2 vs2:=iK.seq s2;refine⟨⟨_,_,_,_,q1,q2,hx,hy⟩,by rw[Jc,Uh];exact Jx (show i<10000000 by lia) ∅,?_⟩;rintro x' H3 ⟨T',rfl,hN⟩;have n3:=hN _ _ _ _ q1 q2 hx hy;refine⟨T',_,rfl,bg.of n3.at,rfl,_,_,rfl,_,_,rfl,rfl,?_⟩;have MX:=iK.trans n3.same;refine⟨_,rfl,_,rfl,x,y,ds[i],rfl,dx.same MX,dy.same MX,?_,?_,fun H4 tY=>nx _ _ ⟨sm.trans (n3.same.trans tY),?_⟩⟩
   ·have:=nC (n:=n-1) ⋯ (Ud hi);lia
   ·exact gf hw (Ud hi)
   ·rw[QdF,Ju];rfl
  ·rintro ys H2 ⟨sm,rfl⟩;have iK:=n1.same.trans sm;have q1:kI false K H2 a1 vs1:=iK.seq s1;have q2:kI false K H2 a2 vs2:=iK.seq s2;refine⟨⟨_,_,q1,q2,.inl (by rw[ds1.len];exact Je _)⟩,fun p2 zu =>?_⟩;refine⟨p2,Jt ds.length true,rfl,aX.of aq,?_⟩;rw[all_true];exact q _ (iK.trans (bG zu _))
 | tuple ds=>
  have e1:=d1;have e2:=d2;unfold Den at e1 e2;obtain⟨a1,vs1,rfl,s1,ds1⟩:=e1;obtain⟨a2,vs2,rfl,s2,ds2⟩:=e2;simp only[Qa0] at hn;simp only[Qaz] at hw;have hlw:=iZ ds;refine⟨_,rfl,.inl ⟨rfl,_,rfl,bF ?_⟩⟩;refine⟨_,rfl,.inl ⟨_, "bool",.tuple ds,false,rfl,d2,rfl,_,rfl,bF ?_⟩⟩;refine⟨_,rfl,by show 2<=M2;decide,fun p H1 n1=>⟨_,p,["list", "tuple"],.tuple ds,true,rfl,n1.at,d2.same n1.same,rfl,_,rfl,bL ?_⟩⟩;have b1:=d1.same n1.same;have b2:=d2.same n1.same;refine⟨_,rfl,.inl ⟨_, "list",.tuple ds,false,rfl,b1,rfl,_,rfl,.inl ⟨_, "list",.tuple ds,false,rfl,b2,rfl,.inl ⟨rfl,_,rfl,bF ?_⟩⟩⟩⟩;refine⟨_,rfl,.inl ⟨_, "tuple",.tuple ds,true,rfl,b1,rfl,_,rfl,.inl ⟨_, "tuple",.tuple ds,true,rfl,b2,rfl,.inl ⟨rfl,_,rfl,bF ?_⟩⟩⟩⟩;refine⟨_,rfl,_,_,rfl,.inr ⟨vs1,n1.same.bZ s1,rfl⟩,_,rfl,_,_,rfl,.inr ⟨vs2,n1.same.bZ s2,rfl⟩,.inl ⟨rfl,_,rfl,?_⟩⟩;rw[decide_eq_true (show V.int (vs1.length:Nat)=V.int (vs2.length:Nat) by rw[ds1.len,ds2.len])];refine bF ?_;refine⟨_,rfl,_,rfl,true,true,a1,a2,rfl,⟨_,n1.same.bZ s1⟩,⟨_,n1.same.bZ s2⟩,?_⟩;refine dw (N:=ds.length) (fun i ys H'=>ak H1 H'/\ys=(Jt i true).map V.bl) ⟨ak.refl _,rfl⟩ ?_ ?_
  ·rintro i ys H2 Nx hi ⟨sm,rfl⟩ nx;have iK:=n1.same.trans sm;obtain⟨x,hx,dx⟩:=ds1.get (i:=i) (d:=ds[i]) (Jd hi);obtain⟨y,hy,dy⟩:=ds2.get (i:=i) (d:=ds[i]) (Jd hi);have q1:kI true K H2 a1 vs1:=iK.bZ s1;have q2:kI true K H2 a2 vs2:=iK.bZ s2;refine⟨⟨_,_,_,_,q1,q2,hx,hy⟩,by rw[Jc,Uh];exact Jx (show i<10000000 by lia) ∅,?_⟩;rintro x' H3 ⟨T',rfl,hN⟩;have n3:=hN _ _ _ _ q1 q2 hx hy;refine⟨T',_,rfl,bg.of n3.at,rfl,_,_,rfl,_,_,rfl,rfl,?_⟩;have MX:=iK.trans n3.same;refine⟨_,rfl,_,rfl,x,y,ds[i],rfl,dx.same MX,dy.same MX,?_,?_,fun H4 tY=>nx _ _ ⟨sm.trans (n3.same.trans tY),?_⟩⟩
   ·have:=nC (n:=n-1) ⋯ (Ud hi);lia
   ·exact gf hw (Ud hi)
   ·rw[QdF,Ju];rfl
  ·rintro ys H2 ⟨sm,rfl⟩;have iK:=n1.same.trans sm;have q1:kI true K H2 a1 vs1:=iK.bZ s1;have q2:kI true K H2 a2 vs2:=iK.bZ s2;refine⟨⟨_,_,q1,q2,.inl (by rw[ds1.len];exact Je _)⟩,fun p2 zu =>?_⟩;refine⟨p2,Jt ds.length true,rfl,aX.of aq,?_⟩;rw[all_true];exact q _ (iK.trans (bG zu _))
 | dict _=>unfold Den at d1;exact d1.elim
end
def split_not {g:Nat->Bool}:∀(l:List Nat),l.all g=false->∃p c r,l=p++c::r/\(∀a∈p,g a=true)/\g c=false
 | [],h=>by cases h
 | a::l,h=>by
  cases ha:g a with
  | false=>exact⟨[],a,l,rfl,(fun _ z=>nomatch z),ha⟩
  | true=>
   rw[Qb3,ha,U4] at h;obtain⟨p,c,r,rfl,hp,hc⟩:=split_not l h;refine⟨a::p,c,r,rfl,fun x hx =>?_,hc⟩
   rcases Jw.mp hx with rfl|hx
   ·exact ha
   ·exact hp x hx
def kY (x y:Str):ij x y=x.cps.toList.all y.cps.contains:=by
 unfold ij Qfc;rw[PyProof.Rows.stripBy_eq];generalize y.cps.contains=g;unfold stripHi stripLo;simp only[if_true];have sub:∀i j:Nat,decide (V.str (Qdv x i j)=V.str (Wp ""))=decide (min j x.length<=i):=fun i j=>by
  congr 1
  refine propext ⟨fun h =>?_,fun h =>?_⟩
  ·injection h with h
   have h:=congrArg (fun s:Str=>s.cps.size) h;have e0:(Wp "").cps.size=0:=rfl;simp only[Qdv,Array.size_extract,e0] at h;have:x.cps.size=x.length:=rfl;lia
  ·congr 1
   unfold Qdv;have e:x.cps.extract i j = #[]:=by
    apply Qem;rw[Array.size_extract];have:x.cps.size=x.length:=rfl;lia
   rw[e]
   rfl
 rw[sub];have hlen:x.length=x.cps.toList.length:=by simp[Str.length]
 rw[hlen];generalize x.cps.toList=l
 by_cases h:l.all g=true
 ·rw[h];have e:l.takeWhile g=l:=by
   clear sub hlen
   induction l with
   | nil=>rfl
   | cons a l ih=>
    rw[Qb3,Jv] at h;rw[QdU,if_pos h.1,ih h.2]
  rw[e];exact decide_eq_true ⋯
 ·have hf:l.all g=false:=by simpa using h
  rw[hf];apply decide_eq_false;intro z;obtain⟨p,c,r,rfl,hp,hc⟩:=split_not l hf;have e:(p++c::r).takeWhile g=p:=by
   clear z hlen sub h hf
   induction p with
   | nil=>rw[List.nil_append,QdU,hc];rfl
   | cons a p ih=>
    rw[Qcp,QdU,if_pos (hp a Jn),ih fun x hx=>hp x (Jk _ hx)]
  have ed:(p++c::r).drop p.length=c::r:=List.drop_left;rw[e,ed] at z;have hl:(p++c::r).length=p.length+(r.length+1):=by rw[Jp,Jq]
  have tl:((c::r).reverse.takeWhile g).length<=r.length:=by
   rw[Qcf];have:((r.reverse++[c]).takeWhile g).length<=r.reverse.length:=by
    rw[List.takeWhile_append]
    split
    ·rw[Jp];have e:[c].takeWhile g=[]:=by simp[List.takeWhile,hc]
     rw[e];simp
    ·exact(List.takeWhile_prefix g).length_le
   rw[List.length_reverse] at this;exact this
  lia
def pV {α:Type}[DecidableEq α]{f:Nat -> α}{k: α}:∀{i:Nat},k∈cp f i ↔ ∃j,j<i/\f j=k
 | 0=>by simp[cp]
 | i+1=>by
  unfold cp oneMore;have ih:=pV (f:=f) (k:=k) (i:=i)
  by_cases h:f i∈cp f i
  ·rw[if_pos h,ih];constructor
   ·rintro⟨j,hj,e⟩;exact⟨j,⋯,e⟩
   ·rintro⟨j,hj,e⟩
    by_cases hji:j=i
    ·subst hji;obtain⟨m,hm,em⟩:=(pV (f:=f) (k:=f j) (i:=j)).mp h;exact⟨m,hm,em.trans e⟩
    ·exact⟨j,⋯,e⟩
  ·rw[if_neg h,J9,ih,Js];constructor
   ·rintro(⟨j,hj,e⟩|e)
    ·exact⟨j,⋯,e⟩
    ·exact⟨i,⋯,e.symm⟩
   ·rintro⟨j,hj,e⟩
    by_cases hji:j=i
    ·subst hji;exact .inr e.symm
    ·exact .inl ⟨j,⋯,e⟩
def yQ {α:Type}[DecidableEq α]{f:Nat -> α}:∀{i:Nat},(cp f i).length=i ↔ ∀a b,a<b->b<i->f a≠f b
 | 0=>⟨fun _ a b _ h=>absurd h (Wd _),fun _=>rfl⟩
 | i+1=>by
  have ih:=yQ (f:=f) (i:=i);have le:=lD f i;unfold cp oneMore
  by_cases h:f i∈cp f i
  ·rw[if_pos h];refine⟨fun z=>⋯,fun z =>?_⟩;obtain⟨j,hj,e⟩:=pV.mp h;exact absurd e (z j i hj ⋯)
  ·rw[if_neg h,Jp,Qcn];constructor
   ·intro z a b tP hb e
    by_cases hbi:b=i
    ·subst hbi;exact h (pV.mpr ⟨a,tP,e⟩)
    ·exact ih.mp ⋯ a b tP ⋯ e
   ·intro z;have:=ih.mpr fun a b tP hb=>z a b tP ⋯;lia
def Dl {l:List Str}:(cp (fun i=>l.getD i Qaq) l.length).length=l.length↔l.Nodup:=by
 rw[yQ,List.nodup_iff_pairwise_ne,Uz];constructor
 ·intro h i j hi hj yB e;refine h i j yB hj ?_;simp only[U3,Jd hi,Jd hj];exact e
 ·intro h a b tP hb e;refine h a b ⋯ hb tP ?_;simpa only [U3,Jd hb,Jd (show a<l.length by lia),Option.getD_some] using e
def LQ:Qac->Bool
 | .tuple [.str _,.str y]=>cF (.str y)
 | _=>false
def LY {d:Qac}(h:LQ d=true):∃x y,d = .tuple [.str x,.str y]/\cF (.str y)=true:=by
 unfold LQ at h
 split at h
 ·exact⟨_,_,rfl,h⟩
 ·cases h
def qU:∀{ds:List Qac},(∀x∈ds,LQ x=true)->ds=(cX (.list ds)).map fun q=>Qcz [.str q.1,.str q.2]
 | [],_=>rfl
 | d::ds,h=>by
  obtain⟨x,y,rfl,_⟩:=LY (h d Jn);have ih:=qU fun x hx=>h x (Jk _ hx);show Qcz [.str x,.str y]::ds=Qcz [.str x,.str y]::(cX (.list ds)).map fun q=>Qcz [.str q.1,.str q.2];rw[<-ih]
def Pb {ns:List Str}{d:Qac}{ds:List Qac}(e:gX d = .list ds)(h:∀x∈ds,LQ x=true)(nn:ns≠[])(nd:ns.Nodup)(nv:∀x∈ns,dF (.str x)=true):
  dA ns d=(decide (((cX (.list ds)).map (·.1)).Perm ns)&&xi (cX (.list ds))):=by
 unfold dA;rw[e]
 by_cases hp:((cX (.list ds)).map (·.1)).Perm ns
 ·rw[decide_eq_true hp,U4];have hb:dr (.list ds)=true:=by
   show(!ds.isEmpty&&(ds.all bz&&decide ((cp (fun i=>(ds.map gm).getD i Qaq) ds.length).length=ds.length)))=true;have en:ds.map gm=(cX (.list ds)).map (·.1):=by
    have e2:=congrArg (List.map gm) (qU h);rw[Yn] at e2;exact e2
   rw[Jv,Jv,Yr];refine⟨?_,fun x hx =>?_,decide_eq_true ?_⟩
   ·cases ds with
    | nil=>exact absurd hp.symm.eq_nil nn
    | cons _ _=>rfl
   ·have pF:=hx;rw[qU h] at pF;obtain⟨q,hq,rfl⟩:=Ut.mp pF;have h1:=nv q.1 (hp.mem_iff.mp (Yk hq));have h2:cF (.str q.2)=true:=h _ hx;show(dF (.str q.1)&&cF (.str q.2))=true;rw[h1,h2];rfl
   ·have:=Dl (l:=ds.map gm);rw[Jc] at this;exact this.mpr (by rw[en];exact hp.nodup_iff.mpr nd)
  rw[hb,U4]
 ·rw[decide_eq_false hp,Yu,Bool.and_false]
def Cm (x:Str):decide (V.str x=V.str (Wp ""))=decide (x.length=0):=by
 congr 1
 refine propext ⟨fun h =>?_,fun h =>?_⟩
 ·injection h with h
  rw[h];rfl
 ·congr 1
  cases x with
  | mk c=>
   have:c = #[]:=Qem h;rw[this];rfl
structure QH (ns:List Str):Prop where
 l:ns.length<64
 nn:ns≠[]
 nd:ns.Nodup
 az:∀x∈ns,kP x=true
 ok:∀x∈ns,dF (.str x)=true
def rH (ws:List Str):Sp:=fun vs H Q _=>vs=[]/\∀p H',ju H p (.lst (ws.map V.str)) H'->Q (.ref p) H'
def Sz:QH aG:=⟨∅,∅,∅,∅,∅⟩
def NL:QH bI:=⟨∅,∅,∅,∅,∅⟩
def P2:QH aN:=⟨∅,∅,∅,∅,∅⟩
section
variable {P:Qaf}{w:Qag}{K:Ja}{mg:Str->Option Fk}{base:Heap}{f:Gc}{fd:Qad}
def wk:aD [] [] (aj (top j0)):=⟨rfl,rfl,rfl,∅,rfl,∅,∅⟩
def JN (F:cj K "_law_kinds" "_law_kinds" (top j0) f fd)(T:Nm mg):aW P w K mg base d6 1 f fd [] (rH aG):=by
 refine F.ok wk (fun vs H Q E h =>?_) (fun cW A outer s H vs Q E hr h =>?_)
 ·obtain⟨rfl,_⟩:=h
  rfl
 obtain⟨rfl,q⟩:=h;refine⟨_,(ag (au (uQ K QaA Qff Qfe IT aw (aa aw ae)))),?_⟩;have Su:Qcv (Wp "set add take tell ask jump zero stop farjump farzero skip") (Wp " ")=aG:=∅;have sl:(Wp " ").length≠0:=∅;refine⟨rfl,_,_,rfl,rfl,sl,∅,by rw[Su];decide,fun p H7 n7 =>?_⟩;rw[Su] at n7;exact q p H7 n7
def uX:aD [] [] (aj (top jS)):=⟨rfl,rfl,rfl,∅,rfl,∅,∅⟩
def HP (F:cj K "_law_sizes" "_law_sizes" (top jS) f fd)(T:Nm mg):aW P w K mg base d6 1 f fd [] (rH aN):=by
 refine F.ok uX (fun vs H Q E h =>?_) (fun cW A outer s H vs Q E hr h =>?_)
 ·obtain⟨rfl,_⟩:=h
  rfl
 obtain⟨rfl,q⟩:=h;refine⟨_,(ag (au (uQ K QaA Qff Qfe IT aw (aa aw ae)))),?_⟩;have Su:Qcv (Wp "none one two three four five six seven eight") (Wp " ")=aN:=∅;have sl:(Wp " ").length≠0:=∅;refine⟨rfl,_,_,rfl,rfl,sl,∅,by rw[Su];decide,fun p H7 n7 =>?_⟩;rw[Su] at n7;exact q p H7 n7
end
structure Mx (K:Ja)(G:Hp)(zs:List (Qac×V)):Prop where
 AJ:zs.length<=64
 d:∀z∈zs,Den K G z.1 z.2
 sh:∀z∈zs,Sh 2 z.1
def eX {α:Type}:∀{l:List α} {k:Nat} {z: α},l[k]? = some z->(z::l.eraseIdx k).Perm l
 | [],_,_,h=>by cases h
 | x::l,0,z,h=>by
  cases h;exact Yc.refl _
 | x::l,k+1,z,h=>by
  have ih:=eX (l:=l) (k:=k) (z:=z) h;exact(Yc.swap x z _).trans (ih.cons x)
def Cg (K:Ja):Sp:=fun vs H Q _=>Ka fun(b c p:Gc) (t:Int) (G:Hp) (zs:List (Qac×V))=>vs=[.ref b,.ref p]/\Bx H b c t/\0<=t/\t<50000000/\ak G (ip H b c)/\(aX K H p (zs.map (·.2))\/bg K H p (zs.map (·.2)))/\Mx K G zs /\
 ∀(l:Gc) (Em:List (Qac×V)) (H':Hp) (t':Int),Em.Perm zs->H l=none->H' l=some (.lst (Em.map (·.2)))->Step b c H H' t t' 64->Q (.ref l) H'
section
variable {P:Qaf}{w:Qag}{K:Ja}{mg:Str->Option Fk}{base:Heap}{f:Gc}{fd:Qad}
def je:aD ["_law_state", "_law_some", "_law_rest", "_law_found"] ["_law_state", "_law_some"] (aj (top jB)):=⟨rfl,rfl,rfl,∅,rfl,∅,∅⟩
def He (F:cj K "_law_mixed" "_law_mixed" (top jB) f fd)(T:Nm mg)(bB:Fn P w K mg base 1 "_law_take" ["_law_state", "_law_many"] Ez):aW P w K mg base d6 2 f fd ["_law_state", "_law_some"] (Cg K):=by
 refine F.ok je (fun vs H Q E h =>?_) (fun cW A outer s H vs Q E hr h =>?_)
 ·obtain⟨b,c,p,t,G,zs,rfl,_⟩:=h
  rfl
 obtain⟨b,c,p,t,G,zs,rfl,bx,t0,t1,hG,hs,M,q⟩:=h;have eu:=hr.units;refine⟨_,(af (aB (i:=2) je.nd rfl (Qae rfl) (bj (HD K) rfl T.n_list (by rfl) (aa (pv 1) ae)))
  (af (aB (i:=3) je.nd rfl (Qae rfl) (gL ae))
  (af (kg Qay (aK (KJ K eu) (pv 2) (gL ae) (aO _)) (ag (jj (uQ K QaP Qa8 Qa7 kE (pv 3) (aa (uQ K QaP PySem.F.slot_list_pop PySem.F.type_list_pop M9 (pv 2) (aa (aM (bB.mono ∅) hr rfl (aa (pv 0) (aa (av (fK K) rfl T.n_len (by rfl) (aa (pv 2) ae)) ae))) ae)) ae)))))
  (ag (au (pv 3)))))),?_⟩
 refine⟨_,rfl,p,_,rfl,hs,fun p1 H1 n1=>gn ⟨by show 0<=M2;decide,fun p2 H2 n2=>gn ?_⟩⟩;dsimp only;have HI:=n1.nn;have zu:H p2=none:=n1.back n2.nn;have n21:p2≠p1:=fun z=>by have:=n2.nn;rw[z,n1.at] at this;cases this
 obtain⟨b1,c1⟩:=bx.bq HI;obtain⟨b2,c2⟩:=bx.bq zu;have pJ:Step b c H H2 t t 0:=Step.same bx (n1.same.trans n2.same);have zl:=M.AJ;refine dJ (t:=ll _ _) (fun σ H'=>∃(fs:List (Qac×V)) (t':Int),σ=[some (.ref b),some (.ref p),some (.ref p1),some (.ref p2)]/\fs.Perm zs/\Step b c H H' t t' 64/\H' p2=some (.lst (fs.map (·.2)))) (fun Nx nx =>?_) ?_
 ·refine mv (fun m σ H'=>∃(rs fs:List (Qac×V)) (t':Int),m=rs.length /\ σ=[some (.ref b),some (.ref p),some (.ref p1),some (.ref p2)]/\(rs++fs).Perm zs/\Step b c H H' t t' (64-rs.length)/\H' p1=some (.lst (rs.map (·.2)))/\H' p2=some (.lst (fs.map (·.2)))) ⟨_,zs,[],t,rfl,rfl,by rw[Yg],pJ.more ⋯,n2.same _ _ n1.at,n2.at⟩ ?_;rintro m σ H3 ⟨rs,fs,t3,rfl,rfl,pm,gK,hr3,hf3⟩;have ub3:=gK.ub;have lo3:=gK.le;have rl:=pm.length_eq;rw[Jp] at rl;have G3:ak G H3:=fun a o e=>(oE (gK.sm _ _ (hG _ _ e))).1;have mem:∀z∈rs,z∈zs:=fun z hz=>pm.mem_iff.mp (Yo _ hz);refine⟨_,rfl,by show 0<=M2;decide,fun pe H4 n4 =>.inr ⟨.list (rs.map (·.1)),.list [],Den.list (aX.of (n4.same _ _ hr3)) (aI.of_get (by rw[Jc,Jc]) fun j d v hd hv =>?_),Den.list (aX.of n4.at) (Den.strs []),(Sh.list (n:=2) fun d hd =>?_).shaped ∅,∅,_,rfl,?_⟩⟩
  ·rw[Jj] at hd hv;cases e:rs[j]? with
   | none=>rw[e] at hd;cases hd
   | some z=>
    rw[e] at hd hv;cases hd;cases hv;exact(M.d z (mem z (J2 e))).same (G3.trans n4.same)
  ·obtain⟨z,hz,rfl⟩:=Ut.mp hd;exact M.sh z (mem z hz)
  rw[BX];have j1:=gK.pK n4;have Wm:=n4.same _ _ hr3;have YQ:=n4.same _ _ hf3;cases rs with
  | nil=>exact bF (nx _ _ ⟨fs,t3,rfl,pm,j1.more (by simp),YQ⟩)
  | cons r0 rs0=>
   generalize hrs:r0::rs0=rs at *;have pos:1<=rs.length:=by rw[<-hrs];exact Wh (Um _)
   have em:(rs.map (·.1)).isEmpty=false:=by rw[<-hrs];rfl
   rw[em];refine bL ⟨fun σ' H'=>∃m',m'<rs.length/\_,fun _ _ h=>h,?_⟩;have small:∀{n:Nat},n<=10000->n<M2:=fun h=>J6 h ∅;have vl:(rs.map (·.2)).length=rs.length:=Jc _;refine⟨_,rfl,.inl ⟨rfl,_,aX.of YQ⟩,_,rfl,.inl ⟨rfl,_,aX.of Wm⟩,_,rfl,_,rfl,_,_,rfl,.inl ⟨_,aX.of Wm,rfl⟩,b,c,t3,_,rfl,j1.bx,⋯,⋯,⋯,⋯,fun a H5 a0 a1 dU =>?_⟩;have hr5:=dU.old Wm b1 c1;have hf5:=dU.old YQ b2 c2;have dU:=j1.trans dU;obtain⟨z,hz⟩:∃z,rs[a.toNat]? = some z:=⟨_,Jd ⋯⟩
   refine⟨p1,_,a,z.2,rfl,rfl,hr5,a0,⋯,by rw[Jj,hz];rfl,fun H6 c6 =>?_⟩;have hf6:H6 p2=some (.lst (fs.map (·.2))):=by rw[c6.ne n21];exact hf5
   refine⟨p2,_,_,rfl,rfl,hf6,small (by rw[Jc];lia),fun H7 c7 =>?_⟩;have le:(rs.eraseIdx a.toNat).length=rs.length-1:=List.length_eraseIdx_of_lt ⋯;refine⟨(rs.eraseIdx a.toNat).length,⋯,rs.eraseIdx a.toNat,fs++[z],t3+1,rfl,rfl,?_,((dU.JK c6 HI b1 c1).JK c7 zu b2 c2).more ⋯,?_,?_⟩
   ·refine Yc.trans ?_ pm;have h1:=eX hz;refine Yc.trans ?_ (h1.append_right fs);rw[<-U0];exact List.perm_append_singleton z _
   ·rw[c7.ne n21.symm,c6.at]
    congr 2
    rw[Yy,Yy,Ju,List.map_take,List.map_drop]
   ·rw[c7.at,Ju];rfl
 rintro σ H3 ⟨fs,t3,rfl,pm,gK,hf3⟩;exact⟨_,rfl,q p2 fs H3 t3 pm zu hf3 gK⟩
end
def Qa (most:Nat)(cs:List Str):Nat:=(cs.map fun x=>2^(most-x.length)).sum
structure Cs (most:Nat)(cs:List Str):Prop where
 free:fE cs
 bin:∀x∈cs,sQ x
 le:∀x∈cs,x.length<=most
 full:Qa most cs=2^most
def K0 {most:Nat}{cs ds:List Str}(h:cs.Perm ds):Qa most cs=Qa most ds:=(h.map _).sum_nat
def Cs.one {most:Nat}:Cs most [Qaq]:=⟨Qb9 _ _,fun x hx=>by rw[Js.mp hx];exact fun c hc=>by simp[Qaq] at hc,fun x hx=>by rw[Js.mp hx];exact Um _,by unfold Qa;rw[J0,Qcg,Uu,Qfz];show 2^(most-0)+0=2^most;rw[Nat.sub_zero,Nat.add_zero]⟩
def yp {most:Nat}:∀{cs:List Str},(∀x∈cs,most<=x.length)->Qa most cs=cs.length
 | [],_=>rfl
 | x::cs,h=>by
  have ih:=yp (cs:=cs) fun y hy=>h y (Jk _ hy);unfold Qa at ih ⊢;rw[J0,Uu,ih,show most-x.length=0 from Nat.sub_eq_zero_of_le (h x Jn),Jq];lia
def Cs.short {most:Nat}{cs:List Str}(h:Cs most cs)(hl:cs.length<2^most):∃x∈cs,x.length<most:=by
 apply Qet;intro n;have:=yp (most:=most) (cs:=cs) fun x hx=>Nat.le_of_not_lt fun z=>n ⟨x,hx,z⟩;rw[h.full] at this;lia
def qd (y z:Str):(y++z).length=y.length+z.length:=by
 show(y.cps++z.cps).size=_;rw[Array.size_append];rfl
def Cs.part {most:Nat}{cs:List Str}{y:Str}(h:Cs most cs)(hy:y∈cs)(hl:y.length<most):Cs most (cs.erase y++[y++s0,y++s1]):=by
 have pm:cs.Perm (y::cs.erase y):=Qf7 hy;have l0:(y++s0).length=y.length+1:=qd _ _;have l1:(y++s1).length=y.length+1:=qd _ _;have sub:∀x∈cs.erase y,x∈cs:=fun x hx=>List.mem_of_mem_erase hx;refine⟨?_,fun x hx =>?_,fun x hx =>?_,?_⟩
 ·have:=fE.split (A:=[]) (B:=cs.erase y) (x:=y) (h.free.perm pm);exact this.perm List.perm_append_comm
 ·rcases J9.mp hx with hx|hx
  ·exact h.bin x (sub x hx)
  ·have hb:=h.bin y hy;simp only[Jw,Uq,or_false] at hx
   rcases hx with rfl|rfl
   ·intro c hc;rw[show(y++s0).cps.toList=y.cps.toList++[48] from aH y s0] at hc
    rcases J9.mp hc with hc|hc
    ·exact hb c hc
    ·exact .inl (Js.mp hc)
   ·intro c hc;rw[show(y++s1).cps.toList=y.cps.toList++[49] from aH y s1] at hc
    rcases J9.mp hc with hc|hc
    ·exact hb c hc
    ·exact .inr (Js.mp hc)
 ·rcases J9.mp hx with hx|hx
  ·exact h.le x (sub x hx)
  ·simp only[Jw,Uq,or_false] at hx
   rcases hx with rfl|rfl<;>lia
 ·have e:=h.full;rw[K0 pm] at e;unfold Qa at e ⊢;rw[J0,Uu] at e;rw[Ju,QcA,J0,J0,Qcg,Uu,Uu,Qfz,l0,l1];have:2^(most-y.length)=2^(most-(y.length+1))+2^(most-(y.length+1)):=by
   rw[show most-y.length=(most-(y.length+1))+1 by lia,Wf];lia
  lia
def fE.longer {fs gs:List Str}(h:fE fs)(hl:gs.length=fs.length)(he:∀(j:Nat) y,gs[j]? = some y->∃x u,fs[j]? = some x/\y=x++u):fE gs:=by
 have h:=Uz.mp h;refine Uz.mpr fun i j hi hj yB =>?_;obtain⟨x,u,hx,ex⟩:=he i gs[i] (Jd hi);obtain⟨y,v,hy,ey⟩:=he j gs[j] (Jd hj);obtain⟨zy,rfl⟩:=Jm.mp hx;obtain⟨NT,rfl⟩:=Jm.mp hy;rw[ex,ey];exact(h i j zy NT yB).ext
def CN:sQ (Wp ""):=fun c hc=>by
 rw[show(Wp "").cps.toList=[] by decide +kernel] at hc;cases hc
def IG:Sp:=fun vs H Q _=>zR fun(b c:Gc) (t:Int) (many most:Nat)=>vs=[.ref b,.int (many:Nat),.int (most:Nat)]/\Bx H b c t/\0<=t/\t<40000000/\2<=many/\many<=20/\many<=2^most/\most<=12 /\
 ∀(l:Gc) (cs:List Str) (H':Hp) (t':Int),cs.length=many->fE cs->(∀x∈cs,sQ x/\x.length<=most+2)->H l=none->H' l=some (.lst (cs.map V.str))->Step b c H H' t t' 200->Q (.ref l) H'
section
variable {P:Qaf}{w:Qag}{K:Ja}{mg:Str->Option Fk}{base:Heap}{f:Gc}{fd:Qad}
def dz:aD ["_law_state", "_law_many", "_law_most", "_law_found", "_law_short", "_law_code"] ["_law_state", "_law_many", "_law_most"] (aj (top jW)):=⟨rfl,rfl,rfl,∅,rfl,∅,∅⟩
def ON (F:cj K "_law_codes" "_law_codes" (top jW) f fd)(T:Nm mg)(bB:Fn P w K mg base 1 "_law_take" ["_law_state", "_law_many"] Ez)(fj:Fn P w K mg base 2 "_law_mixed" ["_law_state", "_law_some"] (Cg K)):aW P w K mg base d6 3 f fd ["_law_state", "_law_many", "_law_most"] IG:=by
 refine F.ok dz (fun vs H Q E h =>?_) (fun cW A outer s H vs Q E hr h =>?_)
 ·obtain⟨b,c,t,many,most,rfl,_⟩:=h
  rfl
 obtain⟨b,c,t,many,most,rfl,bx,t0,t1,m2,m20,mm,m12,q⟩:=h;have eu:=hr.units;refine⟨_,(af (aB (i:=3) dz.nd rfl (Qae rfl) (gL (aa aw ae)))
  (af (kg Qay (aK oZ (av (fK K) rfl T.n_len (by rfl) (aa (pv 3) ae)) (pv 1) (aO _)) (af (lK (i:=4) dz.nd rfl (Qae rfl) rfl (bM (Nc:=["_law_code"]) (Fc:=["_law_most"]) (js:=[2])) (Kf K (pv 3)) (bb (i:=0) (n:=1) ∅) (fun _ _ _ _ _=>(ar (i:=0) (nA ["_law_code", "_law_most"]) rfl (Qae rfl))) (fun _ _ _ _ _=>(L6 (aK oZ (av (fK K) rfl T.n_len (by rfl) (aa (pv 0) ae)) (pv 1) (aO _)))) (fun _ _ _ _ _=>(pv 0)))
  (af (aB (i:=5) dz.nd rfl (Qae rfl) (bQ (kr K) (pv 4) (aM (bB.mono ∅) hr rfl (aa (pv 0) (aa (av (fK K) rfl T.n_len (by rfl) (aa (pv 4) ae)) ae))) (fun _ _=>rfl)))
  (af (jj (uQ K QaP PySem.F.slot_list_remove PySem.F.type_list_remove LX (pv 3) (aa (pv 5) ae)))
  (ag (aB (i:=3) dz.nd rfl (Qae rfl) (aE bX (pv 3) (gL (aa (aE bX (pv 5) aw) (aa (aE bX (pv 5) aw) ae))))))))))
  (af (bf (aK (tm K eu) (aM (bB.mono ∅) hr rfl (aa (pv 0) (aa ah ae))) ah (aO _)) (ag (lK (i:=3) dz.nd rfl (Qae rfl) rfl (bM (Nc:=["_law_code"]) (Fc:=["_law_state"]) (js:=[0])) (Kf K (pv 3)) (bb (i:=0) (n:=1) ∅) (fun _ _ _ _ _=>(ar (i:=0) (nA ["_law_code", "_law_state"]) rfl (Qae rfl))) (fun _ _ _ _ _=>bP) (fun _ _ _ _ _=>(aE bX (pv 0) (bQ (kr K) (gL (aa aw (aa aw (aa aw (aa aw (aa aw ae)))))) (aM (bB.mono ∅) hr rfl (aa (pv 1) (aa ah ae))) (fun _ _=>rfl)))))) aF)
  (ag (au (aM (fj.mono ∅) hr rfl (aa (pv 0) (aa (pv 3) ae)))))))),?_⟩
 refine⟨by show 1<=M2;decide,fun l0 H1 n1=>gn ?_⟩;dsimp only;have small:∀{n:Nat},n<=10000->n<M2:=fun h=>J6 h ∅;refine dJ (t:=ll _ _) (fun σ H'=>∃(cs:List Str) (l:Gc) (t':Int) (x4 x5:Option V),σ=[some (.ref b),some (.int (many:Nat)),some (.int (most:Nat)),some (.ref l),x4,x5]/\cs.length=many/\Cs most cs/\H l=none/\H' l=some (.lst (cs.map V.str))/\Step b c H H' t t' 20) (fun Nx nx =>?_) ?_
 ·refine mv (fun m σ H'=>∃(cs:List Str) (l:Gc) (t':Int) (x4 x5:Option V),m=many-cs.length /\ σ=[some (.ref b),some (.int (many:Nat)),some (.int (most:Nat)),some (.ref l),x4,x5]/\cs.length<=many/\Cs most cs/\H l=none/\H' l=some (.lst (cs.map V.str))/\Step b c H H' t t' cs.length) ⟨_,[Qaq],l0,t,_,_,rfl,rfl,by show 1<=many;lia,Cs.one,n1.nn,n1.at,(Step.same bx n1.same).more ∅⟩ ?_;rintro m σ H3 ⟨cs,l,t3,x4,x5,rfl,rfl,cm,C,hl,mf,gK⟩;have ub3:=gK.ub;have lo3:=gK.le;have vl:(cs.map V.str).length=cs.length:=Jc _;obtain⟨lb,lc⟩:=bx.bq hl;refine⟨_,rfl,_,_,rfl,.inl ⟨_,aX.of mf,rfl⟩,_,rfl,_,_,rfl,rfl,_,rfl,?_⟩;refine fR (fun c1 =>?_) (fun c1 =>?_)
  ·have c1:cs.length<many:=by have:=of_decide_eq_true c1;lia
   refine⟨fun σ' H'=>∃m',m'<many-cs.length/\_,fun _ _ h=>h,?_⟩;refine⟨_,rfl,l,rfl,⟨_,aX.of mf⟩,?_⟩;refine dw (N:=cs.length) (fun i ys H'=>H'=H3/\ys=((cs.take i).filter fun x=>decide (x.length<most)).map V.str) ⟨rfl,rfl⟩ ?_ ?_
   ·rintro i ys H' Ny hi ⟨rfl,rfl⟩ ny;have hx:(cs.map V.str)[i]? = some (.str cs[i]):=by rw[Jj,Jd hi];rfl
    have xl:=C.le cs[i] (Ud hi);have fl:((cs.take i).filter fun x=>decide (x.length<most)).length<=20:=Jg (QfW _ _) (by rw[Uc];lia);refine⟨⟨_,_,aX.of mf,hx⟩,small (by rw[Jc];lia),?_⟩;rintro x' H4 ⟨rfl,hy⟩;have e:=hy _ (aX.of mf);rw[hx] at e;cases e;refine gn ?_;refine⟨_,rfl,_,_,rfl,⟨Yi (small ⋯),rfl⟩,_,rfl,_,_,rfl,rfl,_,rfl,?_⟩;have XG:∀ys',ys'=((cs.take (i+1)).filter fun x=>decide (x.length<most)).map V.str->Ny ys' H4:=fun ys' e=>ny _ _ ⟨rfl,e⟩;rw[Ye hi,List.filter_append,Ju] at XG;refine fR (fun c2 =>?_) (fun c2 =>?_)
    ·have c2:cs[i].length<most:=by have:=of_decide_eq_true c2;lia
     refine⟨_,rfl,XG _ ?_⟩;rw[List.filter_cons_of_pos (by exact decide_eq_true c2)]
     rfl
    ·have c2:¬cs[i].length<most:=fun z=>c2 (decide_eq_true ⋯);refine XG _ ?_;rw[List.filter_cons_of_neg (by rw[decide_eq_false c2];decide)];exact(Yg _).symm
   rintro ys H4 ⟨rfl,rfl⟩;refine⟨⟨_,aX.of mf,by rw[vl];exact Je _⟩,?_⟩;rw[Yj];obtain⟨y0,hy0,ly0⟩:=C.short ⋯;have T6:∀y∈cs.filter fun x=>decide (x.length<most),y∈cs/\y.length<most:=fun y hy=>by
    obtain⟨z1,z2⟩:=List.mem_filter.mp hy;exact⟨z1,of_decide_eq_true z2⟩
   have pos:1<=(cs.filter fun x=>decide (x.length<most)).length:=QfC (List.mem_filter.mpr ⟨hy0,decide_eq_true ly0⟩);have fl:(cs.filter fun x=>decide (x.length<most)).length<=20:=Jg (QfW _ _) ⋯;generalize (cs.filter fun x=>decide (x.length<most))=sh at T6 pos fl;have vs:(sh.map V.str).length=sh.length:=Jc _;refine fun ls hls=>gn ?_;have n4:ju H4 ls (.lst (sh.map V.str)) (upd H4 ls (.lst (sh.map V.str))):=⟨hls,rfl⟩
   generalize upd H4 ls (.lst (sh.map V.str))=H5 at n4;have CD:=n4.same _ _ mf;have dU:=gK.pK n4;obtain⟨sb,sc⟩:=gK.bx.bq n4.nn;refine⟨_,rfl,_,rfl,_,rfl,_,_,rfl,.inl ⟨_,aX.of n4.at,rfl⟩,b,c,t3,_,rfl,dU.bx,⋯,⋯,⋯,⋯,fun a H6 a0 a1 zq =>?_⟩;have hs6:=zq.old n4.at sb sc;have Qq:=zq.old CD lb lc;have zq:=dU.trans zq;obtain⟨y,hy⟩:∃y,sh[a.toNat]? = some y:=⟨_,Jd ⋯⟩
   obtain⟨yc,yl⟩:=T6 y (J2 hy);refine .inl ⟨ls,_,a,.str y,rfl,rfl,aX.of hs6,lC a0 (by rw[Jj,hy];rfl),gn ?_⟩;refine⟨_,rfl,.inl ⟨rfl,_,aX.of Qq⟩,_,rfl,l,cs,y,rfl,rfl,Qq,yc,fun H7 c7 =>?_⟩;have tw:=zq.JK c7 hl lb lc;have el:(cs.erase y).length=cs.length-1:=Qfp yc;have eP:1<=cs.length:=QfC yc;have k0:(Wp "0").length=1:=rfl;have k1:(Wp "1").length=1:=rfl;refine⟨_,rfl,_,rfl,.inr (.inl ⟨_,_,rfl,rfl,Yi (small (by rw[k0];lia)),_,rfl,.inr (.inl ⟨_,_,rfl,rfl,Yi (small (by rw[k1];lia)),by show 2<=M2;decide,fun lp H8 n8 =>.inr (.inr ⟨l,lp,_,_,rfl,rfl,n8.same _ _ c7.at,n8.at,Yi (small (by simp only[Jc,Jq,U8];lia)),fun l' H9 n9=>gn ?_⟩)⟩)⟩)⟩;have mX:=(tw.pK n8).pK n9;have cl:(cs.erase y++[y++s0,y++s1]).length=cs.length+1:=by rw[Jp,el];show cs.length-1+2=_;lia
   refine⟨many-(cs.length+1),⋯,cs.erase y++[y++s0,y++s1],l',t3+1,_,_,by rw[cl],rfl,⋯,C.part yc yl,(tw.pK n8).fresh bx n9.nn,by rw[n9.at,Ju];rfl,mX.more ⋯⟩
  ·have c1:¬(cs.length<many):=fun z=>(Yl.mp (Yl.mpr c1)) (decide_eq_true ⋯);exact nx _ _ ⟨cs,l,t3,x4,x5,rfl,⋯,C,hl,mf,gK.more ⋯⟩
 rintro σ H3 ⟨cs,l,t3,x4,x5,rfl,cm,C,hl,mf,gK⟩;have ub3:=gK.ub;have lo3:=gK.le;obtain⟨lb,lc⟩:=bx.bq hl;have vl:(cs.map V.str).length=cs.length:=Jc _;refine dJ (t:=xg _ _ _) (fun σ H'=>∃(ds:List Str) (l:Gc) (t':Int) (x4 x5:Option V),σ=[some (.ref b),some (.int (many:Nat)),some (.int (most:Nat)),some (.ref l),x4,x5]/\ds.length=many/\fE ds/\(∀x∈ds,sQ x/\x.length<=most+2)/\H l=none/\H' l=some (.lst (ds.map V.str))/\Step b c H H' t t' 50) (fun Nx nx =>?_) ?_
 ·refine⟨_,rfl,b,c,t3,2,rfl,gK.bx,⋯,⋯,⋯,⋯,fun a H4 a0 a1 j1 =>?_⟩;have Kh:=j1.old mf lb lc;have j1:=gK.trans j1;refine .inl ⟨rfl,_,rfl,fR (fun _ =>?_) (fun _ =>?_)⟩
  ·refine⟨_,rfl,l,rfl,⟨_,aX.of Kh⟩,?_⟩;refine dw (N:=cs.length) (fun i ys H'=>∃(gs:List Str) (t':Int),ys=gs.map V.str/\gs.length=i/\(∀(j:Nat) y,gs[j]? = some y->∃x u,cs[j]? = some x/\y=x++u/\sQ u/\u.length<=2)/\Step b c H H' t t' (21+i)/\H' l=some (.lst (cs.map V.str))) ⟨[],t3+1,rfl,rfl,(fun j y e=>nomatch e),j1.more ⋯,Kh⟩ ?_ ?_
   ·rintro i ys H5 Ny hi ⟨gs,t5,rfl,gl,gg,dU,CD⟩ ny;have W8:=dU.ub;have Vs:=dU.le;have hx:(cs.map V.str)[i]? = some (.str cs[i]):=by rw[Jj,Jd hi];rfl
    refine⟨⟨_,_,aX.of CD,hx⟩,small (by rw[Jc];lia),?_⟩;rintro x' H6 ⟨rfl,hy⟩;have e:=hy _ (aX.of CD);rw[hx] at e;cases e;have xl:=C.le cs[i] (Ud hi);refine gn ?_;refine⟨_,rfl,by show 5<=M2;decide,fun lp H7 n7=>⟨_,rfl,b,c,t5,5,rfl,dU.bx.same n7.same,⋯,⋯,⋯,⋯,fun r H8 r0 r1 kM =>?_⟩⟩;obtain⟨pb,pc⟩:=dU.bx.bq n7.nn;have Ve:=kM.old n7.at pb pc;have Wj:=kM.old (n7.same _ _ CD) lb lc;have kM:=(dU.pK n7).trans kM;obtain⟨u,hu,bu,lu⟩:∃u:Str,([V.str "",V.str "",V.str "0",V.str "1",V.str "01"]:List V)[r.toNat]? = some (.str u)/\sQ u/\u.length<=2:=by
     have:r=0\/r=1\/r=2\/r=3\/r=4:=by lia
     rcases this with rfl|rfl|rfl|rfl|rfl
     ·exact⟨"",rfl,CN,∅⟩
     ·exact⟨"",rfl,CN,∅⟩
     ·exact⟨"0",rfl,(by unfold sQ;decide +kernel),∅⟩
     ·exact⟨"1",rfl,(by unfold sQ;decide +kernel),∅⟩
     ·exact⟨"01",rfl,(by unfold sQ;decide +kernel),∅⟩
    refine .inl ⟨lp,_,r,.str u,rfl,rfl,aX.of Ve,lC r0 hu,.inr (.inl ⟨_,_,rfl,rfl,Yi (small ⋯),ny _ _ ⟨gs++[cs[i]++u],t5+1,by rw[Ju];rfl,by rw[Jp,gl];rfl,fun j y hj =>?_,kM.more ⋯,Wj⟩⟩)⟩
    by_cases hji:j<gs.length
    ·rw[Uo hji] at hj;exact gg j y hj
    ·rw[Uj ⋯] at hj;have:j-gs.length=0:=by have:=(Jm.mp hj).1;simp at this;lia
     rw[this] at hj;cases hj;exact⟨cs[i],u,by rw[show j=i by lia];exact Jd hi,rfl,bu,lu⟩
   ·rintro ys H5 ⟨gs,t5,rfl,gl,gg,dU,CD⟩;refine⟨⟨_,aX.of CD,by rw[vl];exact Je _⟩,fun p6 hp6=>gn ?_⟩;have n6:ju H5 p6 (.lst (gs.map V.str)) (upd H5 p6 (.lst (gs.map V.str))):=⟨hp6,rfl⟩
    generalize upd H5 p6 (.lst (gs.map V.str))=H6 at n6;refine nx _ _ ⟨gs,p6,t5,x4,x5,rfl,⋯,?_,fun x hx =>?_,dU.fresh bx n6.nn,n6.at,(dU.pK n6).more ⋯⟩
    ·exact C.free.longer ⋯ fun j y hj=>by
      obtain⟨x,u,h1,h2,_⟩:=gg j y hj;exact⟨x,u,h1,h2⟩
    ·obtain⟨j,hj,rfl⟩:=List.getElem_of_mem hx;obtain⟨x,u,h1,h2,h3,h4⟩:=gg j _ (Jd hj);have xm:=J2 h1;have xl:=C.le x xm;rw[h2];refine⟨fun ch hc =>?_,by rw[qd];lia⟩;rw[show(x++u).cps.toList=x.cps.toList++u.cps.toList from aH x u] at hc
     rcases J9.mp hc with hc|hc
     ·exact C.bin x xm ch hc
     ·exact h3 ch hc
  ·exact nx _ _ ⟨cs,l,t3+1,x4,x5,rfl,cm,C.free,fun x hx=>⟨C.bin x hx,by have:=C.le x hx;lia⟩,hl,Kh,j1.more ⋯⟩
 rintro σ H4 ⟨ds,l,t4,x4,x5,rfl,dm,fr,ok,hl,Kh,j1⟩;have W6:=j1.ub;have Wn:=j1.le;obtain⟨lb,lc⟩:=bx.bq hl;have em:(ds.map fun x=>(QbB x,V.str x)).map (·.2)=ds.map V.str:=by rw[Yn];rfl
 refine⟨_,rfl,_,rfl,b,c,l,t4,ip H4 b c,ds.map fun x=>(QbB x,V.str x),rfl,j1.bx,⋯,⋯,ak.refl _,.inl (aX.of (by rw[em];exact Kh)),⟨by rw[Jc];lia,fun z hz =>?_,fun z hz =>?_⟩,fun l5 zs H5 t5 pm hn h5 dU =>?_⟩
 ·obtain⟨x,_,rfl⟩:=Ut.mp hz;show Den K _ (.str x) (.str x);unfold Den
  rfl
 ·obtain⟨x,hx,rfl⟩:=Ut.mp hz;exact Sh.str (eC fun ch hc=>by rcases(ok x hx).1 ch hc with rfl|rfl<;>decide)
 ·have ez:∃es:List Str,zs=es.map (fun x=>(QbB x,V.str x))/\es.Perm ds:=by
   refine⟨zs.map fun z=>match z.1 with | .str x=>x|_=>Qaq,?_,?_⟩
   ·rw[Yn];refine(QeB zs).symm.trans (Y6 fun z hz =>?_);obtain⟨x,_,rfl⟩:=Ut.mp (pm.mem_iff.mp hz)
    rfl
   ·have:=pm.map fun z:Qac×V=>match z.1 with | .str x=>x|_=>Qaq
    rw[Yn] at this;refine this.trans ?_;rw[show(ds.map ((fun z:Qac×V=>match z.1 with | .str x=>x|_=>Qaq)∘fun x=>(QbB x,V.str x)))=ds from(Y6 fun x _=>rfl).trans (QeB ds)]
  obtain⟨es,rfl,pe⟩:=ez;refine q l5 es H5 t5 (by rw[pe.length_eq,dm]) (fr.perm pe.symm) (fun x hx=>ok x (pe.mem_iff.mp hx)) (j1.fresh bx hn) ?_ ((j1.trans dU).more ⋯);rw[h5,Yn]
  rfl
end
abbrev fh (q:Str×Str):Qac := .tuple [.str q.1,.str q.2]
def nQ:∀{ns cs:List Str} {k:Nat} {x c:Str},ns.Nodup->ns[k]? = some x->cs[k]? = some c->aV (ns.zip cs) x=c
 | [],_,_,_,_,_,h,_=>nomatch h
 | _::_,[],_,_,_,_,_,h=>nomatch h
 | n::ns,c0::cs,0,x,c,_,h1,h2=>by
  cases h1;cases h2;show(if n=n then c0 else _)=c0;exact if_pos rfl
 | n::ns,c0::cs,k+1,x,c,nd,h1,h2=>by
  obtain⟨n1,n2⟩:=Yb.mp nd;have hx:x∈ns:=J2 (show ns[k]? = some x from h1);show(if n=x then c0 else aV (ns.zip cs) x)=c;rw[if_neg (fun z=>n1 (by rw[z];exact hx))];exact nQ n2 h1 h2
def BR:∀{ns cs:List Str} {k:Nat} {x y:Str},ns.Nodup->ns.length=cs.length->ns[k]? = some x->(fg (ns.zip cs)).map (fun kv=>if kv.1=Qbb x then (kv.1,V.str y) else kv)=fg (ns.zip (cs.set k y))
 | [],_,_,_,_,_,_,h=>nomatch h
 | _::_,[],_,_,_,_,h,_=>nomatch h
 | n::ns,c::cs,0,x,y,nd,hl,h=>by
  cases h;obtain⟨n1,n2⟩:=Yb.mp nd;show(if (Qbb n:Key)=Qbb n then ((Qbb n:Key),V.str y) else _)::(fg (ns.zip cs)).map _=(Qbb n,V.str y)::fg (ns.zip cs);rw[if_pos rfl]
  congr 1
  conv=>rhs;rw[<-QeB (fg (ns.zip cs))]
  refine Y6 fun kv hkv=>if_neg fun z=>n1 ?_;obtain⟨q,hq,rfl⟩:=Ut.mp hkv;have z:q.1=n:=QcO z;rw[<-z];exact(Qb5 hq).1
 | n::ns,c::cs,k+1,x,y,nd,hl,h=>by
  obtain⟨n1,n2⟩:=Yb.mp nd;have hx:x∈ns:=J2 (show ns[k]? = some x from h);show(if (Qbb n:Key)=Qbb x then _ else ((Qbb n:Key),V.str c))::(fg (ns.zip cs)).map _=(Qbb n,V.str c)::fg (ns.zip (cs.set k y));rw[if_neg (fun z=>n1 (by rw[QcO z];exact hx)),BR n2 (by simpa using hl) h]
def gb {ns cs:List Str}(hl:ns.length=cs.length):(ns.zip cs).map (·.1)=ns:=List.map_fst_zip ⋯
def D7 {ns cs:List Str}(hl:ns.length=cs.length):(ns.zip cs).map (·.2)=cs:=Qer ⋯
def KL {ns cs:List Str}{k:Nat}{x y:Str}(nd:ns.Nodup)(hl:ns.length=cs.length)(h:ns[k]? = some x):putK (fg (ns.zip cs)) (.inr x) (.str y)=fg (ns.zip (cs.set k y)):=by
 unfold putK;rw[m6,gJ (by rw[gb hl];exact J2 h),if_pos (Qf6)];exact BR nd hl h
def swap_perm {cs:List Str}{i j:Nat}{a b:Str}(hi:cs[i]? = some a)(hj:cs[j]? = some b):((cs.set i b).set j a).Perm cs:=by
 obtain⟨h1,rfl⟩:=Jm.mp hi;obtain⟨h2,rfl⟩:=Jm.mp hj;exact List.set_set_perm h1 h2
def jD (bk:List (Str×Str)):cX (aQ bk)=bk:=by
 show(bk.map fh).map _=bk;rw[Yn];exact(Y6 fun q _=>rfl).trans (QeB bk)
def Ls {y:Str}(hb:sQ y)(hl:1<=y.length):cF (.str y)=true:=by
 show(!decide (V.str y=V.str (Wp ""))&&ij y fG)=true;rw[Cm,decide_eq_false ⋯,kY,Bool.not_false,U4,Yr];intro c hc
 rcases hb c hc with rfl|rfl<;>decide +kernel
def HR {ns:List Str}{bk:List (Str×Str)}(N:QH ns)(pm:(bk.map (·.1)).Perm ns)(hc:∀q∈bk,cF (.str q.2)=true)(fr:fE (bk.map (·.2))):dA ns (aQ bk)=true:=by
 have e:=Pb (ns:=ns) (d:=aQ bk) (ds:=bk.map fh) rfl (fun x hx=>by
  obtain⟨q,hq,rfl⟩:=Ut.mp hx;exact hc q hq) N.nn N.nd N.ok
 rw[e,show cX (.list (bk.map fh))=bk from jD bk,decide_eq_true pm,U4];exact @decide_eq_true _ (Qbv _) fr
def CZ {w:Nat}:∀{bk:List (Str×Str)},(∀q∈bk,kP q.1=true/\kP q.2=true/\q.1.length+q.2.length+3<=w)->Gs (w*bk.length) 1 (bk.map fh)
 | [],_=>Gs.nil.mono (Um _) (Um _)
 | q::bk,h=>by
  have ih:=CZ (w:=w) (bk:=bk) fun x hx=>h x (Jk _ hx);obtain⟨h1,h2,h3⟩:=h q Jn;have g:Gd (q.1.length+1+(q.2.length+1)) 1 (fh q):=(Gs.cons (Gd.str (dp:=0) h1 (Je _)) (Gs.one (Gd.str h2 (Je _)))).tuple;refine(Gs.cons g ih).mono ?_ (Je _);rw[Jq,Qdr];lia
def G0 {d:Qac}{ds:List Qac}(h:gX d = .list ds):NJ d=ds.length:=by
 cases d<;>first|(cases h;rfl)|(exact nomatch h)
def MC.of {d:Qac}{w dp:Nat}(g:Gd w dp d)(hw:w<=150000)(hd:dp<=64)(hl:NJ d<=60):MC d:=by
 refine⟨g.pz,Jg g.wt ⋯,g.shaped hd,fun ds e=>by rw[<-G0 e];exact hl,fun q hq =>?_⟩;have wt:(gX d).weight<=150000:=by rw[zH];exact Jg g.wt hw
 cases e:gX d with
 | list ds=>
  rw[e] at hq wt;obtain⟨x,hx,rfl⟩:=Ut.mp (show q∈ds.map _ from hq);have hx:=gf (n:=150000) (by simpa only [Qaz] using wt) hx
  split
  ·simp only[Qaz,Qas] at hx;have:∀y:Str,y.cps.size=y.length:=fun _=>rfl;simp only[this] at hx;dsimp only;lia
  ·exact Um _
 | _=>rw[e] at hq;exact nomatch hq
def IE {bk:List (Str×Str)}{zs Em:List (Qac×V)}(e:zs.map (·.1)=bk.map fh)(p:Em.Perm zs):∃AM:List (Str×Str),AM.Perm bk/\Em.map (·.1)=AM.map fh:=by
 have pm:(Em.map (·.1)).Perm (bk.map fh):=by rw[<-e];exact p.map _
 refine⟨cX (.list (Em.map (·.1))),?_,?_⟩
 ·have:=jD bk
  conv=>rhs;rw[<-this]
  exact pm.map _
 ·have all:∀d∈Em.map (·.1),∃q,d=fh q:=fun d hd=>by
   obtain⟨q,_,rfl⟩:=Ut.mp (pm.mem_iff.mp hd);exact⟨q,rfl⟩
  generalize Em.map (·.1)=ds at all;clear pm p e
  induction ds with
  | nil=>rfl
  | cons d ds ih=>
   obtain⟨q,rfl⟩:=all d Jn;have:=ih fun d hd=>all d (Jk _ hd);show fh q::ds=fh q::(cX (.list ds)).map fh;rw[<-this]
def HB {cs:List Str}(h:fE cs)(hl:2<=cs.length):∀x∈cs,1<=x.length:=fun x hx=>by
 apply Qet;intro n;have x0:sg x=[]:=Ux (by have:x.length=(sg x).length:=str_len x;lia);obtain⟨i,hi,rfl⟩:=Ys.mp hx;have pw:=Uz.mp h
 by_cases i0:i=0
 ·subst i0;have:=(pw 0 1 ⋯ ⋯ ∅).1;rw[x0] at this;exact this List.nil_prefix
 ·have:=(pw 0 i ⋯ hi ⋯).2;rw[x0] at this;exact this List.nil_prefix
def LA {x:Str}(h:sQ x):kP x=true:=Mb.mpr fun c hc=>by rcases h c hc with rfl|rfl<;>decide
def Ia {K:Ja}{G:Hp}{bk:List (Str×Str)}{as:List Gc}(hl:as.length=bk.length)(AJ:bk.length<=64)(az:∀q∈bk,kP q.1=true/\kP q.2=true)(h:∀(j:Nat) a q,as[j]? = some a->bk[j]? = some q->G a=some (.tup [.str q.1,.str q.2])):
  ∃zs:List (Qac×V),zs.map (·.1)=bk.map fh/\zs.map (·.2)=as.map V.ref/\Mx K G zs:=by
 have l1:(bk.map fh).length=(as.map V.ref).length:=by rw[Jc,Jc,hl]
 refine⟨(bk.map fh).zip (as.map V.ref),List.map_fst_zip ⋯,Qer ⋯,?_,?_,?_⟩
 ·rw[Yh,Jc];lia
 ·intro z hz;obtain⟨j,hj⟩:=J7.mp hz;have z1:=U5.mp hj;rw[Jj,Jj] at z1;obtain⟨e1,e2⟩:=z1;cases h1:bk[j]? with
  | none=>rw[h1] at e1;cases e1
  | some q=>
   cases h2:as[j]? with
   | none=>rw[h2] at e2;cases e2
   | some a=>
    rw[h1] at e1;rw[h2] at e2;rw[<-Qao e1,<-Qao e2];exact SX (h j a q h2 h1) (bJ Lh (bJ Lh fM))
 ·intro z hz;have z1:=(Qb5 (a:=z.1) (b:=z.2) hz).1;obtain⟨q,hq,e⟩:=Ut.mp z1;rw[<-e];have h1:=az q hq;refine(fun h=>⟨h.1,Jg h.2 ∅⟩:Sh 1 (fh q)->Sh 2 (fh q)) (Sh.tuple (n:=0) (ds:=[.str q.1,.str q.2]) fun d hd =>?_)
  ·simp only[Jw,Uq,or_false] at hd
   rcases hd with rfl|rfl
   ·exact Sh.str (eC fun ch hc=>by have:=Am h1.1 ch hc;lia)
   ·exact Sh.str (eC fun ch hc=>by have:=Am h1.2 ch hc;lia)
def Az {K:Ja}{G G':Hp}{bk:List (Str×Str)}{zs Em:List (Qac×V)}{l:Gc}(e:zs.map (·.1)=bk.map fh)(M:Mx K G zs)(p:Em.Perm zs)(s:ak G G')(hl:G' l=some (.lst (Em.map (·.2)))):
  ∃AM:List (Str×Str),AM.Perm bk/\Den K G' (aQ AM) (.ref l):=by
 obtain⟨AM,h1,h2⟩:=IE e p;refine⟨AM,h1,Den.list (aX.of hl) ?_⟩;show aI K G' (AM.map fh) _;rw[<-h2];refine aI.of_get (by rw[Jc,Jc]) fun j d v hd hv =>?_;rw[Jj] at hd hv;cases ez:Em[j]? with
 | none=>rw[ez] at hd;cases hd
 | some z=>
  rw[ez] at hd hv;cases hd;cases hv;exact(M.d z (p.mem_iff.mp (J2 ez))).same s
structure Good3 (rf wV vB:List (Str×Str))(near dM:Int):Prop where
 why:nj (aQ rf) (aQ wV) (aQ vB) (.int near) (.int dM)=none
 n1:(rf.map (·.1)).Perm aG
 l1:rf.length=11
 l2:wV.length=4
 l3:vB.length=9
 sz:∀q,q∈rf\/q∈wV\/q∈vB->kP q.1=true/\kP q.2=true/\q.1.length<=8/\q.2.length<=11
 fr:near.natAbs<10/\dM.natAbs<20
def GV (K:Ja):Sp:=fun vs H Q _=>sF fun(b c:Gc) (t:Int)=>vs=[.ref b]/\Bx H b c t/\0<=t/\t<30000000 /\
 ∀(l:Gc) (r1 r2 r3:V) (rf wV vB:List (Str×Str)) (near dM:Int) (H':Hp) (t':Int),Good3 rf wV vB near dM->H l=none->H' l=some (.lst [r1,r2,r3,.int near,.int dM])->aI K (ip H' b c) [aQ rf,aQ wV,aQ vB] [r1,r2,r3]->Step b c H H' t t' 1500->Q (.ref l) H'
def wK {ns cs:List Str}{most:Nat}(hn:∀x∈ns,kP x=true/\x.length<=8)(hm:most<=11)(hc:∀x∈cs,sQ x/\x.length<=most):∀q∈ns.zip cs,kP q.1=true/\kP q.2=true/\q.1.length<=8/\q.2.length<=11:=fun q hq=>by
 obtain⟨h1,h2⟩:=Qb5 (a:=q.1) (b:=q.2) hq;exact⟨(hn _ h1).1,LA (hc _ h2).1,(hn _ h1).2,Jg (hc _ h2).2 hm⟩
def nZ:(∀x∈aG,kP x=true/\x.length<=8)/\(∀x∈bI,kP x=true/\x.length<=8)/\∀x∈aN,kP x=true/\x.length<=8:=∅
def vD {ns cs:List Str}{bk:List (Str×Str)}(N:QH ns)(hl:ns.length=cs.length)(h2:2<=cs.length)(hb:∀x∈cs,sQ x)(fr:fE cs)(p:bk.Perm (ns.zip cs)):dA ns (aQ bk)=true:=by
 have p1:=p.map (·.1);have p2:=p.map (·.2);rw[gb hl] at p1;rw[D7 hl] at p2;refine HR N p1 (fun q hq =>?_) (fr.perm p2.symm);have GP:q.2∈cs:=p2.mem_iff.mp (Yk hq);exact Ls (hb _ GP) (HB fr h2 _ GP)
def L7 {bk AM:List (Str×Str)}{x:Str}(p:AM.Perm bk)(nd:(bk.map (·.1)).Nodup)(hx:x∈bk.map (·.1)):aV AM x=aV bk x:=by
 have Sf:=(p.map (·.1)).nodup_iff.mpr nd;have of:∀{bs:List (Str×Str)},(bs.map (·.1)).Nodup->∀y,(x,y)∈bs->aV bs x=y:=fun{bs}=>by
  induction bs with
  | nil=>intro _ y h;exact nomatch h
  | cons q r ih=>
   intro nd y h;rw[J0] at nd;obtain⟨n1,n2⟩:=Yb.mp nd;unfold aV
   rcases Jw.mp h with e|h
   ·rw[<-e];exact if_pos rfl
   ·rw[if_neg (fun z=>n1 (by rw[z];exact Yk (f:=(·.1)) h))];exact ih n2 y h
 obtain⟨q,hq,rfl⟩:=Ut.mp hx;rw[of nd q.2 hq,of Sf q.2 (p.mem_iff.mpr hq)]
def Gg {bk AM:List (Str×Str)}{n f:Int}(p:AM.Perm bk)(hn:bk.map (·.1)=aG):lX AM n f=lX bk n f:=by
 have e:∀x∈aG,aV AM x=aV bk x:=fun x hx=>L7 p (by rw[hn];exact cU) (by rw[hn];exact hx);unfold lX;simp only[Y7,List.any_nil,Qd2];rw[e _ ∅,e _ ∅,e _ ∅,e _ ∅]
def Ih {rf wV vB:List (Str×Str)}{n f:Int}(h1:dA aG (aQ rf)=true)(h2:dA bI (aQ wV)=true)(h3:dA aN (aQ vB)=true)(n2:2<=n)(n8:n<=8)(nf:n<f)(Pk:f<=16)(hf:lX rf n f=false):nj (aQ rf) (aQ wV) (aQ vB) (.int n) (.int f)=none:=by
 unfold nj Hv;rw[h1,h2,h3,if_neg ∅,if_neg ∅,if_neg ∅];rw[show xV (.int n)=true from by show(decide (2<=n)&&decide (n<=8))=true;rw[decide_eq_true n2,decide_eq_true n8];rfl,if_neg ∅];have:EE (aQ rf) (.int n) (.int f)=true:=by
  show(decide (n<f)&&(decide (f<=16) && !lX (cX (aQ rf)) n f))=true;rw[jD,hf,decide_eq_true nf,decide_eq_true Pk];rfl
 rw[this,if_neg ∅]
def yM {H:Hp}{dd:Gc}{ns cs:List Str}{k:Nat}{x y:Str}(h:H dd=some (.dK (fg (ns.zip cs))))(nd:ns.Nodup)(hl:ns.length=cs.length)(hx:ns[k]? = some x)(sm:ns.length<1000):
  ∃H',Ip H dd (.dK (fg (ns.zip (cs.set k y)))) H'/\tH H dd (.str x) (.str y) H':=by
 refine⟨_,⟨rfl⟩,?_⟩;rw[<-KL nd hl hx];exact tH.k (k := .inr x) h (J6 (show(fg (ns.zip cs)).length<=1000 by unfold fg;rw[Jc,Yh];lia) ∅)
def Gp {H:Hp}{dd:Gc}{ns cs:List Str}{k:Nat}{x c:Str}(h:H dd=some (.dK (fg (ns.zip cs))))(nd:ns.Nodup)(hl:ns.length=cs.length)(hx:ns[k]? = some x)(hc:cs[k]? = some c):d7 H dd (.str x) (some (.str c)):=by
 have e:gI (fg (ns.zip cs)) (.inr x)=some (.str c):=by rw[gJ (by rw[gb hl];exact J2 hx),nQ nd hx hc]
 rw[<-e];exact d7.k (k := .inr x) h
def Fs {ns:List Str}{cs:List Str}(nd:ns.Nodup)(hl:ns.length=cs.length):cY [] ((ns.map (Qbb:Str->Key)).zip (cs.map V.str))=fg (ns.zip cs):=by
 have e:(ns.map (Qbb:Str->Key)).zip (cs.map V.str)=fg (ns.zip cs):=by
  unfold fg;rw[List.zip_map]
  rfl
 rw[e,fz (by rw[gb hl];exact nd)]
def Md:∀(j:Nat) (c:Nat),(Wp "abcd").cps[j]? = some c->bI[j]? = some ⟨#[c]⟩:=by
 intro j c h;have hj:j<4:=(U2.mp h).1
 match j,hj with
 | 0,_=>cases h;rfl
 | 1,_=>cases h;rfl
 | 2,_=>cases h;rfl
 | 3,_=>cases h;rfl
structure ye (K:Ja)(b c:Gc)(H:Hp)(p:Gc)(bk:List (Str×Str))(as:List Gc):Prop where
 at':H p=some (.lst (as.map V.ref))
 pb:p≠b
 pc:p≠c
 len:as.length=bk.length
 prs:∀(j:Nat) a q,as[j]? = some a->bk[j]? = some q->ip H b c a=some (.tup [.str q.1,.str q.2])
def ye.step {K:Ja}{b c p:Gc}{H H':Hp}{t t' N:Int}{bk:List (Str×Str)}{as:List Gc}(h:ye K b c H p bk as)(s:Step b c H H' t t' N):ye K b c H' p bk as:=
 ⟨s.old h.at' h.pb h.pc,h.pb,h.pc,h.len,fun j a q e1 e2=>s.sm _ _ (h.prs j a q e1 e2)⟩
section
variable {P:Qaf}{w:Qag}{K:Ja}{mg:Str->Option Fk}{base:Heap}{f:Gc}{fd:Qad}
def bW:aD ["_law_state", "_law_kinds_here", "_law_near", "_law_far", "_law_one", "_law_other", "_law_kept", "_law_spots", "_law_sizes_here"] ["_law_state"] (aj (top jH)):=⟨rfl,rfl,rfl,∅,rfl,∅,∅⟩
def GQ (F:cj K "_law_parts" "_law_parts" (top jH) f fd)(T:Nm mg)(da:mg "dict" = none)(yZ:Fn P w K mg base 1 "_law_kinds" [] (rH aG))(jQ:Fn P w K mg base 1 "_law_sizes" [] (rH aN))(bB:Fn P w K mg base 1 "_law_take" ["_law_state", "_law_many"] Ez)(fj:Fn P w K mg base 2 "_law_mixed" ["_law_state", "_law_some"] (Cg K))(j2:Fn P w K mg base 3 "_law_codes" ["_law_state", "_law_many", "_law_most"] IG):aW P w K mg base d6 4 f fd ["_law_state"] (GV K):=by
 refine F.ok bW (fun vs H Q E h =>?_) (fun cW A outer s H vs Q E hr h =>?_)
 ·obtain⟨b,c,t,rfl,_⟩:=h
  rfl
 obtain⟨b,c,t,rfl,bx,t0,t1,q⟩:=h;have eu:=hr.units;have hu:=kO hr;have small:∀{n:Nat},n<=10000->n<M2:=fun h=>J6 h ∅;refine⟨_,(af (aB (i:=1) bW.nd rfl (Qae rfl) (AH rfl rfl da rfl T.n_zip (aa (AW (yZ.mono (by first|decide|exact Je _|lia)) hr rfl) (aa (aM (j2.mono ∅) hr rfl (aa (pv 0) (aa ah (aa (bQ (kr K) (gL (aa ah (aa ah (aa ah (aa ah ae))))) (aM (bB.mono ∅) hr rfl (aa (pv 0) (aa ah ae))) (fun _ _=>rfl)) ae)))) ae))))
  (af (aB (i:=2) bW.nd rfl (Qae rfl) (aE bX ah (aM (bB.mono ∅) hr rfl (aa (pv 0) (aa ah ae)))))
  (af (aB (i:=3) bW.nd rfl (Qae rfl) (aE bX (aE bX (pv 2) ah) (aM (bB.mono ∅) hr rfl (aa (pv 0) (aa (aE jL ah (pv 2)) ae)))))
  (af (eQ Qay rfl (iY K (dg (aa (dg (aa aw (aa aw ae))) (aa (dg (aa aw (aa aw ae))) ae)))) (tupK K 2 rfl (ay (ar (i:=4) bW.nd rfl (Qae rfl)) (ay (ar (i:=5) bW.nd rfl (Qae rfl)) bD))) (ag (bf (aK oZ (aE bX (av (fK K) rfl T.n_len (by rfl) (aa (bU hu (pv 1) (pv 5) (fun _ _=>rfl)) ae)) (pv 3)) (aE bX (av (fK K) rfl T.n_len (by rfl) (aa (bU hu (pv 1) (pv 4) (fun _ _=>rfl)) ae)) (pv 2)) (aO _)) (af (aB (i:=6) bW.nd rfl (Qae rfl) (bU hu (pv 1) (pv 4) (fun _ _=>rfl)))
  (af (vZ hu (pv 1) (pv 4) (bU hu (pv 1) (pv 5) (fun _ _=>rfl)) rfl)
  (ag (vZ hu (pv 1) (pv 5) (pv 6) rfl)))) aF)))
  (af (aB (i:=7) bW.nd rfl (Qae rfl) (yk rfl rfl T.n_list rfl T.n_zip (aa aw (aa (aM (j2.mono ∅) hr rfl (aa (pv 0) (aa ah (aa ah ae)))) ae))))
  (af (aB (i:=8) bW.nd rfl (Qae rfl) (Bd rfl rfl T.n_list rfl T.n_zip (aa (AW (jQ.mono (by first|decide|exact Je _|lia)) hr rfl) (aa (aM (j2.mono ∅) hr rfl (aa (pv 0) (aa ah (aa (bQ (kr K) (gL (aa ah (aa ah (aa ah ae)))) (aM (bB.mono ∅) hr rfl (aa (pv 0) (aa ah ae))) (fun _ _=>rfl)) ae)))) ae))))
  (ag (au (gL (aa (aM (fj.mono ∅) hr rfl (aa (pv 0) (aa (Df rfl rfl T.n_list (pv 1)) ae))) (aa (aM (fj.mono ∅) hr rfl (aa (pv 0) (aa (pv 7) ae))) (aa (aM (fj.mono ∅) hr rfl (aa (pv 0) (aa (pv 8) ae))) (aa (pv 2) (aa (pv 3) ae)))))))))))))),?_⟩
 dsimp only;refine gu (te:=tDZ _ _) (fun v H'=>∃(dd:Gc) (cs:List Str) (t':Int),v = .ref dd/\cs.length=11/\fE cs/\(∀x∈cs,sQ x/\x.length<=11)/\H dd=none/\H' dd=some (.dK (fg (aG.zip cs)))/\Step b c H H' t t' 300) (fun Qn qn =>?_) ?_
 ·refine⟨rfl,fun pk H1 n1=>⟨_,rfl,by show 4<=M2;decide,fun lp H2 n2=>⟨_,rfl,b,c,t,4,rfl,(bx.same n1.same).same n2.same,t0,⋯,∅,∅,fun r H3 r0 r1 gK =>?_⟩⟩⟩;obtain⟨pb,pc⟩:=bx.bq n1.nn;obtain⟨lb,lc⟩:=(bx.same n1.same).bq n2.nn;have hk3:=gK.old (n2.same _ _ n1.at) pb pc;have Qd:=gK.old n2.at lb lc;have gK:=(Step.same bx (n1.same.trans n2.same)).trans gK;obtain⟨m,hm,m4,m9⟩:∃m:Nat,([V.int 4,V.int 4,V.int 5,V.int 9]:List V)[r.toNat]? = some (.int (m:Nat))/\4<=m/\m<=9:=by
   have:r=0\/r=1\/r=2\/r=3:=by lia
   rcases this with rfl|rfl|rfl|rfl
   ·exact⟨4,rfl,∅,∅⟩
   ·exact⟨4,rfl,∅,∅⟩
   ·exact⟨5,rfl,∅,∅⟩
   ·exact⟨9,rfl,∅,∅⟩
  have mm:11<=2^m:=Jg (show 11<=2^4 by decide) (QdN ∅ m4);refine .inl ⟨lp,_,r,.int (m:Nat),rfl,rfl,aX.of Qd,lC r0 hm,b,c,t+1,11,m,rfl,gK.bx,⋯,⋯,∅,∅,mm,⋯,fun l cs H4 t4 cl fr cb hl0 tF j1 =>?_⟩;have hk4:=j1.old hk3 pb pc;have j1:=gK.trans j1;refine⟨pk,l,aG.map Qbb,cs.map V.str,rfl,aX.of hk4,aX.of tF,by rw[Jc,Jc,cl];rfl,∅,fun d H5 n5 =>?_⟩;rw[Fs cU (by rw[cl];rfl)] at n5;exact qn _ _ ⟨d,cs,t4,rfl,cl,fr,fun x hx=>⟨(cb x hx).1,by have:=(cb x hx).2;lia⟩,j1.fresh bx n5.nn,n5.at,(j1.pK n5).more ⋯⟩
 rintro v H1 ⟨dd,cs,t2,rfl,cl,fr,cb,hd0,Oo,zw⟩;obtain⟨db,dc⟩:=bx.bq hd0;have ub1:=zw.ub;have lo1:=zw.le;refine gn ?_;refine⟨_,rfl,b,c,t2,7,rfl,zw.bx,⋯,⋯,∅,∅,fun r2 H2 r20 r21 pJ =>.inl ⟨_,_,rfl,rfl,gn ?_⟩⟩;have Qo:=pJ.old Oo db dc;have pJ:=zw.trans pJ;refine⟨_,rfl,.inl ⟨_,_,rfl,rfl,_,rfl,_,rfl,_,_,rfl,rfl,b,c,_,_,rfl,pJ.bx,⋯,⋯,⋯,⋯,fun r3 H3 r30 r31 gK =>.inl ⟨_,_,rfl,rfl,gn ?_⟩⟩⟩;have NO:=gK.old Qo db dc;have gK:=pJ.trans gK;obtain⟨near,en⟩:∃near:Int,near=2+r2:=⟨_,rfl⟩
 obtain⟨dM,ef⟩:∃dM:Int,dM=2+r2+1+r3:=⟨_,rfl⟩
 rw[<-ef,<-en];have n2:2<=near:=by lia
 have n8:near<=8:=by lia
 have nf:near<dM:=by lia
 have Pk:dM<=16:=by lia
 have kl:aG.length=cs.length:=by rw[cl];rfl
 have sz:∀{x:Str},x.length<=11->x.length<=M2:=fun h=>Jg h ∅;dsimp only;refine dJ (t:=An _ _ _) (fun σ H'=>∃(jz:List Str) (x4 x5 x6:Option V) (t':Int),σ=[some (.ref b),some (.ref dd),some (.int near),some (.int dM),x4,x5,x6,none,none]/\jz.Perm cs/\H' dd=some (.dK (fg (aG.zip jz)))/\lX (aG.zip jz) near dM=false/\Step b c H H' t t' 310) (fun Nx nx =>?_) ?_
 ·refine⟨by show 2<=M2;decide,fun p1 H4 n4=>⟨by show 2<=M2;decide,fun p2 H5 n5=>⟨by show 2<=M2;decide,fun p3 H6 n6=>⟨p3,rfl,⟨_,bg.of n6.at⟩,?_⟩⟩⟩⟩;have zq:=((gK.pK n4).pK n5).pK n6;have TU:=n6.same _ _ (n5.same _ _ (n4.same _ _ NO));have h1:=n6.same _ _ (n5.same _ _ n4.at);have h2:=n6.same _ _ n5.at;have h3:=n6.at;have WI:∀{p:Gc} {o:List V},H6 p=some (.tup o)->p≠dd:=fun h z=>by rw[z,TU] at h;cases h
  have e1:=WI h1;have e2:=WI h2;have e3:=WI h3;refine j3 (N:=2) (fun k σ H'=>∃(jz:List Str) (x4 x5 x6:Option V),σ=[some (.ref b),some (.ref dd),some (.int near),some (.int dM),x4,x5,x6,none,none]/\jz.Perm cs/\H' dd=some (.dK (fg (aG.zip jz)))/\(∀p,p≠dd->H' p=H6 p)/\(0<k->∀x y,jz[5]? = some x->jz[8]? = some y->¬((y.length:Int)+dM<x.length+near))/\(1<k->∀x y,jz[6]? = some x->jz[9]? = some y->¬((y.length:Int)+dM<x.length+near))/\∃t',Step b c H H' t t' 310) ⟨cs,_,_,_,rfl,Yc.refl _,TU,fun _ _=>rfl,(fun h=>absurd h ∅),(fun h=>absurd h ∅),_,zq.more ⋯⟩ ?_ ?_
  ·rintro k σ H7 hk ⟨jz,x4,x5,x6,rfl,pm,hd7,k7,o1,o2,t7,tw⟩;have Mt:=(k7 _ e1).trans h1;have h27:=(k7 _ e2).trans h2;have Vc:=(k7 _ e3).trans h3;have Z0:jz.length=11:=by rw[pm.length_eq,cl]
   have Xv:aG.length=jz.length:=by rw[Z0];rfl
   have T3:∀{i:Nat} {x:Str},jz[i]? = some x->x.length<=11:=fun h=>(cb _ (pm.mem_iff.mp (J2 h))).2;obtain⟨c5,h5⟩:∃x,jz[5]? = some x:=⟨_,Jd ⋯⟩
   obtain⟨c6,h6⟩:∃x,jz[6]? = some x:=⟨_,Jd ⋯⟩
   obtain⟨c8,h8⟩:∃x,jz[8]? = some x:=⟨_,Jd ⋯⟩
   obtain⟨c9,h9⟩:∃x,jz[9]? = some x:=⟨_,Jd ⋯⟩
   have gd:∀{i:Nat} {x y:Str},aG[i]? = some x->jz[i]? = some y->d7 H7 dd (.str x) (some (.str y)):=fun hx hy=>Gp hd7 cU Xv hx hy;have swap:∀{i j:Nat} {x y a d:Str},aG[i]? = some x->aG[j]? = some y->jz[i]? = some a->jz[j]? = some d->∃H8 H9,tH H7 dd (.str x) (.str d) H8/\tH H8 dd (.str y) (.str a) H9/\H9 dd=some (.dK (fg (aG.zip ((jz.set i d).set j a))))/\(∀p,p≠dd->H9 p=H6 p)/\((jz.set i d).set j a).Perm cs/\Step b c H H9 t t7 310:=fun{i j x y a d} hx hy ha hd=>by
    obtain⟨H8,c8,d8⟩:=yM (y:=d) hd7 cU Xv hx ∅;obtain⟨H9,c9,d9⟩:=yM (y:=a) c8.at cU (by rw[Wc];exact Xv) hy ∅;exact⟨H8,H9,d8,d9,c9.at,fun p hp=>by rw[c9.ne hp,c8.ne hp];exact k7 p hp,(swap_perm ha hd).trans pm,(tw.JK c8 hd0 db dc).JK c9 hd0 db dc⟩
   obtain rfl|rfl:k=0\/k=1:=by lia
   ·refine⟨⟨_,_,bg.of Vc,rfl⟩,?_⟩;rintro w' H8 ⟨rfl,hy⟩;have e:=hy _ (bg.of Vc);obtain rfl:V.ref p1=w':=Qao e;refine⟨p1,_,rfl,bg.of Mt,rfl,_,_,rfl,_,_,rfl,rfl,?_⟩;refine⟨_,rfl,_,rfl,dd,_,rfl,gd (i:=8) rfl h8,_,_,rfl,⟨sz (T3 h8),rfl⟩,_,rfl,.inl ⟨_,_,rfl,rfl,_,rfl,_,rfl,dd,_,rfl,gd (i:=5) rfl h5,_,_,rfl,⟨sz (T3 h5),rfl⟩,_,rfl,.inl ⟨_,_,rfl,rfl,_,_,rfl,rfl,_,rfl,fR (fun c =>?_) (fun c =>?_)⟩⟩⟩
    ·have c:=of_decide_eq_true c;obtain⟨H9,H10,d9,d10,hd10,O9,pm10,gN⟩:=swap (i:=5) (j:=8) (x := "jump") (y := "farjump") rfl rfl h5 h8;refine⟨_,rfl,_,rfl,dd,_,rfl,gd (i:=5) rfl h5,gn ⟨_,rfl,_,rfl,dd,_,rfl,gd (i:=8) rfl h8,_,rfl,_,rfl,dd,_,rfl,d9,_,rfl,_,rfl,_,rfl,dd,_,rfl,d10,?_⟩⟩;refine⟨_,_,_,_,rfl,pm10,hd10,O9,fun _ x y hx hy =>?_,(fun h=>absurd h ∅),t7,gN⟩;rw[Yp ∅,Yt ⋯] at hx;rw[Yt (by rw[Wc];lia)] at hy;cases hx;cases hy;lia
    ·have c:¬_:=fun z=>c (decide_eq_true z);refine⟨jz,_,_,_,rfl,pm,hd7,k7,fun _ x y hx hy =>?_,(fun h=>absurd h ∅),t7,tw⟩;rw[h5] at hx;rw[h8] at hy;cases hx;cases hy;exact c
   ·refine⟨⟨_,_,bg.of Vc,rfl⟩,?_⟩;rintro w' H8 ⟨rfl,hy⟩;have e:=hy _ (bg.of Vc);obtain rfl:V.ref p2=w':=Qao e;refine⟨p2,_,rfl,bg.of h27,rfl,_,_,rfl,_,_,rfl,rfl,?_⟩;have o1:=o1 ∅;refine⟨_,rfl,_,rfl,dd,_,rfl,gd (i:=9) rfl h9,_,_,rfl,⟨sz (T3 h9),rfl⟩,_,rfl,.inl ⟨_,_,rfl,rfl,_,rfl,_,rfl,dd,_,rfl,gd (i:=6) rfl h6,_,_,rfl,⟨sz (T3 h6),rfl⟩,_,rfl,.inl ⟨_,_,rfl,rfl,_,_,rfl,rfl,_,rfl,fR (fun c =>?_) (fun c =>?_)⟩⟩⟩
    ·have c:=of_decide_eq_true c;obtain⟨H9,H10,d9,d10,hd10,O9,pm10,gN⟩:=swap (i:=6) (j:=9) (x := "zero") (y := "farzero") rfl rfl h6 h9;refine⟨_,rfl,_,rfl,dd,_,rfl,gd (i:=6) rfl h6,gn ⟨_,rfl,_,rfl,dd,_,rfl,gd (i:=9) rfl h9,_,rfl,_,rfl,dd,_,rfl,d9,_,rfl,_,rfl,_,rfl,dd,_,rfl,d10,?_⟩⟩;refine⟨_,_,_,_,rfl,pm10,hd10,O9,fun _ x y hx hy =>?_,fun _ x y hx hy =>?_,t7,gN⟩
     ·rw[Yp ∅,Yp ∅] at hx hy;exact o1 x y hx hy
     ·rw[Yp ∅,Yt ⋯] at hx;rw[Yt (by rw[Wc];lia)] at hy;cases hx;cases hy;lia
    ·have c:¬_:=fun z=>c (decide_eq_true z);refine⟨jz,_,_,_,rfl,pm,hd7,k7,fun _=>o1,fun _ x y hx hy =>?_,t7,tw⟩;rw[h6] at hx;rw[h9] at hy;cases hx;cases hy;exact c
  ·rintro σ H7 ⟨jz,x4,x5,x6,rfl,pm,hd7,k7,o1,o2,t7,tw⟩;have Z0:jz.length=11:=by rw[pm.length_eq,cl]
   refine⟨⟨_,bg.of ((k7 _ e3).trans h3),Je _⟩,nx _ _ ⟨jz,_,_,_,t7,rfl,pm,hd7,?_,tw⟩⟩;obtain⟨c5,h5⟩:∃x,jz[5]? = some x:=⟨_,Jd ⋯⟩
   obtain⟨c6,h6⟩:∃x,jz[6]? = some x:=⟨_,Jd ⋯⟩
   obtain⟨c8,h8⟩:∃x,jz[8]? = some x:=⟨_,Jd ⋯⟩
   obtain⟨c9,h9⟩:∃x,jz[9]? = some x:=⟨_,Jd ⋯⟩
   unfold lX;simp only[Y7,List.any_nil,Qd2];have g5:aV (aG.zip jz) (Wp "jump")=c5:=nQ cU (k:=5) rfl h5;have g6:aV (aG.zip jz) (Wp "zero")=c6:=nQ cU (k:=6) rfl h6;have g8:aV (aG.zip jz) (Wp ("far" ++ "jump"))=c8:=nQ cU (k:=8) (by rfl) h8;have g9:aV (aG.zip jz) (Wp ("far" ++ "zero"))=c9:=nQ cU (k:=9) (by rfl) h9;rw[g5,g6,g8,g9,decide_eq_false (o1 ∅ _ _ h5 h8),decide_eq_false (o2 ∅ _ _ h6 h9)]
   rfl
 rintro σ H4 ⟨cs1,x4,x5,x6,t4,rfl,pm1,hd4,hF,j1⟩;have W6:=j1.ub;have Wn:=j1.le;have TR:cs1.length=11:=by rw[pm1.length_eq,cl]
 have fr1:fE cs1:=fr.perm pm1.symm;have cb1:∀x∈cs1,sQ x/\x.length<=11:=fun x hx=>cb x (pm1.mem_iff.mp hx);refine gu (te:=ZS _ _) (fun v H'=>∃(p:Gc) (as:List Gc) (cs:List Str) (t':Int),v = .ref p/\cs.length=4/\fE cs/\(∀x∈cs,sQ x/\x.length<=11)/\ye K b c H' p (bI.zip cs) as/\Step b c H4 H' t4 t' 300) (fun Qn qn =>?_) ?_
 ·refine⟨_,rfl,b,c,t4,4,3,rfl,j1.bx,⋯,⋯,∅,∅,∅,∅,fun l cs2 H5 t5 cl2 fr2 cb2 hl0 tF dU =>?_⟩;refine⟨"abcd",l,cs2.map V.str,rfl,aX.of tF,∅,∅,by rw[Jc,cl2];decide +kernel,fun H6 p as s6 LS HI al hk=>qn _ _ ⟨p,as,cs2,t5,rfl,cl2,fr2,fun x hx=>⟨(cb2 x hx).1,by have:=(cb2 x hx).2;lia⟩,⟨HI,(dU.bx.bq LS).1,(dU.bx.bq LS).2,by rw[al,Yh,cl2];decide +kernel,fun j a qq ha hq =>?_⟩,(dU.trans (Step.same dU.bx s6)).more ⋯⟩⟩;have z:=U5.mp hq;have hj:j<(Wp "abcd").cps.size:=by rw[<-al];exact(Jm.mp ha).1
  have ex:=J1 hj;obtain⟨u1,u2⟩:=hk j a _ (.str qq.2) ha ex (by rw[Jj,z.2];rfl);have e1:=Md j _ ex;rw[z.1] at e1;rw[<-Qao e1] at u2;rw[cZ (dU.bx.bq u1).1 (dU.bx.bq u1).2];exact u2
 rintro v H5 ⟨p5,as5,cs2,t5,rfl,cl2,fr2,cb2,P5,dU⟩;have Va:=dU.old hd4 db dc;have W8:=dU.ub;have Vs:=dU.le;refine gn ?_;refine gu (te:=tLZ _ _) (fun v H'=>∃(p:Gc) (as:List Gc) (cs:List Str) (t':Int),v = .ref p/\cs.length=9/\fE cs/\(∀x∈cs,sQ x/\x.length<=11)/\ye K b c H' p (aN.zip cs) as/\Step b c H5 H' t5 t' 300) (fun Qn qn =>?_) ?_
 ·refine⟨rfl,fun pk H6 n6=>⟨_,rfl,by show 3<=M2;decide,fun lp H7 n7=>⟨_,rfl,b,c,t5,3,rfl,(dU.bx.same n6.same).same n7.same,⋯,⋯,∅,∅,fun r H8 r0 r1 kM =>?_⟩⟩⟩;obtain⟨pb,pc⟩:=dU.bx.bq n6.nn;obtain⟨lb,lc⟩:=(dU.bx.same n6.same).bq n7.nn;have hk8:=kM.old (n7.same _ _ n6.at) pb pc;have Ve:=kM.old n7.at lb lc;have kM:=(Step.same dU.bx (n6.same.trans n7.same)).trans kM;obtain⟨m,hm,m4,m9⟩:∃m:Nat,([V.int 4,V.int 5,V.int 8]:List V)[r.toNat]? = some (.int (m:Nat))/\4<=m/\m<=8:=by
   have:r=0\/r=1\/r=2:=by lia
   rcases this with rfl|rfl|rfl
   ·exact⟨4,rfl,∅,∅⟩
   ·exact⟨5,rfl,∅,∅⟩
   ·exact⟨8,rfl,∅,∅⟩
  have mm:9<=2^m:=Jg (show 9<=2^4 by decide) (QdN ∅ m4);refine .inl ⟨lp,_,r,.int (m:Nat),rfl,rfl,aX.of Ve,lC r0 hm,b,c,t5+1,9,m,rfl,kM.bx,⋯,⋯,∅,∅,mm,⋯,fun l cs3 H9 t9 cl3 fr3 cb3 hl0 tF mX =>?_⟩;have hk9:=mX.old hk8 pb pc;have mX:=kM.trans mX;refine⟨pk,l,aN.map V.str,cs3.map V.str,rfl,aX.of hk9,aX.of tF,fun H10 p as Qy LS HI al hk=>qn _ _ ⟨p,as,cs3,t9,rfl,cl3,fr3,fun x hx=>⟨(cb3 x hx).1,by have:=(cb3 x hx).2;lia⟩,⟨HI,(mX.bx.bq LS).1,(mX.bx.bq LS).2,by rw[al,Jc,Jc,Yh],fun j a qq ha hq =>?_⟩,(mX.trans (Step.same mX.bx Qy)).more ⋯⟩⟩;have z:=U5.mp hq;obtain⟨u1,u2⟩:=hk j a (.str qq.1) (.str qq.2) ha (by rw[Jj,z.1];rfl) (by rw[Jj,z.2];rfl);rw[cZ (mX.bx.bq u1).1 (mX.bx.bq u1).2];exact u2
 rintro v H6 ⟨p6,as6,cs3,t6,rfl,cl3,fr3,cb3,P6,zq⟩;have TU:=zq.old Va db dc;have P5:=P5.step zq;have ub6:=zq.ub;have lo6:=zq.le;refine gn ?_;have Qu:=wK nZ.1 (Je 11) cb1;have Rp:=wK nZ.2.1 (Je 11) cb2;have Qp:=wK nZ.2.2 (Je 11) cb3;have zl1:(aG.zip cs1).length=11:=by rw[Yh,TR];rfl
 have zl2:(bI.zip cs2).length=4:=by rw[Yh,cl2];rfl
 have zl3:(aN.zip cs3).length=9:=by rw[Yh,cl3];rfl
 have TC:=(j1.trans dU).trans zq;refine⟨_,rfl,_,rfl,dd,_,rfl,TU,fun H7 p7 as7 s7 LS HI al hk =>?_⟩;have tw:=Step.same zq.bx s7;have P5:=P5.step tw;have P6:=P6.step tw;obtain⟨zs,ez1,ez2,M⟩:=Ia (K:=K) (G:=ip H7 b c) (bk:=aG.zip cs1) (as:=as7) (by rw[al];unfold fg;rw[Jc]) ⋯ (fun qq hq=>⟨(Qu qq hq).1,(Qu qq hq).2.1⟩) (fun j a qq ha hq=>by
  obtain⟨u1,u2⟩:=hk j a (.inr qq.1) (.str qq.2) ha (by unfold fg;rw[Jj,hq];rfl);rw[cZ (zq.bx.bq u1).1 (zq.bx.bq u1).2];exact u2)
 refine⟨b,c,p7,t6,ip H7 b c,zs,rfl,tw.bx,⋯,⋯,ak.refl _,.inl (aX.of (by rw[HI,ez2])),M,fun l1 zs1 H8 t8 pz1 hl10 hl11 kM =>?_⟩;have ub8:=kM.ub;have lo8:=kM.le;obtain⟨l1b,l1c⟩:=tw.bx.bq hl10;obtain⟨rf,pb1,D1⟩:=Az ez1 M pz1 kM.sm (by rw[cZ l1b l1c];exact hl11);have P5:=P5.step kM;have P6:=P6.step kM;obtain⟨zs,ez1,ez2,M⟩:=Ia (K:=K) (G:=ip H8 b c) P5.len ⋯ (fun qq hq=>⟨(Rp qq hq).1,(Rp qq hq).2.1⟩) P5.prs;refine⟨_,rfl,_,rfl,b,c,p5,t8,ip H8 b c,zs,rfl,kM.bx,⋯,⋯,ak.refl _,.inl (aX.of (by rw[P5.at',ez2])),M,fun l2 zs2 H9 t9 pz2 hl20 hl21 mX =>?_⟩;have ZR:=mX.ub;have lo9:=mX.le;obtain⟨l2b,l2c⟩:=kM.bx.bq hl20;obtain⟨wV,pb2,D2⟩:=Az ez1 M pz2 mX.sm (by rw[cZ l2b l2c];exact hl21);have P6:=P6.step mX;obtain⟨zs,ez1,ez2,M⟩:=Ia (K:=K) (G:=ip H9 b c) P6.len ⋯ (fun qq hq=>⟨(Qp qq hq).1,(Qp qq hq).2.1⟩) P6.prs;refine⟨_,rfl,_,rfl,b,c,p6,t9,ip H9 b c,zs,rfl,mX.bx,⋯,⋯,ak.refl _,.inl (aX.of (by rw[P6.at',ez2])),M,fun l3 zs3 H10 t10 pz3 hl30 hl31 gN =>?_⟩;obtain⟨l3b,l3c⟩:=mX.bx.bq hl30;obtain⟨vB,pb3,D3⟩:=Az ez1 M pz3 gN.sm (by rw[cZ l3b l3c];exact hl31);refine⟨_,rfl,_,rfl,by show 5<=M2;decide,fun l H11 n11 =>?_⟩;have El:=((((TC.trans tw).trans kM).trans mX).trans gN).pK n11;have Oi:=(Step.same gN.bx n11.same).sm;refine q l _ _ _ rf wV vB near dM H11 t10 ⟨?_,?_,?_,?_,?_,?_,⋯⟩ (((((TC.trans tw).trans kM).trans mX).trans gN).fresh bx n11.nn) n11.at (bJ (D1.same (mX.sm.trans (gN.sm.trans Oi))) (bJ (D2.same (gN.sm.trans Oi)) (bJ (D3.same Oi) fM))) (El.more ⋯)
 ·refine Ih (vD Sz (by rw[TR];rfl) ⋯ (fun x hx=>(cb1 x hx).1) fr1 pb1) (vD NL (by rw[cl2];rfl) ⋯ (fun x hx=>(cb2 x hx).1) fr2 pb2) (vD P2 (by rw[cl3];rfl) ⋯ (fun x hx=>(cb3 x hx).1) fr3 pb3) n2 n8 nf Pk ?_;rw[Gg pb1 (gb (by rw[TR];rfl))];exact hF
 ·have:=pb1.map (·.1);rw[gb (by rw[TR];rfl)] at this;exact this
 ·rw[pb1.length_eq,zl1]
 ·rw[pb2.length_eq,zl2]
 ·rw[pb3.length_eq,zl3]
 ·rintro qq (hq|hq|hq)
  ·exact Qu qq (pb1.mem_iff.mp hq)
  ·exact Rp qq (pb2.mem_iff.mp hq)
  ·exact Qp qq (pb3.mem_iff.mp hq)
end
def jx:Nat->Nat->List Nat
 | 0,_=>[]
 | k+1,n=>jx k (n / 2)++[48+n%2]
def dN (n k:Nat):Str:=⟨(jx k n).toArray⟩
def iu:∀(k n:Nat),((Uy k).map fun j=>48+n / 2^j%2).reverse=jx k n
 | 0,_=>rfl
 | k+1,n=>by
  rw[Qdk,J0,Qcf,Yn];show _++[48+n / 2^0%2]=jx k (n / 2)++[48+n%2];rw[<-iu k (n / 2)]
  congr 2
  ·refine Y6 fun j _ =>?_;show 48+n / 2^(j+1)%2=48+n / 2 / 2^j%2;rw[Qds,Wf,Qej]
  ·simp
def sG:∀(k n:Nat),(jx k n).length=k
 | 0,_=>rfl
 | k+1,n=>by unfold jx;rw[Jp,sG k];rfl
def BV (n:Nat):Builtin.bitAnd (n:Int) 1=((n%2:Nat):Int):=by
 rw[PyProof.Rows.bitAnd_pp ⋯ ∅];have:((n:Int).toNat &&& (1:Int).toNat)=n%2:=by
  show(n &&& 1)=n%2;exact Nat.and_one_is_mod n
 rw[this]
def C1 (n:Nat):(Wp (toString ((n%2:Nat):Int)))=⟨#[48+n%2]⟩:=by
 rcases Nat.mod_two_eq_zero_or_one n with h|h<;>rw[h]<;>decide +kernel
def xx:∀k:Nat,(Jt k 1).sum=k
 | 0=>rfl
 | k+1=>by rw[QcF,Uu,xx k];lia
def yf {α β:Type}(g: α -> β):∀l:List α,l.flatMap (fun j=>[g j])=l.map g
 | []=>rfl
 | a::l=>by rw[Y3,yf g l];rfl
def rM:Sp:=fun vs H Q _=>eM fun(n k:Nat)=>vs=[.int n,.int k]/\k<=60/\∀H',ak H H'->Q (.str (dN n k)) H'
section
variable {P:Qaf}{w:Qag}{K:Ja}{mg:Str->Option Fk}{base:Heap}{f:Gc}{fd:Qad}
def fc:aD ["number", "many", "figures", "step"] ["number", "many"] (aj (top i7)):=⟨rfl,rfl,rfl,∅,rfl,∅,∅⟩
def O6 (F:cj K "figures_of" "figures_of" (top i7) f fd)(T:Nm mg):aW P w K mg base d6 1 f fd ["number", "many"] rM:=by
 refine F.ok fc (fun vs H Q E h =>?_) (fun cW A outer s H vs Q E hr h =>?_)
 ·obtain⟨n,k,rfl,_⟩:=h
  rfl
 obtain⟨n,k,rfl,hk,q⟩:=h;have eu:=hr.units;refine⟨_,(af (aB (i:=2) fc.nd rfl (Qae rfl) (gL ae))
  (af (eQ Qay rfl (dZ rfl T.n_range (aa (pv 1) ae)) (ar (i:=3) fc.nd rfl (Qae rfl)) (af (jj (uQ K QaP Qa8 Qa7 kE (pv 2) (aa (bj nB rfl T.n_str (by rfl) (aa (aE PU (pv 0) ah) ae)) ae)))
  (ag (vi (i:=0) fc.nd rfl (Qae rfl) ah JH))))
  (ag (au (uQ K QaA Qbl Qbk (uP K) aw (aa (NR K (pv 2)) ae)))))),?_⟩
 refine⟨by show 0<=M2;decide,fun l H1 n1 =>?_⟩;refine⟨_,rfl,k,rfl,⋯,⋯,?_⟩;refine kG (lo:=0) (n:=k) (fun i σ H'=>∃x3,σ=[some (.int ((n / 2^i:Nat):Int)),some (.int k),some (.ref l),x3]/\H' l=some (.lst (((Uy i).map fun j=>(⟨#[48+n / 2^j%2]⟩:Str)).map V.str))/\ak H H') ⟨_,by simp;rfl,n1.at,n1.same⟩ ?_ ?_
 ·intro i σ H2 hi;refine ai.go ?_;rintro x3 rfl zh iK;refine⟨_,rfl,.inl ⟨rfl,_,aX.of zh⟩,_,rfl,_,_,rfl,rfl,_,rfl,?_,l,_,_,rfl,rfl,zh,?_,fun H3 c3 =>?_⟩
  ·rw[BV];have:((n / 2^i%2:Nat):Int).natAbs<=1:=by lia
   have hb:((n / 2^i%2:Nat):Int).natAbs=0\/((n / 2^i%2:Nat):Int).natAbs=1:=by lia
   rcases hb with z|z<;>rw[z]<;>decide
  ·rw[Jc,Jc,Y2];exact Jx (show i<1000 by lia) ∅
  have ed:((n / 2^i:Nat):Int) / 2=((n / 2^(i+1):Nat):Int):=by rw[Wf,<-Qds];lia
  refine⟨_,rfl,_,_,rfl,rfl,⟨∅,∅⟩,some (.int (0+i)),?_,?_,?_⟩
  ·show[some (V.int (((n / 2^i:Nat):Int) / 2)),_,_,_]=_;rw[ed]
  ·rw[c3.at,BV,C1,Qdt,Ju,Ju]
   rfl
  ·intro a o e;rw[c3.ne (ax e n1.nn)];exact iK a o e
 ·intro σ H2;refine ai.go ?_;rintro x3 rfl zh iK;refine⟨rfl,_,rfl,l,_,rfl,aX.of zh,fun pr H3 n3 =>?_⟩;refine⟨_,pr,((Uy k).map fun j=>(⟨#[48+n / 2^j%2]⟩:Str)).reverse,rfl,rfl,aX.of (by rw[n3.at,Qdb]),?_,?_⟩
  ·rw[Qdb,Yn,List.sum_reverse];have:((Uy k).map ((fun x:Str=>x.length)∘fun j=>(⟨#[48+n / 2^j%2]⟩:Str)))=Jt k 1:=by
    rw[List.eq_replicate_iff];refine⟨by simp,fun b hb =>?_⟩;refine ai.el (Ut.mp hb) _ ?_;rintro j _ rfl
    rfl
   rw[this,xx];show k+_*0<=16777216;lia
  ·have e:QaQ "" ((Uy k).map fun j=>(⟨#[48+n / 2^j%2]⟩:Str)).reverse=dN n k:=by
    have h1:=cP ((Uy k).map fun j=>(⟨#[48+n / 2^j%2]⟩:Str)).reverse;have h2:(((Uy k).map fun j=>(⟨#[48+n / 2^j%2]⟩:Str)).reverse.flatMap fun p=>p.cps.toList)=jx k n:=by
     rw[<-iu,<-Qdb,<-Qdb,List.flatMap_map];show(Uy k).reverse.flatMap (fun j=>[48+n / 2^j%2])=_;exact yf _ _
    rw[h2] at h1;unfold dN;rw[<-h1]
   exact e▸q H3 (iK.trans n3.same)
end
def o6:Sp:=fun vs H Q _=>∃n:Nat,vs=[.int n]/\n<=1000/\Q (.int (2^n)) H
section
variable {P:Qaf}{w:Qag}{K:Ja}{mg:Str->Option Fk}{base:Heap}{f:Gc}{fd:Qad}
def wx:aD ["power", "whole", "step"] ["power"] (aj (top rC)):=⟨rfl,rfl,rfl,∅,rfl,∅,∅⟩
def Ps (F:cj K "two_to" "two_to" (top rC) f fd)(T:Nm mg):aW P w K mg base d6 1 f fd ["power"] o6:=by
 refine F.ok wx (fun vs H Q E h =>?_) (fun cW A outer s H vs Q E hr h =>?_)
 ·obtain⟨n,rfl,_⟩:=h
  rfl
 obtain⟨n,rfl,hn,q⟩:=h;refine⟨_,(af (aB (i:=1) wx.nd rfl (Qae rfl) ah)
  (af (eQ Qay rfl (dZ rfl T.n_range (aa (pv 0) ae)) (ar (i:=2) wx.nd rfl (Qae rfl)) (ag (vi (i:=1) wx.nd rfl (Qae rfl) (pv 1) Gu)))
  (ag (au (pv 1))))),?_⟩
 refine⟨_,rfl,_,rfl,⋯,⋯,?_⟩;refine kG (lo:=0) (n:=n) (fun i σ H'=>H'=H/\∃st,σ=[some (.int n),some (.int (2^i)),st]) ⟨rfl,_,rfl⟩ ?_ ?_
 ·rintro i σ H' hi ⟨rfl,st,rfl⟩;refine⟨_,rfl,_,rfl,_,_,rfl,rfl,rfl,some (.int (0+i)),?_⟩;rw[<-IJ]
  rfl
 ·rintro σ H' ⟨rfl,st,rfl⟩;exact⟨_,rfl,q⟩
end
inductive Arg where
 | sp (x:Str)|nu (n:Nat)|ma (n:Nat)|ne (d:Int)|fa (d:Int)
def Arg.kind:Arg->Str
 | .sp _ => "spot" | .nu _ => "number" | .ma _ => "many" | .ne _ => "near" | .fa _ => "far"
def Arg.v:Arg->V
 | .sp x =>.str x | .nu n =>.int (n:Nat) | .ma n =>.int (n:Nat) | .ne d =>.int d | .fa d =>.int d
def Arg.ok:Arg->Prop
 | .sp x=>x∈bI | .nu n=>n<=255 | .ma n=>n<=7 | .ne d=>d.natAbs<=1000000 | .fa d=>d.natAbs<=1000000
def inD (d:Int)(k:Nat):Bool:=decide (-(2^(k-1))<=d)&&decide (d<2^(k-1))
def iA (d:Int)(k:Nat):Option Str:=if inD d k=true then some (dN ((if d<0 then d+2^k else d).toNat) k) else none
def cE (n:Nat):Nat:=QbA (n:Int)
structure Fb where
 b1:List (Str×Str)
 b2:List (Str×Str)
 b3:List (Str×Str)
 near:Nat
 dM:Nat
def eK (F:Fb):Arg->Option Str
 | .sp x=>some (aV F.b2 x)
 | .nu n=>some (aV F.b3 (aN.getD (cE n) Qaq)++QaN (dN n (cE n)) (some 1) none)
 | .ma n=>some (dN n 3++QbW (Wp "0") (n:Nat))
 | .ne d=>iA d F.near
 | .fa d=>iA d F.dM
def cC (F:Fb):List Arg->Option (List Str)
 | []=>some []
 | a::r=>match eK F a with
  | none=>none
  | some x=>(cC F r).map (x :: ·)
def fC (F:Fb)(w:Str)(as:List Arg):Option Str:=(cC F as).map fun ts=>QaQ "" (aV F.b1 w::ts)
structure mh (F:Fb):Prop where
 g:Good3 F.b1 F.b2 F.b3 F.near F.dM
 n2:(F.b2.map (·.1)).Perm bI
 n3:(F.b3.map (·.1)).Perm aN
 nr:2<=F.near/\F.near<=8
 fr:F.near<F.dM/\F.dM<=16
def yt {ns:List Str}{bk:List (Str×Str)}(h:dA ns (aQ bk)=true):(bk.map (·.1)).Perm ns:=by
 unfold dA at h;rw[Jv,Jv] at h;have:=of_decide_eq_true h.2.1;rw[show cX (gX (aQ bk))=bk from jD bk] at this;exact this
def Good3.frm {b1 b2 b3:List (Str×Str)}{near dM:Int}(g:Good3 b1 b2 b3 near dM):mh ⟨b1,b2,b3,near.toNat,dM.toNat⟩/\near=(near.toNat:Nat)/\dM=(dM.toNat:Nat):=by
 obtain⟨h1,h2,h3⟩:=Ab g.why;have w:=g.why;unfold nj at w;rw[if_neg (by rw[h1];decide),if_neg (by rw[h2];decide),if_neg (by rw[h3];decide)] at w;unfold Hv at w;have hn:xV (.int near)=true:=by
  cases e:xV (.int near) with
  | true=>rfl
  | false=>rw[if_pos e] at w;cases w
 rw[if_neg (by rw[hn];decide)] at w;have hf:EE (aQ b1) (.int near) (.int dM)=true:=by
  cases e:EE (aQ b1) (.int near) (.int dM) with
  | true=>rfl
  | false=>rw[if_pos e] at w;cases w
 have hn:(decide (2<=near)&&decide (near<=8))=true:=hn;have hf:(decide (near<dM)&&(decide (dM<=16) && !lX (cX (gX (aQ b1))) near dM))=true:=hf;rw[Jv,decide_eq_true_eq,decide_eq_true_eq] at hn;rw[Jv,Jv,decide_eq_true_eq,decide_eq_true_eq] at hf;have en:near=(near.toNat:Nat):=by lia
 have ef:dM=(dM.toNat:Nat):=by lia
 exact⟨⟨by show Good3 b1 b2 b3 (near.toNat:Nat) (dM.toNat:Nat);rw[<-en,<-ef];exact g,yt h2,yt h3,by show 2<=near.toNat/\near.toNat<=8;lia,by show near.toNat<dM.toNat/\dM.toNat<=16;lia⟩,en,ef⟩
def vS {n:Nat}(h:n<=255):cE n<=8:=by
 unfold cE QbA
 split
 ·decide
 ·rename_i hz;have FI:((n:Nat):Int).natAbs≠0:=fun z=>hz (by simp;lia);have:=(Nat.log2_lt FI).mpr (show((n:Nat):Int).natAbs<2^8 by lia);lia
def bN (n k:Nat):(dN n k).length=k:=by
 show(jx k n).toArray.size=k;rw[Jy,sG]
def Hr {bk:List (Str×Str)}{x:Str}(h:∀q∈bk,q.2.length<=11):(aV bk x).length<=11:=by
 induction bk with
 | nil=>exact Um _
 | cons q r ih=>
  unfold aV
  split
  ·exact h q Jn
  ·exact ih fun z hz=>h z (Jk _ hz)
def mh.c1 {F:Fb}(h:mh F)(x:Str):(aV F.b1 x).length<=11:=Hr fun q hq=>(h.g.sz q (.inl hq)).2.2.2
def mh.c2 {F:Fb}(h:mh F)(x:Str):(aV F.b2 x).length<=11:=Hr fun q hq=>(h.g.sz q (.inr (.inl hq))).2.2.2
def mh.c3 {F:Fb}(h:mh F)(x:Str):(aV F.b3 x).length<=11:=Hr fun q hq=>(h.g.sz q (.inr (.inr hq))).2.2.2
def K3 {F:Fb}(h:mh F){a:Arg}(ha:a.ok){x:Str}(e:eK F a=some x):x.length<=40:=by
 have nr:=h.nr;have fr:=h.fr;have dl:∀{d:Int} {k:Nat} {x:Str},iA d k=some x->x.length=k:=fun e=>by
  unfold iA at e
  split at e
  ·cases e;exact bN _ _
  ·cases e
 cases a with
 | sp y=>cases e;have:=h.c2 y;lia
 | nu n=>
  cases e;have h1:=h.c3 (aN.getD (cE n) Qaq);have h2:=QcL (dN n (cE n)) (some 1) none;have h3:=vS ha;rw[QaH];rw[bN] at h2;lia
 | ma n=>
  cases e;have hn:n<=7:=ha;rw[QaH,bN];have:∀n,n<=7->(QbW (Wp "0") ((n:Nat):Int)).length<=10:=∅;have:=this n hn;lia
 | ne d=>have:=dl e;lia
 | fa d=>have:=dl e;lia
def JW (H:Hp)(E:XK)(C:Gc):Prop:=∀ex H',ak H H'->H' ex=some (.xd [("row",.int 0)])->E (.ref C) (some ex) H'
def JW.same {H H':Hp}{E:XK}{C:Gc}(h:JW H E C)(s:ak H H'):JW H' E C:=fun ex H2 s2 e=>h ex H2 (s.trans s2) e
def WW (H:Hp)(Q:VK)(E:XK)(C:Gc):Option Str->Prop
 | some x=>∀H',ak H H'->Q (.str x) H'
 | none=>JW H E C
def P7:Sp:=fun vs H Q _=>eM fun(d:Int) (k:Nat)=>vs=[.int d,.int (k:Nat)]/\1<=k/\k<=60/\∀H',ak H H'->Q (.bl (inD d k)) H'
def Ox (C:Gc):Sp:=fun vs H Q E=>eM fun(d:Int) (k:Nat)=>vs=[.int d,.int (k:Nat)]/\1<=k/\k<=60/\WW H Q E C (iA d k)
def nh (K:Ja)(CF:Gc)(H:Hp)(m:Gc)(F:Fb):Prop:=ke K CF H m (aQ F.b1) (aQ F.b2) (aQ F.b3) (.int (F.near:Nat)) (.int (F.dM:Nat))
def PM (K:Ja)(CF C:Gc):Sp:=fun vs H Q E=>sF fun(m:Gc) (F:Fb) (a:Arg)=>vs=[.ref m,.str a.kind,a.v]/\nh K CF H m F/\mh F/\a.ok/\WW H Q E C (eK F a)
section
variable {P:Qaf}{w:Qag}{K:Ja}{mg:Str->Option Fk}{base:Heap}{f fi:Gc}{fd Cb:Qad}{C CF aZ:Gc}{t6:Tok}
def tO:aD ["self", "row"] ["self", "row"] (aj (inClass (top iB) 0)):=⟨rfl,rfl,rfl,∅,rfl,∅,∅⟩
def tx (F:cj K "__init__" "TooFar.__init__" (inClass (top iB) 0) f fd)(S:sN K C "row"):aW P w K mg base d6 1 f fd ["self", "row"] (B8 C "row"):=by
 refine F.ok tO (fun vs H Q E h =>?_) (fun cW A outer s H vs Q E hr h =>?_)
 ·obtain⟨e,v,rfl,_⟩:=h
  rfl
 obtain⟨e,v,rfl,he,q⟩:=h;refine⟨_,(ag (CU (pv 0) (pv 1) rfl)),?_⟩;exact⟨_,rfl,_,rfl,e,C,rfl,he,S,fun dx h1 h2=>q dx h1 h2⟩
def kS:aD ["distance", "figures", "half"] ["distance", "figures"] (aj (top iU)):=⟨rfl,rfl,rfl,∅,rfl,∅,∅⟩
def Tu (F:cj K "is_reached" "is_reached" (top iU) f fd)(T:Nm mg)(iD:Fn P w K mg base 1 "two_to" ["power"] o6):aW P w K mg base d6 2 f fd ["distance", "figures"] P7:=by
 refine F.ok kS (fun vs H Q E h =>?_) (fun cW A outer s H vs Q E hr h =>?_)
 ·obtain⟨d,k,rfl,_⟩:=h
  rfl
 obtain⟨d,k,rfl,k1,k6,q⟩:=h;refine⟨_,(af (aB (i:=2) kS.nd rfl (Qae rfl) (aM (iD.mono ∅) hr rfl (aa (aE jL (pv 1) ah) ae)))
  (ag (au (yK qA oZ (rR lz (pv 2)) (pv 0) (pv 2))))),?_⟩
 refine⟨_,rfl,_,_,rfl,rfl,k-1,?_,⋯,gn ?_⟩
 ·show[V.int ((k:Int)-1)]=[V.int ((k-1:Nat):Int)]
  rw[show(k:Int)-1=((k-1:Nat):Int) by lia]
 have q:=q H (ak.refl _);unfold inD at q;refine⟨_,rfl,_,rfl,_,rfl,_,_,rfl,rfl,?_⟩;refine⟨_,rfl,?_⟩
 by_cases c: -(2^(k-1))<=d
 ·rw[decide_eq_true c,U4] at q;rw[decide_eq_true c];exact bL ⟨_,rfl,_,_,rfl,rfl,q⟩
 ·rw[decide_eq_false c,Yu] at q;rw[decide_eq_false c];exact bF q
def jr:aD ["distance", "figures"] ["distance", "figures"] (aj (top gE)):=⟨rfl,rfl,rfl,∅,rfl,∅,∅⟩
def SR (F:cj K "put_distance" "put_distance" (top gE) f fd)(T:Nm mg)(sx:mg "TooFar" = some (.ref C))(rX:Pu K C fi)(qF:aW P w K mg base d6 1 fi Cb ["self", "row"] (B8 C "row"))(sO:Binds K Cb ["self", "row"] [])(vk:Fn P w K mg base 2 "is_reached" ["distance", "figures"] P7)(iD:Fn P w K mg base 1 "two_to" ["power"] o6)(fU:Fn P w K mg base 1 "figures_of" ["number", "many"] rM):
  aW P w K mg base (vY P w base) 3 f fd ["distance", "figures"] (Ox C):=by
 refine F.S3 jr (fun vs H Q E h =>?_) (fun cW A outer s H vs Q E hr h =>?_)
 ·obtain⟨d,k,rfl,_⟩:=h
  rfl
 obtain⟨d,k,rfl,k1,k6,q⟩:=h;refine⟨_,(af (bf (eJ (cN (aM (vk.mono ∅) hr rfl (aa (pv 0) (aa (pv 1) ae))))) (ag (tR (k:=1) rX qF (hr.mono ∅) rfl sx sO (aa ah ae))) aF)
  (af (bf (aK oZ (pv 0) ah (aO _)) (ag (vi (i:=0) jr.nd rfl (Qae rfl) (aM (iD.mono ∅) hr rfl (aa (pv 1) ae)) Gu)) aF)
  (ag (au (aM (fU.mono ∅) hr rfl (aa (pv 0) (aa (pv 1) ae))))))),?_⟩
 refine⟨_,rfl,_,rfl,d,k,rfl,k1,k6,fun H1 s1=>⟨_,rfl,?_⟩⟩;unfold iA at q;cases c:inD d k with
 | false=>
  rw[c,if_neg ∅] at q;refine bL ⟨by show 1<=1000;decide,fun e he=>⟨e,.int 0,rfl,aq,fun dx c1 c2=>⟨rfl,e,dx,rfl,?_,?_,?_⟩⟩⟩
  ·rw[ao (QaB c2),aq]
  ·cases z:H e with
   | none=>rfl
   | some o=>rw[s1 _ _ z] at he;cases he
  ·refine q dx _ (fun a o z =>?_) ?_
   ·have z1:=s1 _ _ z;have na:a≠e:=ax z1 he;have nd:a≠dx:=fun y=>by
     rw[ao c2,<-y,z1] at c1;cases c1
    rw[bO na,ao nd,ao na,ao na];exact z1
   ·rw[bO c2,aq]
 | true=>
  rw[c,if_pos rfl] at q;refine bF ?_;have c:(decide (-(2^(k-1))<=d)&&decide (d<2^(k-1)))=true:=c;rw[Jv,decide_eq_true_eq,decide_eq_true_eq] at c;dsimp only[ck];have p2:(2:Int)^k=2*2^(k-1):=by
   rw[show k=(k-1)+1 by lia,QcN,Qdu];rfl
  have pp:(0:Int)<2^(k-1):=QeH ∅;refine dJ (t:=xg _ _ _) (fun σ H' =>σ=[some (.int (((if d<0 then d+2^k else d).toNat:Nat):Int)),some (.int (k:Nat))]/\H'=H1) (fun Nx nx =>?_) ?_
  ·refine⟨_,rfl,_,_,rfl,rfl,_,rfl,fR (fun c2 =>?_) (fun c2 =>?_)⟩
   ·have c2:d<0:=of_decide_eq_true c2;refine⟨_,rfl,_,rfl,k,rfl,⋯,?_⟩;refine⟨_,_,rfl,rfl,nx _ _ ⟨?_,rfl⟩⟩;rw[if_pos c2,Qd0 ⋯]
    rfl
   ·have c2:¬d<0:=fun z=>c2 (decide_eq_true z);refine nx _ _ ⟨?_,rfl⟩;rw[if_neg c2,Qd0 ⋯]
    rfl
  ·rintro σ H2 ⟨rfl,rfl⟩;exact⟨_,rfl,_,rfl,_,k,rfl,k6,fun H3 s3=>q H3 (s1.trans s3)⟩
def pB:aD ["form", "part", "value", "size"] ["form", "part", "value"] (aj (top lN)):=⟨rfl,rfl,rfl,∅,rfl,∅,∅⟩
def RN (F:cj K "put_part" "put_part" (top lN) f fd)(T:Nm mg)(MF:Gw K CF)(da:mg "dict" = none)(bT:mg "SIZE_NAMES" = some (.ref aZ))(hZ:∀H,bg K H aZ (aN.map V.str))(cI:mg "SKIP_FIGURES" = some (.int 3 t6))(fU:Fn P w K mg base 1 "figures_of" ["number", "many"] rM)(sU:C0 P w K mg base 3 "put_distance" ["distance", "figures"] (Ox C)):
  aW P w K mg base (vY P w base) 4 f fd ["form", "part", "value"] (PM K CF C):=by
 refine F.S3 pB (fun vs H Q E h =>?_) (fun cW A outer s H vs Q E hr h =>?_)
 ·obtain⟨m,Fb,a,rfl,_⟩:=h
  rfl
 obtain⟨m,Fo,a,rfl,fo,fr,ha,q⟩:=h;have hu:=kO hr;have eu:=hr.units;have small:∀{n:Nat},n<=10000->n<=M2:=fun h=>Jg h ∅;obtain⟨dx,w1,w2,w3,w4,w5,ho,g1,g2,g3,g4,g5⟩:=fo;have e4:w4 = .int (Fo.near:Nat):=by unfold Den at g4;exact g4
 have e5:w5 = .int (Fo.dM:Nat):=by unfold Den at g5;exact g5
 subst e4 e5;have nr:=fr.nr;have dM:=fr.fr;refine⟨_,(af (bf (aK (tm K eu) (pv 1) aw (aO _)) (ag (au (bU hu (bj (vX K rfl) rfl da (by rfl) (aa (cR K (pv 0) rfl) ae)) (pv 2) (fun _ _=>rfl)))) aF)
  (af (bf (aK (tm K eu) (pv 1) aw (aO _)) (af (aB (i:=3) pB.nd rfl (Qae rfl) (XA K PySem.F.plainAttrs_int Qep PySem.F.type_int_bit_length RA (pv 2)))
  (ag (au (aE bX (bU hu (bj (vX K rfl) rfl da (by rfl) (aa (cR K (pv 0) rfl) ae)) (bQ (kr K) (gV rfl bT) (pv 3) (fun _ _=>rfl)) (fun _ _=>rfl)) (cT (QA K) (aM (fU.mono ∅) hr rfl (aa (pv 2) (aa (pv 3) ae))) (cx ah) gR))))) aF)
  (af (bf (aK (tm K eu) (pv 1) aw (aO _)) (ag (au (aE bX (aM (fU.mono ∅) hr rfl (aa (pv 2) (aa (kB rfl cI) ae))) (aE Ni aw (pv 2))))) aF)
  (ag (au (GN (E':=E) (sU.mono (by first|decide|exact Je _|lia)) hr rfl (fun _ _ _ z=>z) (aa (pv 2) (aa (sf (aK (tm K eu) (pv 1) aw (aO _)) (cR K (pv 0) rfl) (cR K (pv 0) rfl)) ae)))))))),?_⟩
 cases a with
 | sp x=>
  dsimp only[Arg.kind,Arg.v];obtain⟨p,as,rfl,sq,al,hT⟩:=pP g2 (show gX (Ma (aQ Fo.b2))=aQ Fo.b2 from rfl);have bn:(fg Fo.b2).length=Fo.b2.length:=by unfold fg;rw[Jc]
  have l2:Fo.b2.length=4:=fr.g.l2;have nd:(Fo.b2.map (·.1)).Nodup:=fr.n2.nodup_iff.mpr NL.nd;have hx:x∈Fo.b2.map (·.1):=fr.n2.mem_iff.mpr ha;refine⟨_,rfl,.inl ⟨rfl,_,rfl,rB ?_⟩⟩;refine⟨_,rfl,m,CF,dx,_,_,rfl,ho,MF.c,MF.n2,rfl,p,as,fg Fo.b2,rfl,sq,by rw[bn];exact al,by rw[bn,l2];decide,hT,fun dd H1 n1 =>?_⟩;rw[fz nd] at n1;have gd:d7 H1 dd (.str x) (some (.str (aV Fo.b2 x))):=by
   rw[<-gJ hx];exact d7.k (k := .inr x) n1.at
  exact⟨_,rfl,dd,_,rfl,gd,q H1 n1.same⟩
 | nu n=>
  dsimp only[Arg.kind,Arg.v];have hn:n<=255:=ha;have hb:=vS hn;obtain⟨p,as,rfl,sq,al,hT⟩:=pP g3 (show gX (Ma (aQ Fo.b3))=aQ Fo.b3 from rfl);have bn:(fg Fo.b3).length=Fo.b3.length:=by unfold fg;rw[Jc]
  have l3:Fo.b3.length=9:=fr.g.l3;have nd:(Fo.b3.map (·.1)).Nodup:=fr.n3.nodup_iff.mpr P2.nd;obtain⟨x,hx⟩:∃x,aN[cE n]? = some x:=⟨_,Jd (show cE n<9 by lia)⟩
  have ex:aN.getD (cE n) Qaq=x:=by rw[U3,hx];rfl
  have hxm:x∈Fo.b3.map (·.1):=fr.n3.mem_iff.mpr (J2 hx);refine⟨_,rfl,.inl ⟨rfl,_,rfl,fI ?_⟩⟩;dsimp only[ck];refine⟨_,rfl,.inl ⟨rfl,_,rfl,rB ?_⟩⟩;refine⟨_,rfl,rfl,_,rfl,rfl,gn ?_⟩;refine⟨_,rfl,m,CF,dx,_,_,rfl,ho,MF.c,MF.n3,rfl,p,as,fg Fo.b3,rfl,sq,by rw[bn];exact al,by rw[bn,l3];decide,hT,fun dd H1 n1 =>?_⟩;rw[fz nd] at n1;have gd:d7 H1 dd (.str x) (some (.str (aV Fo.b3 x))):=by
   rw[<-gJ hxm];exact d7.k (k := .inr x) n1.at
  refine⟨_,rfl,.inr (.inl ⟨aZ,_,_,.str x,rfl,rfl,hZ _,kn (by rw[Jj];show(aN[cE n]?).map V.str=_;rw[hx];rfl),dd,_,rfl,gd,?_⟩)⟩;have cl:=fr.c3 x;have fl:(dN n (cE n)).length<=8:=by rw[bN];exact hb
  have sl:=QcL (dN n (cE n)) (some 1) none;refine⟨_,rfl,_,rfl,n,cE n,rfl,⋯,fun H2 s2 =>?_⟩;refine⟨1,rfl,.inr ⟨_,rfl,small ⋯,.inr (.inl ⟨_,_,rfl,rfl,small ⋯,?_⟩)⟩⟩;have q:=q H2 (n1.same.trans s2);rw[ex] at q;exact q
 | ma n=>
  dsimp only[Arg.kind,Arg.v];have hn:n<=7:=ha;refine⟨_,rfl,.inl ⟨rfl,_,rfl,fI ?_⟩⟩;dsimp only[ck];refine⟨_,rfl,.inl ⟨rfl,_,rfl,fI ?_⟩⟩;dsimp only[ck];refine⟨_,rfl,.inl ⟨rfl,_,rfl,rB ?_⟩⟩;have ml:∀n,n<=7->(QbW (Wp "0") ((n:Nat):Int)).length<=10:=∅;have ml:=ml n hn;refine⟨_,rfl,n,3,rfl,∅,fun H1 s1 =>?_⟩;refine⟨_,rfl,.inr ⟨_,_,rfl,rfl,j4 ∅ ⋯ ⋯,.inr (.inl ⟨_,_,rfl,rfl,small (by rw[bN];lia),q H1 s1⟩)⟩⟩
 | ne d=>
  dsimp only[Arg.kind,Arg.v];refine⟨_,rfl,.inl ⟨rfl,_,rfl,fI ?_⟩⟩;dsimp only[ck];refine⟨_,rfl,.inl ⟨rfl,_,rfl,fI ?_⟩⟩;dsimp only[ck];refine⟨_,rfl,.inl ⟨rfl,_,rfl,fI ?_⟩⟩;dsimp only[ck];refine⟨_,rfl,_,rfl,.inl ⟨rfl,_,rfl,rB ?_⟩⟩;exact⟨_,rfl,m,CF,dx,_,_,rfl,ho,MF.c,MF.n4,rfl,d,Fo.near,rfl,⋯,⋯,q⟩
 | fa d=>
  dsimp only[Arg.kind,Arg.v];refine⟨_,rfl,.inl ⟨rfl,_,rfl,fI ?_⟩⟩;dsimp only[ck];refine⟨_,rfl,.inl ⟨rfl,_,rfl,fI ?_⟩⟩;dsimp only[ck];refine⟨_,rfl,.inl ⟨rfl,_,rfl,fI ?_⟩⟩;dsimp only[ck];refine⟨_,rfl,_,rfl,.inl ⟨rfl,_,rfl,fI ?_⟩⟩;exact⟨_,rfl,m,CF,dx,_,_,rfl,ho,MF.c,MF.n5,rfl,d,Fo.dM,rfl,⋯,⋯,q⟩
end
abbrev fe:List (Str×List Str):=[("set",["spot", "number"]),("add",["spot", "spot"]),("take",["spot", "spot"]),("tell",["spot"]),("ask",["spot"]),("jump",["near"]),("zero",["spot", "near"]),("stop",[]),("farjump",["far"]),("farzero",["spot", "far"]),("skip",["many"])]
def eT:∀q∈fe,q.1∈aG/\q.2.length<=2:=∅
structure kJ (w:Str)(as:List Arg):Prop where
 pt:∃q∈fe,w=q.1/\as.map Arg.kind=q.2
 ok:∀a∈as,a.ok
structure NP (K:Ja)(w:Qag)(mg:Str->Option Fk)(aP:Gc):Prop where
 g:mg "PARTS" = some (.ref aP)
 cd:MT K w aP
 pt:∀q∈fe,∃p,Jh K aP q.1=some (some (.ref p))/\∀H,bg K H p (q.2.map V.str)
def uB {F:Fb}{a:Arg}:∀{as:List Arg},cC F (as++[a])=match cC F as with
  | none=>none
  | some ts=>(eK F a).map fun x=>ts++[x]
 | []=>by
  show(match eK F a with|none=>none|some x=>(some []).map (x :: ·))=_;unfold cC;cases eK F a<;>rfl
 | b::as=>by
  have ih:=uB (F:=F) (a:=a) (as:=as);show(match eK F b with|none=>none|some x=>(cC F (as++[a])).map (x :: ·))=(match (match eK F b with|none=>none|some x=>(cC F as).map (x :: ·)) with|none=>none|some ts=>(eK F a).map fun x=>ts++[x])
  cases eK F b with
  | none=>rfl
  | some x=>
   rw[ih];cases cC F as with
   | none=>rfl
   | some ts=>cases eK F a<;>rfl
def oN {F:Fb}{a:Arg}(e:eK F a=none):∀{as:List Arg},a∈as->cC F as=none
 | b::as,h=>by
  show(match eK F b with|none=>none|some x=>(cC F as).map (x :: ·))=none
  rcases Jw.mp h with rfl|h
  ·rw[e]
  ·rw[oN e h];cases eK F b<;>rfl
def mT {F:Fb}(fr:mh F):∀{as:List Arg} {ts:List Str},(∀a∈as,a.ok)->cC F as=some ts->ts.length=as.length/\((ts.map fun x=>x.length).sum<=40*as.length)
 | [],ts,_,e=>by cases e;exact⟨rfl,Je _⟩
 | a::as,ts,ok,e=>by
  have e:(match eK F a with|none=>none|some x=>(cC F as).map (x :: ·))=some ts:=e;cases ea:eK F a with
  | none=>rw[ea] at e;cases e
  | some x=>
   rw[ea] at e;cases er:cC F as with
   | none=>rw[er] at e;cases e
   | some us=>
    rw[er] at e;cases e;obtain⟨h1,h2⟩:=mT fr (fun b hb=>ok b (Jk _ hb)) er;have:=K3 fr (ok a Jn) ea;refine⟨by rw[Jq,Jq,h1],?_⟩;rw[J0,Uu,Jq];lia
def PV (K:Ja)(CF C:Gc):Sp:=fun vs H Q E=>zR fun(m p:Gc) (F:Fb) (w:Str) (as:List Arg)=>vs=[.ref m,.ref p]/\nh K CF H m F/\mh F/\kJ w as/\bg K H p (.str w::as.map Arg.v)/\WW H Q E C (fC F w as)
section
variable {P:Qaf}{w:Qag}{K:Ja}{mg:Str->Option Fk}{base:Heap}{f fi:Gc}{fd Cb:Qad}{C CF aP:Gc}
def gT:aD ["form", "bare", "texts", "part", "value"] ["form", "bare"] (aj (top lV)):=⟨rfl,rfl,rfl,∅,rfl,∅,∅⟩
def Q0 (F:cj K "put_bare" "put_bare" (top lV) f fd)(T:Nm mg)(MF:Gw K CF)(da:mg "dict" = none)(GW:NP K w mg aP)(zF:C0 P w K mg base 4 "put_part" ["form", "part", "value"] (PM K CF C)):
  aW P w K mg base (vY P w base) 5 f fd ["form", "bare"] (PV K CF C):=by
 refine F.S3 gT (fun vs H Q E h =>?_) (fun cW A outer s H vs Q E hr h =>?_)
 ·obtain⟨m,p,Fo,w,as,rfl,_⟩:=h
  rfl
 obtain⟨m,p,Fo,wd,args,rfl,fo,fr,ba,hp,q⟩:=h;have hu:=kO hr;have eu:=hr.units;have mJ:=GW.g;have small:∀{n:Nat},n<=10000->n<M2:=fun h=>J6 h ∅;obtain⟨qq,hqq,ew,ek⟩:=ba.pt;obtain⟨pk,pl⟩:=eT qq hqq;obtain⟨qp,hq1,GP⟩:=GW.pt qq hqq;have Z4:args.length=qq.2.length:=by rw[<-ek,Jc]
 have fo':=fo;obtain⟨dx,w1,w2,w3,w4,w5,ho,g1,g2,g3,g4,g5⟩:=fo';obtain⟨pd,ad,rfl,sq,al,hT⟩:=pP g1 (show gX (Ma (aQ Fo.b1))=aQ Fo.b1 from rfl);have bn:(fg Fo.b1).length=Fo.b1.length:=by unfold fg;rw[Jc]
 have l1:Fo.b1.length=11:=fr.g.l1;have nd:(Fo.b1.map (·.1)).Nodup:=fr.g.n1.nodup_iff.mpr cU;have hx:wd∈Fo.b1.map (·.1):=fr.g.n1.mem_iff.mpr (by rw[ew];exact pk);refine⟨_,(af (aB (i:=2) gT.nd rfl (Qae rfl) (gL (aa (bU hu (bj (vX K rfl) rfl da (by rfl) (aa (cR K (pv 0) rfl) ae)) (bQ (kr K) (pv 1) ah (fun _ _=>rfl)) (fun _ _=>rfl)) ae)))
  (af (eQ PassesOwn.leaving rfl (p0 K rfl T.n_zip (aa (C3 K w (gV rfl mJ) (bQ (kr K) (pv 1) ah (fun _ _=>rfl)) (fun _ _=>rfl)) (aa (cT (OO K) (pv 1) (cx ah) gR) ae))) (tupK K 2 rfl (ay (ar (i:=3) gT.nd rfl (Qae rfl)) (ay (ar (i:=4) gT.nd rfl (Qae rfl)) bD))) (ag (jj (uQ K QaP Qa8 Qa7 kE (pv 2) (aa (GN (E':=E) (zF.mono (by first|decide|exact Je _|lia)) hr rfl (fun _ _ _ z=>z) (aa (pv 0) (aa (pv 3) (aa (pv 4) ae)))) ae)))))
  (ag (au (uQ K QaA Qbl Qbk (uP K) aw (aa (pv 2) ae)))))),?_⟩
 refine⟨_,rfl,m,CF,dx,_,_,rfl,ho,MF.c,MF.n1,rfl,pd,ad,fg Fo.b1,rfl,sq,by rw[bn];exact al,by rw[bn,l1];decide,hT,fun dd H1 n1 =>?_⟩;rw[fz nd] at n1;have gd:d7 H1 dd (.str wd) (some (.str (aV Fo.b1 wd))):=by
  rw[<-gJ hx];exact d7.k (k := .inr wd) n1.at
 refine⟨_,rfl,.inr (.inl ⟨p,_,0,.str wd,rfl,rfl,n1.same.bZ hp,lC (QdO 0) rfl,dd,_,rfl,gd,by show 1<=M2;decide,fun l H2 n2=>gn ?_⟩)⟩;have s2:=n1.same.trans n2.same;have lne:∀{a:Gc} {o:HO},H a=some o->a≠l:=fun h z=>by rw[z] at h;have:=s2 _ _ h;have:=n2.nn;rw[n1.same _ _ h] at this;cases this
 dsimp only;refine dJ (t:=An _ _ _) (fun σ H'=>∃(x3 x4:Option V) (ts:List Str),σ=[some (.ref m),some (.ref p),some (.ref l),x3,x4]/\ak H H'/\cC Fo args=some ts/\H' l=some (.lst ((aV Fo.b1 wd::ts).map V.str))) (fun Nx nx =>?_) ?_
 ·refine⟨_,rfl,.inr (.inl ⟨p,_,0,.str wd,rfl,rfl,s2.bZ hp,lC (QdO 0) rfl,aP,qq.1,.ref qp,.ref qp,rfl,by rw[ew],GW.cd,hq1,rfl,?_⟩)⟩;refine⟨_,rfl,1,rfl,p,_,rfl,s2.bZ hp,?_,fun p5 H5 n5 =>?_⟩
  ·rintro⟨z,_⟩;have:HT.eg (V.str wd::args.map Arg.v).length 0 (some 1)=1:=by
    show HT.eg _ 0 (some ((1:Nat):Int))=1;rw[HT.kq,Jq];lia
   rw[this] at z;exact absurd z ∅
  rw[show(1:Int)=((1:Nat):Int) from rfl,qL] at n5;have n5:ju H2 p5 (.tup (args.map Arg.v)) H5:=n5;have q5:kI true K H5 qp (qq.2.map V.str):=GP H5;have q6:kI true K H5 p5 (args.map Arg.v):=bg.of n5.at;refine⟨true,true,qp,p5,rfl,⟨_,q5⟩,⟨_,q6⟩,?_⟩;have CD:=n5.same _ _ n2.at;have l5:l≠p5:=fun z=>by have:=n5.nn;rw[<-z,n2.at] at this;cases this
  refine j3 (N:=args.length) (fun i σ H'=>∃(x3 x4:Option V) (ts:List Str),σ=[some (.ref m),some (.ref p),some (.ref l),x3,x4]/\ak H H'/\(H' p5=some (.tup (args.map Arg.v)))/\cC Fo (args.take i)=some ts/\H' l=some (.lst ((aV Fo.b1 wd::ts).map V.str))) ⟨_,_,[],rfl,s2.trans n5.same,n5.at,rfl,CD⟩ ?_ ?_
  ·rintro i σ H6 hi ⟨x3,x4,ts,rfl,s6,h56,e6,Qq⟩;have gk:(qq.2.map V.str)[i]? = some (.str args[i].kind):=by
    rw[<-ek,Jj,Jj,Jd hi];rfl
   have gv:(args.map Arg.v)[i]? = some args[i].v:=by rw[Jj,Jd hi];rfl
   have r5:kI true K H6 qp (qq.2.map V.str):=GP H6;have r6:kI true K H6 p5 (args.map Arg.v):=bg.of h56;refine⟨⟨_,_,_,_,r5,r6,gk,gv⟩,?_⟩;rintro x' H7 ⟨T',rfl,hN⟩;have n7:=hN _ _ _ _ r5 r6 gk gv;refine⟨T',_,rfl,bg.of n7.at,rfl,_,_,rfl,_,_,rfl,rfl,?_⟩;have s7:=s6.trans n7.same;have hl7:=n7.same _ _ Qq;have mem:=Ud hi;have tl:ts.length<=100:=by
    have:=(mT fr (fun a ha=>ba.ok a (List.mem_of_mem_take ha)) e6).1;rw[Uc] at this;lia
   refine⟨_,rfl,.inl ⟨rfl,_,aX.of hl7⟩,_,rfl,_,rfl,_,rfl,m,Fo,args[i],rfl,ke.same fo s7,fr,ba.ok _ mem,?_⟩;cases ea:eK Fo args[i] with
   | none=>
    have:fC Fo wd args=none:=by unfold fC;rw[oN ea mem];rfl
    rw[this] at q;exact JW.same q s7
   | some x=>
    refine fun H8 s8=>⟨l,_,_,rfl,rfl,s8 _ _ hl7,small (by simp only[Jc,Jq];lia),fun H9 c9 =>?_⟩
    have e9:cC Fo (args.take (i+1))=some (ts++[x]):=by
     rw[Ye hi,uB,e6,ea];rfl
    refine⟨_,_,ts++[x],rfl,fun a o e =>?_,?_,e9,?_⟩
    ·rw[c9.ne (lne e)];exact(s7.trans s8) _ _ e
    ·rw[c9.ne (QaB l5)];exact s8 _ _ (n7.same _ _ h56)
    ·rw[c9.at];simp only[J0,Ju,Qcg,Qcp]
  ·rintro σ H6 ⟨x3,x4,ts,rfl,s6,h56,e6,Qq⟩;rw[Yj] at e6;have r5:kI true K H6 qp (qq.2.map V.str):=GP H6;have r6:kI true K H6 p5 (args.map Arg.v):=bg.of h56;exact⟨⟨_,_,r5,r6,.inr (by rw[Jc];exact Je _)⟩,nx _ _ ⟨_,_,ts,rfl,s6,e6,Qq⟩⟩
 rintro σ H3 ⟨x3,x4,ts,rfl,s3,e3,mf⟩;have ep:fC Fo wd args=some (QaQ "" (aV Fo.b1 wd::ts)):=by unfold fC;rw[e3];rfl
 rw[ep] at q;obtain⟨tl,tsum⟩:=mT fr ba.ok e3;have c1:=fr.c1 wd;refine⟨rfl,_,rfl,_,l,aV Fo.b1 wd::ts,rfl,rfl,aX.of mf,?_,q H3 s3⟩;rw[J0,Uu];show(aV Fo.b1 wd).length+(ts.map fun x=>x.length).sum+_*0<=16777216;lia
end
def zV (w:Str):Bool:=(["farjump", "farzero"]:List Str).contains w
def uc (n i:Nat):dN n (i+1)=(⟨#[48+n / 2^i%2]⟩:Str)++dN n i:=by
 refine eZ ?_;rw[aH];show jx (i+1) n=[48+n / 2^i%2]++jx i n;rw[<-iu,<-iu,Qdt,Ju,List.reverse_append]
 rfl
def zK:Sp:=fun vs H Q _=>∃w:Str,vs=[.str w]/\∀H',ak H H'->Q (.bl (zV w)) H'
section
variable {P:Qaf}{w:Qag}{K:Ja}{mg:Str->Option Fk}{base:Heap}{f:Gc}{fd:Qad}
def fW:aD ["_law_many", "_law_found", "_law_k"] ["_law_many"] (aj (top jU)):=⟨rfl,rfl,rfl,∅,rfl,∅,∅⟩
def L4 (F:cj K "_law_power" "_law_power" (top jU) f fd)(T:Nm mg):aW P w K mg base d6 1 f fd ["_law_many"] o6:=by
 refine F.ok fW (fun vs H Q E h =>?_) (fun cW A outer s H vs Q E hr h =>?_)
 ·obtain⟨n,rfl,_⟩:=h
  rfl
 obtain⟨n,rfl,n1,q⟩:=h;refine⟨_,(af (aB (i:=1) fW.nd rfl (Qae rfl) ah)
  (af (eQ Qay rfl (dZ rfl T.n_range (aa (pv 0) ae)) (ar (i:=2) fW.nd rfl (Qae rfl)) (ag (aB (i:=1) fW.nd rfl (Qae rfl) (aE qD ah (pv 1)))))
  (ag (au (pv 1))))),?_⟩
 refine⟨_,rfl,n,rfl,⋯,⋯,?_⟩;refine kG (lo:=0) (n:=n) (fun i σ H'=>∃x2,σ=[some (.int (n:Nat)),some (.int (2^i)),x2]/\H'=H) ⟨_,rfl,rfl⟩ ?_ ?_
 ·rintro i σ H2 hi ⟨x2,rfl,rfl⟩;refine⟨_,rfl,.inl ⟨_,_,rfl,rfl,.inl ⟨∅,∅⟩,some (.int (0+i)),?_,rfl⟩⟩;rw[QcN,Qdu]
  rfl
 ·rintro σ H2 ⟨x2,rfl,rfl⟩;exact⟨_,rfl,q⟩
def dn:aD ["_law_number", "_law_many", "_law_found", "_law_k"] ["_law_number", "_law_many"] (aj (top ie)):=⟨rfl,rfl,rfl,∅,rfl,∅,∅⟩
def KC (F:cj K "_law_figures" "_law_figures" (top ie) f fd)(T:Nm mg):aW P w K mg base d6 1 f fd ["_law_number", "_law_many"] rM:=by
 refine F.ok dn (fun vs H Q E h =>?_) (fun cW A outer s H vs Q E hr h =>?_)
 ·obtain⟨n,k,rfl,_⟩:=h
  rfl
 obtain⟨n,k,rfl,hk,q⟩:=h;refine⟨_,(af (aB (i:=2) dn.nd rfl (Qae rfl) aw)
  (af (eQ Qay rfl (dZ rfl T.n_range (aa (pv 1) ae)) (ar (i:=3) dn.nd rfl (Qae rfl)) (af (aB (i:=2) dn.nd rfl (Qae rfl) (aE bX (bj nB rfl T.n_str (by rfl) (aa (aE ig (pv 0) ah) ae)) (pv 2)))
  (ag (aB (i:=0) dn.nd rfl (Qae rfl) (aE CY (pv 0) ah)))))
  (ag (au (pv 2))))),?_⟩
 refine⟨_,rfl,k,rfl,⋯,⋯,?_⟩;refine kG (lo:=0) (n:=k) (fun i σ H'=>∃x3,σ=[some (.int ((n / 2^i:Nat):Int)),some (.int (k:Nat)),some (.str (dN n i)),x3]/\H'=H) ⟨_,by simp;rfl,rfl⟩ ?_ ?_
 ·rintro i σ H2 hi ⟨x2,rfl,rfl⟩;have lg:((n / 2^i%2:Nat):Int).natAbs.log2<1920:=by
   have hb:((n / 2^i%2:Nat):Int).natAbs=0\/((n / 2^i%2:Nat):Int).natAbs=1:=by lia
   rcases hb with z|z<;>rw[z]<;>decide
  have em:((n / 2^i:Nat):Int)%2=((n / 2^i%2:Nat):Int):=by lia
  refine⟨_,rfl,_,_,rfl,rfl,(by show(0:Int)<2;decide),_,rfl,by rw[em];exact lg,_,rfl,?_⟩;rw[em,C1];have fl:=bN n i;refine .inr (.inl ⟨_,_,rfl,rfl,Jg (show _<=100 by show 1+(dN n i).length<=100;lia) ∅,?_⟩);have ed:((n / 2^i:Nat):Int) / 2=((n / 2^(i+1):Nat):Int):=by rw[Wf,<-Qds];lia
  refine⟨_,rfl,_,_,rfl,rfl,⟨∅,∅⟩,some (.int (0+i)),?_,rfl⟩;rw[uc,<-ed]
  rfl
 ·rintro σ H2 ⟨x2,rfl,rfl⟩;exact⟨_,rfl,q _ (ak.refl _)⟩
def pE:aD ["_law_word"] ["_law_word"] (aj (top gA)):=⟨rfl,rfl,rfl,∅,rfl,∅,∅⟩
def Lr (F:cj K "_law_far_word" "_law_far_word" (top gA) f fd)(T:Nm mg):aW P w K mg base d6 1 f fd ["_law_word"] zK:=by
 refine F.ok pE (fun vs H Q E h =>?_) (fun cW A outer s H vs Q E hr h =>?_)
 ·obtain⟨w,rfl,_⟩:=h
  rfl
 obtain⟨wd,rfl,q⟩:=h;refine⟨_,(ag (au (eI (ZJ K) (pv 0) (dg (aa aw (aa aw ae))) (by with_unfolding_all rfl)))),?_⟩;refine⟨_,rfl,by show 2<=M2;decide,fun p H1 n1 =>?_⟩;refine⟨p,(["farjump", "farzero"]:List Str).map V.str,rfl,.inr (bg.of n1.at),rfl,rfl,?_⟩;rw[if_neg Jr,wb];exact q H1 n1.same
end
def Og {x:Str}(h:1<=x.length):sg (QaN x (some 1) none)=(sg x).drop 1:=by
 rw[PyProof.Rows.slice_from_eq (b:=(x.length:Int)) ∅ ⋯ rfl];show(((sg x).drop (1:Int).toNat).take ((x.length:Int)-1).toNat).toArray.toList=_;rw[QdT,Us]
 ·rfl
 ·rw[Uv,<-str_len];show x.length-1<=_;lia
def nW (n k:Nat):QaN (dN n k) (some 1) none=dN n (k-1):=by
 cases k with
 | zero=>
  show QaN (dN n 0) (some 1) none=dN n 0;exact(by decide +kernel:QaN (⟨#[]⟩:Str) (some 1) none=⟨#[]⟩)
 | succ k=>
  refine eZ ((Og (by rw[bN];lia)).trans ?_);rw[uc];show((⟨#[48+n / 2^k%2]⟩:Str)++dN n k).cps.toList.drop 1=_;rw[aH]
  rfl
def Gj (n k:Nat):dN (n+2^k) k=dN n k:=by
 refine eZ ?_;show jx k (n+2^k)=jx k n;rw[<-iu,<-iu]
 congr 1
 refine Y6 fun j hj =>?_;have hj:=List.mem_range.mp hj
 congr 1
 have e:2^k=2^(k-j-1)*2*2^j:=by
  rw[Nat.mul_assoc,Qej 2,<-Wf,<-Nat.pow_add]
  congr 1
  lia
 rw[e,Nat.add_mul_div_right _ _ (Nat.two_pow_pos j),Nat.add_mul_mod_self_right]
def HQ {d:Int}{k:Nat}(h1:1<=k)(h:inD d k=true):iA d k=some (dN (d+2^k).toNat k):=by
 unfold iA;rw[if_pos h];unfold inD at h;rw[Jv,decide_eq_true_eq,decide_eq_true_eq] at h;have p2:(2:Int)^k=2*2^(k-1):=by
  rw[show k=(k-1)+1 by lia,QcN,Qdu];rfl
 have pp:(0:Int)<2^(k-1):=QeH ∅
 by_cases c:d<0
 ·rw[if_pos c]
 ·rw[if_neg c];have:(d+2^k).toNat=d.toNat+2^k:=by
   have e:((2^k:Nat):Int)=2^k:=by push_cast;rfl
   lia
  rw[this,Gj]
def wo (n s:Nat):2^s<=n↔s<cE n:=by
 unfold cE QbA
 by_cases h:n=0
 ·subst h;have:=Nat.two_pow_pos s;constructor
  ·intro z;lia
  ·intro z;exact absurd z (by simp)
 ·have hz:¬(((n:Nat):Int)==0)=true:=by simp;lia
  have e:((n:Nat):Int).natAbs=n:=rfl;rw[e,if_neg hz,<-Nat.le_log2 h];lia
def join_cons (x:Str)(r:List Str):QaQ "" (x::r)=x++QaQ "" r:=by
 refine eZ ?_;rw[cP,aH,cP,Y3]
def JV (x r:List Str):QaQ "" (x++r)=QaQ "" x++QaQ "" r:=by
 refine eZ ?_;rw[cP,aH,cP,cP,List.flatMap_append]
def join_nil:QaQ "" []=Qaq:=rfl
def vp (x:Str):x++Qaq=x:=by
 refine eZ ?_;rw[aH];exact Yg _
def v7 (x y z:Str):x++y++z=x++(y++z):=by
 refine eZ ?_;rw[aH,aH,aH,aH,U0]
def wL {F:Fb}:∀(xs:List Str) (r:List Arg),cC F (xs.map Arg.sp++r)=(cC F r).map fun ts=>xs.map (aV F.b2)++ts
 | [],r=>by
  show cC F r=_;cases cC F r<;>rfl
 | x::xs,r=>by
  have ih:=wL (F:=F) xs r;show(cC F (xs.map Arg.sp++r)).map (aV F.b2 x :: ·)=_;rw[ih];cases cC F r<;>rfl
def fP {a:Arg}(h:a.kind = "spot"):∃x,a = .sp x:=by
 cases a<;>first|exact⟨_,rfl⟩|exact absurd h (of_decide_eq_false rfl)
def Ky {a:Arg}(h:a.kind = "number"):∃x,a = .nu x:=by
 cases a<;>first|exact⟨_,rfl⟩|exact absurd h (of_decide_eq_false rfl)
def Mq {a:Arg}(h:a.kind = "many"):∃x,a = .ma x:=by
 cases a<;>first|exact⟨_,rfl⟩|exact absurd h (of_decide_eq_false rfl)
def Cj {a:Arg}(h:a.kind = "near"):∃x,a = .ne x:=by
 cases a<;>first|exact⟨_,rfl⟩|exact absurd h (of_decide_eq_false rfl)
def B4 {a:Arg}(h:a.kind = "far"):∃x,a = .fa x:=by
 cases a<;>first|exact⟨_,rfl⟩|exact absurd h (of_decide_eq_false rfl)
def IP {α:Type}(a v: α)(ys:List α):CL (a::(ys++[v])) (-1)=some v:=by
 have l:(a::(ys++[v])).length=ys.length+2:=by rw[Jq,Jp];rfl
 unfold CL FH;rw[l,if_neg ∅,if_pos ⋯,show((-1:Int)+((ys.length+2:Nat):Int)).toNat=ys.length+1 by lia];show(ys++[v])[ys.length]? = some v;rw[Uj (Je _),Nat.sub_self]
 rfl
def LJ (a v:V)(ys:List V):kL (a::(ys++[v])) (some 1) (some (-1))=ys:=by
 have l:(a::(ys++[v])).length=ys.length+2:=by rw[Jq,Jp];rfl
 have e1:HT.eg (ys.length+2) 0 (some 1)=1:=by
  show HT.eg _ 0 (some ((1:Nat):Int))=1;rw[HT.kq];lia
 have e2:HT.eg (ys.length+2) (ys.length+2) (some (-1))=ys.length+1:=by
  show(if (-1:Int)<0 then ((-1:Int)+((ys.length+2:Nat):Int)).toNat else min (-1:Int).toNat (ys.length+2))=_;rw[if_pos ∅];lia
 unfold kL;rw[l,e1,e2];show((ys++[v]).drop 0).take (ys.length+1-1)=ys;rw[QdI,Nat.add_sub_cancel,QeF]
 rfl
def mh.sum {F:Fb}(h:mh F):∀xs:List Str,((xs.map (aV F.b2)).map fun x=>x.length).sum<=11*xs.length
 | []=>Je _
 | y::ys=>by
  have ih:=h.sum ys;have:=h.c2 y;rw[J0,J0,Uu,Jq];lia
def iJ (xs:List Str):(QaQ "" xs).length=(xs.map fun x=>x.length).sum:=by
 rw[str_len,cP,List.length_flatMap]
 rfl
abbrev kW:List Str:=["jump", "zero", "farjump", "farzero"]
abbrev MH:List Str:=["add", "take", "tell", "ask", "stop"]
def kZ (w:Str)(d:Int):Arg:=if zV w=true then .fa d else .ne d
def kJ.cls {w:Str}{as:List Arg}(b:kJ w as):(w = "skip" /\ ∃n,as=[.ma n])\/(w∈kW/\∃(xs:List Str) (d:Int),xs.length<=1/\as=xs.map Arg.sp++[kZ w d])\/(w = "set" /\ ∃x n,as=[.sp x,.nu n])\/(w∈MH/\∃xs:List Str,xs.length<=2/\as=xs.map Arg.sp):=by
 obtain⟨q,hq,rfl,ek⟩:=b.pt;have n0:∀{as:List Arg},as.map Arg.kind=[]->as=[]:=fun h=>List.map_eq_nil_iff.mp h;have n1:∀{as:List Arg} {a:Str} {r:List Str},as.map Arg.kind=a::r->∃x t,as=x::t/\x.kind=a/\t.map Arg.kind=r:=fun{as a r} h=>by
  cases as with
  | nil=>cases h
  | cons x t=>rw[J0] at h;injection h with h1 h2;exact⟨x,t,rfl,h1,h2⟩
 simp only[fe,Jw,Uq,or_false] at hq
 rcases hq with rfl|rfl|rfl|rfl|rfl|rfl|rfl|rfl|rfl|rfl|rfl
 ·obtain⟨a,t,rfl,h1,h⟩:=n1 ek;obtain⟨c,t,rfl,h2,h⟩:=n1 h;obtain rfl:=n0 h;obtain⟨x,rfl⟩:=fP h1;obtain⟨n,rfl⟩:=Ky h2;exact .inr (.inr (.inl ⟨rfl,x,n,rfl⟩))
 ·obtain⟨a,t,rfl,h1,h⟩:=n1 ek;obtain⟨c,t,rfl,h2,h⟩:=n1 h;obtain rfl:=n0 h;obtain⟨x,rfl⟩:=fP h1;obtain⟨y,rfl⟩:=fP h2;exact .inr (.inr (.inr ⟨by simp,[x,y],by simp,rfl⟩))
 ·obtain⟨a,t,rfl,h1,h⟩:=n1 ek;obtain⟨c,t,rfl,h2,h⟩:=n1 h;obtain rfl:=n0 h;obtain⟨x,rfl⟩:=fP h1;obtain⟨y,rfl⟩:=fP h2;exact .inr (.inr (.inr ⟨by simp,[x,y],by simp,rfl⟩))
 ·obtain⟨a,t,rfl,h1,h⟩:=n1 ek;obtain rfl:=n0 h;obtain⟨x,rfl⟩:=fP h1;exact .inr (.inr (.inr ⟨by simp,[x],by simp,rfl⟩))
 ·obtain⟨a,t,rfl,h1,h⟩:=n1 ek;obtain rfl:=n0 h;obtain⟨x,rfl⟩:=fP h1;exact .inr (.inr (.inr ⟨by simp,[x],by simp,rfl⟩))
 ·obtain⟨a,t,rfl,h1,h⟩:=n1 ek;obtain rfl:=n0 h;obtain⟨d,rfl⟩:=Cj h1;exact .inr (.inl ⟨by simp,[],d,∅,rfl⟩)
 ·obtain⟨a,t,rfl,h1,h⟩:=n1 ek;obtain⟨c,t,rfl,h2,h⟩:=n1 h;obtain rfl:=n0 h;obtain⟨x,rfl⟩:=fP h1;obtain⟨d,rfl⟩:=Cj h2;exact .inr (.inl ⟨by simp,[x],d,by simp,rfl⟩)
 ·obtain rfl:=n0 ek;exact .inr (.inr (.inr ⟨by simp,[],∅,rfl⟩))
 ·obtain⟨a,t,rfl,h1,h⟩:=n1 ek;obtain rfl:=n0 h;obtain⟨d,rfl⟩:=B4 h1;exact .inr (.inl ⟨by simp,[],d,∅,rfl⟩)
 ·obtain⟨a,t,rfl,h1,h⟩:=n1 ek;obtain⟨c,t,rfl,h2,h⟩:=n1 h;obtain rfl:=n0 h;obtain⟨x,rfl⟩:=fP h1;obtain⟨d,rfl⟩:=B4 h2;exact .inr (.inl ⟨by simp,[x],d,by simp,rfl⟩)
 ·obtain⟨a,t,rfl,h1,h⟩:=n1 ek;obtain rfl:=n0 h;obtain⟨n,rfl⟩:=Mq h1;exact .inl ⟨rfl,n,rfl⟩
structure uK (K:Ja)(H:Hp)(lp:Gc)(F:Fb):Prop where
 ex:sF fun r1 r2 r3=>aX K H lp [r1,r2,r3,.int (F.near:Nat),.int (F.dM:Nat)]/\aI K H [aQ F.b1,aQ F.b2,aQ F.b3] [r1,r2,r3]
def uK.same {K:Ja}{H H':Hp}{lp:Gc}{F:Fb}(h:uK K H lp F)(s:ak H H'):uK K H' lp F:=by
 obtain⟨r1,r2,r3,h1,h2⟩:=h.ex;exact⟨r1,r2,r3,s.seq h1,h2.same s⟩
def O2 (K:Ja):Sp:=fun vs H Q _=>zR fun(lp p:Gc) (F:Fb) (w:Str) (as:List Arg)=>vs=[.ref lp,.ref p]/\uK K H lp F/\mh F/\kJ w as/\bg K H p (.str w::as.map Arg.v)/\∀H',ak H H'->Q (Go (fC F w as)) H'
def vq {K:Ja}{H:Hp}{bk:List (Str×Str)}{v:V}(h:Den K H (aQ bk) v):∃(p:Gc) (as:List Gc),v = .ref p/\aX K H p (as.map V.ref)/\as.length=(fg bk).length/\∀(j:Nat) b (kv:Key×V),as[j]? = some b->(fg bk)[j]? = some kv->bg K H b [kV kv.1,kv.2]:=by
 unfold aQ Den at h;obtain⟨a,us,rfl,hS,hd⟩:=h;obtain⟨as,rfl,al,hT⟩:=va hd;exact⟨a,as,rfl,hS,by unfold fg;rw[Jc];exact al,hT⟩
def wQ (bk:List (Str×Str)):(fg bk).length=bk.length:=by unfold fg;rw[Jc]
section
variable {P:Qaf}{w:Qag}{K:Ja}{mg:Str->Option Fk}{base:Heap}{f:Gc}{fd:Qad}
def cB:aD ["_law_parts_here", "_law_bare", "_law_kinds_here", "_law_spots", "_law_word", "_law_text", "_law_many", "_law_half", "_law_size"] ["_law_parts_here", "_law_bare"] (aj (top oB)):=⟨rfl,rfl,rfl,∅,rfl,∅,∅⟩
def RX (F:cj K "_law_put" "_law_put" (top oB) f fd)(T:Nm mg)(da:mg "dict" = none)(jQ:Fn P w K mg base 1 "_law_sizes" [] (rH aN))(ic:Fn P w K mg base 1 "_law_figures" ["_law_number", "_law_many"] rM)(pj:Fn P w K mg base 1 "_law_power" ["_law_many"] o6)(qS:Fn P w K mg base 1 "_law_far_word" ["_law_word"] zK):aW P w K mg base d6 2 f fd ["_law_parts_here", "_law_bare"] (O2 K):=by
 refine F.ok cB (fun vs H Q E h =>?_) (fun cW A outer s H vs Q E hr h =>?_)
 ·obtain⟨lp,p,Fo,wd,as,rfl,_⟩:=h
  rfl
 obtain⟨lp,p,Fo,wd,args,rfl,hP,fr,ba,hp,q⟩:=h;have hu:=kO hr;have eu:=hr.units;have small:∀{n:Nat},n<=10000->n<=M2:=fun h=>Jg h ∅;obtain⟨r1,r2,r3,hl,hD⟩:=hP.ex;have l1:Fo.b1.length=11:=fr.g.l1;have l2:Fo.b2.length=4:=fr.g.l2;have l3:Fo.b3.length=9:=fr.g.l3;have nd1:(Fo.b1.map (·.1)).Nodup:=fr.g.n1.nodup_iff.mpr cU;have nd2:(Fo.b2.map (·.1)).Nodup:=fr.n2.nodup_iff.mpr NL.nd;have nd3:(Fo.b3.map (·.1)).Nodup:=fr.n3.nodup_iff.mpr P2.nd;obtain⟨qq,hqq,ew,ek⟩:=ba.pt;have UH:wd∈Fo.b1.map (·.1):=fr.g.n1.mem_iff.mpr (by rw[ew];exact(eT qq hqq).1);refine⟨_,(af (hW (dg (aa (bj (BZ K rfl) rfl da (by rfl) (aa (bQ (kr K) (pv 0) ah (fun _ _=>rfl)) ae)) (aa (bj (BZ K rfl) rfl da (by rfl) (aa (bQ (kr K) (pv 0) ah (fun _ _=>rfl)) ae)) ae))) (tupK K 2 rfl (ay (ar (i:=2) cB.nd rfl (Qae rfl)) (ay (ar (i:=3) cB.nd rfl (QbU rfl)) bD))))
  (af (aB (i:=4) cB.nd rfl (Qae rfl) (bQ (kr K) (pv 1) ah (fun _ _=>rfl)))
  (af (aB (i:=5) cB.nd rfl (Qae rfl) (bU hu (pv 2) (pv 4) (fun _ _=>rfl)))
  (af (bf (aK (tm K eu) (pv 4) aw (aO _)) (ag (au (aE bX (aE bX (pv 5) (aM (ic.mono ∅) hr rfl (aa (bQ (kr K) (pv 1) ah (fun _ _=>rfl)) (aa ah ae)))) (aE Ni aw (bQ (kr K) (pv 1) ah (fun _ _=>rfl)))))) aF)
  (af (bf (aK (ZJ K) (pv 4) (dg (aa aw (aa aw (aa aw (aa aw ae))))) (by with_unfolding_all rfl)) (af (aB (i:=6) cB.nd rfl (Qae rfl) (bQ (kr K) (pv 0) (aE bX ah (bj Dp rfl T.n_int (by rfl) (aa (aM (qS.mono ∅) hr rfl (aa (pv 4) ae)) ae))) (fun _ _=>rfl)))
  (af (aB (i:=7) cB.nd rfl (Qae rfl) (aM (pj.mono ∅) hr rfl (aa (aE jL (pv 6) ah) ae)))
  (af (bf (PW.pt (mZ (aK oZ (bQ (kr K) (pv 1) (rR lz ah) (fun _ _=>rfl)) (aE jL ah (pv 7)) (aO _)) (kh (aK Ik (bQ (kr K) (pv 1) (rR lz ah) (fun _ _=>rfl)) (pv 7) (aO _))))) (ag (au cf)) aF)
  (ag (au (aE bX (aE bX (pv 5) (uQ K QaA Qbl Qbk (uP K) aw (aa (cn rfl (bM (Nc:=["_law_spot"]) (Fc:=["_law_spots"]) (js:=[3])) (iY K (cT (OO K) (pv 1) (cx ah) (cx (rR lz ah)))) (bb (i:=0) (n:=1) ∅) (fun _ _ _ _ _=>(ar (i:=0) (nA ["_law_spot", "_law_spots"]) rfl (Qae rfl))) (fun _ _ _ _ _=>bP) (fun _ _ _ _ _=>(bU hu (pv 1) (pv 0) (fun _ _=>rfl)))) ae))) (aM (ic.mono ∅) hr rfl (aa (aE bX (bQ (kr K) (pv 1) (rR lz ah) (fun _ _=>rfl)) (aE qD ah (pv 7))) (aa (pv 6) ae))))))))) aF)
  (af (bf (aK (tm K eu) (pv 4) aw (aO _)) (af (aB (i:=8) cB.nd rfl (Qae rfl) ah)
  (af (kg Qay (aK qA (aM (pj.mono ∅) hr rfl (aa (pv 8) ae)) (bQ (kr K) (pv 1) ah (fun _ _=>rfl)) (aO _)) (ag (aB (i:=8) cB.nd rfl (Qae rfl) (aE bX (pv 8) ah))))
  (af (aB (i:=5) cB.nd rfl (Qae rfl) (aE bX (aE bX (pv 5) (bU hu (pv 3) (bQ (kr K) (pv 1) ah (fun _ _=>rfl)) (fun _ _=>rfl))) (bU hu (bj (BZ K rfl) rfl da (by rfl) (aa (bQ (kr K) (pv 0) ah (fun _ _=>rfl)) ae)) (bQ (kr K) (AW (jQ.mono (by first|decide|exact Je _|lia)) hr rfl) (pv 8) (fun _ _=>rfl)) (fun _ _=>rfl))))
  (ag (au (aE bX (pv 5) (aM (ic.mono ∅) hr rfl (aa (bQ (kr K) (pv 1) ah (fun _ _=>rfl)) (aa (av (Fy rfl) rfl T.n_max (by rfl) (aa ah (aa (aE jL (pv 8) ah) ae))) ae))))))))) aF)
  (ag (au (aE bX (pv 5) (uQ K QaA Qbl Qbk (uP K) aw (aa (cn rfl (bM (Nc:=["_law_spot"]) (Fc:=["_law_spots"]) (js:=[3])) (iY K (cT (OO K) (pv 1) (cx ah) gR)) (bb (i:=0) (n:=1) ∅) (fun _ _ _ _ _=>(ar (i:=0) (nA ["_law_spot", "_law_spots"]) rfl (Qae rfl))) (fun _ _ _ _ _=>bP) (fun _ _ _ _ _=>(bU hu (pv 1) (pv 0) (fun _ _=>rfl)))) ae))))))))))),?_⟩
 obtain⟨a1,as1,rfl,sq1,al1,FO⟩:=vq (jY (j:=0) hD rfl rfl);refine⟨_,rfl,.inl ⟨lp,_,0,.ref a1,rfl,rfl,hl,rfl,a1,as1,fg Fo.b1,rfl,sq1,al1,by rw[wQ,l1];decide,FO,fun d1 H1 n1 =>?_⟩⟩;rw[fz nd1] at n1;obtain⟨a2,as2,rfl,sq2,Z4,hT2⟩:=vq ((jY (j:=1) hD rfl rfl).same n1.same);refine⟨_,rfl,.inl ⟨lp,_,1,.ref a2,rfl,rfl,n1.same.seq hl,rfl,a2,as2,fg Fo.b2,rfl,sq2,Z4,by rw[wQ,l2];decide,hT2,fun d2 H2 n2 =>?_⟩⟩;rw[fz nd2] at n2;refine⟨by show 2<=M2;decide,fun t3 H3 n3=>⟨t3,_,rfl,bg.of n3.at,rfl,_,_,rfl,_,_,rfl,rfl,?_⟩⟩;have s3:=n1.same.trans (n2.same.trans n3.same);have h1:=n3.same _ _ (n2.same _ _ n1.at);have h2:=n3.same _ _ n2.at;have gd1:d7 H3 d1 (.str wd) (some (.str (aV Fo.b1 wd))):=by
  rw[<-gJ UH];exact d7.k (k := .inr wd) h1
 have ZI:∀{Hx:Hp} {x:Str},ak H3 Hx->x∈bI->d7 Hx d2 (.str x) (some (.str (aV Fo.b2 x))):=fun s hx=>by
  rw[<-gJ (fr.n2.mem_iff.mpr hx)];exact d7.k (k := .inr _) (s _ _ h2)
 have Qd:=s3.bZ hp;have c1:=fr.c1 wd;refine⟨_,rfl,.inr (.inl ⟨p,_,0,.str wd,rfl,rfl,Qd,lC (QdO 0) rfl,gn ?_⟩)⟩;refine⟨_,rfl,_,rfl,d1,_,rfl,gd1,gn ?_⟩
 rcases ba.cls with ⟨rfl,n,rfl⟩|⟨hw,xs,d,xl,rfl⟩|⟨rfl,x,n,rfl⟩|⟨hw,xs,xl,rfl⟩
 ·-- skip
  refine⟨_,rfl,.inl ⟨rfl,_,rfl,rB ?_⟩⟩;have hn:n<=7:=ba.ok _ (Js.mpr rfl);have ml:∀n,n<=7->(QbW (Wp "0") ((n:Nat):Int)).length<=10:=∅;have ml:=ml n hn;have fl:=bN n 3;refine⟨_,rfl,_,rfl,.inr (.inl ⟨p,_,1,.int (n:Nat),rfl,rfl,Qd,rfl,n,3,rfl,∅,fun H4 s4 =>?_⟩)⟩;refine .inr (.inl ⟨_,_,rfl,rfl,small ⋯,?_⟩);refine⟨_,rfl,.inr (.inl ⟨p,_,1,.int (n:Nat),rfl,rfl,s4.bZ Qd,rfl,.inr ⟨_,_,rfl,rfl,j4 ∅ ⋯ ⋯,?_⟩⟩)⟩;refine .inr (.inl ⟨_,_,rfl,rfl,small (by rw[QaH];lia),?_⟩);have q:=q H4 (s3.trans s4);have e:fC Fo "skip" [.ma n]=some (aV Fo.b1 "skip" ++ dN n 3++QbW (Wp "0") (n:Nat)):=by
   show some (QaQ "" [aV Fo.b1 "skip",dN n 3++QbW (Wp "0") (n:Nat)])=_;rw[join_cons,join_cons,join_nil,vp,v7]
  rw[e] at q;exact q
 ·-- jumps
  have Xg:∀w∈kW,(w == "skip")=false/\kW.contains w=true:=∅;obtain⟨k1,k2⟩:=Xg _ hw;refine⟨_,rfl,.inl ⟨rfl,_,rfl,fI ?_ k1⟩⟩;dsimp only[ck];refine⟨_,rfl,by show 4<=M2;decide,fun t4 H4 n4=>⟨t4,kW.map V.str,rfl,.inr (bg.of n4.at),rfl,?_,_,rfl,Vn ?_ k2⟩⟩
  ·rfl
  obtain⟨kk,ekk⟩:∃kk:Nat,kk=if zV wd=true then Fo.dM else Fo.near:=⟨_,rfl⟩
  have nr:=fr.nr;have ff:=fr.fr;have kb:2<=kk/\kk<=16:=by rw[ekk];split<;>lia
  have s4:=s3.trans n4.same;refine⟨_,rfl,_,rfl,wd,rfl,fun H5 s5 =>.inr ⟨zV wd,rfl,.inl ⟨_,_,rfl,rfl,.inl ⟨lp,_,_,.int (kk:Nat),rfl,rfl,(s4.trans s5).seq hl,?_,gn ?_⟩⟩⟩⟩
  ·rw[ekk];cases zV wd<;>rfl
  refine⟨_,rfl,_,_,rfl,rfl,kk-1,?_,⋯,gn ?_⟩
  ·show[V.int ((kk:Int)-1)]=[V.int ((kk-1:Nat):Int)]
   rw[show(kk:Int)-1=((kk-1:Nat):Int) by lia]
  have Zd:=s5 _ _ (n4.same _ _ h2);have s5:=s4.trans s5;have dk:d.natAbs<=1000000:=by
   have:=ba.ok (kZ wd d) (Jz _ (Js.mpr rfl));unfold kZ at this
   split at this<;>exact this
  have ev:(kZ wd d).v = .int d:=by unfold kZ;split<;>rfl
  have eL:(xs.map Arg.sp++[kZ wd d]).map Arg.v=xs.map V.str++[.int d]:=by rw[Ju,Yn,J0,ev];rfl
  have UU:=s5.bZ hp;rw[eL] at UU;have aL:=IP (V.str wd) (V.int d) (xs.map V.str);have q0:inD d kk=false->∀H',ak H H'->Q .non H':=fun c H' s'=>by
   have q:=q H' s';have e:fC Fo wd (xs.map Arg.sp++[kZ wd d])=none:=by
    have ea:eK Fo (kZ wd d)=none:=by
     have:eK Fo (kZ wd d)=iA d kk:=by
      rw[ekk];unfold kZ;cases zV wd<;>rfl
     rw[this];unfold iA;rw[c];rfl
    unfold fC;rw[oN ea (Jz _ (Js.mpr rfl))];rfl
   rw[e] at q;exact q
  refine⟨_,rfl,_,rfl,.inr (.inl ⟨p,_,-1,.int d,rfl,rfl,UU,aL,_,rfl,_,_,rfl,rfl,_,_,rfl,rfl,_,rfl,?_⟩)⟩;refine fR (fun c=>bL (q0 ?_ _ s5)) (fun c =>?_)
  ·have c:d<0-2^(kk-1):=of_decide_eq_true c;unfold inD;rw[decide_eq_false ⋯,Yu]
  have c1':¬d<0-2^(kk-1):=fun z=>c (decide_eq_true z);refine⟨_,rfl,_,rfl,.inr (.inl ⟨p,_,-1,.int d,rfl,rfl,UU,aL,_,rfl,_,_,rfl,rfl,_,rfl,?_⟩)⟩;refine fR (fun c=>q0 ?_ _ s5) (fun c =>?_)
  ·have c:2^(kk-1)<=d:=of_decide_eq_true c;unfold inD;rw[decide_eq_false (p:=d<2^(kk-1)) ⋯,Bool.and_false]
  have c2':¬ 2^(kk-1)<=d:=fun z=>c (decide_eq_true z);have cin:inD d kk=true:=by
   unfold inD;rw[decide_eq_true ⋯,decide_eq_true ⋯];rfl
  dsimp only[ck];refine⟨_,rfl,rfl,_,rfl,1,rfl,_,rfl,-1,rfl,p,_,rfl,UU,?_,fun p6 H6 n6 =>?_⟩
  ·rintro⟨z,_⟩;have:HT.eg (V.str wd::(xs.map V.str++[V.int d])).length 0 (some 1)=1:=by
    show HT.eg _ 0 (some ((1:Nat):Int))=1;rw[HT.kq,Jq];lia
   rw[this] at z;exact absurd z ∅
  rw[LJ] at n6;have s6:=s5.trans n6.same;refine⟨p6,rfl,⟨_,bg.of n6.at⟩,?_⟩;refine dw (N:=xs.length) (fun i ys H'=>H'=H6/\ys=((xs.take i).map (aV Fo.b2)).map V.str) ⟨rfl,rfl⟩ ?_ ?_
  ·rintro i ys H7 Ny hi ⟨rfl,rfl⟩ ny;have hv:(xs.map V.str)[i]? = some (.str xs[i]):=by rw[Jj,Jd hi];rfl
   refine⟨⟨_,_,bg.of n6.at,hv⟩,J6 (show _<=100 by rw[Jc,Jc,Uc];lia) ∅,?_⟩;rintro x' H8 ⟨rfl,hy⟩;have e:=hy _ (bg.of n6.at);rw[hv] at e;cases e;have Kb:xs[i]∈bI:=ba.ok (.sp xs[i]) (Yo _ (Yk (Ud hi)));have hd8:d7 H8 d2 (.str xs[i]) (some (.str (aV Fo.b2 xs[i]))):=by
    rw[<-gJ (fr.n2.mem_iff.mpr Kb)];refine d7.k (k := .inr _) (n6.same _ _ ?_);exact Zd
   refine gn ⟨_,rfl,_,rfl,d2,_,rfl,hd8,ny _ _ ⟨rfl,?_⟩⟩;rw[cV hi,Ju,Ju];rfl
  ·rintro ys H7 ⟨rfl,rfl⟩;rw[Yj];refine⟨⟨_,bg.of n6.at,by rw[Jc];exact Je _⟩,fun pv hpv =>?_⟩;have jl:=fr.sum xs;refine⟨_,pv,xs.map (aV Fo.b2),rfl,rfl,aX.of aq,?_,?_⟩
   ·show((xs.map (aV Fo.b2)).map fun x=>x.length).sum+_*0<=16777216;lia
   have jl2:=iJ (xs.map (aV Fo.b2));refine .inr (.inl ⟨_,_,rfl,rfl,small ⋯,?_⟩);have s7:=s6.trans (bG hpv (.lst ((xs.map (aV Fo.b2)).map V.str)));have ZO:=s7.bZ hp;rw[eL] at ZO;have p2:(2:Int)^kk=2*2^(kk-1):=by
    rw[show kk=(kk-1)+1 by lia,QcN,Qdu];rfl
   have pp:(0:Int)<2^(kk-1):=QeH ∅;refine⟨_,rfl,_,rfl,.inr (.inl ⟨p,_,-1,.int d,rfl,rfl,ZO,aL,_,rfl,.inl ⟨_,_,rfl,rfl,.inl ⟨∅,∅⟩,.inl ⟨_,_,rfl,rfl,_,rfl,(d+2^kk).toNat,kk,?_,⋯,fun H8 s8 =>?_⟩⟩⟩)⟩
   ·show[V.int (d+2*2^(kk-1)),V.int (kk:Nat)]=_;rw[Qd0 ⋯,p2]
   have fl:=bN (d+2^kk).toNat kk;refine .inr (.inl ⟨_,_,rfl,rfl,small (by rw[QaH];lia),?_⟩);have q:=q H8 (s7.trans s8);have e:fC Fo wd (xs.map Arg.sp++[kZ wd d])=some (aV Fo.b1 wd++QaQ "" (xs.map (aV Fo.b2))++dN (d+2^kk).toNat kk):=by
    have ea:eK Fo (kZ wd d)=some (dN (d+2^kk).toNat kk):=by
     rw[<-HQ ⋯ cin,ekk];unfold kZ;cases zV wd<;>rfl
    unfold fC;rw[wL];have:cC Fo [kZ wd d]=some [dN (d+2^kk).toNat kk]:=by
     show(match eK Fo (kZ wd d) with|none=>none|some x=>(some []).map (x :: ·))=_;rw[ea];rfl
    rw[this];show some (QaQ "" (aV Fo.b1 wd::(xs.map (aV Fo.b2)++[dN (d+2^kk).toNat kk])))=_;rw[join_cons,JV,join_cons,join_nil,vp,v7]
   rw[e] at q;exact q
 ·-- set
  refine⟨_,rfl,.inl ⟨rfl,_,rfl,fI ?_⟩⟩;dsimp only[ck];refine⟨_,rfl,by show 4<=M2;decide,fun t4 H4 n4=>⟨t4,kW.map V.str,rfl,.inr (bg.of n4.at),rfl,rfl,_,rfl,ZN ?_⟩⟩;dsimp only[ck];refine⟨_,rfl,.inl ⟨rfl,_,rfl,rB ?_⟩⟩;have hx:x∈bI:=ba.ok _ Jn;have hn:n<=255:=ba.ok _ (Jk _ Jn);have hb:=vS hn;have c2:=fr.c2 x;obtain⟨z,hz⟩:∃z,aN[cE n]? = some z:=⟨_,Jd (show cE n<9 by lia)⟩
  have ez:aN.getD (cE n) Qaq=z:=by rw[U3,hz];rfl
  have c3:=fr.c3 z;have hzm:z∈Fo.b3.map (·.1):=fr.n3.mem_iff.mpr (J2 hz);refine gn ?_;dsimp only;refine dJ (t:=ll _ _) (fun σ H' =>σ=[some (.ref lp),some (.ref p),some (.ref d1),some (.ref d2),some (.str "set"),some (.str (aV Fo.b1 "set")),none,none,some (.int (cE n:Nat))]/\H'=H4) (fun Nx nx =>?_) ?_
  ·refine mv (fun m σ H'=>∃k:Nat,m=cE n-k/\k<=cE n /\ σ=[some (.ref lp),some (.ref p),some (.ref d1),some (.ref d2),some (.str "set"),some (.str (aV Fo.b1 "set")),none,none,some (.int (k:Nat))]/\H'=H4) ⟨_,0,rfl,Um _,rfl,rfl⟩ ?_;rintro m σ H5 ⟨k,rfl,hk,rfl,rfl⟩;refine⟨_,rfl,k,rfl,⋯,?_⟩;refine⟨_,rfl,.inr (.inl ⟨p,_,2,.int (n:Nat),rfl,rfl,n4.same.bZ Qd,rfl,_,_,rfl,rfl,_,rfl,?_⟩)⟩;have e2:(2:Int)^k<=(n:Nat)↔k<cE n:=by
    rw[<-wo];have:(2:Int)^k=((2^k:Nat):Int):=by push_cast;rfl
    lia
   refine fR (fun c =>?_) (fun c =>?_)
   ·have c:=e2.mp (of_decide_eq_true c);refine⟨fun σ' H'=>∃m',m'<cE n-k/\_,fun _ _ h=>h,?_⟩;exact⟨_,rfl,.inl ⟨_,_,rfl,rfl,cE n-(k+1),⋯,k+1,rfl,⋯,rfl,rfl⟩⟩
   ·have c:¬k<cE n:=fun y=>c (decide_eq_true (e2.mpr y));have:k=cE n:=by lia
    subst this;exact nx _ _ ⟨rfl,rfl⟩
  rintro σ H5 ⟨rfl,rfl⟩;have s4:=s3.trans n4.same;have hp4:=n4.same.bZ Qd;refine⟨_,rfl,_,rfl,_,rfl,.inr (.inl ⟨p,_,1,.str x,rfl,rfl,hp4,rfl,d2,_,rfl,ZI n4.same hx,?_⟩)⟩;refine .inr (.inl ⟨_,_,rfl,rfl,small ⋯,?_⟩);obtain⟨a3,as3,rfl,sq3,al3,hT3⟩:=vq ((jY (j:=2) hD rfl rfl).same s4);refine⟨_,rfl,.inl ⟨lp,_,2,.ref a3,rfl,rfl,s4.seq hl,rfl,a3,as3,fg Fo.b3,rfl,sq3,al3,by rw[wQ,l3];decide,hT3,fun d3 H6 n6 =>?_⟩⟩;rw[fz nd3] at n6;refine⟨rfl,fun ps H7 n7=>⟨_,rfl,.inl ⟨ps,_,_,.str z,rfl,rfl,aX.of n7.at,kn (by rw[Jj];show(aN[cE n]?).map V.str=_;rw[hz];rfl),d3,_,rfl,by rw[<-gJ hzm];exact d7.k (k := .inr z) (n7.same _ _ n6.at),?_⟩⟩⟩;refine .inr (.inl ⟨_,_,rfl,rfl,small (by rw[QaH];lia),gn ?_⟩);have s7:=s4.trans (n6.same.trans n7.same);have em:(if ((cE n:Nat):Int)-1>0 then ((cE n:Nat):Int)-1 else 0)=((cE n-1:Nat):Int):=by split<;>lia
  refine⟨_,rfl,_,rfl,.inr (.inl ⟨p,_,2,.int (n:Nat),rfl,rfl,s7.bZ hp,rfl,_,rfl,_,_,rfl,rfl,0,_,rfl,n,cE n-1,(by show[V.int ((n:Nat):Int),V.int (if ((cE n:Nat):Int)-1>0 then ((cE n:Nat):Int)-1 else 0)]=_;rw[em]),⋯,fun H8 s8 =>?_⟩)⟩;have fl:=bN n (cE n-1);refine .inr (.inl ⟨_,_,rfl,rfl,small (by rw[QaH,QaH];lia),?_⟩);have q:=q H8 (s7.trans s8);have e:fC Fo "set" [.sp x,.nu n]=some (aV Fo.b1 "set" ++ aV Fo.b2 x++aV Fo.b3 z++dN n (cE n-1)):=by
   show some (QaQ "" [aV Fo.b1 "set",aV Fo.b2 x,aV Fo.b3 (aN.getD (cE n) Qaq)++QaN (dN n (cE n)) (some 1) none])=_;rw[join_cons,join_cons,join_cons,join_nil,vp,ez,nW,v7,v7]
  rw[e] at q;exact q
 ·-- the others
  have Xg:∀w∈MH,(w == "skip")=false/\kW.contains w=false/\(w == "set")=false:=∅;obtain⟨k1,k2,k3⟩:=Xg _ hw;refine⟨_,rfl,.inl ⟨rfl,_,rfl,fI ?_ k1⟩⟩;dsimp only[ck];refine⟨_,rfl,by show 4<=M2;decide,fun t4 H4 n4=>⟨t4,kW.map V.str,rfl,.inr (bg.of n4.at),rfl,?_,_,rfl,ZN ?_ k2⟩⟩
  ·rfl
  dsimp only[ck];refine⟨_,rfl,.inl ⟨rfl,_,rfl,fI ?_ k3⟩⟩;dsimp only[ck];have s4:=s3.trans n4.same;refine⟨_,rfl,rfl,_,rfl,1,rfl,p,_,rfl,s4.bZ hp,?_,fun p5 H5 n5 =>?_⟩
  ·rintro⟨z,_⟩;have:HT.eg (V.str wd::(xs.map Arg.sp).map Arg.v).length 0 (some 1)=1:=by
    show HT.eg _ 0 (some ((1:Nat):Int))=1;rw[HT.kq,Jq];lia
   rw[this] at z;exact absurd z ∅
  rw[show(1:Int)=((1:Nat):Int) from rfl,qL] at n5;have e5:(V.str wd::(xs.map Arg.sp).map Arg.v).drop 1=xs.map V.str:=by rw[List.drop_succ_cons,QdI,Yn];rfl
  rw[e5] at n5;have s5:=s4.trans n5.same;refine⟨p5,rfl,⟨_,bg.of n5.at⟩,?_⟩;refine dw (N:=xs.length) (fun i ys H'=>H'=H5/\ys=((xs.take i).map (aV Fo.b2)).map V.str) ⟨rfl,rfl⟩ ?_ ?_
  ·rintro i ys H6 Ny hi ⟨rfl,rfl⟩ ny;have hv:(xs.map V.str)[i]? = some (.str xs[i]):=by rw[Jj,Jd hi];rfl
   refine⟨⟨_,_,bg.of n5.at,hv⟩,J6 (show _<=100 by rw[Jc,Jc,Uc];lia) ∅,?_⟩;rintro x' H7 ⟨rfl,hy⟩;have e:=hy _ (bg.of n5.at);rw[hv] at e;cases e;have Kb:xs[i]∈bI:=ba.ok (.sp xs[i]) (Yk (Ud hi));refine gn ⟨_,rfl,_,rfl,d2,_,rfl,ZI (n4.same.trans n5.same) Kb,ny _ _ ⟨rfl,?_⟩⟩;rw[cV hi,Ju,Ju];rfl
  ·rintro ys H6 ⟨rfl,rfl⟩;rw[Yj];refine⟨⟨_,bg.of n5.at,by rw[Jc];exact Je _⟩,fun pv hpv =>?_⟩;have jl:=fr.sum xs;refine⟨_,pv,xs.map (aV Fo.b2),rfl,rfl,aX.of aq,?_,?_⟩
   ·show((xs.map (aV Fo.b2)).map fun x=>x.length).sum+_*0<=16777216;lia
   have jl2:=iJ (xs.map (aV Fo.b2));refine .inr (.inl ⟨_,_,rfl,rfl,small ⋯,?_⟩);have q:=q _ (s5.trans (bG hpv (.lst ((xs.map (aV Fo.b2)).map V.str))));have e:fC Fo wd (xs.map Arg.sp)=some (aV Fo.b1 wd++QaQ "" (xs.map (aV Fo.b2))):=by
    have:=wL (F:=Fo) xs [];rw[Yg] at this;unfold fC;rw[this];show some (QaQ "" (aV Fo.b1 wd::(xs.map (aV Fo.b2)++[])))=_;rw[Yg,join_cons]
   rw[e] at q;exact q
end
structure nO (bk:List (Str×Str)):Prop where
 le:bk.length<=11
 fr:fE (bk.map (·.2))
 cd:∀q∈bk,1<=q.2.length/\q.2.length<=11
def jb (bk:List (Str×Str)):List (Key×V):=bk.map fun q=>(.inr q.2,.str q.1)
def nO.Za {bk:List (Str×Str)}(g:nO bk){i j:Nat}{q r:Str×Str}(hq:bk[i]? = some q)(hr:bk[j]? = some r){t:List Nat}(h1:sg q.2 <+: t)(h2:sg r.2 <+: t):i=j:=by
 obtain⟨hi,rfl⟩:=Jm.mp hq;obtain⟨hj,rfl⟩:=Jm.mp hr;have pw:∀a b (ha:a<bk.length) (hb:b<bk.length),a<b->RF bk[a].2 bk[b].2:=fun a b ha hb tP=>by
  have:=Uz.mp g.fr a b (by rw[Jc];exact ha) (by rw[Jc];exact hb) tP;rwa[Y9,Y9] at this
 rcases Qcl h1 h2 with z|z
 ·rcases Nat.lt_trichotomy i j with h|h|h
  ·exact absurd z (pw i j hi hj h).1
  ·exact h
  ·exact absurd z (pw j i hj hi h).2
 ·rcases Nat.lt_trichotomy i j with h|h|h
  ·exact absurd z (pw i j hi hj h).2
  ·exact h
  ·exact absurd z (pw j i hj hi h).1
def AY {α:Type}{f: α->Key×V}{k:Key}:∀{l:List α},(∀y∈l,(f y).1≠k)->gI (l.map f) k=none
 | [],_=>rfl
 | y::l,h=>by
  rw[J0,dP (h y Jn)];exact AY fun z hz=>h z (Jk _ hz)
def nO.code {bk:List (Str×Str)}(g:nO bk){i:Nat}{q:Str×Str}(hq:bk[i]? = some q):gI (jb bk) (.inr q.2)=some (.str q.1):=by
 have key:∀(l:List (Str×Str)),(∀r∈l,r.2=q.2->r=q)->q∈l->gI (l.map fun q=>((Qbb q.2:Key),V.str q.1)) (.inr q.2)=some (.str q.1):=by
  intro l
  induction l with
  | nil=>exact fun _ h=>nomatch h
  | cons y l ih=>
   intro hu hx;rw[J0]
   by_cases e:y.2=q.2
   ·rw[eB (by rw[e]),hu y Jn e]
   ·rw[dP (fun z=>e (QcO z))];exact ih (fun r hr=>hu r (Jk _ hr)) ((Jw.mp hx).resolve_left fun z=>e (by rw[z]))
 refine key bk (fun r hr e =>?_) (J2 hq);obtain⟨j,hj⟩:=J7.mp hr;have:=g.Za hj hq (t:=sg q.2) (by rw[e];exact Qda _) (Qda _);subst this;rw[hq] at hj;exact(Qao hj).symm
def jC (H:Hp)(v:V)(bk:List (Str×Str)):Prop:=pH fun(tp d lp:Gc) (ls:List Int)=>v = .ref tp/\H tp=some (.tup [.ref d,.ref lp])/\H d=some (.dK (jb bk))/\H lp=some (.lst (ls.map V.int))/\∀n,n∈ls ↔ ∃q∈bk,((q.2.length:Nat):Int)=n
def jC.same {H H':Hp}{v:V}{bk:List (Str×Str)}(h:jC H v bk)(s:ak H H'):jC H' v bk:=by
 obtain⟨tp,d,lp,ls,e,h1,h2,h3,h4⟩:=h;exact⟨tp,d,lp,ls,e,s _ _ h1,s _ _ h2,s _ _ h3,h4⟩
def Bu (K:Ja):Sp:=fun vs H Q _=>eM fun(w:V) (bk:List (Str×Str))=>vs=[w]/\Den K H (Ma (aQ bk)) w/\nO bk/\∀v H',ak H H'->jC H' v bk->Q v H'
def zQ {x:Str}{p q:Nat}(h1:p<=q)(h2:p<=x.length):sg (QaN x (some (p:Int)) (some (q:Int)))=((sg x).drop p).take (q-p):=by
 by_cases hq:q<=x.length
 ·have e:=Qd9 (x:=x) (i:=p) (j:=q) ⟨⋯,⋯,by rw[<-str_len];lia⟩;rw[eq_of_beq e];show(((sg x).drop (p:Int).toNat).take ((q:Int)-p).toNat).toArray.toList=_;rw[QdT,Uw,show((q:Int)-p).toNat=q-p by lia]
 ·have e:=Qd9 (x:=x) (i:=p) (j:=(x.length:Int)) ⟨⋯,⋯,by rw[<-str_len];lia⟩;have ov:QbN (some (p:Int)) (some (q:Int)) 1 x.length=QbN (some (p:Int)) (some ((x.length:Nat):Int)) 1 x.length:=by
   unfold QbN;dsimp only
   congr 1
   rw[if_neg (show ¬(q:Int)<0 by lia),if_neg (show ¬((x.length:Nat):Int)<0 by lia)];lia
  have e2:QaN x (some (p:Int)) (some (q:Int))=QaN x (some (p:Int)) (some ((x.length:Nat):Int)):=by
   unfold QaN;rw[ov]
  rw[e2,eq_of_beq e];show(((sg x).drop (p:Int).toNat).take ((x.length:Int)-p).toNat).toArray.toList=_;rw[QdT,Us,Us]
  ·rfl
  ·rw[Uv,<-str_len];lia
  ·rw[Uv,<-str_len];lia
section
variable {P:Qaf}{w:Qag}{K:Ja}{mg:Str->Option Fk}{base:Heap}{f:Gc}{fd:Qad}
def vt:aD ["book"] ["book"] (aj (top kf)):=⟨rfl,rfl,rfl,∅,rfl,∅,∅⟩
def KP (F:cj K "lookup_of" "lookup_of" (top kf) f fd)(T:Nm mg)(gB:mg "sorted" = none):aW P w K mg base d6 1 f fd ["book"] (Bu K):=by
 refine F.ok vt (fun vs H Q E h =>?_) (fun cW A outer s H vs Q E hr h =>?_)
 ·obtain⟨l,bk,rfl,_⟩:=h
  rfl
 obtain⟨w0,bk,rfl,hB,g,q⟩:=h;have eu:=hr.units;refine⟨_,(ag (au (dg (aa (IW rfl (bM (Nc:=["name", "code"]) (Fc:=[]) (js:=[])) (iY K (pv 0)) (jK (bR (bb (i:=0) (n:=2) ∅) (bR (bb (i:=1) (n:=2) ∅) gU bA cw) bA (dQ bA cw))) (fun _ _ _ _ _=>(tupK K 2 rfl (ay (ar (i:=0) (nA ["name", "code"]) rfl (Qae rfl)) (ay (ar (i:=1) (nA ["name", "code"]) rfl (Qae rfl)) bD)))) (fun _ _ _ _ _=>bP) (fun _ _ _ _ _=>(pv 1)) (fun _ _ _ _ _=>(pv 0))) (aa (av (BI rfl) rfl gB (by rfl) (aa (xj (Ej P w) rfl (bM (Nc:=["name", "code"]) (Fc:=[]) (js:=[])) (iY K (pv 0)) (jK (bR (bb (i:=0) (n:=2) ∅) (bR (bb (i:=1) (n:=2) ∅) gU bA cw) bA (dQ bA cw))) (fun _ _ _ _ _=>(tupK K 2 rfl (ay (ar (i:=0) (nA ["name", "code"]) rfl (Qae rfl)) (ay (ar (i:=1) (nA ["name", "code"]) rfl (Qae rfl)) bD)))) (fun _ _ _ _ _=>bP) (fun _ _ _ _ _=>(av (fK K) rfl T.n_len (by rfl) (aa (pv 1) ae)))) ae)) ae))))),?_⟩;have hB:Den K H (.tuple (bk.map fh)) w0:=hB;unfold Den at hB;obtain⟨l,vs,rfl,hl,hd⟩:=hB;have gle:=g.le;have vl:vs.length=bk.length:=by rw[<-Jc (f:=fh)];exact hd.len
 have Z9:∀{i:Nat} (hi:i<bk.length) {Hx:Hp},ak H Hx->∃tp,vs[i]? = some (.ref tp)/\bg K Hx tp [.str bk[i].1,.str bk[i].2]:=fun{i} hi {Hx} s=>by
  obtain⟨v,h1,h2⟩:=hd.get (i:=i) (d:=fh bk[i]) (by rw[Jj,Jd hi];rfl);obtain⟨tp,rfl,h3⟩:=h2.pair;exact⟨tp,h1,s.bZ h3⟩
 refine⟨_,rfl,l,rfl,⟨_,hl⟩,fun D hD =>?_⟩;refine⟨fun i m H'=>m=bk.length-i/\i<=bk.length/\H'=upd H D (.dK ((bk.take i).map fun q=>(.inr q.2,.str q.1))),⟨_,rfl,Um _,rfl⟩,?_⟩;rintro i m H' ⟨rfl,hi,rfl⟩;have sm:ak H (upd H D (.dK ((bk.take i).map fun q=>(.inr q.2,.str q.1)))):=bG hD _
 by_cases iL:i<bk.length
 ·obtain⟨tp,h1,h2⟩:=Z9 iL sm;refine .inr ⟨⟨_,_,sm.bZ hl,h1⟩,?_⟩;rintro x H2 ⟨rfl,hy⟩;have e:=hy _ (sm.bZ hl);rw[h1] at e;cases e;refine⟨tp,_,rfl,h2,rfl,_,_,rfl,_,_,rfl,rfl,?_⟩;dsimp only[N3];rw[if_pos rfl];refine⟨_,rfl,_,rfl,(bk.take i).map fun q=>(.inr q.2,.str q.1),.inr bk[i].2,aq,rfl,?_,bk.length-(i+1),⋯,rfl,iL,?_⟩
  ·rw[Jc,Uc];exact J6 (show min i bk.length<=1000 by lia) ∅
  ·rw[xN _ (AY fun y hy e =>?_),B1,cV iL,Ju]
   ·rfl
   ·obtain⟨j,hj,rfl⟩:=Ys.mp hy;rw[Uc] at hj;rw[List.getElem_take] at e;have e:(bk[j]'⋯).2=bk[i].2:=QcO e;have:=g.Za (i:=j) (j:=i) (Jd ⋯) (Jd iL) (t:=sg bk[i].2) (by rw[e];exact Qda _) (Qda _);lia
 have ei:i=bk.length:=by lia
 subst ei;refine .inl ⟨⟨_,sm.bZ hl,⋯⟩,?_⟩;rw[Yj] at sm ⊢;have s1:ak H (upd H D (.dK (jb bk))):=sm;refine⟨_,rfl,l,rfl,⟨_,s1.bZ hl⟩,fun S hS =>?_⟩;refine yr (N:=bk.length) (fun i H'=>∃D':List Int,H'=upd (upd H D (.dK (jb bk))) S (gO (Ej P w) S D')/\D'.Nodup/\D'.length<=i/\∀n,n∈D' ↔ ∃q∈bk.take i,((q.2.length:Nat):Int)=n) ⟨[],rfl,List.nodup_nil,Je _,fun n=>⟨(nofun),(fun⟨_,h,_⟩=>nomatch h)⟩⟩ ?_ ?_
 ·rintro i H2 Nx hi ⟨D',rfl,nd,hle,hm⟩ nx;have sm:ak H (upd (upd H D (.dK (jb bk))) S (gO (Ej P w) S D')):=s1.trans (bG hS _);obtain⟨tp,h1,h2⟩:=Z9 hi sm;refine⟨⟨_,_,sm.bZ hl,h1⟩,?_⟩;rintro x H3 ⟨rfl,hy⟩;have e:=hy _ (sm.bZ hl);rw[h1] at e;cases e;refine⟨tp,_,rfl,h2,rfl,_,_,rfl,_,_,rfl,rfl,?_⟩;have mm:∀{x:Int},x∈oneMore D' ((bk[i].2.length:Nat):Int)↔x∈D'\/x=((bk[i].2.length:Nat):Int):=fun{x}=>by
   unfold oneMore
   split
   ·rename_i hk;exact⟨.inl,fun h=>h.elim id fun z=>by rw[z];exact hk⟩
   ·rw[J9,Js]
  refine⟨_,rfl,_,_,rfl,⟨Jg (g.cd _ (Ud hi)).2 ∅,rfl⟩,D',((bk[i].2.length:Nat):Int),aq,rfl,⋯,nx _ ⟨oneMore D' ((bk[i].2.length:Nat):Int),B1,?_,?_,fun n =>?_⟩⟩
  ·unfold oneMore
   split
   ·exact nd
   ·rename_i hk;refine List.nodup_append.mpr ⟨nd,Yb.mpr ⟨by simp,List.nodup_nil⟩,fun a ha b hb e=>hk ?_⟩;rw[<-Js.mp hb,<-e];exact ha
  ·unfold oneMore
   split
   ·lia
   ·rw[Jp];show D'.length+1<=i+1;lia
  rw[mm,hm,cV hi];constructor
  ·rintro(⟨q,hq,e⟩|rfl)
   ·exact⟨q,Yo _ hq,e⟩
   ·exact⟨bk[i],Jz _ (Js.mpr rfl),rfl⟩
  ·rintro⟨q,hq,e⟩
   rcases J9.mp hq with hq|hq
   ·exact .inl ⟨q,hq,e⟩
   ·rw[Js.mp hq] at e;exact .inr e.symm
 ·rintro H2 ⟨D',rfl,nd,hle,hm⟩;have sm:ak H (upd (upd H D (.dK (jb bk))) S (gO (Ej P w) S D')):=s1.trans (bG hS _);refine⟨⟨_,sm.bZ hl,⋯⟩,S,D',rfl,aq,nd,⋯,fun ms lp H3 pm _ n3=>⟨by show 2<=M2;decide,fun tp H4 n4 =>?_⟩⟩;rw[Yj] at hm;have hSD:D≠S:=fun z=>by
   have hS:upd H D (.dK (jb bk)) S=none:=hS;rw[<-z,aq] at hS;cases hS
  refine q _ H4 (sm.trans (n3.same.trans n4.same)) ⟨tp,D,lp,ms,rfl,n4.at,n4.same _ _ (n3.same _ _ (by rw[ao hSD];exact aq)),n4.same _ _ n3.at,fun n =>?_⟩;rw[pm.mem_iff];exact hm n
end
def fY (l:List Nat):Nat:=l.foldl (fun n c=>2*n+(c-48)) 0
def iH (l:List Nat)(c:Nat):fY (l++[c])=2*fY l+(c-48):=by
 unfold fY;rw[List.foldl_append];rfl
def mB:∀(k n:Nat),fY (jx k n)=n%2^k
 | 0,n=>by rw[Nat.pow_zero,Nat.mod_one];rfl
 | k+1,n=>by
  unfold jx;rw[iH,mB k,Wf,Qej (2^k) 2,Nat.mod_mul];lia
def j9:∀(k n:Nat),∀c∈jx k n,c=48\/c=49
 | 0,_,_,h=>nomatch h
 | k+1,n,c,h=>by
  unfold jx at h
  rcases J9.mp h with h|h
  ·exact j9 k _ c h
  ·rw[Js.mp h];lia
def zM:Sp:=fun vs H Q _=>∃x:Str,vs=[.str x]/\sQ x/\x.length<=1000/\Q (.int (fY (sg x):Nat)) H
section
variable {P:Qaf}{w:Qag}{K:Ja}{mg:Str->Option Fk}{base:Heap}{f:Gc}{fd:Qad}{t3:Tok}
def fX:aD ["figures", "number", "figure"] ["figures"] (aj (top jO)):=⟨rfl,rfl,rfl,∅,rfl,∅,∅⟩
def LM (F:cj K "number_of" "number_of" (top jO) f fd)(T:Nm mg):aW P w K mg base d6 1 f fd ["figures"] zM:=by
 refine F.ok fX (fun vs H Q E h =>?_) (fun cW A outer s H vs Q E hr h =>?_)
 ·obtain⟨x,rfl,_⟩:=h
  rfl
 obtain⟨x,rfl,hb,hx,q⟩:=h;refine⟨_,(af (aB (i:=1) fX.nd rfl (Qae rfl) ah)
  (af (eQ Qay rfl (pM (pv 0)) (ar (i:=2) fX.nd rfl (Qae rfl)) (ag (aB (i:=1) fX.nd rfl (Qae rfl) (aE bX (aE qD ah (pv 1)) (bj VQ rfl T.n_int (by rfl) (aa (pv 2) ae))))))
  (ag (au (pv 1))))),?_⟩
 refine gn ?_;have hs:(sg x).length=x.cps.size:=rfl;refine⟨_,rfl,x,rfl,?_,?_⟩
 ·rw[Yw];intro c hc
  rcases hb c (by simpa using hc) with rfl|rfl<;>decide
 refine j3 (N:=x.cps.size) (fun i σ H'=>∃x2,σ=[some (.str x),some (.int (fY ((sg x).take i):Nat)),x2]/\H'=H) ⟨_,rfl,rfl⟩ ?_ ?_
 ·rintro i σ H' hi ⟨x2,rfl,rfl⟩;refine⟨hi,?_⟩;rintro y H2 ⟨rfl,hy⟩;have hc:(sg x)[i]? = some ((sg x)[i]'⋯):=Jd _;have e:=hy _ (by rw[<-U1];exact hc);subst e;refine gn ?_;have hcb:=hb _ (J2 hc);have De:=cV (l:=sg x) (i:=i) ⋯;generalize (sg x)[i]'⋯=c at hcb De;refine⟨_,rfl,.inl ⟨_,_,rfl,rfl,.inl ⟨∅,∅⟩,_,rfl,⟨#[c]⟩,((c-48:Nat):Int),rfl,?_,by show 1<=640;decide,.inl ⟨_,_,rfl,rfl,gn ⟨some (.str ⟨#[c]⟩),?_,rfl⟩⟩⟩⟩
  ·rcases hcb with rfl|rfl<;>decide +kernel
  ·rw[De,iH];show[_,some (V.int (2*((fY ((sg x).take i):Nat):Int)+((c-48:Nat):Int))),_]=[_,some (V.int ((2*fY ((sg x).take i)+(c-48):Nat):Int)),_]
   push_cast
   rfl
 ·rintro σ H' ⟨x2,rfl,rfl⟩;refine⟨Je _,_,rfl,?_⟩;rw[Us ⋯];exact q
end
structure HY (K:Ja)(C:Gc):Prop where
 c:zm K C
 n1:dI K C "kinds"
 n2:dI K C "spots"
 n3:dI K C "sizes"
 n4:dI K C "near"
 n5:dI K C "far"
def Ha {ns:List Str}{bk:List (Str×Str)}(h:dA ns (aQ bk)=true)(hl:bk.length<=11)(hs:∀q∈bk,q.2.length<=11):nO bk:=by
 unfold dA at h;rw[Jv,Jv] at h;obtain⟨h1,_,h3⟩:=h;obtain⟨_,hq⟩:=wU h1;have e:cX (gX (aQ bk))=bk:=jD bk;rw[e] at hq h3;refine⟨hl,@of_decide_eq_true _ (Qbv _) h3,fun q m=>⟨?_,hs q m⟩⟩;have h4:(!decide (V.str q.2=V.str (Wp ""))&&ij q.2 fG)=true:=(hq q m).2;rw[Jv,Cm] at h4;have h5:=h4.1
 by_cases z:q.2.length=0
 ·rw[decide_eq_true z] at h5;cases h5
 ·lia
def mh.Qs {F:Fb}(h:mh F):nO F.b1/\nO F.b2/\nO F.b3:=by
 obtain⟨h1,h2,h3⟩:=Ab h.g.why;have l1:=h.g.l1;have l2:=h.g.l2;have l3:=h.g.l3;exact⟨Ha h1 ⋯ fun q m=>(h.g.sz q (.inl m)).2.2.2,Ha h2 ⋯ fun q m=>(h.g.sz q (.inr (.inl m))).2.2.2,Ha h3 ⋯ fun q m=>(h.g.sz q (.inr (.inr m))).2.2.2⟩
def BD:∀{bk:List (Str×Str)} {x:Str},x∈bk.map (·.1)->(x,aV bk x)∈bk
 | q::r,x,h=>by
  unfold aV
  by_cases e:q.1=x
  ·rw[if_pos e,<-e];exact Jn
  ·rw[if_neg e];exact Jk _ (BD ((Jw.mp h).resolve_left fun z=>e z.symm))
def jC.put {H:Hp}{v:V}{bk:List (Str×Str)}{m C dx:Gc}{fs:List (Str×V)}{o:HO}(h:jC H v bk)(hm:H m=some (.ins C dx fs)):jC (upd H m o) v bk:=by
 obtain⟨tp,d,lp,ls,e,h1,h2,h3,h4⟩:=h;exact⟨tp,d,lp,ls,e,by rw[ao (rE h1 hm (nofun))];exact h1,by rw[ao (rE h2 hm (nofun))];exact h2,by rw[ao (rE h3 hm (nofun))];exact h3,h4⟩
def AV (CR:Gc)(H:Hp)(m:Gc)(F:Fb):Prop:=pH fun(dx:Gc) (w1 w2 w3:V)=>H m=some (.ins CR dx [("kinds",w1),("spots",w2),("sizes",w3),("near",.int (F.near:Nat)),("far",.int (F.dM:Nat))])/\jC H w1 F.b1/\jC H w2 F.b2/\jC H w3 F.b3
def AV.same {CR:Gc}{H H':Hp}{m:Gc}{F:Fb}(h:AV CR H m F)(s:ak H H'):AV CR H' m F:=by
 obtain⟨dx,w1,w2,w3,e,h1,h2,h3⟩:=h;exact⟨dx,w1,w2,w3,s _ _ e,h1.same s,h2.same s,h3.same s⟩
def Bv (K:Ja)(CF CR:Gc):Sp:=fun vs H Q _=>zR fun(H0:Hp) (m fm dx:Gc) (F:Fb)=>vs=[.ref m,.ref fm]/\ak H0 H/\H0 m=none/\H m=some (.ins CR dx [])/\nh K CF H0 fm F/\mh F/\∀H',ak H0 H'->AV CR H' m F->Q .non H'
def iG {t x:Str}{p:Nat}{y:List Nat}(h:(sg t).drop p=sg x++y)(hp:p<=t.length):p+x.length<=t.length/\(sg t).drop (p+x.length)=y:=by
 have hl:=congrArg QdH h;rw[Uv,Jp,<-str_len,<-str_len] at hl;refine⟨⋯,?_⟩;rw[<-List.drop_drop,h,List.drop_left'];exact(str_len x).symm
section
variable {P:Qaf}{w:Qag}{K:Ja}{mg:Str->Option Fk}{base:Heap}{f fi fp fn fb:Gc}{fd Cb QU RM NN:Qad}{CF C aP:Gc}
def qG:aD ["self", "form"] ["self", "form"] (aj (inClass (top aY) 0)):=⟨rfl,rfl,rfl,∅,rfl,∅,∅⟩
def Co (F:cj K "__init__" "Reader.__init__" (inClass (top aY) 0) f fd)(T:Nm mg)(MF:Gw K CF)(MR:HY K C)(jG:Fn P w K mg base 1 "lookup_of" ["book"] (Bu K)):aW P w K mg base d6 2 f fd ["self", "form"] (Bv K CF C):=by
 refine F.ok qG (fun vs H Q E h =>?_) (fun cW A outer s H vs Q E hr h =>?_)
 ·obtain⟨H0,m,fm,dx,Fo,rfl,_⟩:=h
  rfl
 obtain⟨H0,m,fm,dx,Fo,rfl,sm,nm,hm,fo,fr,q⟩:=h;obtain⟨dx',w1,w2,w3,w4,w5,ho,g1,g2,g3,g4,g5⟩:=fo;obtain⟨k1,k2,k3⟩:=fr.Qs;unfold Den at g4 g5;subst g4 g5;refine⟨_,(af (ia (pv 0) (aM (jG.mono ∅) hr rfl (aa (cR K (pv 1) rfl) ae)) rfl)
  (af (ia (pv 0) (aM (jG.mono ∅) hr rfl (aa (cR K (pv 1) rfl) ae)) rfl)
  (af (ia (pv 0) (aM (jG.mono ∅) hr rfl (aa (cR K (pv 1) rfl) ae)) rfl)
  (af (ia (pv 0) (cR K (pv 1) rfl) rfl)
  (ag (ia (pv 0) (cR K (pv 1) rfl) rfl)))))),?_⟩
 unfold HN Od;dsimp only;refine⟨_,rfl,fm,CF,dx',_,w1,rfl,sm _ _ ho,MF.c,MF.n1,rfl,w1,Fo.b1,rfl,g1.same sm,k1,fun v1 H1 s1 OZ =>?_⟩;have m1:=s1 _ _ hm;refine⟨_,rfl,m,C,dx,_,rfl,m1,MR.c,MR.n1,by show 0<1000;decide,?_⟩;have t1:ak H0 (upd H1 m (.ins C dx [("kinds",v1)])):=jd (sm.trans s1) nm;have OZ:jC (upd H1 m (.ins C dx [("kinds",v1)])) v1 Fo.b1:=OZ.put m1;refine⟨_,rfl,fm,CF,dx',_,w2,rfl,t1 _ _ ho,MF.c,MF.n2,rfl,w2,Fo.b2,rfl,g2.same t1,k2,fun v2 H2 s2 Tg =>?_⟩;have m2:=s2 _ _ aq;refine⟨_,rfl,m,C,dx,_,rfl,m2,MR.c,MR.n2,by show 1<1000;decide,?_⟩;have t2:ak H0 (upd H2 m (.ins C dx [("kinds",v1),("spots",v2)])):=jd (t1.trans s2) nm;have OZ:jC (upd H2 m (.ins C dx [("kinds",v1),("spots",v2)])) v1 Fo.b1:=(OZ.same s2).put m2;have Tg:jC (upd H2 m (.ins C dx [("kinds",v1),("spots",v2)])) v2 Fo.b2:=Tg.put m2;refine⟨_,rfl,fm,CF,dx',_,w3,rfl,t2 _ _ ho,MF.c,MF.n3,rfl,w3,Fo.b3,rfl,g3.same t2,k3,fun v3 H3 s3 Ze =>?_⟩;have m3:=s3 _ _ aq;refine⟨_,rfl,m,C,dx,_,rfl,m3,MR.c,MR.n3,by show 2<1000;decide,?_⟩;have t3:ak H0 (upd H3 m (.ins C dx [("kinds",v1),("spots",v2),("sizes",v3)])):=jd (t2.trans s3) nm;have OZ:jC (upd H3 m (.ins C dx [("kinds",v1),("spots",v2),("sizes",v3)])) v1 Fo.b1:=(OZ.same s3).put m3;have Tg:jC (upd H3 m (.ins C dx [("kinds",v1),("spots",v2),("sizes",v3)])) v2 Fo.b2:=(Tg.same s3).put m3;have Ze:jC (upd H3 m (.ins C dx [("kinds",v1),("spots",v2),("sizes",v3)])) v3 Fo.b3:=Ze.put m3;refine⟨_,rfl,fm,CF,dx',_,_,rfl,t3 _ _ ho,MF.c,MF.n4,rfl,_,rfl,m,C,dx,_,rfl,aq,MR.c,MR.n4,by show 3<1000;decide,?_⟩;have t4:=jd (o := .ins C dx (jJ "near" (.int (Fo.near:Nat)) [("kinds",v1),("spots",v2),("sizes",v3)])) t3 nm;refine⟨_,rfl,fm,CF,dx',_,_,rfl,t4 _ _ ho,MF.c,MF.n5,rfl,_,rfl,m,C,dx,_,rfl,aq,MR.c,MR.n5,by show 4<1000;decide,?_⟩;refine q _ (jd t4 nm) ⟨dx,v1,v2,v3,aq,(OZ.put aq).put aq,(Tg.put aq).put aq,(Ze.put aq).put aq⟩
end
def Ge:Fk->Str
 | .str x _=>x
 | _ => "?"
def tT {Pm:Params}{P:Qaf}{w:Qag}:∀{l:List QdC},Qc8 Pm l->Pairs (QdS P w) l (l.map fun e=>(Ge e.key,e.val))
 | [],_ =>.nil
 | e::l,h=>by
  obtain⟨⟨x,t,e1,_⟩,h2⟩:=h;refine .cons ?_ rfl (tT h2);show(QdS P w).is (Ge e.key) e.key=true;rw[e1];exact PySem.strKind_is P w x t
def xJ {l:List QdC}:(l.map fun e=>(Ge e.key,e.val)).map (·.1)=l.map fun e=>Ge e.key:=by rw[Yn];rfl
def Kd (bk:List (Str×Str))(t:Str)(p:Nat):Option (Str×Str):=bk.find? fun q=>(sg q.2).isPrefixOf ((sg t).drop p)
def nameA (bk:List (Str×Str))(t:Str)(p:Nat):Option (Str×Nat):=(Kd bk t p).map fun q=>(q.1,p+q.2.length)
def ou (a t:Str)(p k:Nat):Option (Nat×Nat):=if (((sg t).drop p).take k).length=k/\(((sg t).drop p).take k).all fG.cps.contains=true then some (fY (sg a++((sg t).drop p).take k),p+k) else none
def qR (t:Str)(p:Nat):Option (Nat×Nat):=(ou "" t p 3).bind fun r=>if ((sg t).drop r.2).take r.1=Jt r.1 48 then some (r.1,r.2+r.1) else none
def tL (t:Str)(p k:Nat):Option (Int×Nat):=(ou "" t p k).map fun r=>(if (2:Int)^(k-1)<=(r.1:Nat) then ((r.1:Nat):Int)-2^k else ((r.1:Nat):Int),r.2)
def Ea (x:Str)(t:Str)(e:Nat):Option (Nat×Nat):=if aN.idxOf x=0 then some (0,e) else ou "1" t e (aN.idxOf x-1)
def Ap (bk:List (Str×Str))(t:Str)(p:Nat):Option (Nat×Nat):=(nameA bk t p).bind fun r=>Ea r.1 t r.2
def hM (F:Fb)(k t:Str)(p:Nat):Option (Arg×Nat):=
 if k = "spot" then (nameA F.b2 t p).map fun r=>(.sp r.1,r.2)
 else if k = "number" then (Ap F.b3 t p).map fun r=>(.nu r.1,r.2)
 else if k = "many" then (qR t p).map fun r=>(.ma r.1,r.2)
 else if k = "near" then (tL t p F.near).map fun r=>(.ne r.1,r.2)
 else (tL t p F.dM).map fun r=>(.fa r.1,r.2)
def bV (F:Fb):List Str->Str->Nat->Option (List Arg×Nat)
 | [],_,p=>some ([],p)
 | k::ks,t,p=>(hM F k t p).bind fun r=>(bV F ks t r.2).map fun z=>(r.1::z.1,z.2)
def ql (w:Str):List Str:=match fe.find? fun q=>q.1==w with
 | some q=>q.2
 | none=>[]
def tQ (F:Fb)(t:Str)(p:Nat):Option ((Str×List Arg)×Nat):=(nameA F.b1 t p).bind fun r=>(bV F (ql r.1) t r.2).map fun z=>((r.1,z.1),z.2)
def EJ (o:Option (V×Nat))(p:Nat):List V:=match o with
 | none=>[.non,.int (p:Nat)]
 | some r=>[r.1,.int (r.2:Nat)]
def ko {bk:List (Str×Str)}{t:Str}{p:Nat}{q:Str×Str}(h:Kd bk t p=some q):q∈bk/\sg q.2 <+: (sg t).drop p:=
 ⟨List.mem_of_find?_eq_some h,List.isPrefixOf_iff_prefix.mp (List.find?_some (p:=fun q:Str×Str=>(sg q.2).isPrefixOf ((sg t).drop p)) h)⟩
def LP {bk:List (Str×Str)}{t:Str}{p:Nat}(h:Kd bk t p=none):∀q∈bk,¬sg q.2 <+: (sg t).drop p:=fun q hq hp=>by
 have:=List.find?_eq_none.mp h q hq;exact this (List.isPrefixOf_iff_prefix.mpr hp)
def ID {bk:List (Str×Str)}(g:nO bk){t:Str}{p:Nat}{q:Str×Str}(hq:q∈bk)(hp:sg q.2 <+: (sg t).drop p):Kd bk t p=some q:=by
 cases e:Kd bk t p with
 | none=>exact absurd hp (LP e q hq)
 | some r=>
  obtain⟨hr,zu⟩:=ko e;obtain⟨i,hi⟩:=J7.mp hq;obtain⟨j,hj⟩:=J7.mp hr;have:=g.Za hi hj hp zu;subst this;rw[hi] at hj;exact hj.symm
def Qb {bk:List (Str×Str)}{t:Str}{p:Nat}{q:Str×Str}(hp:p<=t.length)(h:Kd bk t p=some q):p+q.2.length<=t.length:=by
 have:=(ko h).2.length_le;rw[Uv,<-str_len,<-str_len] at this;lia
def mG {bk:List (Str×Str)}{t:Str}{p:Nat}{r:Str×Nat}(hp:p<=t.length)(h:nameA bk t p=some r):r.2<=t.length:=by
 unfold nameA at h;obtain⟨q,e,rfl⟩:=Option.map_eq_some_iff.mp h;exact Qb hp e
def pX {a t:Str}{p k:Nat}{r:Nat×Nat}(hp:p<=t.length)(h:ou a t p k=some r):r.2=p+k/\p+k<=t.length:=by
 unfold ou at h
 split at h
 ·rename_i c;cases h;have:=c.1;rw[Uc,Uv,<-str_len] at this;exact⟨rfl,⋯⟩
 ·cases h
def F0 (K:Ja):Sp:=fun vs H Q _=>Ka fun(d lp:Gc) (ls:List Int) (bk:List (Str×Str)) (t:Str) (p:Nat)=>vs=[.ref d,.ref lp,.str t,.int (p:Nat)]/\H d=some (.dK (jb bk))/\aX K H lp (ls.map V.int)/\(∀n,n∈ls ↔ ∃q∈bk,((q.2.length:Nat):Int)=n) /\
 nO bk/\p<=t.length/\t.length<=1000000/\Q (.str (match Kd bk t p with|some q=>q.2|none => "")) H
def yb (K:Ja):Sp:=fun vs H Q _=>pH fun(v:V) (bk:List (Str×Str)) (t:Str) (p:Nat)=>vs=[v,.str t,.int (p:Nat)]/\jC H v bk/\nO bk/\p<=t.length/\t.length<=1000000 /\
 ∀tp H',ak H H'->bg K H' tp (EJ ((nameA bk t p).map fun r=>(.str r.1,r.2)) p)->Q (.ref tp) H'
def yC (K:Ja):Sp:=fun vs H Q _=>pH fun(a t:Str) (p k:Nat)=>vs=[.str a,.str t,.int (p:Nat),.int (k:Nat)]/\sQ a/\a.length<=1/\k<=60/\p<=t.length/\t.length<=1000000 /\
 ∀tp H',ak H H'->bg K H' tp (EJ ((ou a t p k).map fun r=>(.int (r.1:Nat),r.2)) p)->Q (.ref tp) H'
def G1 (K:Ja):Sp:=fun vs H Q _=>eM fun(t:Str) (p:Nat)=>vs=[.str t,.int (p:Nat)]/\p<=t.length/\t.length<=1000000 /\
 ∀tp H',ak H H'->bg K H' tp (EJ ((qR t p).map fun r=>(.int (r.1:Nat),r.2)) p)->Q (.ref tp) H'
def Gq (K:Ja):Sp:=fun vs H Q _=>sF fun(t:Str) (p k:Nat)=>vs=[.str t,.int (p:Nat),.int (k:Nat)]/\1<=k/\k<=60/\p<=t.length/\t.length<=1000000 /\
 ∀tp H',ak H H'->bg K H' tp (EJ ((tL t p k).map fun r=>(.int r.1,r.2)) p)->Q (.ref tp) H'
section
variable {P:Qaf}{w:Qag}{K:Ja}{mg:Str->Option Fk}{base:Heap}{f:Gc}{fd:Qad}{t3:Tok}
def lT:aD ["names_by_code", "lengths", "text", "place", "length", "code"] ["names_by_code", "lengths", "text", "place"] (aj (top ox)):=⟨rfl,rfl,rfl,∅,rfl,∅,∅⟩
def OS (F:cj K "code_at" "code_at" (top ox) f fd)(T:Nm mg):aW P w K mg base d6 1 f fd ["names_by_code", "lengths", "text", "place"] (F0 K):=by
 refine F.ok lT (fun vs H Q E h =>?_) (fun cW A outer s H vs Q E hr h =>?_)
 ·obtain⟨d,lp,ls,bk,t,p,rfl,_⟩:=h
  rfl
 obtain⟨d,lp,ls,bk,t,p,rfl,hd,hl,hm,g,hp,ht,q⟩:=h;have hu:=kO hr;refine⟨_,(af (eQ Qay rfl (Kf K (pv 1)) (ar (i:=4) lT.nd rfl (Qae rfl)) (af (aB (i:=5) lT.nd rfl (Qae rfl) (cT (QA K) (pv 2) (cx (pv 3)) (cx (aE bX (pv 3) (pv 4)))))
  (ag (bf (N9 (Ph hu (pv 5) (pv 0))) (ag (au (pv 5))) aF))))
  (ag (au aw))),?_⟩
 have hz:t.length<=M2:=Jg ht ∅;refine dJ (t:=An _ _ _) (fun σ H'=>Kd bk t p=none/\H'=H) (fun Nx nx =>?_) ?_
 ·refine⟨_,rfl,lp,rfl,⟨_,hl⟩,?_⟩;refine j3 (N:=ls.length) (fun i σ H'=>∃x4 x5:Option V,σ=[some (.ref d),some (.ref lp),some (.str t),some (.int (p:Nat)),x4,x5]/\H'=H/\∀q∈bk,((q.2.length:Nat):Int)∈ls.take i->¬sg q.2 <+: (sg t).drop p) ⟨_,_,rfl,rfl,fun _ _ h=>nomatch h⟩ ?_ ?_
  ·rintro i σ H2 hi ⟨x4,x5,rfl,rfl,MS⟩;have hv:(ls.map V.int)[i]? = some (.int ls[i]):=by rw[Jj,Jd hi];rfl
   refine⟨⟨_,_,hl,hv⟩,?_⟩;rintro x H3 ⟨rfl,hy⟩;have e:=hy _ hl;rw[hv] at e;cases e;obtain⟨r0,hr0,er⟩:=(hm ls[i]).mp (Ud hi);generalize hL:ls[i]=L at er ⊢;obtain⟨m,rfl⟩:∃m:Nat,L=m:=⟨r0.2.length,er.symm⟩
   refine gn ?_;refine⟨_,rfl,_,rfl,_,rfl,_,rfl,_,rfl,.inl ⟨_,_,rfl,rfl,_,rfl,.inr ⟨t,rfl,hz,gn ?_⟩⟩⟩;have LL:sg (QaN t (some (p:Int)) (some ((p:Int)+(m:Int))))=((sg t).drop p).take m:=by
    rw[show((p:Int)+(m:Int))=((p+m:Nat):Int) by lia,zQ (Ul _ _) hp]
    congr 1
    lia
   generalize QaN t (some (p:Int)) (some ((p:Int)+(m:Int)))=c at LL ⊢
   by_cases hc:∃r∈bk,r.2=c
   ·obtain⟨r,hr,rfl⟩:=hc;obtain⟨ir,hir⟩:=J7.mp hr;refine⟨_,rfl,_,rfl,d,_,rfl,.inl ⟨_,.inr r.2,.inl hd,rfl,rfl⟩,?_⟩;rw[g.code hir];refine⟨_,rfl,bL ⟨_,rfl,?_⟩⟩;rw[ID g hr (by rw[LL];exact List.take_prefix _ _)] at q;exact q
   ·refine⟨_,rfl,_,rfl,d,_,rfl,.inl ⟨_,.inr c,.inl hd,rfl,rfl⟩,?_⟩;have hn:gI (jb bk) (.inr c)=none:=AY (f:=fun q:Str×Str=>((.inr q.2:Key),V.str q.1)) fun y hy e=>hc ⟨y,hy,by injection e⟩;rw[hn];refine⟨_,rfl,bF ⟨_,_,rfl,rfl,fun q0 o jv =>?_⟩⟩;rw[cV hi,hL] at jv
    rcases J9.mp jv with h|h
    ·exact MS _ o h
    ·have hlen:q0.2.length=m:=by have:=Js.mp h;lia
     intro vR;refine hc ⟨q0,o,eZ ?_⟩;show sg q0.2=sg c;rw[LL,<-hlen,str_len];exact List.prefix_iff_eq_take.mp vR
  ·rintro σ H2 ⟨x4,x5,rfl,rfl,MS⟩;rw[Yj] at MS;refine⟨⟨_,hl,by rw[Jc];exact Je _⟩,nx _ _ ⟨?_,rfl⟩⟩;cases e:Kd bk t p with
   | none=>rfl
   | some q0=>
    obtain⟨o,vR⟩:=ko e;exact absurd vR (MS _ o ((hm _).mpr ⟨q0,o,rfl⟩))
 ·rintro σ H' ⟨e,rfl⟩;rw[e] at q;exact q
def fZ:aD ["lookup", "text", "place", "names_by_code", "lengths", "code"] ["lookup", "text", "place"] (aj (top jT)):=⟨rfl,rfl,rfl,∅,rfl,∅,∅⟩
def Nv (F:cj K "name_from" "name_from" (top jT) f fd)(T:Nm mg)(EO:Fn P w K mg base 1 "code_at" ["names_by_code", "lengths", "text", "place"] (F0 K)):aW P w K mg base d6 2 f fd ["lookup", "text", "place"] (yb K):=by
 refine F.ok fZ (fun vs H Q E h =>?_) (fun cW A outer s H vs Q E hr h =>?_)
 ·obtain⟨v,bk,t,p,rfl,_⟩:=h
  rfl
 obtain⟨v,bk,t,p,rfl,⟨tp,d,lp,ls,rfl,h1,h2,h3,h4⟩,g,hp,ht,q⟩:=h;have hu:=kO hr;have eu:=hr.units;refine⟨_,(af (hW (pv 0) (tupK K 2 rfl (ay (ar (i:=3) fZ.nd rfl (Qae rfl)) (ay (ar (i:=4) fZ.nd rfl (Qae rfl)) bD))))
  (af (aB (i:=5) fZ.nd rfl (Qae rfl) (aM (EO.mono ∅) hr rfl (aa (pv 3) (aa (pv 4) (aa (pv 1) (aa (pv 2) ae))))))
  (af (bf (aK (tm K eu) (pv 5) aw (aO _)) (ag (au (dg (aa cf (aa (pv 2) ae))))) aF)
  (ag (au (dg (aa (bU hu (pv 3) (pv 5) (fun _ _=>rfl)) (aa (aE bX (pv 2) (av (fK K) rfl T.n_len (by rfl) (aa (pv 5) ae))) ae)))))))),?_⟩
 refine⟨_,rfl,tp,_,rfl,bg.of h1,rfl,_,_,rfl,_,_,rfl,rfl,?_⟩;refine⟨_,rfl,_,rfl,_,rfl,_,rfl,d,lp,ls,bk,t,p,rfl,h2,aX.of h3,h4,g,hp,ht,gn ?_⟩;unfold nameA at q;cases e:Kd bk t p with
 | none=>
  rw[e] at q;refine⟨_,rfl,.inl ⟨rfl,_,rfl,rB ?_⟩⟩;exact⟨_,rfl,by show 2<=M2;decide,fun tq H5 n5=>q tq H5 n5.same (bg.of n5.at)⟩
 | some q0=>
  rw[e] at q;obtain⟨o,vR⟩:=ko e;obtain⟨iq,hiq⟩:=J7.mp o;have c1:=g.cd _ o;refine⟨_,rfl,.inl ⟨rfl,_,rfl,fI ?_ ?_⟩⟩
  ·refine⟨_,rfl,_,rfl,d,_,rfl,by rw[<-g.code hiq];exact d7.k (k := .inr q0.2) h2,?_⟩;refine⟨_,rfl,_,rfl,_,_,rfl,⟨Jg c1.2 ∅,rfl⟩,.inl ⟨_,_,rfl,rfl,by show 2<=M2;decide,fun tq H5 n5 =>?_⟩⟩;exact q tq H5 n5.same (bg.of n5.at)
  ·refine beq_eq_false_iff_ne.mpr fun z =>?_;have z:q0.2 = "":=z;rw[z] at c1;exact absurd c1.1 ∅
def jt:aD ["ahead", "text", "place", "many", "figures"] ["ahead", "text", "place", "many"] (aj (top gh)):=⟨rfl,rfl,rfl,∅,rfl,∅,∅⟩
def Qi (F:cj K "figures_from" "figures_from" (top gh) f fd)(T:Nm mg)(kz:mg "SIGNS" = some (.str fG t3))(iy:Fn P w K mg base 1 "made_of" ["text", "signs"] rp)(y2:Fn P w K mg base 1 "number_of" ["figures"] zM):aW P w K mg base d6 2 f fd ["ahead", "text", "place", "many"] (yC K):=by
 refine F.ok jt (fun vs H Q E h =>?_) (fun cW A outer s H vs Q E hr h =>?_)
 ·obtain⟨a,t,p,k,rfl,_⟩:=h
  rfl
 obtain⟨a,t,p,k,rfl,ha,FP,hk,hp,ht,q⟩:=h;have eu:=hr.units;have hz:t.length<=M2:=Jg ht ∅;refine⟨_,(af (aB (i:=4) jt.nd rfl (Qae rfl) (cT (QA K) (pv 1) (cx (pv 2)) (cx (aE bX (pv 2) (pv 3)))))
  (af (bf (PW.pt (mZ (aK (KJ K eu) (av (fK K) rfl T.n_len (by rfl) (aa (pv 4) ae)) (pv 3) (aO _)) (kh (eJ (cN (aM (iy.mono ∅) hr rfl (aa (pv 4) (aa (uZ rfl kz) ae)))))))) (ag (au (dg (aa cf (aa (pv 2) ae))))) aF)
  (ag (au (dg (aa (aM (y2.mono ∅) hr rfl (aa (aE bX (pv 0) (pv 4)) ae)) (aa (aE bX (pv 2) (pv 3)) ae))))))),?_⟩
 refine⟨_,rfl,_,rfl,_,rfl,_,rfl,_,rfl,.inl ⟨_,_,rfl,rfl,_,rfl,.inr ⟨t,rfl,hz,gn ?_⟩⟩⟩;have LL:sg (QaN t (some (p:Int)) (some ((p:Int)+(k:Int))))=((sg t).drop p).take k:=by
  rw[show((p:Int)+(k:Int))=((p+k:Nat):Int) by lia,zQ (Ul _ _) hp]
  congr 1
  lia
 unfold ou at q;rw[<-LL,<-kY,<-str_len] at q;generalize QaN t (some (p:Int)) (some ((p:Int)+(k:Int)))=c at LL q ⊢;have Aj:c.length<=k:=by rw[str_len];show(sg c).length<=k;rw[LL];exact List.length_take_le _ _
 refine⟨_,rfl,_,_,rfl,⟨Jg (Jg Aj hk) ∅,rfl⟩,_,rfl,.inl ⟨rfl,_,rfl,?_⟩⟩
 by_cases hl:c.length=k
 ·rw[decide_eq_true (show V.int ((c.length:Nat):Int)=V.int (k:Nat) by rw[hl])];refine bF ?_;refine⟨_,rfl,c,fG,rfl,Jg (Jg Aj hk) ∅,?_⟩;cases hm:ij c fG with
  | true=>
   rw[if_pos ⟨hl,hm⟩] at q;refine⟨_,rfl,bF ?_⟩;dsimp only[ck];refine⟨_,rfl,_,rfl,.inr (.inl ⟨_,_,rfl,rfl,?_,?_⟩)⟩
   ·exact Jg (show a.length+c.length<=61 by lia) ∅
   have hb:sQ (a++c):=fun x hx=>by
    rw[aH] at hx
    rcases J9.mp hx with h|h
    ·exact ha x h
    ·rw[kY,Yr] at hm;have:=hm x h;rw[show fG.cps = #[48,49] by decide +kernel] at this;simpa using this
   refine⟨a++c,rfl,hb,by rw[QaH];lia,_,rfl,_,rfl,.inl ⟨_,_,rfl,rfl,by show 2<=M2;decide,fun tp H5 n5 =>?_⟩⟩;refine q tp H5 n5.same ?_;have:=bg.of (K:=K) n5.at;rw[show sg (a++c)=sg a++sg c from aH _ _] at this;exact this
  | false=>
   rw[if_neg (fun z=>by rw[hm] at z;exact absurd z.2 ∅)] at q;refine⟨_,rfl,bL ?_⟩;exact⟨_,rfl,by show 2<=M2;decide,fun tq H5 n5=>q tq H5 n5.same (bg.of n5.at)⟩
 ·rw[decide_eq_false (show ¬V.int ((c.length:Nat):Int)=V.int (k:Nat) from fun z=>hl (by injection z with z;lia))];rw[if_neg (fun z=>hl z.1)] at q;refine bL ?_;exact⟨_,rfl,by show 2<=M2;decide,fun tq H5 n5=>q tq H5 n5.same (bg.of n5.at)⟩
end
def Ll:∀{l:List Nat},(∀c∈l,c=48\/c=49)->fY l<2^l.length:=by
 intro l
 induction hn:l.length generalizing l with
 | zero=>
  intro _;rw[List.length_eq_zero_iff.mp hn];exact Nat.one_pos
 | succ n ih=>
  intro h;obtain⟨m,c,rfl⟩:∃m c,l=m++[c]:=⟨l.dropLast,l.getLast (by rintro rfl;cases hn),(List.dropLast_concat_getLast _).symm⟩
  rw[Jp] at hn;have hm:m.length=n:=Qe3 hn;have i1:=ih hm fun x hx=>h x (Yo _ hx);rw[iH,Wf]
  rcases h c (Jz _ (Js.mpr rfl)) with rfl|rfl<;>lia
def M6 {t:Str}{p k:Nat}{r:Nat×Nat}(h:ou "" t p k=some r):r.1<2^k:=by
 unfold ou at h
 split at h
 ·rename_i c;cases h;have:=Ll (l:=((sg t).drop p).take k) fun x hx=>by
   have:=Yr.mp c.2 x hx;rw[show fG.cps = #[48,49] by decide +kernel] at this;simpa using this
  rwa[c.1] at this
 ·cases h
def yX {n:Nat}{c:Str}(hn:n<8):(c=QbW (Wp "0") (n:Nat))↔sg c=Jt n 48:=by
 have key:∀n,n<8->sg (QbW (Wp "0") (n:Nat))=Jt n 48:=∅;rw[<-key n hn];exact⟨fun h=>by rw[h],fun h=>eZ h⟩
section
variable {P:Qaf}{w:Qag}{K:Ja}{mg:Str->Option Fk}{base:Heap}{f:Gc}{fd:Qad}{t3:Tok}
def ja:aD ["text", "place", "many", "end"] ["text", "place"] (aj (top kj)):=⟨rfl,rfl,rfl,∅,rfl,∅,∅⟩
def OC (F:cj K "many_from" "many_from" (top kj) f fd)(T:Nm mg)(cI:mg "SKIP_FIGURES" = some (.int 3 t3))(dj:Fn P w K mg base 2 "figures_from" ["ahead", "text", "place", "many"] (yC K)):aW P w K mg base d6 3 f fd ["text", "place"] (G1 K):=by
 refine F.ok ja (fun vs H Q E h =>?_) (fun cW A outer s H vs Q E hr h =>?_)
 ·obtain⟨t,p,rfl,_⟩:=h
  rfl
 obtain⟨t,p,rfl,hp,ht,q⟩:=h;have hu:=kO hr;have eu:=hr.units;have hz:t.length<=M2:=Jg ht ∅;refine⟨_,(af (hW (aM (dj.mono ∅) hr rfl (aa aw (aa (pv 0) (aa (pv 1) (aa (kB rfl cI) ae))))) (tupK K 2 rfl (ay (ar (i:=2) ja.nd rfl (Qae rfl)) (ay (ar (i:=3) ja.nd rfl (Qae rfl)) bD))))
  (af (bf (PW.pt (mZ (aK tE (pv 2) cf (aO _)) (kh (aK (KJ K eu) (cT (QA K) (pv 0) (cx (pv 3)) (cx (aE bX (pv 3) (pv 2)))) (aE Ni aw (pv 2)) (aO _))))) (ag (au (dg (aa cf (aa (pv 1) ae))))) aF)
  (ag (au (dg (aa (pv 2) (aa (aE bX (pv 3) (pv 2)) ae))))))),?_⟩
 refine⟨_,rfl,_,rfl, "",t,p,3,rfl,(fun _ h=>nomatch h),∅,∅,hp,ht,fun tp H1 s1 h1 =>?_⟩;unfold qR at q;cases e:ou "" t p 3 with
 | none=>
  rw[e] at h1 q;refine⟨tp,_,rfl,h1,rfl,_,_,rfl,_,_,rfl,rfl,?_⟩;refine⟨_,rfl,.inl ⟨rfl,_,rfl,?_⟩⟩;rw[decide_eq_true rfl];refine bL (bL ?_);exact⟨_,rfl,by show 2<=M2;decide,fun tq H5 n5=>q tq H5 (s1.trans n5.same) (bg.of n5.at)⟩
 | some r=>
  rw[e] at h1 q;obtain⟨e1,e2⟩:=pX hp e;have hr8:r.1<8:=M6 e;refine⟨tp,_,rfl,h1,rfl,_,_,rfl,_,_,rfl,rfl,?_⟩;refine⟨_,rfl,.inl ⟨rfl,_,rfl,?_⟩⟩;rw[decide_eq_false (nofun)];refine bF ?_;have ZC:r.2<=t.length:=by lia
  refine⟨_,rfl,_,rfl,_,rfl,_,rfl,_,rfl,.inl ⟨_,_,rfl,rfl,_,rfl,.inr ⟨t,rfl,hz,?_⟩⟩⟩;have LL:sg (QaN t (some (r.2:Int)) (some ((r.2:Int)+(r.1:Int))))=((sg t).drop r.2).take r.1:=by
   rw[show((r.2:Int)+(r.1:Int))=((r.2+r.1:Nat):Int) by lia,zQ (Ul _ _) ZC]
   congr 1
   lia
  have q:∀tp H',ak H H'->bg K H' tp (EJ ((if ((sg t).drop r.2).take r.1=Jt r.1 48 then some (r.1,r.2+r.1) else none).map fun r=>(V.int (r.1:Nat),r.2)) p)->Q (.ref tp) H':=q;rw[<-LL] at q;dsimp only;generalize QaN t (some (r.2:Int)) (some ((r.2:Int)+(r.1:Int)))=c at q ⊢;refine⟨_,rfl,.inr ⟨_,_,rfl,rfl,j4 ∅ ⋯ ⋯,?_⟩⟩;refine .inl ⟨rfl,?_⟩;have ee:=yX (c:=c) hr8
  by_cases hc:c=QbW (Wp "0") (r.1:Nat)
  ·rw[if_pos (ee.mp hc)] at q;rw[decide_eq_true (show V.str c=V.str (QbW (Wp "0") (r.1:Nat)) by rw[hc])];refine⟨_,rfl,bF ?_⟩;refine⟨_,rfl,_,rfl,_,rfl,.inl ⟨_,_,rfl,rfl,by show 2<=M2;decide,fun tq H5 n5=>q tq H5 (s1.trans n5.same) (bg.of n5.at)⟩⟩
  ·rw[if_neg (fun z=>hc (ee.mpr z))] at q;rw[decide_eq_false (show ¬V.str c=V.str (QbW (Wp "0") (r.1:Nat)) from fun z=>hc (by injection z))];refine⟨_,rfl,bL ?_⟩;exact⟨_,rfl,by show 2<=M2;decide,fun tq H5 n5=>q tq H5 (s1.trans n5.same) (bg.of n5.at)⟩
def dC:aD ["text", "place", "many", "number", "end"] ["text", "place", "many"] (aj (top fF)):=⟨rfl,rfl,rfl,∅,rfl,∅,∅⟩
def Ol (F:cj K "distance_from" "distance_from" (top fF) f fd)(T:Nm mg)(iD:Fn P w K mg base 1 "two_to" ["power"] o6)(dj:Fn P w K mg base 2 "figures_from" ["ahead", "text", "place", "many"] (yC K)):aW P w K mg base d6 3 f fd ["text", "place", "many"] (Gq K):=by
 refine F.ok dC (fun vs H Q E h =>?_) (fun cW A outer s H vs Q E hr h =>?_)
 ·obtain⟨t,p,k,rfl,_⟩:=h
  rfl
 obtain⟨t,p,k,rfl,k1,k2,hp,ht,q⟩:=h;have eu:=hr.units;refine⟨_,(af (hW (aM (dj.mono ∅) hr rfl (aa aw (aa (pv 0) (aa (pv 1) (aa (pv 2) ae))))) (tupK K 2 rfl (ay (ar (i:=3) dC.nd rfl (Qae rfl)) (ay (ar (i:=4) dC.nd rfl (Qae rfl)) bD))))
  (af (bf (aK tE (pv 3) cf (aO _)) (ag (au (dg (aa cf (aa (pv 1) ae))))) aF)
  (af (bf (aK Ik (pv 3) (aM (iD.mono ∅) hr rfl (aa (aE jL (pv 2) ah) ae)) (aO _)) (ag (vi (i:=3) dC.nd rfl (Qae rfl) (aM (iD.mono ∅) hr rfl (aa (pv 2) ae)) PB)) aF)
  (ag (au (dg (aa (pv 3) (aa (pv 4) ae)))))))),?_⟩
 refine⟨_,rfl,_,rfl,_,rfl, "",t,p,k,rfl,(fun _ h=>nomatch h),∅,⋯,hp,ht,fun tp H1 s1 h1 =>?_⟩;unfold tL at q;cases e:ou "" t p k with
 | none=>
  rw[e] at h1 q;refine⟨tp,_,rfl,h1,rfl,_,_,rfl,_,_,rfl,rfl,?_⟩;refine⟨_,rfl,.inl ⟨rfl,_,rfl,?_⟩⟩;rw[decide_eq_true rfl];refine bL ?_;exact⟨_,rfl,by show 2<=M2;decide,fun tq H5 n5=>q tq H5 (s1.trans n5.same) (bg.of n5.at)⟩
 | some r=>
  rw[e] at h1 q;refine⟨tp,_,rfl,h1,rfl,_,_,rfl,_,_,rfl,rfl,?_⟩;refine⟨_,rfl,.inl ⟨rfl,_,rfl,?_⟩⟩;rw[decide_eq_false (nofun)];refine bF ?_;have q:∀tp H',ak H H'->bg K H' tp [.int (if (2:Int)^(k-1)<=(r.1:Nat) then ((r.1:Nat):Int)-2^k else ((r.1:Nat):Int)),.int (r.2:Nat)]->Q (.ref tp) H':=q;dsimp only[ck];refine⟨_,rfl,_,rfl,_,_,rfl,rfl,k-1,?_,⋯,?_⟩
  ·show[V.int ((k:Int)-1)]=[V.int ((k-1:Nat):Int)]
   rw[show(k:Int)-1=((k-1:Nat):Int) by lia]
  refine⟨_,_,rfl,rfl,_,rfl,?_⟩;refine fR (fun c =>?_) (fun c =>?_)
  ·have c:(2:Int)^(k-1)<=(r.1:Nat):=of_decide_eq_true c;rw[if_pos c] at q;refine⟨_,rfl,_,rfl,k,rfl,⋯,_,_,rfl,rfl,?_⟩;exact⟨_,rfl,_,rfl,by show 2<=M2;decide,fun tq H5 n5=>q tq H5 (s1.trans n5.same) (bg.of n5.at)⟩
  ·have c:¬(2:Int)^(k-1)<=(r.1:Nat):=fun z=>c (decide_eq_true z);rw[if_neg c] at q;exact⟨_,rfl,_,rfl,by show 2<=M2;decide,fun tq H5 n5=>q tq H5 (s1.trans n5.same) (bg.of n5.at)⟩
end
def LR (K:Ja)(H:Hp)(tp:Gc)(o:Option (V×Nat)):Prop:=match o with
 | none=>∃e:Nat,bg K H tp [.non,.int (e:Nat)]
 | some r=>bg K H tp [r.1,.int (r.2:Nat)]
def HU {K:Ja}{H:Hp}{tp:Gc}{o:Option (V×Nat)}{p:Nat}(h:bg K H tp (EJ o p)):LR K H tp o:=by
 cases o with
 | none=>exact⟨p,h⟩
 | some r=>exact h
def tyT {K:Ja}{a:Gc}{xs:List V}(h:∀H,bg K H a xs)(H:Hp):Sa K "tuple" (.ref a) H:=by
 have h0:bg K (fun _=>none) a xs:=h _;unfold bg at h0
 rcases h0 with h|⟨o,aA,n,hk,hc,hd,_⟩
 ·rcases h with h|⟨o,h⟩<;>cases h
 ·exact .inr (.inl ⟨rfl,o,hk,hc,hd⟩)
def MJ (K:Ja)(CR:Gc):Sp:=fun vs H Q _=>pH fun(m:Gc) (F:Fb) (t:Str) (p:Nat)=>vs=[.ref m,.str t,.int (p:Nat)]/\AV CR H m F/\mh F/\p<=t.length/\t.length<=1000000 /\
 ∀tp H',ak H H'->LR K H' tp ((Ap F.b3 t p).map fun r=>(.int (r.1:Nat),r.2))->Q (.ref tp) H'
def Mw (K:Ja)(CR:Gc):Sp:=fun vs H Q _=>zR fun(m:Gc) (F:Fb) (k t:Str) (p:Nat)=>vs=[.ref m,.str k,.str t,.int (p:Nat)]/\k∈[("spot" : Str), "number", "many", "near", "far"]/\AV CR H m F/\mh F/\p<=t.length/\t.length<=1000000 /\
 ∀tp H',ak H H'->LR K H' tp ((hM F k t p).map fun r=>(r.1.v,r.2))->Q (.ref tp) H'
def HV (K:Ja)(H:Hp)(tp:Gc)(o:Option ((Str×List Arg)×Nat))(p:Nat):Prop:=match o with
 | none=>bg K H tp [.non,.int (p:Nat)]
 | some r=>∃bp,bg K H tp [.ref bp,.int (r.2:Nat)]/\bg K H bp (.str r.1.1::r.1.2.map Arg.v)
def Hj (K:Ja)(CR:Gc):Sp:=fun vs H Q _=>pH fun(m:Gc) (F:Fb) (t:Str) (p:Nat)=>vs=[.ref m,.str t,.int (p:Nat)]/\AV CR H m F/\mh F/\p<=t.length/\t.length<=1000000 /\
 ∀tp H',ak H H'->HV K H' tp (tQ F t p) p->Q (.ref tp) H'
def Fg {α:Type}[BEq α][LawfulBEq α]{l:List α}{x: α}(hm:x∈l):l[l.idxOf x]? = some x/\(∀m,m<l.idxOf x->l[m]? ≠ some x)/\l.idxOf x<l.length:=by
 have hl:l.idxOf x<l.length:=List.idxOf_lt_length_iff.mpr hm;refine⟨?_,fun m iL z =>?_,hl⟩
 ·rw[Jd hl,List.getElem_idxOf hl]
 ·obtain⟨h1,h2⟩:=Jm.mp z;have:=QfB (p:=(· == x)) (xs:=l) iL;rw[h2] at this;simp at this
def Tb:aN.length=9:=∅
def Kt {F:Fb}(h:mh F){t:Str}{p:Nat}{r:Str×Nat}(e:nameA F.b3 t p=some r):aN[aN.idxOf r.1]? = some r.1/\(∀m,m<aN.idxOf r.1->aN[m]? ≠ some r.1)/\aN.idxOf r.1<9:=by
 unfold nameA at e;obtain⟨q,e',e''⟩:=Option.map_eq_some_iff.mp e;have hm:r.1∈aN:=by rw[<-e''];exact h.n3.mem_iff.mp (Yk (ko e').1)
 obtain⟨a,b,c⟩:=Fg hm;exact⟨a,b,by rw[<-Tb];exact c⟩
section
variable {P:Qaf}{w:Qag}{K:Ja}{mg:Str->Option Fk}{base:Heap}{f fi fp fn fb:Gc}{fd Cb QU RM NN:Qad}{CF C aP aZ:Gc}{t3:Tok}
def cq:aD ["self", "text", "place", "name", "end", "size"] ["self", "text", "place"] (aj (inClass (top aY) 3)):=⟨rfl,rfl,rfl,∅,rfl,∅,∅⟩
def JP (F:cj K "number_from" "Reader.number_from" (inClass (top aY) 3) f fd)(T:Nm mg)(MR:HY K C)(bT:mg "SIZE_NAMES" = some (.ref aZ))(hZ:∀H,bg K H aZ (aN.map V.str))(fu:Fn P w K mg base 2 "name_from" ["lookup", "text", "place"] (yb K))(dj:Fn P w K mg base 2 "figures_from" ["ahead", "text", "place", "many"] (yC K)):aW P w K mg base d6 3 f fd ["self", "text", "place"] (MJ K C):=by
 refine F.ok cq (fun vs H Q E h =>?_) (fun cW A outer s H vs Q E hr h =>?_)
 ·obtain⟨m,Fo,t,p,rfl,_⟩:=h
  rfl
 obtain⟨m,Fo,t,p,rfl,rd,fr,hp,ht,q⟩:=h;have eu:=hr.units;obtain⟨k1,k2,k3⟩:=fr.Qs;obtain⟨dx,w1,w2,w3,hm,l1,l2,l3⟩:=id rd;refine⟨_,(af (hW (aM (fu.mono ∅) hr rfl (aa (cR K (pv 0) rfl) (aa (pv 1) (aa (pv 2) ae)))) (tupK K 2 rfl (ay (ar (i:=3) cq.nd rfl (Qae rfl)) (ay (ar (i:=4) cq.nd rfl (Qae rfl)) bD))))
  (af (bf (aK tE (pv 3) cf (aO _)) (ag (au (dg (aa cf (aa (pv 2) ae))))) aF)
  (af (aB (i:=5) cq.nd rfl (Qae rfl) (uQ K PySem.F.plainAttrs_tuple PySem.F.slot_tuple_index PySem.F.type_tuple_index (Pa K) (gV rfl bT) (aa (pv 3) ae)))
  (af (bf (aK (tm K eu) (pv 5) ah (aO _)) (ag (au (dg (aa ah (aa (pv 4) ae))))) aF)
  (ag (au (aM (dj.mono ∅) hr rfl (aa aw (aa (pv 1) (aa (pv 4) (aa (aE jL (pv 5) ah) ae))))))))))),?_⟩
 refine⟨_,rfl,m,C,dx,_,w3,rfl,hm,MR.c,MR.n3,rfl,_,rfl,_,rfl,w3,Fo.b3,t,p,rfl,l3,k3,hp,ht,fun tp H1 s1 h1 =>?_⟩;unfold Ap at q;cases e:nameA Fo.b3 t p with
 | none=>
  rw[e] at h1 q;refine⟨tp,_,rfl,h1,rfl,_,_,rfl,_,_,rfl,rfl,?_⟩;refine⟨_,rfl,.inl ⟨rfl,_,rfl,?_⟩⟩;rw[decide_eq_true rfl];refine bL ?_;exact⟨_,rfl,by show 2<=M2;decide,fun tq H5 n5=>q tq H5 (s1.trans n5.same) ⟨p,bg.of n5.at⟩⟩
 | some r=>
  rw[e] at h1 q;obtain⟨z1,z2,z3⟩:=Kt fr e;have ZC:=mG hp e;refine⟨tp,_,rfl,h1,rfl,_,_,rfl,_,_,rfl,rfl,?_⟩;refine⟨_,rfl,.inl ⟨rfl,_,rfl,?_⟩⟩;rw[decide_eq_false (nofun)];refine bF ?_;dsimp only[ck];refine⟨tyT hZ _,_,rfl,aZ,aN,r.1,aN.idxOf r.1,rfl,rfl,hZ _,z1,z2,gn ?_⟩;have q:∀tp H',ak H H'->LR K H' tp ((Ea r.1 t r.2).map fun r=>(V.int (r.1:Nat),r.2))->Q (.ref tp) H':=q;unfold Ea at q;refine⟨_,rfl,.inl ⟨rfl,_,rfl,?_⟩⟩
  by_cases hz:aN.idxOf r.1=0
  ·rw[if_pos hz] at q;rw[decide_eq_true (show V.int ((aN.idxOf r.1:Nat):Int)=V.int 0 by rw[hz];rfl)];refine bL ?_;exact⟨_,rfl,by show 2<=M2;decide,fun tq H5 n5=>q tq H5 (s1.trans n5.same) (bg.of n5.at)⟩
  ·rw[if_neg hz] at q;rw[decide_eq_false (show ¬V.int ((aN.idxOf r.1:Nat):Int)=V.int 0 from fun z=>hz (by injection z with z;lia))];refine bF ?_;dsimp only[ck];refine⟨_,rfl,_,rfl,_,rfl,_,_,rfl,rfl, "1",t,r.2,aN.idxOf r.1-1,?_,?_,∅,⋯,ZC,ht,fun tq H5 s5 h5=>q tq H5 (s1.trans s5) (HU h5)⟩
   ·show[_,_,_,V.int (((aN.idxOf r.1:Nat):Int)-1)]=[_,_,_,V.int ((aN.idxOf r.1-1:Nat):Int)]
    rw[show(((aN.idxOf r.1:Nat):Int)-1)=((aN.idxOf r.1-1:Nat):Int) by lia]
   ·intro c hc;have hc:c∈("1" : Str).cps.toList:=hc;rw[show("1" : Str).cps.toList=[49] by decide +kernel] at hc;exact .inr (Js.mp hc)
def kN:aD ["self", "part", "text", "place"] ["self", "part", "text", "place"] (aj (inClass (top aY) 2)):=⟨rfl,rfl,rfl,∅,rfl,∅,∅⟩
def JG (F:cj K "part_from" "Reader.part_from" (inClass (top aY) 2) f fd)(T:Nm mg)(Ql:zm K C)(MR:HY K C)(eG:uV K C "number_from" fn)(qP:aW P w K mg base d6 3 fn RM ["self", "text", "place"] (MJ K C))(qM:Binds K RM ["self", "text", "place"] [])
  (fu:Fn P w K mg base 2 "name_from" ["lookup", "text", "place"] (yb K)) (yO:Fn P w K mg base 3 "many_from" ["text", "place"] (G1 K)) (pG:Fn P w K mg base 3 "distance_from" ["text", "place", "many"] (Gq K)):aW P w K mg base d6 4 f fd ["self", "part", "text", "place"] (Mw K C):=by
 refine F.ok kN (fun vs H Q E h =>?_) (fun cW A outer s H vs Q E hr h =>?_)
 ·obtain⟨m,Fo,k,t,p,rfl,_⟩:=h
  rfl
 obtain⟨m,Fo,k,t,p,rfl,hk,rd,fr,hp,ht,q⟩:=h;have eu:=hr.units;obtain⟨k1,k2,k3⟩:=fr.Qs;have nr:=fr.nr;have ff:=fr.fr;obtain⟨dx,w1,w2,w3,hm,l1,l2,l3⟩:=id rd;refine⟨_,(af (bf (aK (tm K eu) (pv 1) aw (aO _)) (ag (au (aM (fu.mono ∅) hr rfl (aa (cR K (pv 0) rfl) (aa (pv 2) (aa (pv 3) ae)))))) aF)
  (af (bf (aK (tm K eu) (pv 1) aw (aO _)) (ag (au (pS (pv 0) Ql eG (qP.mono (by first|decide|exact Je _)) hr qM .nil oP (aa (pv 2) (aa (pv 3) ae))))) aF)
  (af (bf (aK (tm K eu) (pv 1) aw (aO _)) (ag (au (aM (yO.mono ∅) hr rfl (aa (pv 2) (aa (pv 3) ae))))) aF)
  (ag (au (aM (pG.mono ∅) hr rfl (aa (pv 2) (aa (pv 3) (aa (sf (aK (tm K eu) (pv 1) aw (aO _)) (cR K (pv 0) rfl) (cR K (pv 0) rfl)) ae))))))))),?_⟩
 unfold hM at q;simp only[Jw,Uq,or_false] at hk
 rcases hk with rfl|rfl|rfl|rfl|rfl
 ·rw[if_pos rfl] at q;refine⟨_,rfl,.inl ⟨rfl,_,rfl,rB ?_⟩⟩;refine⟨_,rfl,m,C,dx,_,w2,rfl,hm,MR.c,MR.n2,rfl,_,rfl,_,rfl,w2,Fo.b2,t,p,rfl,l2,k2,hp,ht,fun tp H1 s1 h1=>q tp H1 s1 ?_⟩;rw[Qcc];exact HU h1
 ·rw[if_neg ∅,if_pos rfl] at q;refine⟨_,rfl,.inl ⟨rfl,_,rfl,fI (x := "number") ?_⟩⟩;refine⟨_,rfl,.inl ⟨rfl,_,rfl,rB ?_⟩⟩;refine⟨_,rfl,m,dx,_,rfl,hm,rfl,_,rfl,_,rfl,m,Fo,t,p,rfl,rd,fr,hp,ht,fun tp H1 s1 h1=>q tp H1 s1 ?_⟩;rw[Qcc];exact h1
 ·rw[if_neg ∅,if_neg ∅,if_pos rfl] at q;refine⟨_,rfl,.inl ⟨rfl,_,rfl,fI (x := "many") ?_⟩⟩;refine⟨_,rfl,.inl ⟨rfl,_,rfl,fI (x := "many") ?_⟩⟩;refine⟨_,rfl,.inl ⟨rfl,_,rfl,rB ?_⟩⟩;refine⟨_,rfl,_,rfl,t,p,rfl,hp,ht,fun tp H1 s1 h1=>q tp H1 s1 ?_⟩;rw[Qcc];exact HU h1
 ·rw[if_neg ∅,if_neg ∅,if_neg ∅,if_pos rfl] at q;refine⟨_,rfl,.inl ⟨rfl,_,rfl,fI (x := "near") ?_⟩⟩;refine⟨_,rfl,.inl ⟨rfl,_,rfl,fI (x := "near") ?_⟩⟩;refine⟨_,rfl,.inl ⟨rfl,_,rfl,fI (x := "near") ?_⟩⟩;refine⟨_,rfl,_,rfl,_,rfl,.inl ⟨rfl,_,rfl,rB ⟨_,rfl,m,C,dx,_,_,rfl,hm,MR.c,MR.n4,rfl,t,p,Fo.near,rfl,⋯,⋯,hp,ht,fun tp H1 s1 h1=>q tp H1 s1 ?_⟩⟩⟩;rw[Qcc];exact HU h1
 ·rw[if_neg ∅,if_neg ∅,if_neg ∅,if_neg ∅] at q;refine⟨_,rfl,.inl ⟨rfl,_,rfl,fI (x := "far") ?_⟩⟩;refine⟨_,rfl,.inl ⟨rfl,_,rfl,fI (x := "far") ?_⟩⟩;refine⟨_,rfl,.inl ⟨rfl,_,rfl,fI (x := "far") ?_⟩⟩;refine⟨_,rfl,_,rfl,_,rfl,.inl ⟨rfl,_,rfl,fI (x := "far") ⟨_,rfl,m,C,dx,_,_,rfl,hm,MR.c,MR.n5,rfl,t,p,Fo.dM,rfl,⋯,⋯,hp,ht,fun tp H1 s1 h1=>q tp H1 s1 ?_⟩⟩⟩;rw[Qcc];exact HU h1
end
def IK {t:Str}{p:Nat}{r:Nat×Nat}(hp:p<=t.length)(h:qR t p=some r):r.2<=t.length:=by
 unfold qR at h;obtain⟨z,h1,h2⟩:=Option.bind_eq_some_iff.mp h;obtain⟨e1,e2⟩:=pX hp h1
 split at h2
 ·rename_i c;cases h2;have:=congrArg QdH c;rw[Uc,Uv,Uh,<-str_len] at this;show z.2+z.1<=_;lia
 ·cases h2
def Cn {t:Str}{p k:Nat}{r:Int×Nat}(hp:p<=t.length)(h:tL t p k=some r):r.2<=t.length:=by
 unfold tL at h;obtain⟨z,h1,rfl⟩:=Option.map_eq_some_iff.mp h;have:=pX hp h1;show z.2<=_;lia
def Kl {bk:List (Str×Str)}{t:Str}{p:Nat}{r:Nat×Nat}(hp:p<=t.length)(h:Ap bk t p=some r):r.2<=t.length:=by
 unfold Ap at h;obtain⟨z,h1,h2⟩:=Option.bind_eq_some_iff.mp h;have hz:=mG hp h1;unfold Ea at h2
 split at h2
 ·cases h2;exact hz
 ·have:=pX hz h2;lia
def Hh {F:Fb}{k t:Str}{p:Nat}{r:Arg×Nat}(hp:p<=t.length)(h:hM F k t p=some r):r.2<=t.length:=by
 unfold hM at h
 split at h
 ·obtain⟨z,h1,rfl⟩:=Option.map_eq_some_iff.mp h;exact mG hp h1
 split at h
 ·obtain⟨z,h1,rfl⟩:=Option.map_eq_some_iff.mp h;exact Kl hp h1
 split at h
 ·obtain⟨z,h1,rfl⟩:=Option.map_eq_some_iff.mp h;exact IK hp h1
 split at h
 ·obtain⟨z,h1,rfl⟩:=Option.map_eq_some_iff.mp h;exact Cn hp h1
 ·obtain⟨z,h1,rfl⟩:=Option.map_eq_some_iff.mp h;exact Cn hp h1
def oo (F:Fb)(t:Str):∀(l m:List Str) (p:Nat),bV F (l++m) t p=(bV F l t p).bind fun r=>(bV F m t r.2).map fun z=>(r.1++z.1,z.2)
 | [],m,p=>by
  show bV F m t p=(some ([],p)).bind _;cases e:bV F m t p<;>simp[e]
 | k::l,m,p=>by
  show(hM F k t p).bind (fun r=>(bV F (l++m) t r.2).map fun z=>(r.1::z.1,z.2))=((hM F k t p).bind fun r=>(bV F l t r.2).map fun z=>(r.1::z.1,z.2)).bind _;cases hM F k t p with
  | none=>rfl
  | some r=>
   show(bV F (l++m) t r.2).map _=((bV F l t r.2).map _).bind _;rw[oo F t l m r.2];cases bV F l t r.2 with
   | none=>rfl
   | some z=>
    show((bV F m t z.2).map _).map _=(bV F m t z.2).map _;rw[Qcc];rfl
def BJ {F:Fb}{t:Str}{ks:List Str}{i p:Nat}(hi:i<ks.length){as:List Arg}{e:Nat}(h:bV F (ks.take i) t p=some (as,e)):
  bV F (ks.take (i+1)) t p=(hM F ks[i] t e).map fun z=>(as++[z.1],z.2):=by
 rw[cV hi,oo,h];show((hM F ks[i] t e).bind fun r=>some ([r.1],r.2)).map _=_;cases hM F ks[i] t e<;>rfl
def Ae {F:Fb}{t:Str}{ks:List Str}{i p:Nat}(h:bV F (ks.take i) t p=none):bV F ks t p=none:=by
 rw[<-QfV i ks,oo,h];rfl
def JU:∀w∈aG,∃q∈fe,q.1=w/\ql w=q.2:=∅
def yE:∀q∈fe,∀k∈q.2,k∈[("spot" : Str), "number", "many", "near", "far"]:=∅
section
variable {P:Qaf}{w:Qag}{K:Ja}{mg:Str->Option Fk}{base:Heap}{f fi fp fn fb:Gc}{fd Cb QU RM NN:Qad}{CF C aP aZ:Gc}{t3:Tok}
def bw:aD ["self", "text", "place", "kind", "end", "bare", "part", "value"] ["self", "text", "place"] (aj (inClass (top aY) 1)):=⟨rfl,rfl,rfl,∅,rfl,∅,∅⟩
def Iy (F:cj K "bare_from" "Reader.bare_from" (inClass (top aY) 1) f fd)(T:Nm mg)(Ql:zm K C)(MR:HY K C)(GW:NP K w mg aP)(fV:uV K C "part_from" fp)(u3:aW P w K mg base d6 4 fp QU ["self", "part", "text", "place"] (Mw K C))(vL:Binds K QU ["self", "part", "text", "place"] [])
  (fu:Fn P w K mg base 2 "name_from" ["lookup", "text", "place"] (yb K)):aW P w K mg base d6 5 f fd ["self", "text", "place"] (Hj K C):=by
 refine F.ok bw (fun vs H Q E h =>?_) (fun cW A outer s H vs Q E hr h =>?_)
 ·obtain⟨m,Fo,t,p,rfl,_⟩:=h
  rfl
 obtain⟨m,Fo,t,p,rfl,rd,fr,hp,ht,q⟩:=h;have eu:=hr.units;have mJ:=GW.g;obtain⟨k1,_,_⟩:=fr.Qs;refine⟨_,(af (hW (aM (fu.mono ∅) hr rfl (aa (cR K (pv 0) rfl) (aa (pv 1) (aa (pv 2) ae)))) (tupK K 2 rfl (ay (ar (i:=3) bw.nd rfl (Qae rfl)) (ay (ar (i:=4) bw.nd rfl (Qae rfl)) bD))))
  (af (bf (aK tE (pv 3) cf (aO _)) (ag (au (dg (aa cf (aa (pv 2) ae))))) aF)
  (af (aB (i:=5) bw.nd rfl (Qae rfl) (gL (aa (pv 3) ae)))
  (af (eQ Qay rfl (iY K (C3 K w (gV rfl mJ) (pv 3) (fun _ _=>rfl))) (ar (i:=6) bw.nd rfl (Qae rfl)) (af (hW (pS (pv 0) Ql fV (u3.mono (by first|decide|exact Je _)) hr vL .nil oP (aa (pv 6) (aa (pv 1) (aa (pv 4) ae)))) (tupK K 2 rfl (ay (ar (i:=7) bw.nd rfl (Qae rfl)) (ay (ar (i:=4) bw.nd rfl (Qae rfl)) bD))))
  (af (bf (aK tE (pv 7) cf (aO _)) (ag (au (dg (aa cf (aa (pv 2) ae))))) aF)
  (ag (jj (uQ K QaP Qa8 Qa7 kE (pv 5) (aa (pv 7) ae)))))))
  (ag (au (dg (aa (bj (nK K) rfl T.n_tuple (by rfl) (aa (pv 5) ae)) (aa (pv 4) ae))))))))),?_⟩
 obtain⟨dx,w1,w2,w3,hm,l1,l2,l3⟩:=id rd;refine⟨_,rfl,m,C,dx,_,w1,rfl,hm,MR.c,MR.n1,rfl,_,rfl,_,rfl,w1,Fo.b1,t,p,rfl,l1,k1,hp,ht,fun tp H1 s1 h1 =>?_⟩;unfold tQ at q;cases e:nameA Fo.b1 t p with
 | none=>
  rw[e] at h1 q;refine⟨tp,_,rfl,h1,rfl,_,_,rfl,_,_,rfl,rfl,?_⟩;refine⟨_,rfl,.inl ⟨rfl,_,rfl,?_⟩⟩;rw[decide_eq_true rfl];refine bL ?_;exact⟨_,rfl,by show 2<=M2;decide,fun tq H5 n5=>q tq H5 (s1.trans n5.same) (bg.of n5.at)⟩
 | some r=>
  rw[e] at h1 q;obtain⟨wd,pe0⟩:=r;have Zm:pe0<=t.length:=mG hp e;have hwd:wd∈aG:=by
   unfold nameA at e;obtain⟨q',e',e''⟩:=Option.map_eq_some_iff.mp e;cases e'';exact fr.g.n1.mem_iff.mp (Yk (ko e').1)
  obtain⟨qq,hqq,ew,ek⟩:=JU wd hwd;have k5:=yE qq hqq;obtain⟨pk,pl⟩:=eT qq hqq;obtain⟨qp,hq1,GP⟩:=GW.pt qq hqq;have q:∀tp H',ak H H'->HV K H' tp ((bV Fo qq.2 t pe0).map fun z=>((wd,z.1),z.2)) p->Q (.ref tp) H':=by rw[<-ek];exact q
  refine⟨tp,_,rfl,h1,rfl,_,_,rfl,_,_,rfl,rfl,?_⟩;refine⟨_,rfl,.inl ⟨rfl,_,rfl,?_⟩⟩;rw[decide_eq_false (nofun)];refine bF ?_;dsimp only[ck];refine⟨_,rfl,by show 1<=M2;decide,fun l H2 n2=>gn ?_⟩;have s2:=s1.trans n2.same;dsimp only;refine dJ (t:=An _ _ _) (fun σ H'=>∃(x6 x7:Option V) (as:List Arg) (pe:Nat),σ=[some (.ref m),some (.str t),some (.int (p:Nat)),some (.str wd),some (.int (pe:Nat)),some (.ref l),x6,x7]/\ak H1 H'/\H' l=some (.lst (.str wd::as.map Arg.v))/\bV Fo qq.2 t pe0=some (as,pe)) (fun Nx nx =>?_) ?_
  ·refine⟨_,rfl,aP,qq.1,.ref qp,.ref qp,rfl,by rw[ew],GW.cd,hq1,rfl,qp,rfl,⟨_,GP _⟩,?_⟩;refine j3 (N:=qq.2.length) (fun i σ H'=>∃(x6 x7:Option V) (as:List Arg) (pe:Nat),σ=[some (.ref m),some (.str t),some (.int (p:Nat)),some (.str wd),some (.int (pe:Nat)),some (.ref l),x6,x7]/\ak H1 H'/\H' l=some (.lst (.str wd::as.map Arg.v))/\bV Fo (qq.2.take i) t pe0=some (as,pe)/\as.length=i/\pe<=t.length) ⟨_,_,[],pe0,rfl,n2.same,n2.at,rfl,rfl,Zm⟩ ?_ ?_
   ·rintro i σ H3 hi ⟨x6,x7,as,pe,rfl,s3,mf,hpa,FP,hpe⟩;have gk:(qq.2.map V.str)[i]? = some (.str qq.2[i]):=by
     rw[Jj,Jd hi];rfl
    refine⟨⟨_,_,GP _,gk⟩,?_⟩;rintro x' H4 ⟨rfl,hyy⟩;have e:=hyy _ (GP _);rw[gk] at e;cases e;refine gn ?_;have CS:=BJ hi hpa;have hk:=k5 _ (Ud hi);obtain⟨dx',w1',w2',w3',zC,_⟩:=rd.same (s1.trans s3);refine⟨_,rfl,m,dx',_,rfl,zC,rfl,_,rfl,_,rfl,_,rfl,m,Fo,qq.2[i],t,pe,rfl,hk,rd.same (s1.trans s3),fr,hpe,ht,fun tq H5 s5 h5 =>?_⟩;cases ep:hM Fo qq.2[i] t pe with
    | none=>
     rw[ep] at h5 CS;obtain⟨ee,h5⟩:=h5;refine⟨tq,_,rfl,h5,rfl,_,_,rfl,_,_,rfl,rfl,?_⟩;refine⟨_,rfl,.inl ⟨rfl,_,rfl,?_⟩⟩;rw[decide_eq_true rfl];refine bL ?_;rw[Ae CS] at q;exact⟨_,rfl,by show 2<=M2;decide,fun tr H6 n6=>q tr H6 (s1.trans (s3.trans (s5.trans n6.same))) (bg.of n6.at)⟩
    | some z=>
     rw[ep] at h5 CS;obtain⟨a,pe'⟩:=z;refine⟨tq,_,rfl,h5,rfl,_,_,rfl,_,_,rfl,rfl,?_⟩;have nv:a.v≠V.non:=by cases a<;>exact nofun
     refine⟨_,rfl,.inl ⟨rfl,_,rfl,?_⟩⟩;rw[decide_eq_false nv];refine bF ?_;have CD:=s5 _ _ mf;dsimp only[ck];refine⟨_,rfl,.inl ⟨rfl,_,aX.of CD⟩,_,rfl,l,_,_,rfl,rfl,CD,?_,fun H6 c6=>⟨_,_,as++[a],pe',rfl,fun b o e =>?_,?_,CS,?_,Hh hpe ep⟩⟩
     ·rw[Jq,Jc];exact J6 (show _<=100 by lia) ∅
     ·rw[c6.ne (ax e n2.nn)];exact s5 _ _ (s3 _ _ e)
     ·rw[c6.at,Ju];rfl
     ·rw[Jp,FP];rfl
   ·rintro σ H3 ⟨x6,x7,as,pe,rfl,s3,mf,hpa,_,_⟩;rw[Yj] at hpa;exact⟨⟨_,GP _,by rw[Jc];exact Je _⟩,nx _ _ ⟨x6,x7,as,pe,rfl,s3,mf,hpa⟩⟩
  rintro σ H3 ⟨x6,x7,as,pe,rfl,s3,mf,hpa⟩;rw[hpa] at q;refine⟨_,rfl,l,_,rfl,.inl ⟨aX.of mf,fun bp H4 n4 =>?_⟩⟩;refine⟨_,rfl,by show 2<=M2;decide,fun tq H5 n5 =>?_⟩;exact q tq H5 (s1.trans (s3.trans (n4.same.trans n5.same))) ⟨bp,bg.of n5.at,bg.of (n5.same _ _ n4.at)⟩
end
def rY:Arg->Qac
 | .sp x =>.str x | .nu n =>.int (n:Nat) | .ma n =>.int (n:Nat) | .ne d =>.int d | .fa d =>.int d
def gM (w:Str)(as:List Arg):Qac := .tuple (.str w::as.map rY)
def gc {K:Ja}{H:Hp}:∀as:List Arg,aI K H (as.map rY) (as.map Arg.v)
 | []=>fM
 | .sp x::as=>bJ Lh (gc as)
 | .nu n::as=>bJ u4 (gc as)
 | .ma n::as=>bJ u4 (gc as)
 | .ne n::as=>bJ u4 (gc as)
 | .fa n::as=>bJ u4 (gc as)
def gW {K:Ja}{H:Hp}{a:Gc}{w:Str}{as:List Arg}(h:bg K H a (.str w::as.map Arg.v)):Den K H (gM w as) (.ref a):=by
 unfold gM Den;exact⟨a,_,rfl,h,bJ Lh (gc _)⟩
def BU {K:Ja}{H:Hp}{a b:Gc}{n:Int}{w:Str}{as:List Arg}(h:bg K H a [.ref b,.int n])(g:bg K H b (.str w::as.map Arg.v)):Den K H (.tuple [gM w as,.int n]) (.ref a):=by
 unfold Den;exact⟨a,_,rfl,h,bJ (gW g) (bJ u4 fM)⟩
def kA {i:Int}(h:i.natAbs<=1000000):i.natAbs<10^40:=J6 h ∅
def Hb {w:Str}{as:List Arg}(ba:kJ w as)(n:Nat)(hn:n<=1000000):Gd 1000 2 (.tuple [gM w as,.int (n:Nat)]):=by
 have hx:∀x∈aG,kP x=true/\x.length<=201:=∅;obtain⟨q,hq,ew,ek⟩:=ba.pt;obtain⟨pk,al⟩:=eT q hq;rw[<-ek,Jc] at al;rw[<-ew] at pk;have ga:∀a∈as,Gd 201 0 (rY a):=fun a ha=>by
  have h:=ba.ok a ha;cases a with
  | sp x=>
   have hx:∀x∈bI,kP x=true/\x.length<=201:=∅;exact Gd.str (hx x h).1 (hx x h).2
  | nu n=>exact Gd.int (kA (show n<=1000000 from Jg h ∅)) (Je _)
  | ma n=>exact Gd.int (kA (show n<=1000000 from Jg h ∅)) (Je _)
  | ne n=>exact Gd.int (kA h) (Je _)
  | fa n=>exact Gd.int (kA h) (Je _)
 have gs:∀as:List Arg,(∀a∈as,Gd 201 0 (rY a))->Gs (202*as.length) 0 (as.map rY):=by
  intro as
  induction as with
  | nil=>exact fun _=>Gs.nil.mono (Um _) (Je _)
  | cons a as ih=>
   intro h;refine(Gs.cons (h a Jn) (ih fun x hx=>h x (Jk _ hx))).mono ?_ (Je _);rw[Jq,Qdr];lia
 have g1:=(Gs.cons (Gd.str (dp:=0) (hx _ pk).1 (hx _ pk).2) (gs as ga)).tuple;refine((Gs.cons g1 (Gs.one (Gd.int (i:=((n:Nat):Int)) (kA (show n<=1000000 from hn)) (Je _)))).tuple).mono ?_ (Je _);lia
def BQ {d:Int}{k:Nat}{x:Str}(k1:1<=k)(h:iA d k=some x):d=if (2:Int)^(k-1)<=(fY (sg x):Nat) then ((fY (sg x):Nat):Int)-2^k else (fY (sg x):Nat):=by
 unfold iA at h;have jv:inD d k=true:=by
  cases c:inD d k with
  | true=>rfl
  | false=>rw[c] at h;cases h
 rw[if_pos jv] at h;cases h;have p2:(2:Int)^k=2*2^(k-1):=by
  rw[show k=(k-1)+1 by lia,QcN,Qdu];rfl
 have ek:((2^k:Nat):Int)=2^k:=by push_cast;rfl
 unfold inD at jv;rw[Jv,decide_eq_true_eq,decide_eq_true_eq] at jv;obtain⟨hn1,MV⟩:=jv;obtain⟨v,hv⟩:∃v:Nat,v=(if d<0 then d+2^k else d).toNat:=⟨_,rfl⟩
 have hv2:((v:Nat):Int)=if d<0 then d+2^k else d:=by rw[hv];split<;>lia
 rw[<-hv];have iL:v<2^k:=by
  have:((v:Nat):Int)<2^k:=by rw[hv2];split<;>lia
  lia
 have nv:fY (sg (dN v k))=v:=(mB k v).trans (QeA iL);rw[nv,hv2]
 split
 ·rw[if_pos ⋯];lia
 ·rw[if_neg ⋯]
def xB (F:Fb)(t:Str):Nat->List (Nat×(Str×List Arg))->Prop
 | p,[]=>p=t.length
 | p,r::l=>r.1=p/\∃e,tQ F t p=some (r.2,e)/\p<e/\xB F t e l
def oH {F:Fb}{t:Str}:∀{l:List (Nat×(Str×List Arg))} {p:Nat},xB F t p l->p+l.length<=t.length
 | [],p,h=>by
  have h:p=t.length:=h;rw[h];exact Je _
 | r::l,p,h=>by
  obtain⟨_,e,_,he,h⟩:=h;have:=oH h;rw[Jq];lia
def pairD (r:Nat×(Str×List Arg)):Qac := .tuple [.int (r.1:Nat),gM r.2.1 r.2.2]
def Al {H:Hp}{a:Gc}:ak (jA H a) H:=fun b o e=>by
 have n:b≠a:=fun z=>by rw[z,dq] at e;cases e
 rw[bO n] at e;exact e
def xQ {K:Ja}{H:Hp}{a l:Gc}{xs ys:List V}(h:bg K H a xs)(hl:H l=some (.lst ys)):bg K (jA H l) a xs:=by
 unfold bg at h ⊢
 rcases h with h|h
 ·refine .inl ?_
  rcases h with h|⟨o,h⟩
  ·have n:a≠l:=fun z=>by rw[z,hl] at h;cases h
   exact .inl (by rw[bO n];exact h)
  ·have n:a≠l:=fun z=>by rw[z,hl] at h;cases h
   exact .inr ⟨o,by rw[bO n];exact h⟩
 ·exact .inr h
def IX (K:Ja)(CF:Gc):Sp:=fun vs H Q _=>pH fun(m:Gc) (F:Fb) (t:Str) (p:Nat)=>∃r,vs=[.ref m,.str t,.int (p:Nat)]/\nh K CF H m F/\mh F/\p<=t.length/\t.length<=1000000/\tQ F t p=some r /\
 ∀tp H',ak H H'->HV K H' tp (some r) p->Q (.ref tp) H'
def Hl (K:Ja)(CF:Gc):Sp:=fun vs H Q _=>pH fun(m:Gc) (F:Fb) (t:Str) (l:List (Nat×(Str×List Arg)))=>vs=[.ref m,.str t]/\nh K CF H m F/\mh F/\t.length<=1000000/\xB F t 0 l /\
 ∀lp qj H',ak H H'->H lp=none->H' lp=some (.lst qj)->aI K (jA H' lp) (l.map pairD) qj->Q (.ref lp) H'
section
variable {P:Qaf}{w:Qag}{K:Ja}{mg:Str->Option Fk}{base:Heap}{f fi fp fn fb fx:Gc}{fd Cb QU RM NN fdx:Qad}{CF CB C aP aZ:Gc}{t3:Tok}
def lO:aD ["form", "text", "place", "bare", "end"] ["form", "text", "place"] (aj (top oh)):=⟨rfl,rfl,rfl,∅,rfl,∅,∅⟩
def Pq (F:cj K "bare_at" "bare_at" (top oh) f fd)(T:Nm mg)(Ql:zm K C)(oJ:Mk K C fi)(iI:mg "Reader" = some (.ref C))(mR:aW P w K mg base d6 2 fi Cb ["self", "form"] (Bv K CF C))(mF:Binds K Cb ["self", "form"] [])
  (dB:uV K C "bare_from" fb) (iW:aW P w K mg base d6 5 fb NN ["self", "text", "place"] (Hj K C)) (jk:Binds K NN ["self", "text", "place"] []):aW P w K mg base d6 6 f fd ["form", "text", "place"] (IX K CF):=by
 refine F.ok lO (fun vs H Q E h =>?_) (fun cW A outer s H vs Q E hr h =>?_)
 ·obtain⟨m,Fo,t,p,r,rfl,_⟩:=h
  rfl
 obtain⟨m,Fo,t,p,r,rfl,fo,fr,hp,ht,e,q⟩:=h;have eu:=hr.units;refine⟨_,(af (hW (pS (wc oJ (mR.mono (by first|decide|exact Je _)) (hr.mono (by first|decide|exact Je _)) rfl iI mF .nil oP (aa (pv 0) ae)) Ql dB (iW.mono (by first|decide|exact Je _)) hr jk .nil oP (aa (pv 1) (aa (pv 2) ae))) (tupK K 2 rfl (ay (ar (i:=3) lO.nd rfl (Qae rfl)) (ay (ar (i:=4) lO.nd rfl (Qae rfl)) bD))))
  (af (bf (aK tE (pv 3) cf (aO _)) (ag CV) aF)
  (ag (au (dg (aa (pv 3) (aa (pv 4) ae))))))),?_⟩
 refine⟨_,rfl,fun rd dx hrd hdx FI=>⟨H,rd,m,dx,Fo,rfl,jd (bG hdx _) hrd,hrd,aq,fo,fr,fun H1 s1 r1=>⟨rfl,?_⟩⟩⟩;obtain⟨dx',w1,w2,w3,hm,l1,l2,l3⟩:=id r1;refine⟨rd,dx',_,rfl,hm,rfl,_,rfl,_,rfl,rd,Fo,t,p,rfl,r1,fr,hp,ht,fun tp H2 s2 h2 =>?_⟩;rw[e] at h2;obtain⟨bp,h2,h3⟩:=h2;refine⟨tp,_,rfl,h2,rfl,_,_,rfl,_,_,rfl,rfl,?_⟩;refine⟨_,rfl,.inl ⟨rfl,_,rfl,?_⟩⟩;rw[decide_eq_false (nofun)];refine bF ?_;exact⟨_,rfl,_,rfl,by show 2<=M2;decide,fun tq H5 n5=>q tq H5 (s1.trans (s2.trans n5.same)) ⟨bp,bg.of n5.at,n5.same.bZ h3⟩⟩
def de:aD ["form", "text", "reader", "pairs", "place", "bare", "end"] ["form", "text"] (aj (top kX)):=⟨rfl,rfl,rfl,∅,rfl,∅,∅⟩
def OB (F:cj K "bares_of" "bares_of" (top kX) f fd)(T:Nm mg)(Ql:zm K C)(oJ:Mk K C fi)(iI:mg "Reader" = some (.ref C))(mR:aW P w K mg base d6 2 fi Cb ["self", "form"] (Bv K CF C))(mF:Binds K Cb ["self", "form"] [])
  (dB:uV K C "bare_from" fb) (iW:aW P w K mg base d6 5 fb NN ["self", "text", "place"] (Hj K C)) (jk:Binds K NN ["self", "text", "place"] []):aW P w K mg base d6 6 f fd ["form", "text"] (Hl K CF):=by
 refine F.ok de (fun vs H Q E h =>?_) (fun cW A outer s H vs Q E hr h =>?_)
 ·obtain⟨m,Fo,t,l,rfl,_⟩:=h
  rfl
 obtain⟨m,Fo,t,l,rfl,fo,fr,ht,ra,q⟩:=h;have eu:=hr.units;refine⟨_,(af (aB (i:=2) de.nd rfl (Qae rfl) (wc oJ (mR.mono (by first|decide|exact Je _)) (hr.mono (by first|decide|exact Je _)) rfl iI mF .nil oP (aa (pv 0) ae)))
  (af (aB (i:=3) de.nd rfl (Qae rfl) (gL ae))
  (af (aB (i:=4) de.nd rfl (Qae rfl) ah)
  (af (kg Qay (aK (KJ K eu) (pv 4) (av (fK K) rfl T.n_len (by rfl) (aa (pv 1) ae)) (aO _)) (af (hW (pS (pv 2) Ql dB (iW.mono (by first|decide|exact Je _)) hr jk .nil oP (aa (pv 1) (aa (pv 4) ae))) (tupK K 2 rfl (ay (ar (i:=5) de.nd rfl (Qae rfl)) (ay (ar (i:=6) de.nd rfl (Qae rfl)) bD))))
  (af (bf (aK tE (pv 5) cf (aO _)) (ag CV) aF)
  (af (jj (uQ K QaP Qa8 Qa7 kE (pv 3) (aa (dg (aa (pv 4) (aa (pv 5) ae))) ae)))
  (ag (aB (i:=4) de.nd rfl (Qae rfl) (pv 6)))))))
  (ag (au (pv 3))))))),?_⟩
 refine⟨_,rfl,fun rd dx hrd hdx FI=>⟨H,rd,m,dx,Fo,rfl,jd (bG hdx _) hrd,hrd,aq,fo,fr,fun H1 s1 r1=>⟨rfl,?_⟩⟩⟩;have hz:t.length<=M2:=Jg ht ∅;refine gn ?_;refine⟨by show 0<=M2;decide,fun lp H2 n2=>gn (gn ?_)⟩;have s2:=n2.same;have hl:H lp=none:=by
  cases z:H lp with
  | none=>rfl
  | some o=>have:=n2.nn;rw[s1 _ _ z] at this;cases this
 refine dJ (t:=ll _ _) (fun σ H'=>∃(x5 x6:Option V) (p:Nat) (vs:List V),σ=[some (.ref m),some (.str t),some (.ref rd),some (.ref lp),some (.int (p:Nat)),x5,x6]/\ak H1 H'/\H' lp=some (.lst vs)/\aI K (jA H' lp) (l.map pairD) vs) (fun Nx nx =>?_) ?_
 ·refine mv (fun k σ H'=>∃(x5 x6:Option V) (p:Nat) (done rest:List (Nat×(Str×List Arg))) (vs:List V),σ=[some (.ref m),some (.str t),some (.ref rd),some (.ref lp),some (.int (p:Nat)),x5,x6]/\l=done++rest/\k=rest.length/\done.length+rest.length<=1000000/\xB Fo t p rest/\p<=t.length/\ak H1 H'/\H' lp=some (.lst vs)/\aI K (jA H' lp) (done.map pairD) vs) ⟨_,_,_,0,[],l,[],rfl,rfl,rfl,?_,ra,Um _,s2,n2.at,fM⟩ ?_
  ·have:=oH ra;simp only[U8];lia
  rintro k σ H' ⟨x5,x6,p,done,rest,vs,rfl,el,rfl,hln,ra',hp,s3,mf,NO⟩;refine⟨_,rfl,_,rfl,_,_,rfl,⟨hz,rfl⟩,.inl ⟨rfl,_,rfl,?_⟩⟩;cases rest with
  | nil=>
   have ep:p=t.length:=ra';rw[decide_eq_true (show V.int (p:Nat)=V.int (t.length:Nat) by rw[ep])];refine bF (nx _ _ ⟨x5,x6,p,vs,rfl,s3,mf,?_⟩);rw[el,Yg];exact NO
  | cons r rest=>
   obtain⟨e1,e,e2,e3,e4⟩:=ra';have he:e<=t.length:=by have:=oH e4;lia
   rw[decide_eq_false (show ¬V.int (p:Nat)=V.int (t.length:Nat) from fun z=>by injection z with z;lia)];refine bL ⟨_,fun _ _ h=>h,?_⟩;obtain⟨dx',w1,w2,w3,hm,l1,l2,l3⟩:=id (r1.same s3);refine⟨_,rfl,rd,dx',_,rfl,hm,rfl,_,rfl,_,rfl,rd,Fo,t,p,rfl,r1.same s3,fr,hp,ht,fun tp H4 s4 h4 =>?_⟩;rw[e2] at h4;obtain⟨bp,h4,h5⟩:=h4;refine⟨tp,_,rfl,h4,rfl,_,_,rfl,_,_,rfl,rfl,?_⟩;refine⟨_,rfl,.inl ⟨rfl,_,rfl,?_⟩⟩;rw[decide_eq_false (nofun)];refine bF ?_;dsimp only[ck];have Kh:=s4 _ _ mf;refine⟨_,rfl,.inl ⟨rfl,_,aX.of Kh⟩,_,rfl,_,rfl,by show 2<=M2;decide,fun tq H5 n5=>⟨lp,_,_,rfl,rfl,n5.same _ _ Kh,?_,fun H6 c6 =>?_⟩⟩
   ·rw[NO.len,Jc];refine J6 (show _<=1000000 by lia) ∅
   have nq:tq≠lp:=rE (n5.at) (n5.same _ _ Kh) (nofun);have sd:ak (jA H4 lp) (jA H6 lp):=fun b o z=>by
    have nb:b≠lp:=fun y=>by rw[y,dq] at z;cases z
    rw[bO nb] at z ⊢;rw[c6.ne nb];exact n5.same _ _ z
   have sd3:ak (jA H' lp) (jA H6 lp):=fun b o z=>by
    have nb:b≠lp:=fun y=>by rw[y,dq] at z;cases z
    rw[bO nb] at z;exact sd _ _ (by rw[bO nb];exact s4 _ _ z)
   refine⟨_,rfl,gn ⟨rest.length,Y8 _,some (.ref bp),some (.int (e:Nat)),e,done++[r],rest,_,rfl,by rw[el,U0];rfl,rfl,by rw[Jp];rw[Jq] at hln;simp only[Jq,U8];lia,e4,he,fun b o z =>?_,c6.at,?_⟩⟩
   ·have nb:b≠lp:=ax z n2.nn;rw[c6.ne nb];exact n5.same _ _ (s4 _ _ (s3 _ _ z))
   ·rw[Ju];refine pY (NO.same sd3) ?_;unfold pairD Den;refine⟨tq,_,rfl,bg.of (by rw[bO nq,c6.ne nq];exact n5.at),bJ ?_ (bJ (gW (sd.bZ (xQ h5 Kh))) fM)⟩;rw[e1];exact u4
 ·rintro σ H' ⟨x5,x6,p,vs,rfl,s3,mf,NO⟩;exact⟨_,rfl,q lp vs H' (s1.trans s3) hl mf NO⟩
end
def rz {bk:List (Str×Str)}(g:nO bk){x:Str}(hx:x∈bk.map (·.1)){t:Str}{p:Nat}{z:List Nat}(h:(sg t).drop p=sg (aV bk x)++z):nameA bk t p=some (x,p+(aV bk x).length):=by
 unfold nameA;rw[ID g (BD hx) (by rw[h];exact Qb7 _ _)]
 rfl
def pO {a x t:Str}{p k:Nat}{z:List Nat}(h:(sg t).drop p=sg x++z)(hb:sQ x)(hk:x.length=k):ou a t p k=some (fY (sg a++sg x),p+k):=by
 have e:((sg t).drop p).take k=sg x:=by
  rw[h,<-hk,str_len];exact QeF rfl
 unfold ou;rw[e,if_pos];refine⟨by rw[<-hk,str_len],?_⟩;rw[Yr];intro c hc
 rcases hb c hc with rfl|rfl<;>decide +kernel
def Ga (l:List Nat):fY (49::l)=2^l.length+fY l:=by
 obtain⟨m,hm⟩:∃m:List Nat,m=l.reverse:=⟨_,rfl⟩
 have:l=m.reverse:=by rw[hm,List.reverse_reverse]
 subst this;clear hm
 induction m with
 | nil=>rfl
 | cons c m ih=>
  rw[Qcf,<-Qcp,iH,ih,iH,Jp,Qcn,Wf];lia
def Zq:∀b,b<9->aN.idxOf (aN.getD b Qaq)=b/\aN.getD b Qaq∈aN:=∅
def Iu {n b:Nat}(hb:cE n=b+1):2^b+n%2^b=n:=by
 have h1:2^b<=n:=(wo n b).mpr ⋯;have h2:¬ 2^(b+1)<=n:=fun z=>by have:=(wo n (b+1)).mp z;lia
 rw[Wf] at h2;have:n%2^b=n-2^b:=by
  rw[Nat.mod_eq_sub_mod h1,QeA ⋯]
 lia
def G7 {F:Fb}(fr:mh F){a:Arg}(ha:a.ok){x t:Str}(e:eK F a=some x){p:Nat}(hp:p<=t.length){z:List Nat}(h:(sg t).drop p=sg x++z):hM F a.kind t p=some (a,p+x.length):=by
 obtain⟨k1,k2,k3⟩:=fr.Qs;have nr:=fr.nr;have ff:=fr.fr;cases a with
 | sp y=>
  cases e;show(nameA F.b2 t p).map _=_;rw[rz k2 (fr.n2.mem_iff.mpr ha) h];rfl
 | nu n=>
  cases e;have hb:=vS (n:=n) ha;obtain⟨i1,i2⟩:=Zq (cE n) ⋯;rw[nW,lj,U0] at h;show(Ap F.b3 t p).map _=_;unfold Ap;rw[rz k3 (fr.n3.mem_iff.mpr i2) h];show(Ea _ t _).map _=_;unfold Ea;rw[i1,nW,QaH,bN]
  by_cases hz:cE n=0
  ·rw[if_pos hz,hz];have n0:n=0:=by
    cases n with
    | zero=>rfl
    | succ n=>have:=(wo (n+1) 0).mp (by simp);lia
   subst n0
   rfl
  ·rw[if_neg hz];obtain⟨b,uI⟩:∃b,cE n=b+1:=⟨cE n-1,⋯⟩
   rw[uI,Nat.add_sub_cancel] at h ⊢;obtain⟨_,h2⟩:=iG h hp;rw[pO h2 (j9 b n) (bN n b)];show some (Arg.nu (fY (49::jx b n)),_)=_;rw[Ga,mB,sG,Iu uI,Qcy]
 | ma n=>
  cases e;have hn:n<=7:=ha;rw[lj,U0] at h;show(qR t p).map _=_;unfold qR;rw[pO h (j9 3 n) (bN n 3)];show(if _ then _ else _:Option (Nat×Nat)).map _=_;have n8:fY (sg ("" : Str)++jx 3 n)=n:=(mB 3 n).trans (QeA ⋯);have h2:=(iG h hp).2;rw[bN] at h2;have hz:=(yX (n:=n) (c:=QbW (Wp "0") (n:Nat)) ⋯).mp rfl;have hl:(QbW (Wp "0") (n:Nat)).length=n:=by rw[str_len];show(sg _).length=n;rw[hz,Uh]
  dsimp only;rw[show fY (sg ("" : Str)++sg (dN n 3))=n from n8,h2,hz,if_pos (QeF Uh),QaH,bN,hl];show some (Arg.ma n,_)=_;rw[Qcy]
 | ne d=>
  have e:iA d F.near=some x:=e;have hd:=BQ ⋯ e;have hx:x.length=F.near/\sQ x:=by
   unfold iA at e
   split at e
   ·cases e;exact⟨bN _ _,j9 _ _⟩
   ·cases e
  show(tL t p F.near).map _=_;unfold tL;rw[pO h hx.2 hx.1];show some (Arg.ne (if _ then _ else _),_)=_;rw[<-hx.1] at hd ⊢;rw[show fY (sg ("" : Str)++sg x)=fY (sg x) from rfl,<-hd]
 | fa d=>
  have e:iA d F.dM=some x:=e;have hd:=BQ ⋯ e;have hx:x.length=F.dM/\sQ x:=by
   unfold iA at e
   split at e
   ·cases e;exact⟨bN _ _,j9 _ _⟩
   ·cases e
  show(tL t p F.dM).map _=_;unfold tL;rw[pO h hx.2 hx.1];show some (Arg.fa (if _ then _ else _),_)=_;rw[<-hx.1] at hd ⊢;rw[show fY (sg ("" : Str)++sg x)=fY (sg x) from rfl,<-hd]
def uq {F:Fb}(fr:mh F):∀{as:List Arg} {ts:List Str},cC F as=some ts->(∀a∈as,a.ok)->∀{t:Str} {p:Nat} {z:List Nat},p<=t.length->(sg t).drop p=ts.flatMap sg++z ->
  bV F (as.map Arg.kind) t p=some (as,p+(ts.map fun x=>x.length).sum)
 | [],ts,e,_,t,p,z,_,_=>by cases e;rfl
 | a::as,ts,e,ok,t,p,z,hp,h=>by
  have e:(match eK F a with|none=>none|some x=>(cC F as).map (x :: ·))=some ts:=e;cases ea:eK F a with
  | none=>rw[ea] at e;cases e
  | some x=>
   rw[ea] at e;obtain⟨us,er,e⟩:=Option.map_eq_some_iff.mp e;subst e;rw[Y3,U0] at h;obtain⟨zu,h2⟩:=iG h hp;show(hM F a.kind t p).bind _=_;rw[G7 fr (ok a Jn) ea hp h];show(bV F (as.map Arg.kind) t (p+x.length)).map _=_;rw[uq fr er (fun b hb=>ok b (Jk _ hb)) zu h2];show some (a::as,_)=_;rw[J0,Uu,Qcy]
def kinds_of {w:Str}{as:List Arg}(ba:kJ w as):ql w=as.map Arg.kind/\w∈aG:=by
 obtain⟨q,hq,ew,ek⟩:=ba.pt;have:∀q∈fe,ql q.1=q.2:=∅;exact⟨by rw[ew,this q hq,ek],by rw[ew];exact(eT q hq).1⟩
def zf {F:Fb}(fr:mh F){w:Str}{as:List Arg}(ba:kJ w as){x:Str}(e:fC F w as=some x){t:Str}{p:Nat}(hp:p<=t.length){z:List Nat}(h:(sg t).drop p=sg x++z):
  tQ F t p=some ((w,as),p+x.length)/\1<=x.length:=by
 obtain⟨k1,_,_⟩:=fr.Qs;obtain⟨ek,hw⟩:=kinds_of ba;have hm:w∈F.b1.map (·.1):=fr.g.n1.mem_iff.mpr hw;unfold fC at e;obtain⟨ts,er,e⟩:=Option.map_eq_some_iff.mp e;subst e;have hj:sg (QaQ "" (aV F.b1 w::ts))=sg (aV F.b1 w)++ts.flatMap sg:=by
  show(QaQ "" _).cps.toList=_;rw[cP,Y3]
 have jl:=iJ (aV F.b1 w::ts);rw[J0,Uu] at jl;rw[hj,U0] at h;obtain⟨zu,h2⟩:=iG h hp;have c1:=(k1.cd _ (BD hm)).1;have c1:1<=(aV F.b1 w).length:=c1;refine⟨?_,by rw[jl];lia⟩;unfold tQ;rw[rz k1 hm h];show(bV F (ql w) t (p+(aV F.b1 w).length)).map _=_;rw[ek,uq fr er ba.ok zu h2];show some ((w,as),_)=_;rw[jl,Qcy]
def placed:Nat->List ((Str×List Arg)×Str)->List (Nat×(Str×List Arg))
 | _,[]=>[]
 | p,r::l=>(p,r.1)::placed (p+r.2.length) l
def yg {F:Fb}(fr:mh F){t:Str}:∀{l:List ((Str×List Arg)×Str)} {p:Nat},(∀r∈l,kJ r.1.1 r.1.2/\fC F r.1.1 r.1.2=some r.2)->p<=t.length->(sg t).drop p=l.flatMap (fun r=>sg r.2)->xB F t p (placed p l)
 | [],p,_,hp,h=>by
  have:=congrArg QdH h;rw[Uv,<-str_len] at this;simp only[List.flatMap_nil,U8] at this;show p=t.length;lia
 | r::l,p,ok,hp,h=>by
  rw[Y3] at h;obtain⟨b1,b2⟩:=ok r Jn;obtain⟨h1,h2⟩:=zf fr b1 b2 hp h;obtain⟨h3,h4⟩:=iG h hp;exact⟨rfl,_,h1,⋯,yg fr (fun x hx=>ok x (Jk _ hx)) h3 h4⟩
def tW {F:Fb}:∀{as:List Arg},(∀a∈as,∃x,eK F a=some x)->∃ts,cC F as=some ts
 | [],_=>⟨[],rfl⟩
 | a::as,h=>by
  obtain⟨x,hx⟩:=h a Jn;obtain⟨ts,ht⟩:=tW (F:=F) (as:=as) fun b hb=>h b (Jk _ hb);refine⟨x::ts,?_⟩;show(match eK F a with|none=>none|some x=>(cC F as).map (x :: ·))=_;rw[hx,ht];rfl
def GU (K:Ja)(CF:Gc):Sp:=fun vs H Q _=>Ka fun(m p:Gc) (F:Fb) (w:Str) (as:List Arg) (x:Str)=>vs=[.ref m,.ref p]/\nh K CF H m F/\mh F/\kJ w as/\bg K H p (.str w::as.map Arg.v)/\fC F w as=some x/\∀H',ak H H'->Q (.str x) H'
def NU {K:Ja}{CF C:Gc}{vs:List V}{H:Hp}{Q:VK}{E:XK}(h:GU K CF vs H Q E):PV K CF C vs H Q (fun _ _ _=>False):=by
 obtain⟨m,p,F,w,as,x,rfl,fo,fr,ba,hp,e,q⟩:=h;refine⟨m,p,F,w,as,rfl,fo,fr,ba,hp,?_⟩;rw[e];exact q
def Lv {F:Fb}(fr:mh F){w:Str}{as:List Arg}(b:kJ w as){x:Str}(e:fC F w as=some x):x.length<=100:=by
 unfold fC at e;cases ea:cC F as with
 | none=>rw[ea] at e;cases e
 | some ts=>
  rw[ea] at e;obtain⟨tl,tsum⟩:=mT fr b.ok ea;obtain⟨q,hq,_,ek⟩:=b.pt;have al:=(eT q hq).2;rw[<-ek,Jc] at al;have jl:=iJ (aV F.b1 w::ts);rw[J0,Uu] at jl;have c1:=fr.c1 w;cases e;show(QaQ "" (aV F.b1 w::ts)).length<=100;lia
def KB {r:Int}(h0:0<=r)(h1:r<4):∃c,CL (Wp "abcd").cps.toList r=some c/\(⟨#[c]⟩:Str)∈bI:=by
 have:r=0\/r=1\/r=2\/r=3:=by lia
 rcases this with rfl|rfl|rfl|rfl
 ·exact⟨97,∅,∅⟩
 ·exact⟨98,∅,∅⟩
 ·exact⟨99,∅,∅⟩
 ·exact⟨100,∅,∅⟩
def Cw (K:Ja):Sp:=fun vs H Q _=>∃(a:Gc) (ns:List Int),vs=[.ref a]/\aX K H a (ns.map V.int)/\ns.length<=63/\∀H',Q (.bl true) H'
def Du {K:Ja}{H:Hp}{rf wV vB:List (Str×Str)}{near dM:Int}{v1 v2 v3 v4 v5:V}(g:Good3 rf wV vB near dM)(h:aI K H [aQ rf,aQ wV,aQ vB,.int near,.int dM] [v1,v2,v3,v4,v5]):xq K H v1 v2 v3 v4 v5 (aQ rf) (aQ wV) (aQ vB) (.int near) (.int dM):=by
 have at':∀(i:Nat) d v,([aQ rf,aQ wV,aQ vB,.int near,.int dM]:List Qac)[i]? = some d->([v1,v2,v3,v4,v5]:List V)[i]? = some v->Den K H d v:=fun i d v e1 e2=>jY h e1 e2;have ft:∀{bk:List (Str×Str)},(∀q∈bk,kP q.1=true/\kP q.2=true/\q.1.length<=8/\q.2.length<=11)->bk.length<=11->MC (aQ bk):=fun{bk} sh hl=>
  MC.of (w:=243) (dp:=2) (((CZ (w:=22) fun q hq=>by obtain⟨a,b,c,d⟩:=sh q hq;exact⟨a,b,⋯⟩).mono ⋯ (Je _)).list) ∅ ∅ (by show(bk.map fh).length<=60;rw[Jc];lia)
 have h1:=g.l1;have h2:=g.l2;have h3:=g.l3;exact⟨at' 0 _ _ rfl rfl,at' 1 _ _ rfl rfl,at' 2 _ _ rfl rfl,at' 3 _ _ rfl rfl,at' 4 _ _ rfl rfl,ft (fun q hq=>g.sz q (.inl hq)) ⋯,ft (fun q hq=>g.sz q (.inr (.inl hq))) ⋯,ft (fun q hq=>g.sz q (.inr (.inr hq))) ⋯⟩
def Ba (bk:List (Str×Str)):Mp (Ma (aQ bk))=true:=by
 show lS (bk.map fh)=true
 induction bk with
 | nil=>rfl
 | cons q bk ih=>
  show(Mp (fh q)&&lS (bk.map fh))=true;rw[ih]
  rfl
def Ff {K:Ja}{CF:Gc}{H:Hp}{b c m:Gc}{t:Int}{F:Fb}(bx:Bx H b c t)(mb:m≠b)(mc:m≠c)(h:nh K CF H m F):nh K CF (ip H b c) m F:=by
 obtain⟨dx,w1,w2,w3,w4,w5,e,h1,h2,h3,h4,h5⟩:=h;exact⟨dx,w1,w2,w3,w4,w5,by rw[cZ mb mc];exact e,Den.hide bx (Ba F.b1) h1,Den.hide bx (Ba F.b2) h2,Den.hide bx (Ba F.b3) h3,Den.hide bx rfl h4,Den.hide bx rfl h5⟩
def Wr (F:Fb)(b:Str×List Arg):Prop:=kJ b.1 b.2/\∃x,fC F b.1 b.2=some x
def tu (K:Ja)(F:Fb)(H:Hp)(l:Gc)(n:Nat):Prop:=eM fun(bs:List (Str×List Arg)) (vs:List V)=>H l=some (.lst vs)/\aI K H (bs.map fun b=>gM b.1 b.2) vs/\(∀b∈bs,Wr F b)/\bs.length=n
def tu.same {K:Ja}{F:Fb}{H H':Hp}{l:Gc}{n:Nat}(h:tu K F H l n)(s:ak H H'):tu K F H' l n:=by
 obtain⟨bs,vs,h1,h2,h3,h4⟩:=h;exact⟨bs,vs,s _ _ h1,h2.same s,h3,h4⟩
def mY {F:Fb}{w:Str}{as:List Arg}(hp:∃q∈fe,w=q.1/\as.map Arg.kind=q.2)(h:∀a∈as,a.ok/\∃x,eK F a=some x):Wr F (w,as):=by
 refine⟨⟨hp,fun a ha=>(h a ha).1⟩,?_⟩;obtain⟨ts,e⟩:=tW (F:=F) fun a ha=>(h a ha).2;exact⟨_,by unfold fC;rw[e];rfl⟩
def y9 {F:Fb}(fr:mh F){y z:Str}(hy:y∈bI)(hz:z∈bI):∀a:Arg,(a = .sp y\/a = .sp z\/(∃n,n<=255/\a = .nu n)\/(∃n,n<=7/\a = .ma n)\/a = .ne (-1)\/a = .fa 2)->a.ok/\∃x,eK F a=some x:=by
 have nr:=fr.nr;have ff:=fr.fr;have p1:∀k:Nat,(0:Int)<2^k:=fun k=>QeH ∅;rintro a (rfl|rfl|⟨n,hn,rfl⟩|⟨n,hn,rfl⟩|rfl|rfl)
 ·exact⟨hy,_,rfl⟩
 ·exact⟨hz,_,rfl⟩
 ·exact⟨hn,_,rfl⟩
 ·exact⟨hn,_,rfl⟩
 ·refine⟨by show(-1:Int).natAbs<=1000000;decide,?_⟩;show ∃x,iA (-1) F.near=some x;unfold iA;refine⟨_,if_pos ?_⟩;unfold inD;have:=p1 (F.near-1);rw[decide_eq_true ⋯,decide_eq_true ⋯];rfl
 ·refine⟨by show(2:Int).natAbs<=1000000;decide,?_⟩;show ∃x,iA 2 F.dM=some x;unfold iA;refine⟨_,if_pos ?_⟩;unfold inD;have h4:(4:Int)<=2^(F.dM-1):=by
   have:2^2<=2^(F.dM-1):=QdN ∅ ⋯;have e:(2:Int)^(F.dM-1)=((2^(F.dM-1):Nat):Int):=by push_cast;rfl
   lia
  rw[decide_eq_true ⋯,decide_eq_true ⋯];rfl
def CK {K:Ja}{H:Hp}:∀{ds es:List Qac} {us vs:List V},aI K H ds us->aI K H es vs->aI K H (ds++es) (us++vs)
 | [],es,us,vs,h,h'=>by
  unfold aI at h;subst h;exact h'
 | d::ds,es,us,vs,h,h'=>by
  unfold aI at h;obtain⟨x,xs,rfl,hx,hxs⟩:=h;exact bJ hx (CK hxs h')
def BO {K:Ja}{H:Hp}:∀{as:List Arg} {vs:List V},aI K H (as.map rY) vs->vs=as.map Arg.v
 | [],vs,h=>by unfold aI at h;exact h
 | a::as,vs,h=>by
  rw[J0] at h;unfold aI at h;obtain⟨x,xs,rfl,hx,hxs⟩:=h;rw[BO hxs];cases a<;>(unfold rY Den at hx;rw[hx];rfl)
def Iv {K:Ja}{H:Hp}{w:Str}{as:List Arg}{v:V}(h:Den K H (gM w as) v):∃p,v = .ref p/\bg K H p (.str w::as.map Arg.v):=by
 unfold gM Den at h;obtain⟨p,vs,rfl,h1,h2⟩:=h;unfold aI at h2;obtain⟨x,xs,rfl,hx,hxs⟩:=h2;unfold Den at hx;subst hx;rw[BO hxs] at h1;exact⟨p,rfl,h1⟩
def NM {α:Type}{xs:List α}{y z: α}{j:Nat}(h:(xs++[y])[j]? = some z):xs[j]? = some z\/(j=xs.length/\z=y):=by
 by_cases hj:j<xs.length
 ·rw[Uo hj] at h;exact .inl h
 ·have h1:=(Jm.mp h).1;rw[Jp] at h1;simp only[Jq,U8] at h1;have e:j=xs.length:=by lia
  rw[Uj ⋯,e,Nat.sub_self] at h;cases h;exact .inr ⟨e,rfl⟩
def Cz {n:Nat}:∀{xs:List Str},(∀x∈xs,x.length<=n)->Qas (xs.map QbB)<=(n+1)*xs.length
 | [],_=>Je _
 | x::xs,h=>by
  have h1:x.cps.size<=n:=h x Jn;have h2:=Cz fun y hy=>h y (Jk _ hy);simp only[J0,Qas,Qaz,Jq,Qdr];lia
def pC {r:(Str×List Arg)×Str}:∀{l:List ((Str×List Arg)×Str)} {p:Nat},placed p (l++[r])=placed p l++[(p+(l.map fun r=>r.2.length).sum,r.1)]
 | [],p=>rfl
 | z::l,p=>by
  show(p,z.1)::placed (p+z.2.length) (l++[r])=(p,z.1)::(placed (p+z.2.length) l++_);rw[pC,J0,Uu,Qcy]
def jg:∀{l:List ((Str×List Arg)×Str)} {p:Nat},(placed p l).length=l.length
 | [],_=>rfl
 | r::l,p=>by
  show(placed (p+r.2.length) l).length+1=l.length+1;rw[jg]
def SD {w dp:Nat}:∀{ds:List Qac},(∀d∈ds,Gd w dp d)->Gs ((w+1)*ds.length) dp ds
 | [],_=>Gs.nil.mono (Um _) (Je _)
 | d::ds,h=>by
  refine(Gs.cons (h d Jn) (SD fun x hx=>h x (Jk _ hx))).mono ?_ (Je _);rw[Jq,Qdr];lia
def ve {n:Nat}:∀{xs:List Str},(∀x∈xs,x.length<=n)->(xs.map fun x=>x.length).sum<=n*xs.length
 | [],_=>Je _
 | x::xs,h=>by
  have h1:=h x Jn;have h2:=ve fun y hy=>h y (Jk _ hy);rw[J0,Uu,Jq,Qdr];lia
def uO:∀{l:List ((Str×List Arg)×Str)} {p:Nat},(∀z∈l,kJ z.1.1 z.1.2)->∀r∈placed p l,kJ r.2.1 r.2.2/\r.1<=p+(l.map fun r=>r.2.length).sum
 | [],_,_,_,h=>nomatch h
 | z::l,p,ok,r,h=>by
  rw[J0,Uu]
  rcases Jw.mp h with rfl|h
  ·exact⟨ok z Jn,Ul _ _⟩
  ·obtain⟨h1,h2⟩:=uO (fun y hy=>ok y (Jk _ hy)) r h;exact⟨h1,⋯⟩
def LN {r:Nat×(Str×List Arg)}(ba:kJ r.2.1 r.2.2)(hn:r.1<=1000000):Gd 1500 2 (pairD r):=by
 have g:=Gd.JB (Hb ba 0 ∅);have g1:=g.at (d:=gM r.2.1 r.2.2) Jn;exact((Gs.cons (Gd.int (w:=201) (i:=((r.1:Nat):Int)) (kA (show r.1<=1000000 from hn)) (Je _)) (Gs.one g1)).tuple).mono ⋯ (Je _)
def xA (bs:List (Str×List Arg)):lS (bs.map fun b=>gM b.1 b.2)=true:=by
 have ha:∀as:List Arg,lS (as.map rY)=true:=fun as=>by
  induction as with
  | nil=>rfl
  | cons a as ih=>
   show(Mp (rY a)&&lS (as.map rY))=true;rw[ih];cases a<;>rfl
 induction bs with
 | nil=>rfl
 | cons q bs ih=>
  show(Mp (gM q.1 q.2)&&lS (bs.map fun b=>gM b.1 b.2))=true;rw[ih,Bool.and_true];show(true&&lS (q.2.map rY))=true;rw[ha];rfl
def tu.hide {K:Ja}{F:Fb}{H:Hp}{b c l:Gc}{t:Int}{n:Nat}(bx:Bx H b c t)(lb:l≠b)(lc:l≠c)(h:tu K F H l n):tu K F (ip H b c) l n:=by
 obtain⟨bs,vs,h1,h2,h3,h4⟩:=h;exact⟨bs,vs,by rw[cZ lb lc];exact h1,aI.hide bx (xA bs) h2,h3,h4⟩
def ky {K:Ja}{F:Fb}{H:Hp}{l1 l2:Gc}{n1 n2:Nat}{Q:VK}(h1:tu K F H l1 n1)(h2:tu K F H l2 n2)(hz:n1+n2<=1000)(q:∀l3 H',ak H H'->H l3=none->tu K F H' l3 (n1+n2)->Q (.ref l3) H'):MI (.ref l1) (.ref l2) H Q:=by
 obtain⟨bs,vs,a1,a2,a3,a4⟩:=h1;obtain⟨cs,us,b1,b2,b3,b4⟩:=h2;refine .inr (.inr ⟨l1,l2,vs,us,rfl,rfl,a1,b1,?_,fun p H' n=>q p H' n.same n.nn ⟨bs++cs,vs++us,n.at,?_,fun b hb=>(J9.mp hb).elim (a3 b) (b3 b),by rw[Jp];lia⟩⟩)
 ·rw[a2.len,b2.len,Jc,Jc];exact Jg (show _<=1000 by lia) ∅
 ·rw[Ju];exact CK (a2.same n.same) (b2.same n.same)
def j5 {K:Ja}{H:Hp}{bs:List (Str×List Arg)}{vs:List V}{w:Str}{as:List Arg}{tp:Gc}(h:aI K H (bs.map fun b=>gM b.1 b.2) vs)(ht:H tp=some (.tup (.str w::as.map Arg.v))):aI K H ((bs++[(w,as)]).map fun b=>gM b.1 b.2) (vs++[.ref tp]):=by
 rw[Ju];exact pY h (gW (bg.of ht))
def xH {i c:Nat}(h:(Wp "abcd").cps[i]? = some c):(⟨#[c]⟩:Str)∈bI:=by
 have hm:c∈(Wp "abcd").cps.toList:=by rw[<-U1] at h;exact J2 h
 rw[show(Wp "abcd").cps.toList=[97,98,99,100] by decide +kernel] at hm;simp only[Jw,Uq,or_false] at hm
 rcases hm with rfl|rfl|rfl|rfl<;>decide +kernel
def tS:∀{l:List ((Str×List Arg)×Str)} {p i:Nat} {r:(Str×List Arg)×Str},l[i]? = some r->(placed p l)[i]? = some (p+((l.take i).map fun r=>r.2.length).sum,r.1)
 | [],_,_,_,h=>nomatch h
 | z::l,p,0,r,h=>by cases h;rfl
 | z::l,p,i+1,r,h=>by
  show(placed (p+z.2.length) l)[i]? = _;rw[tS (l:=l) (p:=p+z.2.length) (i:=i) (r:=r) h,List.take_succ_cons,J0,Uu,Qcy]
def uF:∀{l:List ((Str×List Arg)×Str)} {i:Nat},(l.flatMap fun r=>sg r.2).drop (((l.take i).map fun r=>r.2.length).sum)=(l.drop i).flatMap fun r=>sg r.2
 | [],i=>by simp
 | r::l,0=>rfl
 | r::l,i+1=>by
  rw[List.take_succ_cons,J0,Uu,List.drop_succ_cons,Y3,<-List.drop_drop,str_len,List.drop_left']
  ·exact uF (l:=l) (i:=i)
  ·rfl
def Ln {K:Ja}{H:Hp}{r:Nat×(Str×List Arg)}{v:V}(h:Den K H (pairD r) v):∃tq bp,v = .ref tq/\bg K H tq [.int (r.1:Nat),.ref bp]/\bg K H bp (.str r.2.1::r.2.2.map Arg.v):=by
 unfold pairD Den at h;obtain⟨tq,vs,rfl,h1,h2⟩:=h;unfold aI at h2;obtain⟨x,xs,rfl,hx,hxs⟩:=h2;unfold Den at hx;subst hx;unfold aI at hxs;obtain⟨y,ys,rfl,hy,hys⟩:=hxs;unfold aI at hys;subst hys;obtain⟨bp,rfl,h3⟩:=Iv hy;exact⟨tq,bp,rfl,h1,h3⟩
def E1 (l:List (Nat×(Str×List Arg))):lS (l.map pairD)=true:=by
 induction l with
 | nil=>rfl
 | cons q l ih=>
  show(Mp (pairD q)&&lS (l.map pairD))=true;rw[ih,Bool.and_true];show(true&&lS [gM q.2.1 q.2.2])=true;have:=xA [(q.2.1,q.2.2)];rw[U4];exact this
section
variable {P:Qaf}{w:Qag}{K:Ja}{mg:Str->Option Fk}{base:Heap}{f:Gc}{fd:Qad}{C CF:Gc}
def cv:aD ["_law_script", "_law_state", "_law_parts_here", "_law_form_here", "_law_spot", "_law_bares", "_law_one", "_law_first", "_law_step", "_law_texts", "_law_due", "_law_place", "_law_bare", "_law_text", "_law_whole", "_law_longer", "_law_ends"] ["_law_script"] (aj (top iz)):=⟨rfl,rfl,rfl,∅,rfl,∅,∅⟩
def O8 (F:cj K "law" "law" (top iz) f fd)(T:Nm mg)(yT:Fn P w K mg base 1 "_law_begin" ["_law_script"] (vN K))(bB:Fn P w K mg base 1 "_law_take" ["_law_state", "_law_many"] Ez)(zc:Fn P w K mg base 4 "_law_parts" ["_law_state"] (GV K))(Ao:Fn P w K mg base 9 "_law_form" ["_law_parts_here"] (G4 K CF))(zT:Fn P w K mg base 5 "put_bare" ["form", "bare"] (GU K CF))(Eu:Fn P w K mg base 2 "_law_put" ["_law_parts_here", "_law_bare"] (O2 K))(EX:Fn P w K mg base 6 "bare_at" ["form", "text", "place"] (IX K CF))(zE:Fn P w K mg base 6 "bares_of" ["form", "text"] (Hl K CF))(gq:Fn P w K mg base 8 "_law_same" ["_law_found", "_law_due"] (wG K 8)):
  aW P w K mg base d6 10 f fd ["_law_script"] (Cw K):=by
 refine F.ok cv (fun vs H Q E h =>?_) (fun cW A outer s H vs Q E hr h =>?_)
 ·obtain⟨a,ns,rfl,_⟩:=h
  rfl
 obtain⟨a,ns,rfl,hS,hlen,q⟩:=h;have eu:=hr.units;have hu:=kO hr;have hu1:=hu;have aaa:=Li hr;refine⟨_,(af (aB (i:=1) cv.nd rfl (QbU rfl) (aM (yT.mono ∅) hr rfl (aa (pv 0) ae)))
  (af (aB (i:=2) cv.nd rfl (QbU rfl) (aM (zc.mono ∅) hr rfl (aa (pv 1) ae)))
  (af (aB (i:=3) cv.nd rfl (QbU rfl) (aM (Ao.mono ∅) hr rfl (aa (pv 2) ae)))
  (af (aB (i:=4) cv.nd rfl (QbU rfl) (bQ (kr K) aw (aM (bB.mono ∅) hr rfl (aa (pv 1) (aa ah ae))) (fun _ _=>rfl)))
  (af (aB (i:=5) cv.nd rfl (QbU rfl) (aE bX (aE bX (cn rfl (bM (Nc:=["_law_number"]) (Fc:=["_law_spot"]) (js:=[4])) (dZ rfl T.n_range (aa ah ae)) (bb (i:=0) (n:=1) ∅) (fun _ _ _ _ _=>(ar (i:=0) (nA ["_law_number", "_law_spot"]) rfl (Qae rfl))) (fun _ _ _ _ _=>bP) (fun _ _ _ _ _=>(dg (aa aw (aa (pv 1) (aa (pv 0) ae)))))) (cn rfl (bM (Nc:=["_law_many"]) (Fc:=[]) (js:=[])) (dZ rfl T.n_range (aa ah ae)) (bb (i:=0) (n:=1) ∅) (fun _ _ _ _ _=>(ar (i:=0) (nA ["_law_many"]) rfl (Qae rfl))) (fun _ _ _ _ _=>bP) (fun _ _ _ _ _=>(dg (aa aw (aa (pv 0) ae)))))) (gL (aa (dg (aa aw ae)) ae))))
  (af (eQ Qay rfl (pM aw) (ar (i:=6) cv.nd rfl (QbU rfl)) (af (aB (i:=5) cv.nd rfl (QbU rfl) (aE bX (pv 5) (gL (aa (dg (aa aw (aa (pv 6) ae))) (aa (dg (aa aw (aa (pv 6) ae))) (aa (dg (aa aw (aa (pv 6) (aa (rR lz ah) ae)))) (aa (dg (aa aw (aa (pv 6) (aa ah ae)))) ae)))))))
  (af (aB (i:=5) cv.nd rfl (QbU rfl) (aE bX (aE bX (pv 5) (gL (aa (dg (aa aw (aa (pv 6) (aa ah ae)))) ae))) (cn rfl (bM (Nc:=["_law_other"]) (Fc:=["_law_one"]) (js:=[6])) (pM aw) (bb (i:=0) (n:=1) ∅) (fun _ _ _ _ _=>(ar (i:=0) (nA ["_law_other", "_law_one"]) rfl (Qae rfl))) (fun _ _ _ _ _=>bP) (fun _ _ _ _ _=>(dg (aa aw (aa (pv 1) (aa (pv 0) ae))))))))
  (ag (aB (i:=5) cv.nd rfl (QbU rfl) (aE bX (pv 5) (cn rfl (bM (Nc:=["_law_other"]) (Fc:=["_law_one"]) (js:=[6])) (pM aw) (bb (i:=0) (n:=1) ∅) (fun _ _ _ _ _=>(ar (i:=0) (nA ["_law_other", "_law_one"]) rfl (Qae rfl))) (fun _ _ _ _ _=>bP) (fun _ _ _ _ _=>(dg (aa aw (aa (pv 1) (aa (pv 0) ae))))))))))))
  (af (aB (i:=7) cv.nd rfl (QbU rfl) (aM (bB.mono ∅) hr rfl (aa (pv 1) (aa (av (fK K) rfl T.n_len (by rfl) (aa (pv 5) ae)) ae))))
  (af (aB (i:=8) cv.nd rfl (QbU rfl) (bQ (kr K) (gL (aa ah (aa ah (aa ah (aa ah (aa ah ae)))))) (aM (bB.mono ∅) hr rfl (aa (pv 1) (aa ah ae))) (fun _ _=>rfl)))
  (af (kg Qay (PW.pt (PQ (aK (tm K eu) (aE ig (av (fK K) rfl T.n_len (by rfl) (aa (pv 5) ae)) (pv 8)) ah (aO _)) (K2 (aK RD (pv 8) ah (aO _))))) (ag (aB (i:=8) cv.nd rfl (QbU rfl) (aE jL (pv 8) ah))))
  (af (aB (i:=5) cv.nd rfl (QbU rfl) (cn rfl (bM (Nc:=["_law_k"]) (Fc:=["_law_bares", "_law_first", "_law_step"]) (js:=[5,7,8])) (dZ rfl T.n_range (aa (av (fK K) rfl T.n_len (by rfl) (aa (pv 5) ae)) ae)) (bb (i:=0) (n:=1) ∅) (fun _ _ _ _ _=>(ar (i:=0) (nA ["_law_k", "_law_bares", "_law_first", "_law_step"]) rfl (Qae rfl))) (fun _ _ _ _ _=>bP) (fun _ _ _ _ _=>(bQ (kr K) (pv 1) (aE ig (aE bX (pv 2) (aE qD (pv 3) (pv 0))) (av (fK K) rfl T.n_len (by rfl) (aa (pv 1) ae))) (fun _ _=>rfl)))))
  (af (lK (i:=9) cv.nd rfl (Qae rfl) rfl (bM (Nc:=["_law_bare"]) (Fc:=["_law_form_here"]) (js:=[3])) (Kf K (pv 5)) (bb (i:=0) (n:=1) ∅) (fun _ _ _ _ _=>(ar (i:=0) (nA ["_law_bare", "_law_form_here"]) rfl (Qae rfl))) (fun _ _ _ _ _=>bP) (fun _ _ _ _ _=>(aM (zT.mono ∅) hr rfl (aa (pv 1) (aa (pv 0) ae)))))
  (af (bf (eJ (cN (aM (gq.mono ∅) hr rfl (aa (pv 9) (aa (cn rfl (bM (Nc:=["_law_bare"]) (Fc:=["_law_parts_here"]) (js:=[2])) (Kf K (pv 5)) (bb (i:=0) (n:=1) ∅) (fun _ _ _ _ _=>(ar (i:=0) (nA ["_law_bare", "_law_parts_here"]) rfl (Qae rfl))) (fun _ _ _ _ _=>bP) (fun _ _ _ _ _=>(aM (Eu.mono ∅) hr rfl (aa (pv 1) (aa (pv 0) ae))))) ae))))) (ag (au sX)) aF)
  (af (Pc (i:=10) (j:=11) rfl cv.nd rfl rfl ∅ rfl rfl (aa (gL ae) (aa ah ae)) rfl)
  (af (eQ Qay rfl (p0 K rfl T.n_zip (aa (pv 5) (aa (pv 9) ae))) (tupK K 2 rfl (ay (ar (i:=12) cv.nd rfl (Qae rfl)) (ay (ar (i:=13) cv.nd rfl (Qae rfl)) bD))) (af (jj (uQ K QaP Qa8 Qa7 kE (pv 10) (aa (dg (aa (pv 11) (aa (pv 12) ae))) ae)))
  (ag (aB (i:=11) cv.nd rfl (Qae rfl) (aE bX (pv 11) (av (fK K) rfl T.n_len (by rfl) (aa (pv 13) ae)))))))
  (af (aB (i:=14) cv.nd rfl (Qae rfl) (uQ K QaA Qbl Qbk (uP K) aw (aa (pv 9) ae)))
  (af (bf (eJ (cN (aM (gq.mono ∅) hr rfl (aa (aM (zE.mono ∅) hr rfl (aa (pv 3) (aa (pv 14) ae))) (aa (pv 10) ae))))) (ag (au sX)) aF)
  (af (aB (i:=15) cv.nd rfl (QbU rfl) (aE bX (pv 14) (uQ K QaA Qbl Qbk (uP K) aw (aa (cn rfl (bM (Nc:=["_law_k"]) (Fc:=["_law_state"]) (js:=[1])) (dZ rfl T.n_range (aa ah ae)) (bb (i:=0) (n:=1) ∅) (fun _ _ _ _ _=>(ar (i:=0) (nA ["_law_k", "_law_state"]) rfl (Qae rfl))) (fun _ _ _ _ _=>bP) (fun _ _ _ _ _=>(bQ (kr K) aw (aM (bB.mono ∅) hr rfl (aa (pv 1) (aa ah ae))) (fun _ _=>rfl)))) ae))))
  (af (aB (i:=16) cv.nd rfl (Qae rfl) (aE bX (cn rfl (bM (Nc:=["_law_start", "_law_bare"]) (Fc:=[]) (js:=[])) (Kf K (cT (QA K) (pv 10) (cx ah) gR)) (jK (bR (bb (i:=0) (n:=2) ∅) (bR (bb (i:=1) (n:=2) ∅) gU bA cw) bA (dQ bA cw))) (fun _ _ _ _ _=>(tupK K 2 rfl (ay (ar (i:=0) (nA ["_law_start", "_law_bare"]) rfl (Qae rfl)) (ay (ar (i:=1) (nA ["_law_start", "_law_bare"]) rfl (Qae rfl)) bD)))) (fun _ _ _ _ _=>bP) (fun _ _ _ _ _=>(pv 0))) (gL (aa (pv 11) ae))))
  (ag (au (av (NW K rfl) rfl T.n_all (by rfl) (aa (cn rfl (bM (Nc:=["_law_start", "_law_bare", "_law_end"]) (Fc:=["_law_form_here", "_law_longer"]) (js:=[3,15])) (p0 K rfl T.n_zip (aa (pv 10) (aa (pv 16) ae))) (jK (bR (jK (bR (bb (i:=0) (n:=3) ∅) (bR (bb (i:=1) (n:=3) ∅) gU bA cw) bA (dQ bA cw))) (bR (bb (i:=2) (n:=3) ∅) gU bA cw) (Qg (dQ bA (dQ bA cw))) (dQ bA cw))) (fun _ _ _ _ _=>(tupK K 2 rfl (ay (tupK K 2 rfl (ay (ar (i:=0) (nA ["_law_start", "_law_bare", "_law_end", "_law_form_here", "_law_longer"]) rfl (Qae rfl)) (ay (ar (i:=1) (nA ["_law_start", "_law_bare", "_law_end", "_law_form_here", "_law_longer"]) rfl (Qae rfl)) bD))) (ay (ar (i:=2) (nA ["_law_start", "_law_bare", "_law_end", "_law_form_here", "_law_longer"]) rfl (Qae rfl)) bD)))) (fun _ _ _ _ _=>bP) (fun _ _ _ _ _=>(aM (gq.mono ∅) hr rfl (aa (aM (EX.mono ∅) hr rfl (aa (pv 3) (aa (pv 4) (aa (pv 0) ae)))) (aa (dg (aa (pv 1) (aa (pv 2) ae))) ae))))) ae)))))))))))))))))))))),?_⟩
 refine⟨_,rfl,a,ns,rfl,hS,hlen,fun b c H1 zo hb hc sm1 =>?_⟩;refine gn ?_;refine⟨_,rfl,b,c,0,rfl,zo,⋯,⋯,fun l r1 r2 r3 rf wV vB near dM H3 t3 gd3 hl0 tF hD gK=>gn ?_⟩;obtain⟨lb,lc⟩:=zo.bq hl0;have mf:ip H3 b c l=some (.lst [r1,r2,r3,.int near,.int dM]):=by rw[cZ lb lc];exact tF
 have hD5:aI K (ip H3 b c) [aQ rf,aQ wV,aQ vB,.int near,.int dM] [r1,r2,r3,.int near,.int dM]:=bJ (jY (j:=0) hD rfl rfl) (bJ (jY (j:=1) hD rfl rfl) (bJ (jY (j:=2) hD rfl rfl) (bJ u4 (bJ u4 fM))));have fv:=Du gd3 hD5;refine⟨_,rfl,l,r1,r2,r3,.int near,.int dM,_,_,_,_,_,rfl,aX.of tF,⟨fv.e1.same cJ,fv.e2.same cJ,fv.e3.same cJ,fv.e4.same cJ,fv.e5.same cJ,fv.f1,fv.f2,fv.f3⟩,gd3.why,fun m H4 s4 hm0 fo=>gn ?_⟩;obtain⟨mb,mc⟩:=gK.bx.bq hm0;have j1:=gK.trans (Step.same gK.bx s4);obtain⟨fr,en,ef⟩:=gd3.frm;rw[en,ef] at mf fo;generalize hF:(⟨rf,wV,vB,near.toNat,dM.toNat⟩:Fb)=Fo at fr;have fo:nh K CF H4 m Fo:=by rw[<-hF];exact fo
 have fo:=Ff j1.bx mb mc fo;have hP:uK K (ip H4 b c) l Fo:=by
  refine uK.same ?_ (ak.ip (b:=b) (c:=c) s4);rw[<-hF];exact⟨r1,r2,r3,aX.of mf,hD⟩
 clear hF fv gd3 en ef hD hD5 mf tF gK s4;have W6:=j1.ub;have Wn:=j1.le;refine⟨_,rfl,b,c,t3,4,rfl,j1.bx,⋯,⋯,∅,∅,fun r5 H5 r50 r51 dU =>?_⟩;obtain⟨c5,e5,hy⟩:=KB r50 r51;refine .inr (.inr ⟨_,_,c5,rfl,rfl,∅,e5,gn ?_⟩);clear r50 r51 e5;generalize (⟨#[c5]⟩:Str)=y at hy ⊢;have hP:=hP.same dU.sm;have fo:=fo.same dU.sm;have dU:=j1.trans dU;clear j1 W6 Wn;have W8:=dU.ub;have Vs:=dU.le;dsimp only;have ZV:=fun{z:Str} (hz:z∈bI)=>y9 fr hy hz;refine gu (te:=zr _ _ _) (fun v H'=>∃l6,v = .ref l6/\ak H5 H'/\H5 l6=none/\tu K Fo H' l6 265) (fun Qn qn =>?_) ?_
 ·dsimp only[zr];refine M5 (t:=oY _ _ _ _ _ _) (fun v H'=>∃l',v = .ref l'/\ak H5 H'/\tu K Fo H' l' 256) (fun Qm qm =>?_) ?_
  ·refine⟨256,rfl,∅,∅,?_⟩;refine iC (N:=256) (fun i ys H'=>∃bs,ak H5 H'/\aI K H' (bs.map fun b=>gM b.1 b.2) ys/\(∀b∈bs,Wr Fo b)/\bs.length=i) ⟨[],ak.refl _,fM,(fun _ h=>nomatch h),rfl⟩ ?_ ?_
   ·rintro i ys H' Nx hi ⟨bs,s',d',ok',rfl⟩ nx;refine⟨hi,by rw[d'.len,Jc];exact U7 hi ∅,?_⟩;rintro x' H3 ⟨rfl,rfl⟩;rw[QfY];refine gn ⟨_,rfl,_,rfl,by show 3<=M2;decide,fun tp H4 n4=>nx _ _ ⟨bs++[(("set" : Str),[Arg.sp y,Arg.nu bs.length])],s'.trans n4.same,j5 (w := "set") (as:=[.sp y,.nu bs.length]) (d'.same n4.same) n4.at,fun b hb =>?_,by rw[Jp];rfl⟩⟩
    rcases J9.mp hb with hb|hb
    ·exact ok' b hb
    ·rw[Js.mp hb];refine mY ⟨("set",["spot", "number"]),∅,rfl,rfl⟩ fun a ha=>ZV hy a ?_;simp only[Jw,Uq,or_false] at ha
     rcases ha with rfl|rfl
     ·exact .inl rfl
     ·exact .inr (.inr (.inl ⟨_,⋯,rfl⟩))
   ·rintro ys H' ⟨bs,s',d',ok',hl⟩;exact⟨Je _,fun p H4 n4=>qm _ _ ⟨p,rfl,s'.trans n4.same,bs,ys,n4.at,d'.same n4.same,ok',hl⟩⟩
  rintro v H6 ⟨l6,rfl,s6,b6⟩;refine M5 (t:=oY _ _ _ _ _ _) (fun v H'=>∃l',v = .ref l'/\ak H6 H'/\tu K Fo H' l' 8) (fun Qm qm =>?_) ?_
  ·refine⟨8,rfl,∅,∅,?_⟩;refine iC (N:=8) (fun i ys H'=>∃bs,ak H6 H'/\aI K H' (bs.map fun b=>gM b.1 b.2) ys/\(∀b∈bs,Wr Fo b)/\bs.length=i) ⟨[],ak.refl _,fM,(fun _ h=>nomatch h),rfl⟩ ?_ ?_
   ·rintro i ys H' Nx hi ⟨bs,s',d',ok',rfl⟩ nx;refine⟨hi,by rw[d'.len,Jc];exact U7 hi ∅,?_⟩;rintro x' H3 ⟨rfl,rfl⟩;rw[QfY];refine gn ⟨_,rfl,by show 2<=M2;decide,fun tp H4 n4=>nx _ _ ⟨bs++[(("skip" : Str),[Arg.ma bs.length])],s'.trans n4.same,j5 (w := "skip") (as:=[.ma bs.length]) (d'.same n4.same) n4.at,fun b hb =>?_,by rw[Jp];rfl⟩⟩
    rcases J9.mp hb with hb|hb
    ·exact ok' b hb
    ·rw[Js.mp hb];refine mY ⟨("skip",["many"]),∅,rfl,rfl⟩ fun a ha=>ZV hy a ?_;rw[Js.mp ha];exact .inr (.inr (.inr (.inl ⟨_,⋯,rfl⟩)))
   ·rintro ys H' ⟨bs,s',d',ok',hl⟩;exact⟨Je _,fun p H4 n4=>qm _ _ ⟨p,rfl,s'.trans n4.same,bs,ys,n4.at,d'.same n4.same,ok',hl⟩⟩
  rintro v H7 ⟨l7,rfl,s7,b7⟩;refine ky (b6.same s7) b7 ∅ fun l8 H8 s8 _ b8 =>?_;refine⟨by show 1<=M2;decide,fun t9 H9 n9=>⟨by show 1<=M2;decide,fun l10 H10 n10 =>?_⟩⟩;have Zr:tu K Fo H10 l10 1:=by
   refine⟨[("stop",[])],[.ref t9],n10.at,j5 (bs:=[]) (w := "stop") (as:=[]) fM (n10.same _ _ n9.at),fun b hb =>?_,rfl⟩;rw[Js.mp hb];exact mY ⟨("stop",[]),∅,rfl,rfl⟩ fun a ha=>nomatch ha
  have Qy:=s6.trans (s7.trans (s8.trans (n9.same.trans n10.same)));refine ky (b8.same (n9.same.trans n10.same)) Zr ∅ fun l11 H11 s11 n11 VI=>qn _ _ ⟨l11,rfl,Qy.trans s11,?_,VI⟩;cases z:H5 l11 with
  | none=>rfl
  | some o=>rw[Qy _ _ z] at n11;cases n11
 rintro v H6 ⟨l6,rfl,s6,l60,hb6⟩;refine gn ?_;refine dJ (t:=An _ _ _) (fun σ H'=>∃(l':Gc) (x6:Option V),σ=[some (.ref a),some (.ref b),some (.ref l),some (.ref m),some (.str y),some (.ref l'),x6,none,none,none,none,none,none,none,none,none,none]/\ak H5 H'/\H5 l'=none/\tu K Fo H' l' 317) (fun Nx nx =>?_) ?_
 ·have h4:(Wp "abcd").cps.size=4:=∅;refine⟨Wp "abcd",rfl,∅,?_⟩;refine j3 (N:=(Wp "abcd").cps.size) (fun i σ H'=>∃(l':Gc) (x6:Option V),σ=[some (.ref a),some (.ref b),some (.ref l),some (.ref m),some (.str y),some (.ref l'),x6,none,none,none,none,none,none,none,none,none,none]/\ak H5 H'/\H5 l'=none/\tu K Fo H' l' (265+13*i)) ⟨l6,_,rfl,s6,l60,hb6⟩ ?_ ?_
  ·rintro i σ H' hi ⟨l',x6,rfl,s',l0',b'⟩;refine⟨hi,?_⟩;rintro y' H2 ⟨rfl,hy'⟩;have hc:(Wp "abcd").cps[i]? = some ((Wp "abcd").cps[i]):=J1 hi;have e:=hy' _ hc;subst e;have hz:=xH hc;generalize (⟨#[(Wp "abcd").cps[i]]⟩:Str)=z at hz ⊢;refine gn ?_;have QC:=fun{u:Str} (hu:u∈bI)=>y9 fr hz hu;have s2:=s';dsimp only;refine gu (te:=zr _ _ _) (fun v H3=>∃l3,v = .ref l3/\ak H2 H3/\H2 l3=none/\tu K Fo H3 l3 (265+13*i+4)) (fun Qn qn =>?_) ?_
   ·dsimp only[zr];refine⟨_,rfl,_,rfl,by show 2<=M2;decide,fun t1 H3 n3=>⟨_,rfl,by show 2<=M2;decide,fun t2 H4 n4=>⟨_,rfl,_,rfl,by show 3<=M2;decide,fun t3' H6 n6=>⟨_,rfl,by show 3<=M2;decide,fun t4 H7 n7=>⟨by show 4<=M2;decide,fun l8 H8 n8 =>?_⟩⟩⟩⟩⟩;have ZM:=n7.same.trans n8.same;have s68:=n6.same.trans ZM;have s48:=n4.same.trans s68;have Wj:tu K Fo H8 l8 4:=by
     refine⟨[("tell",[.sp z]),("ask",[.sp z]),("zero",[.sp z,.ne (-1)]),("farzero",[.sp z,.fa 2])],[.ref t1,.ref t2,.ref t3',.ref t4],n8.at,?_,?_,rfl⟩
     ·exact bJ (gW (w := "tell") (as:=[.sp z]) (bg.of (s48 _ _ n3.at))) (bJ (gW (w := "ask") (as:=[.sp z]) (bg.of (s68 _ _ n4.at))) (bJ (gW (w := "zero") (as:=[.sp z,.ne (-1)]) (bg.of (ZM _ _ n6.at))) (bJ (gW (w := "farzero") (as:=[.sp z,.fa 2]) (bg.of (n8.same _ _ n7.at))) fM)))
     ·intro b hb;simp only[Jw,Uq,or_false] at hb
      rcases hb with rfl|rfl|rfl|rfl
      ·refine mY ⟨("tell",["spot"]),∅,rfl,rfl⟩ fun a ha=>QC hz a ?_;rw[Js.mp ha];exact .inl rfl
      ·refine mY ⟨("ask",["spot"]),∅,rfl,rfl⟩ fun a ha=>QC hz a ?_;rw[Js.mp ha];exact .inl rfl
      ·refine mY ⟨("zero",["spot", "near"]),∅,rfl,rfl⟩ fun a ha=>QC hz a ?_;simp only[Jw,Uq,or_false] at ha
       rcases ha with rfl|rfl
       ·exact .inl rfl
       ·exact .inr (.inr (.inr (.inr (.inl rfl))))
      ·refine mY ⟨("farzero",["spot", "far"]),∅,rfl,rfl⟩ fun a ha=>QC hz a ?_;simp only[Jw,Uq,or_false] at ha
       rcases ha with rfl|rfl
       ·exact .inl rfl
       ·exact .inr (.inr (.inr (.inr (.inr rfl))))
    have Xf:=n3.same.trans s48;refine ky (b'.same Xf) Wj ⋯ fun l9 H9 s9 n9 b9=>qn _ _ ⟨l9,rfl,Xf.trans s9,?_,b9⟩;cases z':H2 l9 with
    | none=>rfl
    | some o=>rw[Xf _ _ z'] at n9;cases n9
   rintro v H3 ⟨l3,rfl,s3,l30,b3⟩;refine gn ?_;have cmp:∀(kd:Str),(kd = "add" \/ kd = "take")->∀(x5:Option V) (H:Hp) (Q:VK),(∀l' H',ak H H'->H l'=none->tu K Fo H' l' 4->Q (.ref l') H') ->
     oY (RV (tC (V.str (Wp "abcd")))) [Wp "_law_other"].length [6] (sy 0) N3 (Im (m7 (tC (V.str kd)) (m7 (G5 1) (m7 (G5 0) GH))))
      [some (.ref a),some (.ref b),some (.ref l),some (.ref m),some (.str y),x5,some (.str z),none,none,none,none,none,none,none,none,none,none] H Q:=by
    intro kd hkd x5 H Q q;refine⟨Wp "abcd",rfl,∅,?_⟩;refine iC (N:=(Wp "abcd").cps.size) (fun i ys H'=>∃bs,ak H H'/\aI K H' (bs.map fun b=>gM b.1 b.2) ys/\(∀b∈bs,Wr Fo b)/\bs.length=i) ⟨[],ak.refl _,fM,(fun _ h=>nomatch h),rfl⟩ ?_ ?_
    ·rintro i ys H' Nx hi ⟨bs,s',d',ok',rfl⟩ nx;refine⟨hi,by rw[d'.len,Jc];exact U7 hi (by rw[h4];decide),?_⟩;rintro y' H3 ⟨rfl,hy'⟩;have hc:(Wp "abcd").cps[bs.length]? = some ((Wp "abcd").cps[bs.length]):=J1 hi;have e:=hy' _ hc;subst e;have hu:=xH hc;generalize (⟨#[(Wp "abcd").cps[bs.length]]⟩:Str)=u at hu ⊢;refine gn ⟨_,rfl,_,rfl,by show 3<=M2;decide,fun tp H4 n4=>nx _ _ ⟨bs++[(kd,[Arg.sp z,Arg.sp u])],s'.trans n4.same,j5 (w:=kd) (as:=[.sp z,.sp u]) (d'.same n4.same) n4.at,fun b hb =>?_,by rw[Jp];rfl⟩⟩
     rcases J9.mp hb with hb|hb
     ·exact ok' b hb
     ·rw[Js.mp hb];refine mY (by rcases hkd with rfl|rfl;exact⟨("add",["spot", "spot"]),∅,rfl,rfl⟩;exact⟨("take",["spot", "spot"]),∅,rfl,rfl⟩) fun a ha=>QC hu a ?_;simp only[Jw,Uq,or_false] at ha
      rcases ha with rfl|rfl
      ·exact .inl rfl
      ·exact .inr (.inl rfl)
    ·rintro ys H' ⟨bs,s',d',ok',hl⟩;exact⟨Je _,fun p H4 n4=>q p _ (s'.trans n4.same) (by
      cases z':H p with
      | none=>rfl
      | some o=>have:=n4.nn;rw[s' _ _ z'] at this;cases this) ⟨bs,ys,n4.at,d'.same n4.same,ok',by rw[hl,h4]⟩⟩
   refine gu (te:=zr _ _ _) (fun v H'=>∃l',v = .ref l'/\ak H3 H'/\H3 l'=none/\tu K Fo H' l' (265+13*i+4+1+4)) (fun Qn qn =>?_) ?_
   ·dsimp only[zr];refine⟨_,rfl,_,rfl,by show 3<=M2;decide,fun t1 H4 n4=>⟨by show 1<=M2;decide,fun l5 H6 n6 =>?_⟩⟩;have CD:tu K Fo H6 l5 1:=by
     refine⟨[("set",[.sp z,.nu 5])],[.ref t1],n6.at,j5 (bs:=[]) (w := "set") (as:=[.sp z,.nu 5]) fM (n6.same _ _ n4.at),fun b hb =>?_,rfl⟩;rw[Js.mp hb];refine mY ⟨("set",["spot", "number"]),∅,rfl,rfl⟩ fun a ha=>QC hz a ?_;simp only[Jw,Uq,or_false] at ha
     rcases ha with rfl|rfl
     ·exact .inl rfl
     ·exact .inr (.inr (.inl ⟨5,∅,rfl⟩))
    refine ky (b3.same (n4.same.trans n6.same)) CD ⋯ fun l7 H7 s7 _ b7 =>?_;refine cmp "add" (.inl rfl) _ _ _ fun l8 H8 s8 _ b8 =>?_;have s38:=(n4.same.trans n6.same).trans (s7.trans s8);refine ky (b7.same s8) b8 ⋯ fun l9 H9 s9 n9 b9=>qn _ _ ⟨l9,rfl,s38.trans s9,?_,b9⟩;cases z':H3 l9 with
    | none=>rfl
    | some o=>rw[s38 _ _ z'] at n9;cases n9
   rintro v H4 ⟨l4,rfl,s4,l40,b4⟩;refine gn ?_;refine N2 (te:=zr _ _ _) (fun v H'=>∃l',v = .ref l'/\ak H4 H'/\H4 l'=none/\tu K Fo H' l' (265+13*(i+1))) (fun Qn qn =>?_) ?_
   ·dsimp only[zr];refine⟨_,rfl,?_⟩;refine cmp "take" (.inr rfl) _ _ _ fun l8 H8 s8 _ b8 =>?_;refine ky (b4.same s8) b8 ⋯ fun l9 H9 s9 n9 b9=>qn _ _ ⟨l9,rfl,s8.trans s9,?_,?_⟩
    ·cases z':H4 l9 with
     | none=>rfl
     | some o=>rw[s8 _ _ z'] at n9;cases n9
    ·have:265+13*i+4+1+4+4=265+13*(i+1):=by lia
     rw[<-this];exact b9
   rintro v H6' ⟨l5,rfl,s5,l50,b5⟩;have Wq:=s2.trans (s3.trans (s4.trans s5));refine gn ⟨l5,_,rfl,Wq,?_,b5⟩;cases z':H5 l5 with
   | none=>rfl
   | some o=>rw[s4 _ _ (s3 _ _ (s2 _ _ z'))] at l50;cases l50
  ·rintro σ H' ⟨l',x6,rfl,s',l0',b'⟩;exact⟨Je _,nx _ _ ⟨l',x6,rfl,s',l0',b'⟩⟩
 rintro σ H7 ⟨l7,x6,rfl,s7,l70,Tv⟩;obtain⟨l7b,l7c⟩:=dU.bx.bq l70;have tw:=dU.trans (Step.same dU.bx s7);have hP:=hP.same (Step.same dU.bx s7).sm;have fo:=fo.same (Step.same dU.bx s7).sm;have Tv:=Tv.hide tw.bx l7b l7c;clear dU s7 l70 W8 Vs hb6 s6 l60;have ub7:=tw.ub;have lo7:=tw.le;have TK:=Tv.same cJ;obtain⟨bs,vs,v1,v2,v3,v4⟩:=id TK;have vl:vs.length=317:=by rw[v2.len,Jc,v4]
 refine⟨_,rfl,_,rfl,_,_,rfl,.inl ⟨vs,aX.of v1,rfl⟩,b,c,_,(317:Int),by rw[vl];rfl,tw.bx,⋯,⋯,∅,∅,fun r8 H8 r80 r81 kM=>gn ?_⟩;obtain⟨j8,hj8⟩:∃j:Nat,r8=j:=⟨r8.toNat,⋯⟩
 subst hj8;have j8l:j8<317:=by lia
 have hP:=hP.same kM.sm;have fo:=fo.same kM.sm;have hb8:=Tv.same kM.sm;have kM:=tw.trans kM;clear Tv TK v1 v2 v3 v4 vl r80 r81 tw;refine⟨by show 5<=M2;decide,fun l9 H9 n9 =>?_⟩;have mX:=kM.trans (Step.same kM.bx n9.same);have ZR:=mX.ub;have lo9:=mX.le;refine⟨_,rfl,b,c,_,5,rfl,mX.bx,⋯,⋯,∅,∅,fun r10 H10 r100 r101 gN =>?_⟩;obtain⟨l9b,l9c⟩:=kM.bx.bq n9.nn;have h9:=gN.old n9.at l9b l9c;have s9:=(Step.same kM.bx n9.same).sm;have hP:=(hP.same s9).same gN.sm;have fo:=(fo.same s9).same gN.sm;have RZ:=(hb8.same s9).same gN.sm;have gN:=mX.trans gN;obtain⟨O9,hk10,h10a,h10b⟩:∃k:Nat,CL [V.int 1,V.int 5,V.int 7,V.int 11,V.int 13] r10=some (.int (k:Nat))/\1<=k/\k<=13:=by
  have:r10=0\/r10=1\/r10=2\/r10=3\/r10=4:=by lia
  rcases this with rfl|rfl|rfl|rfl|rfl
  ·exact⟨1,rfl,∅,∅⟩
  ·exact⟨5,rfl,∅,∅⟩
  ·exact⟨7,rfl,∅,∅⟩
  ·exact⟨11,rfl,∅,∅⟩
  ·exact⟨13,rfl,∅,∅⟩
 refine .inl ⟨l9,_,_,_,rfl,rfl,aX.of h9,hk10,gn ?_⟩;clear mX s9 hb8 kM ZR lo9 ub7 lo7 h9;have Mv:=RZ.same cJ;obtain⟨bs,vs,v1,v2,v3,v4⟩:=id Mv;have vl:vs.length=317:=by rw[v2.len,Jc,v4]
 refine dJ (t:=ll _ _) (fun σ H'=>∃k:Nat,1<=k/\k<=13 /\ σ=[some (.ref a),some (.ref b),some (.ref l),some (.ref m),some (.str y),some (.ref l7),x6,some (.int (j8:Nat)),some (.int (k:Nat)),none,none,none,none,none,none,none,none]/\H'=H10) (fun Nx nx =>?_) ?_
 ·refine mv (fun n σ H'=>∃k:Nat,n=k/\1<=k/\k<=13 /\ σ=[some (.ref a),some (.ref b),some (.ref l),some (.ref m),some (.str y),some (.ref l7),x6,some (.int (j8:Nat)),some (.int (k:Nat)),none,none,none,none,none,none,none,none]/\H'=H10) ⟨_,O9,rfl,h10a,h10b,rfl,rfl⟩ ?_;rintro n σ H' ⟨k,rfl,ka,kb,rfl,rfl⟩;refine⟨_,rfl,_,_,rfl,.inl ⟨vs,aX.of v1,rfl⟩,_,rfl,?_⟩;refine⟨_,_,rfl,rfl,⋯,.inl ⟨rfl,_,rfl,?_⟩⟩;refine fR (fun _ =>?_) (fun _ =>?_)
  ·refine⟨_,rfl,_,_,rfl,rfl,_,rfl,?_⟩;refine fR (fun c1 =>?_) (fun _=>nx _ _ ⟨n,ka,kb,rfl,rfl⟩);have c1:(1:Int)<(n:Nat):=of_decide_eq_true c1;refine⟨_,fun _ _ h=>h,_,rfl,_,_,rfl,rfl,gn ⟨n-1,⋯,n-1,rfl,⋯,⋯,?_,rfl⟩⟩;show[_,_,_,_,_,_,_,_,some (V.int ((n:Int)-1)),_,_,_,_,_,_,_,_]=_;rw[show((n:Int)-1)=((n-1:Nat):Int) by lia]
  ·exact bF (nx _ _ ⟨n,ka,kb,rfl,rfl⟩)
 rintro σ H' ⟨k,ka,kb,rfl,rfl⟩;refine gu (te:=oY _ _ _ _ _ _) (fun v H11=>∃l11,v = .ref l11/\ak H' H11/\H' l11=none/\tu K Fo H11 l11 317) (fun Qn qn =>?_) ?_
 ·refine⟨_,rfl,_,_,rfl,.inl ⟨vs,aX.of v1,rfl⟩,_,rfl,⋯,⋯,?_⟩;refine iC (N:=317) (fun i ys Hx=>∃bs',Hx=H'/\aI K H' (bs'.map fun b=>gM b.1 b.2) ys/\(∀b∈bs',Wr Fo b)/\bs'.length=i) ⟨[],rfl,fM,(fun _ h=>nomatch h),rfl⟩ ?_ ?_
  ·rintro i ys Hx Nx hi ⟨bs',rfl,d',ok',rfl⟩ nx;refine⟨by show bs'.length<((vs.length:Nat):Int).toNat;lia,by rw[d'.len,Jc];exact U7 hi ∅,?_⟩;rintro x' H3 ⟨rfl,rfl⟩;rw[QfY];obtain⟨q',eq'⟩:∃q':Nat,q'=(j8+k*bs'.length)%317:=⟨_,rfl⟩
   have q3:q'<317:=by rw[eq'];exact Nat.mod_lt _ ∅
   obtain⟨v,hv,dv⟩:=v2.get (i:=q') (d:=gM (bs[q']'⋯).1 (bs[q']'⋯).2) (by rw[Jj,Jd ⋯];rfl);have ei:((j8:Int)+(k:Int)*(bs'.length:Int))%((vs.length:Nat):Int)=((q':Nat):Int):=by
    rw[vl,eq'];push_cast;rfl
   refine gn ⟨_,rfl,_,rfl,_,rfl,_,rfl,.inl ⟨_,_,rfl,rfl,.inl ⟨⋯,⋯⟩,.inl ⟨_,_,rfl,rfl,_,rfl,_,_,rfl,.inl ⟨vs,aX.of v1,rfl⟩,_,_,rfl,rfl,⋯,.inl ⟨l7,vs,_,v,rfl,rfl,aX.of v1,?_,nx _ _ ⟨bs'++[bs[q']'⋯],rfl,?_,fun b hb =>?_,by rw[Jp];rfl⟩⟩⟩⟩⟩
   ·rw[ei];exact kn hv
   ·rw[Ju];exact pY d' dv
   ·rcases J9.mp hb with hb|hb
    ·exact ok' b hb
    ·rw[Js.mp hb];exact v3 _ (Ud _)
  ·rintro ys Hx ⟨bs',rfl,d',ok',hl⟩;exact⟨by show((vs.length:Nat):Int).toNat<=317;lia,fun p H4 n4=>qn _ _ ⟨p,rfl,n4.same,n4.nn,bs',ys,n4.at,d'.same n4.same,ok',hl⟩⟩
 rintro v H11 ⟨l11,rfl,s11,l110,hb11⟩;refine gn ?_;clear RZ Mv v1 v2 v3 v4 vl;clear bs vs;obtain⟨bs,vs,v1,v2,v3,v4⟩:=id hb11;have vl:vs.length=317:=by rw[v2.len,Jc,v4]
 have El:=gN.trans (Step.same gN.bx s11);have Nj:=(Step.same gN.bx s11).sm;have hP:=hP.same Nj;have fo:=fo.same Nj;obtain⟨l11b,l11c⟩:=gN.bx.bq l110;clear s11 Nj l110 gN;have row:∀i,i<317->∃p b,vs[i]? = some (.ref p)/\bs[i]? = some b/\bg K H11 p (.str b.1::b.2.map Arg.v)/\Wr Fo b:=fun i hi=>by
  obtain⟨v,hv,dv⟩:=v2.get (i:=i) (d:=gM (bs[i]'⋯).1 (bs[i]'⋯).2) (by rw[Jj,Jd ⋯];rfl);obtain⟨p,rfl,hp⟩:=Iv dv;exact⟨p,_,hv,Jd ⋯,hp,v3 _ (Ud _)⟩
 refine gu (te:=oY _ _ _ _ _ _) (fun v H12=>∃(FF:Gc) (xs:List Str),v = .ref FF/\ak H11 H12/\H12 FF=some (.lst (xs.map V.str))/\xs.length=317/\∀(j:Nat) x b,xs[j]? = some x->bs[j]? = some b->fC Fo b.1 b.2=some x) (fun Qn qn =>?_) ?_
 ·refine⟨_,rfl,l11,rfl,⟨_,aX.of v1⟩,?_⟩;refine iC (N:=317) (fun i ys Hx=>∃xs:List Str,ys=xs.map V.str/\ak H11 Hx/\xs.length=i/\∀(j:Nat) x b,xs[j]? = some x->bs[j]? = some b->fC Fo b.1 b.2=some x) ⟨[],rfl,ak.refl _,rfl,fun _ _ _ h=>nomatch h⟩ ?_ ?_
  ·rintro i ys Hx Nx hi ⟨xs,rfl,s',rfl,hx⟩ nx;obtain⟨p,b0,hv,hb0,hp,ba,x,ex⟩:=row _ hi;have rA:=aX.of (K:=K) (s' _ _ v1);refine⟨⟨_,_,rA,hv⟩,by rw[Jc];exact U7 hi ∅,?_⟩;rintro x' H3 ⟨rfl,hy'⟩;have e:=hy' _ rA;rw[hv] at e;cases e;refine gn ⟨_,rfl,_,rfl,m,p,Fo,b0.1,b0.2,x,rfl,(fo.same cJ).same s',fr,ba,s'.bZ hp,ex,fun H4 s4=>nx _ _ ⟨xs++[x],by rw[Ju];rfl,s'.trans s4,by rw[Jp];rfl,fun j x1 b1 e1 e2 =>?_⟩⟩
   rcases NM e1 with e1|⟨rfl,rfl⟩
   ·exact hx j x1 b1 e1 e2
   ·rw[hb0] at e2;cases e2;exact ex
  ·rintro ys Hx ⟨xs,rfl,s',hl,hx⟩;exact⟨⟨_,aX.of (s' _ _ v1),⋯⟩,fun p H4 n4=>qn _ _ ⟨p,xs,rfl,s'.trans n4.same,n4.at,hl,hx⟩⟩
 rintro v H12 ⟨FF,xs,rfl,xf,JZ,xl,hx⟩;refine gn ?_;have N8:∀x∈xs,x.length<=100:=fun x hm=>by
  obtain⟨j,hj⟩:=J7.mp hm;have jl:j<317:=by rw[<-xl];exact(Jm.mp hj).1
  obtain⟨_,b0,_,hb0,_,ba,_⟩:=row j jl;exact Lv fr ba (hx j x b0 hj hb0)
 have Lg:=El.trans (Step.same El.bx xf);have Ov:=(Step.same El.bx xf).sm;have hP:=hP.same Ov;have fo:=fo.same Ov;have v1:=xf _ _ v1;refine dJ (t:=xg _ _ _) (fun σ H' =>σ=[some (.ref a),some (.ref b),some (.ref l),some (.ref m),some (.str y),some (.ref l11),x6,some (.int (j8:Nat)),some (.int (k:Nat)),some (.ref FF),none,none,none,none,none,none,none]/\ak H12 H') (fun Nx nx =>?_) ?_
 ·dsimp only[xg,OL,tB,tf,m7];refine⟨_,rfl,_,rfl,l11,rfl,⟨_,aX.of v1⟩,?_⟩;refine dw (N:=317) (fun i ys Hx=>ak H12 Hx/\ys=(xs.take i).map V.str) ⟨ak.refl _,rfl⟩ ?_ ?_
  ·rintro i ys Hx Nx hi ⟨s',rfl⟩ nx;obtain⟨p,b0,hv,hb0,hp,ba,x,ex⟩:=row _ hi;have rA:=aX.of (K:=K) (s' _ _ v1);refine⟨⟨_,_,rA,hv⟩,by rw[Jc,Uc];exact J6 (Nat.min_le_left _ _) (U7 hi ∅),?_⟩;rintro x' H3 ⟨rfl,hy'⟩;have e:=hy' _ rA;rw[hv] at e;cases e;refine gn ⟨_,rfl,_,rfl,l,p,Fo,b0.1,b0.2,rfl,(hP.same cJ).same s',fr,ba,(xf.trans s').bZ hp,fun H4 s4 =>?_⟩;have Kb:xs[i]? = some (xs[i]'⋯):=Jd _;rw[hx i _ b0 Kb hb0];exact nx _ _ ⟨s'.trans s4,by rw[cV ⋯,Ju];rfl⟩
  ·rintro ys Hx ⟨s',rfl⟩;rw[Us ⋯];refine⟨⟨_,aX.of (s' _ _ v1),⋯⟩,fun p hp =>?_⟩;have sp:=bG hp (.lst (xs.map V.str));refine⟨.ref FF,.ref p,.list (xs.map QbB),rfl,CQ (sp _ _ (s' _ _ JZ)) (Den.strs xs),CQ aq (Den.strs xs),?_,?_,fun H' s''=>⟨_,rfl,bF (nx _ _ ⟨rfl,s'.trans (sp.trans s'')⟩)⟩⟩
   ·simp only[Qa0];have:=qb (m:=0) (ds:=xs.map QbB) fun d hd=>by
     obtain⟨x,_,rfl⟩:=Ut.mp hd;simp[Qa0]
    lia
   ·simp only[Qaz];have:=Cz N8;lia
 rintro σ H13 ⟨rfl,Hy⟩;refine⟨by show 0<=M2;decide,fun l14 H14 n14=>⟨_,_,rfl,?_⟩⟩;have JZ:=Hy _ _ JZ;have v1:=Hy _ _ v1;have v2:=v2.same (xf.trans Hy);have IV:=Lg.trans (Step.same Lg.bx Hy);have Ou:=(Step.same Lg.bx Hy).sm;have hP:=hP.same Ou;have fo:=fo.same Ou;have row:∀i,i<317->∃p b,vs[i]? = some (.ref p)/\bs[i]? = some b/\bg K H13 p (.str b.1::b.2.map Arg.v)/\Wr Fo b:=fun i hi=>by
  obtain⟨p,b0,e1,e2,e3,e4⟩:=row i hi;exact⟨p,b0,e1,e2,(xf.trans Hy).bZ e3,e4⟩
 clear Lg El xf Hy Ov Ou;obtain⟨zs,ezs⟩:∃zs,zs=bs.zip xs:=⟨_,rfl⟩
 have zl:zs.length=317:=by rw[ezs,Yh,xl,v4];rfl
 have zat:∀i b x,bs[i]? = some b->xs[i]? = some x->zs[i]? = some (b,x):=fun i b x e1 e2=>by
  rw[ezs];exact U5.mpr ⟨e1,e2⟩
 dsimp only;refine dJ (t:=An _ _ _) (fun σ H'=>∃(qj:List V) (M1 My:Option V),σ=[some (.ref a),some (.ref b),some (.ref l),some (.ref m),some (.str y),some (.ref l11),x6,some (.int (j8:Nat)),some (.int (k:Nat)),some (.ref FF),some (.ref l14),some (.int ((zs.map fun r=>r.2.length).sum:Nat)),M1,My,none,none,none]/\ak H13 H'/\H' l14=some (.lst qj)/\aI K (jA H' l14) ((placed 0 zs).map pairD) qj) (fun Nx nx =>?_) ?_
 ·refine⟨_,rfl,_,rfl,false,false,l11,FF,rfl,⟨_,n14.same.seq (aX.of v1)⟩,⟨_,n14.same.seq (aX.of JZ)⟩,?_⟩;refine j3 (N:=317) (fun i σ H'=>∃(qj:List V) (M1 My:Option V),σ=[some (.ref a),some (.ref b),some (.ref l),some (.ref m),some (.str y),some (.ref l11),x6,some (.int (j8:Nat)),some (.int (k:Nat)),some (.ref FF),some (.ref l14),some (.int (((zs.take i).map fun r=>r.2.length).sum:Nat)),M1,My,none,none,none]/\ak H13 H'/\H' l14=some (.lst qj)/\aI K (jA H' l14) ((placed 0 (zs.take i)).map pairD) qj/\((zs.take i).map fun r=>r.2.length).sum<=100*i) ⟨[],_,_,rfl,n14.same,n14.at,fM,Je _⟩ ?_ ?_
  ·rintro i σ H' hi ⟨qj,M1,My,rfl,s',rA,d',hs'⟩;obtain⟨p,b0,hv,hb0,hp,ba,_⟩:=row _ hi;have Kb:xs[i]? = some (xs[i]'⋯):=Jd _;have hz:=zat i b0 _ hb0 Kb;have ND:=N8 _ (J2 Kb);generalize xs[i]'⋯=x at Kb hz ND;have De:zs.take (i+1)=zs.take i++[(b0,x)]:=by
    obtain⟨h1,h2⟩:=Jm.mp hz;rw[cV h1,h2]
   have q1:kI false K H' l11 vs:=s'.seq (aX.of v1);have q2:kI false K H' FF (xs.map V.str):=s'.seq (aX.of JZ);have RG:(xs.map V.str)[i]? = some (.str x):=by rw[Jj,Kb];rfl
   refine⟨⟨_,_,_,_,q1,q2,hv,RG⟩,?_⟩;rintro x' H3 ⟨T',rfl,hN⟩;have n3:=hN _ _ _ _ q1 q2 hv RG;refine⟨T',_,rfl,bg.of n3.at,rfl,_,_,rfl,_,_,rfl,rfl,?_⟩;have mf:=n3.same _ _ rA;refine⟨_,rfl,.inl ⟨rfl,_,aX.of mf⟩,_,rfl,_,rfl,by show 2<=M2;decide,fun tq H5 n5=>⟨l14,_,_,rfl,rfl,n5.same _ _ mf,?_,fun H6 c6 =>?_⟩⟩
   ·rw[d'.len,Jc,jg,Uc];refine J6 (show _<=317 by lia) ∅
   have nq:tq≠l14:=rE (n5.at) (n5.same _ _ mf) (nofun);have sd:ak (jA H' l14) (jA H6 l14):=fun b' o z=>by
    have nb:b'≠l14:=fun y=>by rw[y,dq] at z;cases z
    rw[bO nb] at z ⊢;rw[c6.ne nb];exact n5.same _ _ (n3.same _ _ z)
   have s6:ak H13 H6:=fun b' o z=>by
    have nb:b'≠l14:=ax z n14.nn;rw[c6.ne nb];exact n5.same _ _ (n3.same _ _ (s' _ _ z))
   have Z7:bg K (jA H' l14) p (.str b0.1::b0.2.map Arg.v):=xQ (s'.bZ hp) rA;refine⟨_,rfl,_,rfl,_,_,rfl,⟨Jg ND ∅,rfl⟩,.inl ⟨_,_,rfl,rfl,gn ⟨_,some (.ref p),some (.str x),?_,s6,c6.at,?_,?_⟩⟩⟩
   ·rw[De,Ju,QcA];show[_,_,_,_,_,_,_,_,_,_,_,some (V.int ((((zs.take i).map fun r=>r.2.length).sum:Nat)+((x.length:Nat):Int))),_,_,_,_,_]=_;rw[show((((zs.take i).map fun r=>r.2.length).sum:Nat)+((x.length:Nat):Int))=((((zs.take i).map fun r=>r.2.length).sum+([((b0,x):(Str×List Arg)×Str)].map fun r=>r.2.length).sum:Nat):Int) by simp]
   ·rw[De,pC,Ju,Nat.zero_add];refine pY (d'.same sd) ?_;unfold pairD Den;exact⟨tq,_,rfl,bg.of (by rw[bO nq,c6.ne nq];exact n5.at),bJ u4 (bJ (gW (sd.bZ Z7)) fM)⟩
   ·rw[De,Ju,QcA];simp only[J0,Qcg,Uu,Qfz];lia
  ·rintro σ H' ⟨qj,M1,My,rfl,s',rA,d',_⟩;have q1:kI false K H' l11 vs:=s'.seq (aX.of v1);have q2:kI false K H' FF (xs.map V.str):=s'.seq (aX.of JZ);rw[Us ⋯] at d' ⊢;exact⟨⟨_,_,q1,q2,.inl ⋯⟩,nx _ _ ⟨qj,M1,My,rfl,s',rA,d'⟩⟩
 rintro σ H15 ⟨qj,M1,My,rfl,Kj,NA,d15⟩;have Kq:=IV.trans (Step.same IV.bx Kj);have QM:=(Step.same IV.bx Kj).sm;have fo:=fo.same QM;have JZ:=Kj _ _ JZ;have aab:=ve N8;refine⟨rfl,_,rfl, "",FF,xs,rfl,rfl,aX.of JZ,?_,gn ?_⟩
 ·have e0:(Wp "").length=0:=∅;rw[e0,Nat.mul_zero];lia
 obtain⟨W,eW⟩:∃W,W=QaQ "" xs:=⟨_,rfl⟩
 have eW':QaQ (Wp "") xs=W:=eW.symm;rw[eW'];have sW:sg W=xs.flatMap sg:=by rw[eW];exact cP xs
 have lW:W.length=(xs.map fun x=>x.length).sum:=by rw[eW];exact iJ xs
 have OK:∀r∈zs,kJ r.1.1 r.1.2/\fC Fo r.1.1 r.1.2=some r.2:=fun r hr=>by
  obtain⟨i,hi⟩:=J7.mp hr;have il:i<317:=by rw[<-zl];exact(Jm.mp hi).1
  rw[ezs] at hi;obtain⟨h1,h2⟩:=U5.mp hi;obtain⟨_,b0,_,hb0,_,ba,_⟩:=row i il;rw[hb0] at h1;cases h1;exact⟨ba,hx i _ _ h2 hb0⟩
 have zx:zs.map (·.2)=xs:=by rw[ezs];exact Qer ⋯
 have M3:zs.flatMap (fun r=>sg r.2)=sg W:=by
  rw[sW,<-zx,List.flatMap_map]
 have WH:(zs.map fun r=>r.2.length).sum=W.length:=by
  rw[lW,<-zx,Yn];rfl
 have ra:=yg fr (t:=W) (p:=0) OK (Um _) (by rw[QdI,M3]);have wl:W.length<=31700:=by lia
 dsimp only;refine dJ (t:=xg _ _ _) (fun σ H' =>σ=[some (.ref a),some (.ref b),some (.ref l),some (.ref m),some (.str y),some (.ref l11),x6,some (.int (j8:Nat)),some (.int (k:Nat)),some (.ref FF),some (.ref l14),some (.int ((zs.map fun r=>r.2.length).sum:Nat)),M1,My,some (.str W),none,none]/\ak H15 H') (fun Nx nx =>?_) ?_
 ·dsimp only[xg,OL,tB,tf,m7];refine⟨_,rfl,_,rfl,m,Fo,W,placed 0 zs,rfl,fo.same cJ,fr,⋯,ra,fun lp vs2 H16 zY lp0 hlp UP =>?_⟩;have gp:=SD (w:=1500) (dp:=2) (ds:=(placed 0 zs).map pairD) fun d hd=>by
   obtain⟨r,hr,rfl⟩:=Ut.mp hd;obtain⟨h1,h2⟩:=uO (fun z hz=>(OK z hz).1) r hr;exact LN h1 ⋯
  have gl:=gp.list;rw[Jc,jg,zl] at gl;refine⟨_,rfl,.ref lp,.ref l14,.list ((placed 0 zs).map pairD),rfl,CQ hlp (UP.same Al),CQ (zY _ _ NA) ((d15.same Al).same zY),J6 gl.dp ∅,Jg gl.wt ∅,fun H17 UI=>⟨_,rfl,bF (nx _ _ ⟨rfl,zY.trans UI⟩)⟩⟩
 rintro σ H16 ⟨rfl,zY⟩;have GO:=Kq.trans (Step.same Kq.bx zY);have fo:=fo.same (Step.same Kq.bx zY).sm;obtain⟨l14b,l14c⟩:=IV.bx.bq n14.nn;have UP:aI K (ip H16 b c) ((placed 0 zs).map pairD) qj:=aI.hide GO.bx (E1 _) ((d15.same Al).same zY);have ZT:ip H16 b c l14=some (.lst qj):=by rw[cZ l14b l14c];exact zY _ _ NA
 clear Kq IV d15 NA Kj QM hP JZ v1 v2 zY n14;have aac:=GO.ub;have aad:=GO.le;refine gu (te:=zr _ _ _) (fun v H'=>∃(tl:Str) (t':Int),v = .str (W++tl)/\tl.length<=100/\Step b c H16 H' (t3+1+1+1) t' 40) (fun Qn qn =>?_) ?_
 ·dsimp only[zr,WQ,m7];refine⟨_,rfl,rfl,20,rfl,∅,∅,?_⟩;refine dw (N:=20) (fun i ys H'=>∃(us:List Str) (t':Int),ys=us.map V.str/\(∀x∈us,x.length<=1)/\us.length=i/\Step b c H16 H' (t3+1+1+1) t' (2*i)) ⟨[],_,rfl,(fun _ h=>nomatch h),rfl,Step.refl GO.bx⟩ ?_ ?_
  ·rintro i ys H' Nx hi ⟨us,t',rfl,hu,rfl,st'⟩ nx;refine⟨hi,by rw[Jc];exact U7 hi ∅,?_⟩;rintro x' H3 ⟨rfl,rfl⟩;have ub':=st'.ub;have lo':=st'.le;refine gn ⟨_,rfl,b,c,t',2,rfl,st'.bx,⋯,⋯,∅,∅,fun r H4 r0 r1 j1 =>?_⟩;have hr:r=0\/r=1:=by lia
   have fin:∀cc:Nat,Nx (us.map V.str++[V.str ⟨#[cc]⟩]) H4:=fun cc=>nx _ _ ⟨us++[⟨#[cc]⟩],_,by rw[Ju];rfl,fun x hx=>(J9.mp hx).elim (hu x) fun z=>by rw[Js.mp z];exact Je _,by rw[Jp];rfl,(st'.trans j1).more ⋯⟩
   rcases hr with rfl|rfl
   ·exact .inr (.inr ⟨_,_,48,rfl,rfl,∅,∅,fin 48⟩)
   ·exact .inr (.inr ⟨_,_,49,rfl,rfl,∅,∅,fin 49⟩)
  ·rintro ys H' ⟨us,t',rfl,hu,hl,st'⟩;refine⟨Je _,fun p hp =>?_⟩;have stn:=Step.same st'.bx (bG hp (.lst (us.map V.str)));have us1:=ve hu;have jl:=iJ us;refine⟨"",p,us,rfl,rfl,aX.of aq,?_,.inr (.inl ⟨_,_,rfl,rfl,?_,qn _ _ ⟨QaQ "" us,t',rfl,⋯,(st'.trans stn).more ⋯⟩⟩)⟩
   ·have e0:(Wp "").length=0:=∅;rw[e0,Nat.mul_zero];lia
   ·exact Jg (show W.length+(QaQ "" us).length<=40000 by lia) ∅
 rintro v H17 ⟨tl,t17,rfl,tll,st17⟩;refine gn ?_;have fo:=fo.same st17.sm;have US:=UP.same st17.sm;have Mt:=st17.sm _ _ ZT;have fo:=fo.same cJ;have US:=US.same cJ;have Mt:=cJ _ _ Mt;clear st17 GO UP ZT;obtain⟨S,eS⟩:∃S:Nat->Nat,S=fun i=>((zs.take i).map fun r=>r.2.length).sum:=⟨_,rfl⟩
 have Sx:∀i,((zs.take i).map fun r=>r.2.length).sum=S i:=fun i=>by rw[eS]
 have YX:(zs.map fun r=>r.2.length).sum=S 317:=by rw[<-Sx,Us ⋯]
 have ZG:∀i,i<317->∃tq bp b0 x,qj[i]? = some (.ref tq)/\bg K H17 tq [.int (S i:Nat),.ref bp]/\bg K H17 bp (.str b0.1::b0.2.map Arg.v)/\zs[i]? = some (b0,x)/\kJ b0.1 b0.2/\fC Fo b0.1 b0.2=some x/\S (i+1)=S i+x.length:=fun i hi=>by
  have hz:zs[i]? = some (zs[i]'⋯):=Jd _;generalize zs[i]'⋯=r at hz;obtain⟨v,hv,dv⟩:=US.get (i:=i) (d:=pairD (S i,r.1)) (by rw[Jj,tS hz,Nat.zero_add,Sx];rfl);obtain⟨tq,bp,rfl,h1,h2⟩:=Ln dv;obtain⟨z1,z2⟩:=OK r (J2 hz);refine⟨tq,bp,r.1,r.2,hv,h1,h2,hz,z1,z2,?_⟩;obtain⟨g1,g2⟩:=Jm.mp hz;rw[<-Sx,<-Sx,cV g1,g2,Ju,QcA];simp
 have vl':qj.length=317:=by rw[US.len,Jc,jg,zl]
 rw[YX];refine gu (te:=zr _ _ _) (fun v H'=>∃l18,v = .ref l18/\ak H17 H'/\H' l18=some (.lst ((Uy 317).map fun i=>V.int (S (i+1):Nat)))) (fun Qn qn =>?_) ?_
 ·dsimp only[zr];refine M5 (t:=oY _ _ _ _ _ _) (fun v H'=>∃l',v = .ref l'/\ak H17 H'/\H' l'=some (.lst ((Uy 316).map fun i=>V.int (S (i+1):Nat)))) (fun Qm qm =>?_) ?_
  ·refine⟨_,rfl,1,rfl,.inl ⟨l14,qj,rfl,aX.of Mt,fun p H18 n18=>⟨p,rfl,⟨_,aX.of n18.at⟩,?_⟩⟩⟩;have hp:=n18.at;rw[show kL qj (some 1) none=qj.drop 1 from qL qj 1] at hp;refine iC (N:=316) (fun i ys H'=>ak H18 H'/\ys=(Uy i).map fun i=>V.int (S (i+1):Nat)) ⟨ak.refl _,rfl⟩ ?_ ?_
   ·rintro i ys H' Nx hi ⟨s',rfl⟩ nx;obtain⟨tq,bp,b0,x,hv,h1,_⟩:=ZG (i+1) ⋯;have Pw:(qj.drop 1)[i]? = some (.ref tq):=by rw[List.getElem?_drop,Nat.add_comm];exact hv
    have rA:=aX.of (K:=K) (s' _ _ hp);refine⟨⟨_,_,rA,Pw⟩,by rw[Jc,Y2];exact U7 hi ∅,?_⟩;rintro x' H3 ⟨rfl,hy'⟩;have e:=hy' _ rA;rw[Pw] at e;cases e;refine⟨tq,_,rfl,(n18.same.trans s').bZ h1,rfl,_,_,rfl,_,_,rfl,rfl,?_⟩;refine⟨_,rfl,nx _ _ ⟨s',?_⟩⟩;rw[Qdt,Ju];rfl
   ·rintro ys H' ⟨s',rfl⟩;exact⟨⟨_,aX.of (s' _ _ hp),by rw[Uv,vl'];exact Je _⟩,fun p2 H4 n4=>qm _ _ ⟨p2,rfl,n18.same.trans (s'.trans n4.same),n4.at⟩⟩
  rintro v H18 ⟨l',rfl,s18,h18⟩;refine⟨_,rfl,by show 1<=M2;decide,fun l19 H19 n19 =>.inr (.inr ⟨l',l19,_,_,rfl,rfl,n19.same _ _ h18,n19.at,?_,fun p H' n=>qn _ _ ⟨p,rfl,s18.trans (n19.same.trans n.same),?_⟩⟩)⟩
  ·rw[Jc,Y2];show 317<=M2;decide
  ·rw[n.at,Qdt (n:=316),Ju];rfl
 rintro v H18 ⟨l18,rfl,s18,h18⟩;refine gn ?_;dsimp only[Sd,TQ,m7];refine⟨_,rfl,_,rfl,false,false,l14,l18,rfl,⟨_,s18.seq (aX.of Mt)⟩,⟨_,aX.of h18⟩,?_⟩;refine dw (N:=317) (fun i ys H'=>ak H18 H'/\ys=(Jt i true).map V.bl) ⟨ak.refl _,rfl⟩ ?_ ?_
 ·rintro i ys H' Nx hi ⟨s',rfl⟩ nx;obtain⟨tq,bp,b0,x,hv,h1,h2,hz,ba,ex,eS1⟩:=ZG i hi;have q1:kI false K H' l14 qj:=(s18.trans s').seq (aX.of Mt);have q2:kI false K H' l18 _:=s'.seq (aX.of h18);have RG:((Uy 317).map fun i=>V.int (S (i+1):Nat))[i]? = some (V.int (S (i+1):Nat)):=by
   rw[Jj,List.getElem?_range hi];rfl
  refine⟨⟨_,_,_,_,q1,q2,hv,RG⟩,by rw[Jc,Uh];exact U7 hi ∅,?_⟩;rintro x' H3 ⟨T',rfl,hN⟩;have n3:=hN _ _ _ _ q1 q2 hv RG;have s3:=s18.trans (s'.trans n3.same);refine⟨T',_,rfl,bg.of n3.at,rfl,_,_,rfl,tq,_,rfl,s3.bZ h1,rfl,_,_,rfl,_,_,rfl,rfl,_,_,rfl,rfl,?_⟩;have Sle:S i+x.length<=W.length:=by
   have e:=congrArg (fun l:List ((Str×List Arg)×Str)=>(l.map fun r=>r.2.length).sum) (QfV (i+1) zs);simp only[Ju,QcA] at e;rw[Sx,WH] at e;lia
  have hdr:(sg (W++tl)).drop (S i)=sg x++((zs.drop (i+1)).flatMap (fun r=>sg r.2)++sg tl):=by
   rw[lj,List.drop_append_of_le_length (by rw[<-str_len];lia),<-M3,<-Sx,uF];obtain⟨g1,g2⟩:=Jm.mp hz;rw[QbX g1,g2,Y3,U0]
  have wtl:(W++tl).length=W.length+tl.length:=QaH _ _;obtain⟨hb,_⟩:=zf fr ba ex (t:=W++tl) (p:=S i) ⋯ hdr;refine⟨_,rfl,_,rfl,_,rfl,m,Fo,W++tl,S i,_,rfl,fo.same s3,fr,⋯,⋯,hb,fun tp H4 s4 h4 =>?_⟩;obtain⟨bp',h4,h5⟩:=h4;refine⟨_,rfl,_,rfl,by show 2<=M2;decide,fun tr H5 n5 =>?_⟩;have gd:=Hb ba (S i+x.length) ⋯;refine⟨.ref tp,.ref tr,.tuple [gM b0.1 b0.2,.int ((S i+x.length:Nat):Int)],rfl,BU (n5.same.bZ h4) (n5.same.bZ h5),BU (by rw[<-eS1];exact bg.of n5.at) ((s3.trans (s4.trans n5.same)).bZ h2),J6 gd.dp ∅,Jg gd.wt ∅,fun H6 s6=>nx _ _ ⟨s'.trans (n3.same.trans (s4.trans (n5.same.trans s6))),?_⟩⟩;rw[QdF,Ju];rfl
 ·rintro ys H' ⟨s',rfl⟩;have q1:kI false K H' l14 qj:=(s18.trans s').seq (aX.of Mt);have q2:kI false K H' l18 _:=s'.seq (aX.of h18);refine⟨⟨_,_,q1,q2,.inl ⋯⟩,fun p2 zu =>?_⟩;refine⟨p2,Jt 317 true,rfl,aX.of aq,?_⟩;rw[show(Jt 317 true).all id=true by decide +kernel];exact q _
end
def cg {α:Type}{P:List α->Prop}(h:P []):∀us:List α,us.length=0->P us:=fun us e=>Ux e▸h
def aU {α:Type}{P:List α->Prop}{n:Nat}(h:∀a (us:List α),us.length=n->P (a::us))(us:List α)(e:us.length=n+1):P us:=by
 cases us with|nil=>cases e|cons a us=>exact h a us (Qe3 e)
def all_mk {l:Qei}{w:Qag}{K:Ja}{h:Heap}{mg:Str->Option Fk}{fa f1 f2 f3 f4 f5 f6 f7 f8 f9 XR Vz Zb Vw Xy YI Pk Vp YU VF XQ Zo VP Vf YF YE YN Xh X1 Xs UW YJ XD Vk Xa V4 XC X7 YG Zc WM YV:Gc}(X:K.In h)(G:h.Ns W1 mg)(hfa:mg "law" = some (.ref fa))
  {fd1:Qad}
  {fd2:Qad}
  {fd3:Qad}
  {fd4:Qad}
  {fd5:Qad}
  {fd6:Qad}
  {fd7:Qad}
  {fd8:Qad}
  {fd9:Qad}
  {Zi:Qad}
  {YD:Qad}
  {WR:Qad}
  {XW:Qad}
  {Xu:Qad}
  {YS:Qad}
  {Xn:Qad}
  {VN:Qad}
  {Xd:Qad}
  {Xr:Qad}
  {Xx:Qad}
  {WN:Qad}
  {Zn:Qad}
  {Xo:Qad}
  {VE:Qad}
  {YK:Qad}
  {V2:Qad}
  {WK:Qad}
  {V5:Qad}
  {YM:Qad}
  {Wl:Qad}
  {V9:Qad}
  {Zt:Qad}
  {XI:Qad}
  {Vy:Qad}
  {YB:Qad}
  {Vq:Qad}
  {Wv:Qad}
  {XN:Qad}
  {X9:Qad}
  {XS:Qad}
  {Xz QG:Option Gc} {X3:Array (Option Fk)} {Xb Tl Tq R5 PF QX:Fk}
  {eV:Gc}
  {di:Gc}
  {cK:Gc}
  {cu:Gc}
  {bt:Gc}
  {WY:Tok}
  {Zj:Tok}
  {XB:Tok}
  {Sk:Tok}
  {S1:Tok}
  {R9:Tok}
  {XT:Tok}
  {aS:Gc} {ZH:List Fk} {aSn:Nat} {aSs:Array (Option Fk)}
  {aZ:Gc} {ZZ:List Fk} {aZn:Nat} {aZs:Array (Option Fk)}
  {aJ:Gc} {ZK:List Fk} {aJn:Nat} {aJs:Array (Option Fk)}
  {aP:Gc} {VL:Array QdC} {aPn:Nat}
  {MD:Gc} {IQ:List Fk} {OM:Nat} {OX:Array (Option Fk)}
  {MM:Gc} {Gf:List Fk} {Nt:Nat} {OE:Array (Option Fk)}
  {HZ:Gc} {B3:List Fk} {LB:Nat} {Lx:Array (Option Fk)}
  {HX:Gc} {Cp:List Fk} {Lk:Nat} {L9:Array (Option Fk)}
  {MA:Gc} {Hw:List Fk} {OW:Nat} {Om:Array (Option Fk)}
  {IY:Gc} {Cd:List Fk} {Kp:Nat} {K8:Array (Option Fk)}
  {GK:Gc} {Ch:List Fk} {Me:Nat} {Kw:Array (Option Fk)}
  {HL:Gc} {CM:List Fk} {Lp:Nat} {L8:Array (Option Fk)}
  {ur:Gc} {qw:List Fk} {Ax:Nat} {zN:Array (Option Fk)}
  {ue:Gc} {sD:List Fk} {zB:Nat} {zU:Array (Option Fk)}
  {Ht:Gc} {CO:List Fk} {Ko:Nat} {LW:Array (Option Fk)}
  {zI:Gc} {y8 AG:Str} {yR:List Fk} {xC:Bool} {yA:List Str} {xR:List Fk} {xD:Bool} {yq:Option Bool} {xK:Option Gc} {yu yD xt yI zj:Option Fk}
  {IH:Gc} {DH GX:Str} {EL:List Fk} {E9:List Str} {Es:List Fk} {Fl:Bool} {C7:Option Bool} {EH:Option Gc} {EV DL E6 EA Ft:Option Fk}
  {mw:Gc} {Er FC:Option Gc} {C6:Array (Option Fk)} {Fj E5 Eb uJ DX:Fk}
  {Ic:Gc} {C9 FY:Str} {Ey:List Fk} {Fi:List Str} {Ef:List Fk} {DV:Bool} {EN:Option Bool} {EY:Option Gc} {Eh DA C5 DY Fv:Option Fk}
  {mD:Gc} {DR Dw:Option Gc} {Dt:Array (Option Fk)} {Dg DT DJ uM DB:Fk}
  {qt:Gc} {KO:Fk} {LH Ms:Option Gc} {Lw:Array (Option Fk)} {KS Lf LO CH Lz:Fk}
  {mS:Gc} {JR:Fk} {JM I0:Option Gc} {Hf:Array (Option Fk)} {Gv IL JC xE FV:Fk}
  {fB:Gc} {vH:Fk} {wg vo:Option Gc} {wu:Array (Option Fk)} {vz wR vA mI vP:Fk}
  {fk:Gc} {wA:Fk} {wO vK:Option Gc} {wa:Array (Option Fk)} {wz vG vM mU wN:Fk}
  {dS:Gc} {qT:Fk} {rF si:Option Gc} {qi:Array (Option Fk)} {rL qW rP jP qx:Fk}
  (a1:Jh K W1 "made_of" = some (some (.ref f1))) (F1:cj K "made_of" "made_of" (top nI) f1 fd1)
  (a2:Jh K W1 "is_name" = some (some (.ref f2))) (F2:cj K "is_name" "is_name" (top oM) f2 fd2)
  (a3:Jh K W1 "is_code" = some (some (.ref f3))) (F3:cj K "is_code" "is_code" (top ow) f3 fd3)
  (a4:Jh K W1 "rest_of" = some (some (.ref f4))) (F4:cj K "rest_of" "rest_of" (top og) f4 fd4)
  (a5:Jh K W1 "is_number" = some (some (.ref f5))) (F5:cj K "is_number" "is_number" (top km) f5 fd5)
  (a6:Jh K W1 "is_entry" = some (some (.ref f6))) (F6:cj K "is_entry" "is_entry" (top lI) f6 fd6)
  (a7:Jh K W1 "is_book" = some (some (.ref f7))) (F7:cj K "is_book" "is_book" (top nJ) f7 fd7)
  (a8:Jh K W1 "clash" = some (some (.ref f8))) (F8:cj K "clash" "clash" (top wq) f8 fd8)
  (a9:Jh K W1 "free" = some (some (.ref f9))) (F9:cj K "free" "free" (top BE) f9 fd9)
  (YZ:Jh K W1 "is_free_book_of" = some (some (.ref XR))) (Tx:cj K "is_free_book_of" "is_free_book_of" (top eE) XR Zi)
  (ZA:Jh K W1 "far_is_shorter" = some (some (.ref Vz))) (RE:cj K "far_is_shorter" "far_is_shorter" (top eN) Vz YD)
  (VH:Jh K W1 "first_wrong" = some (some (.ref Zb))) (Sr:cj K "first_wrong" "first_wrong" (top ik) Zb WR)
  (WA:Jh K W1 "two_to" = some (some (.ref Vw))) (QP:cj K "two_to" "two_to" (top rC) Vw XW)
  (XZ:Jh K W1 "figures_of" = some (some (.ref Xy))) (Ry:cj K "figures_of" "figures_of" (top i7) Xy Xu)
  (VJ:Jh K W1 "number_of" = some (some (.ref YI))) (QS:cj K "number_of" "number_of" (top jO) YI YS)
  (Vh:Jh K W1 "lookup_of" = some (some (.ref Pk))) (QT:cj K "lookup_of" "lookup_of" (top kf) Pk Xn)
  (Wz:Jh K W1 "code_at" = some (some (.ref Vp))) (Tc:cj K "code_at" "code_at" (top ox) Vp VN)
  (VT:Jh K W1 "name_from" = some (some (.ref YU))) (Rz:cj K "name_from" "name_from" (top jT) YU Xd)
  (W4:Jh K W1 "figures_from" = some (some (.ref VF))) (Rc:cj K "figures_from" "figures_from" (top gh) VF Xr)
  (YW:Jh K W1 "many_from" = some (some (.ref XQ))) (SY:cj K "many_from" "many_from" (top kj) XQ Xx)
  (Vj:Jh K W1 "distance_from" = some (some (.ref Zo))) (RS:cj K "distance_from" "distance_from" (top fF) Zo WN)
  (VS:Jh K W1 "bare_at" = some (some (.ref VP))) (S2:cj K "bare_at" "bare_at" (top oh) VP Zn)
  (XU:Jh K W1 "bares_of" = some (some (.ref Vf))) (SQ:cj K "bares_of" "bares_of" (top kX) Vf Xo)
  (YT:Jh K W1 "is_reached" = some (some (.ref YF))) (SO:cj K "is_reached" "is_reached" (top iU) YF VE)
  (X0:Jh K W1 "put_distance" = some (some (.ref YE))) (R1:cj K "put_distance" "put_distance" (top gE) YE YK)
  (WU:Jh K W1 "put_part" = some (some (.ref YN))) (SK:cj K "put_part" "put_part" (top lN) YN V2)
  (VX:Jh K W1 "put_bare" = some (some (.ref Xh))) (Ta:cj K "put_bare" "put_bare" (top lV) Xh WK)
  (Xk:Jh K W1 "_law_begin" = some (some (.ref X1))) (QO:cj K "_law_begin" "_law_begin" (top jI) X1 V5)
  (WV:Jh K W1 "_law_take" = some (some (.ref Xs))) (R3:cj K "_law_take" "_law_take" (top lH) Xs YM)
  (T9:Jh K W1 "_law_same" = some (some (.ref UW))) (Rh:cj K "_law_same" "_law_same" (top lq) UW Wl)
  (ZE:Jh K W1 "_law_mixed" = some (some (.ref YJ))) (SV:cj K "_law_mixed" "_law_mixed" (top jB) YJ V9)
  (VR:Jh K W1 "_law_codes" = some (some (.ref XD))) (Rk:cj K "_law_codes" "_law_codes" (top jW) XD Zt)
  (YA:Jh K W1 "_law_kinds" = some (some (.ref Vk))) (To:cj K "_law_kinds" "_law_kinds" (top j0) Vk XI)
  (Zp:Jh K W1 "_law_sizes" = some (some (.ref Xa))) (Rn:cj K "_law_sizes" "_law_sizes" (top jS) Xa Vy)
  (V3:Jh K W1 "_law_parts" = some (some (.ref V4))) (RW:cj K "_law_parts" "_law_parts" (top jH) V4 YB)
  (W7:Jh K W1 "_law_form" = some (some (.ref XC))) (SG:cj K "_law_form" "_law_form" (top lQ) XC Vq)
  (Xw:Jh K W1 "_law_figures" = some (some (.ref X7))) (Sw:cj K "_law_figures" "_law_figures" (top ie) X7 Wv)
  (Zz:Jh K W1 "_law_power" = some (some (.ref YG))) (RO:cj K "_law_power" "_law_power" (top jU) YG XN)
  (VO:Jh K W1 "_law_far_word" = some (some (.ref Zc))) (SE:cj K "_law_far_word" "_law_far_word" (top gA) Zc X9)
  (Vt:Jh K W1 "_law_put" = some (some (.ref WM))) (Sm:cj K "_law_put" "_law_put" (top oB) WM XS)
  (Vm:Jh K W1 "law" = some (some (.ref YV))) (WG:K.lookup YV=some ⟨Xb,Xz,.func (Yd "law" "law" (cQ (top iz)) (cy (top iz)) (aj (top iz)) .none Tl Tq R5 QG PF QX),X3⟩) (Zg:Ym K PF "law" = true) (VG:Ui K (.ref YV)=true)
  (jF:Jh K W1 "OddError" = some (some (.ref eV)))
  (oA:Jh K W1 "NoForm" = some (some (.ref di)))
  (nY:Jh K W1 "TooFar" = some (some (.ref cK)))
  (wH:Jh K W1 "Form" = some (some (.ref cu)))
  (nU:Jh K W1 "Reader" = some (some (.ref bt)))
  (VB:Jh K W1 "LONGEST_NAME" = some (some (.int 8 WY)))
  (XE:Jh K W1 "SMALL_LETTERS" = some (some (.str wY Zj)))
  (ZD:Jh K W1 "SIGNS" = some (some (.str fG XB)))
  (UG:Jh K W1 "LEAST_NEAR" = some (some (.int 2 Sk)))
  (UD:Jh K W1 "MOST_NEAR" = some (some (.int 8 S1)))
  (UJ:Jh K W1 "MOST_FAR" = some (some (.int 16 R9)))
  (V7:Jh K W1 "SKIP_FIGURES" = some (some (.int 3 XT)))
  (WO:Jh K W1 "SPOT_NAMES" = some (some (.ref aS)))
  (Wu:K.lookup aS=some ⟨.type "tuple",none,.seq ZH.toArray aSn,aSs⟩)
  (W9:Vals [V.str "a",V.str "b",V.str "c",V.str "d"] ZH)
  (T2:Jh K W1 "SIZE_NAMES" = some (some (.ref aZ)))
  (TZ:K.lookup aZ=some ⟨.type "tuple",none,.seq ZZ.toArray aZn,aZs⟩)
  (UB:Vals [V.str "none",V.str "one",V.str "two",V.str "three",V.str "four",V.str "five",V.str "six",V.str "seven",V.str "eight"] ZZ)
  (WZ:Jh K W1 "JUMPS" = some (some (.ref aJ)))
  (WJ:K.lookup aJ=some ⟨.type "tuple",none,.seq ZK.toArray aJn,aJs⟩)
  (WC:Vals [V.str "jump",V.str "zero"] ZK)
  (TN:Jh K W1 "PARTS" = some (some (.ref aP)))
  (UO:K.lookup aP=some ⟨.type "dict",none,.dict VL aPn,#[]⟩)
  (Ru:Qc8 w.params VL.toList)
  (TY:VL.toList.map (fun e=>Ge e.key)=aG)
  (W5:(aP==QbM)=false)
  (u7:Jh K aP "set" = some (some (.ref MD)))
  (Bs:K.lookup MD=some ⟨.type "tuple",none,.seq IQ.toArray OM,OX⟩)
  (Ad:Vals [V.str "spot",V.str "number"] IQ)
  (we:Jh K aP "add" = some (some (.ref MM)))
  (AF:K.lookup MM=some ⟨.type "tuple",none,.seq Gf.toArray Nt,OE⟩)
  (Bj:Vals [V.str "spot",V.str "spot"] Gf)
  (sL:Jh K aP "take" = some (some (.ref HZ)))
  (vJ:K.lookup HZ=some ⟨.type "tuple",none,.seq B3.toArray LB,Lx⟩)
  (wZ:Vals [V.str "spot",V.str "spot"] B3)
  (qQ:Jh K aP "tell" = some (some (.ref HX)))
  (wF:K.lookup HX=some ⟨.type "tuple",none,.seq Cp.toArray Lk,L9⟩)
  (wj:Vals [V.str "spot"] Cp)
  (u6:Jh K aP "ask" = some (some (.ref MA)))
  (BC:K.lookup MA=some ⟨.type "tuple",none,.seq Hw.toArray OW,Om⟩)
  (Aa:Vals [V.str "spot"] Hw)
  (rb:Jh K aP "jump" = some (some (.ref IY)))
  (vj:K.lookup IY=some ⟨.type "tuple",none,.seq Cd.toArray Kp,K8⟩)
  (vg:Vals [V.str "near"] Cd)
  (sY:Jh K aP "zero" = some (some (.ref GK)))
  (wB:K.lookup GK=some ⟨.type "tuple",none,.seq Ch.toArray Me,Kw⟩)
  (vh:Vals [V.str "spot",V.str "near"] Ch)
  (qo:Jh K aP "stop" = some (some (.ref HL)))
  (vb:K.lookup HL=some ⟨.type "tuple",none,.seq CM.toArray Lp,L8⟩)
  (vQ:Vals [] CM)
  (jX:Jh K aP "farjump" = some (some (.ref ur)))
  (lU:K.lookup ur=some ⟨.type "tuple",none,.seq qw.toArray Ax,zN⟩)
  (lF:Vals [V.str "far"] qw)
  (j7:Jh K aP "farzero" = some (some (.ref ue)))
  (md:K.lookup ue=some ⟨.type "tuple",none,.seq sD.toArray zB,zU⟩)
  (lB:Vals [V.str "spot",V.str "far"] sD)
  (rN:Jh K aP "skip" = some (some (.ref Ht)))
  (u0:K.lookup Ht=some ⟨.type "tuple",none,.seq CO.toArray Ko,LW⟩)
  (wM:Vals [V.str "many"] CO)
  (kC:K.lookup eV=some (QbJ y8 AG eV zI yR ([.type "ValueError",.type "Exception",.type "BaseException",.type "object"]) xC yA xR xD yq xK yu yD xt yI zj "ValueError.__new__"))
  (kD:PySem.W.excIn K eV [.type "ValueError",.type "Exception",.type "BaseException",.type "object"] "ValueError.__new__" = true)
  (pL:K.lookup di=some (QbJ DH GX di IH EL (.ref eV::[.type "ValueError",.type "Exception",.type "BaseException",.type "object"]) true E9 Es Fl C7 EH EV DL E6 EA Ft "ValueError.__new__"))
  (qZ:Ui K (.ref di)=true)
  (nR:J3 K (.ref di) "__init__" = some (some (.ref mw)))
  (mM:K.lookup mw=some ⟨.type "function",Er,.func (Yd "__init__" "NoForm.__init__" (cQ (inClass (top iE) 0)) (cy (inClass (top iE) 0)) (aj (inClass (top iE) 0)) .none Fj E5 Eb FC uJ DX),C6⟩)
  (rD:Ym K uJ "NoForm.__init__" = true)
  (rg:Ui K (.ref mw)=true)
  (qv:J3 K (.ref di) "__setattr__" = some (some (.builtin "object.__setattr__")))
  (su:J3 K (.ref di) "why" = some none)
  (qf:QeR K di (.type "object")=some true)
  (p8:K.lookup cK=some (QbJ C9 FY cK Ic Ey (.ref eV::[.type "ValueError",.type "Exception",.type "BaseException",.type "object"]) true Fi Ef DV EN EY Eh DA C5 DY Fv "ValueError.__new__"))
  (sZ:Ui K (.ref cK)=true)
  (nM:J3 K (.ref cK) "__init__" = some (some (.ref mD)))
  (mj:K.lookup mD=some ⟨.type "function",DR,.func (Yd "__init__" "TooFar.__init__" (cQ (inClass (top iB) 0)) (cy (inClass (top iB) 0)) (aj (inClass (top iB) 0)) .none Dg DT DJ Dw uM DB),Dt⟩)
  (sr:Ym K uM "TooFar.__init__" = true)
  (rT:Ui K (.ref mD)=true)
  (sI:J3 K (.ref cK) "__setattr__" = some (some (.builtin "object.__setattr__")))
  (rV:J3 K (.ref cK) "row" = some none)
  (qH:QeR K cK (.type "object")=some true)
  (PY:Wg K cu Qaq=true)
  (NQ:Qb8 K cu=true)
  (M8:QcP K cu=true)
  (Ot:J3 K (.ref cu) "__setattr__" = some (some (.builtin "object.__setattr__")))
  (PJ:Qc7 K cu=true)
  (Nu:Ui K (.ref cu)=true)
  (lh:J3 K (.ref cu) "kinds" = some none)
  (lY:J3 K (.ref cu) "spots" = some none)
  (lJ:J3 K (.ref cu) "sizes" = some none)
  (oq:J3 K (.ref cu) "near" = some none)
  (sM:J3 K (.ref cu) "far" = some none)
  (u5:J3 K (.ref cu) "__init__" = some (some (.ref qt)))
  (vI:K.lookup qt=some ⟨KO,LH,.func (Yd "__init__" "Form.__init__" (cQ (inClass (top oC) 0)) (cy (inClass (top oC) 0)) (aj (inClass (top oC) 0)) .none KS Lf LO Ms CH Lz),Lw⟩)
  (wI:Ym K CH "Form.__init__" = true)
  (wX:Ui K (.ref qt)=true)
  (vd:Wi K (.ref qt)=true)
  (Pj:Wg K bt Qaq=true)
  (OV:Qb8 K bt=true)
  (Qk:QcP K bt=true)
  (Qh:J3 K (.ref bt) "__setattr__" = some (some (.builtin "object.__setattr__")))
  (Np:Qc7 K bt=true)
  (PD:Ui K (.ref bt)=true)
  (lZ:J3 K (.ref bt) "kinds" = some none)
  (la:J3 K (.ref bt) "spots" = some none)
  (ly:J3 K (.ref bt) "sizes" = some none)
  (oG:J3 K (.ref bt) "near" = some none)
  (sP:J3 K (.ref bt) "far" = some none)
  (qX:J3 K (.ref bt) "__init__" = some (some (.ref mS)))
  (rn:K.lookup mS=some ⟨JR,JM,.func (Yd "__init__" "Reader.__init__" (cQ (inClass (top aY) 0)) (cy (inClass (top aY) 0)) (aj (inClass (top aY) 0)) .none Gv IL JC I0 xE FV),Hf⟩)
  (rS:Ym K xE "Reader.__init__" = true)
  (rO:Ui K (.ref mS)=true)
  (rZ:Wi K (.ref mS)=true)
  (jf:J3 K (.ref bt) "bare_from" = some (some (.ref fB)))
  (iQ:K.lookup fB=some ⟨vH,wg,.func (Yd "bare_from" "Reader.bare_from" (cQ (inClass (top aY) 1)) (cy (inClass (top aY) 1)) (aj (inClass (top aY) 1)) .none vz wR vA vo mI vP),wu⟩)
  (jh:Ym K mI "Reader.bare_from" = true)
  (fO:Ui K (.ref fB)=true)
  (iP:Wi K (.ref fB)=true)
  (iM:J3 K (.ref bt) "part_from" = some (some (.ref fk)))
  (iT:K.lookup fk=some ⟨wA,wO,.func (Yd "part_from" "Reader.part_from" (cQ (inClass (top aY) 2)) (cy (inClass (top aY) 2)) (aj (inClass (top aY) 2)) .none wz vG vM vK mU wN),wa⟩)
  (jc:Ym K mU "Reader.part_from" = true)
  (fQ:Ui K (.ref fk)=true)
  (iX:Wi K (.ref fk)=true)
  (gC:J3 K (.ref bt) "number_from" = some (some (.ref dS)))
  (gF:K.lookup dS=some ⟨qT,rF,.func (Yd "number_from" "Reader.number_from" (cQ (inClass (top aY) 3)) (cy (inClass (top aY) 3)) (aj (inClass (top aY) 3)) .none rL qW rP si jP qx),qi⟩)
  (gD:Ym K jP "Reader.number_from" = true)
  (eA:Ui K (.ref dS)=true)
  (gz:Wi K (.ref dS)=true)
  (y0:Jh K W1 "sorted" = some none)
  (y1:Jh K W1 "dict" = some none)
  (z0:Jh K W1 "len" = some none) (z1:Jh K W1 "range" = some none) (z2:Jh K W1 "max" = some none) (z3:Jh K W1 "min" = some none) (z4:Jh K W1 "sum" = some none) (z5:Jh K W1 "all" = some none) (z6:Jh K W1 "any" = some none) (z7:Jh K W1 "list" = some none) (z8:Jh K W1 "tuple" = some none) (z9:Jh K W1 "int" = some none) (Vd:Jh K W1 "str" = some none) (WE:Jh K W1 "bool" = some none) (Vg:Jh K W1 "zip" = some none) (Zx:Jh K W1 "enumerate" = some none) (ZB:Jh K W1 "isinstance" = some none) (Xm:Jh K W1 "divmod" = some none) :
  ∃fd:Qad,(∀(s:KE) (v:Fk),QfF s fd ⟨[v],[]⟩ [("_law_script",v)])/\∀base:Heap,K.In base->base.Ns W1 mg->aW l.prog w K mg base d6 10 fa fd ["_law_script"] (Cw K):=by
 have e:=hfa.symm.trans (Jl X G Vm);cases e;have T:Nm mg:=⟨J8 X G z0,J8 X G z1,J8 X G z2,J8 X G z3,J8 X G z4,J8 X G z5,J8 X G z6,J8 X G z7,J8 X G z8,J8 X G z9,J8 X G Vd,J8 X G WE,J8 X G Vg,J8 X G Zx,J8 X G ZB,J8 X G Xm⟩
 have gB:=J8 X G y0;have da:=J8 X G y1;have gw:=Jl X G VB;have fH:=Jl X G XE;have kz:=Jl X G ZD;have mL:=Jl X G UG;have oU:=Jl X G UD;have qk:=Jl X G UJ;have cI:=Jl X G V7;have uW:=Jl X G WZ;have hJ:∀H,bg K H aJ [V.str "jump",V.str "zero"]:=dX WJ WC ∅;have M29:Td K l.prog w mg aP aS aZ Sk S1 R9:=⟨Jl X G TN,Jl X G WO,Jl X G T2,⟨_,_,_,⟨UO,Ru,tT Ru,by rw[xJ,TY];decide +kernel,W5⟩,xJ.trans TY⟩,dX Wu W9 ∅,dX TZ UB ∅,Jl X G UG,Jl X G UD,Jl X G UJ⟩
 have GS:sN K di "why":=yW pL qv su qf;have qz:Pu K di mw:=⟨⟨_,_,_,_,_,_,_,_,_,_,_,_,_,_,_,_,pL,xo kC kD⟩,nR,⟨_,mM,rfl⟩,qZ⟩
 have ug:=aR (st:=inClass (top iE) 0) mM rD rg;have qg:=ug.binds (ps:=["self", "why"]) fun _ _ _ _ _ _=>aU fun _=>aU fun _=>cg rfl;have JD:sN K cK "row":=yW p8 sI rV qH;have rX:Pu K cK mD:=⟨⟨_,_,_,_,_,_,_,_,_,_,_,_,_,_,_,_,p8,xo kC kD⟩,nM,⟨_,mj,rfl⟩,sZ⟩
 have uH:=aR (st:=inClass (top iB) 0) mj sr rT;have sO:=uH.binds (ps:=["self", "row"]) fun _ _ _ _ _ _=>aU fun _=>aU fun _=>cg rfl;have C2:=aR (st:=inClass (top oC) 0) vI wI wX;have Nl:=C2.binds (ps:=["self", "kinds", "spots", "sizes", "near", "far"]) fun _ _ _ _ _ _=>aU fun _=>aU fun _=>aU fun _=>aU fun _=>aU fun _=>aU fun _=>cg rfl;have MF:Gw K cu:=⟨⟨PY,NQ,M8,Ot⟩,lh,lY,lJ,oq,sM⟩
 have MKF:Mk K cu qt:=⟨PJ,u5,vd,Nu⟩
 have bT:=Jl X G T2;have hZ:∀H,bg K H aZ (aN.map V.str):=dX TZ UB ∅;have GW:NP K w mg aP:=⟨Jl X G TN,⟨_,_,UO,Ru⟩,fun q hq=>by
  simp only[fe,Jw,Uq,or_false] at hq
  rcases hq with rfl|rfl|rfl|rfl|rfl|rfl|rfl|rfl|rfl|rfl|rfl
  ·exact⟨_,u7,dX (xs:=[V.str "spot",V.str "number"]) Bs Ad ∅⟩
  ·exact⟨_,we,dX (xs:=[V.str "spot",V.str "spot"]) AF Bj ∅⟩
  ·exact⟨_,sL,dX (xs:=[V.str "spot",V.str "spot"]) vJ wZ ∅⟩
  ·exact⟨_,qQ,dX (xs:=[V.str "spot"]) wF wj ∅⟩
  ·exact⟨_,u6,dX (xs:=[V.str "spot"]) BC Aa ∅⟩
  ·exact⟨_,rb,dX (xs:=[V.str "near"]) vj vg ∅⟩
  ·exact⟨_,sY,dX (xs:=[V.str "spot",V.str "near"]) wB vh ∅⟩
  ·exact⟨_,qo,dX (xs:=[]) vb vQ ∅⟩
  ·exact⟨_,jX,dX (xs:=[V.str "far"]) lU lF ∅⟩
  ·exact⟨_,j7,dX (xs:=[V.str "spot",V.str "far"]) md lB ∅⟩
  ·exact⟨_,rN,dX (xs:=[V.str "many"]) u0 wM ∅⟩⟩
 have Oz:zm K bt:=⟨Pj,OV,Qk,Qh⟩
 have ME:HY K bt:=⟨Oz,lZ,la,ly,oG,sP⟩
 have sT:=aR (st:=inClass (top aY) 0) rn rS rO;have CW:=sT.binds (ps:=["self", "form"]) fun _ _ _ _ _ _=>aU fun _=>aU fun _=>cg rfl;have i8:=aR (st:=inClass (top aY) 1) iQ jh fO;have o8:=i8.binds (ps:=["self", "text", "place"]) fun _ _ _ _ _ _=>aU fun _=>aU fun _=>aU fun _=>cg rfl;have dB:uV K bt "bare_from" fB:=⟨jf,iP,fO⟩
 have ji:=aR (st:=inClass (top aY) 2) iT jc fQ;have ph:=ji.binds (ps:=["self", "part", "text", "place"]) fun _ _ _ _ _ _=>aU fun _=>aU fun _=>aU fun _=>aU fun _=>cg rfl;have fV:uV K bt "part_from" fk:=⟨iM,iX,fQ⟩
 have gH:=aR (st:=inClass (top aY) 3) gF gD eA;have kT:=gH.binds (ps:=["self", "text", "place"]) fun _ _ _ _ _ _=>aU fun _=>aU fun _=>aU fun _=>cg rfl;have eG:uV K bt "number_from" dS:=⟨gC,gz,eA⟩
 have MKR:Mk K bt mS:=⟨Np,qX,rZ,PD⟩
 have Po:=Jl X G jF;have sv:=Jl X G oA;have sx:=Jl X G nY;have AX:=Jl X G wH;have iI:=Jl X G nU;have k1:=F1.kp;have b1:=F1.binds (ps:=["text", "signs"]) fun _ _ _ _ _ _=>aU fun _=>aU fun _=>cg rfl;have k2:=F2.kp;have b2:=F2.binds (ps:=["thing"]) fun _ _ _ _ _ _=>aU fun _=>cg rfl;have k3:=F3.kp;have b3:=F3.binds (ps:=["thing"]) fun _ _ _ _ _ _=>aU fun _=>cg rfl;have k4:=F4.kp;have b4:=F4.binds (ps:=["one", "other"]) fun _ _ _ _ _ _=>aU fun _=>aU fun _=>cg rfl;have k5:=F5.kp;have b5:=F5.binds (ps:=["thing"]) fun _ _ _ _ _ _=>aU fun _=>cg rfl;have k6:=F6.kp;have b6:=F6.binds (ps:=["thing"]) fun _ _ _ _ _ _=>aU fun _=>cg rfl;have k7:=F7.kp;have b7:=F7.binds (ps:=["thing"]) fun _ _ _ _ _ _=>aU fun _=>cg rfl;have k8:=F8.kp;have b8:=F8.binds (ps:=["book"]) fun _ _ _ _ _ _=>aU fun _=>cg rfl;have k9:=F9.kp;have b9:=F9.binds (ps:=["book"]) fun _ _ _ _ _ _=>aU fun _=>cg rfl;have O9:=Tx.kp;have Zr:=Tx.binds (ps:=["thing", "names"]) fun _ _ _ _ _ _=>aU fun _=>aU fun _=>cg rfl;have k11:=RE.kp;have VI:=RE.binds (ps:=["kinds", "near", "far"]) fun _ _ _ _ _ _=>aU fun _=>aU fun _=>aU fun _=>cg rfl;have k12:=Sr.kp;have b12:=Sr.binds (ps:=["kinds", "spots", "sizes", "near", "far"]) fun _ _ _ _ _ _=>aU fun _=>aU fun _=>aU fun _=>aU fun _=>aU fun _=>cg rfl;have Ds:=QP.kp;have b13:=QP.binds (ps:=["power"]) fun _ _ _ _ _ _=>aU fun _=>cg rfl;have k14:=Ry.kp;have b14:=Ry.binds (ps:=["number", "many"]) fun _ _ _ _ _ _=>aU fun _=>aU fun _=>cg rfl;have k15:=QS.kp;have b15:=QS.binds (ps:=["figures"]) fun _ _ _ _ _ _=>aU fun _=>cg rfl;have k16:=QT.kp;have b16:=QT.binds (ps:=["book"]) fun _ _ _ _ _ _=>aU fun _=>cg rfl;have k17:=Tc.kp;have b17:=Tc.binds (ps:=["names_by_code", "lengths", "text", "place"]) fun _ _ _ _ _ _=>aU fun _=>aU fun _=>aU fun _=>aU fun _=>cg rfl;have k18:=Rz.kp;have b18:=Rz.binds (ps:=["lookup", "text", "place"]) fun _ _ _ _ _ _=>aU fun _=>aU fun _=>aU fun _=>cg rfl;have k19:=Rc.kp;have b19:=Rc.binds (ps:=["ahead", "text", "place", "many"]) fun _ _ _ _ _ _=>aU fun _=>aU fun _=>aU fun _=>aU fun _=>cg rfl;have k20:=SY.kp;have b20:=SY.binds (ps:=["text", "place"]) fun _ _ _ _ _ _=>aU fun _=>aU fun _=>cg rfl;have k21:=RS.kp;have b21:=RS.binds (ps:=["text", "place", "many"]) fun _ _ _ _ _ _=>aU fun _=>aU fun _=>aU fun _=>cg rfl;have k22:=S2.kp;have b22:=S2.binds (ps:=["form", "text", "place"]) fun _ _ _ _ _ _=>aU fun _=>aU fun _=>aU fun _=>cg rfl;have k23:=SQ.kp;have b23:=SQ.binds (ps:=["form", "text"]) fun _ _ _ _ _ _=>aU fun _=>aU fun _=>cg rfl;have k24:=SO.kp;have b24:=SO.binds (ps:=["distance", "figures"]) fun _ _ _ _ _ _=>aU fun _=>aU fun _=>cg rfl;have k25:=R1.kp;have b25:=R1.binds (ps:=["distance", "figures"]) fun _ _ _ _ _ _=>aU fun _=>aU fun _=>cg rfl;have k26:=SK.kp;have b26:=SK.binds (ps:=["form", "part", "value"]) fun _ _ _ _ _ _=>aU fun _=>aU fun _=>aU fun _=>cg rfl;have k27:=Ta.kp;have b27:=Ta.binds (ps:=["form", "bare"]) fun _ _ _ _ _ _=>aU fun _=>aU fun _=>cg rfl;have k28:=QO.kp;have b28:=QO.binds (ps:=["_law_script"]) fun _ _ _ _ _ _=>aU fun _=>cg rfl;have k29:=R3.kp;have b29:=R3.binds (ps:=["_law_state", "_law_many"]) fun _ _ _ _ _ _=>aU fun _=>aU fun _=>cg rfl;have Z5:=Rh.kp;have b30:=Rh.binds (ps:=["_law_found", "_law_due"]) fun _ _ _ _ _ _=>aU fun _=>aU fun _=>cg rfl;have k31:=SV.kp;have b31:=SV.binds (ps:=["_law_state", "_law_some"]) fun _ _ _ _ _ _=>aU fun _=>aU fun _=>cg rfl;have k32:=Rk.kp;have b32:=Rk.binds (ps:=["_law_state", "_law_many", "_law_most"]) fun _ _ _ _ _ _=>aU fun _=>aU fun _=>aU fun _=>cg rfl;have k33:=To.kp;have b33:=To.binds (ps:=[]) fun _ _ _ _ _ _=>cg rfl;have k34:=Rn.kp;have b34:=Rn.binds (ps:=[]) fun _ _ _ _ _ _=>cg rfl;have k35:=RW.kp;have b35:=RW.binds (ps:=["_law_state"]) fun _ _ _ _ _ _=>aU fun _=>cg rfl;have k36:=SG.kp;have b36:=SG.binds (ps:=["_law_parts_here"]) fun _ _ _ _ _ _=>aU fun _=>cg rfl;have k37:=Sw.kp;have b37:=Sw.binds (ps:=["_law_number", "_law_many"]) fun _ _ _ _ _ _=>aU fun _=>aU fun _=>cg rfl;have k38:=RO.kp;have b38:=RO.binds (ps:=["_law_many"]) fun _ _ _ _ _ _=>aU fun _=>cg rfl;have k39:=SE.kp;have b39:=SE.binds (ps:=["_law_word"]) fun _ _ _ _ _ _=>aU fun _=>cg rfl;have k40:=Sm.kp;have b40:=Sm.binds (ps:=["_law_parts_here", "_law_bare"]) fun _ _ _ _ _ _=>aU fun _=>aU fun _=>cg rfl;have F41:=aR (st:=top iz) WG Zg VG;refine⟨Yd "law" "law" (cQ (top iz)) (cy (top iz)) (aj (top iz)) .none Tl Tq R5 QG PF QX,fun s v =>.of_eq rfl,fun base hB hG =>?_⟩;have sE:=tD (P:=l.prog) (w:=w) (mg:=mg) (base:=base) ug GS;have qF:=tx (P:=l.prog) (w:=w) (mg:=mg) (base:=base) uH JD;have JE:Fn l.prog w K mg base 1 "made_of" ["text", "signs"] (rp):=⟨f1,_,L3 F1 T,b1,k1,Jl X G a1⟩
 have V6:Fn l.prog w K mg base 2 "is_name" ["thing"] (nD K dF):=⟨f2,_,D9 F2 T gw fH JE,b2,k2,Jl X G a2⟩
 have X6:Fn l.prog w K mg base 2 "is_code" ["thing"] (nD K cF):=⟨f3,_,C8 F3 T kz JE,b3,k3,Jl X G a3⟩
 have Tr:Fn l.prog w K mg base 1 "rest_of" ["one", "other"] (u9):=⟨f4,_,Mc F4 T,b4,k4,Jl X G a4⟩
 have Vl:Fn l.prog w K mg base 1 "is_number" ["thing"] (zZ K):=⟨f5,_,Hi F5 T,b5,k5,Jl X G a5⟩
 have Xp:Fn l.prog w K mg base 3 "is_entry" ["thing"] (nD K bz):=⟨f6,_,AD F6 T V6 X6,b6,k6,Jl X G a6⟩
 have VW:Fn l.prog w K mg base 4 "is_book" ["thing"] (qV K):=⟨f7,_,Dm F7 T Xp,b7,k7,Jl X G a7⟩
 have fCl:Fn l.prog w K mg base 2 "clash" ["book"] (uY K):=⟨f8,_,QR F8 T Tr,b8,k8,Jl X G a8⟩
 have fFr:Fn l.prog w K mg base 3 "free" ["book"] (Bq K):=⟨f9,_,KH F9 T fCl,b9,k9,Jl X G a9⟩
 have Wy:Fn l.prog w K mg base 5 "is_free_book_of" ["thing", "names"] (IU K):=⟨XR,_,Pf Tx T gB VW fFr,Zr,O9,Jl X G YZ⟩
 have XV:Fn l.prog w K mg base 1 "far_is_shorter" ["kinds", "near", "far"] (HF K):=⟨Vz,_,OG RE T da uW hJ,VI,k11,Jl X G ZA⟩
 have fFw:Fn l.prog w K mg base 6 "first_wrong" ["kinds", "spots", "sizes", "near", "far"] (P1 K):=⟨Zb,_,R0 Sr T M29 Wy Vl XV,b12,k12,Jl X G VH⟩
 have M7:Fn l.prog w K mg base 1 "two_to" ["power"] (o6):=⟨Vw,_,Ps QP T,b13,Ds,Jl X G WA⟩
 have S8:Fn l.prog w K mg base 1 "figures_of" ["number", "many"] (rM):=⟨Xy,_,O6 Ry T,b14,k14,Jl X G XZ⟩
 have fNo:Fn l.prog w K mg base 1 "number_of" ["figures"] (zM):=⟨YI,_,LM QS T,b15,k15,Jl X G VJ⟩
 have fLk:Fn l.prog w K mg base 1 "lookup_of" ["book"] (Bu K):=⟨Pk,_,KP QT T gB,b16,k16,Jl X G Vh⟩
 have fCa:Fn l.prog w K mg base 1 "code_at" ["names_by_code", "lengths", "text", "place"] (F0 K):=⟨Vp,_,OS Tc T,b17,k17,Jl X G Wz⟩
 have Qz:Fn l.prog w K mg base 2 "name_from" ["lookup", "text", "place"] (yb K):=⟨YU,_,Nv Rz T fCa,b18,k18,Jl X G VT⟩
 have UT:Fn l.prog w K mg base 2 "figures_from" ["ahead", "text", "place", "many"] (yC K):=⟨VF,_,Qi Rc T kz JE fNo,b19,k19,Jl X G W4⟩
 have ZP:Fn l.prog w K mg base 3 "many_from" ["text", "place"] (G1 K):=⟨XQ,_,OC SY T cI UT,b20,k20,Jl X G YW⟩
 have fDf:Fn l.prog w K mg base 3 "distance_from" ["text", "place", "many"] (Gq K):=⟨Zo,_,Ol RS T M7 UT,b21,k21,Jl X G Vj⟩
 have fBa:Fn l.prog w K mg base 6 "bare_at" ["form", "text", "place"] (IX K cu):=⟨VP,_,Pq S2 T Oz MKR iI (Co (P:=l.prog) (w:=w) (mg:=mg) (base:=base) sT T MF ME fLk) CW dB (Iy (P:=l.prog) (w:=w) (mg:=mg) (base:=base) i8 T Oz ME GW fV (JG (P:=l.prog) (w:=w) (mg:=mg) (base:=base) ji T Oz ME eG (JP (P:=l.prog) (w:=w) (mg:=mg) (base:=base) gH T ME bT hZ Qz UT) kT Qz ZP fDf) ph Qz) o8,b22,k22,Jl X G VS⟩
 have fBs:Fn l.prog w K mg base 6 "bares_of" ["form", "text"] (Hl K cu):=⟨Vf,_,OB SQ T Oz MKR iI (Co (P:=l.prog) (w:=w) (mg:=mg) (base:=base) sT T MF ME fLk) CW dB (Iy (P:=l.prog) (w:=w) (mg:=mg) (base:=base) i8 T Oz ME GW fV (JG (P:=l.prog) (w:=w) (mg:=mg) (base:=base) ji T Oz ME eG (JP (P:=l.prog) (w:=w) (mg:=mg) (base:=base) gH T ME bT hZ Qz UT) kT Qz ZP fDf) ph Qz) o8,b23,k23,Jl X G XU⟩
 have fRe:Fn l.prog w K mg base 2 "is_reached" ["distance", "figures"] (P7):=⟨YF,_,Tu SO T M7,b24,k24,Jl X G YT⟩
 have fPd:C0 l.prog w K mg base 3 "put_distance" ["distance", "figures"] (Ox cK):=⟨YE,_,SR R1 T sx rX qF sO fRe M7 S8,b25,k25,Jl X G X0⟩
 have fPp:C0 l.prog w K mg base 4 "put_part" ["form", "part", "value"] (PM K cu cK):=⟨YN,_,RN SK T MF da bT hZ cI S8 fPd,b26,k26,Jl X G WU⟩
 have fPb:C0 l.prog w K mg base 5 "put_bare" ["form", "bare"] (PV K cu cK):=⟨Xh,_,Q0 Ta T MF da GW fPp,b27,k27,Jl X G VX⟩
 have VD:Fn l.prog w K mg base 5 "put_bare" ["form", "bare"] (GU K cu):=C0.calm fPb (fun _ _ _ _ h=>NU h);have Nd:Fn l.prog w K mg base 1 "_law_begin" ["_law_script"] (vN K):=⟨X1,_,Gb QO T,b28,k28,Jl X G Xk⟩
 have Q9:Fn l.prog w K mg base 1 "_law_take" ["_law_state", "_law_many"] (Bb):=⟨Xs,_,K5 R3 T,b29,k29,Jl X G WV⟩
 have UL:Fn l.prog w K mg base 1 "_law_take" ["_law_state", "_law_many"] (Ez):=Fn.imp Q9 (fun _ _ _ _ h=>LU h);have Tw:∀n:Nat,Fn l.prog w K mg base (n+0) "_law_same" ["_law_found", "_law_due"] (wG K n):=fun n=>by
  induction n with
  | zero=>exact⟨UW,_,⟨fun vs H Q E h=>absurd h (by rintro⟨_,_,_,_,_,_,z,_⟩;exact absurd z (Wd _)),fun A outer s H args us vs Q E _ _ _ _ h=>absurd h (by rintro⟨_,_,_,_,_,_,z,_⟩;exact absurd z (Wd _))⟩,b30,Z5,Jl X G T9⟩
  | succ n ih=>exact⟨UW,_,L1 Rh T ih,b30,Z5,Jl X G T9⟩
 have SA:Fn l.prog w K mg base 2 "_law_mixed" ["_law_state", "_law_some"] (Cg K):=⟨YJ,_,He SV T UL,b31,k31,Jl X G ZE⟩
 have YH:Fn l.prog w K mg base 3 "_law_codes" ["_law_state", "_law_many", "_law_most"] (IG):=⟨XD,_,ON Rk T UL SA,b32,k32,Jl X G VR⟩
 have Px:Fn l.prog w K mg base 1 "_law_kinds" [] (rH aG):=⟨Vk,_,JN To T,b33,k33,Jl X G YA⟩
 have HA:Fn l.prog w K mg base 1 "_law_sizes" [] (rH aN):=⟨Xa,_,HP Rn T,b34,k34,Jl X G Zp⟩
 have Zu:Fn l.prog w K mg base 4 "_law_parts" ["_law_state"] (GV K):=⟨V4,_,GQ RW T da Px HA UL SA YH,b35,k35,Jl X G V3⟩
 have fFo:C0 l.prog w K mg base 9 "_law_form" ["_law_parts_here"] (OU K cu di):=⟨XC,_,Q6 SG T MKF AX (RH (P:=l.prog) (w:=w) (mg:=mg) (base:=base) C2 T MF sv qz sE qg fFw) Nl,b36,k36,Jl X G W7⟩
 have V1:Fn l.prog w K mg base 9 "_law_form" ["_law_parts_here"] (G4 K cu):=C0.calm fFo (fun _ _ _ _ h=>O1 h);have R6:Fn l.prog w K mg base 1 "_law_figures" ["_law_number", "_law_many"] (rM):=⟨X7,_,KC Sw T,b37,k37,Jl X G Xw⟩
 have Ri:Fn l.prog w K mg base 1 "_law_power" ["_law_many"] (o6):=⟨YG,_,L4 RO T,b38,k38,Jl X G Zz⟩
 have X4:Fn l.prog w K mg base 1 "_law_far_word" ["_law_word"] (zK):=⟨Zc,_,Lr SE T,b39,k39,Jl X G VO⟩
 have fLq:Fn l.prog w K mg base 2 "_law_put" ["_law_parts_here", "_law_bare"] (O2 K):=⟨WM,_,RX Sm T da HA R6 Ri X4,b40,k40,Jl X G Vt⟩
 exact O8 F41 T Nd UL Zu V1 VD fLq fBa fBs (Tw 8)
def walk {l:Qei}{q:Qaf}{loose:List Str}{XP:(Str->Option Fk)->Heap->Prop}{YP:Qag->Heap->Prop}{d:DefRec}{K:Params->Ja}(hn:l.most=some 63)(S7:d.params.defaults=[])
  (hY:∀(w:Qag) (h:Heap),YP w h->(K w.params).In h)
  (F:∀(w:Qag) (mg:Str->Option Fk) (fa:Gc) (h:Heap),(K w.params).In h->h.Ns W1 mg->mg d.name=some (.ref fa) ->
   ∃fd:Qad,(∀(s:KE) (u:Fk),QfF s fd ⟨[u],[]⟩ [("_law_script",u)])/\∀base:Heap,(K w.params).In base->base.Ns W1 mg->aW l.prog w (K w.params) mg base d6 10 fa fd ["_law_script"] (Cw (K w.params))) :
  PySem.W.WalkO q loose XP YP l.row.toRowW d [] (fun f vs=>QeQ f vs):=
 L2.LI (n:=63) (k:=10) (x := "_law_script") (CX:=fun _=>d6) (sp:=fun w=>Cw (K w.params)) hn ∅ S7 ⟨rfl,∅,∅,rfl⟩ hY F (fun _ _ a ns hl _ hS=>⟨a,ns,rfl,hS,hl,fun _=>rfl⟩) fun _ _ _ _ _ z=>z
end Z
open PySem PySem.W PyProof.Rows L2
set_option maxRecDepth 100000 in
set_option maxHeartbeats 0 in
theorem PySem.Challenge.cw_oddlong_k34_all_numbers_and_pairs_holds : PySem.Challenge.rw_oddlong_k34_all_numbers_and_pairs.Holds := by
  refine Z.Kr ?hw ?hc
  (case hw => w_witness2)
  k_fill
  refine Z.walk (l := PySem.Challenge.rw_oddlong_k34_all_numbers_and_pairs) rfl rfl (fun w h Y => Y) ?F
  case F =>
    intro w mg fa h KX G hmg
    refine' Z.all_mk KX G hmg ?a1 ?F1 ?a2 ?F2 ?a3 ?F3 ?a4 ?F4 ?a5 ?F5 ?a6 ?F6 ?a7 ?F7 ?a8 ?F8 ?a9 ?F9 ?YZ ?Tx ?ZA ?RE ?VH ?Sr ?WA ?QP ?XZ ?Ry ?VJ ?QS ?Vh ?QT ?Wz ?Tc ?VT ?Rz ?W4 ?Rc ?YW ?SY ?Vj ?RS ?VS ?S2 ?XU ?SQ ?YT ?SO ?X0 ?R1 ?WU ?SK ?VX ?Ta ?Xk ?QO ?WV ?R3 ?T9 ?Rh ?ZE ?SV ?VR ?Rk ?YA ?To ?Zp ?Rn ?V3 ?RW ?W7 ?SG ?Xw ?Sw ?Zz ?RO ?VO ?SE ?Vt ?Sm ?Vm ?WG ?Zg ?VG ?jF ?oA ?nY ?wH ?nU ?VB ?XE ?ZD ?UG ?UD ?UJ ?V7 ?WO ?Wu ?W9 ?T2 ?TZ ?UB ?WZ ?WJ ?WC ?TN ?UO ?Ru ?TY ?W5 ?u7 ?Bs ?Ad ?we ?AF ?Bj ?sL ?vJ ?wZ ?qQ ?wF ?wj ?u6 ?BC ?Aa ?rb ?vj ?vg ?sY ?wB ?vh ?qo ?vb ?vQ ?jX ?lU ?lF ?j7 ?md ?lB ?rN ?u0 ?wM ?kC ?kD ?pL ?qZ ?nR ?mM ?rD ?rg ?qv ?su ?qf ?p8 ?sZ ?nM ?mj ?sr ?rT ?sI ?rV ?qH ?PY ?NQ ?M8 ?Ot ?PJ ?Nu ?lh ?lY ?lJ ?oq ?sM ?u5 ?vI ?wI ?wX ?vd ?Pj ?OV ?Qk ?Qh ?Np ?PD ?lZ ?la ?ly ?oG ?sP ?qX ?rn ?rS ?rO ?rZ ?jf ?iQ ?jh ?fO ?iP ?iM ?iT ?jc ?fQ ?iX ?gC ?gF ?gD ?eA ?gz ?y0 ?y1 ?z0 ?z1 ?z2 ?z3 ?z4 ?z5 ?z6 ?z7 ?z8 ?z9 ?Vd ?WE ?Vg ?Zx ?ZB ?Xm
    (case a1 => k_is); (case F1 => (refine' aR ?l ?c ?k; (case l => k_is); (case c => k_is); (case k => k_is))); (case a2 => k_is); (case F2 => (refine' aR ?l ?c ?k; (case l => k_is); (case c => k_is); (case k => k_is))); (case a3 => k_is); (case F3 => (refine' aR ?l ?c ?k; (case l => k_is); (case c => k_is); (case k => k_is))); (case a4 => k_is); (case F4 => (refine' aR ?l ?c ?k; (case l => k_is); (case c => k_is); (case k => k_is)))
    (case a5 => k_is); (case F5 => (refine' aR ?l ?c ?k; (case l => k_is); (case c => k_is); (case k => k_is))); (case a6 => k_is); (case F6 => (refine' aR ?l ?c ?k; (case l => k_is); (case c => k_is); (case k => k_is))); (case a7 => k_is); (case F7 => (refine' aR ?l ?c ?k; (case l => k_is); (case c => k_is); (case k => k_is))); (case a8 => k_is); (case F8 => (refine' aR ?l ?c ?k; (case l => k_is); (case c => k_is); (case k => k_is)))
    (case a9 => k_is); (case F9 => (refine' aR ?l ?c ?k; (case l => k_is); (case c => k_is); (case k => k_is))); (case YZ => k_is); (case Tx => (refine' aR ?l ?c ?k; (case l => k_is); (case c => k_is); (case k => k_is))); (case ZA => k_is); (case RE => (refine' aR ?l ?c ?k; (case l => k_is); (case c => k_is); (case k => k_is))); (case VH => k_is); (case Sr => (refine' aR ?l ?c ?k; (case l => k_is); (case c => k_is); (case k => k_is)))
    (case WA => k_is); (case QP => (refine' aR ?l ?c ?k; (case l => k_is); (case c => k_is); (case k => k_is))); (case XZ => k_is); (case Ry => (refine' aR ?l ?c ?k; (case l => k_is); (case c => k_is); (case k => k_is))); (case VJ => k_is); (case QS => (refine' aR ?l ?c ?k; (case l => k_is); (case c => k_is); (case k => k_is))); (case Vh => k_is); (case QT => (refine' aR ?l ?c ?k; (case l => k_is); (case c => k_is); (case k => k_is)))
    (case Wz => k_is); (case Tc => (refine' aR ?l ?c ?k; (case l => k_is); (case c => k_is); (case k => k_is))); (case VT => k_is); (case Rz => (refine' aR ?l ?c ?k; (case l => k_is); (case c => k_is); (case k => k_is))); (case W4 => k_is); (case Rc => (refine' aR ?l ?c ?k; (case l => k_is); (case c => k_is); (case k => k_is))); (case YW => k_is); (case SY => (refine' aR ?l ?c ?k; (case l => k_is); (case c => k_is); (case k => k_is)))
    (case Vj => k_is); (case RS => (refine' aR ?l ?c ?k; (case l => k_is); (case c => k_is); (case k => k_is))); (case VS => k_is); (case S2 => (refine' aR ?l ?c ?k; (case l => k_is); (case c => k_is); (case k => k_is))); (case XU => k_is); (case SQ => (refine' aR ?l ?c ?k; (case l => k_is); (case c => k_is); (case k => k_is))); (case YT => k_is); (case SO => (refine' aR ?l ?c ?k; (case l => k_is); (case c => k_is); (case k => k_is)))
    (case X0 => k_is); (case R1 => (refine' aR ?l ?c ?k; (case l => k_is); (case c => k_is); (case k => k_is))); (case WU => k_is); (case SK => (refine' aR ?l ?c ?k; (case l => k_is); (case c => k_is); (case k => k_is))); (case VX => k_is); (case Ta => (refine' aR ?l ?c ?k; (case l => k_is); (case c => k_is); (case k => k_is))); (case Xk => k_is); (case QO => (refine' aR ?l ?c ?k; (case l => k_is); (case c => k_is); (case k => k_is)))
    (case WV => k_is); (case R3 => (refine' aR ?l ?c ?k; (case l => k_is); (case c => k_is); (case k => k_is))); (case T9 => k_is); (case Rh => (refine' aR ?l ?c ?k; (case l => k_is); (case c => k_is); (case k => k_is))); (case ZE => k_is); (case SV => (refine' aR ?l ?c ?k; (case l => k_is); (case c => k_is); (case k => k_is))); (case VR => k_is); (case Rk => (refine' aR ?l ?c ?k; (case l => k_is); (case c => k_is); (case k => k_is)))
    (case YA => k_is); (case To => (refine' aR ?l ?c ?k; (case l => k_is); (case c => k_is); (case k => k_is))); (case Zp => k_is); (case Rn => (refine' aR ?l ?c ?k; (case l => k_is); (case c => k_is); (case k => k_is))); (case V3 => k_is); (case RW => (refine' aR ?l ?c ?k; (case l => k_is); (case c => k_is); (case k => k_is))); (case W7 => k_is); (case SG => (refine' aR ?l ?c ?k; (case l => k_is); (case c => k_is); (case k => k_is)))
    (case Xw => k_is); (case Sw => (refine' aR ?l ?c ?k; (case l => k_is); (case c => k_is); (case k => k_is))); (case Zz => k_is); (case RO => (refine' aR ?l ?c ?k; (case l => k_is); (case c => k_is); (case k => k_is))); (case VO => k_is); (case SE => (refine' aR ?l ?c ?k; (case l => k_is); (case c => k_is); (case k => k_is))); (case Vt => k_is); (case Sm => (refine' aR ?l ?c ?k; (case l => k_is); (case c => k_is); (case k => k_is)))
    (case Vm => k_is); (case WG => k_is); (case Zg => k_is); (case VG => k_is); (case jF => k_is); (case oA => k_is); (case nY => k_is); (case wH => k_is)
    (case nU => k_is); (case VB => k_is); (case XE => k_is); (case ZD => k_is); (case UG => k_is); (case UD => k_is); (case UJ => k_is); (case V7 => k_is)
    (case WO => k_is); (case Wu => k_is); (case W9 => repeat (first | exact Paired.nil | refine Paired.cons ⟨_, rfl⟩ ?_)); (case T2 => k_is); (case TZ => k_is); (case UB => repeat (first | exact Paired.nil | refine Paired.cons ⟨_, rfl⟩ ?_)); (case WZ => k_is); (case WJ => k_is)
    (case WC => repeat (first | exact Paired.nil | refine Paired.cons ⟨_, rfl⟩ ?_)); (case TN => k_is); (case UO => k_is); (case Ru => repeat (first | exact trivial | refine ⟨⟨_, _, rfl, rfl⟩, ?_⟩)); (case TY => rfl); (case W5 => decide); (case u7 => k_is); (case Bs => k_is)
    (case Ad => repeat (first | exact Paired.nil | refine Paired.cons ⟨_, rfl⟩ ?_)); (case we => k_is); (case AF => k_is); (case Bj => repeat (first | exact Paired.nil | refine Paired.cons ⟨_, rfl⟩ ?_)); (case sL => k_is); (case vJ => k_is); (case wZ => repeat (first | exact Paired.nil | refine Paired.cons ⟨_, rfl⟩ ?_)); (case qQ => k_is)
    (case wF => k_is); (case wj => repeat (first | exact Paired.nil | refine Paired.cons ⟨_, rfl⟩ ?_)); (case u6 => k_is); (case BC => k_is); (case Aa => repeat (first | exact Paired.nil | refine Paired.cons ⟨_, rfl⟩ ?_)); (case rb => k_is); (case vj => k_is); (case vg => repeat (first | exact Paired.nil | refine Paired.cons ⟨_, rfl⟩ ?_))
    (case sY => k_is); (case wB => k_is); (case vh => repeat (first | exact Paired.nil | refine Paired.cons ⟨_, rfl⟩ ?_)); (case qo => k_is); (case vb => k_is); (case vQ => repeat (first | exact Paired.nil | refine Paired.cons ⟨_, rfl⟩ ?_)); (case jX => k_is); (case lU => k_is)
    (case lF => repeat (first | exact Paired.nil | refine Paired.cons ⟨_, rfl⟩ ?_)); (case j7 => k_is); (case md => k_is); (case lB => repeat (first | exact Paired.nil | refine Paired.cons ⟨_, rfl⟩ ?_)); (case rN => k_is); (case u0 => k_is); (case wM => repeat (first | exact Paired.nil | refine Paired.cons ⟨_, rfl⟩ ?_)); (case kC => k_is)
    (case kD => k_exc); (case pL => k_is); (case qZ => k_is); (case nR => k_is); (case mM => k_is); (case rD => k_is); (case rg => k_is); (case qv => k_is)
    (case su => k_is); (case qf => k_is); (case p8 => k_is); (case sZ => k_is); (case nM => k_is); (case mj => k_is); (case sr => k_is); (case rT => k_is)
    (case sI => k_is); (case rV => k_is); (case qH => k_is); (case PY => k_is); (case NQ => k_is); (case M8 => k_is); (case Ot => k_is); (case PJ => k_is)
    (case Nu => k_is); (case lh => k_is); (case lY => k_is); (case lJ => k_is); (case oq => k_is); (case sM => k_is); (case u5 => k_is); (case vI => k_is)
    (case wI => k_is); (case wX => k_is); (case vd => k_is); (case Pj => k_is); (case OV => k_is); (case Qk => k_is); (case Qh => k_is); (case Np => k_is)
    (case PD => k_is); (case lZ => k_is); (case la => k_is); (case ly => k_is); (case oG => k_is); (case sP => k_is); (case qX => k_is); (case rn => k_is)
    (case rS => k_is); (case rO => k_is); (case rZ => k_is); (case jf => k_is); (case iQ => k_is); (case jh => k_is); (case fO => k_is); (case iP => k_is)
    (case iM => k_is); (case iT => k_is); (case jc => k_is); (case fQ => k_is); (case iX => k_is); (case gC => k_is); (case gF => k_is); (case gD => k_is)
    (case eA => k_is); (case gz => k_is); (case y0 => k_is); (case y1 => k_is); (case z0 => k_is); (case z1 => k_is); (case z2 => k_is); (case z3 => k_is)
    (case z4 => k_is); (case z5 => k_is); (case z6 => k_is); (case z7 => k_is); (case z8 => k_is); (case z9 => k_is); (case Vd => k_is); (case WE => k_is)
    (case Vg => k_is); (case Zx => k_is); (case ZB => k_is); (case Xm => k_is)
