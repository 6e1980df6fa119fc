import PyProof.Rows.All
import KE.KSortTup
import KE.KDictOf
import KE.KIntText
import KE.KFromBytes
import KE.KTryMore
import KE.KItemsList
import KE.KRevIter
import KE.KMinKey
import ObjForm.ListNI
import Wide.Line
import OpenK.KOwn
import OpenK.KWalk
import OpenK.KLine
import Lean
import PySem.Challenge.RW_oddlong_k32_whole_texts_read
local macro_rules | `(∅) => `(by decide +kernel)
local macro_rules | `(⋯) => `(by lia)
local macro_rules | `(tactic| show $e) => `(tactic| refine $e)
local macro_rules (kind := «term{_}») | `({$xs,*}) => `(⟨$xs,*⟩)
set_option Elab.async false
set_option linter.all false
set_option maxRecDepth 100000
open PySem.W renaming Frag->Ja,kitOne->Ui,kia_one->U7,keepIn->Yj,findIn->Yt,emptyDict->Y4,instObj->Y5,fnOf->We
open PySem.Heap renaming get?_push_of_some->Jb,lt_size->Jg,get?_push_size->Ji,get?_update_self->J4,get?_update_other->J7,size_push->Uh,SameBut->U6
open List renaming length_map->Jc,getElem?_eq_getElem->Jd,mem_cons_of_mem->Jh,mem_cons_self->Jj,getElem?_map->Jk,getElem?_eq_some_iff->Jl,replicate->Jm,length_append->Jn,length_cons->Jo,mem_cons->Jq,mem_append_right->Jr,mem_singleton->Jt,size_toArray->Ju,map_append->Jx,mem_of_getElem?->J0,map_cons->J2,length_take->J3,mem_iff_getElem?->J6,mem_append->Ub,getElem_mem->Uc,length_replicate->Ud,length_drop->Ug,mem_map->Ul,mem_map_of_mem->Um,not_mem_nil->Uo,lookup_cons->Ur,append_nil->Us,pairwise_iff_getElem->Ut,mem_append_left->Uv,getElem?_append_right->Uw,append_assoc->Ux,getElem?_append_left->Uy,take_of_length_le->Uz,eq_nil_of_length_eq_zero->U1,all_eq_true->U2,take_length->U5,nodup_cons->U8,Perm->U9,sum_cons->Yc,map_map->Yh,getElem?_set_ne->Yi,mem_iff_getElem->Yk,mem_of_mem_drop->Yl,isPrefixOf_iff_prefix->Ym,mem_of_mem_take->Yn,length_nil->Yo,getElem?_set_self->Yp,length_zip->Yq,getElem?_replicate->Yr,length_eq_zero_iff->Ys,getD_eq_getElem?_getD->Yu,take_succ_eq_append_getElem->Yv,eraseIdx_eq_take_drop_succ->Yx,getElem?_zip_eq_some->Yy,getElem_map->Y0,pairwise_append->Y2,filterMap_cons->Y6,map_congr_left->Y7,any_cons->Y8,length_set->Wa,lookup->Wc
open Nat renaming le_refl->Je,le_trans->Jf,ne_of_lt->Jp,lt_of_lt_of_le->Jv,lt_of_le_of_lt->Jy,le_add_right->Ua,zero_le->Ue,lt_irrefl->Uk,ne_of_gt->Uq,le_of_lt->Yd,le_succ->Yw,lt_succ_self->Yz,pow_le_pow_right->Y3,not_lt_zero->Wb,succ_le_succ->Wd,lt_trans->Wf
open Bool renaming false_ne_true->Js,and_eq_true->Jw,true_and->Yb,eq_false_iff->Ye,false_and->Y1,eq_iff_iff->Y9
open Array renaming getElem?_eq_getElem->Jz,length_toList->Uj,getElem?_eq_none->Uu,getElem?_toList->U3,getElem?_eq_some_iff->U4,all_eq_true_iff_forall_mem->Yg
open Int renaming toNat_natCast->U0
open Array renaming size_push->Qb2,toList_push->Qcd,eq_empty_of_size_eq_zero->QeE,getElem?_push_size->QfI,getElem?_push_lt->QfX
open Bind renaming bind->QbV
open Bool renaming or_false->Qec,false_eq_true->Qeh
open Classical renaming propDecidable->Qby,byContradiction->QeK
open False renaming elim->QaV
open ForInStep renaming yield->Qc7
open Int renaming emod_lt_of_pos->Qb8,emod_nonneg->QcG,toNat_of_nonneg->QcJ,pow_succ->QeA,fmod_eq_emod_of_nonneg->QfF,fdiv_eq_ediv_of_nonneg->QfG,mul_zero->Qgn,mul_comm->Qgo,le_ediv_iff_mul_le->Qgp
open List renaming of_mem_zip->Qb3,prefix_append->Qb4,pairwise_singleton->Qb7,reverse_cons->Qce,prefix_or_prefix_of_prefix->Qcl,length_singleton->Qco,getElem?_toArray->Qcp,range->Qcq,all_cons->Qcy,toList_toArray->QcE,replicate_succ->QcF,drop_zero->QcO,drop_eq_getElem_cons->Qc0,length_range->Qc3,length->Qc4,eq_of_mem_replicate->Qc6,prefix_refl->Qdi,cons_append->Qdj,sum_replicate_nat->Qdq,range_succ_eq_map->Qdr,map_nil->Qds,length_filter_le->QdF,replicate_succ'->QdQ,map_id->QdR,length_eraseIdx->QdS,takeWhile_cons->Qd2,length_take_le->Qd3,length_reverse->Qd4,map_replicate->Qef,pairwise_map->Qer,flatten_cons->Qes,flatMap_cons->Qet,filter_cons->QeI,drop_length->QeJ,take_left'->QeW,forIn_cons->QeX,foldl_cons->QeY,dropLast_concat_getLast->QeZ,foldl->Qfo,map_take->QfQ,map_drop->QfR,length_erase_of_mem->QfS,getElem?_take_of_lt->QfT,pairwise_lt_range->Qf1,not_of_lt_findIdx->Qf2,length_pos_of_mem->Qf3,drop_of_length_le->Qf4,getElem?_eq_none->Qgl,perm_cons_erase->QgA
open List.Pairwise renaming sublist->QcW,nil->Qfp
open Nat renaming pow_succ->Qch,lt_succ_of_lt->Qci,add_assoc->QcA,succ_pos->QdA,mul_succ->QdB,mul_comm->QdC,le_of_eq->QdD,add_lt_add_left->Qea,zero_add->Qey,lt_trichotomy->Qez,mod_eq_of_lt->QeQ,log2_lt->QeV,two_pow_pos->Qe9,le_total->Qgj,div_div_eq_div_mul->Qgk
open Nat.succ renaming inj->Qd1
open Ne renaming symm->QaD
open Option renaming map_map->Qbn,isSome_some->Qgz
open Option.some renaming inj->Qan
open Or renaming inl->Qd0,inr->Qep
open Prod renaming ext->Qcz
open Prod.mk renaming inj->QaU
open PyProof renaming noPylong_small->QfD
open PyProof.Rows renaming callWith_type1->Qao,sortedS->Qa5,envOfC->Qb5,seqObj->QcC,AllBare->Qdt,toString_length_le->QdK,slot_tuple_getitem->QdL,slice_from_eq->Qed,slice_closes->Qel,IntsAre->Qeu,assignInOrder_cons->QeO,risingS->QeU,zipApart_new->Qe1
open PySem renaming wpAny_bind->be,wpAny_pure->tz,Value->Fk,Shared->Gc,Addr->KE,sizeLine->W1,model->Qaa,wpAny->Qab,Program->Qac,PyData->Qad,wpAny_setField_rec->Qae,starEach->Qaf,World->Qag,wpAny_holding->Qah,wpAny_field->Qai,FuncData->Qal,wpAny_callSpecial?_slot->Qam,wpAny_call_entry->Qaq,strLen_append->Qar,wpAny_seqItems->Qav,Around->QaB,compareOp->QaC,Expr->QaF,wpAny_isInstance->QaG,codeAny_builtin->QaH,mainGlobals->QaI,wpAny_setState_of->QaN,wpAny_newObj_type->QaO,eval->QaP,wpAny_Call_Name_kw->QaQ,wpAny_attempt->QaS,bootBuiltins->QaT,plainId_quiet->QaW,wpAny_typeOf->QaX,codeAny->QaY,rawInt->Qa0,wpAny_raiseNew_none->Qa6,wpAny_updateSeq->Qa9,binaryOp->Qba,wpAny_mono->Qbc,wpAny_askSetting->Qbd,wpAny_standAt->Qbe,codeAny_call_builtin->Qbf,wpAny_truthy_bool->Qbh,foldedSetIterable->Qbi,wpAny_rule->Qbj,wpAny_ite_split->Qbk,wpAny_nextOf_list_item->Qbp,IsPair->Qbq,attributeBase->Qbr,wpAny_ite->Qbs,typeLookup->Qbu,isSubtype_stop->Qbv,mem_of_lookup->QbA,sysModules->QbC,call_meets->QbD,wpAny_typeNameOfWhole_itemiter->QbG,KeyKind->QbH,wpAny_passesOwn->QbP,pyNext->QbR,builtinLookup_eq_fast->QbS,backTo->QbT,Scope->QbU,wpAny_updateSeq_pair->QbY,excClassObj->QbZ,Result->Qb6,wpAny_letGo->Qcj,wpAny_getItem_str_slice->Qck,wpAny_pyIter_list->Qcr,wpAny_newTuple->Qcs,wpAny_loadPart_at->Qct,wpAny_isOneOf_itemiter->Qcu,codeAny_mono->Qcw,NameKind->Qcx,wpAny_call->QcB,assignEach->QcD,wpAny_onRaise->QcH,sliceBounds->QcK,ZipApart->QcL,wpAny_specialOf->QcQ,wpAny_execs_nil->QcR,typeLookup_type->QcS,letOwnedTupleGo->QcT,Stmt->QcU,wpAny_dictSet_pairs->QcX,cLine->QcY,noteFrame->Qc5,wpAny_setField->Qc8,tupleKind_room_in1->Qc9,merged->Qda,callType_codes->Qdb,SetTable->Qdc,sizeLine_eq->Qdn,wpAny_comprehension_free->Qdu,strLen_append->Qdv,behindInMarks->Qdw,wpAny_pyIter_zip->QdG,swapsWith->QdH,pickOrder->QdI,DictEntry->QdN,typeIs_str->QdU,post_val_or_str->QdX,strKind->QdY,wpAny_notOrdered_dict->Qd5,wpAny_nextOf_list_end->Qd6,wpAny_newFunctionEnv->Qei,wpAny_fieldsOf->Qej,relayAll->Qek,tupleKind->Qen,getItem->Qeo,wpAny_pyIter_tuple->QeL,wpAny_load->QeM,stored->QeN,fits_of_scanBound->Qe3,compPost->Qe4,call->Qe7,Spec->Qe8,GenState->Qfa,plainObj_wpAny_Assign_Attribute->Qfg,wpAny_eqBool_str->Qfs,scanBound->Qft,pyIter->Qfu,noFill_tuple_add->Qfw,kt_code_dict_new->Qfx,IsPart->QfE,unsupported->QfJ,subscripted->QfK,keywordEach->QfL,theTreesLotGoes->QfV,Within->QfW,valueAt->QfY,callerA->QfZ,Keyword->Qf5,BindsTo->Qf6,wpAny_tryCatch->Qf7,wpAny_loadPart->Qf8,raiseAttrError->Qf9,field->Qga,bindArgs->Qgb,assign->Qgc,PlainAttrs->Qgh,Paired->Qgi,IsZip->Qgm,evalArgs_none->Qgs
open PySem.Builtin.Frozenset renaming addrOf->QdW
open PySem.Builtin.Int renaming intBits->Qcg
open PySem.Builtin.List renaming listSameRef->Qa4,listExtendWith->QbE,listLengthHint->Qcm,listTooLong->Qev
open PySem.Builtin.Slice renaming slicePlaces->QbJ,sliceAdjust->Qeg
open PySem.Builtin.SmallTypes renaming nextOf->QdO
open PySem.Builtin.Str renaming strSliceIndices->QbN,strSub->QdE
open PySem.Calls renaming spliced_cons->Qbo,spliced_nil->QbM,callWith_builtin->Qcc,Name_function_global->Qff,call_function_entry->Qfr,evalArgs_plain->Qgr
open PySem.Code renaming quiet_builtin->QcP
open PySem.F renaming plainAttrs_list->Qaw,plainAttrs_str->Qaz,slot_zip_next->QaL,plain_extend_loop->Qa3,type_list_append->Qa7,slot_list_append->Qa8,type_str_join->Qbl,slot_str_join->Qbm,args_zip_next_1->Qbz,entry_zip_next->QbF,slot_dict_itemiterator_next->QbI,entry_extend_loop->QbQ,slot_tuple_iterator_next->QbW,type_str_split->Qdd,slot_str_split->Qde,slot_dict_get->Qdk,kt_typeCall_dict_1->Qeb,args_tuple_add_2->QeB,args_str_split_2->QeC,args_dict_init_2->QeD,type_str_startswith->QeF,slot_str_startswith->QeG,entry_tuple_add->QeR,entry_str_split->QeS,entry_dict_init->QeT,args_dict_itemiterator_next_1->Qe0,slot_tuple_add->Qfb,slot_str_split->Qfc,kt_called_dict->Qfd,entry_dict_itemiterator_next->Qfe,type_list_index->Qfi,slot_list_index->Qfj,slot_dict_items->Qfk,plainAttrs_dict->Qfl,args_dict_get_3->Qfm,entry_dict_get->QfC,args_tuple_iterator_next_1->QfH,entry_tuple_iterator_next->QfU
open PySem.Heap renaming get?_none_of_le->QdT,MadeExcOf->Qfq
open PySem.Heap.DictOf renaming new->Qc1
open PySem.Heap.Ns1 renaming of_empty->Qgq
open PySem.Manifest renaming find?->Qdp
open PySem.NameKind renaming free->QaZ,cell->QcN
open PySem.Obj renaming mapSeq->QaJ,mapFields->QbL,data_mapFields->QcV,isFreed_of_fields->QdM,putSet->Qem
open PySem.Paired renaming length->Qfn
open PySem.PassesOwn renaming never->Qay
open PySem.PyData renaming weightAll->Qap,weight->QaA,depth->Qbg,depthAll->Qbt,canLay0->QbB,str->QbO,eqvAll->QbX,eqv->Qb1,tuple->Qca,canLayAll0->Qcb,shownAll->Qdl,int->QdZ,shown->Qee,showable->QeH,showableAll->Qgy
open PySem.PyData.list renaming inj->Qd9
open PySem.SeqAt renaming shaped->QaE
open PySem.SeqAt.EqAt renaming bool_bool->Qdf,str_str->QfN,str_int->QfO,int_str->QfP
open PySem.SetTable renaming below->QaK,grown->QbK,has->Qfh,orStandIn->Qf0
open PySem.SetTable.below renaming go->Qe6
open PySem.SetTable.probe renaming go->Qdo
open PySem.Shared renaming TypeIs->Qa1
open PySem.Str renaming ofString->Wp,empty->Qau
open PySem.Txt renaming slice->Qak,join->QaM,mul->Qbx,split->Qb9,startswith->Qcf,slice_le->Qdx,stripChars->Qfy,contains->Qge
open PySem.Value renaming ref->Qaj,type->Qa2,bool->Qbw,none->Qcn,str->QcI,isInt_shape->QcZ,int->QdP,isStrOf_shape->QdV,float->Qgd
open PySem.W renaming callWith_K->Qb0,looks_findIn->Qcv,plainGet->Qc2,makesIn->Qdg,KeysLit->Qdh,topFrom->Qdm,lookIn->Qdy,codeIn->Qdz,plainGet_of->QdJ,kitx_list->Qd7,hasDictIn->Qd8,takerIn->Qew,OpenLaw->Qex,clsIn->Qe5,nsIn->Qfv,nsIn->Qfz,isFn->QfA,cellsFrom_some->QfB,hideAll_get->QfM,kitx_tuple->Qgg,plainOver->Qgt,kitx_none->Qgu,kitx_dict->Qgv,kitx_bool->Qgw,kdx_alive->Qgx
open PySem.W.Fast renaming te14364793385576792824->Qas,te14082659384304107361->Qat,te4187177175401517315->Qax
open PySem.W.OpenLaw renaming row->Qeq
open PySem.W.OpenRow renaming toRowW->QeP
open PySem.pickOrder renaming go->Qe2
open Sum renaming inr->Qbb,inl->Qgf
open Sum.inr renaming inj->QcM
open True renaming intro->QaR
noncomputable section
namespace L2
set_option genSizeOf false
set_option genInjectivity false
inductive fX {α0 α1:Type}(P: α0 -> α1->Prop):Prop|mk (x0: α0) (x1: α1) (h:P x0 x1):fX P
inductive pW {α0 α1 α2:Type}(P: α0 -> α1 -> α2->Prop):Prop|mk (x0: α0) (x1: α1) (x2: α2) (h:P x0 x1 x2):pW P
inductive nP {α0 α1 α2 α3:Type}(P: α0 -> α1 -> α2 -> α3->Prop):Prop|mk (x0: α0) (x1: α1) (x2: α2) (x3: α3) (h:P x0 x1 x2 x3):nP P
inductive uN {α0 α1 α2 α3 α4:Type}(P: α0 -> α1 -> α2 -> α3 -> α4->Prop):Prop|mk (x0: α0) (x1: α1) (x2: α2) (x3: α3) (x4: α4) (h:P x0 x1 x2 x3 x4):uN P
inductive Fz {α0 α1 α2 α3 α4 α5:Type}(P: α0 -> α1 -> α2 -> α3 -> α4 -> α5->Prop):Prop|mk (x0: α0) (x1: α1) (x2: α2) (x3: α3) (x4: α4) (x5: α5) (h:P x0 x1 x2 x3 x4 x5):Fz P
set_option genSizeOf true
set_option genInjectivity true
class ak (P:Prop) (F:outParam (Prop->Prop)):Prop where
 el:P->∀G:Prop,F G->G
def ak.go {P:Prop}{F:Prop->Prop}[i:ak P F]{G:Prop}(k:F G):P->G:=fun h=>i.el h G k
instance (priority:=low) elimBase {P:Prop}:ak P (fun G=>P->G):=⟨fun h _ k=>k h⟩
instance Tl {α:Sort u} {P: α->Prop} {F: α->Prop->Prop} [h:∀x,ak (P x) (F x)]:ak (∃x,P x) (fun G=>∀x,F x G):=⟨fun⟨x,hx⟩ G k=>(h x).el hx G (k x)⟩
instance Sb {A B:Prop} {F:Prop->Prop} [h:ak B F]:ak (A/\B) (fun G=>A->F G):=⟨fun⟨a,b⟩ G k=>h.el b G (k a)⟩
instance R5 {α0 α1:Type} {P: α0 -> α1->Prop} {F: α0 -> α1->Prop->Prop} [i:∀x0 x1,ak (P x0 x1) (F x0 x1)]:ak (fX P) (fun G=>∀x0 x1,F x0 x1 G):=⟨fun⟨x0,x1,h⟩ G k=>(i x0 x1).el h G (k x0 x1)⟩
instance R0 {α0 α1 α2:Type} {P: α0 -> α1 -> α2->Prop} {F: α0 -> α1 -> α2->Prop->Prop} [i:∀x0 x1 x2,ak (P x0 x1 x2) (F x0 x1 x2)]:ak (pW P) (fun G=>∀x0 x1 x2,F x0 x1 x2 G):=⟨fun⟨x0,x1,x2,h⟩ G k=>(i x0 x1 x2).el h G (k x0 x1 x2)⟩
instance Sy {α0 α1 α2 α3:Type} {P: α0 -> α1 -> α2 -> α3->Prop} {F: α0 -> α1 -> α2 -> α3->Prop->Prop} [i:∀x0 x1 x2 x3,ak (P x0 x1 x2 x3) (F x0 x1 x2 x3)]:ak (nP P) (fun G=>∀x0 x1 x2 x3,F x0 x1 x2 x3 G):=⟨fun⟨x0,x1,x2,x3,h⟩ G k=>(i x0 x1 x2 x3).el h G (k x0 x1 x2 x3)⟩
instance Sn {α0 α1 α2 α3 α4:Type} {P: α0 -> α1 -> α2 -> α3 -> α4->Prop} {F: α0 -> α1 -> α2 -> α3 -> α4->Prop->Prop} [i:∀x0 x1 x2 x3 x4,ak (P x0 x1 x2 x3 x4) (F x0 x1 x2 x3 x4)]:ak (uN P) (fun G=>∀x0 x1 x2 x3 x4,F x0 x1 x2 x3 x4 G):=⟨fun⟨x0,x1,x2,x3,x4,h⟩ G k=>(i x0 x1 x2 x3 x4).el h G (k x0 x1 x2 x3 x4)⟩
instance R6 {α0 α1 α2 α3 α4 α5:Type} {P: α0 -> α1 -> α2 -> α3 -> α4 -> α5->Prop} {F: α0 -> α1 -> α2 -> α3 -> α4 -> α5->Prop->Prop} [i:∀x0 x1 x2 x3 x4 x5,ak (P x0 x1 x2 x3 x4 x5) (F x0 x1 x2 x3 x4 x5)]:ak (Fz P) (fun G=>∀x0 x1 x2 x3 x4 x5,F x0 x1 x2 x3 x4 x5 G):=⟨fun⟨x0,x1,x2,x3,x4,x5,h⟩ G k=>(i x0 x1 x2 x3 x4 x5).el h G (k x0 x1 x2 x3 x4 x5)⟩
open PySem PySem.Spec PyProof.Rows
abbrev Key:=Sum Int Str
def uc:Key->Fk->Bool
 | .inl k,v=>Value.isInt k v
 | .inr x,v=>Value.isStrOf x v
def Vq (w:Qag):Key->Int
 | .inl k=>hashInt k
 | .inr x=>hashStr w x
def cu:∀{k:Key} {v:Fk},uc k v=true->(∃i t,k=Qgf i/\v=QdP i t)\/(∃x t,k=Qbb x/\v=QcI x t)
 | .inl i,v,h=>by
  obtain⟨t,e⟩:=QcZ h;show .inl ⟨i,t,rfl,e⟩
 | .inr x,v,h=>by
  obtain⟨t,e⟩:=QdV h;show .inr ⟨x,t,rfl,e⟩
def CV (i:Int)(t:Tok):uc (.inl i) (.int i t)=true:=by simp[uc,Value.isInt]
def DX (x:Str)(t:Tok):uc (.inr x) (.str x t)=true:=by simp[uc,Value.isStrOf]
def MM (a b:Int):decide ((Qgf a:Key)=Qgf b)=(a==b):=by grind
def Mz (a b:Str):decide ((Qbb a:Key)=Qbb b)=decide (a=b):=by simp
def N6 (a:Int)(b:Str):decide ((Qgf a:Key)=Qbb b)=false:=decide_eq_false (nofun)
def MA (a:Str)(b:Int):decide ((Qbb a:Key)=Qgf b)=false:=decide_eq_false (nofun)
def bD (prog:Qac)(w:Qag):QbH prog w Key where
 is:=uc
 hash:=Vq w
 inj:=fun v a b ha hb=>by
  rcases cu ha with ⟨i,t,rfl,rfl⟩|⟨x,t,rfl,rfl⟩
  ·rcases cu hb with ⟨j,u,rfl,e⟩|⟨y,u,rfl,e⟩
   ·injection e with e1 _;rw[e1]
   ·show nomatch e
  ·rcases cu hb with ⟨j,u,rfl,e⟩|⟨y,u,rfl,e⟩
   ·show nomatch e
   ·injection e with e1 _;rw[e1]
 byValue:=fun k v h=>by
  rcases cu h with ⟨i,t,rfl,rfl⟩|⟨x,t,rfl,rfl⟩<;>rfl
 pyHash:=fun hv h=>by
  rcases cu hv with ⟨i,t,rfl,rfl⟩|⟨x,t,rfl,rfl⟩
  ·show wpAny_pyHash_int h
  ·show wpAny_pyHash_str h
 eqBool:=fun hu hv h=>by
  rcases cu hu with ⟨i,t,rfl,rfl⟩|⟨x,t,rfl,rfl⟩
  ·rcases cu hv with ⟨j,u,rfl,rfl⟩|⟨y,u,rfl,rfl⟩
   ·rw[MM] at h;show wpAny_eqBool_int h
   ·rw[N6] at h;show QfP i t y u _ _ _ _ h
  ·rcases cu hv with ⟨j,u,rfl,rfl⟩|⟨y,u,rfl,rfl⟩
   ·rw[MA] at h;show QfO x t j u _ _ _ _ h
   ·rw[Mz] at h;show Qfs h
 «strs»:=fun k x t v h=>by
  rcases cu h with ⟨i,u,rfl,e⟩|⟨y,u,rfl,e⟩
  ·show nomatch e
  ·injection e with e1 _
   subst e1;cases v<;>rfl
def wu (prog:Qac)(w:Qag)(i:Int)(t:Tok):(bD prog w).is (.inl i) (.int i t)=true:=CV i t
def wq (prog:Qac)(w:Qag)(x:Str)(t:Tok):(bD prog w).is (.inr x) (.str x t)=true:=DX x t
inductive V where
 | non|bl (b:Bool)|int (i:Int)|str (x:Str)|byt (b:Array UInt8)|flt (b:UInt64)|ref (a:KE)|ty (n:String)
 deriving DecidableEq
def RelV:V->Fk->Prop
 | .non,u=>u=Qcn
 | .bl b,u=>u=Qbw b
 | .int i,u=>∃t,u=QdP i t
 | .str x,u=>∃t,u=QcI x t
 | .byt b,u=>∃t,u=Value.bytes b t
 | .flt b,u=>∃t,u=Qgd b t
 | .ref a,u=>u=Qaj a
 | .ty n,u=>u=Qa2 n
abbrev Vals:List V->List Fk->Prop:=Qgi RelV
def Vals.length (r:Vals xs us):xs.length=us.length:=Qfn r
def Vals.get:∀{xs:List V} {us:List Fk} {i:Nat} {x:V},Vals xs us->xs[i]? = some x->∃u,us[i]? = some u/\RelV x u
 | _,_,_,_,.nil,e=>by simp at e
 | _,_,0,_,.cons r _,e=>by simp at e;subst e;show⟨_,rfl,r⟩
 | _,_,i+1,x,.cons _ t,e=>by
  obtain⟨u,h1,h2⟩:=Vals.get t (by simpa using e);show{u,by simpa using h1,h2}
def Vals.set (r:RelV x u):∀{xs:List V} {us:List Fk} i,Vals xs us->Vals (xs.set i x) (us.set i u)
 | _,_,_,.nil =>.nil
 | _,_,0,.cons _ t =>.cons r t
 | _,_,i+1,.cons q t =>.cons q (Vals.set r i t)
def Vals.append {us ws:List Fk}(h:Vals xs us)(s:Vals ys ws):Vals (xs++ys) (us++ws):=by
 induction h with
 | nil=>show s
 | cons r t ih=>show .cons r ih
def Vals.take:∀{xs:List V} {us:List Fk} n,Vals xs us->Vals (xs.take n) (us.take n)
 | _,_,0,_ =>.nil
 | _,_,_+1,.nil =>.nil
 | _,_,n+1,.cons r t =>.cons r (Vals.take n t)
def Vals.drop:∀{xs:List V} {us:List Fk} n,Vals xs us->Vals (xs.drop n) (us.drop n)
 | _,_,0,r=>r
 | _,_,_+1,.nil =>.nil
 | _,_,n+1,.cons _ t=>Vals.drop n t
def jD:Option V->Option Fk->Prop
 | some v,some u=>RelV v u
 | none,none=>True
 | _,_=>False
def KV:List (κ×V)->List (κ×Fk)->Prop:=Qgi fun p q=>p.1=q.1/\RelV p.2 q.2
def kV:Key->V
 | .inl i =>.int i
 | .inr x =>.str x
inductive HO where
 | lst (xs:List V)
 | tup (xs:List V)
 | dK (kvs:List (Key×V))|dT (kvs:List (List Key×V))
 | set (S:Int->Bool) (n:Nat)
 | ins (C dx:KE) (fs:List (Str×V))
 | own (x:KE)
 | xd (fs:List (Str×V))
 | met (f x:KE)
 | rng (lo hi:Int)
 | frz (o:Obj) (u:HO)
 | tbl (ps:Array Fk)
 | ext (φ:Heap->Prop)
abbrev Hp:=KE->Option HO
def upd (H:Hp)(a:KE)(o:HO):Hp:=fun b=>if b=a then some o else H b
def ax:upd H a o a=some o:=by unfold upd;rw[if_pos rfl]
def av {a b:KE}{o:HO}(h:b≠a):upd H a o b=H b:=by unfold upd;rw[if_neg h]
def Bd:upd (upd H a o) a u=upd H a u:=by
 funext b;unfold upd;split<;>rfl
def rq {H:Hp}{a b:KE}{o u:HO}(h:H a=some o)(h':H b=some u)(d:o≠u):a≠b:=by grind
def aE {H:Hp}{a b:KE}{o:HO}(h:H a=some o)(h':H b=none):a≠b:=by grind
def vt (h:Heap)(a:KE)(items:Array Fk):Prop:=∃o,h.get? a=some o/\o.dict=none/\o.cls = .type "tuple" /\ ∃n,o.data = .seq items n
def vt.is:vt h a items->IsTup h a items:=fun⟨o,e,_,r⟩=>⟨o,e,r⟩
def vt.new (h:Heap)(items:Array Fk):vt (h.push { cls := .type "tuple",data := .seq items }) h.objs.size items:=⟨_,Ji _ rfl,rfl,rfl,_,rfl⟩
section
variable (P:Qac)(w:Qag)
def bB (H:Hp)(h:Heap)(a:KE):HO->Prop
 | .lst xs=>xs.length<=W1/\fX fun aF n=>Vals xs aF/\h.get? a=some { cls := .type "list",data := .seq aF.toArray n }
 | .tup xs=>xs.length<=W1/\∃aF,Vals xs aF/\vt h a aF.toArray
 | .dK kvs=>kvs.length<=W1/\(a==QbC)=false/\∃vs,KV kvs vs/\h.DictOf (bD P w) a vs
 | .dT kvs=>kvs.length<=W1/\(a==QbC)=false/\∃xs,
   Qgi (fun p q=>p.1=q.1/\H q.2.1=some (.tup (p.1.map kV))/\RelV p.2 q.2.2) kvs xs /\
   pW fun o es ep=>h.get? a=some o/\o.ExactDict/\o.data = .dict es ep/\es.toList=xs.map (entryOfKey (Qen (bD P w)))/\(xs.map (·.1)).Nodup
 | .set S n=>h.SetOf (intKind P w) a S n
 | .ins C dx fs=>H dx=some (.own a)/\fs.length<=1000/\dx≠a/\h.get? a=some (Y5 C dx) /\
   ∃mA,h.Ns1 dx mA/\(∀f,jD (fs.lookup f) (mA f))/\QfW mA (fs.map (·.1))
 | .own _=>∃o,h.get? a=some o
 | .xd fs=>∃mA,h.Ns1 a mA/\∀f,jD (fs.lookup f) (mA f)
 | .rng lo hi=>pW fun t u v=>h.get? a=some { cls := .type "range",data := .fields #[.int lo t,.int hi u,.int 1 v] }
 | .frz o u=>h.get? a=some o/\bB H h a u
 | .tbl ps=>h.get? a=some { cls := .none,data := .fields ps }
 | .met f x=>h.get? a=some (PySem.W.methodObj (.ref f) (.ref x))
 | .ext φ => φ h/\(∃o,h.get? a=some o)/\∀h1 h2, φ h1->(∀o,h1.get? a=some o->h2.get? a=some o) -> φ h2
def j0 (H:Hp)(h:Heap):Prop:=∀a o,H a=some o->bB P w H h a o
end
section
variable {P:Qac}{w:Qag}{H H':Hp}{h h':Heap}{a:KE}{o:HO}
def bB.lt (x:bB P w H h a o):a<h.objs.size:=by
 cases o with
 | lst xs=>obtain⟨_,_,_,_,e⟩:=x;show Jg e
 | tup xs=>obtain⟨_,_,_,p⟩:=x;show p.is.lt
 | dK kvs=>obtain⟨_,_,_,_,o,_,_,e,_⟩:=x;show Jg e
 | dT kvs=>obtain⟨_,_,_,_,o,_,_,e,_⟩:=x;show Jg e
 | set S n=>obtain⟨o,_,_,_,e,_⟩:=x;show Jg e
 | ins C dx fs=>obtain⟨_,_,_,e,_⟩:=x;show Jg e
 | own y=>obtain⟨_,e⟩:=x;show Jg e
 | xd fs=>obtain⟨_,⟨_,_,_,e,_⟩,_⟩:=x;show Jg e
 | rng lo hi=>obtain⟨_,_,_,e⟩:=x;show Jg e
 | frz ob u=>obtain⟨e,_⟩:=x;show Jg e
 | tbl ps=>show Jg (show h.get? a=some _ from x)
 | met f y=>show Jg (show h.get? a=some _ from x)
 | ext φ=>obtain⟨_,⟨_,e⟩,_⟩:=x;show Jg e
def Paired.Qq {l₁:List α}{l₂:List β}(h:Qgi F l₁ l₂)(f:∀a b,F a b->G a b):Qgi G l₁ l₂:=by
 induction h with
 | nil=>show .nil
 | cons r t ih=>show .cons (f _ _ r) ih
def bB.iz (x:bB P w H h a o)(k:∀b u,(b=a\/H b=some (.own a))->h.get? b=some u->h'.get? b=some u)
  (ho:∀b,H b=some (.own a)->H' b=some (.own a)) (ht:∀b xs,H b=some (.tup xs)->H' b=some (.tup xs)):bB P w H' h' a o:=by
 induction o with
 | lst xs=>obtain⟨z,aF,n,r,e⟩:=x;show⟨z,aF,n,r,k _ _ (.inl rfl) e⟩
 | tup xs=>obtain⟨z,aF,r,ob,e,c⟩:=x;show⟨z,aF,r,ob,k _ _ (.inl rfl) e,c⟩
 | dK kvs=>obtain⟨z,y,vs,r,ob,es,ep,e,c⟩:=x;show⟨z,y,vs,r,ob,es,ep,k _ _ (.inl rfl) e,c⟩
 | dT kvs=>
  obtain⟨z,y,xs,r,ob,es,ep,e,c⟩:=x;show{z,y,xs,Paired.Qq r fun p q z=>{z.1,ht _ _ z.2.1,z.2.2},ob,es,ep,k _ _ (.inl rfl) e,c}
 | set S n=>obtain⟨ob,es,ep,t,e,c⟩:=x;show⟨ob,es,ep,t,k _ _ (.inl rfl) e,c⟩
 | ins C dx fs=>
  obtain⟨d,z,ne,e,mA,⟨od,es,ep,e2,c⟩,r⟩:=x;show{ho _ d,z,ne,k _ _ (.inl rfl) e,mA,{od,es,ep,k _ _ (.inr d) e2,c},r}
 | own y=>obtain⟨ob,e⟩:=x;show⟨ob,k _ _ (.inl rfl) e⟩
 | xd fs=>obtain⟨mA,⟨od,es,ep,e,c⟩,r⟩:=x;show⟨mA,⟨od,es,ep,k _ _ (.inl rfl) e,c⟩,r⟩
 | rng lo hi=>obtain⟨t,u,v,e⟩:=x;show⟨t,u,v,k _ _ (.inl rfl) e⟩
 | frz ob u ih=>obtain⟨e,q⟩:=x;show⟨k _ _ (.inl rfl) e,ih q⟩
 | tbl ps=>
  have e:=x;show k a _ (.inl rfl) e
 | met f y=>
  have e:=x;show k a _ (.inl rfl) e
 | ext φ=>obtain⟨p,⟨o,e⟩,st⟩:=x;show⟨st _ _ p fun o q=>k _ _ (.inl rfl) q,⟨o,k _ _ (.inl rfl) e⟩,st⟩
def j0.lt (x:j0 P w H h)(e:H a=some o):a<h.objs.size:=(x a o e).lt
def j0.fresh (x:j0 P w H h)(e:h.objs.size<=a):H a=none:=by
 cases q:H a with
 | none=>rfl
 | some u=>show absurd (Jv (x.lt q) e) (Uk _)
def j0.kept (x:j0 P w H h)(k:∀b u,h.get? b=some u->h'.get? b=some u):j0 P w H h':=fun a o e=>
 (x a o e).iz (fun b u _ q=>k b u q) (fun _ q=>q) fun _ _ q=>q
def j0.laid (x:j0 P w H h)(k:∀b u,h.get? b=some u->h'.get? b=some u)(hp:h.objs.size<=a)(new:bB P w (upd H a o) h' a o):j0 P w (upd H a o) h':=fun b u e=>by
 have hn:=x.fresh hp
 by_cases hb:b=a
 ·subst hb;rw[ax] at e;cases e;show new
 ·rw[av hb] at e;show(x b u e).iz (fun c v _ q=>k c v q) (fun c q=>by rw[av (aE q hn)];show q) fun c xs q=>by rw[av (aE q hn)];show q
end
def Rd (H:Hp)(a:KE)(u:HO):Prop:=H a=some u\/∃o,H a=some (.frz o u)
def Rd.ok {H:Hp}{h:Heap}{a:KE}{u:HO}(r:Rd H a u)(x:j0 P w H h):bB P w H h a u:=by
 rcases r with r|⟨o,r⟩
 ·show x a u r
 ·obtain⟨_,q⟩:=x a _ r;show q
def RT:Option HO->Prop
 | some (.lst _)=>True
 | some (.dK _)=>True
 | some (.dT _)=>True
 | some (.set _ _)=>True
 | some (.ins _ _ _)=>True
 | some (.ext _)=>True
 | _=>False
section
variable {P:Qac}{w:Qag}{H:Hp}{h h':Heap}{x e:KE}{o':HO}
def j0.write (ok:j0 P w H h)(mu:RT (H x))(he:e=x\/H e=some (.own x))(k:∀b u,b≠e->h.get? b=some u->h'.get? b=some u)(O5:∃u,h'.get? e=some u)
  (new:bB P w (upd H x o') h' x o'):j0 P w (upd H x o') h':=fun b u q=>by
 have Qv:∀c y,H c=some (.own y)->c≠x:=fun c y r z=>by subst z;rw[r] at mu;show mu
 by_cases hb:b=x
 ·subst hb;rw[ax] at q;cases q;show new
 ·rw[av hb] at q
  by_cases hbe:b=e
  ·have q':H b=some (.own x):=by
    rcases he with z|z
    ·show absurd (hbe.trans z) hb
    ·rw[hbe];show z
   rw[q] at q';cases q';obtain⟨v,hv⟩:=O5;show{v,by rw[hbe];show hv}
  ·show(ok b u q).iz (fun c v hc r=>k c v ?_ r) (fun c r=>by rw[av (Qv c b r)];show r) fun c xs r=>by rw[av ((fun c xs r z=>by subst z;rw[r] at mu;show mu) c xs r)];show r
   rcases hc with rfl|hc
   ·show hbe
   ·rintro rfl
    rcases he with z|z
    ·show Qv c b hc z
    ·rw[hc] at z;cases z;show hb rfl
end
structure Un (fs ex:List KE)(H H':Hp)(h h':Heap):Prop where
 keep:∀b o,h.get? b=some o->H b=none->b∉fs->b∉ex->h'.get? b=some o
 slot:∀b o,h.get? b=some o->H b=none->b∈fs->b∉ex->∃sl,h'.get? b=some { o with slots:=sl }
 free:∀b o,h.get? b=some o->H b=none->b∉ex->H' b=none
 there:∀b o,h.get? b=some o->b∉ex->∃o',h'.get? b=some o'
 ke:∀b xs,H b=some (.tup xs)->H' b=some (.tup xs)
 j1:∀b o u,H b=some (.frz o u)->H' b=some (.frz o u)
 lI:∀b ps,H b=some (.tbl ps)->∃more,H' b=some (.tbl (ps++more))
section
variable {fs fs' ex ex':List KE}{H H1 H2:Hp}{h h1 h2 h':Heap}{a x e:KE}{o:HO}
def Un.any (u:Un fs ex H H1 h h1){b:KE}{ob:Obj}(q:h.get? b=some ob)(n:H b=none)(hx:b∉ex):∃sl,h1.get? b=some { ob with slots:=sl }:=by
 by_cases hb:b∈fs
 ·show u.slot b ob q n hb hx
 ·show{ob.slots,u.keep b ob q n hb hx}
def Un.kept (k:∀b u,h.get? b=some u->h'.get? b=some u):Un fs ex H H h h':=
 ⟨fun b ob q _ _ _=>k b ob q,fun b ob q _ _ _=>⟨ob.slots,k b ob q⟩,fun _ _ _ n _=>n,fun b ob q _=>⟨ob,k b ob q⟩,fun _ _ q=>q,fun _ _ _ q=>q,fun _ ps q=>⟨#[],by rw[q];simp⟩⟩
def Un.refl:Un fs ex H H h h:=Un.kept fun _ _ q=>q
def Un.laid (k:∀b u,h.get? b=some u->h'.get? b=some u)(hp:h.objs.size<=a)(hn:H a=none):Un fs ex H (upd H a o) h h' where
 keep:=fun b u q _ _ _=>k b u q
 slot:=fun b u q _ _ _=>⟨u.slots,k b u q⟩
 free:=fun b u q n _=>by rw[av (Jp (Jv (Jg q) hp))];show n
 there:=fun b u q _=>⟨u,k b u q⟩
 ke:=fun b xs q=>by rw[av (aE q hn)];show q
 j1:=fun b u xs q=>by rw[av (aE q hn)];show q
 lI:=fun b ps q=>⟨#[],by rw[av (aE q hn),q];simp⟩
def Un.write (mu:RT (H x))(he:e=x\/H e=some (.own x))(k:∀b u,b≠e->h.get? b=some u->h'.get? b=some u)(O5:∃u,h'.get? e=some u):Un fs ex H (upd H x o) h h':=by
 have hx:∀b,H b=none->b≠x:=fun b n z=>by subst z;rw[n] at mu;show mu
 have hb:∀b,H b=none->b≠e:=fun b n z=>by
  subst z
  rcases he with r|r
  ·show hx b n r
  ·rw[n] at r;cases r
 have hm:∀b u,H b=some u->¬RT (some u)->b≠x:=fun b u q nm z=>by subst z;rw[q] at mu;show nm mu
 show⟨fun b u q n _ _=>k b u (hb b n) q,fun b u q n _ _=>{u.slots,k b u (hb b n) q},fun b u q n _=>by rw[av (hx b n)];show n,fun b u q _ =>?_,
  fun b xs q=>by rw[av (hm b _ q fun z=>z)];show q,fun b u xs q=>by rw[av (hm b _ q fun z=>z)];show q,fun b ps q=>⟨#[],by rw[av (hm b _ q fun z=>z),q];simp⟩⟩
 by_cases hbe:b=e
 ·subst hbe;show O5
 ·show{u,k b u hbe q}
end
def ON (h:Heap)(H:Hp):List KE:=(Qcq h.objs.size).filter fun a=>(H a).isSome
def CL (h:Heap)(H:Hp):Heap:=PySem.W.hideAll h (ON h H)
def DH (h:Heap)(H:Hp):(CL h H).objs.size=h.objs.size:=PySem.W.hideAll_size _ _
def GH {H:Hp}{b:KE}{o:Obj}(e:h.get? b=some o)(n:H b=none):(CL h H).get? b=some o:=
 PySem.W.hideAll_get _ e fun hm=>by
  have q:=(List.mem_filter.mp hm).2;rw[n] at q;simp at q
def JE (e:(CL h H).get? b=some o):h.get? b=some o/\H b=none:=by
 have e':=PySem.W.of_hideAll (ON h H) e;show{e',?_};cases q:H b with
 | none=>rfl
 | some x=>
  have z:(CL h H).get? b=none:=PySem.W.hideAll_none (ON h H) (List.mem_filter.mpr ⟨List.mem_range.mpr (Jg e'),by simp[q]⟩);rw[z] at e;cases e
structure Mod (K:Ja)(mg:Str->Option Fk)(base:Heap):Prop where
 yH:K.In base
 glob:base.Ns QaI mg
 blt:∃mb,base.Ns builtinsNs mb/\∀x:Str,x ≠ "__name__" -> mb x=QaT x
 nolimit:base.NoLimit
structure Cx where
 prog:Qac
 w:Qag
 K:Ja
 mg:Str->Option Fk
 base:Heap
 A:QaB
 N:List Str
 s₀:Gc
 H₀:Hp
 env:Env
 outer:List Env
 stack:List Env
 ex:List KE
 fn:Str->Bool
 calm:Bool
 pn:List (KE×Obj)
 xe:Fk->Gc->Prop
def l9 (l:List Env):List KE:=l.filterMap (·.frame)
abbrev Cx.fs (X:Cx):List KE:=l9 X.outer
def Q5 (sc:QbU)(x:Str):Prop:=sc.names.lookup x=some .local\/sc.names.lookup x=some .cell\/sc.names.lookup x=some .free
def Loc (sc:QbU)(x:Str):Prop:=sc.names.lookup x=some .local\/sc.names.lookup x=some .cell
def Look (env:Env)(h:Heap)(m:Str->Option Fk)(x:Str)(u:Fk):Prop:=
 (env.kindOf x=some .local/\m x=some u)\/((env.kindOf x=some .cell\/env.kindOf x=some .free)/\∃c,env.cells.lookup x=some c/\h.IsCell c (some u))
structure Cx.Ok (X:Cx):Prop where
 mod:Mod X.K X.mg X.base
 kind:X.env.scope.kind = .function
 glob:X.env.globals=QaI
 blt:X.env.builtins=builtinsNs
 above:X.s₀.heap.objs.size<=X.env.locals
 inj:∀x y c,X.env.cells.lookup x=some c->X.env.cells.lookup y=some c->x=y
 has:∀x,(X.env.kindOf x=some .cell\/X.env.kindOf x=some .free)->∃c,X.env.cells.lookup x=some c
 cab:∀x c,X.fn x=true->X.env.cells.lookup x=some c->X.s₀.heap.objs.size<=c
 hd:X.calm=true->X.A.handled=none
 frames:X.A.frames=some X.stack
 stk:X.stack=X.outer\/(X.stack=X.env::X.outer/\X.env.frame=some X.env.locals)
 exf:∀b∈X.ex,b≠X.env.locals/\∀x c,X.env.cells.lookup x=some c->c≠b
 bs:∀b o,X.base.get? b=some o->X.s₀.heap.get? b=some o/\X.H₀ b=none
 bsz:X.base.objs.size<=X.s₀.heap.objs.size
 noex:∀b o,X.base.get? b=some o->b∉X.ex
 exfs:∀b∈X.ex,b∉X.fs
 lC:X.s₀.heap.FunFrames X.base X.outer
 frf:∀b∈X.fs,X.H₀ b=none
structure Inv (X:Cx)(pins:List (KE×Obj))(σ:List (Option V))(H:Hp)(s:Gc):Prop where
 ok:X.Ok
 os:s.os=X.s₀.os
 bare:Qdt s.gens
 base:Un X.fs X.ex X.H₀ H X.s₀.heap s.heap
 loc:∃m,s.heap.Ns X.env.locals m/\∀(i:Nat) (x:Str) (v:V),X.N[i]? = some x -> σ[i]? = some (some v)->Q5 X.env.scope x->∃u,RelV v u/\Look X.env s.heap m x u
 cell:∀x c,X.env.cells.lookup x=some c->∃v,s.heap.IsCell c v
 free:H X.env.locals=none
 freeC:∀x c,X.env.cells.lookup x=some c->H c=none
 pin:∀p∈X.pn++pins,s.heap.get? p.1=some p.2/\H p.1=none/\p.1≠X.env.locals/\p.1∉X.fs/\∀v,p.2.data ≠ .cell v
 bw:j0 X.prog X.w H s.heap
 len: σ.length=X.N.length
section
variable {X:Cx}{pins:List (KE×Obj)}{σ:List (Option V)}{H H':Hp}{s:Gc}{h':Heap}
def Cx.Ok.Vj (ok:X.Ok){b:KE}{o:Obj}(e:X.base.get? b=some o):b∉X.fs:=fun hb=>by
 have:=(ok.lC.mem hb).1;rw[e] at this;cases this
def Inv.bs (I:Inv X pins σ H s):∀b o,X.base.get? b=some o->s.heap.get? b=some o/\H b=none:=fun b o e=>
 ⟨I.base.keep b o (I.ok.bs b o e).1 (I.ok.bs b o e).2 (I.ok.Vj e) (I.ok.noex b o e),I.base.free b o (I.ok.bs b o e).1 (I.ok.bs b o e).2 (I.ok.noex b o e)⟩
def Inv.bk (I:Inv X pins σ H s):∀b o,X.base.get? b=some o->s.heap.get? b=some o:=fun b o e=>(I.bs b o e).1
def Inv.mod (I:Inv X pins σ H s):Mod X.K X.mg X.base:=I.ok.mod
def Inv.jr (I:Inv X pins σ H s):X.K.In s.heap:=I.ok.mod.yH.keeps I.bk
def Inv.lt (I:Inv X pins σ H s):X.env.locals<s.heap.objs.size:=let ⟨_,hn,_⟩:=I.loc;hn.lt
def Inv.sz (I:Inv X pins σ H s):X.s₀.heap.objs.size<=s.heap.objs.size:=Jf I.ok.above (Yd I.lt)
def Inv.RJ (I:Inv X pins σ H s){a:KE}(h:s.heap.objs.size<=a):a∉X.fs:=fun hb=>by
 obtain⟨_,o,ho,_⟩:=I.ok.lC.mem hb;show absurd (Jv (Jg ho) (Jf I.sz h)) (Uk _)
def Inv.Kq (I:Inv X pins σ H s):∀x c,X.env.cells.lookup x=some c->c≠X.env.locals:=fun x c e z=>by
 obtain⟨v,o,ho,hd⟩:=I.cell x c e;obtain⟨m,⟨o',es,ep,wK,DZ,_⟩,_⟩:=I.loc;rw[z,wK] at ho;cases ho;rw[DZ] at hd;cases hd
def Inv.lC (I:Inv X pins σ H s):s.heap.FunFrames X.base X.outer:=by
 have all:∀l,(∀b∈l9 l,b∈X.fs)->X.s₀.heap.FunFrames X.base l->s.heap.FunFrames X.base l:=by
  intro l
  induction l with
  | nil=>intro _ _;trivial
  | cons env r ih=>
   intro hs hl;obtain⟨hk,⟨L,o,hf,hn,ho,hd⟩,hr⟩:=hl;have hL:=hs L (by unfold l9;rw[Y6,hf];show Jj);obtain⟨sl,e⟩:=I.base.slot L o ho (I.ok.frf L hL) hL fun z=>I.ok.exfs L z hL;show{hk,{L,_,hf,hn,e,hd},ih (fun b hb=>hs b (by unfold l9;rw[Y6,hf];show Jh _ hb)) hr}
 show all X.outer (fun _ hb=>hb) I.ok.lC
def Inv.stack (I:Inv X pins σ H s):s.heap.FunFrames X.base X.stack:=by
 rcases I.ok.stk with e|⟨e,hf⟩
 ·rw[e];show I.lC
 ·rw[e];obtain⟨m,hn,_⟩:=I.loc;show .cons (by rw[I.ok.kind];decide) hf hn (QdT (Jf I.ok.bsz I.ok.above)) I.lC
def Inv.va (I:Inv X pins σ H s):∀b∈l9 X.stack,b∈X.env.locals::X.fs:=fun b hb=>by
 rcases I.ok.stk with e|⟨e,hf⟩
 ·rw[e] at hb;show Jh _ hb
 ·rw[e] at hb;unfold l9 at hb;rw[Y6,hf] at hb;show hb
def Inv.vU (I:Inv X pins σ H s):∀b∈l9 X.stack,H b=none:=fun b hb=>by
 rcases Jq.mp (I.va b hb) with e|hb
 ·rw[e];show I.free
 ·obtain⟨_,o,ho,_⟩:=I.ok.lC.mem hb;show I.base.free b o ho (I.ok.frf b hb) fun z=>I.ok.exfs b z hb
def Inv.step {d':Drawn}{ch:List KE}(I:Inv X pins σ H s)
  (uK:∀b∈ch,(b∈X.ex\/X.s₀.heap.objs.size<=b)/\b≠X.env.locals/\(∀x c,X.env.cells.lookup x=some c->c≠b)/\∀p∈X.pn++pins,p.1≠b)
  (keep:∀b o,b≠X.env.locals->b∉X.fs->b∉ch->s.heap.get? b=some o->H b=none->h'.get? b=some o)
  (slot:∀b o,b≠X.env.locals->b∈X.fs->b∉ch->s.heap.get? b=some o->H b=none->∃sl,h'.get? b=some { o with slots:=sl }) (free:∀b o,b∉ch->s.heap.get? b=some o->H b=none->H' b=none)
  (there:∀b o,b∉ch->s.heap.get? b=some o->∃o',h'.get? b=some o')
  (ke:∀b xs,H b=some (.tup xs)->H' b=some (.tup xs)) (j1:∀b o u,H b=some (.frz o u)->H' b=some (.frz o u)) (lI:∀b ps,H b=some (.tbl ps)->∃more,H' b=some (.tbl (ps++more)))
  (ns:∀m,s.heap.Ns X.env.locals m->h'.Ns X.env.locals m) (bw:j0 X.prog X.w H' h') (hg:Qdt g') :
  Inv X pins σ H' { s with heap:=h',gens:=g',drawn:=d',toks:=t' }:=by
 have V0:∀b o,X.s₀.heap.get? b=some o->b≠X.env.locals:=fun b o e=>Jp (Jv (Jg e) I.ok.above);have RX:∀b o,X.s₀.heap.get? b=some o->b∉X.ex->b∉ch:=fun b o e hx hb=>by
  rcases(uK b hb).1 with z|z
  ·show hx z
  ·show absurd (Jv (Jg e) z) (Uk _)
 have cellK:∀x c,X.env.cells.lookup x=some c->∀v,s.heap.IsCell c v->h'.IsCell c v:=fun x c e v ⟨o,ho,hd⟩=>by
  have LS:=fun z=>(uK c z).2.2.1 x c e rfl
  by_cases hc:c∈X.fs
  ·obtain⟨sl,q⟩:=slot c o (I.Kq x c e) hc LS ho (I.freeC x c e);show{_,q,hd}
  ·show{o,keep c o (I.Kq x c e) hc LS ho (I.freeC x c e),hd}
 show{I.ok,I.os,hg,{fun b o e n hb hx =>?_,fun b o e n hb hx =>?_,fun b o e n hx =>?_,fun b o e hx =>?_,fun b xs e=>ke b xs (I.base.ke b xs e),fun b o xs e=>j1 b o xs (I.base.j1 b o xs e),fun b ps e =>?_},?_,fun x c e =>?_,?_,fun x c e =>?_,fun p hp =>?_,bw,I.len}
 ·show keep b o (V0 b o e) hb (RX b o e hx) (I.base.keep b o e n hb hx) (I.base.free b o e n hx)
 ·obtain⟨sl,e1⟩:=I.base.slot b o e n hb hx;obtain⟨sl',e2⟩:=slot b _ (V0 b o e) hb (RX b o e hx) e1 (I.base.free b o e n hx);show⟨sl',e2⟩
 ·obtain⟨o',e1⟩:=I.base.there b o e hx;show free b o' (RX b o e hx) e1 (I.base.free b o e n hx)
 ·obtain⟨o',e1⟩:=I.base.there b o e hx;show there b o' (RX b o e hx) e1
 ·obtain⟨m1,e1⟩:=I.base.lI b ps e;obtain⟨m2,e2⟩:=lI b _ e1;show{m1++m2,by rw[e2,Array.append_assoc]}
 ·obtain⟨m,hn,hl⟩:=I.loc;show{m,ns m hn,fun i x v e1 e2 e3 =>?_};obtain⟨u,r,l⟩:=hl i x v e1 e2 e3;show{u,r,?_}
  rcases l with l|⟨k,c,e,z⟩
  ·show .inl l
  ·show .inr {k,c,e,cellK x c e _ z}
 ·obtain⟨v,z⟩:=I.cell x c e;show{v,cellK x c e v z}
 ·obtain⟨m,⟨o,_,_,ho,_⟩,_⟩:=I.loc;show free _ o (fun z=>(uK _ z).2.1 rfl) ho I.free
 ·obtain⟨v,o,ho,hd⟩:=I.cell x c e;show free c o (fun z=>(uK c z).2.2.1 x c e rfl) ho (I.freeC x c e)
 ·obtain⟨e,n,ne,nf,d⟩:=I.pin p hp;have LS:=fun z=>(uK p.1 z).2.2.2 p hp rfl;show{keep p.1 p.2 ne nf LS e n,free p.1 p.2 LS e n,ne,nf,d}
def Inv.un (I:Inv X pins σ H s)(u:Un X.fs [] H H' s.heap h')(bw:j0 X.prog X.w H' h'):Inv X pins σ H' { s with heap:=h',toks:=t' }:=by
 obtain⟨m,⟨o,es,ep,ho,r⟩,_⟩:=id I.loc;obtain⟨sl,hL⟩:=u.any ho I.free (by simp);show I.step (ch:=[]) (fun _ z=>nomatch z) (fun b o _ hb _ e n=>u.keep b o e n hb (by simp)) (fun b o _ hb _ e n=>u.slot b o e n hb (by simp)) (fun b o _ e n=>u.free b o e n (by simp)) (fun b o _ e=>u.there b o e (by simp)) u.ke u.j1 u.lI (fun m' hm=>by
  obtain⟨o',Es,ep',wK,r'⟩:=hm;rw[ho] at wK;cases wK;show⟨_,Es,ep',hL,r'⟩) bw I.bare
def Inv.call {d':Drawn}{ch:List KE}(I:Inv X pins σ H s)(u:Un (l9 X.stack) ch H H' s.heap h')(bw:j0 X.prog X.w H' h')(hg:Qdt g')
  (uK:∀b∈ch,(b∈X.ex\/X.s₀.heap.objs.size<=b)/\b≠X.env.locals/\(∀x c,X.env.cells.lookup x=some c->c≠b)/\∀p∈X.pn++pins,p.1≠b) :
  Inv X pins σ H' { s with heap:=h',gens:=g',drawn:=d',toks:=t' }:=by
 obtain⟨m,⟨o,es,ep,ho,r⟩,_⟩:=id I.loc;obtain⟨sl,hL⟩:=u.any ho I.free fun z=>(uK _ z).2.1 rfl;show I.step uK (fun b o hL hb hc e n=>u.keep b o e n (fun z=>(Jq.mp (I.va b z)).elim hL hb) hc) (fun b o _ _ hc e n=>u.any e n hc) (fun b o hc e n=>u.free b o e n hc) (fun b o hc e=>u.there b o e hc) u.ke u.j1 u.lI (fun m' hm=>by
  obtain⟨o',Es,ep',wK,r'⟩:=hm;rw[ho] at wK;cases wK;show⟨_,Es,ep',hL,r'⟩) bw hg
def Inv.turned {it:KE}(I:Inv X pins σ H s)(k:∀b o,b≠it->s.heap.get? b=some o->h'.get? b=some o)(hn:H it=none)(hL:it≠X.env.locals)
  (h1:it∈X.ex\/X.s₀.heap.objs.size<=it) (h2:∀x c,X.env.cells.lookup x=some c->c≠it) (h3:∀p∈X.pn++pins,p.1≠it):Inv X pins σ H { s with heap:=h',toks:=t' }:=by
 have V3:∀b u,H b=some u->b≠it:=fun b u e z=>by rw[z,hn] at e;cases e
 show I.step (ch:=[it]) (fun b hb =>?_) (fun b o _ _ hc e _=>k b o (fun z=>hc (by simp[z])) e) (fun b o _ _ hc e _=>{o.slots,k b o (fun z=>hc (by simp[z])) e}) (fun _ _ _ _ n=>n)
  (fun b o hc e=>⟨o,k b o (fun z=>hc (by simp[z])) e⟩) (fun _ _ e=>e) (fun _ _ _ e=>e) (fun b ps e=>⟨#[],by rw[e];simp⟩) (fun m hm =>?_) (fun b u e =>?_) I.bare
 ·have e:b=it:=by simpa using hb
  subst e;show⟨h1,hL,h2,h3⟩
 ·obtain⟨o,es,ep,ho,r⟩:=hm;show{o,es,ep,k _ o (QaD hL) ho,r}
 ·show(I.bw b u e).iz (fun c v hc q=>k c v ?_ q) (fun _ q=>q) fun _ _ q=>q
  rcases hc with z|z
  ·rw[z];show V3 b u e
  ·show V3 c _ z
def Inv.tok (I:Inv X pins σ H s)(t:Nat):Inv X pins σ H { s with toks:=t }:=I.un Un.refl I.bw
def Inv.kept (I:Inv X pins σ H s)(k:∀b u,s.heap.get? b=some u->h'.get? b=some u):Inv X pins σ H { s with heap:=h',toks:=t' }:=I.un (Un.kept k) (I.bw.kept k)
def Inv.laid {a:KE}{o:HO}{t':Nat}(I:Inv X pins σ H s)(k:∀b u,s.heap.get? b=some u->h'.get? b=some u)(hp:s.heap.objs.size<=a)(new:bB X.prog X.w (upd H a o) h' a o):
  Inv X pins σ (upd H a o) { s with heap:=h',toks:=t' }:=I.un (Un.laid k hp (I.bw.fresh hp)) (I.bw.laid k hp new)
def Inv.write (I:Inv X pins σ H s)(mu:RT (H x))(he:e=x\/H e=some (.own x))(k:∀b u,b≠e->s.heap.get? b=some u->h'.get? b=some u)(O5:∃u,h'.get? e=some u)
  (new:bB X.prog X.w (upd H x o) h' x o):Inv X pins σ (upd H x o) { s with heap:=h',toks:=t' }:=I.un (Un.write mu he k O5) (I.bw.write mu he k O5 new)
def Inv.weak (I:Inv X pins σ H s)(hl: σ'.length = σ.length)(w:∀(i:Nat) v,σ'[i]? = some (some v) -> σ[i]? = some (some v)):Inv X pins σ' H s:=
 ⟨I.ok,I.os,I.bare,I.base,let ⟨m,hn,Io⟩:=I.loc; ⟨m,hn,fun i x v e1 e2 e3=>Io i x v e1 (w i v e2) e3⟩,I.cell,I.free,I.freeC,I.pin,I.bw,hl.trans I.len⟩
def Inv.qe (I:Inv X pins σ H s)(h:∀p∈ph,s.heap.get? p.1=some p.2/\H p.1=none/\p.1≠X.env.locals/\p.1∉X.fs/\∀v,p.2.data ≠ .cell v):Inv X ph σ H s:=
 ⟨I.ok,I.os,I.bare,I.base,I.loc,I.cell,I.free,I.freeC,fun p hp=>(Ub.mp hp).elim (fun z=>I.pin p (Uv _ z)) (h p),I.bw,I.len⟩
def rf {N:List Str}(hN:N.Nodup){i j:Nat}{x:Str}(a:N[i]? = some x)(b:N[j]? = some x):i=j:=by
 obtain⟨h1,e1⟩:=Jl.mp a;obtain⟨h2,e2⟩:=Jl.mp b;show(List.getElem_inj hN).mp (e1.trans e2.symm)
def tT {i:Nat}{x:Str}{v:V}{u:Fk}{Q:Unit->Gc->Prop}(I:Inv X pins σ H s)(hN:X.N.Nodup)(hi:X.N[i]? = some x)(hx:Loc X.env.scope x)(r:RelV v u)
  (h:∀s',Inv X pins (σ.set i (some v)) H s'->(∃a,U6 a s.heap s'.heap/\(a=X.env.locals\/X.env.cells.lookup x=some a))->Q () s') (hf:X.fn x=true\/X.env.scope.names.lookup x=some .local:=by first|show .inl rfl|show .inr rfl|assumption):Qab M A (storeName X.env x u) Q E s:=by
 obtain⟨m,hn,hl⟩:=id I.loc;have W0:i < σ.length:=by rw[I.len];show(Jl.mp hi).1
 have Kq:=I.Kq;have tracked:∀{a:KE} {h':Heap},(∃o,s.heap.get? a=some o/\H a=none)->U6 a s.heap h'->j0 X.prog X.w H h':=fun{a h'} ha hs b ob e=>by
  obtain⟨_,_,Ba⟩:=ha;show(I.bw b ob e).iz (fun c w' hc q=>(hs.2 c ?_).trans q) (fun _ q=>q) fun _ _ q=>q;rintro rfl
  rcases hc with rfl|hc
  ·rw[Ba] at e;cases e
  ·rw[Ba] at hc;cases hc
 rcases hx with hk|hk
 ·show wpAny_storeName_local hk hn (fun h' hn' hs =>?_) (by rw[I.ok.kind];rfl);obtain⟨oL,_,_,hoL,_⟩:=id hn;show h _ {I.ok,I.os,I.bare,{fun b o e n hb hx =>?_,fun b o e n hb hx =>?_,I.base.free,fun b o e hx =>?_,I.base.ke,I.base.j1,I.base.lI},{_,hn',fun j y v' e1 e2 e3 =>?_},fun y c e =>?_,I.free,I.freeC,fun p hp =>?_,tracked ⟨oL,hoL,I.free⟩ hs,by simpa using I.len} {_,hs,.inl rfl}
  ·show(hs.2 b (Jp (Jv (Jg e) I.ok.above))).trans (I.base.keep b o e n hb hx)
  ·obtain⟨sl,e1⟩:=I.base.slot b o e n hb hx;show{sl,(hs.2 b (Jp (Jv (Jg e) I.ok.above))).trans e1}
  ·obtain⟨o',e1⟩:=I.base.there b o e hx;show{o',(hs.2 b (Jp (Jv (Jg e) I.ok.above))).trans e1}
  ·by_cases hj:j=i
   ·subst hj;rw[hi] at e1;cases e1;rw[Yp W0] at e2;cases e2;show{u,r,.inl {hk,by simp}}
   ·rw[Yi (QaD hj)] at e2;obtain⟨u',r',q⟩:=hl j y v' e1 e2 e3;show{u',r',?_}
    rcases q with ⟨k,e⟩|⟨k,c,e,z⟩
    ·show .inl {k,?_};have:y≠x:=fun e=>hj (rf hN e1 (e▸hi));simp[this,e]
    ·show .inr {k,c,e,z.sameBut hs (Kq y c e)}
  ·obtain⟨w',z⟩:=I.cell y c e;show{w',z.sameBut hs (Kq y c e)}
  ·obtain⟨e,n,ne,nf,d⟩:=I.pin p hp;show{(hs.2 p.1 ne).trans e,n,ne,nf,d}
 ·have T7:X.fn x=true:=by
   rcases hf with z|z
   ·show z
   ·rw[z] at hk;cases hk
  obtain⟨c,hc⟩:=I.ok.has x (.inl hk);obtain⟨w',z⟩:=I.cell x c hc;show wpAny_storeName_cell I.ok.kind hk hc z (fun h' hc' hs =>?_);obtain⟨oc,hoc,hocd⟩:=id z;show h { s with heap:=h' } {I.ok,I.os,I.bare,{fun b o e n hb hx =>?_,fun b o e n hb hx =>?_,I.base.free,fun b o e hx =>?_,I.base.ke,I.base.j1,I.base.lI},{m,hn.sameBut hs (QaD (Kq x c hc)),fun j y v' e1 e2 e3 =>?_},fun y c' e =>?_,I.free,I.freeC,fun p hp =>?_,tracked {oc,hoc,I.freeC x c hc} hs,by simpa using I.len} {c,hs,.inr hc}
  ·show(hs.2 b (Jp (Jv (Jg e) (I.ok.cab x c T7 hc)))).trans (I.base.keep b o e n hb hx)
  ·obtain⟨sl,e1⟩:=I.base.slot b o e n hb hx;show{sl,(hs.2 b (Jp (Jv (Jg e) (I.ok.cab x c T7 hc)))).trans e1}
  ·obtain⟨o',e1⟩:=I.base.there b o e hx;show{o',(hs.2 b (Jp (Jv (Jg e) (I.ok.cab x c T7 hc)))).trans e1}
  ·by_cases hj:j=i
   ·subst hj;rw[hi] at e1;cases e1;rw[Yp W0] at e2;cases e2;show{u,r,.inr {.inl hk,c,hc,hc'}}
   ·rw[Yi (QaD hj)] at e2;obtain⟨u',r',q⟩:=hl j y v' e1 e2 e3;show{u',r',?_}
    rcases q with q|⟨k,c',e,z'⟩
    ·show .inl q
    ·show .inr {k,c',e,z'.sameBut hs ?_};rintro rfl;show hj (rf hN e1 (I.ok.inj _ _ _ e hc▸hi))
  ·by_cases Po:c'=c
   ·subst Po;show⟨_,hc'⟩
   ·obtain⟨w2,z2⟩:=I.cell y c' e;show{w2,z2.sameBut hs Po}
  ·obtain⟨e,n,ne,nf,d⟩:=I.pin p hp;show{(hs.2 p.1 ?_).trans e,n,ne,nf,d};intro q;rw[q,hoc] at e;show d w' (by rw[<-(Qan e)];show hocd)
def i7 {i:Nat}{x:Str}{v:V}{u:Fk}{Q:Unit->Gc->Prop}(I:Inv X pins σ H s)(hN:X.N.Nodup)(hi:X.N[i]? = some x)(hx:Loc X.env.scope x)(r:RelV v u)
  (h:∀s',Inv X pins (σ.set i (some v)) H s'->Q () s') (hf:X.fn x=true\/X.env.scope.names.lookup x=some .local:=by first|show .inl rfl|show .inr rfl|assumption):Qab M A (storeName X.env x u) Q E s:=
 tT I hN hi hx r (fun s' I' _=>h s' I') hf
def Inv.Bq {ch:List KE}(I:Inv X pins σ H s)(ho:s'.os=s.os)(u:Un (l9 X.stack) ch H H' s.heap s'.heap)(bw:j0 X.prog X.w H' s'.heap)(hg:Qdt s'.gens)
  (uK:∀b∈ch,(b∈X.ex\/X.s₀.heap.objs.size<=b)/\b≠X.env.locals/\(∀x c,X.env.cells.lookup x=some c->c≠b)/\∀p∈X.pn++pins,p.1≠b):Inv X pins σ H' s':=by
 obtain⟨h',g',d',t',o'⟩:=s';subst ho;show I.call u bw hg uK
end
abbrev XK:=Fk->Option KE->Hp->Prop
abbrev St:=List (Option V)
abbrev VK:=V->Hp->Prop
abbrev TE:=St->Hp->VK->Prop
abbrev TT:=St->Hp->(Bool->Hp->Prop)->Prop
abbrev TA:=St->Hp->(List V->Hp->Prop)->Prop
structure Ends where
 nx:St->Hp->Prop
 rt:VK
 bk:St->Hp->Prop:=fun _ _=>False
 ct:St->Hp->Prop:=fun _ _=>False
abbrev TS:=Ends->St->Hp->Prop
def EP (X:Cx)(pins:List (KE×Obj))(σ:St)(Q:VK)(u:Fk)(s':Gc):Prop:=fX fun v H'=>Inv X pins σ H' s'/\RelV v u/\Q v H'
def TP (X:Cx)(pins:List (KE×Obj))(σ:St)(Q:Bool->Hp->Prop)(b:Bool)(s':Gc):Prop:=∃H',Inv X pins σ H' s'/\Q b H'
def AP (X:Cx)(pins:List (KE×Obj))(σ:St)(Q:List V->Hp->Prop)(us:List Fk)(s':Gc):Prop:=fX fun vs H'=>Inv X pins σ H' s'/\Vals vs us/\Q vs H'
instance Va {X:Cx} {pins:List (KE×Obj)} {σ:St} {Q:VK} {u:Fk} {s':Gc}:ak (EP X pins σ Q u s') (fun G=>∀v H',Inv X pins σ H' s'->RelV v u->Q v H'->G):=⟨fun⟨v,H',a,b,c⟩ _ k=>k v H' a b c⟩
instance S8 {X:Cx} {pins:List (KE×Obj)} {σ:St} {Q:Bool->Hp->Prop} {b:Bool} {s':Gc}:ak (TP X pins σ Q b s') (fun G=>∀H',Inv X pins σ H' s'->Q b H'->G):=⟨fun⟨H',a,c⟩ _ k=>k H' a c⟩
instance VE {X:Cx} {pins:List (KE×Obj)} {σ:St} {Q:List V->Hp->Prop} {us:List Fk} {s':Gc}:ak (AP X pins σ Q us s') (fun G=>∀vs H',Inv X pins σ H' s'->Vals vs us->Q vs H'->G):=⟨fun⟨v,H',a,b,c⟩ _ k=>k v H' a b c⟩
def SP (X:Cx)(pins:List (KE×Obj))(D:Ends)(f:Flow)(s':Gc):Prop:=
 match f with
 | .next=>fX fun σ' H'=>Inv X pins σ' H' s'/\D.nx σ' H'
 | .brk=>fX fun σ' H'=>Inv X pins σ' H' s'/\D.bk σ' H'
 | .cont=>fX fun σ' H'=>Inv X pins σ' H' s'/\D.ct σ' H'
 | .ret u=>pW fun v σ' H'=>Inv X pins σ' H' s'/\RelV v u/\D.rt v H'
def PE (X:Cx)(e:QaF)(t:TE):Prop:=
 ∀ ⦃pins:List (KE×Obj)⦄ (s:Gc) (σ:St) (H:Hp) (Q:VK),Inv X pins σ H s->t σ H Q->Qab (Qaa X.prog X.w) X.A (QaP e X.env) (EP X pins σ Q) X.xe s
def PT (X:Cx)(e:QaF)(t:TT):Prop:=
 ∀ ⦃pins:List (KE×Obj)⦄ (s:Gc) (σ:St) (H:Hp) (Q:Bool->Hp->Prop),Inv X pins σ H s->t σ H Q->Qab (Qaa X.prog X.w) X.A (isTrue e X.env (QaP e X.env)) (TP X pins σ Q) X.xe s
def PW (X:Cx)(e:QaF)(t:TT):Prop:=
 ∀ ⦃whole:Sem Fk⦄ ⦃pins:List (KE×Obj)⦄ (s:Gc) (σ:St) (H:Hp) (Q:Bool->Hp->Prop),Inv X pins σ H s->t σ H Q->Qab (Qaa X.prog X.w) X.A (isTrue e X.env whole) (TP X pins σ Q) X.xe s
def PW.pt (h:PW X e t):PT X e t:=fun pins s σ H Q I q=>h s σ H Q I q
def PA (X:Cx)(es:List QaF)(t:TA):Prop:=
 ∀ ⦃pos:Pos⦄ ⦃pins:List (KE×Obj)⦄ (s:Gc) (σ:St) (H:Hp) (Q:List V->Hp->Prop),Inv X pins σ H s->t σ H Q->Qab (Qaa X.prog X.w) X.A (spliced (QbT pos (Qaf es X.env))) (AP X pins σ Q) X.xe s
def PS (X:Cx)(st:QcU)(t:TS):Prop:=
 ∀ ⦃pins:List (KE×Obj)⦄ (s:Gc) (σ:St) (H:Hp) (D:Ends),Inv X pins σ H s->t D σ H->Qab (Qaa X.prog X.w) X.A (exec st X.env) (SP X pins D) X.xe s
def yj (X:Cx)(st:List QcU)(t:TS):Prop:=
 ∀ ⦃pins:List (KE×Obj)⦄ (s:Gc) (σ:St) (H:Hp) (D:Ends),Inv X pins σ H s->t D σ H->Qab (Qaa X.prog X.w) X.A (execs st X.env) (SP X pins D) X.xe s
def bg {M:Model}{A:QaB}{E:Fk->Gc->Prop}{s:Gc}(h:Qab M A t Q E s)(hQ:∀a s,Q a s->Q' a s):Qab M A t Q' E s:=Qbc h hQ fun _ _ x=>x
section
variable {X:Cx}
def K2 (i:Nat):TE:=fun σ H Q=>∃v,σ[i]? = some (some v)/\Q v H
def tC (v:V):TE:=fun _ H Q=>Q v H
def MG {pos:Pos}(hN:X.N[i]? = some x)(hv:Q5 X.env.scope x)(hd:(x==("__debug__" : Str))=false:=by decide)(Ah:(x==("__classdict__" : Str))=false:=by decide):PE X (.Name x pos) (K2 i):=by
 intro pins s σ H Q I h;obtain⟨v,e,h⟩:=h;obtain⟨m,hn,hl⟩:=I.loc;obtain⟨u,r,l⟩:=hl i x v hN e hv;have fin:EP X pins σ Q u s:=⟨v,H,I,r,h⟩
 rcases l with ⟨hk,hm⟩|⟨hk,c,hc,hcell⟩
 ·show wpAny_Name (wpAny_loadName_local I.ok.kind hk hn hm fin) hd
 ·rcases hk with hk|hk
  ·show wpAny_Name (wpAny_loadName_cell I.ok.kind hk hc hcell fin) hd
  ·show wpAny_Name (wpAny_loadName_free I.ok.kind hk hc hcell fin Ah) hd
def ah:PE X (.Constant (.int i) j pos) (tC (.int i)):=fun _ _ _ H _ I h=>wpAny_Constant_int ⟨.int i,H,I.tok _,⟨_,rfl⟩,h⟩
def jX:PE X (.Constant (.bool b) j pos) (tC (.bl b)):=fun _ _ _ H _ I h=>Constant_bool ⟨.bl b,H,I,rfl,h⟩
def aX:PE X (.Constant .none j pos) (tC .non):=fun _ _ _ H _ I h=>Constant_none ⟨.non,H,I,rfl,h⟩
def ar:PE X (.Constant (.str x) j pos) (tC (.str x)):=fun _ _ _ H _ I h=>Calls.Constant_str ⟨.str x,H,I.tok _,⟨_,rfl⟩,h⟩
def Gl (X:Cx)(x:Str):Prop:=X.env.kindOf x=some .globalImplicit
def jw {pins:List (KE×Obj)}{s:Gc}{σ:St}{H:Hp}{x:Str}{u:Fk}{pos:Pos}{Q:Fk->Gc->Prop}(I:Inv X pins σ H s)(hg:Gl X x)(hm:X.mg x=some u)(h:Q u s)
  (hd:(x==("__debug__" : Str))=false:=by decide):Qab (Qaa X.prog X.w) X.A (QaP (.Name x pos) X.env) Q E s:=
 Qff I.ok.kind hg (Calls.loadGlobal_global (by rw[I.ok.glob];show I.mod.glob.keeps I.bk) hm h) hd
def fE {E:Fk->Gc->Prop}{pins:List (KE×Obj)}{s:Gc}{σ:St}{H:Hp}{x:Str}{u:Fk}{pos:Pos}{Q:Fk->Gc->Prop}(I:Inv X pins σ H s)(hg:Gl X x)(hm:X.mg x=none)(hv:QaT x=some u)(h:Q u s)
  (hn:x ≠ "__name__":=by decide) (hd:(x==("__debug__" : Str))=false:=by decide):Qab (Qaa X.prog X.w) X.A (QaP (.Name x pos) X.env) Q E s:=by
 obtain⟨mb,h1,h2⟩:=I.mod.blt;show Qff I.ok.kind hg (Calls.loadGlobal_builtin (by rw[I.ok.glob];show I.mod.glob.keeps I.bk) hm (by rw[I.ok.blt];show h1.keeps I.bk) ((h2 x hn).trans hv) h) hd
def vi {u:Fk}{pos:Pos}(hg:Gl X x)(hm:X.mg x=some u)(r:RelV v u)(hd:(x==("__debug__" : Str))=false:=by decide):PE X (.Name x pos) (tC v):=
 fun _ _ _ H _ I h=>jw I hg hm ⟨v,H,I,r,h⟩ hd
def bK {u:Fk}{pos:Pos}(hg:Gl X x)(hm:X.mg x=none)(hv:QaT x=some u)(r:RelV v u)(hn:x ≠ "__name__":=by decide)(hd:(x==("__debug__" : Str))=false:=by decide):PE X (.Name x pos) (tC v):=
 fun _ _ _ H _ I h=>fE I hg hm hv ⟨v,H,I,r,h⟩ hn hd
variable {a b:QaF}{ta tb:TE}{pos:Pos}
def PC (X:Cx)(op:CmpOp)(a b:QaF)(t:TE):Prop:=
 ∀ ⦃pins:List (KE×Obj)⦄ (s:Gc) (σ:St) (H:Hp) (Q:VK),Inv X pins σ H s->t σ H Q ->
  Qab (Qaa X.prog X.w) X.A (QaP a X.env) (fun v s₁=>Qab (Qaa X.prog X.w) X.A (QaP b X.env) (fun u s₂=>Qab (Qaa X.prog X.w) X.A (QaC op v u) (EP X pins σ Q) X.xe s₂) X.xe s₁) X.xe s
def tB (t:TE):TT:=fun σ H Q=>t σ H fun x H1=>∃c,x = .bl c/\Q c H1
def Ob (h:PC X op a b t)(h1:Qdw op b=false:=by first|show nobehind _ rfl rfl|rfl):PT X (.Compare a [op] [b] pos) (tB t):=by
 show fun pins s σ H Q I hw=>wpAny_isTrue_Compare1 (bg (h s σ H _ I hw) fun v s1 h1=>bg h1 fun u s2 h2=>bg h2 fun c s3 hz_=>ak.el hz_ _ fun x H1 I1 r1 q1 =>?_) h1;obtain⟨d,rfl,q⟩:=q1;cases r1;show Qbh ⟨H1,I1,q⟩
def bX (h:PE X e t)(he:∀whole,isTrue e X.env whole=(do let v <-whole;standAt e.pos;holding [v] (truthy v)):=by intro _;rfl):PT X e (tB t):=by
 show fun pins s σ H Q I hw=>isTrue_plain (bg (h s σ H _ I hw) fun v s1 hz_=>ak.el hz_ _ fun x H1 I1 r1 q1 =>?_) (he _);obtain⟨d,rfl,q⟩:=q1;cases r1;show Qbh ⟨H1,I1,q⟩
variable {tA XH:TT}{rest:List QaF}
def X7 (t u:TT):TT:=fun σ H Q=>t σ H fun c H1=>if c=true then Q true H1 else u σ H1 Q
def VQ (t:TT):TT:=fun σ H Q=>t σ H fun c H1=>Q (!c) H1
def iQ (ha:PT X a tA):PW X (.BoolOp .Or [a] pos) tA:=by
 show fun wh pins s σ H Q I h=>isTrue_or (bg (ha s σ H Q I h) fun c s1 e =>?_);cases c with
 | false=>show isTrue_or_nil e
 | true=>show e
def jW (ha:PT X a tA)(hb:PW X (.BoolOp .Or (b::rest) pos) XH):PW X (.BoolOp .Or (a::b::rest) pos) (X7 tA XH):=by
 show fun wh pins s σ H Q I h=>isTrue_or (bg (ha s σ H _ I h) fun c s1 hz_=>ak.el hz_ _ ?_);rintro H1 I1 q1;cases c with
 | true=>show⟨H1,I1,q1⟩
 | false=>show hb s1 σ H1 Q I1 q1
def dM (ha:PT X a tA):PT X (.UnaryOp .Not a pos) (VQ tA):=
 fun pins s σ H Q I h=>isTrue_not (ha s σ H (fun c H1=>Q (!c) H1) I h)
def Lu (ta tb:TE):TE:=fun σ H Q=>ta σ H fun x H1=>∃c,x = .bl c/\if c=true then tb σ H1 Q else Q (.bl false) H1
def Rt (ta:TE):TE:=fun σ H Q=>ta σ H fun x H1=>∃c,x = .bl c/\Q (.bl (!c)) H1
def ky {t:TE}(h:PE X a t):PE X (.BoolOp op [a] pos) t:=fun pins s σ H Q I hw=>BoolOp_one (h s σ H Q I hw)
def fL (ha:PE X a ta)(hb:PE X (.BoolOp .And (b::rest) pos) tb):PE X (.BoolOp .And (a::b::rest) pos) (Lu ta tb):=by
 show fun pins s σ H Q I h=>BoolOp_and (bg (ha s σ H _ I h) fun v s1 hz_=>ak.el hz_ _ ?_);rintro x H1 I1 r1 q1;obtain⟨c,rfl,q1⟩:=q1;cases r1;show Qbh ?_;cases c with
 | true=>show hb s1 σ H1 Q I1 q1
 | false=>show⟨.bl false,H1,I1,rfl,q1⟩
def Fq (ha:PE X a ta):PE X (.UnaryOp .Not a pos) (Rt ta):=by
 show fun pins s σ H Q I h=>UnaryOp_ (bg (ha s σ H _ I h) fun v s1 hz_=>ak.el hz_ _ ?_);rintro x H1 I1 r1 q1;obtain⟨c,rfl,q1⟩:=q1;cases r1;show not_of (Qbh {.bl (!c),H1,I1,rfl,q1})
def XU (t:TT)(ta tb:TE):TE:=fun σ H Q=>t σ H fun c H1=>if c=true then ta σ H1 Q else tb σ H1 Q
def cY (hc:PT X c tA)(ha:PE X a ta)(hb:PE X b tb):PE X (.IfExp c a b pos) (XU tA ta tb):=by
 show fun pins s σ H Q I h=>wpAny_IfExp (bg (hc s σ H _ I h) fun d s1 hz_=>ak.el hz_ _ ?_);rintro H1 I1 q1;cases d with
 | true=>show ha s1 σ H1 Q I1 q1
 | false=>show hb s1 σ H1 Q I1 q1
end
def aW (K:Ja)(H:Hp)(a:KE)(xs:List V):Prop:=
 Rd H a (.lst xs) \/
  pW fun o aF n=>K.lookup a=some o/\o.cls = .type "list" /\ o.dict=none/\o.data = .seq aF n/\aF.size<=W1/\Vals xs aF.toList
def aV (K:Ja)(H:Hp)(a:KE)(xs:List V):Prop:=
 Rd H a (.tup xs) \/
  pW fun o aF n=>K.lookup a=some o/\o.cls = .type "tuple" /\ o.dict=none/\o.data = .seq aF n/\aF.size<=W1/\Vals xs aF.toList
def VD:Fk->Option V
 | .none=>some .non
 | .bool b=>some (.bl b)
 | .int i _=>some (.int i)
 | .str x _=>some (.str x)
 | .bytes b _=>some (.byt b)
 | .float b _=>some (.flt b)
 | .ref a=>some (.ref a)
 | .type n=>some (.ty n)
 | _=>none
def RelV.abs (r:RelV x u):VD u=some x:=by
 cases x with
 | non=>cases r;rfl
 | bl _=>cases r;rfl
 | int _=>obtain⟨t,rfl⟩:=r;rfl
 | str _=>obtain⟨t,rfl⟩:=r;rfl
 | byt _=>obtain⟨t,rfl⟩:=r;rfl
 | flt _=>obtain⟨t,rfl⟩:=r;rfl
 | ref _=>cases r;rfl
 | ty _=>cases r;rfl
def RelV.inj {u:Fk}(r:RelV x u)(q:RelV y u):x=y:=Qan (r.abs.symm.trans q.abs)
def Vals.inj {us:List Fk}(h:Vals xs us)(h':Vals ys us):xs=ys:=by
 induction h generalizing ys with
 | nil=>cases h';rfl
 | cons r t ih=>cases h' with|cons r' t'=>rw[RelV.inj r r',ih t']
section
variable {X:Cx}{pins:List (KE×Obj)}{σ:St}{H:Hp}{s:Gc}{a:KE}{xs ys:List V}
def aW.of {K:Ja}(h:H a=some (.lst xs)):aW K H a xs := .inl (.inl h)
def aV.of {K:Ja}(h:H a=some (.tup xs)):aV K H a xs := .inl (.inl h)
def Inv.list (I:Inv X pins σ H s)(h:aW X.K H a xs):∃aF,Vals xs aF/\PlainL s.heap a aF.toArray/\xs.length<=W1:=by
 rcases h with h|⟨o,aF,n,hk,hc,hd,hs,hz,r⟩
 ·obtain⟨z,aF,n,r,e⟩:=h.ok I.bw;show{aF,r,{_,n,e,rfl,rfl,rfl},z}
 ·show{aF.toList,r,{o,n,I.jr a o hk,hc,hd,by simpa using hs},?_};have e:=r.length;simp only[Uj] at e;lia
def Inv.tuple (I:Inv X pins σ H s)(h:aV X.K H a xs):∃aF,Vals xs aF/\IsTup s.heap a aF.toArray/\xs.length<=W1:=by
 rcases h with h|⟨o,aF,n,hk,hc,hd,hs,hz,r⟩
 ·obtain⟨z,aF,r,p⟩:=h.ok I.bw;show⟨aF,r,p.is,z⟩
 ·show{aF.toList,r,{o,I.jr a o hk,hc,n,by simpa using hs},?_};have e:=r.length;simp only[Uj] at e;lia
def Inv.oU (I:Inv X pins σ H s)(h:aV X.K H a xs):∃aF,Vals xs aF/\vt s.heap a aF.toArray/\xs.length<=W1:=by
 rcases h with h|⟨o,aF,n,hk,hc,hd,hs,hz,r⟩
 ·obtain⟨z,aF,r,p⟩:=h.ok I.bw;show⟨aF,r,p,z⟩
 ·show{aF.toList,r,{o,I.jr a o hk,hd,hc,n,by simpa using hs},?_};have e:=r.length;simp only[Uj] at e;lia
def Inv.rP (I:Inv X pins σ H s)(h:aW X.K H a xs)(h':aW X.K H a ys):xs=ys:=by
 obtain⟨aF,r,⟨o,n,e,_,_,d⟩,_⟩:=I.list h;obtain⟨its',r',⟨o',n',e',_,_,d'⟩,_⟩:=I.list h';rw[e] at e';cases e';rw[d] at d'
 injection d' with d1 _
 have:aF=its':=by simpa using congrArg Array.toList d1
 subst this;show r.inj r'
def Inv.uz (I:Inv X pins σ H s)(h:aV X.K H a xs)(h':aV X.K H a ys):xs=ys:=by
 obtain⟨aF,r,⟨o,e,_,n,d⟩,_⟩:=I.tuple h;obtain⟨its',r',⟨o',e',_,n',d'⟩,_⟩:=I.tuple h';rw[e] at e';cases e';rw[d] at d'
 injection d' with d1 _
 have:aF=its':=by simpa using congrArg Array.toList d1
 subst this;show r.inj r'
end
abbrev Cx.sV (X:Cx)(E:Fk->Gc->Prop):Cx:={ X with xe:=E }
abbrev Cx.Q1 (X:Cx):Cx:=X.sV fun _ _=>False
def Cx.Ok.sV {X:Cx}(ok:X.Ok)(E:Fk->Gc->Prop):(X.sV E).Ok:=
 ⟨ok.mod,ok.kind,ok.glob,ok.blt,ok.above,ok.inj,ok.has,ok.cab,ok.hd,ok.frames,ok.stk,ok.exf,ok.bs,ok.bsz,ok.noex,ok.exfs,ok.lC,ok.frf⟩
def Cx.Ok.kW {X:Cx}{E:Fk->Gc->Prop}(ok:(X.sV E).Ok):X.Ok:=
 ⟨ok.mod,ok.kind,ok.glob,ok.blt,ok.above,ok.inj,ok.has,ok.cab,ok.hd,ok.frames,ok.stk,ok.exf,ok.bs,ok.bsz,ok.noex,ok.exfs,ok.lC,ok.frf⟩
section
variable {X:Cx}{pins:List (KE×Obj)}{σ:St}{H:Hp}{s:Gc}{E:Fk->Gc->Prop}
def Inv.sV (I:Inv X pins σ H s)(E:Fk->Gc->Prop):Inv (X.sV E) pins σ H s:=⟨I.ok.sV E,I.os,I.bare,I.base,I.loc,I.cell,I.free,I.freeC,I.pin,I.bw,I.len⟩
def Inv.kW (I:Inv (X.sV E) pins σ H s):Inv X pins σ H s:=⟨I.ok.kW,I.os,I.bare,I.base,I.loc,I.cell,I.free,I.freeC,I.pin,I.bw,I.len⟩
def SP.kW (h:SP (X.sV E) pins D f s'):SP X pins D f s':=by
 cases f with
 | next=>obtain⟨σ',H',I,q⟩:=h;show⟨σ',H',I.kW,q⟩
 | brk=>obtain⟨σ',H',I,q⟩:=h;show⟨σ',H',I.kW,q⟩
 | cont=>obtain⟨σ',H',I,q⟩:=h;show⟨σ',H',I.kW,q⟩
 | ret u=>obtain⟨v,σ',H',I,r,q⟩:=h;show⟨v,σ',H',I.kW,r,q⟩
def yj.Q1 {st:List QcU}{t:TS}(h:yj X.Q1 st t):yj X st t:=fun pins s σ H D I hw=>
 Qbc (h s σ H D (I.sV _) hw) (fun _ _ q=>q.kW) fun _ _ z=>QaV z
end
section
variable {X:Cx}{st:QcU}{rest:List QcU}{t u:TS}{e:QaF}{te:TE}{pos:Pos}
def ji:TS:=fun D σ H=>D.nx σ H
def Ka (t u:TS):TS:=fun D σ H=>t { D with nx:=u D } σ H
def ay:yj X [] ji:=fun _ _ σ H _ I h=>QcR ⟨σ,H,I,h⟩
def af (h1:PS X st t)(h2:yj X rest u):yj X (st::rest) (Ka t u):=by
 show fun pins s σ H D I h=>wpAny_execs_cons (bg (h1 s σ H { D with nx:=u D } I h) fun f s1 q =>?_);cases f with
 | next=>
  obtain⟨σ',H',I',q⟩:=q;show h2 s1 σ' H' D I' q
 | ret v=>show q
 | brk=>show q
 | cont=>show q
def ag (h1:PS X st t):yj X [st] t:=by
 show fun pins s σ H D I h=>wpAny_execs_cons (bg (h1 s σ H D I h) fun f s1 q =>?_);cases f with
 | next=>show QcR q
 | ret v=>show q
 | brk=>show q
 | cont=>show q
def Inv.quiet {σ:St}{H:Hp}{s:Gc}(I:Inv X pins σ H s):interactive X.env=false:=by simp[interactive,I.ok.kind]
def Qx (te:TE):TS:=fun D σ H=>te σ H fun _ H1=>D.nx σ H1
def iG (he:PE X e te)(hs:QdH e none pos.line X.env=pure false:=by rfl):PS X (.Expr e pos) (Qx te):=
 fun pins s σ H D I h=>wpAny_Expr_any (bg (he s σ H _ I h) fun v s1 hz_=>ak.el hz_ _ fun x H1 I1 r1 q1=>⟨σ,H1,I1,q1⟩) I.quiet hs
def UR (te:TE):TS:=fun D σ H=>te σ H D.rt
def ao (he:PE X e te):PS X (.Return (some e) pos) (UR te):=
 fun pins s σ H D I h=>wpAny_Return_some (bg (he s σ H _ I h) fun v s1 hz_=>ak.el hz_ _ fun x H1 I1 r1 q1=>⟨x,σ,H1,I1,r1,q1⟩)
def CN (c:TT)(t u:TS):TS:=fun D σ H=>c σ H fun b H1=>if b=true then t D σ H1 else u D σ H1
def aN {tc:TT}(hc:PT X c tc)(ha:yj X a t)(hb:yj X b u):PS X (.If c a b pos) (CN tc t u):=by
 show fun pins s σ H D I h=>wpAny_If (bg (hc s σ H _ I h) fun d s1 hz_=>ak.el hz_ _ ?_);rintro H1 I1 q1;cases d with
 | true=>show ha s1 σ H1 D I1 q1
 | false=>show hb s1 σ H1 D I1 q1
end
abbrev TG:=V->St->Hp->(St->Hp->Prop)->Prop
abbrev FA:=List V->St->Hp->(St->Hp->Prop)->Prop
def PG (X:Cx)(target:QaF)(t:TG):Prop:=
 ∀ ⦃pins:List (KE×Obj)⦄ (s:Gc) (σ:St) (H:Hp) (v:V) (u:Fk) (Q:St->Hp->Prop),Inv X pins σ H s->RelV v u->t v σ H Q ->
  Qab (Qaa X.prog X.w) X.A (Qgc target X.env u) (fun _ s'=>fX fun σ' H'=>Inv X pins σ' H' s'/\Q σ' H') X.xe s
def Pw (X:Cx)(ts:List QaF)(t:FA):Prop:=
 ∀ ⦃pins:List (KE×Obj)⦄ (s:Gc) (σ:St) (H:Hp) (vs:List V) (us:List Fk) (Q:St->Hp->Prop),Inv X pins σ H s->Vals vs us->t vs σ H Q ->
  Qab (Qaa X.prog X.w) X.A (assignInOrder ((QcD ts X.env).map (·.2)) us) (fun _ s'=>fX fun σ' H'=>Inv X pins σ' H' s'/\Q σ' H') X.xe s
abbrev Ni:=V->V->V->Hp->(Hp->Prop)->Prop
def PU (X:Cx)(t:Ni):Prop:=
 ∀ ⦃pins:List (KE×Obj)⦄ (s:Gc) (σ:St) (H:Hp) (o i v:V) (ov iv u:Fk) (Q:Hp->Prop),Inv X pins σ H s->RelV o ov->RelV i iv->RelV v u->t o i v H Q ->
  Qab (Qaa X.prog X.w) X.A (setItem ov iv u) (fun _ s'=>∃H',Inv X pins σ H' s'/\Q H') X.xe s
abbrev Vd:=V->V->Hp->VK->Prop
def VM (X:Cx)(op:Operator)(t:Vd):Prop:=
 ∀ ⦃pins:List (KE×Obj)⦄ (s:Gc) (σ:St) (H:Hp) (x y:V) (v u:Fk) (Q:VK),Inv X pins σ H s->RelV x v->RelV y u->t x y H Q ->
  Qab (Qaa X.prog X.w) X.A (inplaceOp op v u) (EP X pins σ Q) X.xe s
section
variable {X:Cx}{pos:Pos}
def pF (i:Nat):TG:=fun v σ H Q=>Q (σ.set i (some v)) H
def Bc (hN:X.N.Nodup)(hi:X.N[i]? = some x)(hx:Loc X.env.scope x)(hf:X.fn x=true\/X.env.scope.names.lookup x=some .local:=by first|show .inl rfl|show .inr rfl|assumption):PG X (.Name x pos) (pF i):=
 fun pins s σ H v u Q I r h=>wpAny_assign_Name (i7 I hN hi hx r (fun s' I'=>⟨_,H,I',h⟩) hf)
def Mj:FA:=fun vs σ H Q=>vs=[]/\Q σ H
def EV (t:TG)(u:FA):FA:=fun vs σ H Q=>fX fun v r=>vs=v::r/\t v σ H fun σ' H'=>u r σ' H' Q
def bM:Pw X [] Mj:=by
 intro pins s σ H vs us Q I r h;obtain⟨e,h⟩:=h;subst e;cases r;show assignInOrder_nil ⟨σ,H,I,h⟩
def aI {t:TG}{u:FA}(h1:PG X e t)(h2:Pw X es u)
  (hs:(QcD (e::es) X.env).map (·.2)=Qgc e X.env::(QcD es X.env).map (·.2):=by rfl):Pw X (e::es) (EV t u):=by
 intro pins s σ H vs us Q I r h;obtain⟨v,vr,e1,h⟩:=h;subst e1;cases r with
 | cons r rr=>
  rw[hs];show QeO (bg (h1 s σ H _ _ _ I r h) fun _ s1 hz_=>ak.el hz_ _ ?_);rintro σ1 H1 I1 q1;show h2 s1 σ1 H1 _ _ Q I1 rr q1
def NP (K:Ja)(n:Nat)(t:FA):TG:=fun v σ H Q=>fX fun a xs=>v = .ref a/\aV K H a xs/\xs.length=n/\t xs σ H Q
def NX {k:Nat}{t:FA}{n:Nat}(hc:X.calm=true)(h:Pw X es t)
  (hn:(QcD es X.env).length=n:=by rfl) (lR:(QcD es X.env).findIdx? (·.1)=none:=by rfl):PG X (.Tuple es k pos) (NP X.K n t):=by
 intro pins s σ H v u Q I r hw;obtain⟨a,xs,e1,hq,hl,hw⟩:=hw;subst e1;cases r;obtain⟨aF,rv,ht,hz⟩:=I.tuple hq;show assign_Tuple_tuple (I.ok.hd hc) ht (by simp[hn,<-hl,rv.length]) lR fun h' hx =>?_;have I1:Inv X pins σ H { s with heap:=h' }:=I.kept fun b o e=>hx b o (Jp (Jg e)) e;show h _ σ H xs _ Q I1 (by simpa using rv) hw
def TC (to ti:TE)(t:Ni):TG:=fun v σ H Q=>to σ H fun o H1=>ti σ H1 fun i H2=>t o i v H2 fun H3=>Q σ H3
def Nr {to ti:TE}{t:Ni}(ho:PE X o to)(hi:PE X i ti)(hs:PU X t)
  (ha:∀v,Qgc (.Subscript o i pos) X.env v=(do
   let ov <-holding [v] (QaP o X.env)
   let iv <-holding [v,ov] (QaP i X.env)
   standAt pos
   holding [v,ov,iv] (setItem ov iv v)
   release [v,ov,iv] []):=by intro _;rfl):PG X (.Subscript o i pos) (TC to ti t):=by
 show fun pins s σ H v u Q I r h=>be (Qah (bg (ho s σ H _ I h) fun ov s1 hz_=>ak.el hz_ _ ?_));rintro x H1 I1 r1 q1;show be (Qah (bg (hi s1 σ H1 _ I1 q1) fun iv s2 hz_=>ak.el hz_ _ ?_));rintro y H2 I2 r2 q2;show be (Qbe (be (Qah (bg (hs s2 σ H2 x y v ov iv u _ I2 r1 r2 r q2) fun _ s3 hz_=>ak.el hz_ _ ?_))));rintro H3 I3 q3;show wpAny_release ⟨σ,H3,I3,q3⟩
def GP (te:TE)(g:TG):TS:=fun D σ H=>te σ H fun x H1=>g x σ H1 D.nx
def iM {tg e:QaF}{te:TE}{g:TG}(he:PE X e te)(hg:PG X tg g)(hs:swapsWithSole [tg] e pos.line X.env=pure false:=by rfl)(hw:swappedStores [tg] e X.env=pure none:=by rfl)
  (h1:(QcD [tg] X.env).map (·.2)=[Qgc tg X.env]:=by rfl):PS X (.Assign [tg] e pos) (GP te g):=by
 show fun pins s σ H D I h=>wpAny_Assign_stores (bg (he s σ H _ I h) fun v s1 hz_=>ak.el hz_ _ fun x H1 I1 r1 q1 =>?_) hs hw;rw[h1];show bg (hg s1 σ H1 x v _ I1 r1 q1) fun _ s2 q=>q
def oG (hN:X.N.Nodup)(hi:X.N[i]? = some x)(hx:Loc X.env.scope x)(he:PE X e te)(hs:QdH e (some (.Name x pos')) pos.line X.env=pure false:=by rfl)(hf:X.fn x=true\/X.env.scope.names.lookup x=some .local:=by first|show .inl rfl|show .inr rfl|assumption):
  PS X (.Assign [.Name x pos'] e pos) (GP te (pF i)):=
 fun pins s σ H D I h=>wpAny_Assign_Name (bg (he s σ H _ I h) fun v s1 hz_=>ak.el hz_ _ fun y H1 I1 r1 q1=>(i7 I1 hN hi hx r1 (fun s2 I2=>⟨_,H1,I2,q1⟩) hf)) hs
def Tn (i j:Nat)(ta:TA):TS:=fun D σ H=>ta σ H fun vs H1=>fX fun v w=>vs=[v,w]/\D.nx ((σ.set i (some v)).set j (some w)) H1
def rD {x y:Str}{a b:QaF}{ta:TA}{px py pt:Pos}{kt k2 pt2}(hc:X.calm=true)(hN:X.N.Nodup)(hi:X.N[i]? = some x)(hj:X.N[j]? = some y)(wN:i≠j)
  (hx:X.env.scope.names.lookup x=some .local) (hy:X.env.scope.names.lookup y=some .local) (ha:PA X [a,b] ta)
  (hw:swappedStores [.Tuple [.Name x px,.Name y py] kt pt] (.Tuple [a,b] k2 pt2) X.env=pure (some [x,y]))
  (hs:swapsWithSole [.Tuple [.Name x px,.Name y py] kt pt] (.Tuple [a,b] k2 pt2) pos.line X.env=pure false:=by rfl) :
  PS X (.Assign [.Tuple [.Name x px,.Name y py] kt pt] (.Tuple [a,b] k2 pt2) pos) (Tn i j ta):=by
 show fun pins s σ H D I h=>be (Qbe (be (tz (be (Tuple_ (bg (ha s σ H _ I h) fun us s1 hz_=>ak.el hz_ _ ?_))))));rintro vs H1 I1 r1 q1;obtain⟨v,w,e1,q1⟩:=q1;subst e1;obtain⟨u1,u2,rfl,rv,rw'⟩:∃u1 u2,us=[u1,u2]/\RelV v u1/\RelV w u2:=by
  cases r1 with
  | cons p q=>
   cases q with
   | cons p' q'=>
    cases q';show{_,_,rfl,p,p'}
 show QaO ?_ (by change 2<=W1;decide);have I2:Inv X pins σ H1 { s1 with heap:=s1.heap.push { cls := .type "tuple",data := .seq [u1,u2].toArray } }:=I1.kept fun b o e=>Jb _ e;rw[hw];show be (tz (be (Qbj (be (unpackItems_tuple (items := #[u1,u2]) (I.ok.hd hc) (IsTup.new s1.heap _) fun h' nV=>be (QeO (wpAny_bindName (i7 (I2.kept (t':=s1.toks) fun b o e=>nV b o (Jp (Jg e)) e) hN hj (.inl hy) rw' (fun s2 I4=>(QeO (wpAny_bindName (i7 I4 hN hi (.inl hx) rv (fun s3 I5=>assignInOrder_nil (tz ?_)) (.inr hx))))) (.inr hy)))))))));rw[List.set_comm _ _ (QaD wN)] at I5;show{_,H1,I5,q1}
def S0 (i:Nat)(te:TE)(ti:Vd):TS:=fun D σ H=>∃x,σ[i]? = some (some x)/\te σ H fun y H1=>ti x y H1 fun z H2=>D.nx (σ.set i (some z)) H2
def Hy (hN:X.N.Nodup)(hi:X.N[i]? = some x)(hx:Loc X.env.scope x)(he:PE X e te)(ho:VM X op ti)(hf:X.fn x=true\/X.env.scope.names.lookup x=some .local:=by first|show .inl rfl|show .inr rfl|assumption):
  PS X (.AugAssign (.Name x pos') op e pos) (S0 i te ti):=by
 intro pins s σ H D I h;obtain⟨v,e1,h⟩:=h;obtain⟨m,hn,hl⟩:=I.loc;obtain⟨u,r,l⟩:=hl i x v hi e1 (by rcases hx with k|k;show .inl k;show .inr (.inl k));show wpAny_AugAssign_Name ?_;have go:Qab (Qaa X.prog X.w) X.A (QaP e X.env) (fun w s₂=>Qab (Qaa X.prog X.w) X.A (inplaceOp op u w) (fun r s₃=>Qab (Qaa X.prog X.w) X.A (storeName X.env x r) (fun _=>SP X pins D .next) X.xe s₃) X.xe s₂) X.xe s:=by
  show bg (he s σ H _ I h) fun w s1 hz_=>ak.el hz_ _ ?_;rintro y H1 I1 r1 q1;show bg (ho s1 σ H1 v y u w _ I1 r r1 q1) fun z s2 hz_=>ak.el hz_ _ ?_;rintro zv H2 I2 r2 q2;show i7 I2 hN hi hx r2 (fun s3 I3=>{_,H2,I3,q2}) hf
 rcases l with ⟨hk,hm⟩|⟨hk,c,hc,hcell⟩
 ·show wpAny_loadName_local I.ok.kind hk hn hm go
 ·rcases hk with hk|hk
  ·show wpAny_loadName_cell I.ok.kind hk hc hcell go
  ·rcases hx with k|k
   ·have:X.env.scope.names.lookup x=some .free:=hk;rw[k] at this;cases this
   ·have:X.env.scope.names.lookup x=some .free:=hk;rw[k] at this;cases this
def Wj (f:Int->Int->Int):Vd:=fun x y H Q=>fX fun i j=>x = .int i/\y = .int j/\Q (.int (f i j)) H
def MS:VM X .Add (Wj fun i j=>i+j):=by
 intro pins s σ H x y v u Q I r1 r2 h;obtain⟨i,j,e1,e2,q⟩:=h;subst e1;subst e2;obtain⟨t,rfl⟩:=r1;obtain⟨t',rfl⟩:=r2;show iadd_int {.int _,H,I.tok _,{_,rfl},q}
def MZ:VM X .Sub (Wj fun i j=>i-j):=by
 intro pins s σ H x y v u Q I r1 r2 h;obtain⟨i,j,e1,e2,q⟩:=h;subst e1;subst e2;obtain⟨t,rfl⟩:=r1;obtain⟨t',rfl⟩:=r2;show isub_int {.int _,H,I.tok _,{_,rfl},q}
end
section
variable {X:Cx}{pos:Pos}
def lX (c:TT)(tb:TS):TS:=fun D σ H=>∃W:Nat->St->Hp->Prop,(∃m,W m σ H)/\∀m σ H,W m σ H ->
 c σ H fun b H1=>if b=true then ∃N,(∀ σ' H',N σ' H'->∃m',m'<m/\W m' σ' H')/\tb { D with nx:=N,ct:=N,bk:=D.nx } σ H1 else D.nx σ H1
def kz {tc:TT}{tb:TS}(hp:PassesOwn (Qaa X.prog X.w) X.A X.env X.xe)(hc:PT X c tc)(hb:yj X body tb):PS X (.While c body [] pos) (lX tc tb):=by
 intro pins s σ H D I h;obtain⟨W,⟨m0,w0⟩,turn⟩:=h;show wpAny_While (codeAny_whileLoop (fun n s'=>∃ σ' H',Inv X pins σ' H' s'/\W n σ' H') ?_ m0 ⟨σ,H,I,w0⟩);rintro n s1 ⟨σ1,H1,I1,w1⟩;show QbP hp (bg (hc s1 σ1 H1 _ I1 (turn n σ1 H1 w1)) fun b s2 hz_=>ak.el hz_ _ ?_);rintro H2 I2 q2;cases b with
 | true=>
  obtain⟨N,hN,q2⟩:=q2;show QbP hp (bg (hb s2 σ1 H2 _ I2 q2) fun f s3 q3 =>?_);cases f with
  | next=>
   obtain⟨σ3,H3,I3,n3⟩:=q3;obtain⟨m',hm,w3⟩:=hN σ3 H3 n3;show⟨m',hm,σ3,H3,I3,w3⟩
  | cont=>
   obtain⟨σ3,H3,I3,n3⟩:=q3;obtain⟨m',hm,w3⟩:=hN σ3 H3 n3;show⟨m',hm,σ3,H3,I3,w3⟩
  | brk=>show q3
  | ret v=>show q3
 | false=>
  show QcR ⟨σ1,H2,I2,q2⟩
end
structure It where
 go:Nat->Hp->Prop
 yld:Nat->Hp->V->Hp->Prop
 stop:Nat->Hp->Prop
def hM (X:Cx)(pins:List (KE×Obj))(H:Hp)(b:KE):Prop:=
 H b=none/\b≠X.env.locals/\b∉X.fs/\(b∈X.ex\/X.s₀.heap.objs.size<=b)/\(∀x c,X.env.cells.lookup x=some c->c≠b)/\∀p∈X.pn++pins,p.1≠b
def Inv.fN {σ:St}{H H':Hp}{s:Gc}{b:KE}(I:Inv X pins σ H s)(hb:s.heap.objs.size<=b)(hn:H' b=none):hM X pins H' b:=by
 show{hn,Uq (Jv I.lt hb),I.RJ hb,.inr (Jf I.sz hb),fun x c e z =>?_,fun p hp z =>?_}
 ·obtain⟨v,q⟩:=I.cell x c e;show absurd (Jv q.lt (by rw[z];show hb)) (Uk _)
 ·show absurd (Jv (Jg (I.pin p hp).1) (by rw[z];show hb)) (Uk _)
structure Turn (P:Qac)(w:Qag)(K:Ja)(tg:QaF)(J:It)(fp:List KE)(it:KE)(tn:Nat->Heap->Prop):Prop where
 mem:it∈fp
 obj:∀i h,tn i h->∀b∈fp,∃o,h.get? b=some o/\∀v,o.data ≠ .cell v
 keep:∀i h h',tn i h->(∀b∈fp,∀o,h.get? b=some o->h'.get? b=some o)->tn i h'
 item:∀(X:Cx),X.prog=P->X.w=w->X.K=K->X.calm=true->∀(i:Nat) (pins:List (KE×Obj)) (s:Gc) (σ:St) (H:Hp) (E:Fk->Gc->Prop),Inv X pins σ H s->(∀b∈fp,hM X pins H b)->tn i s.heap->J.go i H ->
  Qab (Qaa P w) X.A (QbR (.ref it)) (fun r s1=>∃u,r=some u /\
   Qab (Qaa P w) X.A (QcT tg (.ref it) u) (fun _ s2=>∃x H',Inv X pins σ H' s2/\RelV x u/\J.yld i H x H'/\tn (i+1) s2.heap/\∀b∈fp,H' b=none) E s1) E s
 done:∀(X:Cx),X.prog=P->X.w=w->X.K=K->X.calm=true->∀(i:Nat) (pins:List (KE×Obj)) (s:Gc) (σ:St) (H:Hp) (E:Fk->Gc->Prop),Inv X pins σ H s->(∀b∈fp,hM X pins H b)->tn i s.heap->J.stop i H ->
  Qab (Qaa P w) X.A (QbR (.ref it)) (fun r s1=>r=none/\Inv X pins σ H s1) E s
 self:∀(A:QaB) (i:Nat) (s:Gc) (Q:Fk->Gc->Prop) (E:Fk->Gc->Prop),tn i s.heap->Q (.ref it) s->Qab (Qaa P w) A (Qfu (.ref it)) Q E s
abbrev TI:=St->Hp->(It->Hp->Prop)->Prop
def XM (X:Cx)(pins:List (KE×Obj))(σ:St)(tg:QaF)(R:It->Hp->Prop)(Q0:Fk)(s2:Gc):Prop:=
 uN fun it fp tn J H'=>Q0 = .ref it/\Inv X pins σ H' s2/\Turn X.prog X.w X.K tg J fp it tn/\tn 0 s2.heap/\(∀b∈fp,hM X pins H' b)/\R J H'
def PI (X:Cx)(tg iter:QaF)(wi:TI):Prop:=
 ∀ ⦃pins:List (KE×Obj)⦄ (s:Gc) (σ:St) (H:Hp) (R:It->Hp->Prop),Inv X pins σ H s->wi σ H R ->
  Qab (Qaa X.prog X.w) X.A (QaP iter X.env) (fun v s1=>Qab (Qaa X.prog X.w) X.A (Qfu v) (XM X pins σ tg R) X.xe s1) X.xe s
def BL {s:Gc}{tg:QaF}{it:KE}{u:Fk}{o:Obj}{n:String}{vs:Array Fk}{Q:Unit->Gc->Prop}(ho:s.heap.get? it=some o)(hc:o.cls = .type n)(hd:o.data = .fields vs)
  (hn:["enumerate", "zip", "dict_itemiterator", "dict_reverseitemiterator", "odict_iterator", "itertools.zip_longest", "itertools.pairwise"].contains n=false) (hQ:Q () s):Qab M A (QcT tg (.ref it) u) Q E s:=by
 cases tg<;>first
  | show tz hQ
  | (cases u<;>first
    | show tz hQ
    | (show be (QeM ho ?_)
       rw[hc,hd];change Qab M A (if (["enumerate", "zip", "dict_itemiterator", "dict_reverseitemiterator", "odict_iterator", "itertools.zip_longest", "itertools.pairwise"].contains n&&vs[0]? == some (Qa0 _))=true then _ else _) Q E s;rw[if_neg (by intro h;rw[hn,Y1] at h;cases h)];show tz hQ))
def O2 (K:Ja)(a:KE):It:=
 ⟨fun i H=>fX fun xs x=>aW K H a xs/\xs[i]? = some x,fun i H x H'=>H'=H/\∀xs,aW K H a xs->xs[i]? = some x,fun i H=>∃xs,aW K H a xs/\xs.length<=i⟩
def VW (K:Ja)(a:KE):It:=
 ⟨fun i H=>fX fun xs x=>aV K H a xs/\xs[i]? = some x,fun i H x H'=>H'=H/\∀xs,aV K H a xs->xs[i]? = some x,fun i H=>∃xs,aV K H a xs/\xs.length<=i⟩
def O3 (lo:Int)(n:Nat):It:=⟨fun i _=>i<n,fun i H x H'=>H'=H/\x = .int (lo+i),fun i _=>n<=i⟩
def CU {K:Ja}{tg:QaF}(a it:KE):Turn P w K tg (O2 K a) [it] it (fun i h=>h.IsListIter it a i) where
 mem:=by simp
 obj:=fun i h st b hb=>by
  have e:b=it:=by simpa using hb
  subst e;obtain⟨o,e,c,d⟩:=st;show{o,e,fun v z=>by rw[d] at z;cases z}
 keep:=fun i h h' st k=>st.at fun o e=>k it (by simp) o e
 item:=by
  intro X hP hw hK hc i pins s σ H E I hf st hg;subst hP hw hK;obtain⟨xs,x,hq,hx⟩:=hg;obtain⟨aF,rv,p,hz⟩:=I.list hq;obtain⟨u,hu,ru⟩:=rv.get hx;obtain⟨f0,f1,f2,f3,f4,f5⟩:=hf it (by simp);show wpAny_pyNext_list_item st p.isList (by simpa using hu) fun h' st' sb =>?_;have I1:Inv X pins σ H { s with heap:=h' }:=I.turned (fun b o hb e=>(sb.2 b hb).trans e) f0 f1 f3 f4 f5;obtain⟨o,e,c,d⟩:=id st';show{u,rfl,BL e c d rfl {x,H,I1,ru,{rfl,fun ys hy=>by rw[I.rP hy hq];show hx},st',fun b hb=>(hf b hb).1}}
 done:=by
  intro X hP hw hK hc i pins s σ H E I hf st hg;subst hP hw hK;obtain⟨xs,hq,hx⟩:=hg;obtain⟨aF,rv,p,hz⟩:=I.list hq;obtain⟨f0,f1,f2,f3,f4,f5⟩:=hf it (by simp);have hl:=rv.length;show wpAny_pyNext_list_end (I.ok.hd hc) st p.isList (by simp;lia) fun h' eb=>{rfl,I.turned (fun b o hb e=>eb b o hb e) f0 f1 f3 f4 f5}
 self:=fun _ _ _ _ _ st h=>wpAny_pyIter_listiter st h
def zY {K:Ja}{tg:QaF}(a it:KE):Turn P w K tg (VW K a) [it] it (fun i h=>h.IsTupleIter it a i) where
 mem:=by simp
 obj:=fun i h st b hb=>by
  have e:b=it:=by simpa using hb
  subst e;obtain⟨o,e,c,d⟩:=st;show{o,e,fun v z=>by rw[d] at z;cases z}
 keep:=fun i h h' st k=>st.at fun o e=>k it (by simp) o e
 item:=by
  intro X hP hw hK hc i pins s σ H E I hf st hg;subst hP hw hK;obtain⟨xs,x,hq,hx⟩:=hg;obtain⟨aF,rv,p,hz⟩:=I.tuple hq;obtain⟨u,hu,ru⟩:=rv.get hx;obtain⟨f0,f1,f2,f3,f4,f5⟩:=hf it (by simp);show wpAny_pyNext_tuple_item st (show s.heap.IsTuple a aF.toArray from p) (by simpa using hu) fun h' st' sb =>?_;have I1:Inv X pins σ H { s with heap:=h' }:=I.turned (fun b o hb e=>(sb.2 b hb).trans e) f0 f1 f3 f4 f5;obtain⟨o,e,c,d⟩:=id st';show{u,rfl,BL e c d rfl {x,H,I1,ru,{rfl,fun ys hy=>by rw[I.uz hy hq];show hx},st',fun b hb=>(hf b hb).1}}
 done:=by
  intro X hP hw hK hc i pins s σ H E I hf st hg;subst hP hw hK;obtain⟨xs,hq,hx⟩:=hg;obtain⟨aF,rv,p,hz⟩:=I.tuple hq;obtain⟨f0,f1,f2,f3,f4,f5⟩:=hf it (by simp);have hl:=rv.length;show wpAny_pyNext_tuple_end (I.ok.hd hc) st (show s.heap.IsTuple a aF.toArray from p) (by simp;lia) fun h' eb=>{rfl,I.turned (fun b o hb e=>eb b o hb e) f0 f1 f3 f4 f5}
 self:=fun _ _ _ _ _ st h=>wpAny_pyIter_tupleiter st h
def zF {K:Ja}{tg:QaF}(it:KE)(lo:Int)(n:Nat):Turn P w K tg (O3 lo n) [it] it (fun i h=>IsRangeIter h it (lo+(i:Nat)*1) ((n:Int)-(i:Nat)) 1) where
 mem:=by simp
 obj:=fun i h st b hb=>by
  have e:b=it:=by simpa using hb
  subst e;show⟨_,st,fun v z=>by
   cases z⟩
 keep:=fun i h h' st k=>k it (by simp) _ st
 item:=by
  intro X hP hw hK hc i pins s σ H E I hf st hg;subst hP hw hK;obtain⟨f0,f1,f2,f3,f4,f5⟩:=hf it (by simp);show(Walks.range (prog:=X.prog) (w:=X.w) (I.ok.hd hc) it lo 1 n).item i s _ _ hg st fun v h' tk hv st' kk =>?_;obtain⟨t,rfl⟩:=hv;have I1:Inv X pins σ H { s with heap:=h',toks:=tk }:=I.turned (fun b o hb e=>kk b o (by simpa using hb) e) f0 f1 f3 f4 f5;show{_,rfl,BL st' rfl rfl rfl {.int (lo+i),H,I1,{t,?_},⟨rfl,rfl⟩,st',fun b hb=>(hf b hb).1}};rw[Int.mul_one]
 done:=by
  intro X hP hw hK hc i pins s σ H E I hf st hg;obtain⟨f0,f1,f2,f3,f4,f5⟩:=hf it (by simp);show wpAny_pyNext_range_end (I.ok.hd hc) st (by have:n<=i:=hg;lia) fun h' eb=>{rfl,I.turned (fun b o hb e=>eb b o hb e) f0 f1 f3 f4 f5}
 self:=fun _ _ _ _ _ st h=>wpAny_pyIter_rangeiter st h
section
variable {X:Cx}{tg:QaF}
def Hn (K:Ja)(tl:TE):TI:=fun σ H R=>tl σ H fun x H1=>∃a,x = .ref a/\(∃xs,aW K H1 a xs)/\R (O2 K a) H1
def RE (K:Ja)(tl:TE):TI:=fun σ H R=>tl σ H fun x H1=>∃a,x = .ref a/\(∃xs,aV K H1 a xs)/\R (VW K a) H1
def ID (hl:PE X l tl):PI X tg l (Hn X.K tl):=by
 show fun pins s σ H R I h=>bg (hl s σ H _ I h) fun v s1 hz_=>ak.el hz_ _ ?_;rintro x H1 I1 r1 q1;obtain⟨a,e,⟨xs,hq⟩,q⟩:=q1;subst e;cases r1;obtain⟨aF,rv,p,hz⟩:=I1.list hq;show Qcr p.isList {s1.heap.objs.size,[s1.heap.objs.size],_,_,H1,rfl,I1.kept fun b o e=>Jb _ e,CU a _,{_,Ji _ rfl,rfl,rfl},fun b hb =>?_,q};have e:b=s1.heap.objs.size:=by simpa using hb
 subst e;show I1.fN (Je _) (I1.bw.fresh (Je _))
def NW (hl:PE X l tl):PI X tg l (RE X.K tl):=by
 show fun pins s σ H R I h=>bg (hl s σ H _ I h) fun v s1 hz_=>ak.el hz_ _ ?_;rintro x H1 I1 r1 q1;obtain⟨a,e,⟨xs,hq⟩,q⟩:=q1;subst e;cases r1;obtain⟨aF,rv,p,hz⟩:=I1.tuple hq;show QeL (show s1.heap.IsTuple a aF.toArray from p) {s1.heap.objs.size,[s1.heap.objs.size],_,_,H1,rfl,I1.kept fun b o e=>Jb _ e,zY a _,{_,Ji _ rfl,rfl,rfl},fun b hb =>?_,q};have e:b=s1.heap.objs.size:=by simpa using hb
 subst e;show I1.fN (Je _) (I1.bw.fresh (Je _))
def Fg {σ:St}{H:Hp}{s:Gc}{R:It->Hp->Prop}{E:Fk->Gc->Prop}{lo hi:Int}{t u v:Tok}{tk:Nat}(I:Inv X pins σ H s)(h1: -(2^62)<=lo)(h2:lo<2^62)(h3: -(2^62)<=hi)(h4:hi<2^62)
  (q:R (O3 lo (hi-lo).toNat) H):Qab (Qaa X.prog X.w) X.A (Qfu (.ref s.heap.objs.size)) (XM X pins σ tg R) E { s with heap:=s.heap.push { cls := .type "range",data := .fields #[.int lo t,.int hi u,.int 1 v] },toks:=tk }:=by
 show wpAny_pyIter_range (IsRange.new ..) (small_one h1 h2 h3 h4) ?_;have I1:Inv X pins σ H { s with heap:=s.heap.push { cls := .type "range",data := .fields #[.int lo t,.int hi u,.int 1 v] },toks:=tk }:=I.kept fun b o e=>Jb _ e;show⟨(s.heap.push { cls := .type "range",data := .fields #[.int lo t,.int hi u,.int 1 v] }).objs.size,[(s.heap.push { cls := .type "range",data := .fields #[.int lo t,.int hi u,.int 1 v] }).objs.size],_,_,H,rfl,
  I1.kept fun b o e=>Jb _ e,zF _ lo (hi-lo).toNat,?_,fun b hb =>?_,q⟩
 ·have e1:lo+((0:Nat):Int)*1=lo:=by simp
  have e2:(((hi-lo).toNat:Nat):Int)-((0:Nat):Int)=Builtin.Range.rangeSize lo hi 1:=by rw[rangeSize_one];split<;>lia
  rw[e1,e2];show Ji _ rfl
 ·have e:b=(s.heap.push { cls := .type "range",data := .fields #[.int lo t,.int hi u,.int 1 v] }).objs.size:=by simpa using hb
  subst e;show I1.fN (Je _) (I1.bw.fresh (Je _))
def PY (ta:TA):TI:=fun σ H R=>ta σ H fun vs H1=>∃j,vs=[.int j] /\ -(2^62)<=j/\j<2^62/\R (O3 0 j.toNat) H1
def de (hg:Gl X "range")(hm:X.mg "range" = none)(ha:PA X [a] ta)(hs:Qaf [a] X.env=[(false,QaP a X.env)]:=by rfl):PI X tg (.Call (.Name "range" p) [a] [] pos) (PY ta):=by
 show fun pins s σ H R I h=>Call_ (fE I hg hm boot_range (Qao (bg (ha s σ H _ I h) fun us s1 hz_=>ak.el hz_ _ fun vs H1 I1 r1 q1 =>?_) hs rfl));obtain⟨j,e,q1,q2,q⟩:=q1;subst e;cases r1 with
 | cons r rr=>
  cases rr;obtain⟨t,rfl⟩:=r;show call_range_1 (Fg I1 ⋯ ⋯ q1 q2 (by simpa using q))
def CW (wi:TI)(g:TG)(tb:TS):TS:=fun D σ H=>wi σ H fun J H1=>∃W:Nat->Nat->St->Hp->Prop,(∃m,W 0 m σ H1)/\∀i m σ H,W i m σ H ->
 (J.stop i H/\D.nx σ H)\/(J.go i H/\∃N,(∀ σ' H',N σ' H'->∃m',m'<m/\W (i+1) m' σ' H')/\∀x H',J.yld i H x H'->g x σ H' fun σ2 H2=>tb { D with nx:=N,ct:=N,bk:=D.nx } σ2 H2)
def iI (fp:List KE)(h:Heap):List (KE×Obj):=fp.filterMap fun b=>(h.get? b).map fun o=>(b,o)
def dG {b:KE}{o:Obj}(hb:b∈fp)(e:h.get? b=some o):(b,o)∈iI fp h:=List.mem_filterMap.mpr ⟨b,hb,by rw[e];rfl⟩
def tO (hp:p∈iI fp h):p.1∈fp/\h.get? p.1=some p.2:=by
 obtain⟨b,hb,e⟩:=List.mem_filterMap.mp hp;cases q:h.get? b with
 | none=>rw[q] at e;cases e
 | some o=>
  rw[q] at e;have e':=Qan e;subst e';show⟨hb,q⟩
def Inv.pinned {σ:St}{H:Hp}{s:Gc}{fp:List KE}(I:Inv X pins σ H s)(hf:∀b∈fp,hM X pins H b)(ho:∀b∈fp,∃o,s.heap.get? b=some o/\∀v,o.data ≠ .cell v):Inv X (pins++iI fp s.heap) σ H s:=
 I.qe fun p hp=>(Ub.mp hp).elim (fun z=>I.pin p (Jr _ z)) fun z=>by
  obtain⟨hb,e⟩:=tO z;obtain⟨f0,f1,f2,_⟩:=hf p.1 hb;obtain⟨o,e',d⟩:=ho p.1 hb;rw[e] at e';cases e';show⟨e,f0,f1,f2,d⟩
def Inv.fw {σ:St}{H:Hp}{s:Gc}(I:Inv X (pins++pl) σ H s):Inv X pins σ H s:=I.qe fun p hp=>I.pin p (Jr _ (Uv _ hp))
def eZ {wi:TI}{g:TG}{tb:TS}{pos:Pos}(hp:PassesOwn (Qaa X.prog X.w) X.A X.env X.xe)(hc:X.calm=true)(hi:PI X tg iter wi)(hg:PG X tg g)(hb:yj X body tb)
  (hs:∀x,Qbi iter X.env x=pure x:=by intro _;rfl):PS X (.For tg iter body [] pos) (CW wi g tb):=by
 show fun pins s σ H D I h=>wpAny_For (bg (hi s σ H _ I h) fun v s1 h1=>bg h1 fun Q0 s2 h2 =>?_) hs;obtain⟨it,fp,tn,J,H2,e,I2,T,jz,f2,W,⟨m0,w0⟩,turn⟩:=h2;subst e;have lS:∀{H':Hp},(∀b∈fp,H' b=none)->∀b∈fp,hM X pins H' b:=fun hn b hb=>⟨hn b hb,(f2 b hb).2⟩
 show codeAny_forLoop_any (fun n s'=>∃i σ' H',Inv X pins σ' H' s'/\tn i s'.heap/\(∀b∈fp,H' b=none)/\W i n σ' H') ?_ m0 {0,σ,H2,I2,jz,fun b hb=>(f2 b hb).1,w0};rintro n s3 ⟨i,σ3,H3,I3,eF,fr3,w3⟩
 rcases turn i n σ3 H3 w3 with ⟨stop,qn⟩|⟨go,N,hN,step⟩
 ·show QbP hp (bg (T.done X rfl rfl rfl hc i pins s3 σ3 H3 X.xe I3 (lS fr3) eF stop) fun r s4 hz_ =>?_);show ak.el hz_ _ ?_;rintro hr I4;subst hr;show QcR ⟨σ3,H3,I4,qn⟩
 ·show QbP hp (bg (T.item X rfl rfl rfl hc i pins s3 σ3 H3 X.xe I3 (lS fr3) eF go) fun r s4 hz_ =>?_);show ak.el hz_ _ ?_;rintro u hr h4;subst hr;show QbP hp (bg h4 fun _ s5 hz_=>ak.el hz_ _ fun x H5 I5 r5 y5 cB fr5=>QbP hp (bg (hg s5 σ3 H5 x u _ (I5.pinned (lS fr5) (T.obj _ _ cB)) r5 (step x H5 y5)) fun _ s6 hz_=>ak.el hz_ _ ?_));rintro σ6 H6 I6 q6;show QbP hp (bg (hb s6 σ6 H6 _ I6 q6) fun f s7 q7 =>?_);have again:∀{σ7:St} {H7:Hp},Inv X (pins++iI fp s5.heap) σ7 H7 s7->N σ7 H7->∃m,m<n/\∃i σ' H',Inv X pins σ' H' s7/\tn i s7.heap/\(∀b∈fp,H' b=none)/\W i m σ' H':=fun{σ7 H7} I7 n7=>by
   obtain⟨m',hm,w7⟩:=hN σ7 H7 n7;show{m',hm,i+1,σ7,H7,I7.fw,T.keep _ _ _ cB fun b hb o e=>(I7.pin (b,o) (Jr _ (Jr _ (dG hb e)))).1,fun b hb =>?_,w7};obtain⟨o,e,d⟩:=T.obj _ _ cB b hb;show(I7.pin (b,o) (Jr _ (Jr _ (dG hb e)))).2.1
  cases f with
  | next=>obtain⟨σ7,H7,I7,n7⟩:=q7;show again I7 n7
  | cont=>obtain⟨σ7,H7,I7,n7⟩:=q7;show again I7 n7
  | brk=>obtain⟨σ7,H7,I7,q7⟩:=q7;show⟨σ7,H7,I7.fw,q7⟩
  | ret v=>obtain⟨x7,σ7,H7,I7,r7,q7⟩:=q7;show⟨x7,σ7,H7,I7.fw,r7,q7⟩
end
def Hz {K:Ja}{a:KE}{xs:List V}{g:TG}{tb:TS}{D:Ends}{σ:St}{H:Hp}(Pv:Nat->St->Hp->Prop)(h0:Pv 0 σ H)(hl:∀i σ H,i<=xs.length->Pv i σ H->aW K H a xs)
  (hs:∀i x σ H,xs[i]? = some x->Pv i σ H->g x σ H fun σ2 H2=>tb { D with nx:=Pv (i+1),ct:=Pv (i+1),bk:=D.nx } σ2 H2) (hd:∀ σ H,Pv xs.length σ H->D.nx σ H) :
  ∃W:Nat->Nat->St->Hp->Prop,(∃m,W 0 m σ H)/\∀i m σ H,W i m σ H ->
   ((O2 K a).stop i H/\D.nx σ H)\/((O2 K a).go i H/\∃N,(∀ σ' H',N σ' H'->∃m',m'<m/\W (i+1) m' σ' H')/\∀x H',(O2 K a).yld i H x H'->g x σ H' fun σ2 H2=>tb { D with nx:=N,ct:=N,bk:=D.nx } σ2 H2):=by
 show{fun i m σ H=>m=xs.length-i/\i<=xs.length/\Pv i σ H,{xs.length,by simp,Ue _,h0},?_};rintro i m σ H ⟨rfl,hi,p⟩;have q:=hl i σ H hi p
 by_cases jq:i<xs.length
 ·show .inr {{xs,xs[i],q,by simp[]},Pv (i+1),fun σ' H' p'=>{xs.length-(i+1),⋯,rfl,jq,p'},fun x H' y =>?_};obtain⟨e,y⟩:=y;subst e;show hs i x σ _ (y xs q) p
 ·have e:i=xs.length:=by lia
  subst e;show .inl {{xs,q,Je _},hd σ H p}
def kZ {lo:Int}{n:Nat}{g:TG}{tb:TS}{D:Ends}{σ:St}{H:Hp}(Pv:Nat->St->Hp->Prop)(h0:Pv 0 σ H)
  (hs:∀i σ H,i<n->Pv i σ H->g (.int (lo+i)) σ H fun σ2 H2=>tb { D with nx:=Pv (i+1),ct:=Pv (i+1),bk:=D.nx } σ2 H2) (hd:∀ σ H,Pv n σ H->D.nx σ H) :
  ∃W:Nat->Nat->St->Hp->Prop,(∃m,W 0 m σ H)/\∀i m σ H,W i m σ H ->
   ((O3 lo n).stop i H/\D.nx σ H)\/((O3 lo n).go i H/\∃N,(∀ σ' H',N σ' H'->∃m',m'<m/\W (i+1) m' σ' H')/\∀x H',(O3 lo n).yld i H x H'->g x σ H' fun σ2 H2=>tb { D with nx:=N,ct:=N,bk:=D.nx } σ2 H2):=by
 show{fun i m σ H=>m=n-i/\i<=n/\Pv i σ H,{n,by simp,Ue _,h0},?_};rintro i m σ H ⟨rfl,hi,p⟩
 by_cases jq:i<n
 ·show .inr {jq,Pv (i+1),fun σ' H' p'=>{n-(i+1),⋯,rfl,jq,p'},fun x H' y =>?_};obtain⟨e,y⟩:=y;subst e y;show hs i σ _ jq p
 ·have e:i=n:=by lia
  subst e;show .inl {Je _,hd σ H p}
abbrev R2:=V->V->Hp->VK->Prop
def fA (X:Cx)(f:Fk->Fk->Sem Fk)(r:R2):Prop:=
 ∀ ⦃pins:List (KE×Obj)⦄ (s:Gc) (σ:St) (H:Hp) (x y:V) (v u:Fk) (Q:VK),Inv X pins σ H s->RelV x v->RelV y u->r x y H Q ->
  Qab (Qaa X.prog X.w) X.A (f v u) (EP X pins σ Q) X.xe s
def Ta (X:Cx)(f:Fk->Sem Fk)(r:V->Hp->VK->Prop):Prop:=
 ∀ ⦃pins:List (KE×Obj)⦄ (s:Gc) (σ:St) (H:Hp) (x:V) (v:Fk) (Q:VK),Inv X pins σ H s->RelV x v->r x H Q ->
  Qab (Qaa X.prog X.w) X.A (f v) (EP X pins σ Q) X.xe s
def bE (X:Cx)(f:Fk)(r:List V->Hp->VK->Prop):Prop:=
 ∀ ⦃pins:List (KE×Obj)⦄ (s:Gc) (σ:St) (H:Hp) (xs:List V) (us:List Fk) (Q:VK),Inv X pins σ H s->Vals xs us->r xs H Q ->
  Qab (Qaa X.prog X.w) X.A (call f us) (EP X pins σ Q) X.xe s
def N1 (r:R2)(ta tb:TE):TE:=fun σ H Q=>ta σ H fun x H1=>tb σ H1 fun y H2=>r x y H2 Q
def ZO (r:V->Hp->VK->Prop)(ta:TE):TE:=fun σ H Q=>ta σ H fun x H1=>r x H1 Q
def rI (C:Int->Int->Prop)(g:Int->Int->V):R2:=fun x y H Q=>fX fun i j=>x = .int i/\y = .int j/\C i j/\Q (g i j) H
def Lm (g:Int->Int->V):R2:=fun x y H Q=>fX fun i j=>x = .int i/\y = .int j/\Q (g i j) H
def rU (g:Int->V):V->Hp->VK->Prop:=fun x H Q=>∃i,x = .int i/\Q (g i) H
section
variable {X:Cx}{a b c:QaF}{ta tb tc:TE}{pos:Pos}
def Ol (ha:PE X a ta)(hb:PE X b tb){pins:List (KE×Obj)}{s:Gc}{σ:St}{H:Hp}{R:V->V->Hp->Prop}(I:Inv X pins σ H s)
  (h:ta σ H fun x H1=>tb σ H1 fun y H2=>R x y H2) {Q:Fk->Gc->Prop} {f:Fk->Fk->Sem Fk}
  (hf:∀v u s2 x y H2,Inv X pins σ H2 s2->RelV x v->RelV y u->R x y H2->Qab (Qaa X.prog X.w) X.A (f v u) Q X.xe s2) :
  Qab (Qaa X.prog X.w) X.A (QaP a X.env) (fun v s₁=>Qab (Qaa X.prog X.w) X.A (QaP b X.env) (fun u s₂=>Qab (Qaa X.prog X.w) X.A (f v u) Q X.xe s₂) X.xe s₁) X.xe s:=by
 show bg (ha s σ H _ I h) fun v s1 hz_=>ak.el hz_ _ ?_;rintro x H1 I1 r1 q1;show bg (hb s1 σ H1 _ I1 q1) fun u s2 hz_=>ak.el hz_ _ ?_;rintro y H2 I2 r2 q2;show hf v u s2 x y H2 I2 r1 r2 q2
def au (ho:fA X (Qba op) r)(ha:PE X a ta)(hb:PE X b tb):PE X (.BinOp a op b pos) (N1 r ta tb):=
 fun pins s σ H Q I h=>wpAny_BinOp (Ol ha hb I h fun v u s2 x y H2 I2 rx ry q=>ho s2 σ H2 x y v u Q I2 rx ry q)
def xi (ho:Ta X (unaryOp op) r)(ha:PE X a ta):PE X (.UnaryOp op a pos) (ZO r ta):=
 fun pins s σ H Q I h=>UnaryOp_ (bg (ha s σ H _ I h) fun v s1 hz_=>ak.el hz_ _ fun x H1 I1 r1 q1=>ho s1 σ H1 x v Q I1 r1 q1)
def Su {C:Int->Int->Prop}{g:Int->Int->Int}
  (rule:∀i j t u s Q E,C i j->Q (.int (g i j) s.toks) { s with toks:=s.toks+1 } -> Qab (Qaa X.prog X.w) X.A (f (.int i t) (.int j u)) Q E s) :
  fA X f (rI C fun i j =>.int (g i j)):=by
 intro pins s σ H x y v u Q I rx ry h;obtain⟨i,j,rfl,rfl,hc,q⟩:=h;obtain⟨t,rfl⟩:=rx;obtain⟨t',rfl⟩:=ry;show rule i j t t' s _ _ hc {.int (g i j),H,I.tok _,{_,rfl},q}
def Py {g:Int->Int->Int}
  (rule:∀i j t u s Q E,Q (.int (g i j) s.toks) { s with toks:=s.toks+1 } -> Qab (Qaa X.prog X.w) X.A (f (.int i t) (.int j u)) Q E s) :
  fA X f (Lm fun i j =>.int (g i j)):=by
 intro pins s σ H x y v u Q I rx ry h;obtain⟨i,j,rfl,rfl,q⟩:=h;obtain⟨t,rfl⟩:=rx;obtain⟨t',rfl⟩:=ry;show rule i j t t' s _ _ {.int (g i j),H,I.tok _,{_,rfl},q}
def Ky {g:Int->Int->Bool}
  (rule:∀i j t u s Q E,Q (.bool (g i j)) s->Qab (Qaa X.prog X.w) X.A (f (.int i t) (.int j u)) Q E s) :
  fA X f (Lm fun i j =>.bl (g i j)):=by
 intro pins s σ H x y v u Q I rx ry h;obtain⟨i,j,rfl,rfl,q⟩:=h;obtain⟨t,rfl⟩:=rx;obtain⟨t',rfl⟩:=ry;show rule i j t t' s _ _ {.bl (g i j),H,I,rfl,q}
def NK (i j:Int):Prop:=0<j/\j<1073741824
def Tj (i j:Int):Prop:=0<=j/\j<=1000000/\i.natAbs<2^64
def Ae (i j:Int):Prop:=(-(2^64)<i/\i<2^64)\/(-(2^64)<j/\j<2^64)
def Ae.ok (h:Ae i j):IntMulOk i j:=by
 rcases h with ⟨h1,h2⟩|⟨h1,h2⟩
 ·show .of_left (intBits_le_64 h1 h2)
 ·show .of_right (intBits_le_64 h1 h2)
def MW:fA X (Qba .Add) (Lm fun i j =>.int (i+j)):=Py fun _ _ _ _ _ _ _ q=>add_int q
def dW:fA X (Qba .Sub) (Lm fun i j =>.int (i-j)):=Py fun _ _ _ _ _ _ _ q=>sub_int q
def OJ:fA X (Qba .Mult) (rI Ae fun i j =>.int (i*j)):=Su fun _ _ _ _ _ _ _ hc q=>mul_int q hc.ok
def uW:fA X (Qba .FloorDiv) (rI NK fun i j =>.int (i / j)):=Su fun i j _ _ _ _ _ hc q=>by
 have h1:=hc.1;have h2:=hc.2;show floordiv_int ⋯ (by rw[QfG i ⋯];show q) (.inl (QfD ⋯))
def kd:fA X (Qba .Mod) (rI (fun _ j=>0<j) fun i j =>.int (i%j)):=Su fun i j _ _ _ _ _ hc q=>by
 show mod_int' ⋯ (by rw[QfF i ⋯];show q)
def NU:fA X (Qba .Pow) (rI Tj fun i j =>.int (i^j.toNat)):=Su fun _ _ _ _ _ _ _ hc q=>pow_int_small hc.1 hc.2.1 hc.2.2 q
def unI {g:Int->Int}
  (rule:∀i t s Q E,Q (.int (g i) s.toks) { s with toks:=s.toks+1 } -> Qab (Qaa X.prog X.w) X.A (f (.int i t)) Q E s) :
  Ta X f (rU fun i =>.int (g i)):=by
 intro pins s σ H x v Q I rx h;obtain⟨i,rfl,q⟩:=h;obtain⟨t,rfl⟩:=rx;show rule i t s _ _ {.int (g i),H,I.tok _,{_,rfl},q}
def qz:Ta X (unaryOp .USub) (rU fun i =>.int (-i)):=unI fun _ _ _ _ _ q=>neg_int q
end
def RG:V->V->Bool
 | .non,.non=>true | .non,.int _=>true | .int _,.non=>true | .non,.bl _=>true | .bl _,.non=>true | .non,.str _=>true | .str _,.non=>true
 | .int _,.int _=>true | .bl _,.bl _=>true | .str _,.str _=>true | .byt _,.byt _=>true
 | .int _,.str _=>true | .str _,.int _=>true | .bl _,.str _=>true | .str _,.bl _=>true
 | _,_=>false
def SM:R2:=fun x y H Q=>RG x y=true/\Q (.bl (decide (x=y))) H
def VB:R2:=fun x y H Q=>RG x y=true/\Q (.bl (!decide (x=y))) H
def BU:decide (V.int i=V.int j)=(i==j):=by
 rw[Y9];simp
def HM:decide (V.bl i=V.bl j)=(i==j):=by
 rw[Y9];simp
def Bt:decide (V.str i=V.str j)=(i==j):=by
 rw[Y9];simp
def BH:decide (V.byt i=V.byt j)=(i.toList==j.toList):=by
 rw[Y9];cases i;cases j;simp
section
variable {X:Cx}{a b c:QaF}{ta tb tc:TE}{pos:Pos}
def bq {σ:St}{H:Hp}{s:Gc}{Q:VK}{k k':Bool}(I:Inv X pins σ H s)(q:Q (.bl k) H)(e:k=k'):EP X pins σ Q (.bool k') s:=by
 subst e;show{.bl k,H,I,rfl,q}
def QK:fA X (QaC .Eq) SM:=by
 intro pins s σ H x y v u Q I rx ry h;obtain⟨hs,q⟩:=h;cases x with
 | non=>
  cases rx;cases y with
  | non=>cases ry;show PySem.EqNone.eq_none_none (bq I q (by simp))
  | bl j=>cases ry;show PySem.EqNone.eq_none_bool (bq I q (by simp))
  | int j=>obtain⟨t',rfl⟩:=ry;show PySem.EqNone.eq_none_int (bq I q (by simp))
  | str j=>obtain⟨t',rfl⟩:=ry;show PySem.EqNone.eq_none_str (bq I q (by simp))
  | _=>show absurd (show false=true from hs) Js
 | bl i=>
  cases rx;cases y with
  | non=>cases ry;show PySem.EqNone.eq_bool_none (bq I q (by simp))
  | bl j=>cases ry;show eq_bool (bq I q HM)
  | str j=>obtain⟨t',rfl⟩:=ry;show PySem.EqMixed.eq_bool_str (bq I q (by simp))
  | _=>show absurd (show false=true from hs) Js
 | int i=>
  obtain⟨t,rfl⟩:=rx;cases y with
  | non=>cases ry;show PySem.EqNone.eq_int_none (bq I q (by simp))
  | int j=>obtain⟨t',rfl⟩:=ry;show eq_int (bq I q BU)
  | str j=>obtain⟨t',rfl⟩:=ry;show PySem.EqMixed.eq_int_str (bq I q (by simp))
  | _=>show absurd (show false=true from hs) Js
 | str i=>
  obtain⟨t,rfl⟩:=rx;cases y with
  | non=>cases ry;show PySem.EqNone.eq_str_none (bq I q (by simp))
  | bl j=>cases ry;show PySem.EqMixed.eq_str_bool (bq I q (by simp))
  | int j=>obtain⟨t',rfl⟩:=ry;show PySem.EqMixed.eq_str_int (bq I q (by simp))
  | str j=>obtain⟨t',rfl⟩:=ry;show eq_str (bq I q Bt)
  | _=>show absurd (show false=true from hs) Js
 | byt i=>
  obtain⟨t,rfl⟩:=rx;cases y with
  | byt j=>obtain⟨t',rfl⟩:=ry;show PySem.W.eq_bytes (bq I q BH)
  | _=>show absurd (show false=true from hs) Js
 | _=>cases y<;>show absurd (show false=true from hs) Js
def Ro:fA X (QaC .NotEq) VB:=by
 intro pins s σ H x y v u Q I rx ry h;obtain⟨hs,q⟩:=h;cases x with
 | non=>
  cases rx;cases y with
  | non=>cases ry;show PySem.EqNone.ne_none_none (bq I q (by simp))
  | bl j=>cases ry;show PySem.EqNone.ne_none_bool (bq I q (by simp))
  | int j=>obtain⟨t',rfl⟩:=ry;show PySem.EqNone.ne_none_int (bq I q (by simp))
  | str j=>obtain⟨t',rfl⟩:=ry;show PySem.EqNone.ne_none_str (bq I q (by simp))
  | _=>show absurd (show false=true from hs) Js
 | bl i=>
  cases rx;cases y with
  | non=>cases ry;show PySem.EqNone.ne_bool_none (bq I q (by simp))
  | bl j=>cases ry;show ne_bool (bq I q (congrArg not HM))
  | str j=>obtain⟨t',rfl⟩:=ry;show PySem.EqMixed.ne_bool_str (bq I q (by simp))
  | _=>show absurd (show false=true from hs) Js
 | int i=>
  obtain⟨t,rfl⟩:=rx;cases y with
  | non=>cases ry;show PySem.EqNone.ne_int_none (bq I q (by simp))
  | int j=>obtain⟨t',rfl⟩:=ry;show ne_int (bq I q (congrArg not BU))
  | str j=>obtain⟨t',rfl⟩:=ry;show PySem.EqMixed.ne_int_str (bq I q (by simp))
  | _=>show absurd (show false=true from hs) Js
 | str i=>
  obtain⟨t,rfl⟩:=rx;cases y with
  | non=>cases ry;show PySem.EqNone.ne_str_none (bq I q (by simp))
  | bl j=>cases ry;show PySem.EqMixed.ne_str_bool (bq I q (by simp))
  | int j=>obtain⟨t',rfl⟩:=ry;show PySem.EqMixed.ne_str_int (bq I q (by simp))
  | str j=>obtain⟨t',rfl⟩:=ry;show ne_str (bq I q (congrArg not Bt))
  | _=>show absurd (show false=true from hs) Js
 | byt i=>
  obtain⟨t,rfl⟩:=rx;cases y with
  | byt j=>obtain⟨t',rfl⟩:=ry;show PySem.W.ne_bytes (bq I q (congrArg not BH))
  | _=>show absurd (show false=true from hs) Js
 | _=>cases y<;>show absurd (show false=true from hs) Js
def qu:fA X (QaC .Lt) (Lm fun i j =>.bl (decide (i<j))):=Ky fun _ _ _ _ _ _ _ q=>lt_int q
def rL:fA X (QaC .LtE) (Lm fun i j =>.bl (decide (i<=j))):=Ky fun _ _ _ _ _ _ _ q=>le_int q
def AI:fA X (QaC .Gt) (Lm fun i j =>.bl (decide (j<i))):=Ky fun _ _ _ _ _ _ _ q=>gt_int q
def Bv:fA X (QaC .GtE) (Lm fun i j =>.bl (decide (j<=i))):=Ky fun _ _ _ _ _ _ _ q=>ge_int q
def Od:fA X (QaC .Is) (fun x y H Q=>y = .non/\Q (.bl (decide (x = .non))) H):=by
 intro pins s σ H x y v u Q I rx ry h;obtain⟨rfl,q⟩:=h;cases ry;show is_none_gen (bq I q ?_);cases x<;>first
  | (cases rx;rfl)
  | (obtain⟨t,rfl⟩:=rx;rfl)
def JU:fA X (QaC .IsNot) (fun x y H Q=>y = .non/\Q (.bl (!decide (x = .non))) H):=by
 intro pins s σ H x y v u Q I rx ry h;obtain⟨rfl,q⟩:=h;cases ry;show isnot_none_gen (bq I q ?_);cases x<;>first
  | (cases rx;rfl)
  | (obtain⟨t,rfl⟩:=rx;rfl)
def fA.or (h:fA X f r)(h':fA X f r'):fA X f (fun x y H Q=>r x y H Q\/r' x y H Q):=by
 intro pins s σ H x y v u Q I rx ry q
 rcases q with q|q
 ·show h s σ H x y v u Q I rx ry q
 ·show h' s σ H x y v u Q I rx ry q
def aA (b:QaF){op:CmpOp}(h:op ≠ .In:=by decide)(h2:op ≠ .NotIn:=by decide):Qdw op b=false:=by
 have e1:(op==CmpOp.In)=false:=by cases op<;>first|rfl|show absurd rfl h
 have e2:(op==CmpOp.NotIn)=false:=by cases op<;>first|rfl|show absurd rfl h2
 cases b<;>simp[Qdw,e1,e2]
def cF (ho:fA X (QaC op) r)(ha:PE X a ta)(hb:PE X b tb)(hm:Qdw op b=false):PE X (.Compare a [op] [b] pos) (N1 r ta tb):=
 fun pins s σ H Q I h=>wpAny_Compare1 (Ol ha hb I h fun v u s2 x y H2 I2 rx ry q=>ho s2 σ H2 x y v u Q I2 rx ry q) hm
def LN (t:TE):TT:=fun σ H Q=>t σ H fun x H'=>∃k,x = .bl k/\Q k H'
def aw (ho:fA X (QaC op) r)(ha:PE X a ta)(hb:PE X b tb)(hm:Qdw op b=false):PT X (.Compare a [op] [b] pos) (LN (N1 r ta tb)):=by
 show fun pins s σ H Q I h=>wpAny_isTrue_Compare1 (bg (ha s σ H _ I h) fun v s1 hz_=>ak.el hz_ _ fun x H1 I1 r1 q1=>bg (hb s1 σ H1 _ I1 q1) fun u s2 ⟨y,H2,I2,r2,q2⟩=>
  bg (ho s2 σ H2 x y v u _ I2 r1 r2 q2) fun c s3 ⟨z,H3,I3,r3,k,e,q3⟩=>?_) hm
 subst e;cases r3;show Qbh ⟨H3,I3,q3⟩
def HI (r r':R2)(ta tb tc:TE):TE:=fun σ H Q=>ta σ H fun x H1=>tb σ H1 fun y H2=>r x y H2 fun z H3=>∃k,z = .bl k /\
 (if k=true then tc σ H3 fun w' H4=>r' y w' H4 Q else Q (.bl false) H3)
def Gg {r r':R2}(ho:fA X (QaC op) r)(wK:fA X (QaC op') r')(ha:PE X a ta)(hb:PE X b tb)(hc:PE X c tc)
  (hm:lastMarks [op,op'] [b,c]=false:=by with_unfolding_all rfl):PE X (.Compare a [op,op'] [b,c] pos) (HI r r' ta tb tc):=by
 show fun pins s σ H Q I h=>Compare_chain (bg (ha s σ H _ I h) fun v s1 hz_=>ak.el hz_ _ fun x H1 I1 r1 q1=>chain_link (bg (hb s1 σ H1 _ I1 q1) fun u s2 ⟨y,H2,I2,r2,q2⟩=>
  bg (ho s2 σ H2 x y v u _ I2 r1 r2 q2) fun d s3 ⟨z,H3,I3,r3,k,e,q3⟩=>?_)) hm
 subst e;cases r3;show Qbh ?_;cases k with
 | false=>show ite_ff ⟨.bl false,H3,I3,rfl,q3⟩
 | true=>show ite_tt (chain_last (bg (hc s3 σ H3 _ I3 q3) fun w' s4 hz_=>ak.el hz_ _ fun z' H4 I4 r4 q4=>wK s4 σ H4 y z' u w' Q I4 r2 r4 q4))
def xY {r r':R2}(ho:fA X (QaC op) r)(wK:fA X (QaC op') r')(ha:PE X a ta)(hb:PE X b tb)(hc:PE X c tc)
  (hm:lastMarks [op,op'] [b,c]=false:=by with_unfolding_all rfl):PT X (.Compare a [op,op'] [b,c] pos) (LN (HI r r' ta tb tc)):=by
 show fun pins s σ H Q I h=>isTrue_chain (bg (ha s σ H _ I h) fun v s1 hz_=>ak.el hz_ _ fun x H1 I1 r1 q1=>test_link (bg (hb s1 σ H1 _ I1 q1) fun u s2 ⟨y,H2,I2,r2,q2⟩=>
  bg (ho s2 σ H2 x y v u _ I2 r1 r2 q2) fun d s3 ⟨z,H3,I3,r3,k,e,q3⟩=>?_)) hm
 subst e;cases r3;show Qbh ?_;cases k with
 | false=>
  obtain⟨k',e',q'⟩:=q3;cases e';show ite_ff ⟨H3,I3,q'⟩
 | true=>
  show ite_tt (test_last (bg (hc s3 σ H3 _ I3 q3) fun w' s4 hz_=>ak.el hz_ _ fun z' H4 I4 r4 q4=>bg (wK s4 σ H4 y z' u w' _ I4 r2 r4 q4) fun d' s5 hz_=>ak.el hz_ _ ?_));rintro z2 H5 I5 r5 ⟨k2,e2,q5⟩;subst e2;cases r5;show Qbh ⟨H5,I5,q5⟩
def oq:(W1:Nat)<2^63:=by rw[Qdn];decide
def zO:fA X (Qba .Add) (fun x y H Q=>∃i j,x = .str i/\y = .str j/\i.length+j.length<=W1/\Q (.str (i++j)) H):=by
 intro pins s σ H x y v u Q I rx ry h;obtain⟨i,j,rfl,rfl,hz,q⟩:=h;obtain⟨t,rfl⟩:=rx;obtain⟨t',rfl⟩:=ry;show add_str (fun t' tk=>{.str (i++j),H,I.tok _,{_,rfl},q}) hz
def vals1 (r:Vals [x] us):∃u,us=[u]/\RelV x u:=by
 cases r with
 | cons r1 r2=>cases r2;show⟨_,rfl,r1⟩
def vals2 (r:Vals [x,y] us):∃u w',us=[u,w']/\RelV x u/\RelV y w':=by
 cases r with
 | cons r1 r2=>
  cases r2 with
  | cons r3 r4=>cases r4;show⟨_,_,rfl,r1,r3⟩
def tZ (hc:X.calm=true):bE X (.builtin "max") (fun xs H Q=>∃i j,xs=[.int i,.int j]/\Q (.int (if j>i then j else i)) H):=by
 intro pins s σ H xs us Q I r h;obtain⟨i,j,rfl,q⟩:=h;obtain⟨u,w',rfl,⟨t,rfl⟩,⟨t',rfl⟩⟩:=vals2 r;show max_two_ints (I.ok.hd hc) fun h' tk k=>{_,H,I.kept k,?_,q}
 by_cases hj:j>i
 ·rw[if_pos hj,if_pos hj];show⟨_,rfl⟩
 ·rw[if_neg hj,if_neg hj];show⟨_,rfl⟩
def C3 (hc:X.calm=true):bE X (.builtin "min") (fun xs H Q=>∃i j,xs=[.int i,.int j]/\Q (.int (if j<i then j else i)) H):=by
 intro pins s σ H xs us Q I r h;obtain⟨i,j,rfl,q⟩:=h;obtain⟨u,w',rfl,⟨t,rfl⟩,⟨t',rfl⟩⟩:=vals2 r;show min_two_ints (I.ok.hd hc) fun h' tk k=>{_,H,I.kept k,?_,q}
 by_cases hj:j<i
 ·rw[if_pos hj,if_pos hj];show⟨_,rfl⟩
 ·rw[if_neg hj,if_neg hj];show⟨_,rfl⟩
def fH:bE X (.type "int") (fun xs H Q=>(∃i,xs=[.int i]/\Q (.int i) H)\/∃k,xs=[.bl k]/\Q (.int (if k then 1 else 0)) H):=by
 intro pins s σ H xs us Q I r h
 rcases h with ⟨i,rfl,q⟩|⟨k,rfl,q⟩
 ·obtain⟨u,rfl,t,rfl⟩:=vals1 r;show call_int_int {.int i,H,I,{_,rfl},q}
 ·obtain⟨u,rfl,r1⟩:=vals1 r;cases r1;show call_int_bool {.int (if k then 1 else 0),H,I.tok _,{_,rfl},q}
def vk:bE X (.type "str") (fun xs H Q=>∃i,xs=[.int i]/\i.natAbs.log2<1920/\Q (.str (toString i)) H):=by
 intro pins s σ H xs us Q I r h;obtain⟨i,rfl,hz,q⟩:=h;obtain⟨u,rfl,t,rfl⟩:=vals1 r;show PySem.P.str_of_int hz {.str _,H,I.tok _,{_,rfl},q}
def Nj (K:Ja)(x:V)(H:Hp)(n:Nat):Prop:=
 match x with
 | .str y=>y.length<=W1/\n=y.length
 | .byt y=>y.size<=W1/\n=y.size
 | .ref p=>(∃xs,aW K H p xs/\n=xs.length)\/∃xs,aV K H p xs/\n=xs.length
 | _=>False
def Hf:bE X (.builtin "len") (fun xs H Q=>∃x n,xs=[x]/\Nj X.K x H n/\Q (.int n) H):=by
 intro pins s σ H xs us Q I r h;obtain⟨x,n,rfl,e,q⟩:=h;obtain⟨u,rfl,rx⟩:=vals1 r;have hs:=Qdn;cases x with
 | str y=>
  obtain⟨t,rfl⟩:=rx;obtain⟨hy,e'⟩:y.length<=W1/\n=y.length:=e;subst e';show len_str ⋯ {.int _,H,I.tok _,{_,rfl},q}
 | byt y=>
  obtain⟨t,rfl⟩:=rx;obtain⟨hy,e'⟩:y.size<=W1/\n=y.size:=e;subst e';show PySem.W.len_bytes ⋯ {.int _,H,I.tok _,{_,rfl},q}
 | ref p=>
  cases rx;have e':=e
  rcases e' with ⟨xs,hx,e'⟩|⟨xs,hx,e'⟩
  ·subst e';obtain⟨aF,r',pl,hz⟩:=I.list hx;have hlen:=r'.length;show Calls.call_len_list pl.isList (by simp only[Ju];lia) {.int xs.length,H,I.tok _,{_,by simp only[Ju];rw[hlen]},q}
  ·subst e';obtain⟨aF,r',pl,hz⟩:=I.tuple hx;have hlen:=r'.length;show len_tuple pl (by simp only[Ju];lia) {.int xs.length,H,I.tok _,{_,by simp only[Ju];rw[hlen]},q}
 | _=>show(show False from e).elim
def wk:bE X (.builtin "divmod") (fun xs H Q=>∃i j,xs=[.int i,.int j]/\NK i j/\∀p,H p=none->Q (.ref p) (upd H p (.tup [.int (i / j),.int (i%j)]))):=by
 intro pins s σ H xs us Q I r h;obtain⟨i,j,rfl,⟨h1,h2⟩,q⟩:=h;obtain⟨u,w',rfl,⟨t,rfl⟩,⟨t',rfl⟩⟩:=vals2 r;show divmod_int ⋯ ?_ (.inl (QfD ⋯));rw[QfG i ⋯,QfF i ⋯];show{.ref s.heap.objs.size,_,?_,rfl,q _ (I.bw.fresh (Je _))};show I.laid (fun b o e=>Jb _ e) (Je _) {by simp only[Jo,Yo];rw[Qdn];decide,[.int (i / j) s.toks,.int (i%j) (s.toks+1)],.cons {_,rfl} (.cons {_,rfl} .nil),?_};show{_,Ji s.heap rfl,rfl,rfl,0,rfl}
end
structure yU (h:Heap)(x dx C:KE)(mA:Str->Option Fk):Prop where
 obj:h.get? x=some (Y5 C dx)
 ns:h.Ns1 dx mA
 ne:dx≠x
def tK {h:Heap}{dx:KE}{mA:Str->Option Fk}(n:h.Ns1 dx mA):∃od,h.get? dx=some od/\∀name,Qdy name od=some (mA name):=by
 obtain⟨o,es,ep,ho,hd,hk,_,hm⟩:=n;show{o,ho,fun name =>?_};have e:=hm name;unfold nsFind findBy at e;rw[<-Array.find?_toList] at e;unfold Qdy;rw[hd];dsimp only
 split
 ·rename_i y q;rw[q] at e;show congrArg some e
 ·rename_i q;rw[q] at e;have a:es.toList.any (·.refKey)=false:=by
   rw[List.any_eq_false];intro y hy;obtain⟨z,t,hkey⟩:=hk y (Array.mem_toList_iff.mp hy);simp[DictEntry.refKey,hkey]
  rw[if_neg (by rw[a];show Js)];show congrArg some e
def yU.look (I:yU h x dx C mA):∃od,PySem.W.InstAt h x (Y5 C dx) C (some od)/\∀name,Qdy name od=some (mA name):=
 let ⟨od,ho,hl⟩:=tK I.ns
 ⟨od,⟨I.obj,rfl,rfl,ho⟩,hl⟩
section
variable {prog:Qac}{w:Qag}{A:QaB}{E:Fk->Gc->Prop}{s:Gc}{K:Ja}{x dx C f:KE}{mA:Str->Option Fk}{name:Str}{v:Fk}
def get_map {Q:Fk->Gc->Prop}(X:K.In s.heap)(I:yU s.heap x dx C mA)(hg:Qc2 K C name=true)(hh:Qd8 K C=true)
  (ha:Yt K (.ref C) name=some none) (hv:mA name=some v) (Sw:PySem.W.handedIn v=true) (h:Q v { s with toks:=s.toks+1 }) :
  Qab (Qaa prog w) A (getAttr (.ref x) name expr) Q E s:=by
 obtain⟨od,J,hl⟩:=I.look;show PySem.W.get_value X J (QdJ hg).1 (PySem.W.findObj_own hh ha rfl (by rw[hl,hv])) Sw h
def Gz {Q:Fk×List Fk->Gc->Prop}(X:K.In s.heap)(I:yU s.heap x dx C mA)(hg:Qc2 K C name=true)
  (hf:Yt K (.ref C) name=some (some (.ref f))) (ht:QfA K (.ref f)=true) (hv:mA name=none) (h:Q (.ref f,[.ref x]) s) :
  Qab (Qaa prog w) A (getMethod (.ref x) name pl) Q E s:=by
 obtain⟨od,J,hl⟩:=I.look;show PySem.W.method_fn X J (QdJ hg).1 (QdJ hg).2 hf (beq_iff_eq.mp ht) (by change(Qdy name od).map (·.isSome)=some false;rw[hl,hv];rfl) h
def KN (X:K.In s.heap)(I:yU s.heap x dx C mA)
  (hs:Yt K (.ref C) "__setattr__" = some (some (.builtin "object.__setattr__"))) (hp:Qgt K C=true) (ht:Qew K C name=some none) (hh:Qd8 K C=true)
  (hw:QfW mA ns) (hsz:ns.length<=W1)
  (h:∀h',yU h' x dx C (fun y=>if y=name then some v else mA y)->U6 dx s.heap h'->Q () { s with heap:=h',toks:=s.toks+2 }) :
  Qab (Qaa prog w) A (setAttr (.ref x) name v) Q E s:=by
 obtain⟨od,J,hl⟩:=I.look;show PySem.W.set_plain X J hs (PySem.W.osa_open X J hp ht fun b =>?_);obtain⟨cd,hc,DZ⟩:=PySem.W.any_some hh;show be (tz (be (be (Qf8 I.obj (be (PySem.W.Looks.here (PySem.W.looks_clsIn X hc) ?_))))));rw[DZ];show tz (be (tz (be (wpAny_nsSet1 I.ns fun h' yN AY =>?_))));obtain⟨oD,esD,epD,hoD,hdD,hcD⟩:=yN.count (PySem.Within.cons name v hw);show be (wpAny_lookBehind hoD (by rw[hdD];show pastItsLine_dict (Jf hcD (by rw[Jo];lia))) (tz (h _ {(AY.2 _ (QaD I.ne)).trans I.obj,yN,I.ne} AY)))
def GG {vs:List Fk}{kw:List (Str×Fk)}(X:K.In s.heap)(hm:Qdg K C=true)
  (hi:Yt K (.ref C) "__init__" = some (some (.ref f))) (hf:PySem.W.typeIn K (.ref f)=some (.type "function"))
  (h:QaY (Qaa prog w) (A.under (.builtin "type.__call__" ⟨.ref C::vs,kw⟩)) (.call (.ref f) ⟨.ref (s.heap.objs.size+1)::vs,kw⟩) (PySem.W.InitBack (s.heap.objs.size+1) R)
   { s with heap:=(s.heap.push Y4).push (Y5 C s.heap.objs.size) }) :
  QaY (Qaa prog w) A (.call (.ref C) ⟨vs,kw⟩) R s:=by
 obtain⟨hh,g,d,t,os⟩:=s;show PySem.W.make_core (PySem.W.makes_of X hm) (PySem.W.looks_findIn X hi) (fun self=>PySem.W.bind_fn X self hf) (.inl rfl) h
end
def kC (f:Str)(v:V):List (Str×V)->List (Str×V)
 | []=>[(f,v)]
 | (g,x)::r=>if g=f then (g,v)::r else (g,x)::kC f v r
def pd (f g:Str)(v:V):∀fs,(kC f v fs).lookup g=if g=f then some v else fs.lookup g
 | []=>by
  change Wc g [(f,v)]=_
  by_cases h:g=f
  ·have hb:=beq_iff_eq.mpr h;simp only[Wc,hb,if_pos h]
  ·have hb:=beq_eq_false_iff_ne.mpr h;simp only[Wc,hb,if_neg h]
 | (k,x)::r=>by
  rw[show kC f v ((k,x)::r)=(if k=f then (k,v)::r else (k,x)::kC f v r) from rfl]
  by_cases hk:k=f
  ·rw[if_pos hk]
   by_cases h:g=k
   ·have hb:=beq_iff_eq.mpr h;simp only[Wc,hb,if_pos (h.trans hk)]
   ·have hb:=beq_eq_false_iff_ne.mpr h;simp only[Wc,hb,if_neg (fun e:g=f=>h (e.trans hk.symm))]
  ·rw[if_neg hk]
   by_cases h:g=k
   ·have hb:=beq_iff_eq.mpr h;simp only[Wc,hb,if_neg (fun e:g=f=>hk (h.symm.trans e))]
   ·have hb:=beq_eq_false_iff_ne.mpr h;simp only[Wc,hb];show pd f g v r
def oW (f:Str)(v:V):∀fs,f∈(kC f v fs).map (·.1)/\∀g,g∈fs.map (·.1)->g∈(kC f v fs).map (·.1)
 | []=>⟨by simp[kC],fun g h=>by simp at h⟩
 | (k,x)::r=>by
  obtain⟨i1,i2⟩:=oW f v r;rw[show kC f v ((k,x)::r)=(if k=f then (k,v)::r else (k,x)::kC f v r) from rfl]
  by_cases hk:k=f
  ·rw[if_pos hk];subst hk;show{by simp,fun g h=>by simpa using h}
  ·rw[if_neg hk];show{?_,fun g h =>?_}
   ·rw[J2];show Jh _ i1
   ·rw[J2] at h ⊢
    rcases Jq.mp h with e|e
    ·show Jq.mpr (.inl e)
    ·show Jh _ (i2 g e)
def o9 (f:Str)(v:V):∀fs,(kC f v fs).length<=fs.length+1
 | []=>by simp[kC]
 | (k,x)::r=>by
  have ih:=o9 f v r;rw[show kC f v ((k,x)::r)=(if k=f then (k,v)::r else (k,x)::kC f v r) from rfl]
  by_cases hk:k=f
  ·rw[if_pos hk,Jo,Jo];lia
  ·rw[if_neg hk,Jo,Jo];lia
def jD.vo (r:jD (some v) o):∃u,o=some u/\RelV v u:=by
 cases o with
 | none=>show(show False from r).elim
 | some u=>show⟨u,rfl,r⟩
def jD.none_of (r:jD none o):o=none:=by
 cases o with
 | none=>rfl
 | some u=>show(show False from r).elim
def B9 (r:RelV v u):PySem.W.handedIn u=true:=by
 cases v with
 | non=>cases (show u=Qcn from r);rfl
 | bl b=>cases (show u=Qbw b from r);rfl
 | int i=>obtain⟨t,e⟩:=(show ∃t,u=QdP i t from r);cases e;rfl
 | str x=>obtain⟨t,e⟩:=(show ∃t,u=QcI x t from r);cases e;rfl
 | byt b=>obtain⟨t,e⟩:=(show ∃t,u=Value.bytes b t from r);cases e;rfl
 | flt b=>obtain⟨t,e⟩:=(show ∃t,u=Qgd b t from r);cases e;rfl
 | ref a=>cases (show u=Qaj a from r);rfl
 | ty n=>cases (show u=Qa2 n from r);rfl
section
variable {P:Qac}{w:Qag}{H H':Hp}{h h':Heap}{a C dx:KE}{fs fs':List (Str×V)}
def qb (bw:j0 P w H h)(e:H a=some (.ins C dx fs)):∃mA,yU h a dx C mA/\(∀f,jD (fs.lookup f) (mA f))/\QfW mA (fs.map (·.1))/\fs.length<=1000/\H dx=some (.own a):=by
 obtain⟨d,z,ne,ob,mA,n,r,q⟩:=(show bB P w H h a (.ins C dx fs) from bw a _ e)
 show{mA,⟨ob,n,ne⟩,r,q,z,d}
end
structure Bl (K:Ja)(C:KE):Prop where
 pg:Qc2 K C Qau=true
 hd:Qd8 K C=true
 po:Qgt K C=true
 sa:Yt K (.ref C) "__setattr__" = some (some (.builtin "object.__setattr__"))
def Bl.get {K:Ja}{C:KE}(c:Bl K C)(f:Str):Qc2 K C f=true:=c.pg
def dg (K:Ja)(C:KE)(f:Str):Prop:=Yt K (.ref C) f=some none
def dg.PD {K:Ja}{C:KE}{f:Str}(n:dg K C f):Qew K C f=some none:=by
 unfold Qew;rw[show Yt K (.ref C) f=some none from n]
 rfl
structure DU (K:Ja)(C:KE)(m:Str)(f:KE):Prop where
 at_:Yt K (.ref C) m=some (some (.ref f))
 fn:QfA K (.ref f)=true
 kp:Yj K (.ref f)=true
section
variable {X:Cx}{pins:List (KE×Obj)}{σ:St}{H:Hp}{s:Gc}{a C dx:KE}{fs:List (Str×V)}{f:Str}{v:V}{A:QaB}{E:Fk->Gc->Prop}
def Ao {Q:Fk->Gc->Prop}(I:Inv X pins σ H s)(e:H a=some (.ins C dx fs))(c:Bl X.K C)(n:dg X.K C f)(l:fs.lookup f=some v)
  (h:∀u s',Inv X pins σ H s'->RelV v u->Q u s'):Qab (Qaa X.prog X.w) A (getAttr (.ref a) f b) Q E s:=by
 obtain⟨mA,O,r,_,_,_⟩:=qb I.bw e;obtain⟨u,hu,ru⟩:=jD.vo (by rw[<-l];show r f);show get_map I.jr O (c.get f) c.hd n hu (B9 ru) (h u _ (I.tok _) ru)
def zX {Q:Fk×List Fk->Gc->Prop}(I:Inv X pins σ H s)(e:H a=some (.ins C dx fs))(c:Bl X.K C)(k:DU X.K C m g)(l:fs.lookup m=none)
  (h:Q (.ref g,[.ref a]) s):Qab (Qaa X.prog X.w) A (getMethod (.ref a) m pl) Q E s:=by
 obtain⟨mA,O,r,_,_,_⟩:=qb I.bw e;show Gz I.jr O (c.get m) k.at_ k.fn (jD.none_of (by rw[<-l];show r m)) h
def Au (I:Inv X pins σ H s)(e:H a=some (.ins C dx fs))(c:Bl X.K C)(n:dg X.K C f)(hl:fs.length<1000)(ry:RelV y u)
  (h:∀s',Inv X pins σ (upd H a (.ins C dx (kC f y fs))) s'->Q () s'):Qab (Qaa X.prog X.w) A (setAttr (.ref a) f u) Q E s:=by
 obtain⟨mA,O,r,wi,_,ho⟩:=qb I.bw e;show KN I.jr O c.sa c.po n.PD c.hd wi (by rw[Jc,Qdn];lia) fun h' O' sb=>h _ (I.write (by rw[e];show QaR) (.inr ho) (fun b q hb z=>(sb.2 b hb).trans z) (let {o,_,_,e',_}:=O'.ns; ⟨o,e'⟩) {by rw[av O.ne];show ho,?_,O.ne,O'.obj,_,O'.ns,fun g =>?_,fun g hg =>?_})
 ·have:=o9 f y fs;lia
 ·change jD ((kC f y fs).lookup g) (if g=f then some u else mA g);rw[pd]
  by_cases q:g=f
  ·rw[if_pos q,if_pos q];show ry
  ·rw[if_neg q,if_neg q];show r g
 ·by_cases q:g=f
  ·rw[q];show(oW f y fs).1
  ·show(oW f y fs).2 g (wi g fun z=>hg ?_);change(if g=f then some u else mA g)=none;rw[if_neg q];show z
def Inv.made (I:Inv X pins σ H s):Inv X pins σ (upd (upd H s.heap.objs.size (.own (s.heap.objs.size+1))) (s.heap.objs.size+1) (.ins C s.heap.objs.size []))
  { s with heap:=(s.heap.push Y4).push (Y5 C s.heap.objs.size) }:=by
 have e1:(s.heap.push Y4).get? s.heap.objs.size=some Y4:=Ji s.heap rfl;have e2:((s.heap.push Y4).push (Y5 C s.heap.objs.size)).get? (s.heap.objs.size+1)=some (Y5 C s.heap.objs.size):=by
  have:=Ji (s.heap.push Y4) (o:=Y5 C s.heap.objs.size) rfl;rwa[Uh] at this
 show(I.laid (o := .own (s.heap.objs.size+1)) (t':=s.toks) (fun b u q=>Jb _ q) (Je _) {_,e1}).laid (fun b u q=>Jb _ q) (QdD (Uh _ _)) ?_;have ne:s.heap.objs.size≠s.heap.objs.size+1:=Jp (Yz _);show{by rw[av ne,ax],Ue _,ne,e2,fun _=>none,(Qgq {Y4,#[],_,e1,rfl,(fun e he=>absurd he (by simp)),fun _=>rfl}).at fun o q=>Jb _ q,fun _=>QaR,fun y hy=>absurd rfl hy}
def BW {env:Env}{e:QaF}{f:Str}{pos:Pos}{s:Gc}{Q:Fk->Gc->Prop}(hb:Qbr e f env (QaP e env)=QaP e env)
  (h:Qab (Qaa prog w) A (QaP e env) (fun o s₁=>Qab (Qaa prog w) A (getAttr o f true) Q E s₁) E s):Qab (Qaa prog w) A (QaP (.Attribute e f pos) env) Q E s:=
 Attribute_any_ h (by rw[arm_eval_Attribute,hb])
end
def QI (K:Ja)(ta:TE)(f:Str):TE:=fun σ H Q=>ta σ H fun x H1=>uN fun a C dx fs v=>x = .ref a/\H1 a=some (.ins C dx fs)/\Bl K C/\dg K C f/\fs.lookup f=some v/\Q v H1
def Rf (K:Ja)(ta tv:TE)(f:Str):TS:=fun D σ H=>tv σ H fun y H1=>ta σ H1 fun x H2=>nP fun a C dx fs=>x = .ref a/\H2 a=some (.ins C dx fs)/\Bl K C/\dg K C f/\fs.length<1000 /\
 D.nx σ (upd H2 a (.ins C dx (kC f y fs)))
section
variable {X:Cx}{o e value:QaF}{f:Str}{pos pos' TU:Pos}{ta tv:TE}
def MY (he:PE X e ta)(hb:Qbr e f X.env (QaP e X.env)=QaP e X.env):PE X (.Attribute e f pos) (QI X.K ta f):=by
 show fun pins s σ H Q I h=>BW hb (bg (he s σ H _ I h) fun u s1 hz_=>ak.el hz_ _ ?_);rintro x H1 I1 rx ⟨a,C,dx,fs,v,ex,ea,c,n,l,q⟩;subst ex;obtain rfl:u=Qaj a:=rx;show Ao I1 ea c n l fun u' s2 I2 ru=>⟨v,H1,I2,ru,q⟩
def iR (ha:PE X o ta)(hv:PE X value tv)(hs:QdH value (some (.Attribute o f pos')) pos.line X.env=pure false):PS X (.Assign [.Attribute o f pos'] value pos) (Rf X.K ta tv f):=by
 show fun pins s σ H D I h=>Qfg (bg (hv s σ H _ I h) fun u s1 ⟨y,H1,I1,ry,q⟩=>bg (ha s1 σ H1 _ I1 q) fun ov s2 ⟨x,H2,I2,rx,a,C,dx,fs,ex,ea,c,n,l,q2⟩=>?_) hs;subst ex;obtain rfl:ov=Qaj a:=rx;show Au I2 ea c n l ry fun s3 I3=>{σ,_,I3,q2}
end
section
variable {X:Cx}{pins:List (KE×Obj)}{σ:St}{H:Hp}{s:Gc}{A:QaB}{E:Fk->Gc->Prop}{Q:Fk->Gc->Prop}{c:Fk}{b:Bool}
inductive mW (K:Ja)(H:Hp):V->Fk->Prop where
 | non:mW K H .non (.type "NoneType")
 | bl (x:Bool):mW K H (.bl x) (.type "bool")
 | int (i:Int):mW K H (.int i) (.type "int")
 | str (x:Str):mW K H (.str x) (.type "str")
 | flt (x:UInt64):mW K H (.flt x) (.type "float")
 | lst {a:KE} {xs:List V} (e:H a=some (.lst xs)):mW K H (.ref a) (.type "list")
 | frz {a:KE} {o:Obj} {xs:List V} (e:H a=some (.frz o (.lst xs))):mW K H (.ref a) (.type "list")
 | tup {a:KE} {xs:List V} (e:H a=some (.tup xs)):mW K H (.ref a) (.type "tuple")
 | dK {a:KE} {kvs:List (Key×V)} (e:H a=some (.dK kvs)):mW K H (.ref a) (.type "dict")
 | dT {a:KE} {kvs:List (List Key×V)} (e:H a=some (.dT kvs)):mW K H (.ref a) (.type "dict")
 | ins {a C dx:KE} {fs:List (Str×V)} (e:H a=some (.ins C dx fs)) (cl:Bl K C) (ha:Yt K (.ref C) "__class__" = some (some (.builtin "object.__class__")))
   (hn:PySem.W.specialIn K (.builtin "object.__class__") "__get__" = some (some (.builtin "getset_descriptor.__get__"))) (yk:PySem.W.takesIn K (.builtin "object.__class__")=some true)
   (hm:PySem.W.mroIn K C (.type "object")=some true):mW K H (.ref a) (.ref C)
def Ca (I:Inv X pins σ H s)(rx:RelV x u)(ty:mW X.K H x t)(e:Ui X.K t c=some b)(h:∀tk,Q (.bool b) { s with toks:=tk }):
  Qab (Qaa X.prog X.w) A (call (.builtin "isinstance") [u,c]) Q E s:=by
 cases ty with
 | non=>cases (show u=Qcn from rx);show U7 Qgu I.jr QaR e (nofun) h
 | bl y=>cases (show u=Qbw y from rx);show U7 Qgw I.jr QaR e (nofun) h
 | int i=>obtain⟨t,q⟩:=(show ∃t,u=QdP i t from rx);cases q;show U7 PySem.W.kitx_int I.jr QaR e (nofun) h
 | str y=>obtain⟨t,q⟩:=(show ∃t,u=QcI y t from rx);cases q;show U7 PySem.W.kitx_str I.jr QaR e (nofun) h
 | flt y=>obtain⟨t,q⟩:=(show ∃t,u=Qgd y t from rx);cases q;show U7 PySem.W.kitx_float I.jr QaR e (nofun) h
 | @lst a xs ea=>
  cases (show u=Qaj a from rx);obtain⟨_,_,n,_,h1⟩:=(show bB X.prog X.w H s.heap a (.lst xs) from I.bw a _ ea)
  show U7 Qd7 I.jr {_,h1,rfl} e (nofun) h
 | @frz a ob xs ea=>
  cases (show u=Qaj a from rx);obtain⟨_,_,_,n,_,h1⟩:=(show bB X.prog X.w H s.heap a (.frz ob (.lst xs)) from I.bw a _ ea)
  show U7 Qd7 I.jr {_,h1,rfl} e (nofun) h
 | @tup a xs ea=>
  cases (show u=Qaj a from rx);obtain⟨_,_,_,p⟩:=(show bB X.prog X.w H s.heap a (.tup xs) from I.bw a _ ea)
  obtain⟨o,h1,_,h2,_⟩:=p;show U7 Qgg I.jr ⟨o,h1,h2⟩ e (nofun) h
 | @dK a kvs ea=>
  cases (show u=Qaj a from rx);obtain⟨_,_,vs,_,p⟩:=(show bB X.prog X.w H s.heap a (.dK kvs) from I.bw a _ ea)
  obtain⟨o,es,ep,h1,h2,_⟩:=p;show U7 Qgv I.jr ⟨o,h1,h2.1⟩ e (nofun) h
 | @dT a kvs ea=>
  cases (show u=Qaj a from rx);obtain⟨_,_,xs,_,o,es,ep,h1,h2,_⟩:=(show bB X.prog X.w H s.heap a (.dT kvs) from I.bw a _ ea)
  show U7 Qgv I.jr ⟨o,h1,h2.1⟩ e (nofun) h
 | @ins a C dx fs ea cl ha hn yk hm=>
  cases (show u=Qaj a from rx);obtain⟨mA,O,_⟩:=qb I.bw ea;obtain⟨od,J,_⟩:=O.look;show U7 (PySem.W.kitx_own (cl.get _) cl.hd ha hn yk hm) I.jr J e (nofun) h
end
structure dw (k:Nat)(A:QaB):Prop where
 hd:A.handled=none
 dp:A.depth+3*k+5<recursionLimit
 un:A.units+16*k+200<QcY
 gd:A.guards=some []
def dw.mono {j k:Nat}{A:QaB}(r:dw k A)(h:j<=k):dw j A:=⟨r.hd,by have:=r.dp;lia,by have:=r.un;lia,r.gd⟩
def dw.deeper (r:dw (k+1) A)(env:Env):dw k (A.deeper env):=
 ⟨r.hd,by have:=r.dp;change A.depth+1+3*k+5<_;lia,by have:=r.un;change A.units+3+16*k+200<_;lia,r.gd⟩
def An {A:QaB}{C:KE}{us:List Fk}{kw:List (Str×Fk)}:(A.under (.builtin "type.__call__" ⟨.ref C::us,kw⟩)).depth=A.depth+1:=rfl
def Al {A:QaB}{C:KE}{us:List Fk}{kw:List (Str×Fk)}:(A.under (.builtin "type.__call__" ⟨.ref C::us,kw⟩)).units=A.units+1:=rfl
def wO {A:QaB}{C:KE}{us:List Fk}{kw:List (Str×Fk)}:(A.under (.builtin "type.__call__" ⟨.ref C::us,kw⟩)).guards=A.guards:=rfl
def dw.make (r:dw (k+1) A)(C:KE)(us:List Fk)(kw:List (Str×Fk)):dw k (A.under (.builtin "type.__call__" ⟨.ref C::us,kw⟩)):=
 ⟨r.hd,by have:=r.dp;rw[An];lia,by have:=r.un;rw[Al];lia,by rw[wO];show r.gd⟩
def dw.depth (r:dw k A):A.depth<recursionLimit:=by have:=r.dp;lia
def dw.units (r:dw k A):A.units+64<QcY:=by have:=r.un;lia
def Cv:TA:=fun _ H Q=>Q [] H
def Bm (ta:TE)(tr:TA):TA:=fun σ H Q=>ta σ H fun x H1=>tr σ H1 fun xs H2=>Q (x::xs) H2
section
variable {X:Cx}{e:QaF}{es:List QaF}{te:TE}{t:TA}{pos:Pos}
def ae:PA X [] Cv:=fun _ _ _ _ H Q I h=>QbM ⟨[],H,I,.nil,h⟩
def aa (ha:PE X e te)(hr:PA X es t)(hs:Qaf (e::es) X.env=(false,QaP e X.env)::Qaf es X.env:=by rfl):PA X (e::es) (Bm te t):=by
 intro pos pins s σ H Q I h;rw[hs];show Qbo (bg (ha s σ H _ I h) fun u s1 hz_=>ak.el hz_ _ ?_);rintro x H1 I1 r1 q1;show bg (hr s1 σ H1 _ I1 q1) fun us s2 hz_=>ak.el hz_ _ fun xs H2 I2 r2 q2=>{x::xs,H2,I2,.cons r1 r2,q2}
def QR (t:TA):TE:=fun σ H Q=>t σ H fun xs H1=>xs.length<=W1/\∀p,H1 p=none->Q (.ref p) (upd H1 p (.tup xs))
def Q6 (t:TA):TE:=fun σ H Q=>t σ H fun xs H1=>xs.length<=W1/\∀p,H1 p=none->Q (.ref p) (upd H1 p (.lst xs))
def FH (h:PA X es t):PE X (.Tuple es x1 pos) (QR t):=by
 show fun pins s σ H Q I hq=>wpAny_Tuple_spliced (bg (h s σ H _ I hq) fun us s1 ⟨xs,H1,I1,r,z,q⟩=>{by rw[<-r.length];show z,{.ref s1.heap.objs.size,upd H1 s1.heap.objs.size (.tup xs),I1.laid (fun b u e=>Jb _ e) (Je _) ?_,rfl,q _ (I1.bw.fresh (Je _))}});show{z,us,r,{_,Ji _ rfl,rfl,rfl,_,rfl}}
def Nl (h:PA X es t):PE X (.List es pos) (Q6 t):=by
 show fun pins s σ H Q I hq=>wpAny_List_spliced (bg (h s σ H _ I hq) fun us s1 ⟨xs,H1,I1,r,z,q⟩=>{by rw[<-r.length];show z,{.ref s1.heap.objs.size,upd H1 s1.heap.objs.size (.lst xs),I1.laid (fun b u e=>Jb _ e) (Je _) ?_,rfl,q _ (I1.bw.fresh (Je _))}});show{z,us,0,r,Ji _ rfl}
end
abbrev Sp:=List V->Hp->VK->XK->Prop
abbrev Fl:=List Env->Hp->Gc->XK->Fk->Gc->Prop
structure C0 (P:Qac)(w:Qag)(K:Ja)(mg:Str->Option Fk)(base:Heap)(A:QaB)(outer:List Env)(s:Gc)(H:Hp):Prop where
 frames:A.frames=some outer
 mod:Mod K mg base
 bs:∀b o,base.get? b=some o->s.heap.get? b=some o/\H b=none
 bsz:base.objs.size<=s.heap.objs.size
 lC:s.heap.FunFrames base outer
 frf:∀b∈l9 outer,H b=none
 bw:j0 P w H s.heap
 bare:Qdt s.gens
def CE (outer:List Env)(P:Qac)(w:Qag)(H:Hp)(s:Gc)(Q:VK)(u:Fk)(s':Gc):Prop:=
 fX fun v H'=>s'.os=s.os/\Qdt s'.gens/\Un (l9 outer) [] H H' s.heap s'.heap/\j0 P w H' s'.heap/\RelV v u/\Q v H'
def CR (CX:Fl)(outer:List Env)(P:Qac)(w:Qag)(H:Hp)(s:Gc)(Q:VK)(E:XK)(r:Qb6)(s':Gc):Prop:=
 match r with
 | .ok (.ret u)=>CE outer P w H s Q u s'
 | .ok _=>False
 | .error e=>CX outer H s E e s'
structure aU (P:Qac)(w:Qag)(K:Ja)(mg:Str->Option Fk)(base:Heap)(CX:Fl)(k:Nat)(f:KE)(fd:Qal)(ps:List Str)(sp:Sp):Prop where
 len:∀vs H Q E,sp vs H Q E->vs.length=ps.length
 run:∀(A:QaB) (outer:List Env) (s:Gc) (H:Hp) (args:Args) (us:List Fk) (vs:List V) (Q:VK) (E:XK),dw k A->C0 P w K mg base A outer s H->Qf6 s fd args (ps.zip us)->Vals vs us->sp vs H Q E ->
  QaY (Qaa P w) A (.call (.ref f) args) (CR CX outer P w H s Q E) s
def aU.mono {K:Ja}{mg:Str->Option Fk}{base:Heap}{CX:Fl}{j k:Nat}{f:KE}{fd:Qal}{ps:List Str}{sp:Sp}(F:aU P w K mg base CX j f fd ps sp)(h:j<=k):
  aU P w K mg base CX k f fd ps sp:=⟨F.len,fun A outer s H args us vs Q E hr=>F.run A outer s H args us vs Q E (hr.mono h)⟩
def aU.imp {K:Ja}{mg:Str->Option Fk}{base:Heap}{CX:Fl}{k:Nat}{f:KE}{fd:Qal}{ps:List Str}{sp sp':Sp}(F:aU P w K mg base CX k f fd ps sp)
  (h:∀vs H Q E,sp' vs H Q E->sp vs H Q E):aU P w K mg base CX k f fd ps sp':=
 ⟨fun vs H Q E q=>F.len vs H Q E (h _ _ _ _ q),fun A outer s H args us vs Q E hr he hb hv hs=>F.run A outer s H args us vs Q E hr he hb hv (h _ _ _ _ hs)⟩
def C0.make {K:Ja}{mg:Str->Option Fk}{base:Heap}{A:QaB}{outer:List Env}{s:Gc}{H:Hp}(e:C0 P w K mg base A outer s H)(C:KE)(us:List Fk)(kw:List (Str×Fk)):
  C0 P w K mg base (A.under (.builtin "type.__call__" ⟨.ref C::us,kw⟩)) outer s H:=⟨by first|show e.frames|(simpa [Around.under,Code.envs,Code.isFrame,pushEnvs] using e.frames),e.mod,e.bs,e.bsz,e.lC,e.frf,e.bw,e.bare⟩
section
variable {X:Cx}{pins:List (KE×Obj)}{σ:St}{H:Hp}{s s':Gc}
def Inv.KM (I:Inv X pins σ H s):C0 X.prog X.w X.K X.mg X.base X.A X.stack s H:=
 ⟨I.ok.frames,I.ok.mod,I.bs,Jf I.ok.bsz I.sz,I.stack,I.vU,I.bw,I.bare⟩
def Inv.after (I:Inv X pins σ H s)(h:CE X.stack X.prog X.w H s Q u s'):EP X pins σ Q u s':=by
 obtain⟨v,H',os,bare,un,bw,r,q⟩:=h;obtain⟨hh,g,d,t,os'⟩:=s';obtain rfl:os'=s.os:=os;show{v,H',I.call un bw bare (fun b z=>absurd z (by simp)),r,q}
end
def wC (sp:Sp)(uQ:List V)(E:XK)(t:TA):TE:=fun σ H Q=>t σ H fun vs H1=>sp (vs++uQ) H1 Q E
def RV (C:KE)(m:Str)(sp:Sp)(uQ:List V)(E:XK)(ta:TE)(t:TA):TE:=fun σ H Q=>ta σ H fun x H1=>pW fun a dx fs=>x = .ref a/\H1 a=some (.ins C dx fs)/\fs.lookup m=none /\
 t σ H1 fun vs H2=>sp (x::(vs++uQ)) H2 Q E
def P7 (C:KE)(sp:Sp)(uQ:List V)(E:XK)(t:TA):TE:=fun σ H Q=>t σ H fun vs H1=>∀x dx,H1 x=none->H1 dx=none->dx≠x ->
 sp (.ref x::(vs++uQ)) (upd (upd H1 dx (.own x)) x (.ins C dx [])) (fun v H2=>v = .non/\Q (.ref x) H2) E
def Binds (K:Ja)(fd:Qal)(ps:List Str)(ds:List Fk):Prop:=
 ∀s us,K.In s.heap->(us++ds).length=ps.length->Qf6 s fd ⟨us,[]⟩ (ps.zip (us++ds))
def Binds.all {K:Ja}{fd:Qal}{ps:List Str}(h:∀us,us.length=ps.length->Qgb fd ⟨us,[]⟩=pure (ps.zip us)):Binds K fd ps []:=fun s us _ hl=>by
 rw[Us] at hl ⊢;show .of_eq (h us hl)
def Passes (CX:Fl)(X:Cx)(E:XK):Prop:=∀pins (σ:St) (H:Hp) (s:Gc) (e:Fk) (s':Gc),Inv X pins σ H s->CX X.stack H s E e s'->X.xe e s'
section
variable {X:Cx}{CX:Fl}{k:Nat}{f C:KE}{fd:Qal}{ps:List Str}{sp:Sp}{uQ:List V}{ds:List Fk}{E:XK}{x m:Str}{p pos apos:Pos}{e o:QaF}{es:List QaF}{ta:TE}{t:TA}
def zr {σ:St}{H:Hp}{s:Gc}{Q:VK}{us:List Fk}{vs:List V}(F:aU X.prog X.w X.K X.mg X.base CX k f fd ps sp)(hr:dw k X.A)(hb:Binds X.K fd ps ds)(hd:Vals uQ ds)(hx:Passes CX X E)
  (I:Inv X pins σ H s) (r:Vals vs us) (h:sp (vs++uQ) H Q E):Qab (Qaa X.prog X.w) X.A (call (.ref f) us) (EP X pins σ Q) X.xe s:=by
 have r2:=r.append hd;show QcB (Qcw (F.run X.A X.stack s H {us,[]} (us++ds) (vs++uQ) Q E hr I.KM (hb s us I.jr (by rw[<-r2.length];show F.len _ _ _ _ h)) r2 h) fun r s' hq =>?_);cases r with
 | error e=>show hx pins σ H s e s' I hq
 | ok fl=>
  cases fl with
  | ret u=>show I.after hq
  | next=>show QaV hq
  | brk=>show QaV hq
  | cont=>show QaV hq
def Ie (F:aU X.prog X.w X.K X.mg X.base CX k f fd ps sp)(hr:dw k X.A)(hg:Gl X x)(hm:X.mg x=some (.ref f))(hk:Yj X.K (.ref f)=true)(hb:Binds X.K fd ps ds)(hd:Vals uQ ds)(hx:Passes CX X E)
  (ha:PA X (e::es) t) (sD:(x==("__debug__" : Str))=false:=by decide) (he:Qaf (e::es) X.env=(false,QaP e X.env)::Qaf es X.env:=by rfl) (oP:(QbT pos (Qaf es X.env)).any (·.1)=false:=by rfl) :
  PE X (.Call (.Name x p) (e::es) [] pos) (wC sp uQ E t):=
 fun pins s σ H Q I h=>QaQ (jw I hg hm (Qb0 I.ok.mod.yH hk (bg (ha s σ H _ I h) fun us s1 hz_=>ak.el hz_ _ fun vs H1 I1 r q=>⟨I1.jr,(zr F hr hb hd hx I1 r q)⟩) he oP) sD)
def Hd (F:aU X.prog X.w X.K X.mg X.base CX k f fd ps sp)(hr:dw k X.A)(hg:Gl X x)(hm:X.mg x=some (.ref f))(hk:Yj X.K (.ref f)=true)(hb:Binds X.K fd ps ds)(hd:Vals uQ ds)(hx:Passes CX X E)
  (sD:(x==("__debug__" : Str))=false:=by decide):PE X (.Call (.Name x p) [] [] pos) (wC sp uQ E Cv):=
 fun pins s σ H Q I h=>QaQ (jw I hg hm (PySem.W.callWith_K0 I.jr hk (zr F hr hb hd hx I .nil h)) sD)
def v7 {pl:Sem Bool}(he:PE X o ta)(c:Bl X.K C)(hm:DU X.K C m f)(F:aU X.prog X.w X.K X.mg X.base CX k f fd ps sp)(hr:dw k X.A)(hb:Binds X.K fd ps ds)(hd:Vals uQ ds)(hx:Passes CX X E)(ha:PA X (e::es) t)
  (lR:Qaf (e::es) X.env=(false,QaP e X.env)::Qaf es X.env:=by rfl) (oP:(QbT pos (Qaf es X.env)).any (·.1)=false:=by rfl)
  (ht:QaP (.Call (.Attribute o m apos) (e::es) [] pos) X.env=(do
   let ov <-QaP o X.env
   standAt apos.atName
   let (f,first) <-holding [ov] (getMethod ov m pl)
   callWith pos f first (QbT pos (Qaf (e::es) X.env)) (backToKw pos (QfL [] X.env))):=by rfl) :
  PE X (.Call (.Attribute o m apos) (e::es) [] pos) (RV C m sp uQ E ta t):=by
 show fun pins s σ H Q I h=>PySem.W.methodCall_KW (bg (he s σ H _ I h) fun u s1 ⟨x,H1,I1,rx,a,dx,fs,ex,ea,l,q⟩=>?_) ht;subst ex;obtain rfl:u=Qaj a:=rx;show zX I1 ea c hm l (Qb0 I.ok.mod.yH hm.kp (bg (ha s1 σ H1 _ I1 q) fun us s2 hz_=>ak.el hz_ _ fun vs H2 I2 r q2=>{I2.jr,(zr (vs := .ref a::vs) F hr hb hd hx I2 (.cons rfl r) q2)}) lR oP)
structure Mk (K:Ja)(C f:KE):Prop where
 makes:Qdg K C=true
 init:Yt K (.ref C) "__init__" = some (some (.ref f))
 fn:QfA K (.ref f)=true
 kp:Yj K (.ref C)=true
def Ff {σ:St}{H:Hp}{s:Gc}{Q:VK}{us:List Fk}{vs:List V}(M:Mk X.K C f)(F:aU X.prog X.w X.K X.mg X.base CX k f fd ps sp)(hr:dw (k+1) X.A)(hb:Binds X.K fd ps ds)(hd:Vals uQ ds)
  (hx:Passes CX X E) (I:Inv X pins σ H s) (r:Vals vs us)
  (h:∀x dx,H x=none->H dx=none->dx≠x->sp (.ref x::(vs++uQ)) (upd (upd H dx (.own x)) x (.ins C dx [])) (fun v H2=>v = .non/\Q (.ref x) H2) E) :
  Qab (Qaa X.prog X.w) X.A (call (.ref C) us) (EP X pins σ Q) X.xe s:=by
 have hq:=h (s.heap.objs.size+1) s.heap.objs.size (I.bw.fresh (Yw _)) (I.bw.fresh (Je _)) (Jp (Yz _));have I2:=Inv.made (C:=C) I;have r2:Vals (V.ref (s.heap.objs.size+1)::(vs++uQ)) (Qaj (s.heap.objs.size+1)::(us++ds)) := .cons rfl (r.append hd);have hl:(Qaj (s.heap.objs.size+1)::us++ds).length=ps.length:=by
  have e:=r2.length;rw[F.len _ _ _ _ hq] at e;show e.symm
 show QcB (GG I.jr M.makes M.init (beq_iff_eq.mp M.fn) (Qcw (F.run _ X.stack _ _ {Qaj (s.heap.objs.size+1)::us,[]} (Qaj (s.heap.objs.size+1)::(us++ds)) _ _ E (hr.make C us [])
  (I2.KM.make C us []) (hb _ (Qaj (s.heap.objs.size+1)::us) I2.jr hl) r2 hq) fun r s' hq' =>?_))
 cases r with
 | error e=>show hx pins σ _ _ e s' I2 hq'
 | ok fl=>
  cases fl with
  | ret u=>
   obtain⟨v,H',I3,rv,ev,q3⟩:=I2.after hq';subst ev;show{rv,{V.ref (s.heap.objs.size+1),H',I3,rfl,q3}}
  | next=>show QaV hq'
  | brk=>show QaV hq'
  | cont=>show QaV hq'
def B4 (M:Mk X.K C f)(F:aU X.prog X.w X.K X.mg X.base CX k f fd ps sp)(hr:dw (k+1) X.A)(hg:Gl X x)(hm:X.mg x=some (.ref C))(hb:Binds X.K fd ps ds)(hd:Vals uQ ds)(hx:Passes CX X E)
  (ha:PA X (e::es) t) (sD:(x==("__debug__" : Str))=false:=by decide) (he:Qaf (e::es) X.env=(false,QaP e X.env)::Qaf es X.env:=by rfl) (oP:(QbT pos (Qaf es X.env)).any (·.1)=false:=by rfl) :
  PE X (.Call (.Name x p) (e::es) [] pos) (P7 C sp uQ E t):=
 fun pins s σ H Q I h=>QaQ (jw I hg hm (Qb0 I.ok.mod.yH M.kp (bg (ha s σ H _ I h) fun us s1 hz_=>ak.el hz_ _ fun vs H1 I1 r q=>⟨I1.jr,(Ff M F hr hb hd hx I1 r q)⟩) he oP) sD)
end
structure aD (N P:List Str)(sc:QbU):Prop where
 kind:sc.kind = .function
 co:sc.isCoroutine=false
 gen:sc.isGenerator=false
 nd:N.Nodup
 pre:N.take P.length=P
 par:∀x∈P,sc.names.lookup x=some .local\/sc.names.lookup x=some .cell
 nofree:∀y∈sc.names,y.2 ≠ .free
def uq {kindOf:Str->Option Qcx}{x:Str}:∀{binds:List (Str×Fk)} {m:Str->Option Fk},(∀v,(x,v)∉binds)->bindL kindOf binds m x=m x
 | [],_,_=>rfl
 | (n,v)::r,m,h=>by
  unfold bindL;rw[uq fun w hw=>h w (Jh _ hw)]
  split
  ·have:x≠n:=by rintro rfl;show h v Jj
   simp[this]
  ·rfl
def uD {kindOf:Str->Option Qcx}{x:Str}:∀{binds:List (Str×Fk)} {m:Str->Option Fk},(∀v,(x,v)∉binds)->bindC kindOf binds m x=m x
 | [],_,_=>rfl
 | (n,v)::r,m,h=>by
  unfold bindC;rw[uD fun w hw=>h w (Jh _ hw)]
  split
  ·rfl
  ·have:x≠n:=by rintro rfl;show h v Jj
   simp[this]
def uO {kindOf:Str->Option Qcx}{x:Str}{v:Fk}:∀{P:List Str} {vs:List Fk} {i:Nat} {m:Str->Option Fk},P.Nodup->P[i]? = some x->vs[i]? = some v->kindOf x=some .local ->
  bindL kindOf (P.zip vs) m x=some v
 | [],_,_,_,_,h,_,_=>by simp at h
 | _::_,[],_,_,_,_,h,_=>by simp at h
 | p::P,w::vs,0,m,nd,h1,h2,hk=>by
  simp at h1 h2;subst h1;subst h2;change bindL kindOf ((p,w)::P.zip vs) m p=_;unfold bindL;rw[uq fun v hv=>(U8.mp nd).1 (Qb3 hv).1,if_pos hk];simp
 | p::P,w::vs,i+1,m,nd,h1,h2,hk=>by
  change bindL kindOf ((p,w)::P.zip vs) m x=_;show uO (U8.mp nd).2 (by simpa using h1) (by simpa using h2) hk
def ug {kindOf:Str->Option Qcx}{x:Str}{v:Fk}:∀{P:List Str} {vs:List Fk} {i:Nat} {m:Str->Option Fk},P.Nodup->P[i]? = some x->vs[i]? = some v->kindOf x≠some .local ->
  bindC kindOf (P.zip vs) m x=some v
 | [],_,_,_,_,h,_,_=>by simp at h
 | _::_,[],_,_,_,_,h,_=>by simp at h
 | p::P,w::vs,0,m,nd,h1,h2,hk=>by
  simp at h1 h2;subst h1;subst h2;change bindC kindOf ((p,w)::P.zip vs) m p=_;unfold bindC;rw[uD fun v hv=>(U8.mp nd).1 (Qb3 hv).1,if_neg hk];simp
 | p::P,w::vs,i+1,m,nd,h1,h2,hk=>by
  change bindC kindOf ((p,w)::P.zip vs) m x=_;show ug (U8.mp nd).2 (by simpa using h1) (by simpa using h2) hk
def start (N:List Str)(vs:List V):St:=vs.map some++Jm (N.length-vs.length) none
def oJ (CX:Fl)(P:Qac)(w:Qag)(K:Ja)(mg:Str->Option Fk)(base:Heap)(N:List Str)(qual:Str)(scope:QbU)(f:KE)(cd:Fk)(A:QaB)(outer:List Env)(s:Gc)(H:Hp)(E:XK):Cx where
 prog:=P
 w:=w
 K:=K
 mg:=mg
 base:=base
 A:=A.deeper (Qb5 qual scope s.heap.objs.size f cd)
 N:=N
 s₀:=s
 H₀:=H
 env:=Qb5 qual scope s.heap.objs.size f cd
 outer:=outer
 stack:=Qb5 qual scope s.heap.objs.size f cd::outer
 ex:=[]
 calm:=true
 fn:=fun _=>true
 pn:=[]
 xe:=fun e s'=>Qab (Qaa P w) (A.deeper (Qb5 qual scope s.heap.objs.size f cd)) (leaving (Qb5 qual scope s.heap.objs.size f cd) e) (fun _ s''=>CX outer H s E e s'') (fun e' s''=>CX outer H s E e' s'') s'
def yb {sc:QbU}{n:Nat}{x:Str}(h:sc.names.lookup x=some .cell):∃c,(cellsFrom n sc.names []).lookup x=some c:=
 Option.isSome_iff_exists.mp (QfB sc.names n [] (.inl h))
def Du {P:Qac}{w:Qag}{K:Ja}{mg:Str->Option Fk}{base:Heap}{N ps:List Str}{qual:Str}{scope:QbU}{f:KE}{cd:Fk}{A:QaB}{outer:List Env}{s s1:Gc}{H:Hp}{E:XK}{us:List Fk}{vs:List V}
  (S:aD N ps scope) (hd:A.handled=none) (e0:C0 P w K mg base A outer s H) (hl:vs.length=ps.length) (r:Vals vs us)
  (x:InCallC s s.heap.objs.size (bindL (Qb5 qual scope s.heap.objs.size f cd).kindOf (ps.zip us) fun _=>none) (cellsFrom (s.heap.objs.size+1) scope.names []) (bindC (Qb5 qual scope s.heap.objs.size f cd).kindOf (ps.zip us) fun _=>none) s1) :
  Inv (oJ CX P w K mg base N qual scope f cd A outer s H E) [] (start N vs) H s1:=by
 have oP:ps.length<=N.length:=by have:=congrArg Qc4 S.pre;rw[J3] at this;lia
 obtain⟨h1,tk,rfl,hk⟩:=x.done;have RC:∀b,b∉(oJ CX P w K mg base N qual scope f cd A outer s H E).ex:=fun b z=>absurd (show b∈([]:List KE) from z) (by simp);show⟨{e0.mod,S.kind,rfl,rfl,Je _,fun y z c h1 h2 =>?_,fun y hy =>?_,fun y c _ h =>?_,fun _=>hd,Around.frames_deeper e0.frames,.inr ⟨rfl,rfl⟩,fun b z=>absurd z (RC b),e0.bs,e0.bsz,fun b _ _=>RC b,fun b z=>absurd z (RC b),e0.lC,e0.frf},
  rfl,e0.bare,Un.kept hk,⟨_,x.toInCall.ns,fun i y v h1 h2 h3 =>?_⟩,fun y c h=>⟨_,x.cell y c h⟩,e0.bw.fresh (Je _),fun y c h =>?_,fun p hp=>absurd (show p∈([]:List (KE×Obj)) from hp) (by simp),e0.bw.kept hk,?_⟩
 ·show name_of_addr x.apart (QbA h1) (QbA h2)
 ·have hy:=hy
  rcases hy with hy|hy
  ·show yb hy
  ·show absurd rfl (S.nofree _ (QbA hy))
 ·show Yd (x.above y c (QbA h))
 ·have hi:i<vs.length:=by
   unfold start at h2
   by_cases hi:i<vs.length
   ·show hi
   ·rw[Uw (by simpa using hi)] at h2;rw[Yr] at h2
    split at h2<;>cases h2
  have ha:vs[i]? = some v:=by
   unfold start at h2;rw[Uy (by simpa using hi),Jk] at h2;cases e:vs[i]? with
   | none=>rw[e] at h2;cases h2
   | some a=>rw[e] at h2;cases h2;rfl
  obtain⟨u,hu,rv⟩:=r.get ha;have hp:ps[i]? = some y:=by
   rw[<-S.pre,QfT ⋯];show h1
  have Wx:ps.Nodup:=by rw[<-S.pre];show S.nd.sublist (List.take_sublist _ _)
  show{u,rv,?_}
  rcases S.par y (J0 hp) with k|k
  ·show .inl {k,uO Wx hp hu k}
  ·obtain⟨c,e⟩:=yb k;show .inr {.inl k,c,e,?_};have q:=x.cell y c e;rw[ug Wx hp hu (by change scope.names.lookup y≠_;rw[k];decide)] at q;show q
 ·show e0.bw.fresh (Yd (x.above y c (QbA h)))
 ·unfold start;change _=N.length;rw[Jn,Jc,Ud];lia
def Lf {K:Ja}{mg:Str->Option Fk}{base:Heap}{k:Nat}{f:KE}{name qual:Str}{params:Arguments}{body:List QcU}{scope:QbU}{dV kV doc pm gF ct oc:Fk}{an od:Option KE}
  {xP:Array (Option Fk)} {N ps:List Str} {sp:Sp} (lk:K.lookup f=some ⟨oc,od,.func (We name qual params body scope dV kV doc pm an gF ct),xP⟩) (Ah:Qdz K gF qual=true) (S:aD N ps scope)
  (len:∀vs H Q E,sp vs H Q E->vs.length=ps.length)
  (sy:∀A outer s H vs Q E,dw k (A.deeper (Qb5 qual scope s.heap.objs.size f gF))->sp vs H Q E ->
   ∃t,yj (oJ CX P w K mg base N qual scope f gF A outer s H E) body t/\t { nx:=fun _ H'=>Q .non H',rt:=Q } (start N vs) H) :
  aU P w K mg base CX (k+1) f (We name qual params body scope dV kV doc pm an gF ct) ps sp:=by
 show{len,fun A outer s H args us vs Q E hr e0 hb r wR =>?_};have KX:=e0.mod.yH.keeps fun b o e=>(e0.bs b o e).1;have Qh:∀y∈ps.zip us,scope.names.lookup y.1=some .local\/(scope.names.lookup y.1=some .cell/\((cellsFrom (s.heap.objs.size+1) scope.names []).lookup y.1).isSome=true):=fun⟨n,v⟩ hy=>by
  rcases S.par n (Qb3 hy).1 with q|q
  ·show .inl q
  ·show .inr {q,QfB _ _ _ (.inl q)}
 show codeAny_call_function hr.depth (KX _ _ lk) rfl S.co S.gen rfl (PySem.W.codeRec_of KX Ah) (hb _ _ _ _ (wpAny_newFunctionEnv_cells S.kind Qh fun env he s1 x =>?_));subst he;show{(e0.mod.nolimit.keeps fun b o e=>(e0.bs b o e).1).keeps x.toInCall.keep,codeAny_func ?_};obtain⟨t,ht,hq⟩:=sy A outer s H vs Q E (hr.deeper _) wR;show Qbc (ht s1 (start N vs) H _ (Du S hr.hd e0 (len _ _ _ _ wR) r x) hq) (fun fl s' hs =>?_) fun e s' hs=>hs;have fin:∀{σ':St} {H':Hp} {v:V} {u:Fk},Inv (oJ CX P w K mg base N qual scope f gF A outer s H E) [] σ' H' s'->RelV v u->Q v H'->CE outer P w H s Q u s':=
  fun{σ' H' v u} J rv q=>⟨v,H',J.os,J.bare,J.base,J.bw,rv,q⟩
 cases fl with
 | ret u=>
  obtain⟨v,σ',H',J,rv,q⟩:=hs;show fin J rv q
 | next=>
  obtain⟨σ',H',J,q⟩:=hs;show fin (v:=V.non) J rfl q
 | brk=>
  obtain⟨_,_,_,q⟩:=hs;show QaV q
 | cont=>
  obtain⟨_,_,_,q⟩:=hs;show QaV q
section
variable {X:Cx}{x:Str}{p pos:Pos}{e:QaF}{es:List QaF}{t:TA}{id T:String}{r:List V->Hp->VK->Prop}
def Q3 (r:List V->Hp->VK->Prop)(t:TA):TE:=fun σ H Q=>t σ H fun vs H1=>r vs H1 Q
def aj (hc:bE X (.builtin id) r)(hg:Gl X x)(hm:X.mg x=none)(hv:QaT x=some (.builtin id))(ha:PA X (e::es) t)(hn:x ≠ "__name__":=by decide)(sD:(x==("__debug__" : Str))=false:=by decide)
  (he:Qaf (e::es) X.env=(false,QaP e X.env)::Qaf es X.env:=by rfl) (oP:(QbT pos (Qaf es X.env)).any (·.1)=false:=by rfl):PE X (.Call (.Name x p) (e::es) [] pos) (Q3 r t):=
 fun pins s σ H Q I h=>QaQ (fE I hg hm hv (PyProof.Rows.callWith_builtin1 (bg (ha s σ H _ I h) fun us s1 hz_=>ak.el hz_ _ fun vs H1 I1 r1 q1=>hc s1 σ H1 vs us Q I1 r1 q1) he oP) hn sD)
def aQ (hc:bE X (.type T) r)(hg:Gl X x)(hm:X.mg x=none)(hv:QaT x=some (.type T))(ha:PA X (e::es) t)(hn:x ≠ "__name__":=by decide)(sD:(x==("__debug__" : Str))=false:=by decide)
  (he:Qaf (e::es) X.env=(false,QaP e X.env)::Qaf es X.env:=by rfl) (oP:(QbT pos (Qaf es X.env)).any (·.1)=false:=by rfl):PE X (.Call (.Name x p) (e::es) [] pos) (Q3 r t):=
 fun pins s σ H Q I h=>QaQ (fE I hg hm hv (Qao (bg (ha s σ H _ I h) fun us s1 hz_=>ak.el hz_ _ fun vs H1 I1 r1 q1=>hc s1 σ H1 vs us Q I1 r1 q1) he oP) hn sD)
end
section
variable {κ:Type}[DecidableEq κ]
def gH (kvs:List (κ×V))(k: κ):Option V:=(kvs.find? fun kv=>decide (kv.1=k)).map (·.2)
def putK (kvs:List (κ×V))(k: κ)(v:V):List (κ×V):=
 if (kvs.any fun kv=>decide (kv.1=k))=true then kvs.map (fun kv=>if kv.1=k then (kv.1,v) else kv) else kvs++[(k,v)]
def fe {k: κ}(e:p.1=k):gH (p::r) k=some p.2:=by simp[gH,e]
def eG {k: κ}(e:¬p.1=k):gH (p::r) k=gH r k:=by simp[gH,e]
def nE (k: κ):∀kvs,(kvs.any fun kv=>decide (kv.1=k))=(gH kvs k).isSome
 | []=>rfl
 | p::r=>by
  rw[Y8]
  by_cases e:p.1=k
  ·simp only[fe e,decide_eq_true e,Bool.true_or,Qgz]
  ·rw[eG e,decide_eq_false e,Bool.false_or];show nE k r
def uS (k j: κ)(y:V):∀kvs,gH kvs k=none->gH (kvs++[(k,y)]) j=if j=k then some y else gH kvs j
 | [],_=>by
  by_cases e:k=j
  ·rw[if_pos e.symm];show fe e
  ·rw[if_neg (fun z=>e z.symm)];show eG e
 | p::r,hn=>by
  rw[Qdj];have hk:¬p.1=k:=fun z=>by rw[fe z] at hn;cases hn
  rw[eG hk] at hn
  by_cases e:p.1=j
  ·rw[fe e,fe e,if_neg (fun z=>hk (e.trans z))]
  ·rw[eG e,eG e,(uS k j y r hn)]
def iB (kvs:List (κ×V))(k: κ)(v:V):(putK kvs k v).length<=kvs.length+1:=by
 unfold putK
 split
 ·rw[Jc];lia
 ·rw[Jn,Jo,Yo];lia
def yF {k: κ}(v:V)(h:gH kvs k=none):putK kvs k v=kvs++[(k,v)]:=by
 unfold putK;rw[nE,h];show if_neg ∅
def jD.oy (r:jD o u):o.isSome=u.isSome:=by
 cases o with
 | none=>cases u with
  | none=>rfl
  | some _=>show(show False from r).elim
 | some _=>cases u with
  | none=>show(show False from r).elim
  | some _=>rfl
def jD.getD (r:jD o u)(rd:RelV d d'):RelV (o.getD d) (u.getD d'):=by
 cases o with
 | none=>cases u with
  | none=>show rd
  | some _=>show(show False from r).elim
 | some _=>cases u with
  | none=>show(show False from r).elim
  | some _=>show r
def KV.val (r:KV kvs vs)(k: κ):jD (gH kvs k) (QfY vs k):=by
 induction r with
 | nil=>show QaR
 | @cons p q ps qs h t ih=>
  obtain⟨h1,h2⟩:=h
  by_cases e:p.1=k
  ·have e':=h1.symm.trans e;have b:QfY (q::qs) k=some q.2:=by simp[QfY,e']
   rw[fe e,b];show h2
  ·have e':¬q.1=k:=fun z=>e (h1.trans z);have b:QfY (q::qs) k=QfY qs k:=by simp[QfY,e']
   rw[eG e,b];show ih
def KV.any (r:KV kvs vs)(k: κ):(kvs.any fun kv=>decide (kv.1=k))=vs.any fun kv=>decide (kv.1=k):=by
 induction r with
 | nil=>rfl
 | cons h t ih=>rw[Y8,Y8,ih,h.1]
def KV.Nq (r:KV kvs vs)(k: κ){y:V}{u:Fk}(ry:RelV y u):
  KV (kvs.map fun kv=>if kv.1=k then (kv.1,y) else kv) (vs.map fun kv=>if kv.1=k then (kv.1,u) else kv):=by
 induction r with
 | nil=>show .nil
 | @cons p q ps qs h t ih=>
  rw[J2,J2];show .cons ?_ ih;obtain⟨h1,h2⟩:=h
  by_cases e:p.1=k
  ·rw[if_pos e,if_pos (h1.symm.trans e)];show⟨h1,ry⟩
  ·rw[if_neg e,if_neg (fun z=>e (h1.trans z))];show⟨h1,h2⟩
def KV.put (r:KV kvs vs)(k: κ){y:V}{u:Fk}(ry:RelV y u):KV (putK kvs k y) (QeN vs k u):=by
 unfold putK QeN;rw[r.any k]
 by_cases e:(vs.any fun kv=>decide (kv.1=k))=true
 ·rw[if_pos e,if_pos e];show r.Nq k ry
 ·rw[if_neg e,if_neg e];show Paired.snoc r ⟨rfl,ry⟩
def KV.length {vs:List (κ×Fk)}(r:KV kvs vs):kvs.length=vs.length:=Qfn r
end
def nJ {k:Key}{u:Fk}(r:RelV (kV k) u):(bD P w).is k u=true:=by
 cases k with
 | inl i=>obtain⟨t,e⟩:=(show ∃t,u=QdP i t from r);subst e;show wu P w i t
 | inr x=>obtain⟨t,e⟩:=(show ∃t,u=QcI x t from r);subst e;show wq P w x t
def tY:∀{ks:List Key} {us:List Fk},Vals (ks.map kV) us->ItemsAre (bD P w) ks us
 | [],_,r=>by rw[Qds] at r;cases r;show .nil
 | k::ks,_,r=>by
  cases r with
  | cons h t=>show .cons (nJ h) (tY t)
abbrev KT (H:Hp):List (List Key×V)->List (List Key×KE×Fk)->Prop:=Qgi fun p q=>p.1=q.1/\H q.2.1=some (.tup (p.1.map kV))/\RelV p.2 q.2.2
def KT.val (r:KT H kvs xs)(k:List Key):jD (gH kvs k) ((atKey xs k).map (·.2)):=by
 induction r with
 | nil=>show QaR
 | @cons p q ps qs h t ih=>
  obtain⟨h1,_,h2⟩:=h
  by_cases e:p.1=k
  ·have e':=h1.symm.trans e;have b:atKey (q::qs) k=some q.2:=by simp[atKey,e']
   rw[fe e,b];show h2
  ·have e':¬q.1=k:=fun z=>e (h1.trans z);have b:atKey (q::qs) k=atKey qs k:=by simp[atKey,e']
   rw[eG e,b];show ih
def KT.Nq (r:KT H kvs xs)(k:List Key){y:V}{u:Fk}(ry:RelV y u):
  KT H (kvs.map fun kv=>if kv.1=k then (kv.1,y) else kv) (xs.map (putAt k u)):=by
 induction r with
 | nil=>show .nil
 | @cons p q ps qs h t ih=>
  rw[J2,J2];show .cons ?_ ih;obtain⟨h1,h2,h3⟩:=h;unfold putAt
  by_cases e:p.1=k
  ·rw[if_pos e,if_pos (h1.symm.trans e)];show⟨h1,h2,ry⟩
  ·rw[if_neg e,if_neg (fun z=>e (h1.trans z))];show⟨h1,h2,h3⟩
def KT.put (r:KT H kvs xs)(k:List Key){b:KE}{y:V}{u:Fk}(hb:H b=some (.tup (k.map kV)))(ry:RelV y u):
  KT H (putK kvs k y) (storedH xs k b u):=by
 have e:(kvs.any fun kv=>decide (kv.1=k))=(atKey xs k).isSome:=by
  rw[nE,(r.val k).oy,Option.isSome_map]
 unfold putK storedH;rw[e]
 by_cases q:(atKey xs k).isSome=true
 ·rw[if_pos q,if_pos q];show r.Nq k ry
 ·rw[if_neg q,if_neg q];show Paired.snoc r ⟨rfl,hb,ry⟩
def KT.keeps {kvs:List (List Key×V)}{xs:List (List Key×KE×Fk)}(r:KT H kvs xs)(ht:∀b ys,H b=some (.tup ys)->H' b=some (.tup ys)):KT H' kvs xs:=
 Paired.Qq r fun _ _ z=>⟨z.1,ht _ _ z.2.1,z.2.2⟩
section
variable {P:Qac}{w:Qag}{H:Hp}{h:Heap}{a:KE}
def LI (ok:j0 P w H h)(e:Rd H a u):bB P w H h a u:=e.ok ok
def um (ok:j0 P w H h)(e:Rd H a (.dK kvs)):kvs.length<=W1/\(a==QbC)=false/\∃vs,KV kvs vs/\h.DictOf (bD P w) a vs:=
 show bB P w H h a (.dK kvs) from LI ok e
def BK (ok:j0 P w H h)(e:H a=some (.dK kvs)):kvs.length<=W1/\(a==QbC)=false/\∃vs,KV kvs vs/\h.DictOf (bD P w) a vs:=um ok (.inl e)
def qG (ok:j0 P w H h)(e:H a=some (.tup (ks.map kV))):(Qen (bD P w)).is h ks a:=by
 obtain⟨_,aF,r,o,h1,_,h2,n,h3⟩:=(show bB P w H h a (.tup (ks.map kV)) from ok a _ e)
 show{o,aF.toArray,n,h1,h2,h3,by simpa using tY r}
def ua (ok:j0 P w H h)(e:Rd H a (.dT kvs)):kvs.length<=W1/\(a==QbC)=false /\
  ∃xs,KT H kvs xs/\h.DictOfH (Qen (bD P w)) a xs:=by
 obtain⟨z,y,xs,r,o,es,ep,h1,h2,h3,h4,h5⟩:=(show bB P w H h a (.dT kvs) from LI ok e)
 show{z,y,xs,r,o,es,ep,h1,h2,h3,h4,fun x hx =>?_,h5};have all:∀{l:List (List Key×V)} {m:List (List Key×KE×Fk)},KT H l m->∀x∈m,(Qen (bD P w)).is h x.1 x.2.1:=by
  intro l m q
  induction q with
  | nil=>intro x hx;show nomatch hx
  | @cons p q ps qs hq t ih=>
   intro x hx
   rcases Jq.mp hx with e|hx
   ·subst e;show qG ok (by rw[<-hq.1];show hq.2.1)
   ·show ih x hx
 show all r x hx
def Ry (ok:j0 P w H h)(e:H a=some (.dT kvs)):kvs.length<=W1/\(a==QbC)=false /\
  ∃xs,KT H kvs xs/\h.DictOfH (Qen (bD P w)) a xs:=ua ok (.inl e)
end
def fz (H:Hp)(a:KE)(y:V)(r:Option V):Prop:=
 (fX fun kvs k=>Rd H a (.dK kvs)/\y=kV k/\r=gH kvs k)\/pW fun kvs k b=>Rd H a (.dT kvs)/\y = .ref b/\H b=some (.tup (k.map kV))/\r=gH kvs k
def sY (H:Hp)(a:KE)(y v:V)(H':Hp):Prop:=
 (fX fun kvs k=>H a=some (.dK kvs)/\y=kV k/\kvs.length<W1/\H'=upd H a (.dK (putK kvs k v))) \/
 pW fun kvs k b=>H a=some (.dT kvs)/\y = .ref b/\H b=some (.tup (k.map kV))/\kvs.length<W1/\H'=upd H a (.dT (putK kvs k v))
def fz.k {k:Key}(e:H a=some (.dK kvs)):fz H a (kV k) (gH kvs k) := .inl ⟨kvs,k,.inl e,rfl,rfl⟩
def sY.k {k:Key}{v:V}(e:H a=some (.dK kvs))(hl:kvs.length<W1):sY H a (kV k) v (upd H a (.dK (putK kvs k v))) := .inl ⟨kvs,k,e,rfl,hl,rfl⟩
section
variable {X:Cx}{pins:List (KE×Obj)}{σ:St}{H:Hp}{s:Gc}{a:KE}{y v:V}{u r:Fk}{o:Option V}{A:QaB}{E:Fk->Gc->Prop}
def Inv.big (I:Inv X pins σ H s):QbC<s.heap.objs.size:=
 Wf ∅ ((I.mod.glob.keeps I.bk).lt)
def Dg (hu:A.units+1<QcY)(I:Inv X pins σ H s)(g:fz H a y (some v))(ry:RelV y u)(h:∀w' s',Inv X pins σ H s'->RelV v w'->Q w' s'):
  Qab (Qaa X.prog X.w) A (Qeo (.ref a) u) Q E s:=by
 rcases g with ⟨kvs,k,e,ey,l⟩|⟨kvs,k,b,e,ey,eb,l⟩
 ·subst ey;obtain⟨z,hd,vs,rel,dd⟩:=um I.bw e;obtain⟨w',hw,rw'⟩:=jD.vo (by rw[l];show rel.val k);show wpAny_getItem_of (nJ ry) dd.mapOf hw (h w' _ (I.tok _) rw')
 ·subst ey;cases (show u=Qaj b from ry);obtain⟨z,hd,xs,rel,dd⟩:=ua I.bw e;obtain⟨w',hw,rw'⟩:=jD.vo (by rw[l];show rel.val k);obtain⟨p,hp,zW⟩:=Option.map_eq_some_iff.mp hw;show wpAny_getItem_heap (Qc9 hu) (qG I.bw eb) dd hp ?_;rw[zW];show h w' _ (I.tok _) rw'
def VG (hu:A.units+1<QcY)(I:Inv X pins σ H s)(g:fz H a y o)(ry:RelV y u)(h:∀s',Inv X pins σ H s'->Q (.bool o.isSome) s'):
  Qab (Qaa X.prog X.w) A (QaC .In u (.ref a)) Q E s:=by
 rcases g with ⟨kvs,k,e,ey,l⟩|⟨kvs,k,b,e,ey,eb,l⟩
 ·subst ey;obtain⟨z,hd,vs,rel,dd⟩:=um I.bw e;show wpAny_in_of (nJ ry) hd dd.mapOf ?_;rw[<-(rel.val k).oy,<-l];show h _ (I.tok _)
 ·subst ey;cases (show u=Qaj b from ry);obtain⟨z,hd,xs,rel,dd⟩:=ua I.bw e;show wpAny_in_heap (Qc9 hu) (qG I.bw eb) hd dd ?_;have q:=(rel.val k).oy;rw[Option.isSome_map] at q;rw[<-q,<-l];show h _ (I.tok _)
def nD {ob:HO}(I:Inv X pins σ H s)(mu:RT (H a))(hs:U6 a s.heap h')(he:∃q,h'.get? a=some q)(new:bB X.prog X.w (upd H a ob) h' a ob):
  Inv X pins σ (upd H a ob) { s with heap:=h',toks:=t' }:=
 I.write mu (.inl rfl) (fun b q hb z=>(hs.2 b hb).trans z) he new
def zP {kvs:List (Key×V)}{vs:List (Key×Fk)}(z:kvs.length<=W1)(hd:(a==QbC)=false)(rel:KV kvs vs)(dd:h'.DictOf (bD P w) a vs):
  bB P w H' h' a (.dK kvs):=⟨z,hd,vs,rel,dd⟩
def DJ (hu:A.units+1<QcY)(I:Inv X pins σ H s)(g:sY H a y v H')(ry:RelV y u)(rv:RelV v r)(h:∀s',Inv X pins σ H' s'->Q () s'):
  Qab (Qaa X.prog X.w) A (setItem (.ref a) u r) Q E s:=by
 rcases g with ⟨kvs,k,e,ey,l,eH⟩|⟨kvs,k,b,e,ey,eb,l,eH⟩
 ·subst ey eH;obtain⟨z,hd,vs,rel,dd⟩:=BK I.bw e;have hz:vs.length<=W1:=by rw[<-rel.length];show z
  have hl:(putK kvs k v).length<=W1:=by have:=iB kvs k v;lia
  show wpAny_setItem_pairs (nJ ry) dd fun h' Em hs=>h _ (nD I (by rw[e];show QaR) hs (let {q,_,_,hq,_}:=Em; ⟨q,hq⟩) (zP hl hd (rel.put k rv) Em))
 ·subst ey eH;cases (show u=Qaj b from ry);obtain⟨z,hd,xs,rel,dd⟩:=Ry I.bw e;have hz:xs.length<=W1:=by rw[<-Qfn rel];show z
  have hl:(putK kvs k v).length<=W1:=by have:=iB kvs k v;lia
  show wpAny_setItem_heap (Qc9 hu) (qG I.bw eb) dd fun h' Em hs=>h _ ?_;obtain⟨q,es,ep,hq,h2,h3,h4,_,h5⟩:=Em;show nD I (by rw[e];show QaR) hs ⟨q,hq⟩ {hl,hd,_,(rel.put k eb rv).keeps fun c ys ec =>?_,q,es,ep,hq,h2,h3,h4,h5};rw[av (rq ec e (nofun))];show ec
end
def ND (i:QaF):Prop:=∀ov iv,QfK i false ov iv=operate [ov,iv] (Qeo ov iv)
def AZ {env:Env}{value slice:QaF}{pos:Pos}{T id:String}{Q:Fk->Gc->Prop}
  (hl:Qbu (.type T) "__getitem__" = pure (some (.builtin id))) (hs:ND slice)
  (h:Qab (Qaa prog w) A (QaP value env) (fun o s₁=>Qab (Qaa prog w) A (QaP slice env) (fun i s₂=>s₂.TypeIs o T/\Qab (Qaa prog w) A (Qeo o i) Q E s₂) E s₁) E s) :
  Qab (Qaa prog w) A (QaP (.Subscript value slice pos) env) Q E s:=by
 show Subscript_ (Qbc h (fun o s₁ h₁=>Qbc h₁ (fun i s₂ h₂ =>?_) fun _ _ x=>x) fun _ _ x=>x);obtain⟨hT,h₂⟩:=h₂;show be (be (QcQ hT hl ?_));have fin:Qab (Qaa prog w) A (QfK slice false o i) (fun r s₃=>Qab (Qaa prog w) A (letTemporaryGo value o r >>= fun _=>pure r) Q E s₃) E s₂:=by
  rw[hs o i];show wpAny_operating (Qbc h₂ (fun r s₃ h₃=>be (wpAny_letTemporaryGo (tz h₃))) fun _ _ x=>x)
 first
  | show tz (be fin)
  | show be (tz (be fin))
  | show be fin
def xD {σ:St}{H:Hp}{s:Gc}{a:KE}{y:V}{o:Option V}(I:Inv X pins σ H s)(g:fz H a y o):s.TypeIs (.ref a) "dict":=by
 rcases g with ⟨kvs,k,e,_,_⟩|⟨kvs,k,b,e,_,_,_⟩
 ·obtain⟨_,_,vs,_,dd⟩:=um I.bw e;show dd.typeIs
 ·obtain⟨_,_,xs,_,dd⟩:=ua I.bw e;show dd.typeIs
def Ll (td ty:TE):TE:=fun σ H Q=>td σ H fun x H1=>ty σ H1 fun y H2=>fX fun a v=>x = .ref a/\fz H2 a y (some v)/\Q v H2
def UK (ty td:TE):TE:=fun σ H Q=>ty σ H fun y H1=>td σ H1 fun x H2=>fX fun a o=>x = .ref a/\fz H2 a y o/\Q (.bl o.isSome) H2
def RW (td ty tv:TE):TS:=fun D σ H=>tv σ H fun v H1=>td σ H1 fun x H2=>ty σ H2 fun y H3=>fX fun a H4=>x = .ref a/\sY H3 a y v H4/\D.nx σ H4
section
variable {X:Cx}{o i e value:QaF}{pos pos' TU:Pos}{td ty tv:TE}
def bS (hu:X.A.units+1<QcY)(ho:PE X o td)(hi:PE X i ty)(hs:ND i):PE X (.Subscript o i pos) (Ll td ty):=by
 show fun pins s σ H Q I h=>AZ PySem.F.slot_dict_getitem.lookup hs (bg (ho s σ H _ I h) fun u s1 hz_=>ak.el hz_ _ fun x H1 I1 rx q1=>bg (hi s1 σ H1 _ I1 q1) fun iv s2 hz_=>ak.el hz_ _ ?_);rintro y H2 I2 ry ⟨a,v,ex,g,q2⟩;subst ex;obtain rfl:u=Qaj a:=rx;show{xD I2 g,Dg hu I2 g ry fun w' s3 I3 rw'=>⟨v,H2,I3,rw',q2⟩}
def OH (hu:X.A.units+1<QcY)(hi:PE X i ty)(ho:PE X o td):PC X .In i o (UK ty td):=by
 show fun pins s σ H Q I h=>bg (hi s σ H _ I h) fun iv s1 hz_=>ak.el hz_ _ fun y H1 I1 ry q1=>bg (ho s1 σ H1 _ I1 q1) fun u s2 hz_=>ak.el hz_ _ ?_;rintro x H2 I2 rx ⟨a,ov,ex,g,q2⟩;subst ex;obtain rfl:u=Qaj a:=rx;show VG hu I2 g ry fun s3 I3=>{.bl ov.isSome,H2,I3,rfl,q2}
def vD (hu:X.A.units+1<QcY)(ho:PE X o td)(hi:PE X i ty)(hv:PE X value tv)(hs:QdH value (some (.Subscript o i pos')) pos.line X.env=pure false):
  PS X (.Assign [.Subscript o i pos'] value pos) (RW td ty tv):=by
 show fun pins s σ H D I h=>wpAny_Assign_Subscript (bg (hv s σ H _ I h) fun r s1 ⟨v,H1,I1,rv,q1⟩=>bg (ho s1 σ H1 _ I1 q1) fun u s2 ⟨x,H2,I2,rx,q2⟩=>bg (hi s2 σ H2 _ I2 q2) fun iv s3 ⟨y,H3,I3,ry,a,H4,ex,g,q3⟩=>?_) hs;subst ex;obtain rfl:u=Qaj a:=rx;show DJ hu I3 g ry rv fun s4 I4=>⟨σ,H4,I4,q3⟩
end
def xg (h:Heap)(hb:QbC<h.objs.size):bB P w H (h.push { cls := .type "dict",data := .dict #[] }) h.objs.size (.dK []):=
 ⟨Ue _,beq_eq_false_iff_ne.mpr (QaD (Jp hb)),[],.nil,Qc1 h⟩
def sE:List (TE×TE)->St->Hp->(List (V×V)->Hp->Prop)->Prop
 | [],_,H,Q=>Q [] H
 | (tk,tv)::r,σ,H,Q=>tk σ H fun x H1=>tv σ H1 fun y H2=>sE r σ H2 fun ps H3=>Q ((x,y)::ps) H3
abbrev VV:List (V×V)->List (Fk×Fk)->Prop:=Qgi fun p q=>RelV p.1 q.1/\RelV p.2 q.2
def Pf (X:Cx)(pos:Pos)(keys:List (Option QaF))(values:List QaF)(yV:List (TE×TE)):Prop:=
 ∀ ⦃pins:List (KE×Obj)⦄ (s:Gc) (σ:St) (H:Hp) (Q:List (V×V)->Hp->Prop),Inv X pins σ H s->sE yV σ H Q ->
  Qab (Qaa X.prog X.w) X.A (evalPairs (pairTrees keys values X.env pos)) (fun vs s'=>fX fun ps H'=>Inv X pins σ H' s'/\VV ps vs/\Q ps H') X.xe s
def A0:Pf X pos [] [] []:=fun pins s σ H Q I h=>pairTrees_nil_walk ⟨[],H,I,.nil,h⟩
def iu {k v:QaF}{ks:List (Option QaF)}{vs:List QaF}{tk tv:TE}{yV:List (TE×TE)}(hk:PE X k tk)(hv:PE X v tv)(hr:Pf X pos ks vs yV):
  Pf X pos (some k::ks) (v::vs) ((tk,tv)::yV):=fun pins s σ H Q I h=>
 pairTrees_cons_walk (bg (hk s σ H _ I h) fun u s1 hz_=>ak.el hz_ _ fun x H1 I1 rx q1=>bg (hv s1 σ H1 _ I1 q1) fun w2 s2 ⟨y,H2,I2,ry,q2⟩=>
  bg (hr s2 σ H2 _ I2 q2) fun ws s3 hz_=>ak.el hz_ _ fun ps H3 I3 rel q3=>⟨(x,y)::ps,H3,I3,.cons ⟨rx,ry⟩ rel,q3⟩)
def cN (kvs more:List (Key×V)):List (Key×V):=more.foldl (fun acc kv=>putK acc kv.1 kv.2) kvs
def KV.merge:∀{more:List (Key×V)} {rs:List (Key×Fk)} {kvs:List (Key×V)} {vs:List (Key×Fk)},KV more rs->KV kvs vs->KV (cN kvs more) (Qda vs rs):=by
 intro more rs kvs vs r
 induction r generalizing kvs vs with
 | nil=>intro q;show q
 | @cons p q ps qs h t ih=>
  intro r0;have e:KV (putK kvs p.1 p.2) (QeN vs q.1 q.2):=by
   have:=r0.put p.1 h.2;rw[<-h.1];show this
  show ih e
def eI:∀more kvs,(cN kvs more).length<=kvs.length+more.length
 | [],kvs=>by change kvs.length<=kvs.length+0;lia
 | p::r,kvs=>by
  have h1:=eI r (putK kvs p.1 p.2);have h2:=iB kvs p.1 p.2;change(cN (putK kvs p.1 p.2) r).length<=_;rw[Jo];lia
def qw:∀{kvs:List (Key×V)} {ws:List (Fk×Fk)},VV (kvs.map fun kv=>(kV kv.1,kv.2)) ws->∃rs,Carries (bD P w) ws rs/\KV kvs rs
 | [],_,r=>by rw[Qds] at r;cases r;show⟨[],QaR,.nil⟩
 | p::kvs,_,r=>by
  cases r with
  | @cons a b as bs h t=>
   obtain⟨rs,c,q⟩:=qw t;obtain⟨b1,b2⟩:=b;show{(p.1,b2)::rs,{nJ h.1,rfl,c},.cons ⟨rfl,h.2⟩ q}
def Hw (yV:List (TE×TE)):TE:=fun σ H Q=>∀p,H p=none->sE yV σ (upd H p (.dK [])) fun ps H2=>H2 p=some (.dK [])/\∃kvs,ps=kvs.map (fun kv=>(kV kv.1,kv.2))/\kvs.length<=15/\Q (.ref p) (upd H2 p (.dK (cN [] kvs)))
def Iu (h:Pf X pos keys values yV)(kR:keys.all (·.isSome)=true)(hl:keys.length=values.length)(h0:keys≠[])
  (Pt:keys.length<=15):PE X (.Dict keys values pos) (Hw yV):=by
 show fun pins s σ H Q I q=>wpAny_Dict_walk (knd:=bD X.prog X.w) kR hl h0 Pt (bg (h _ σ _ _ (I.laid (t':=s.toks) (fun _ _ q=>Jb _ q) (Je _) (xg s.heap I.big)) (q _ (I.bw.fresh (Je s.heap.objs.size)))) fun ws s2 hz_=>ak.el hz_ _ fun ps H2 I2 rel e kvs ep lk q2 =>?_);subst ep;obtain⟨rs,c,rk⟩:=qw rel;obtain⟨z,hd,vs0,r0,dd⟩:=BK I2.bw e;cases r0;show{rs,c,dd,fun h' Em hs=>{.ref s.heap.objs.size,_,?_,rfl,q2}};have hz:(cN [] kvs).length<=W1:=by
  have h1:=eI kvs [];rw[Yo] at h1;rw[Qdn];lia
 show nD I2 (by rw[e];show QaR) hs (let {q,_,_,hq,_}:=Em; ⟨q,hq⟩) (zP hz hd (rk.merge .nil) Em)
structure M2 (X:Cx)(o:QaF)(m:Str)(apos:Pos)(e f:QaF)(dR:Pos):Prop where
 base:Qbr o m X.env (QaP o X.env)=QaP o X.env
 xv:((QbT dR (Qaf [e,f] X.env)).all (fun x => !x.1)&&(backToKw dR (QfL [] X.env)).all (fun x=>x.1.isSome)
  && decide (([e,f]:List QaF).length+([]:List Qf5).length+(if ([]:List Qf5).isEmpty then 0 else 1)<30))=true
 line:(apos.endLine==dR.line)=true
 trees:QbT dR (Qaf [e,f] X.env)=[(false,QaP e X.env),(false,QaP f X.env)]
def WQ (H:Hp)(a:KE):Prop:=(∃kvs,Rd H a (.dK kvs))\/∃kvs,Rd H a (.dT kvs)
def L5 {σ:St}{H:Hp}{s:Gc}{a:KE}(I:Inv X pins σ H s)(d:WQ H a):
  s.TypeIs (.ref a) "dict" /\ (∀b,Qaj a = .ref b->∃ob,s.heap.get? b=some ob/\ob.dict=none)/\(a==QbC)=false:=by
 rcases d with ⟨kvs,e⟩|⟨kvs,e⟩
 ·obtain⟨_,hd,vs,_,dd⟩:=um I.bw e;show{dd.typeIs,fun b q =>?_,hd};cases q;obtain⟨ob,_,_,h1,h2,_⟩:=dd;show⟨ob,h1,h2.2.1⟩
 ·obtain⟨_,hd,xs,_,dd⟩:=ua I.bw e;show{dd.typeIs,fun b q =>?_,hd};cases q;obtain⟨ob,_,_,h1,h2,_⟩:=dd;show⟨ob,h1,h2.2.1⟩
section
variable {X:Cx}{pins:List (KE×Obj)}{σ:St}{H:Hp}{s:Gc}{a:KE}{y d:V}{u r:Fk}{o:Option V}{A:QaB}{E:Fk->Gc->Prop}
def NB (hu:A.units+1<QcY)(I:Inv X pins σ H s)(g:fz H a y o)(ry:RelV y u)(rd:RelV d r)(h:∀w' s',Inv X pins σ H s'->RelV (o.getD d) w'->Q w' s'):
  Qab (Qaa X.prog X.w) A (call (.builtin "dict.get") [.ref a,u,r]) Q E s:=by
 rcases g with ⟨kvs,k,e,ey,l⟩|⟨kvs,k,b,e,ey,eb,l⟩
 ·subst ey;obtain⟨z,hd,vs,rel,dd⟩:=um I.bw e;show call_meetsIn Qdk dd.typeIs QfC (Qfm _ _ _) (meets_dict_get_default (bD X.prog X.w) a (nJ ry) hd r) {_,dd.mapOf,h _ _ (I.tok _) ?_};rw[l];show(rel.val k).getD rd
 ·subst ey;cases (show u=Qaj b from ry);obtain⟨z,hd,xs,rel,dd⟩:=ua I.bw e;show call_meetsIn Qdk dd.typeIs QfC (Qfm _ _ _) (meetsH_dict_get_default (Qen (bD X.prog X.w)) a b hd r) {Qc9 hu,k,xs,qG I.bw eb,dd,h _ _ (I.tok _) ?_};rw[l];show(rel.val k).getD rd
end
def M4 (td ty tx:TE):TE:=fun σ H Q=>td σ H fun x H1=>∃a,x = .ref a/\WQ H1 a/\ty σ H1 fun y H2=>tx σ H2 fun z H3=>∃o,fz H3 a y o/\Q (o.getD z) H3
section
variable {X:Cx}{o e f:QaF}{apos dR:Pos}{td ty tx:TE}
def Hi (hu:X.A.units+1<QcY)(ho:PE X o td)(he:PE X e ty)(hf:PE X f tx)(m:M2 X o "get" apos e f dR):PE X (.Call (.Attribute o "get" apos) [e,f] [] dR) (M4 td ty tx):=by
 show fun pins s σ H Q I h=>wpAny_Call_method m.base m.xv m.line Qfl Qdk PySem.F.type_dict_get (bg (ho s σ H _ I h) fun u s1 hz_=>ak.el hz_ _ ?_);rintro x H1 I1 rx ⟨a,ex,d,q1⟩;subst ex;obtain rfl:u=Qaj a:=rx;obtain⟨t1,t2,_⟩:=L5 I1 d;show{t1,t2,?_};rw[m.trees];show Qcc rfl (Qgr (Qbo (bg (he s1 σ H1 _ I1 q1) fun iv s2 ⟨y,H2,I2,ry,q2⟩=>
  Qbo (bg (hf s2 σ H2 _ I2 q2) fun fv s3 ⟨z,H3,I3,rz,ov,g,q3⟩=>QbM ?_))))
 show NB hu I3 g ry rz fun w' s4 I4 rw'=>{_,H3,I4,rw',q3}
end
end L2
namespace HT
open PySem PyProof.Rows
section
variable {prog:Qac}{w:Qag}{A:QaB}{E:Fk->Gc->Prop}{s:Gc}
def eT (n d:Nat):Option Int->Nat
 | none=>d
 | some v=>if v<0 then (v+(n:Int)).toNat else min v.toNat n
def wX (n d:Nat):eT n d none=d:=rfl
def m5 (n d k:Nat):eT n d (some (k:Int))=min k n:=rfl
def BD (v:Int)(n d:Nat):(if v<0 then max (v+(n:Int)) 0 else min v (n:Int))=((eT n d (some v):Nat):Int):=by
 change(if v<0 then max (v+(n:Int)) 0 else min v (n:Int))=(((if v<0 then (v+(n:Int)).toNat else min v.toNat n):Nat):Int)
 by_cases hv:v<0
 ·simp only[if_pos hv];lia
 ·simp only[if_neg hv];lia
def zJ (lo hi:Option Int)(n:Nat):Qeg lo hi 1 (n:Int)=(((eT n 0 lo:Nat):Int),((eT n n hi:Nat):Int)):=by
 show Qcz ?_ ?_
 ·cases lo with
  | none=>rfl
  | some v=>show BD v n 0
 ·cases hi with
  | none=>rfl
  | some v=>show BD v n n
def Av (i j:Nat):QbJ (i:Int) (j:Int) 1=j-i:=by
 unfold QbJ
 split<;>lia
def rj (p:QfE v o)(h:Q o s):Qab (Qaa prog w) A (Builtin.Slice.slicePartIndex v) Q E s:=by
 cases p with
 | none=>show slicePart_none h
 | int i t=>show slicePart_int h
def oS {lo hi:Option Int}{n:Nat}{Q:Int×Int×Nat->Gc->Prop}(hs:s.heap.IsSliceOf sl vl vu .none)(pl:QfE vl lo)(pu:QfE vu hi)
  (h:Q (((eT n 0 lo:Nat):Int),1,eT n n hi-eT n 0 lo) s):Qab (Qaa prog w) A (Builtin.Slice.sliceApplied (.ref sl) (pure (n:Int))) Q E s:=by
 obtain⟨os,hos,Er,hds⟩:=id hs;show be (be (Qai hos hds rfl (be (Qai hos hds rfl (be (Qai hos hds rfl (tz (be (slicePart_none (be (rj pl (be (rj pu (be (tz ?_)))))))))))))));change Qab _ _ (match Qeg lo hi 1 (n:Int) with|(lo,hi)=>pure (lo,(1:Int),QbJ lo hi 1)) _ _ s;rw[zJ lo hi n];change Qab _ _ (pure (((eT n 0 lo:Nat):Int),(1:Int),QbJ ((eT n 0 lo:Nat):Int) ((eT n n hi:Nat):Int) 1)) _ _ s;rw[Av];show tz h
def EU (xs:Array Fk)(i k:Nat):((Qcq k).filterMap fun(m:Nat)=>xs[((i:Int)+(m:Int)*1).toNat]?).toArray=((xs.toList.drop i).take k).toArray:=by
 have e:(fun(m:Nat)=>xs[((i:Int)+(m:Int)*1).toNat]?)=fun m=>xs[i+m]?:=by
  funext m
  have:((i:Int)+(m:Int)*1).toNat=i+m:=by lia
  rw[this]
 rw[e];have:=pick_run xs i k;rw[List.filterMap_map] at this;have e2:((fun x=>xs[x]?)∘fun x=>i+x)=fun m=>xs[i+m]?:=rfl;rw[e2] at this;rw[this]
def nL {items:Array Fk}{vl vu:Fk}{lo hi:Option Int}{Q:Fk->Gc->Prop}(ht:IsTup s.heap t items)(hs:s.heap.IsSliceOf sl vl vu .none)(pl:QfE vl lo)(pu:QfE vu hi)
  (hw:¬(eT items.size 0 lo=0/\eT items.size items.size hi=items.size))
  (h:Q (.ref s.heap.objs.size) { s with heap:=s.heap.push { cls := .type "tuple",data := .seq ((items.toList.drop (eT items.size 0 lo)).take (eT items.size items.size hi-eT items.size 0 lo)).toArray } })
  (hsz:items.size<=W1):Qab (Qaa prog w) A (Qeo (.ref t) (.ref sl)) Q E s:=by
 have AO:sizeOk (.seq ((items.toList.drop (eT items.size 0 lo)).take (eT items.size items.size hi-eT items.size 0 lo)).toArray):=by
  change((items.toList.drop (eT items.size 0 lo)).take (eT items.size items.size hi-eT items.size 0 lo)).toArray.size<=W1;rw[Ju,J3,Ug,Uj];lia
 obtain⟨os,hos,Er,hds⟩:=id hs;unfold Qeo
 try with_reducible show Qah ?_
 first|show be (tz ?_)|skip
 show be (wpAny_sequenceKey ht.typeIs rfl (be (Qam ht.typeIs QdL
  (Qaq QdL ht.typeIs entry_tuple_getitem ?_ (args_tuple_getitem _ _)))))
 change Qab _ _ (Builtin.Tuple.tupleItemsOf (.ref t) >>= _) _ _ s;show be (tupleItemsOf_ ht (be (QaX ⟨os,hos,Er⟩ (be (oS hs pl pu ?_)))));have Ej:¬((((eT items.size 0 lo:Nat):Int)==0&&(1:Int)==1&&(eT items.size items.size hi-eT items.size 0 lo)==items.size)=true):=by
  intro q;rw[Jw,Jw] at q;have q1:=eq_of_beq q.1.1;have q2:=eq_of_beq q.2;show hw {⋯,⋯}
 change Qab _ _ (if (((eT items.size 0 lo:Nat):Int)==0&&(1:Int)==1&&(eT items.size items.size hi-eT items.size 0 lo)==items.size)=true then _ else _) _ _ s;rw[if_neg Ej,EU]
 first
  | show be (QaO (tz ⟨_,rfl,tz h⟩) AO)
  | show be (QaO (be (tz (tz ⟨_,rfl,tz h⟩))) AO)
  | show be (be (QaO (tz (tz ⟨_,rfl,tz h⟩)) AO))
  | show be (be (QaO (tz ⟨_,rfl,tz h⟩) AO))
end
end HT
namespace L2
open PySem PySem.Spec PyProof.Rows
abbrev TO:=St->Hp->(Option Int->Hp->Prop)->Prop
def PO (X:Cx)(e:Option QaF)(t:TO):Prop:=
 ∀ ⦃pins:List (KE×Obj)⦄ (s:Gc) (σ:St) (H:Hp) (Q:Option Int->Hp->Prop),Inv X pins σ H s->t σ H Q ->
  Qab (Qaa X.prog X.w) X.A (evalPart e X.env) (fun u s'=>fX fun o H'=>Inv X pins σ H' s'/\QfE u o/\Q o H') X.xe s
def Kt:TO:=fun _ H Q=>Q none H
def PX (t:TE):TO:=fun σ H Q=>t σ H fun x H1=>∃i,x = .int i/\Q (some i) H1
section
variable {X:Cx}{e:QaF}{te:TE}{lo hi:Option QaF}{tl th:TO}{pos p2:Pos}
def eK:PO X none Kt:=
 fun pins s σ H Q I h=>tz ⟨none,H,I,.none,h⟩
def aY (h:PE X e te):PO X (some e) (PX te):=by
 show fun pins s σ H Q I hw=>bg (h s σ H _ I hw) fun u s1 hz_=>ak.el hz_ _ ?_;rintro x H1 I1 r1 q1;obtain⟨i,rfl,q⟩:=q1;obtain⟨t,rfl⟩:=r1;show{some i,H1,I1,.int i t,q}
def Ek (X:Cx)(r:V->Option Int->Option Int->Hp->VK->Prop):Prop:=
 ∀ ⦃pins:List (KE×Obj)⦄ (s:Gc) (σ:St) (H:Hp) (x:V) (v vl vu:Fk) (lo hi:Option Int) (sl:KE) (Q:VK),Inv X pins σ H s->RelV x v->s.heap.IsSliceOf sl vl vu .none->QfE vl lo->QfE vu hi->r x lo hi H Q ->
  fX fun T id=>Qbu (.type T) "__getitem__" = pure (some (.builtin id))/\s.TypeIs v T/\Qab (Qaa X.prog X.w) X.A (Qeo v (.ref sl)) (EP X pins σ Q) X.xe s
def Ek.or (h:Ek X r)(h':Ek X r'):Ek X (fun x lo hi H Q=>r x lo hi H Q\/r' x lo hi H Q):=by
 intro pins s σ H x v vl vu lo hi sl Q I rx hs pl pu q
 rcases q with q|q
 ·show h s σ H x v vl vu lo hi sl Q I rx hs pl pu q
 ·show h' s σ H x v vl vu lo hi sl Q I rx hs pl pu q
def Zu (r:V->Option Int->Option Int->Hp->VK->Prop)(te:TE)(tl th:TO):TE:=fun σ H Q=>te σ H fun x H1=>tl σ H1 fun l H2=>th σ H2 fun u H3=>r x l u H3 Q
def bt (hr:Ek X r)(he:PE X e te)(hl:PO X lo tl)(hu:PO X hi th):PE X (.Subscript e (.Slice lo hi none p2) pos) (Zu r te tl th):=by
 show fun pins s σ H Q I h=>Subscript_ (bg (he s σ H _ I h) fun v s1 hz_=>ak.el hz_ _ ?_);rintro x H1 I1 r1 q1;show wpAny_Slice (bg (hl s1 σ H1 _ I1 q1) fun vl s2 hz_=>ak.el hz_ _ fun l H2 I2 pl q2=>bg (hu s2 σ H2 _ I2 q2) fun vu s3 hz_=>ak.el hz_ _ ?_);rintro u H3 I3 pu q3;show tz ?_;have I4:Inv X pins σ H3 { s3 with heap:=s3.heap.push { cls := .type "slice",data := .fields #[vl,vu,.none] } }:=I3.kept fun b ob q=>Jb _ q;obtain⟨T,id,hT,ht,hg⟩:=hr { s3 with heap:=s3.heap.push { cls := .type "slice",data := .fields #[vl,vu,.none] } } σ H3 x v vl vu l u s3.heap.objs.size Q I4 r1 (Heap.IsSliceOf.new ..) pl pu q3;show tail_any ht hT hg (by with_unfolding_all rfl)
def kP (xs:List V)(lo hi:Option Int):List V:=(xs.drop (HT.eT xs.length 0 lo)).take (HT.eT xs.length xs.length hi-HT.eT xs.length 0 lo)
def o7 (xs:List V)(lo hi:Option Int):(kP xs lo hi).length<=xs.length:=by
 unfold kP;rw[J3,Ug];lia
def T6 (K:Ja):V->Option Int->Option Int->Hp->VK->Prop:=fun x lo hi H Q=>fX fun a xs=>x = .ref a/\aV K H a xs /\
 ¬(HT.eT xs.length 0 lo=0/\HT.eT xs.length xs.length hi=xs.length)/\∀p,H p=none->Q (.ref p) (upd H p (.tup (kP xs lo hi)))
def Mu:Ek X (T6 X.K):=by
 intro pins s σ H x v vl vu lo hi sl Q I rx hs pl pu h;obtain⟨a,xs,rfl,hx,hw,q⟩:=h;cases rx;obtain⟨aF,r,ht,hz⟩:=I.tuple hx;have hlen:aF.toArray.size=xs.length:=by rw[Ju];show r.length.symm
 show⟨"tuple",_,PyProof.Rows.slot_tuple_getitem.lookup,ht.typeIs,(HT.nL ht hs pl pu (by rw[hlen];show hw) ?_ (by rw[hlen];show hz))⟩;rw[hlen];show{.ref s.heap.objs.size,_,I.laid (fun b ob q=>Jb _ q) (Je _) ?_,rfl,q _ (I.bw.fresh (Je _))};show{Jf (o7 xs lo hi) hz,_,(r.drop (HT.eT xs.length 0 lo)).take (HT.eT xs.length xs.length hi-HT.eT xs.length 0 lo),vt.new _ _}
end
def El (n:Nat)(i:Int):Option Nat:=if 0<=i then (if i<n then some i.toNat else none) else if -(n:Int)<=i then some (i+n).toNat else none
def xG {α:Type}(xs:List α)(i:Int):Option α:=(El xs.length i).bind fun j=>xs[j]?
def vH (h:El n i=some j):seqIndex? i n=some j/\j<n /\ -(n:Int)<=i/\i<n:=by
 unfold El at h
 by_cases h0:0<=i
 ·rw[if_pos h0] at h
  by_cases h1:i<n
  ·rw[if_pos h1] at h;have e:=Qan h;show{by rw[seqIndex_of h0 h1,e],⋯,⋯,h1}
  ·rw[if_neg h1] at h;cases h
 ·rw[if_neg h0] at h
  by_cases h1: -(n:Int)<=i
  ·rw[if_pos h1] at h;have e:=Qan h;show{by rw[seqIndex_neg ⋯ h1,e],⋯,h1,⋯}
  ·rw[if_neg h1] at h;cases h
def ql (h:xG xs i=some v):∃j,seqIndex? i xs.length=some j/\xs[j]? = some v/\j<xs.length /\ -(xs.length:Int)<=i/\i<xs.length:=by
 unfold xG at h;cases e:El xs.length i with
 | none=>rw[e] at h;cases h
 | some j=>
  rw[e] at h;obtain⟨h1,h2,h3,h4⟩:=vH e;show⟨j,h1,h,h2,h3,h4⟩
def qj {j:Nat}{v: α}(h:xs[j]? = some v):xG xs (j:Int)=some v:=by
 have hj:=(Jl.mp h).1;have e:El xs.length (j:Int)=some j:=by
  unfold El;rw[if_pos ⋯,if_pos ⋯];simp
 unfold xG;rw[e];show h
def IA (b:QaF):Prop:=∀o i,QfK b false o i=operate [o,i] (Qeo o i)
def HS (X:Cx)(r:R2):Prop:=
 ∀ ⦃value slice:QaF⦄ ⦃pins:List (KE×Obj)⦄ (s:Gc) (σ:St) (H:Hp) (x y:V) (v u:Fk) (Q:VK),Inv X pins σ H s->RelV x v->RelV y u->r x y H Q ->
  QfK slice false v u=operate [v,u] (Qeo v u)->Qab (Qaa X.prog X.w) X.A (subscriptTail value slice v u) (EP X pins σ Q) X.xe s
def JP (X:Cx)(id:String)(r:V->List V->Hp->VK->Prop):Prop:=
 ∀ ⦃pins:List (KE×Obj)⦄ (s:Gc) (σ:St) (H:Hp) (x:V) (xs:List V) (v:Fk) (us:List Fk) (Q:VK),Inv X pins σ H s->RelV x v->Vals xs us->r x xs H Q ->
  Qab (Qaa X.prog X.w) X.A (call (.builtin id) (v::us)) (EP X pins σ Q) X.xe s
section
variable {X:Cx}{a b:QaF}{ta tb:TE}{pos:Pos}
def HS.or (h:HS X r)(h':HS X r'):HS X (fun x y H Q=>r x y H Q\/r' x y H Q):=by
 intro value slice pins s σ H x y v u Q I rx ry q hs
 rcases q with q|q
 ·show h s σ H x y v u Q I rx ry q hs
 ·show h' s σ H x y v u Q I rx ry q hs
def aR (hr:HS X r)(ha:PE X a ta)(hb:PE X b tb)(hs:IA b):PE X (.Subscript a b pos) (N1 r ta tb):=
 fun pins s σ H Q I h=>Subscript_ (Ol ha hb I h fun v u s2 x y H2 I2 rx ry q=>hr s2 σ H2 x y v u Q I2 rx ry q (hs _ _))
def Qt (K:Ja):R2:=fun x y H Q=>nP fun p xs i v=>x = .ref p/\y = .int i/\aW K H p xs/\xG xs i=some v/\Q v H
def PL (K:Ja):R2:=fun x y H Q=>nP fun p xs i v=>x = .ref p/\y = .int i/\aV K H p xs/\xG xs i=some v/\Q v H
def RI:R2:=fun x y H Q=>pW fun z i c=>x = .str z/\y = .int i/\z.length<=W1/\xG z.cps.toList i=some c/\Q (.str ⟨#[c]⟩) H
def Kv:HS X (Qt X.K):=by
 intro value slice pins s σ H x y v u Q I rx ry h hs;obtain⟨p,xs,i,z,rfl,rfl,hq,he,q⟩:=h;cases rx;obtain⟨t,rfl⟩:=ry;obtain⟨aF,r,pl,hz⟩:=I.list hq;obtain⟨j,h1,h2,h3,h4,h5⟩:=ql he;obtain⟨w,ew,rw'⟩:=r.get h2;have hl:=r.length;have hn:=oq;have fin:EP X pins σ Q w s:=⟨z,H,I,rw',q⟩
 by_cases h0:0<=i
 ·have hj:i.toNat=j:=by
   rw[seqIndex_of h0 h5] at h1;show Qan h1
  show item_listR pl.isList h0 ⋯ (by rw[hj];simpa using ew) fin hs
 ·have hj:(i+(aF.toArray.size:Int)).toNat=j:=by
   rw[seqIndex_neg ⋯ h4] at h1;rw[Ju,<-hl];show Qan h1
  show subscriptTail_builtinR pl.isList.typeIs slot_list_getitem.lookup
   (wpAny_getItem_list_neg pl.isList ⋯ (by rw[Ju]<;>lia) ⋯ (by rw[hj];simpa using ew) ⟨rfl,fin⟩) hs
def Mp:HS X (PL X.K):=by
 intro value slice pins s σ H x y v u Q I rx ry h hs;obtain⟨p,xs,i,z,rfl,rfl,hq,he,q⟩:=h;cases rx;obtain⟨t,rfl⟩:=ry;obtain⟨aF,r,pl,hz⟩:=I.tuple hq;obtain⟨j,h1,h2,h3,h4,h5⟩:=ql he;obtain⟨w,ew,rw'⟩:=r.get h2;have hn:=oq;show subscriptTail_builtinR pl.typeIs slot_tuple_getitem.lookup
  (getItem_tuple pl ⋯ ⋯ (by rw[Ju,<-r.length];show h1) (by simpa using ew) ⟨rfl,⟨z,H,I,rw',q⟩⟩) hs
def Ms:HS X RI:=by
 intro value slice pins s σ H x y v u Q I rx ry h hs;obtain⟨z,i,c,rfl,rfl,hz,he,q⟩:=h;obtain⟨t,rfl⟩:=rx;obtain⟨t',rfl⟩:=ry;obtain⟨j,h1,h2,h3,h4,h5⟩:=ql he;have hl:z.cps.toList.length=z.length:=by simp[Str.length]
 rw[hl] at h1 h4 h5;have hn:=oq;show tail_any (QdU s z t) slot_str_getitem.lookup (getItem_str (by
  rw[(decide_eq_false ⋯),(decide_eq_false ⋯),Qec]) (by rw[h1];simpa using h2) ⟨.str ⟨#[c]⟩,H,I.tok _,⟨_,rfl⟩,q⟩) hs
def Vu (K:Ja):R2:=fun x y H Q=>Qt K x y H Q\/PL K x y H Q\/RI x y H Q
def LY:HS X (Vu X.K):=Kv.or (Mp.or Ms)
def zS (aF:List Fk)(n j:Nat)(u:Fk):QaJ (·.setIfInBounds j u) { cls := .type "list",data := .seq aF.toArray n } = { cls := .type "list",data := .seq (aF.set j u).toArray n }:=by
 simp[QaJ]
def Inv.lst {σ:St}{H:Hp}{s:Gc}{p:KE}{xs:List V}(I:Inv X pins σ H s)(h:H p=some (.lst xs)):
  ∃aF n,Vals xs aF/\s.heap.get? p=some { cls := .type "list",data := .seq aF.toArray n } /\ xs.length<=W1:=by
 obtain⟨z,aF,n,r,e⟩:=I.bw p _ h;show⟨aF,n,r,e,z⟩
def Inv.Ox {σ:St}{H:Hp}{s:Gc}{p:KE}{xs ys:List V}{aF its':List Fk}{n n':Nat}{f:Obj->Obj}(I:Inv X pins σ H s)(h:H p=some (.lst xs))
  (ho:s.heap.get? p=some { cls := .type "list",data := .seq aF.toArray n }) (hf:f { cls := .type "list",data := .seq aF.toArray n } = { cls := .type "list",data := .seq its'.toArray n' }) (r:Vals ys its') (hz:ys.length<=W1) (t:Nat) :
  Inv X pins σ (upd H p (.lst ys)) { s with heap:=s.heap.update p f,toks:=t }:=by
 have e:(s.heap.update p f).get? p=some { cls := .type "list",data := .seq its'.toArray n' }:=by
  rw[J4 f ho (by rw[hf]<;>rfl),hf]
 show I.write (by rw[h];trivial) (.inl rfl) (fun b u hb q=>(J7 _ _ (QaD hb)).trans q) {_,e} ?_;show⟨hz,its',n',r,e⟩
def RA:V->V->V->Hp->(Hp->Prop)->Prop:=fun o i v H Q=>nP fun p xs k j=>o = .ref p/\i = .int k/\H p=some (.lst xs)/\El xs.length k=some j/\Q (upd H p (.lst (xs.set j v)))
def set_list:PU X RA:=by
 intro pins s σ H o i v ov iv u Q I ro ri rv h;obtain⟨p,xs,k,j,rfl,rfl,hp,hj,q⟩:=h;cases ro;obtain⟨t,rfl⟩:=ri;obtain⟨aF,n,r,ho,hz⟩:=I.lst hp;obtain⟨h1,h2,h3,h4⟩:=vH hj;have hl:=r.length;have hn:=oq;have I':Inv X pins σ (upd H p (.lst (xs.set j v))) { s with heap:=s.heap.update p (QaJ (·.setIfInBounds j u)) }:=
  I.Ox hp ho (zS aF n j u) (r.set rv j) (by rw[Wa];show hz) s.toks
 by_cases h0:0<=k
 ·have hk:k.toNat=j:=by
   rw[seqIndex_of h0 h4] at h1;show Qan h1
  show PySem.W.ki_setAt ho h0 ⋯ (by rw[Ju,<-hl];show h4) (by rw[hk];show{_,I',q})
 ·have hk:(k+(aF.toArray.size:Int)).toNat=j:=by
   rw[seqIndex_neg ⋯ h3] at h1;rw[Ju,<-hl];show Qan h1
  show PySem.W.ki_setBack ho ⋯ (by rw[Ju,<-hl];show h3) ⋯ (by rw[hk];show{_,I',q})
def vj (lo hi:Option Int)(n:Nat):(QcK lo hi none n).1=((HT.eT n 0 lo:Nat):Int)/\(QcK lo hi none n).2.1=((HT.eT n n hi:Nat):Int)/\(QcK lo hi none n).2.2=1:=by
 show{?_,?_,rfl}
 ·cases lo with
  | none=>simp[QcK,HT.eT]
  | some i=>
   simp only[QcK,HT.eT,Option.getD_none,if_true]
   by_cases h:i<0
   ·simp only[h,if_true]<;>lia
   ·simp only[h,if_false]<;>lia
 ·cases hi with
  | none=>simp[QcK,HT.eT]
  | some i=>
   simp only[QcK,HT.eT,Option.getD_none,if_true]
   by_cases h:i<0
   ·simp only[h,if_true]<;>lia
   ·simp only[h,if_false]<;>lia
def tw (aF:List Fk)(lo hi:Option Int):slicePick aF.toArray lo hi none=((aF.drop (HT.eT aF.length 0 lo)).take (HT.eT aF.length aF.length hi-HT.eT aF.length 0 lo)).toArray:=by
 obtain⟨h1,h2,h3⟩:=vj lo hi aF.toArray.size;unfold slicePick;rw[h1,h2,h3];simp only[sliceRange_one,pick_run,Ju]<;>rfl
def Oj (K:Ja):V->Option Int->Option Int->Hp->VK->Prop:=fun x lo hi H Q=>fX fun a xs=>x = .ref a/\aW K H a xs/\∀p,H p=none->Q (.ref p) (upd H p (.lst (kP xs lo hi)))
def JR:Ek X (Oj X.K):=by
 intro pins s σ H x v vl vu lo hi sl Q I rx hs pl pu h;obtain⟨a,xs,rfl,hx,q⟩:=h;cases rx;obtain⟨aF,r,ht,hz⟩:=I.list hx;have hlen:=r.length;show⟨"list",_,slot_list_getitem.lookup,ht.isList.typeIs,(wpAny_getItem_list_slice ht.isList hs pl pu .none (by simp) ?_ (by rw[Ju]<;>lia))⟩;rw[tw,<-hlen];show{.ref s.heap.objs.size,_,I.laid (fun b ob q=>Jb _ q) (Je _) ?_,rfl,q _ (I.bw.fresh (Je _))};show{Jf (o7 xs lo hi) hz,_,0,(r.drop (HT.eT xs.length 0 lo)).take (HT.eT xs.length xs.length hi-HT.eT xs.length 0 lo),Ji _ rfl}
def pH:V->Bool
 | .non=>true
 | .bl _=>true
 | .int _=>true
 | .str _=>true
 | _=>false
def Lx:V->V->Bool
 | .non,.non=>true
 | .bl a,.bl b=>a==b
 | .bl a,.int b=>(if a then 1 else 0)==b
 | .int a,.bl b=>a==(if b then 1 else 0)
 | .int a,.int b=>a==b
 | .str a,.str b=>a==b
 | _,_=>false
def Oc {y x:V}{u v:Fk}(ry:RelV y u)(rx:RelV x v)(fy:pH y=true)(fx:pH x=true):SeqAt.EqAt A s u v (Lx y x):=by
 cases y with
 | non=>
  cases ry;cases x with
  | non=>cases rx;show SeqAt.EqAt.same _
  | bl b=>cases rx;show SeqAt.EqAt.none_bool b
  | int b=>obtain⟨t,rfl⟩:=rx;show SeqAt.EqAt.none_int b t
  | str b=>obtain⟨t,rfl⟩:=rx;show SeqAt.EqAt.none_str b t
  | _=>show absurd (show false=true from fx) Js
 | bl a=>
  cases ry;cases x with
  | non=>cases rx;show SeqAt.EqAt.bool_none a
  | bl b=>cases rx;show Qdf a b
  | int b=>obtain⟨t,rfl⟩:=rx;show SeqAt.EqAt.bool_int a b t
  | str b=>obtain⟨t,rfl⟩:=rx;show SeqAt.EqAt.bool_str a b t
  | _=>show absurd (show false=true from fx) Js
 | int a=>
  obtain⟨t',rfl⟩:=ry;cases x with
  | non=>cases rx;show SeqAt.EqAt.int_none a t'
  | bl b=>cases rx;show SeqAt.EqAt.int_bool a t' b
  | int b=>obtain⟨t,rfl⟩:=rx;show SeqAt.EqAt.int_int a t' b t
  | str b=>obtain⟨t,rfl⟩:=rx;show QfP a t' b t
  | _=>show absurd (show false=true from fx) Js
 | str a=>
  obtain⟨t',rfl⟩:=ry;cases x with
  | non=>cases rx;show SeqAt.EqAt.str_none a t'
  | bl b=>cases rx;show SeqAt.EqAt.str_bool a t' b
  | int b=>obtain⟨t,rfl⟩:=rx;show QfO a t' b t
  | str b=>obtain⟨t,rfl⟩:=rx;show QfN a t' b t
  | _=>show absurd (show false=true from fx) Js
 | _=>show absurd (show false=true from fy) Js
def Ai (x:V)(u:Fk):Bool:=match u with
 | .none=>Lx .non x
 | .bool b=>Lx (.bl b) x
 | .int i _=>Lx (.int i) x
 | .str z _=>Lx (.str z) x
 | _=>false
def G6 {x y:V}{u:Fk}(r:RelV y u)(f:pH y=true):Ai x u=Lx y x:=by
 cases y with
 | non=>cases r;rfl
 | bl b=>cases r;rfl
 | int i=>obtain⟨t,rfl⟩:=r;rfl
 | str z=>obtain⟨t,rfl⟩:=r;rfl
 | _=>show absurd (show false=true from f) Js
def m7:∀{xs:List V} {us:List Fk},Vals xs us->xs.all pH=true->us.any (Ai x)=xs.any fun y=>Lx y x
 | _,_,.nil,_=>rfl
 | y::xs,u::us,.cons r t,f=>by
  rw[Qcy,Jw] at f;rw[Y8,Y8,G6 r f.1,m7 t f.2]
def kB {x:V}{v:Fk}(rx:RelV x v)(fx:pH x=true):∀{xs:List V} {us:List Fk},Vals xs us->xs.all pH=true->∀u∈us,SeqAt.EqAt A s u v (Ai x u)
 | _,_,.nil,_=>fun u hu=>by cases hu
 | y::xs,u::us,.cons r t,f=>fun u' hu=>by
  rw[Qcy,Jw] at f
  rcases Jq.mp hu with rfl|hu
  ·rw[G6 r f.1];show Oc r rx f.1 fx
  ·show kB rx fx t f.2 u' hu
def LC (x:V)(xs:List V):Bool:=xs.any fun y=>Lx y x
def R8 (K:Ja)(neg:Bool):R2:=fun x y H Q=>fX fun p xs=>y = .ref p/\(aW K H p xs\/aV K H p xs)/\pH x=true/\xs.all pH=true/\Q (.bl (if neg then !LC x xs else LC x xs)) H
def C2:fA X (QaC .In) (R8 X.K false):=by
 intro pins s σ H x y v u Q I rx ry h;obtain⟨p,xs,rfl,hq,fx,fs,q⟩:=h;cases ry
 rcases hq with hq|hq
 ·obtain⟨aF,r,pl,hz⟩:=I.list hq;show SeqAt.in_listAt (Ai x) pl.isList (fun w hw=>kB rx fx r fs w (by simpa using hw)) {.bl _,H,I,rfl,?_};rw[show aF.toArray.any (Ai x)=aF.any (Ai x) by simp,m7 r fs];show q
 ·obtain⟨aF,r,pl,hz⟩:=I.tuple hq;show SeqAt.in_tupleAt (Ai x) pl (fun w hw=>kB rx fx r fs w (by simpa using hw)) {.bl _,H,I,rfl,?_};rw[show aF.toArray.any (Ai x)=aF.any (Ai x) by simp,m7 r fs];show q
def vS:fA X (QaC .NotIn) (R8 X.K true):=by
 intro pins s σ H x y v u Q I rx ry h;obtain⟨p,xs,rfl,hq,fx,fs,q⟩:=h;cases ry
 rcases hq with hq|hq
 ·obtain⟨aF,r,pl,hz⟩:=I.list hq;show SeqAt.notIn_listAt (Ai x) pl.isList (fun w hw=>kB rx fx r fs w (by simpa using hw)) {.bl _,H,I,rfl,?_};rw[show aF.toArray.any (Ai x)=aF.any (Ai x) by simp,m7 r fs];show q
 ·obtain⟨aF,r,pl,hz⟩:=I.tuple hq;show SeqAt.notIn_tupleAt (Ai x) pl (fun w hw=>kB rx fx r fs w (by simpa using hw)) {.bl _,H,I,rfl,?_};rw[show aF.toArray.any (Ai x)=aF.any (Ai x) by simp,m7 r fs];show q
def bE.or (h:bE X f r)(h':bE X f r'):bE X f (fun xs H Q=>r xs H Q\/r' xs H Q):=by
 intro pins s σ H xs us Q I rs q
 rcases q with q|q
 ·show h s σ H xs us Q I rs q
 ·show h' s σ H xs us Q I rs q
def u4:bE X (.type "list") (fun xs H Q=>∃p ys,xs=[.ref p]/\(aW X.K H p ys\/aV X.K H p ys)/\∀l,H l=none->Q (.ref l) (upd H l (.lst ys))):=by
 intro pins s σ H xs us Q I r h;obtain⟨p,ys,rfl,hq,q⟩:=h;obtain⟨u,rfl,rx⟩:=vals1 r;cases rx;have fin:∀aF,Vals ys aF->ys.length<=W1->∀h' c',(∀b o',s.heap.get? b=some o'->h'.get? b=some o') ->
   h'.get? s.heap.objs.size=some { cls := .type "list",dict:=none,data := .seq aF.toArray c',slots := #[] } -> EP X pins σ Q (.ref s.heap.objs.size) { s with heap:=h' }:=fun aF r' hz h' c' kp e=>
  ⟨.ref s.heap.objs.size,_,I.laid kp (Je _) (show bB X.prog X.w _ h' _ (.lst ys) from⟨hz,aF,c',r',e⟩),rfl,q _ (I.bw.fresh (Je _))⟩
 rcases hq with hq|hq
 ·obtain⟨aF,r',pl,hz⟩:=I.list hq;have hlen:=r'.length;obtain⟨o,ho,hc,n,hd⟩:=pl.isList;show call_list_seq p (.inl rfl) ho hc hd (fun h' c' kp e=>fin aF r' hz h' c' kp e) (by simp only[Ju]<;>lia)
 ·obtain⟨aF,r',pl,hz⟩:=I.tuple hq;have hlen:=r'.length;obtain⟨o,ho,hc,n,hd⟩:=pl;show call_list_seq p (.inr rfl) ho hc hd (fun h' c' kp e=>fin aF r' hz h' c' kp e) (by simp only[Ju]<;>lia)
def tD:bE X (.type "tuple") (fun xs H Q=>∃p ys,xs=[.ref p]/\((aW X.K H p ys/\∀l,H l=none->Q (.ref l) (upd H l (.tup ys)))\/(aV X.K H p ys/\Q (.ref p) H))):=by
 intro pins s σ H xs us Q I r h;obtain⟨p,ys,rfl,h⟩:=h;obtain⟨u,rfl,rx⟩:=vals1 r;cases rx
 rcases h with ⟨hq,q⟩|⟨hq,q⟩
 ·obtain⟨aF,r',pl,hz⟩:=I.list hq;have hlen:=r'.length;show call_tuple_list pl.isList (fun h' kp =>?_) (by simp only[Ju]<;>lia);have I1:Inv X pins σ H { s with heap:=h' }:=I.kept kp;have I2:Inv X pins σ (upd H h'.objs.size (.tup ys)) { s with heap:=h'.push { cls := .type "tuple",data := .seq aF.toArray } }:=
   I1.laid (fun b o e=>Jb _ e) (Je _) (show bB X.prog X.w _ _ _ (.tup ys) from⟨hz,aF,r',vt.new _ _⟩)
  show{.ref h'.objs.size,_,I2,rfl,q _ (I1.bw.fresh (Je _))}
 ·obtain⟨aF,r',pl,hz⟩:=I.tuple hq;show call_tuple_same pl {.ref p,H,I,rfl,q}
def Rg (K:Ja)(T:String)(x:V)(H:Hp):Prop:=match x with
 | .str _=>T = "str"
 | .int _=>T = "int"
 | .ref p=>(T = "list" /\ ∃xs,aW K H p xs)\/(T = "tuple" /\ ∃o,K.lookup p=some o/\o.cls = .type "tuple" /\ o.dict=none) \/
   (T = "dict" /\ ((∃kvs,H p=some (.dK kvs))\/∃kvs,H p=some (.dT kvs)))\/(T = "set" /\ fX fun S n=>H p=some (.set S n))
 | _=>False
def zG {σ:St}{H:Hp}{s:Gc}{T:String}{x:V}{v:Fk}(I:Inv X pins σ H s)(r:RelV x v)(ty:Rg X.K T x H):
  s.TypeIs v T/\∀a,v = .ref a->∃ob,s.heap.get? a=some ob/\ob.dict=none:=by
 cases x with
 | str z=>
  obtain⟨t,rfl⟩:=r;cases (show T = "str" from ty);show{QdU s z t,fun _ e=>nomatch e}
 | int i=>
  obtain⟨t,rfl⟩:=r;cases (show T = "int" from ty);show{typeIs_int s i t,fun _ e=>nomatch e}
 | ref p=>
  cases r
  rcases ty with ⟨rfl,xs,hq⟩|⟨rfl,o,hk,hc,hd⟩|⟨rfl,hk⟩|⟨rfl,S,n,hk⟩
  ·obtain⟨aF,_,pl,_⟩:=I.list hq;show{pl.isList.typeIs,fun a e =>?_};cases e;obtain⟨o,n,e,c,hd,_⟩:=pl;show⟨o,e,hd⟩
  ·show{{o,I.jr p o hk,hc},fun a e =>?_};cases e;show{o,I.jr _ o hk,hd}
  ·have z:∃o,s.heap.get? p=some o/\o.ExactDict:=by
    rcases hk with ⟨kvs,hk⟩|⟨kvs,hk⟩
    ·obtain⟨_,_,_,_,o,_,_,e,ex,_⟩:=I.bw p _ hk;show⟨o,e,ex⟩
    ·obtain⟨_,_,_,_,o,_,_,e,ex,_⟩:=I.bw p _ hk;show⟨o,e,ex⟩
   obtain⟨o,e,ex⟩:=z;show{⟨o,e,ex.1⟩,fun a e2 =>?_};cases e2;show⟨o,e,ex.2.1⟩
  ·obtain⟨o,_,_,_,e,ex,_⟩:=I.bw p _ hk;show{⟨o,e,ex.1⟩,fun a e2 =>?_};cases e2;show⟨o,e,ex.2.1⟩
 | _=>show QaV ty
def Rh (K:Ja)(T:String)(r:V->List V->Hp->VK->Prop)(to:TE):TE:=fun σ H Q=>to σ H fun x H1=>Rg K T x H1/\r x [] H1 Q
def Wh (K:Ja)(T:String)(r:V->List V->Hp->VK->Prop)(to:TE)(t:TA):TE:=fun σ H Q=>to σ H fun x H1=>Rg K T x H1/\t σ H1 fun xs H2=>r x xs H2 Q
variable {o e:QaF}{es:List QaF}{to:TE}{t:TA}{name:Str}{apos dR:Pos}{T id:String}{r:V->List V->Hp->VK->Prop}
def MU (pa:Qgh T)(slot:Slot T name id)(MT:typeOf (.builtin id)=pure (.type "method_descriptor"))(hm:JP X id r)(ho:PE X o to)
  (mX:Qbr o name X.env (QaP o X.env)=QaP o X.env:=by rfl) (nH:(apos.endLine==dR.line)=true:=by rfl):PE X (.Call (.Attribute o name apos) [] [] dR) (Rh X.K T r to):=by
 show fun pins s σ H Q I h=>wpAny_Call_method0_late mX nH (bg (ho s σ H _ I h) fun v s1 hz_=>ak.el hz_ _ ?_);rintro x H1 I1 r1 ⟨ty,q1⟩;obtain⟨h1,h2⟩:=zG I1 r1 ty;show{T,id,pa,slot,MT,h1,h2,Qcc rfl (Qgs (hm s1 σ H1 x [] v [] Q I1 r1 .nil q1))}
def Qu (pa:Qgh T)(slot:Slot T name id)(MT:typeOf (.builtin id)=pure (.type "method_descriptor"))(hm:JP X id r)(ho:PE X o to)(ha:PA X (e::es) t)
  (mX:Qbr o name X.env (QaP o X.env)=QaP o X.env:=by rfl)
  (DL:((QbT dR (Qaf (e::es) X.env)).all (fun x => !x.1)&&(backToKw dR (QfL [] X.env)).all (fun x=>x.1.isSome)
   && decide ((e::es).length+([]:List Qf5).length+(if ([]:List Qf5).isEmpty then 0 else 1)<30))=true:=by rfl)
  (nH:(apos.endLine==dR.line)=true:=by rfl) (hs:Qaf (e::es) X.env=(false,QaP e X.env)::Qaf es X.env:=by rfl) (zg:(QbT dR (Qaf es X.env)).any (·.1)=false:=by rfl) :
  PE X (.Call (.Attribute o name apos) (e::es) [] dR) (Wh X.K T r to t):=by
 show fun pins s σ H Q I h=>wpAny_Call_method_late mX DL nH rfl (bg (ho s σ H _ I h) fun v s1 hz_=>ak.el hz_ _ ?_);rintro x H1 I1 r1 ⟨ty,q1⟩;obtain⟨h1,h2⟩:=zG I1 r1 ty;show{T,id,pa,slot,MT,h1,h2,?_};have hA:=ha (pos:=dR) s1 σ H1 _ I1 q1;rw[hs] at hA ⊢;show Qcc (by change(false||(QbT dR (Qaf es X.env)).any (·.1))=false;rw[zg]<;>rfl) (Qgr (bg hA fun us s2 hz_=>ak.el hz_ _ fun vs H2 I2 r2 q2=>hm s2 σ H2 x vs v us Q I2 r1 r2 q2))
end
def Ic (X:Cx)(id:String)(r:V->List V->Hp->VK->Prop):Prop:=
 ∀ ⦃pins:List (KE×Obj)⦄ (s:Gc) (σ:St) (H:Hp) (x:V) (xs:List V) (v:Fk) (us:List Fk) (Q:VK),Inv X pins σ H s->RelV x v->Vals xs us->r x xs H Q ->
  Qab (Qaa X.prog X.w) X.A (call (.builtin id) (v::us)) (EP X pins σ Q) X.xe s
def Vals.hd (h:Vals (x::xs) us):∃u r,us=u::r/\RelV x u/\Vals xs r:=by
 cases h with|cons a b=>show⟨_,_,rfl,a,b⟩
def Vals.one (h:Vals [x] us):∃u,us=[u]/\RelV x u:=by
 obtain⟨u,r,rfl,a,h⟩:=h.hd;cases h;show{_,rfl,a}
def Vals.two (h:Vals [x,y] us):∃u v,us=[u,v]/\RelV x u/\RelV y v:=by
 obtain⟨u,r,rfl,a,h⟩:=h.hd;obtain⟨v,rfl,b⟩:=h.one;show{_,_,rfl,a,b}
def Vals.eraseIdx:∀{xs:List V} {us:List Fk} i,Vals xs us->Vals (xs.eraseIdx i) (us.eraseIdx i)
 | _,_,_,.nil =>.nil
 | _,_,0,.cons _ t=>t
 | _,_,i+1,.cons r t =>.cons r (Vals.eraseIdx i t)
def Vals.rep (h:Vals xs us):∀k,Vals (Jm k xs).flatten (Jm k us).flatten
 | 0 =>.nil
 | k+1=>by
  show Vals.append h (Vals.rep h k)
def uG {α:Type}:∀(l:List α) i,(l.eraseIdx i).length<=l.length
 | [],_=>Je _
 | _::_,0=>Yw _
 | _::r,i+1=>Wd (uG r i)
def foldl_rep (aF:List Fk):∀k acc,
  Qfo (fun x1 x2=>x1++x2) acc.toArray (Jm k aF.toArray)=(acc++(Jm k aF).flatten).toArray
 | 0,acc=>by simp
 | k+1,acc=>by
  have e:acc.toArray++aF.toArray=(acc++aF).toArray:=by simp
  have e2:(acc++aF)++(Jm k aF).flatten=acc++(Jm (k+1) aF).flatten:=by
   rw[QcF,Qes,Ux]
  rw[<-e2,<-foldl_rep aF k (acc++aF),<-e,QcF,QeY]
section
variable {X:Cx}{pins:List (KE×Obj)}{σ:St}{H:Hp}{s:Gc}{l b:KE}{xs ys zs:List V}
def Inv.JV {aF its':List Fk}{n:Nat}{f:Array Fk->Array Fk}{t':Nat}(I:Inv X pins σ H s)(hH:H l=some (.lst xs))
  (e:s.heap.get? l=some { cls := .type "list",data := .seq aF.toArray n }) (hf:f aF.toArray=its'.toArray) (hv:Vals ys its') (hz:ys.length<=W1) :
  Inv X pins σ (upd H l (.lst ys)) { s with heap:=s.heap.update l (QaJ f),toks:=t' }:=by
 have q:=PySem.IsL.update e f;rw[hf] at q;show I.write (by rw[hH];show trivial) (.inl rfl) (fun b' u hb hu=>(J7 s.heap (QaJ f) (QaD hb)).trans hu) {_,q} ?_;show{hz,its',_,hv,q}
def Inv.Rw (I:Inv X pins σ H s)(hv:Vals ys aF)(hz:ys.length<=W1):
  Inv X pins σ (upd H s.heap.objs.size (.lst ys)) { s with heap:=s.heap.push { cls := .type "list",data := .seq aF.toArray },toks:=t' }:=
 I.laid (fun _ _ q=>Jb _ q) (Je _) ⟨hz,aF,0,hv,Ji _ rfl⟩
def Inv.fresh (I:Inv X pins σ H s):H s.heap.objs.size=none:=I.bw.fresh (Je _)
def Inv.tm (I:Inv X pins σ H s)(hH:H l=some (.lst xs)):xs.length<=W1/\∃aF n,Vals xs aF/\xs.length=aF.length/\s.heap.get? l=some { cls := .type "list",data := .seq aF.toArray n }:=by
 obtain⟨z,aF,n,r,e⟩:=I.bw l _ hH;show⟨z,aF,n,r,r.length,e⟩
def EO (h:n<=W1):Qev n=false:=
 decide_eq_false ⋯
end
section
variable {X:Cx}
def Kc:V->List V->Hp->VK->Prop:=fun x vs H Q=>pW fun l xs y=>x = .ref l/\vs=[y]/\H l=some (.lst xs)/\xs.length<W1/\Q .non (upd H l (.lst (xs++[y])))
def DT:Ic X "list.append" Kc:=by
 intro pins s σ H x vs v us Q I rx rv h;obtain⟨l,xs,y,rfl,rfl,hH,hz,q⟩:=h;cases rx;obtain⟨u,rfl,ru⟩:=rv.one;obtain⟨z,aF,n,r,hl,e⟩:=I.tm hH;show QbD F.slot_list_append {_,e,rfl} F.entry_list_append (F.args_list_append_2 _ _) (PySem.list_append l aF.toArray n u (by rw[Ju];lia)) {e,{.non,_,I.JV hH e (by simp) (r.append (.cons ru .nil)) ?_,rfl,q}};rw[Jn,Qco];lia
def Mi:V->List V->Hp->VK->Prop:=fun x vs H Q=>uN fun l xs i k y=>x = .ref l/\vs=[.int i]/\H l=some (.lst xs) /\ -(2^63)<=i/\i<2^63/\seqIndex? i xs.length=some k/\xs[k]? = some y/\Q y (upd H l (.lst (xs.eraseIdx k)))
def FK:Ic X "list.pop" Mi:=by
 intro pins s σ H x vs v us Q I rx rv h;obtain⟨l,xs,i,k,y,rfl,rfl,hH,h1,h2,hk,hy,q⟩:=h;cases rx;obtain⟨u,rfl,ru⟩:=rv.one;obtain⟨t,rfl⟩:=ru;obtain⟨z,aF,n,r,hl,e⟩:=I.tm hH;obtain⟨w,hw,rw'⟩:=r.get hy;show QbD F.slot_list_pop {_,e,rfl} F.entry_list_pop (F.args_list_pop_2 _ _)
  (MeetsSeq.list_pop_at l aF.toArray n i t k w (fitsIndex_both h1 h2) (by rw[Ju,<-hl];show hk) (by rw[<-U3];show hw) (by rw[Ju];lia)) ⟨e,?_⟩
 show{y,_,I.JV hH e ?_ (r.eraseIdx k) ?_,rw',q}
 ·change aF.toArray.eraseIdxIfInBounds k=(aF.eraseIdx k).toArray;rw[List.eraseIdxIfInBounds_toArray]
 ·have:=uG xs k;lia
def Rl:R2:=fun x y H Q=>nP fun l b xs zs=>x = .ref l/\y = .ref b/\H l=some (.lst xs)/\H b=some (.lst zs)/\xs.length+zs.length<=W1/\∀p,H p=none->Q (.ref p) (upd H p (.lst (xs++zs)))
def M9:fA X (Qba .Add) Rl:=by
 intro pins s σ H x y v u Q I rx ry h;obtain⟨l,b,xs,zs,rfl,rfl,hH,hB,hz,q⟩:=h;cases rx;cases ry;obtain⟨z,aF,n,r,hl,e⟩:=I.tm hH;obtain⟨z2,its2,n2,r2,Ez,e2⟩:=I.tm hB;show PySem.P.add_list e e2 ?_ (by rw[Ju,Ju];lia);have ea:aF.toArray++its2.toArray=(aF++its2).toArray:=by simp
 rw[ea];show{.ref _,_,I.Rw (r.append r2) (by rw[Jn];lia),rfl,q _ I.fresh}
def QX:R2:=fun x y H Q=>pW fun l k xs=>x = .ref l/\y = .int k/\H l=some (.lst xs) /\ -(2^63)<=k/\k<2^63/\xs.length*k.toNat<=W1 /\
 ∀p,H p=none->Q (.ref p) (upd H p (.lst (Jm k.toNat xs).flatten))
def KP {α:Type}(xs:List α)(k:Nat):(Jm k xs).flatten.length=k*xs.length:=by simp
def Mc:fA X (Qba .Mult) QX:=by
 intro pins s σ H x y v u Q I rx ry h;obtain⟨l,k,xs,rfl,rfl,hH,h1,h2,hz,q⟩:=h;cases rx;obtain⟨t,rfl⟩:=ry;obtain⟨z,aF,n,r,hl,e⟩:=I.tm hH;have hlen:aF.toArray.size*k.toNat<=W1:=by rw[Ju,<-hl];show hz
 have T5:¬aF.toArray.size*k.toNat>(2^63-1) / 8:=by
  have:(W1:Nat)<=(2^63-1) / 8:=∅;lia
 have TM:¬(!Builtin.List.listFitsIndex k)=true:=by
  rw[fitsIndex_both h1 h2];show Js
 have Pe:¬Qev (aF.toArray.size*k.toNat)=true:=by
  rw[EO hlen];show Js
 have VL:Qfo (fun x1 x2=>x1++x2) #[] (Jm (if aF.toArray.isEmpty=true then 0 else k.toNat) aF.toArray)=(Jm k.toNat aF).flatten.toArray:=by
  have f0:∀m,Qfo (fun x1 x2=>x1++x2) #[] (Jm m aF.toArray)=(Jm m aF).flatten.toArray:=fun m=>by
   have:=foldl_rep aF m [];show this
  rw[f0];cases aF with
  | nil=>simp
  | cons a r'=>rw[if_neg (by simp)]
 show wpAny_binaryOp_repeat_ref rfl {_,e,rfl} (fun s'=>typeIs_int s' k t) noFill_list_mul F.fills_int_mul F.slot_int_rmul repeat_list F.slot_int_index.lookup
  (QbD F.slot_int_rmul (typeIs_int s k t) F.entry_int_rmul (F.args_int_rmul_2 _ _) (int___rmul___int_list k t l aF.toArray n)
   ⟨e,rfl,⟨_,e,rfl⟩,QbD F.slot_list_mul ⟨_,e,rfl⟩ F.entry_list_mul (F.args_list_mul_2 _ _) (AutoListH.list___mul___list_int_3 l aF.toArray n k t TM T5 Pe) ⟨e,?_⟩⟩)
 rw[VL];show{.ref _,_,I.Rw (r.rep k.toNat) (by rw[KP,QdC];show hz),rfl,q _ I.fresh}
end
section
variable {prog:Qac}{w:Qag}{A:QaB}{E:Fk->Gc->Prop}{s:Gc}
set_option maxRecDepth 100000 in
end
end L2
namespace Att
open PySem PySem.W PySem.Calls PyProof.Rows
def pL:∀ns vs,WellAll P h vs (ns.map WData.int)->Qeu vs ns:=by
 intro ns
 induction ns with
 | nil=>
  intro vs w;cases w;show .nil
 | cons n ns ih=>
  intro vs w;cases w with
  | cons a b=>
   cases a;show .cons _ _ (ih _ b)
def Cf {l:OpenLaw}{n:Nat}(hn:l.most=some n){P:Params}{h:Heap}{args:List WData}{vals:List Fk}
  (ve:l.row.toRowW.claim.pre args=true) (TF:WellAll P h vals args) :
  ∃a vs ns,vals=[Qaj a]/\args=[WData.list (ns.map WData.int)]/\h.get? a=some { cls := .type "list",data := .seq vs.toArray } /\ Qeu vs ns/\ns.length<=n:=by
 obtain⟨d,r,rfl,h1,h2⟩:=hasAllW_cons ((pre_splitW ve).1);obtain rfl:=hasAllW_nil h2;obtain⟨xs,rfl,h3⟩:=hasW_list h1;obtain⟨ns,rfl⟩:=items_int h3;have hlen:ns.length<=n:=by
  have h4:(WTm.not (.lt (.lit (.int (n:Int))) (.len (.arg 0)))).holds [] { args:=[.list (ns.map .int)] } = true:=by
   have h4:=(holds_andW ((pre_splitW ve).2)).1;rw[hn] at h4;show h4
  have h5:=condW_of h4 (w_not (w_lt w_lit (w_len_list (w_arg rfl))));show Nat.le_of_not_lt fun q =>?_
  first
   | (rw[decide_eq_true q'] at h5;show absurd h5 rfl)
   | (simp at h5;lia)
 cases TF with
 | cons w1 w2=>
  cases w2;cases w1 with
  | list ho kR=>show⟨_,_,ns,rfl,rfl,ho,pL ns _ kR,hlen⟩
def CS (l:OpenLaw)(args:List WData):l.row.toRowW.claim.post args (.bool true) args=true:=
 postW_of
  (show WShape.has [] (.bool true) .bool=true by first|rfl|decide|simp[ WShape.armsAll])
  (show(WTm.eq .res (.lit (.bool true))).value [] { args:=args,res:=some (.bool true),after:=args } = some (.bool (true==true)) from w_eq_bool (w_res rfl) w_lit) rfl
def xx {l:OpenLaw}{n:Nat}{q:Qac}{loose:List Str}{XP:(Str->Option Fk)->Heap->Prop}{YP:Qag->Heap->Prop}{d:DefRec}
  (hn:l.most=some n) (Qy:d.params.defaults=[])
  (call:∀w s₀ s₁ mg mb fa o pm cd doc a vs ns,
   Ground q loose [] XP w s₀ mg mb s₁.heap->YP w s₁.heap ->
   s₁.heap.get? fa=some o->o.data = .func (docDef d.name d.params d.body d.scope pm cd doc)->s₁.heap.CodeRec cd d.name->mg d.name=some (.ref fa) ->
   s₁.heap.get? a=some { cls := .type "list",data := .seq vs.toArray } -> Qeu vs ns->ns.length<=n->s₁.gens = #[] ->
   QaY (Qaa l.prog w) QfZ (.call (.ref fa) ⟨[.ref a],[]⟩) (fun r s'=>r = .ok (.ret (.bool true))/\OldK s₁.heap s'.heap/\s'.os=s₁.os/\Qdt s'.gens) s₁) :
  WalkO q loose XP YP l.row.toRowW d [] (fun f vs=>Qe7 f vs):=by
 intro w s₀ s₁ mg mb G Y fa o pm cd doc dV kV ho hd Ah hD hmg hg args vals as ve hlay hrd TF IG;obtain rfl:dV = .none:=Dflts.none hD Qy;obtain rfl:kV = .none:=Dflts.noKw hD;obtain⟨a,vs,ns,rfl,rfl,hobj,hints,hlen⟩:=Cf hn ve TF;show enter_call (Qcw (call w s₀ s₁ mg mb fa o pm cd doc a vs ns G Y ho (fd_plain hd) Ah hmg hobj hints hlen hg) fun r s' hq =>?_);obtain⟨rfl,h2,h3,h4⟩:=hq;show{.inl {.bool true,.bool true,[],rfl,fun _=>rfl,.bool true,CS l _,fun _=>{Qfp,fun _ hm=>(nomatch hm)}},h2,h3,h4}
end Att
namespace L2
open PySem PySem.Spec PyProof.Rows
def Dh (h:Qeu vs ns):Vals (ns.map V.int) vs:=by
 induction h with
 | nil=>show .nil
 | cons n t h ih=>show .cons ⟨t,rfl⟩ ih
def N4 (H:Hp):Prop:=∀b,H b=none\/fX fun o xs=>H b=some (.frz o (.lst xs))
def EE {K:Ja}{mg mb:Str->Option Fk}{CX:Fl}{k:Nat}{fa a:KE}{fd:Qal}{x:Str}{sp:Sp}{s₁:Gc}{vs:List Fk}{ns:List Int}
  (KX:K.In s₁.heap) (DN:s₁.heap.Ns QaI mg) (hb:s₁.heap.Ns builtinsNs mb) (XZ:∀x:Str,x ≠ "__name__" -> mb x=QaT x) (UI:s₁.heap.NoLimit) (hg:s₁.gens = #[])
  (ha:s₁.heap.get? a=some { cls := .type "list",data := .seq vs.toArray }) (hi:Qeu vs ns) (hl:ns.length<=W1) (hr:dw k QfZ)
  (F:∀base,K.In base->base.Ns QaI mg->aU P w K mg base CX k fa fd [x] sp) (RK:∀(s:Gc) (u:Fk),Qf6 s fd ⟨[u],[]⟩ [(x,u)])
  (wR:∀H,N4 H->aW K H a (ns.map V.int)->sp [.ref a] H (fun v _=>v = .bl true) fun _ _ _=>False)
  (VT:∀H e s',CX [] H s₁ (fun _ _ _=>False) e s'->False) :
  QaY (Qaa P w) QfZ (.call (.ref fa) ⟨[.ref a],[]⟩) (fun r s'=>r = .ok (.ret (.bool true))/\OldK s₁.heap s'.heap/\s'.os=s₁.os/\Qdt s'.gens) s₁:=by
 have rv:=Dh hi;have core:∀H,N4 H->aW K H a (ns.map V.int)->j0 P w H s₁.heap->(∀b,H b≠none->b=a)->(H a≠none->K.lookup a=none) ->
   QaY (Qaa P w) QfZ (.call (.ref fa) ⟨[.ref a],[]⟩) (fun r s'=>r = .ok (.ret (.bool true))/\OldK s₁.heap s'.heap/\s'.os=s₁.os/\Qdt s'.gens) s₁:=by
  intro H hO hS bw hA hK;have BP:∀{b:KE} {o:Obj},s₁.heap.get? b=some o->H b=none->(CL s₁.heap H).get? b=some o:=fun e n=>GH e n;have RC:∀{b:KE} {o:Obj} {es:Array QdN} {ep:Nat},s₁.heap.get? b=some o->o.data = .dict es ep->H b=none:=fun{b o es ep} e d=>by
   cases q:H b with
   | none=>rfl
   | some u=>
    have e':=hA b (by rw[q];simp);subst e';rw[ha] at e;cases e;cases d
  have SK:∀{b:KE} {m:Str->Option Fk},s₁.heap.Ns b m->(CL s₁.heap H).Ns b m:=fun{b m} ⟨o,es,ep,e,d,r⟩=>⟨o,es,ep,BP e (RC e d),d,r⟩
  have Wq:=fun b o e=>BP (KX b o e) (by
   cases q:H b with
   | none=>rfl
   | some u=>
    have e':=hA b (by rw[q];simp);subst e';rw[hK (by rw[q];simp)] at e;cases e)
  show Qcw ((F _ Wq (SK DN)).run QfZ [] s₁ H {[.ref a],[]} [.ref a] [.ref a] _ _ hr ({rfl,({Wq,SK DN,{mb,SK hb,XZ},let ⟨mc,h1,h2⟩:=UI; {mc,SK h1,h2}}),fun b o e=>JE e,QdD (DH _ _),trivial,fun b hb=>absurd (show b∈([]:List KE) from hb) (by simp),bw,.of_eq hg}) (RK s₁ (.ref a)) (.cons rfl .nil) (wR H hO hS)) fun r s' h =>?_;cases r with
  | error e=>show(VT H e s' h).elim
  | ok fl=>
   cases fl with
   | next=>show QaV h
   | brk=>show QaV h
   | cont=>show QaV h
   | ret u=>
    obtain⟨v,H',os,bare,un,hok',r',q⟩:=h;subst q;obtain rfl:u=Qbw true:=r';show{rfl,OldK.of_keep fun b o e =>?_,os,bare};cases q:H b with
    | none=>show un.keep b o e q (by intro z;show absurd (show b∈([]:List KE) from z) (by simp)) (by simp)
    | some u=>
     rcases hO b with z|⟨ob,xs,z⟩
     ·rw[q] at z;cases z
     ·have z2:=un.j1 b ob _ z;obtain⟨e1,_⟩:=bw b _ z;obtain⟨e2,_⟩:=hok' b _ z2;rw[e] at e1;cases e1;show e2
 cases hk:K.lookup a with
 | some o=>
  have e:=KX a o hk;rw[ha] at e;cases e;show core (fun _=>none) (fun _ =>.inl rfl) (.inr {_,vs.toArray,_,hk,rfl,rfl,rfl,by rw[Ju,hi.length];show hl,by simpa using rv}) (fun b u z=>by have z':=z;cases z') (fun b z=>absurd rfl z) fun z=>absurd rfl z
 | none=>
  show core (fun b=>if b=a then some (.frz { cls := .type "list",data := .seq vs.toArray } (.lst (ns.map V.int))) else none) (fun b =>?_) (.inl (.inr ⟨{ cls := .type "list",data := .seq vs.toArray },if_pos rfl⟩)) (fun b u z =>?_) (fun b z =>?_) fun _=>hk
  ·by_cases hb:b=a
   ·show .inr {_,_,if_pos hb}
   ·show .inl (if_neg hb)
  ·by_cases hb:b=a
   ·have z':=(if_pos hb).symm.trans z;cases z';subst hb;show{ha,by rw[Jc];show hl,vs,_,rv,ha}
   ·have z':=(if_neg hb).symm.trans z;cases z'
  ·by_cases hb:b=a
   ·show hb
   ·show absurd (if_neg hb) z
def Kk {l:Qex}{n k:Nat}{q:Qac}{loose:List Str}{XP:(Str->Option Fk)->Heap->Prop}{YP:Qag->Heap->Prop}{d:DefRec}{K:Params->Ja}{CX:Qag->Fl}{sp:Qag->Sp}{x:Str}
  (hn:l.most=some n) (yN:n<=W1) (Qy:d.params.defaults=[]) (hr:dw k QfZ)
  (hY:∀(w:Qag) (h:Heap),YP w h->(K w.params).In h)
  (F:∀w mg fa h,(K w.params).In h->h.Ns QaI mg->mg d.name=some (.ref fa) ->
   ∃fd,(∀s u,Qf6 s fd ⟨[u],[]⟩ [(x,u)]) /\
    ∀base,(K w.params).In base->base.Ns QaI mg->aU l.prog w (K w.params) mg base (CX w) k fa fd [x] (sp w))
  (wR:∀(w:Qag) (H:Hp) (a:KE) (ns:List Int),ns.length<=n->N4 H->aW (K w.params) H a (ns.map V.int)->sp w [.ref a] H (fun v _=>v = .bl true) fun _ _ _=>False)
  (VT:∀(w:Qag) (H:Hp) (s:Gc) (e:Fk) (s':Gc),CX w [] H s (fun _ _ _=>False) e s'->False) :
  PySem.W.WalkO q loose XP YP l.row.toRowW d [] (fun f vs=>Qe7 f vs):=by
 show Att.xx hn Qy fun w s₀ s₁ mg mb fa o pm cd doc a vs ns G Y ho hd Ah hmg hobj hints hlen hg =>?_;have KX:=hY w _ Y;obtain⟨fd,hb,hF⟩:=F w mg fa _ KX G.T.g hmg;show EE KX G.T.g G.T.b G.T.builtins G.T.nolimit hg hobj hints (Jf hlen yN) hr hF hb (fun H hO hS=>wR w H a ns hlen hO hS) fun H e s'=>VT w H s₁ e s'
def inClass (s:QcU)(j:Nat):QcU:=match s with
 | .ClassDef _ _ _ body _ _ _ _ _ _ _=>body.getD j (.Pass ⟨0,0,0,0⟩)
 | _ =>.Pass ⟨0,0,0,0⟩
def cn (s:QcU):Arguments:=match s with
 | .FunctionDef _ a _ _ _ _ _ _ _ _=>a
 | _=>{ posonlyargs:=[],args:=[],vararg:=none,kwonlyargs:=[],kw_defaults:=[],kwarg:=none,defaults:=[] }
def bQ (s:QcU):List QcU:=match s with
 | .FunctionDef _ _ b _ _ _ _ _ _ _=>b
 | _=>[]
def ai (s:QcU):QbU:=match s with
 | .FunctionDef _ _ _ _ _ _ sc _ _ _=>sc
 | _=>{ kind := .function,names:=[],isGenerator:=false,isCoroutine:=false }
abbrev dX:Fl:=fun _ _ _ _ _ _=>False
abbrev E0:XK:=fun _ _ _=>False
def tX:Passes dX X E0:=fun _ _ _ _ _ _ _ h=>h.elim
structure eC (K:Ja)(x qual:Str)(st:QcU)(f:KE)(fd:Qal):Prop where
 ex:∃(oc:Fk) (od:Option KE) (kV doc pm:Fk) (an:Option KE) (gF ct:Fk) (xP:Array (Option Fk)),
  fd=We x qual (cn st) (bQ st) (ai st) .none kV doc pm an gF ct/\K.lookup f=some ⟨oc,od,.func fd,xP⟩/\Qdz K gF qual=true
 kp:Yj K (.ref f)=true
section
variable {P:Qac}{w:Qag}{K:Ja}{mg:Str->Option Fk}{base:Heap}
def eC.ok {st:QcU}{f:KE}{fd:Qal}{N ps:List Str}{k:Nat}{sp:Sp}(F:eC K x qual st f fd)(S:aD N ps (ai st))(len:∀vs H Q E,sp vs H Q E->vs.length=ps.length)
  (sy:∀gF A outer s H vs Q E,dw k (A.deeper (Qb5 qual (ai st) s.heap.objs.size f gF))->sp vs H Q E ->
   ∃t,yj (oJ dX P w K mg base N qual (ai st) f gF A outer s H E).Q1 (bQ st) t/\t { nx:=fun _ H'=>Q .non H',rt:=Q } (start N vs) H):aU P w K mg base dX (k+1) f fd ps sp:=by
 obtain⟨oc,od,kV,doc,pm,an,gF,ct,xP,rfl,lk,Ah⟩:=F.ex;show Lf lk Ah S len fun A outer s H vs Q E hr wR =>?_;obtain⟨t,h,q⟩:=sy gF A outer s H vs Q E hr wR;show⟨t,h.Q1,q⟩
def eC.binds {st:QcU}{f:KE}{fd:Qal}{ps:List Str}(F:eC K x qual st f fd)
  (h:∀kV doc pm an gF ct us,us.length=ps.length->Qgb (We x qual (cn st) (bQ st) (ai st) .none kV doc pm an gF ct) ⟨us,[]⟩=pure (ps.zip us)):Binds K fd ps []:=by
 obtain⟨oc,od,kV,doc,pm,an,gF,ct,xP,rfl,lk,Ah⟩:=F.ex;show .all (h kV doc pm an gF ct)
def vM {st:QcU}{f:KE}{oc:Fk}{od an:Option KE}{xP:Array (Option Fk)}{kV doc pm gF ct:Fk}(l:K.lookup f=some ⟨oc,od,.func (We x qual (cn st) (bQ st) (ai st) .none kV doc pm an gF ct),xP⟩)
  (c:Qdz K gF qual=true) (k:Yj K (.ref f)=true):eC K x qual st f (We x qual (cn st) (bQ st) (ai st) .none kV doc pm an gF ct):=⟨⟨oc,od,kV,doc,pm,an,gF,ct,xP,rfl,l,c⟩,k⟩
end
def lP {k:Nat}(hr:dw k A):A.units+1<QcY:=Jy (Nat.add_le_add_left (by decide:1<=64) _) hr.units
section
variable {X:Cx}
def pv (i:Nat){x:Str}{pos:Pos}(hN:X.N[i]? = some x:=by rfl)(hv:Q5 X.env.scope x:=by first|show Qd0 rfl|show Qep (Qd0 rfl)|show Qep (Qep rfl))(hd:(x==("__debug__" : Str))=false:=by decide)
  (Ah:(x==("__classdict__" : Str))=false:=by decide):PE X (.Name x pos) (K2 i):=MG hN hv hd Ah
end
def bf {A B:Prop}(h:B):if false=true then A else B:=by grind
def br {A B:Prop}(h:A):if true=true then A else B:=
 h
def eU {c A B:Prop}[Decidable c](h1:c->A)(h2:¬c->B):if c then A else B:=by grind
def aq (H H':Hp):Prop:=∀b o,H b=some o->H' b=some o
def aq.refl (H:Hp):aq H H:=fun _ _ h=>h
def aq.trans (a:aq H H1)(b:aq H1 H2):aq H H2:=fun c o h=>b c o (a c o h)
def aq.free (e:aq H H'){l:KE}(h:H' l=Option.none):H l=Option.none:=by
 cases q:H l with
 | none=>rfl
 | some o=>
  rw[e l o q] at h;cases h
def aq.seq {K:Ja}{H H':Hp}{a:KE}{xs:List V}(e:aq H H')(h:aW K H a xs):aW K H' a xs:=by
 rcases h with (h|⟨o,h⟩)|h
 ·show .inl (.inl (e _ _ h))
 ·show .inl (.inr {o,e _ _ h})
 ·show .inr h
end L2
namespace Z
open PySem L2
def top (i:Nat):QcU:=PySem.Challenge.pw_oddlong_k32_whole_texts_read.main.body.getD i (.Pass ⟨0,0,0,0⟩)
abbrev MX:Nat:=1
abbrev OS:Nat:=2
abbrev O7:Nat:=3
abbrev Q8:Nat:=4
abbrev oH:Nat:=5
abbrev rF:Nat:=6
abbrev Qe:Nat:=7
abbrev NS:Nat:=8
abbrev QU:Nat:=9
abbrev oV:Nat:=18
abbrev oN:Nat:=19
abbrev oA:Nat:=20
abbrev qJ:Nat:=21
abbrev kE:Nat:=22
abbrev nR:Nat:=23
abbrev kF:Nat:=24
abbrev kn:Nat:=26
abbrev oQ:Nat:=27
abbrev mz:Nat:=30
abbrev cZ:Nat:=31
abbrev j7:Nat:=32
abbrev ib:Nat:=33
abbrev kq:Nat:=34
abbrev gD:Nat:=35
abbrev oh:Nat:=37
abbrev mE:Nat:=38
abbrev Ak:Nat:=39
abbrev uU:Nat:=40
abbrev yL:Nat:=45
abbrev iW:Nat:=46
abbrev fh:Nat:=47
abbrev fJ:Nat:=48
abbrev kX:Nat:=50
abbrev lT:Nat:=51
abbrev mn:Nat:=52
abbrev kH:Nat:=53
abbrev ko:Nat:=54
abbrev ki:Nat:=55
abbrev kj:Nat:=56
abbrev kg:Nat:=57
abbrev mw:Nat:=58
abbrev iO:Nat:=59
abbrev kc:Nat:=60
abbrev ip:Nat:=61
abbrev nX:Nat:=62
abbrev gu:Nat:=63
abbrev kG:Nat:=64
abbrev gW:Nat:=65
abbrev gz:Nat:=66
abbrev fq:Nat:=67
abbrev hV:Nat:=68
abbrev iL:Nat:=69
abbrev iH:Nat:=70
abbrev qE:Nat:=71
abbrev oM:Nat:=72
abbrev mx:Nat:=73
abbrev mB:Nat:=74
abbrev iY:Nat:=75
end Z
set_option maxHeartbeats 0
namespace Z
open PySem PySem.W PySem.Calls PyProof.Rows L2
def Rj (s:QcU):Pos:=match s with
 | .FunctionDef _ _ _ _ _ _ _ _ _ p=>p
 | _=>default
@[reducible] noncomputable def hs (s:String) (t:Nat):Fk := .str (.ofString s) t
@[reducible] noncomputable def hy (P:Params) (s:String) (t:Nat) (v:Fk):QdN:=⟨PyData.keyHash P (.ofString s),.str (.ofString s) t,v⟩
@[reducible] noncomputable def ht (xs:Array Fk):Obj:=⟨.type "tuple",none,.seq xs 0,#[]⟩
@[reducible] noncomputable def hf (n q:String) (s:QcU) (m:Fk) (c:KE):Obj:=⟨.type "function",none,.func (fnOf (.ofString n) (.ofString q) (cn s) (bQ s) (ai s) .none .none .none m none (.ref c) .none),#[]⟩
@[reducible] noncomputable def hc (n:String) (t1:Nat) (q:String) (t2 t3:Nat) (i1 i2 i3:Int) (r1:KE) (b:Bool) (i4:Int) (r2 r3 r4 r5:KE) (i5 i6:Int) (t4:Nat):Obj:=⟨.type "code",none,.fields #[.str (.ofString n) t1,.str (.ofString q) t2,.str (.ofString "/claim/cut.py") t3,.int i1 0,.int i2 0,.int 0 0,.int 0 0,.int i3 0,.ref r1,.bool b,.int i4 0,.ref r2,.none,.ref r3,.ref r4,.ref r5,.int i5 0,.int i6 0,.str (.ofString "/claim/cut.py") t4],#[]⟩
@[reducible] noncomputable def hk (n:String) (t1 t2 t3:Nat) (i1 i2 i3:Int) (r1:KE) (b:Bool) (i4:Int) (r2 r3 r4 r5:KE) (i5 i6:Int) (t4:Nat):Obj:=hc n t1 n t2 t3 i1 i2 i3 r1 b i4 r2 r3 r4 r5 i5 i6 t4
@[reducible] noncomputable def hg (n:String) (i:Nat) (m:Fk) (c:KE):Obj:=hf n n (top i) m c
@[reducible] noncomputable def Qr:Fk:=(hs "oddlong.errors" 187)
@[reducible] noncomputable def NZ:Fk:=(hs "oddlong.shared" 389)
@[reducible] noncomputable def Xx:Fk:=(hs "oddlong.texts" 508)
@[reducible] noncomputable def KL:Fk:=(hs "oddlong.bare" 528)
@[reducible] noncomputable def Sl:Fk:=(hs "oddlong.books" 658)
@[reducible] noncomputable def R9:Fk:=(hs "oddlong.forms" 692)
@[reducible] noncomputable def pI:Fk:=(hs "law_oddlong_k32_whole_texts_read" 761)
def Tc:Params->Frag:=fun P=>
 (nat_lit 3,⟨(.type "dict"),none,(.dict #[hy P "__name__" 165 (hs "law_oddlong_k32_whole_texts_read" 761),hy P "__doc__" 166 .none,hy P "__package__" 167 .none,hy P "__loader__" 168 (.builtin "__main__.__loader__#opaque"),hy P "__spec__" 169 .none,hy P "__annotations__" 170 (.ref 6),hy P "__builtins__" 171 (.ref 4),hy P "__file__" 173 (hs "/claim/cut.py" 172),hy P "__cached__" 174 .none,hy P "OddError" 206 (.ref 24),hy P "TooFull" 222 (.ref 37),hy P "NoPlace" 238 (.ref 49),hy P "NoName" 263 (.ref 68),hy P "BadText" 288 (.ref 87),hy P "NoForm" 313 (.ref 106),hy P "TooFar" 338 (.ref 125),hy P "NoTarget" 363 (.ref 144),hy P "BadRow" 388 (.ref 163),hy P "SIGNS" 392 (hs "01" 391),hy P "SMALL_LETTERS" 394 (hs "abcdefghijklmnopqrstuvwxyz" 393),hy P "LONGEST_NAME" 396 (.int 8 395),hy P "SPOT_NAMES" 401 (.ref 166),hy P "SIZE_NAMES" 411 (.ref 167),hy P "JUMPS" 414 (.ref 168),hy P "PARTS" 452 (.ref 169),hy P "made_of" 460 (.ref 187),hy P "is_name" 467 (.ref 194),hy P "is_code" 474 (.ref 201),hy P "two_to" 483 (.ref 208),hy P "number_of" 492 (.ref 215),hy P "rest_of" 500 (.ref 222),hy P "is_number" 507 (.ref 229),hy P "lookup_of" 515 (.ref 234),hy P "code_at" 527 (.ref 241),hy P "SKIP_FIGURES" 531 (.int 3 530),hy P "bares_of" 544 (.ref 248),hy P "Reader" 613 (.ref 286),hy P "name_from" 625 (.ref 297),hy P "figures_from" 636 (.ref 304),hy P "many_from" 646 (.ref 311),hy P "distance_from" 657 (.ref 318),hy P "is_book" 665 (.ref 323),hy P "is_entry" 672 (.ref 330),hy P "free" 679 (.ref 337),hy P "clash" 691 (.ref 344),hy P "LEAST_NEAR" 695 (.int 2 694),hy P "MOST_NEAR" 697 (.int 8 696),hy P "MOST_FAR" 699 (.int 16 698),hy P "Form" 737 (.ref 361),hy P "first_wrong" 748 (.ref 372),hy P "is_free_book_of" 754 (.ref 377),hy P "far_is_shorter" 760 (.ref 382),hy P "_law_begin" 770 (.ref 389),hy P "_law_take" 784 (.ref 396),hy P "_law_same" 790 (.ref 401),hy P "_law_mixed" 800 (.ref 408),hy P "_law_codes" 806 (.ref 413),hy P "_law_kinds" 812 (.ref 420),hy P "_law_sizes" 818 (.ref 427),hy P "_law_parts" 833 (.ref 434),hy P "_law_form" 840 (.ref 441),hy P "_law_figures" 850 (.ref 448),hy P "_law_power" 859 (.ref 455),hy P "_law_far_word" 866 (.ref 462),hy P "_law_put" 872 (.ref 467),hy P "_law_some_bare" 887 (.ref 474),hy P "_law_class" 896 (.ref 481),hy P "_law_names_at" 902 (.ref 486),hy P "_law_number_by" 911 (.ref 493),hy P "_law_far_figures" 923 (.ref 500),hy P "_law_spots_at" 936 (.ref 507),hy P "_law_size_at" 948 (.ref 514),hy P "_law_skip_at" 958 (.ref 521),hy P "_law_at" 973 (.ref 528),hy P "_law_due" 984 (.ref 535),hy P "_law_bent" 990 (.ref 540),hy P "_law_told" 1001 (.ref 547),hy P "law" 1007 (.ref 552)] 78),#[]⟩) ::
 (nat_lit 23,⟨(.type "dict"),none,(.dict #[hy P "__module__" 196 (hs "oddlong.errors" 187),hy P "__firstlineno__" 200 (.int 2 199),hy P "__static_attributes__" 201 (.ref 22),hy P "__weakref__" 203 (.ref 25),hy P "__doc__" 204 .none] 3),#[]⟩) ::
 (nat_lit 24,⟨(.type "type"),none,(.cls ⟨(.ofString "OddError"),[(.type "ValueError")],[(.ref 24),(.type "ValueError"),(.type "Exception"),(.type "BaseException"),(.type "object")],23,(.ofString "OddError"),true,[],[(.ref 37),(.ref 49),(.ref 68),(.ref 87),(.ref 106),(.ref 125),(.ref 144),(.ref 163)],false,none,false⟩),#[(some (.ref 15)),none,(some (hs "OddError" 189)),(some (hs "OddError" 197)),(some (.builtin "ValueError.__new__")),(some (.bool true))]⟩) ::
 (nat_lit 37,⟨(.type "type"),none,(.cls ⟨(.ofString "TooFull"),[(.ref 24)],[(.ref 37),(.ref 24),(.type "ValueError"),(.type "Exception"),(.type "BaseException"),(.type "object")],36,(.ofString "TooFull"),true,[],[],false,none,false⟩),#[(some (.ref 28)),none,(some (hs "TooFull" 207)),(some (hs "TooFull" 215)),(some (.builtin "ValueError.__new__")),(some (.bool true))]⟩) ::
 (nat_lit 49,⟨(.type "type"),none,(.cls ⟨(.ofString "NoPlace"),[(.ref 24)],[(.ref 49),(.ref 24),(.type "ValueError"),(.type "Exception"),(.type "BaseException"),(.type "object")],48,(.ofString "NoPlace"),true,[],[],false,none,false⟩),#[(some (.ref 40)),none,(some (hs "NoPlace" 223)),(some (hs "NoPlace" 231)),(some (.builtin "ValueError.__new__")),(some (.bool true))]⟩) ::
 (nat_lit 68,⟨(.type "type"),none,(.cls ⟨(.ofString "NoName"),[(.ref 24)],[(.ref 68),(.ref 24),(.type "ValueError"),(.type "Exception"),(.type "BaseException"),(.type "object")],67,(.ofString "NoName"),true,[],[],false,none,false⟩),#[(some (.ref 52)),none,(some (hs "NoName" 239)),(some (hs "NoName" 247)),(some (.builtin "ValueError.__new__")),(some (.bool true))]⟩) ::
 (nat_lit 83,hc "__init__" 276 "BadText.__init__" 277 278 14 2 3 78 true 181 79 80 81 82 281 14 282) ::
 (nat_lit 84,hf "__init__" "BadText.__init__" (inClass (top 5) 0) Qr 83) ::
 (nat_lit 86,⟨(.type "dict"),none,(.dict #[hy P "__module__" 271 (hs "oddlong.errors" 187),hy P "__firstlineno__" 275 (.int 12 274),hy P "__init__" 283 (.ref 84),hy P "__static_attributes__" 285 (.ref 85),hy P "__doc__" 286 .none] 2),#[]⟩) ::
 (nat_lit 87,⟨(.type "type"),none,(.cls ⟨(.ofString "BadText"),[(.ref 24)],[(.ref 87),(.ref 24),(.type "ValueError"),(.type "Exception"),(.type "BaseException"),(.type "object")],86,(.ofString "BadText"),true,[],[],false,none,false⟩),#[(some (.ref 71)),none,(some (hs "BadText" 264)),(some (hs "BadText" 272)),(some (.builtin "ValueError.__new__")),(some (.bool true))]⟩) ::
 (nat_lit 102,hc "__init__" 301 "NoForm.__init__" 302 303 18 2 3 97 true 181 98 99 100 101 306 18 307) ::
 (nat_lit 103,hf "__init__" "NoForm.__init__" (inClass (top 6) 0) Qr 102) ::
 (nat_lit 105,⟨(.type "dict"),none,(.dict #[hy P "__module__" 296 (hs "oddlong.errors" 187),hy P "__firstlineno__" 300 (.int 16 299),hy P "__init__" 308 (.ref 103),hy P "__static_attributes__" 310 (.ref 104),hy P "__doc__" 311 .none] 2),#[]⟩) ::
 (nat_lit 106,⟨(.type "type"),none,(.cls ⟨(.ofString "NoForm"),[(.ref 24)],[(.ref 106),(.ref 24),(.type "ValueError"),(.type "Exception"),(.type "BaseException"),(.type "object")],105,(.ofString "NoForm"),true,[],[],false,none,false⟩),#[(some (.ref 90)),none,(some (hs "NoForm" 289)),(some (hs "NoForm" 297)),(some (.builtin "ValueError.__new__")),(some (.bool true))]⟩) ::
 (nat_lit 125,⟨(.type "type"),none,(.cls ⟨(.ofString "TooFar"),[(.ref 24)],[(.ref 125),(.ref 24),(.type "ValueError"),(.type "Exception"),(.type "BaseException"),(.type "object")],124,(.ofString "TooFar"),true,[],[],false,none,false⟩),#[(some (.ref 109)),none,(some (hs "TooFar" 314)),(some (hs "TooFar" 322)),(some (.builtin "ValueError.__new__")),(some (.bool true))]⟩) ::
 (nat_lit 144,⟨(.type "type"),none,(.cls ⟨(.ofString "NoTarget"),[(.ref 24)],[(.ref 144),(.ref 24),(.type "ValueError"),(.type "Exception"),(.type "BaseException"),(.type "object")],143,(.ofString "NoTarget"),true,[],[],false,none,false⟩),#[(some (.ref 128)),none,(some (hs "NoTarget" 339)),(some (hs "NoTarget" 347)),(some (.builtin "ValueError.__new__")),(some (.bool true))]⟩) ::
 (nat_lit 163,⟨(.type "type"),none,(.cls ⟨(.ofString "BadRow"),[(.ref 24)],[(.ref 163),(.ref 24),(.type "ValueError"),(.type "Exception"),(.type "BaseException"),(.type "object")],162,(.ofString "BadRow"),true,[],[],false,none,false⟩),#[(some (.ref 147)),none,(some (hs "BadRow" 364)),(some (hs "BadRow" 372)),(some (.builtin "ValueError.__new__")),(some (.bool true))]⟩) ::
 (nat_lit 166,ht #[(hs "a" 397),(hs "b" 398),(hs "c" 399),(hs "d" 400)]) ::
 (nat_lit 167,ht #[(hs "none" 402),(hs "one" 403),(hs "two" 404),(hs "three" 405),(hs "four" 406),(hs "five" 407),(hs "six" 408),(hs "seven" 409),(hs "eight" 410)]) ::
 (nat_lit 168,ht #[(hs "jump" 412),(hs "zero" 413)]) ::
 (nat_lit 169,⟨(.type "dict"),none,(.dict #[hy P "set" 415 (.ref 170),hy P "add" 418 (.ref 171),hy P "take" 421 (.ref 172),hy P "tell" 424 (.ref 173),hy P "ask" 426 (.ref 174),hy P "jump" 428 (.ref 175),hy P "zero" 430 (.ref 176),hy P "stop" 433 (.ref 177),hy P "farjump" 434 (.ref 178),hy P "farzero" 436 (.ref 179),hy P "skip" 439 (.ref 180)] 11),#[]⟩) ::
 (nat_lit 170,ht #[(hs "spot" 416),(hs "number" 417)]) ::
 (nat_lit 171,ht #[(hs "spot" 419),(hs "spot" 420)]) ::
 (nat_lit 172,ht #[(hs "spot" 422),(hs "spot" 423)]) ::
 (nat_lit 173,ht #[(hs "spot" 425)]) ::
 (nat_lit 174,ht #[(hs "spot" 427)]) ::
 (nat_lit 175,ht #[(hs "near" 429)]) ::
 (nat_lit 176,ht #[(hs "spot" 431),(hs "near" 432)]) ::
 (nat_lit 177,ht #[]) ::
 (nat_lit 178,ht #[(hs "far" 435)]) ::
 (nat_lit 179,ht #[(hs "spot" 437),(hs "far" 438)]) ::
 (nat_lit 180,ht #[(hs "many" 440)]) ::
 (nat_lit 186,hk "made_of" 453 454 455 40 2 3 181 true 181 182 183 184 185 458 40 459) ::
 (nat_lit 187,hg "made_of" 18 NZ 186) ::
 (nat_lit 193,hk "is_name" 461 462 463 42 1 3 188 true 181 189 190 191 192 465 42 466) ::
 (nat_lit 194,hg "is_name" 19 NZ 193) ::
 (nat_lit 200,hk "is_code" 468 469 470 44 1 3 195 true 181 196 197 198 199 472 44 473) ::
 (nat_lit 201,hg "is_code" 20 NZ 200) ::
 (nat_lit 207,hk "two_to" 475 476 477 46 1 3 202 true 181 203 204 205 206 481 46 482) ::
 (nat_lit 208,hg "two_to" 21 NZ 207) ::
 (nat_lit 214,hk "number_of" 484 485 486 51 1 3 209 true 181 210 211 212 213 490 51 491) ::
 (nat_lit 215,hg "number_of" 22 NZ 214) ::
 (nat_lit 221,hk "rest_of" 493 494 495 56 2 3 216 true 181 217 218 219 220 498 56 499) ::
 (nat_lit 222,hg "rest_of" 23 NZ 221) ::
 (nat_lit 228,hk "is_number" 501 502 503 62 1 3 223 true 181 224 225 226 227 505 62 506) ::
 (nat_lit 229,hg "is_number" 24 NZ 228) ::
 (nat_lit 233,⟨(.type "code"),none,(.fields #[(hs "lookup_of" 510),(hs "lookup_of" 511),(hs "/claim/cut.py" 512),(.int 65 0),(.int 1 0),(.int 0 0),(.int 0 0),(.int 3 0),(.ref 230),(.bool true),(.int 181 0),(.ref 231),.none,.none,.none,(.ref 232),(.int 513 0),(.int 65 0),(hs "/claim/cut.py" 514)]),#[]⟩) ::
 (nat_lit 234,hg "lookup_of" 26 Xx 233) ::
 (nat_lit 240,hk "code_at" 516 517 518 67 4 3 235 true 181 236 237 238 239 525 67 526) ::
 (nat_lit 241,hg "code_at" 27 Xx 240) ::
 (nat_lit 247,hk "bares_of" 532 533 534 75 2 3 242 true 181 243 244 245 246 542 75 543) ::
 (nat_lit 248,hg "bares_of" 30 KL 247) ::
 (nat_lit 261,hc "__init__" 557 "Reader.__init__" 558 559 88 2 3 256 true 181 257 258 259 260 562 88 563) ::
 (nat_lit 262,hf "__init__" "Reader.__init__" (inClass (top 31) 0) KL 261) ::
 (nat_lit 268,hc "bare_from" 565 "Reader.bare_from" 566 567 95 3 3 263 true 181 264 265 266 267 576 95 577) ::
 (nat_lit 269,hf "bare_from" "Reader.bare_from" (inClass (top 31) 1) KL 268) ::
 (nat_lit 275,hc "part_from" 579 "Reader.part_from" 580 581 107 4 3 270 true 181 271 272 273 274 586 107 587) ::
 (nat_lit 276,hf "part_from" "Reader.part_from" (inClass (top 31) 2) KL 275) ::
 (nat_lit 282,hc "number_from" 589 "Reader.number_from" 590 591 116 3 3 277 true 181 278 279 280 281 598 116 599) ::
 (nat_lit 283,hf "number_from" "Reader.number_from" (inClass (top 31) 3) KL 282) ::
 (nat_lit 285,⟨(.type "dict"),none,(.dict #[hy P "__module__" 552 (hs "oddlong.bare" 528),hy P "__firstlineno__" 556 (.int 86 555),hy P "__init__" 564 (.ref 262),hy P "bare_from" 578 (.ref 269),hy P "part_from" 588 (.ref 276),hy P "number_from" 600 (.ref 283),hy P "__static_attributes__" 606 (.ref 284),hy P "__dict__" 608 (.ref 287),hy P "__weakref__" 610 (.ref 288),hy P "__doc__" 611 .none] 4),#[]⟩) ::
 (nat_lit 286,⟨(.type "type"),none,(.cls ⟨(.ofString "Reader"),[(.type "object")],[(.ref 286),(.type "object")],285,(.ofString "Reader"),true,[],[],false,none,false⟩),#[none,none,(some (hs "Reader" 545)),(some (hs "Reader" 553)),(some (.builtin "object.__new__")),(some (.bool true))]⟩) ::
 (nat_lit 296,hk "name_from" 614 615 616 124 3 3 291 true 181 292 293 294 295 623 124 624) ::
 (nat_lit 297,hg "name_from" 32 KL 296) ::
 (nat_lit 303,hk "figures_from" 626 627 628 130 4 3 298 true 181 299 300 301 302 634 130 635) ::
 (nat_lit 304,hg "figures_from" 33 KL 303) ::
 (nat_lit 310,hk "many_from" 637 638 639 135 2 3 305 true 181 306 307 308 309 644 135 645) ::
 (nat_lit 311,hg "many_from" 34 KL 310) ::
 (nat_lit 317,hk "distance_from" 647 648 649 140 3 3 312 true 181 313 314 315 316 655 140 656) ::
 (nat_lit 318,hg "distance_from" 35 KL 317) ::
 (nat_lit 322,⟨(.type "code"),none,(.fields #[(hs "is_book" 660),(hs "is_book" 661),(hs "/claim/cut.py" 662),(.int 148 0),(.int 1 0),(.int 0 0),(.int 0 0),(.int 3 0),(.ref 319),(.bool true),(.int 181 0),(.ref 320),.none,.none,.none,(.ref 321),(.int 663 0),(.int 148 0),(hs "/claim/cut.py" 664)]),#[]⟩) ::
 (nat_lit 323,hg "is_book" 37 Sl 322) ::
 (nat_lit 329,hk "is_entry" 666 667 668 154 1 3 324 true 181 325 326 327 328 670 154 671) ::
 (nat_lit 330,hg "is_entry" 38 Sl 329) ::
 (nat_lit 336,hk "free" 673 674 675 156 1 3 331 true 181 332 333 334 335 677 156 678) ::
 (nat_lit 337,hg "free" 39 Sl 336) ::
 (nat_lit 343,hk "clash" 680 681 682 158 1 3 338 true 181 339 340 341 342 689 158 690) ::
 (nat_lit 344,hg "clash" 40 Sl 343) ::
 (nat_lit 357,hc "__init__" 712 "Form.__init__" 713 714 170 6 3 352 true 181 353 354 355 356 722 170 723) ::
 (nat_lit 358,hf "__init__" "Form.__init__" (inClass (top 45) 0) R9 357) ::
 (nat_lit 360,⟨(.type "dict"),none,(.dict #[hy P "__module__" 707 (hs "oddlong.forms" 692),hy P "__firstlineno__" 711 (.int 168 710),hy P "__init__" 724 (.ref 358),hy P "__static_attributes__" 730 (.ref 359),hy P "__dict__" 732 (.ref 362),hy P "__weakref__" 734 (.ref 363),hy P "__doc__" 735 .none] 4),#[]⟩) ::
 (nat_lit 361,⟨(.type "type"),none,(.cls ⟨(.ofString "Form"),[(.type "object")],[(.ref 361),(.type "object")],360,(.ofString "Form"),true,[],[],false,none,false⟩),#[none,none,(some (hs "Form" 700)),(some (hs "Form" 708)),(some (.builtin "object.__new__")),(some (.bool true))]⟩) ::
 (nat_lit 371,hk "first_wrong" 738 739 740 179 5 3 366 true 181 367 368 369 370 746 179 747) ::
 (nat_lit 372,hg "first_wrong" 46 R9 371) ::
 (nat_lit 376,⟨(.type "code"),none,(.fields #[(hs "is_free_book_of" 749),(hs "is_free_book_of" 750),(hs "/claim/cut.py" 751),(.int 191 0),(.int 2 0),(.int 0 0),(.int 0 0),(.int 3 0),(.ref 373),(.bool true),(.int 181 0),(.ref 374),.none,.none,.none,(.ref 375),(.int 752 0),(.int 191 0),(hs "/claim/cut.py" 753)]),#[]⟩) ::
 (nat_lit 377,hg "is_free_book_of" 47 R9 376) ::
 (nat_lit 381,⟨(.type "code"),none,(.fields #[(hs "far_is_shorter" 755),(hs "far_is_shorter" 756),(hs "/claim/cut.py" 757),(.int 196 0),(.int 3 0),(.int 0 0),(.int 0 0),(.int 3 0),(.ref 378),(.bool true),(.int 181 0),(.ref 379),.none,.none,.none,(.ref 380),(.int 758 0),(.int 196 0),(hs "/claim/cut.py" 759)]),#[]⟩) ::
 (nat_lit 382,hg "far_is_shorter" 48 R9 381) ::
 (nat_lit 388,hk "_law_begin" 763 764 765 200 1 3 383 true 181 384 385 386 387 768 200 769) ::
 (nat_lit 389,hg "_law_begin" 50 pI 388) ::
 (nat_lit 395,hk "_law_take" 771 772 773 205 2 3 390 true 181 391 392 393 394 782 205 783) ::
 (nat_lit 396,hg "_law_take" 51 pI 395) ::
 (nat_lit 400,⟨(.type "code"),none,(.fields #[(hs "_law_same" 785),(hs "_law_same" 786),(hs "/claim/cut.py" 787),(.int 217 0),(.int 2 0),(.int 0 0),(.int 0 0),(.int 3 0),(.ref 397),(.bool true),(.int 181 0),(.ref 398),.none,.none,.none,(.ref 399),(.int 788 0),(.int 217 0),(hs "/claim/cut.py" 789)]),#[]⟩) ::
 (nat_lit 401,hg "_law_same" 52 pI 400) ::
 (nat_lit 407,hk "_law_mixed" 791 792 793 231 2 3 402 true 181 403 404 405 406 798 231 799) ::
 (nat_lit 408,hg "_law_mixed" 53 pI 407) ::
 (nat_lit 412,⟨(.type "code"),none,(.fields #[(hs "_law_codes" 801),(hs "_law_codes" 802),(hs "/claim/cut.py" 803),(.int 237 0),(.int 3 0),(.int 0 0),(.int 0 0),(.int 3 0),(.ref 409),(.bool true),(.int 181 0),(.ref 410),.none,.none,.none,(.ref 411),(.int 804 0),(.int 237 0),(hs "/claim/cut.py" 805)]),#[]⟩) ::
 (nat_lit 413,hg "_law_codes" 54 pI 412) ::
 (nat_lit 419,hk "_law_kinds" 807 808 809 247 0 3 414 true 181 415 416 417 418 810 247 811) ::
 (nat_lit 420,hg "_law_kinds" 55 pI 419) ::
 (nat_lit 426,hk "_law_sizes" 813 814 815 249 0 3 421 true 181 422 423 424 425 816 249 817) ::
 (nat_lit 427,hg "_law_sizes" 56 pI 426) ::
 (nat_lit 433,hk "_law_parts" 819 820 821 251 1 3 428 true 181 429 430 431 432 831 251 832) ::
 (nat_lit 434,hg "_law_parts" 57 pI 433) ::
 (nat_lit 440,hk "_law_form" 834 835 836 263 1 3 435 true 181 436 437 438 439 838 263 839) ::
 (nat_lit 441,hg "_law_form" 58 pI 440) ::
 (nat_lit 447,hk "_law_figures" 841 842 843 265 2 3 442 true 181 443 444 445 446 848 265 849) ::
 (nat_lit 448,hg "_law_figures" 59 pI 447) ::
 (nat_lit 454,hk "_law_power" 851 852 853 271 1 3 449 true 181 450 451 452 453 857 271 858) ::
 (nat_lit 455,hg "_law_power" 60 pI 454) ::
 (nat_lit 461,hk "_law_far_word" 860 861 862 276 1 3 456 true 181 457 458 459 460 864 276 865) ::
 (nat_lit 462,hg "_law_far_word" 61 pI 461) ::
 (nat_lit 466,⟨(.type "code"),none,(.fields #[(hs "_law_put" 867),(hs "_law_put" 868),(hs "/claim/cut.py" 869),(.int 278 0),(.int 2 0),(.int 0 0),(.int 0 0),(.int 3 0),(.ref 463),(.bool true),(.int 181 0),(.ref 464),.none,.none,.none,(.ref 465),(.int 870 0),(.int 278 0),(hs "/claim/cut.py" 871)]),#[]⟩) ::
 (nat_lit 467,hg "_law_put" 62 pI 466) ::
 (nat_lit 473,hk "_law_some_bare" 873 874 875 297 3 3 468 true 181 469 470 471 472 885 297 886) ::
 (nat_lit 474,hg "_law_some_bare" 63 pI 473) ::
 (nat_lit 480,hk "_law_class" 888 889 890 314 1 3 475 true 181 476 477 478 479 894 314 895) ::
 (nat_lit 481,hg "_law_class" 64 pI 480) ::
 (nat_lit 485,⟨(.type "code"),none,(.fields #[(hs "_law_names_at" 897),(hs "_law_names_at" 898),(hs "/claim/cut.py" 899),(.int 326 0),(.int 3 0),(.int 0 0),(.int 0 0),(.int 3 0),(.ref 482),(.bool true),(.int 181 0),(.ref 483),.none,.none,.none,(.ref 484),(.int 900 0),(.int 326 0),(hs "/claim/cut.py" 901)]),#[]⟩) ::
 (nat_lit 486,hg "_law_names_at" 65 pI 485) ::
 (nat_lit 492,hk "_law_number_by" 903 904 905 328 1 3 487 true 181 488 489 490 491 909 328 910) ::
 (nat_lit 493,hg "_law_number_by" 66 pI 492) ::
 (nat_lit 499,hk "_law_far_figures" 912 913 914 333 4 3 494 true 181 495 496 497 498 921 333 922) ::
 (nat_lit 500,hg "_law_far_figures" 67 pI 499) ::
 (nat_lit 506,hk "_law_spots_at" 924 925 926 339 4 3 501 true 181 502 503 504 505 934 339 935) ::
 (nat_lit 507,hg "_law_spots_at" 68 pI 506) ::
 (nat_lit 513,hk "_law_size_at" 937 938 939 348 3 3 508 true 181 509 510 511 512 946 348 947) ::
 (nat_lit 514,hg "_law_size_at" 69 pI 513) ::
 (nat_lit 520,hk "_law_skip_at" 949 950 951 358 2 3 515 true 181 516 517 518 519 956 358 957) ::
 (nat_lit 521,hg "_law_skip_at" 70 pI 520) ::
 (nat_lit 527,hk "_law_at" 959 960 961 362 3 3 522 true 181 523 524 525 526 971 362 972) ::
 (nat_lit 528,hg "_law_at" 71 pI 527) ::
 (nat_lit 534,hk "_law_due" 974 975 976 379 2 3 529 true 181 530 531 532 533 982 379 983) ::
 (nat_lit 535,hg "_law_due" 72 pI 534) ::
 (nat_lit 539,⟨(.type "code"),none,(.fields #[(hs "_law_bent" 985),(hs "_law_bent" 986),(hs "/claim/cut.py" 987),(.int 388 0),(.int 2 0),(.int 0 0),(.int 0 0),(.int 3 0),(.ref 536),(.bool true),(.int 181 0),(.ref 537),.none,.none,.none,(.ref 538),(.int 988 0),(.int 388 0),(hs "/claim/cut.py" 989)]),#[]⟩) ::
 (nat_lit 540,hg "_law_bent" 73 pI 539) ::
 (nat_lit 546,hk "_law_told" 991 992 993 403 2 3 541 true 181 542 543 544 545 999 403 1000) ::
 (nat_lit 547,hg "_law_told" 74 pI 546) ::
 (nat_lit 551,⟨(.type "code"),none,(.fields #[(hs "law" 1002),(hs "law" 1003),(hs "/claim/cut.py" 1004),(.int 410 0),(.int 1 0),(.int 0 0),(.int 0 0),(.int 3 0),(.ref 548),(.bool true),(.int 181 0),(.ref 549),.none,.none,.none,(.ref 550),(.int 1005 0),(.int 410 0),(hs "/claim/cut.py" 1006)]),#[]⟩) ::
 (nat_lit 552,hg "law" 75 pI 551)::[]
def Xf:List KE:=3::23::24::37::49::68::83::84::86::87::102::103::105::106::125::144::163::166::167::168::169::170::171::172::173::174::175::176::177::178::179::180::186::187::193::194::200::201::207::208::214::215::221::222::228::229::233::234::240::241::247::248::261::262::268::269::275::276::282::283::285::286::296::297::303::304::310::311::317::318::322::323::329::330::336::337::343::344::357::358::360::361::371::372::376::377::381::382::388::389::395::396::400::401::407::408::412::413::419::420::426::427::433::434::440::441::447::448::454::455::461::462::466::467::473::474::480::481::485::486::492::493::499::500::506::507::513::514::520::521::527::528::534::535::539::540::546::547::551::552::[]
def Cn:Qac:=view PySem.Challenge.pw_oddlong_k32_whole_texts_read [1,2,3,4,5,6,7,8,9,11,12,13,14,15,16,17,18,19,20,21,22,23,24,26,27,29,30,31,32,33,34,35,37,38,39,40,42,43,44,45,46,47,48,50,51,52,53,54,55,56,57,58,59,60,61,62,63,64,65,66,67,68,69,70,71,72,73,74,75]
def Ot:List Str:=[.ofString "PARTS"]
def OC:∀P,Xf=(Tc P).map (·.1):=fun _=>by kernel_rfl
abbrev LA:Hook:=kHook Tc Xf OC
abbrev Xr:Gc->Bool:=fun s=>xlAt Cn [] s&&recOk (RowW.records (QeP (Qeq PySem.Challenge.rw_oddlong_k32_whole_texts_read))) s
def IX {p q:Qac}{loose:List Str}{Xt:Gc->Bool}{α:Type}{Yf:Gc -> α}{Ya:Qag -> α}{N:Nat}{g0:Bool}(e:opening p=plainProg p.main.scope.names)(hN:Nat.ble 600 N=true)(f:∀s,fenceModules? p s=some s)
  (h:∀w:Qag,(fun os=>(Qdm treeTable p w N ⟨boot_heap w.params,Array.mk [],boot_drawn,boot_toks,os⟩).map fun s=>(openSeen q loose (importedModules p.main.body) Xt g0 s,Yf s))=fun _=>some (openGood q loose,Ya w)):LeftO p q loose Xt Yf Ya N g0:=fun w=>by
 obtain⟨⟨hp,gs,d,k,os⟩,e1,e2⟩:=Option.map_eq_some_iff.mp (boot_open e hN f w);obtain⟨rfl,rfl,rfl,rfl⟩:hp=boot_heap w.params/\gs=Array.mk []/\d=boot_drawn/\k=boot_toks:=by simpa using e2
 unfold openEnds;rw[e1];show congrFun (h w) os
def Ip:OpenLaw.wellSaid PySem.Challenge.rw_oddlong_k32_whole_texts_read=true:=by
 rw[PySem.W.Fast.te9446332074065402090]
 kernel_rfl
abbrev AL (w:Qag)(os:OsState):Option Gc:=Qdm treeTable PySem.Challenge.pw_oddlong_k32_whole_texts_read w 9052 ⟨boot_heap w.params,Array.mk [],boot_drawn,boot_toks,os⟩
abbrev wb (s:Gc):=openSeen Cn Ot (importedModules PySem.Challenge.pw_oddlong_k32_whole_texts_read.main.body) Xr true s
abbrev DP (w:Qag):Prop:=(fun os=>(AL (w) os).map fun s=>((wb s).1,(wb s).2.1,(wb s).2.2.2.2.2.2.1,(wb s).2.2.2.2.2.2.2.2))=fun _=>some (expectedOf Cn,bltViewBooted,plainGoodD Cn Ot,clsGoodW Cn Ot)
def C9 (w:Qag):DP (w.withFollow "special-get-raises" false):=by
 unfold DP AL wb Qdm;rw[Qat,Qas,Qax]
 kernel_rfl
def F1 (w:Qag):DP (w.withFollow "special-get-raises" true):=by
 unfold DP AL wb Qdm;rw[Qat,Qas,Qax]
 kernel_rfl
def Rm (w:Qag):DP w:=byRow2 "special-get-raises" (P:=DP) C9 F1 w
abbrev Eb (w:Qag):Prop:=(fun os=>(AL (w) os).map fun s=>((wb s).2.2.1,(wb s).2.2.2.1))=fun _=>some (true,true)
def Ee (w:Qag):Eb (w.withFollow "special-get-raises" false):=by
 unfold Eb AL wb Qdm;rw[Qat,Qas,Qax]
 kernel_rfl
def Gb (w:Qag):Eb (w.withFollow "special-get-raises" true):=by
 unfold Eb AL wb Qdm;rw[Qat,Qas,Qax]
 kernel_rfl
def RN (w:Qag):Eb w:=byRow2 "special-get-raises" (P:=Eb) Ee Gb w
abbrev DC (w:Qag):Prop:=(fun os=>(AL (w) os).map fun s=>((wb s).2.2.2.2.1,(wb s).2.2.2.2.2.1))=fun _=>some (pinGoodD (drecsOf Cn),plainGoodE Cn (looseW Cn Ot))
def Cd (w:Qag):DC (w.withFollow "special-get-raises" false):=by
 unfold DC AL wb Qdm;rw[Qat,Qas,Qax]
 kernel_rfl
def F3 (w:Qag):DC (w.withFollow "special-get-raises" true):=by
 unfold DC AL wb Qdm;rw[Qat,Qas,Qax]
 kernel_rfl
def RS (w:Qag):DC w:=byRow2 "special-get-raises" (P:=DC) Cd F3 w
abbrev CP (w:Qag):Prop:=(fun os=>(AL (w) os).map fun s=>((wb s).2.2.2.2.2.2.2.1,Hook.obs LA s))=fun _=>some (wideGood Cn,Hook.val LA (w))
def C6 (w:Qag):CP (w.withFollow "special-get-raises" false):=by
 unfold CP AL wb Qdm;rw[Qat,Qas,Qax]
 kernel_rfl
def Fi (w:Qag):CP (w.withFollow "special-get-raises" true):=by
 unfold CP AL wb Qdm;rw[Qat,Qas,Qax]
 kernel_rfl
def QQ (w:Qag):CP w:=byRow2 "special-get-raises" (P:=CP) C6 Fi w
def Oh {S A1 A2 A3 A4 A5 A6 A7 A8 A9 B:Type}{x:Option S}{f:S->A1×A2×A3×A4×A5×A6×A7×A8×A9}{o:S->B}{c1:A1}{c2:A2}{c3:A3}{c4:A4}{c5:A5}{c6:A6}{c7:A7}{c8:A8}{c9:A9}{b:B}
  (h:∀s,x=some s->(f s,o s)=((c1,c2,c3,c4,c5,c6,c7,c8,c9),b)) (h0:x=none->False):x.map (fun s=>(f s,o s))=some ((c1,c2,c3,c4,c5,c6,c7,c8,c9),b):=by
 cases x with
 | none=>show(h0 rfl).elim
 | some s=>show congrArg some (h s rfl)
def OG (w:Qag):(fun os=>(AL w os).map fun s=>(wb s,Hook.obs LA s))=fun _=>some (openGood Cn Ot,Hook.val LA w):=by
 funext os
 have e0:=congrFun (Rm w) os;have e1:=congrFun (RN w) os;have e2:=congrFun (RS w) os;have e3:=congrFun (QQ w) os;show Oh (fun s hs =>?_) fun hs =>?_
 ·generalize AL w os=x at hs e0 e1 e2 e3;subst hs;replace e0:=Qan e0;replace e1:=Qan e1;replace e2:=Qan e2;replace e3:=Qan e3;show Qcz ?_ (QaU e3).2;show Qcz ((QaU e0).1) (Qcz ((QaU (QaU e0).2).1) (Qcz ((QaU e1).1) (Qcz ((QaU e1).2) (Qcz ((QaU e2).1) (Qcz ((QaU e2).2) (Qcz ((QaU (QaU (QaU e0).2).2).1) (Qcz ((QaU e3).1) ((QaU (QaU (QaU e0).2).2).2))))))))
 ·rw[hs] at e0;cases e0
def Km:LeftO PySem.Challenge.pw_oddlong_k32_whole_texts_read Cn Ot Xr (Hook.obs LA) (Hook.val LA) 9052 true:=IX rfl rfl (fun _=>rfl) OG
def Xg:DefRec:=⟨.ofString "law",cn (top iY),bQ (top iY),ai (top iY),Rj (top iY)⟩
def JB (hw:RowW.promised (QeP (Qeq PySem.Challenge.rw_oddlong_k32_whole_texts_read)))(h:WalkO Cn Ot (XL Cn []) (InK Tc) (QeP (Qeq PySem.Challenge.rw_oddlong_k32_whole_texts_read)) Xg [] fun f vs=>Qe7 f vs):OpenLaw.Holds PySem.Challenge.rw_oddlong_k32_whole_texts_read:=
 holds_law Ip fun sd=>holds_open (r:=Qeq PySem.Challenge.rw_oddlong_k32_whole_texts_read) (d:=Xg) (kwd:=[]) Km (Hook.of LA) (Hook.keeps LA) (fun s e=>xl_of s (Bool.and_eq_true_iff.mp e).1) XL.keeps (by kernel_rfl) (by kernel_rfl) (by kernel_rfl) (fun s e=>recFacts_of (Bool.and_eq_true_iff.mp e).2) rfl sd ∅ ⟨rfl,rfl,rfl,rfl,rfl,∅⟩ hw h
end Z
set_option maxHeartbeats 4000000
namespace L2
open PySem PySem.Spec PyProof.Rows
abbrev oC:Fk->Gc->Prop:=fun _ _=>False
def cT {Q: α->Gc->Prop}{E:Fk->Gc->Prop}{s:Gc}(h:Qab M A t Q oC s):Qab M A t Q E s:=
 Qbc h (fun _ _ q=>q) fun _ _ z=>z.elim
def cw {a b:KE}{n:Nat}(h:a<n)(h':n<=b):a≠b:=by grind
def nI {a b:KE}{n:Nat}(h:a<n)(h':n<=b):b≠a:=fun e=>cw h h' e.symm
def mh (env:Env):∀(names:List (Str×Qcx)) (acc:List (Str×KE)),
  (∀y∈names,y.2 = .free->∃c,env.cells.lookup y.1=some c)->(∀n c,acc.lookup n=some c->env.cells.lookup n=some c) ->
  ∃cl,(forIn names acc fun x cs=>(if (x.2==QaZ)=true then do
    let a <-cellOf env x.1
    pure (Qc7 ((x.1,a)::cs)) else pure (Qc7 cs):Sem (ForInStep (List (Str×KE)))))=pure cl /\
   (∀n c,cl.lookup n=some c->env.cells.lookup n=some c)/\(∀n c,acc.lookup n=some c->∃c',cl.lookup n=some c')/\∀y∈names,y.2 = .free->∃c,cl.lookup y.1=some c
 | [],acc,_,h2=>⟨acc,rfl,h2,fun _ c h=>⟨c,h⟩,fun _ h=>nomatch h⟩
 | (n,k)::r,acc,h1,h2=>by
  have hr:=fun y hy=>h1 y (Jh _ hy)
  by_cases hk:k = .free
  ·subst hk;obtain⟨c,hc⟩:=h1 (n,.free) Jj rfl;obtain⟨cl,e,p1,p2,p3⟩:=mh env r ((n,c)::acc) hr (fun m d hm=>by
    rw[Ur] at hm
    by_cases q:m==n
    ·rw[q] at hm;have:m=n:=by simpa using q
     subst this;cases hm;show hc
    ·have q':(m==n)=false:=by simpa using q
     rw[q'] at hm;show h2 m d hm)
   show{cl,?_,p1,fun m d hm =>?_,fun y hy hf =>?_}
   ·rw[QeX];rw[<-e];unfold cellOf;rw[hc]
    rfl
   ·by_cases q:m=n
    ·subst q;show p2 m c (by rw[Ur];simp)
    ·show p2 m d (by rw[Ur];simp -iota only [beq_eq_false_iff_ne.mpr q];show hm)
   ·rcases Jq.mp hy with rfl|hy
    ·show p2 n c (by rw[Ur];simp)
    ·show p3 y hy hf
  ·show ak.el (mh env r acc hr h2) _ ?_;rintro cl e p1 p2 p3;show{cl,?_,p1,p2,fun y hy hf =>?_}
   ·rw[QeX,<-e];have hb:(k==QaZ)=false:=by simpa using hk
    simp -iota only [hb,if_false]
    rfl
   ·rcases Jq.mp hy with rfl|hy
    ·show absurd hf hk
    ·show p3 y hy hf
def mj (h:∀y∈scope.names,y.2 = .free->∃c,env.cells.lookup y.1=some c):
  ∃cl,closureFor scope env=pure cl/\(∀n c,cl.lookup n=some c->env.cells.lookup n=some c)/\∀y∈scope.names,y.2 = .free->∃c,cl.lookup y.1=some c:=by
 obtain⟨cl,e,p1,_,p3⟩:=mh env scope.names [] h (fun n c h=>by simp at h);show{cl,(Eq.trans ?_ (congrArg (fun m=>m >>= fun cs=>(pure cs:Sem _)) e)),p1,p3}
 rfl
def qh (ifs:List QaF)(env:Env):Sem Bool:=forIn ifs true fun c r=>if r=true then do let ok <-isTrue c env (QaP c env);pure (Qc7 ok) else pure (Qc7 r)
section
variable {prog:Qac}{w:Qag}{A:QaB}{R:Qb6->Gc->Prop}{s:Gc}
def yM {elt target iter:QaF}{ifs:List QaF}{scope:QbU}{pos:Pos}{it acc:Fk}{env:Env}(I:Nat->Gc->Prop)
  (turn:∀n s,I n s->Qab (Qaa prog w) A (QbR it) (fun r s1=>match r with
   | none=>R (.ok .next) s1
   | some v=>Qab (Qaa prog w) A (QcT target it v) (fun _ s1'=>Qab (Qaa prog w) A (Qgc target env v) (fun _ s2=>
     Qab (Qaa prog w) A (qh ifs env) (fun ok s3=>
      if ok=true then Qab (Qaa prog w) A (QaP elt env) (fun x s4=>
       Qab (Qaa prog w) A (call (.builtin "list.append") [acc,x]) (fun _ s5=>∃m,m<n/\I m s5) oC s4) oC s3
      else ∃m,m<n/\I m s3) oC s2) oC s1') oC s1) oC s)
  (n:Nat) (h:I n s):QaY (Qaa prog w) A (.compLoop (.ListComp elt [⟨target,iter,ifs,0⟩] scope pos) 0 it acc env) R s:=by
 show codeAny_loop rfl I (fun n s hI=>(show Qab _ A (Sem.onRaise (compTurn (.ListComp elt [{target,iter,ifs,0}] scope pos) 0 it acc env) (fun x=>do Qc5 x env;QfV x)) _ _ s from wpAny_noted (be (Qbe (be (cT (bg (turn n s hI) fun r s1 h1 =>?_))))))) n h;cases r with
 | none=>show tz h1
 | some v=>
  show be (cT (bg h1 fun _ s1' LH=>be (cT (bg LH fun _ s2 h2=>be (cT (bg h2 fun ok s3 h3 =>?_))))));cases ok with
  | false=>show tz ⟨rfl,h3⟩
  | true=>show be (be (cT (bg h3 fun x s4 h4=>be (cT (bg h4 fun _ s5 h5=>tz (tz ⟨rfl,h5⟩))))))
end
def j0.adopt (x:j0 P w H h)(hn:H a=none)(new:bB P w (upd H a o) h a o):j0 P w (upd H a o) h:=fun b u e=>by
 by_cases hb:b=a
 ·subst hb;rw[ax] at e;cases e;show new
 ·rw[av hb] at e;show(x b u e).iz (fun c v _ q=>q) (fun c q=>by rw[av (aE q hn)];show q) fun c xs q=>by rw[av (aE q hn)];show q
structure hW (X:Cx)(scope:QbU)(Nc Fc:List Str)(js:List Nat):Prop where
 kind:scope.kind = .function
 nocell:∀y∈scope.names,y.2 ≠ .cell
 names:∀y∈scope.names,y.2 = .local->scope.names.lookup y.1=some .local
 free:∀y∈scope.names,y.2 = .free->X.env.kindOf y.1=some .cell\/X.env.kindOf y.1=some .free
 frees:∀(k:Nat) (x:Str),Fc[k]? = some x->scope.names.lookup x=some .free/\∃j,js[k]? = some j/\X.N[j]? = some x
 lens:js.length=Fc.length
def eQ (σ:St)(js:List Nat):St:=js.map fun j=>(σ[j]?).join
def mG (X:Cx)(Nc Fc:List Str)(scope:QbU)(cl:List (Str×KE))(C:KE)(s:Gc)(H:Hp)(fp:List KE):Cx:=
 { X with N:=Nc++Fc,s₀:=s,H₀:=H,env:=compEnvC scope cl C X.env,outer:=X.stack,stack:=X.stack,ex:=fp,fn:=fun _=>false,pn:=[],xe:=oC }
def jS {env:Env}:∀{names:List (Str×Qcx)} {x:Str} {k:Qcx},(names.map fun(n,k)=>if (k==QaZ&&env.scope.kind == .function&&env.kindOf n==some .cell) then (n,QcN) else (n,k)).lookup x=some k ->
  names.lookup x=some k\/(k = .cell/\names.lookup x=some .free)
 | [],_,_,h=>by simp at h
 | (n,k0)::r,x,k,h=>by
  rw[J2] at h;dsimp only at h
  by_cases hx:x=n
  ·subst hx
   by_cases hc:(k0==QaZ&&env.scope.kind == .function&&env.kindOf x==some .cell)=true
   ·rw[if_pos hc] at h;simp -iota only [Ur,beq_self_eq_true] at h;have hk:k0 = .free:=by
     have:=(Jw _ _).mp ((Jw _ _).mp hc).1;simpa using this.1
    subst hk;cases h;show .inr {rfl,by simp only[Ur,beq_self_eq_true]}
   ·rw[if_neg hc] at h;simp -iota only [Ur,beq_self_eq_true] at h ⊢;show .inl h
  ·have hb:=beq_eq_false_iff_ne.mpr hx;have e:=h;have e2:Wc x (r.map fun(n,k)=>if (k==QaZ&&env.scope.kind == .function&&env.kindOf n==some .cell) then (n,QcN) else (n,k))=some k:=by
    by_cases hc:(k0==QaZ&&env.scope.kind == .function&&env.kindOf n==some .cell)=true
    ·rw[if_pos hc] at e;simp -iota only [Ur,hb] at e;show e
    ·rw[if_neg hc] at e;simp -iota only [Ur,hb] at e;show e
   simp -iota only [Ur,hb];show(@jS env r x k) e2
def gC {env:Env}:∀{names:List (Str×Qcx)} {x:Str},names.lookup x=some .free ->
  (names.map fun(n,k)=>if (k==QaZ&&env.scope.kind == .function&&env.kindOf n==some .cell) then (n,QcN) else (n,k)).lookup x=some .cell \/
  (names.map fun(n,k)=>if (k==QaZ&&env.scope.kind == .function&&env.kindOf n==some .cell) then (n,QcN) else (n,k)).lookup x=some .free
 | [],_,h=>by simp at h
 | (n,k0)::r,x,h=>by
  have ih := @gC env r x;rw[J2];dsimp only
  by_cases hx:x=n
  ·subst hx;simp -iota only [Ur,beq_self_eq_true] at h;cases h
   by_cases hc:(QaZ==QaZ&&env.scope.kind == .function&&env.kindOf x==some .cell)=true
   ·rw[if_pos hc];left;simp only[Ur,beq_self_eq_true]
   ·rw[if_neg hc];right;simp only[Ur,beq_self_eq_true]
  ·have hb:=beq_eq_false_iff_ne.mpr hx;simp -iota only [Ur,hb] at h
   by_cases hc:(k0==QaZ&&env.scope.kind == .function&&env.kindOf n==some .cell)=true
   ·rw[if_pos hc];simp -iota only [Ur,hb];show ih h
   ·rw[if_neg hc];simp -iota only [Ur,hb];show ih h
def cK:∀{l:List (Str×Qcx)} {x:Str} {k:Qcx},l.lookup x=some k->(x,k)∈l:=fun h=>QbA h
section
variable {X:Cx}{pins:List (KE×Obj)}{σ:St}{H:Hp}{s:Gc}{scope:QbU}{Nc Fc:List Str}{js:List Nat}{cl:List (Str×KE)}{C D:KE}{fp:List KE}
def xc:(mG X Nc Fc scope cl C s H fp).env.kindOf x=(scope.names.map fun(n,k)=>if (k==QaZ&&X.env.scope.kind == .function&&X.env.kindOf n==some .cell) then (n,QcN) else (n,k)).lookup x:=rfl
def rn (I:Inv X pins σ H s)(c:hW X scope Nc Fc js)(eM:∀n c,cl.lookup n=some c->X.env.cells.lookup n=some c)(lF:∀y∈scope.names,y.2 = .free->∃c,cl.lookup y.1=some c)
  (hC:s.heap.objs.size<=C) (hf:∀b∈fp,hM X pins H b) (ho:∀b∈fp,∃o,s.heap.get? b=some o):(mG X Nc Fc scope cl C s H fp).Ok where
 mod:=I.ok.mod
 kind:=c.kind
 glob:=I.ok.glob
 blt:=I.ok.blt
 above:=hC
 inj:=fun x y a h1 h2=>I.ok.inj x y a (eM _ _ h1) (eM _ _ h2)
 has:=fun x hx=>by
  have key:scope.names.lookup x=some .free:=by
   rcases hx with h|h
   ·rcases jS h with q|⟨_,q⟩
    ·show absurd rfl (c.nocell _ (cK q))
    ·show q
   ·rcases jS h with q|⟨q,_⟩
    ·show q
    ·cases q
  show lF _ (cK key) rfl
 cab:=fun _ _ h=>nomatch h
 hd:=I.ok.hd
 frames:=I.ok.frames
 stk := .inl rfl
 exf:=fun b hb=>⟨fun z=>by
   obtain⟨o,e⟩:=ho b hb;show cw (Jg e) hC z,fun x a e z=>(hf b hb).2.2.2.2.1 x a (eM _ _ e) z⟩
 bs:=fun b o e=>I.bs b o e
 bsz:=Jf I.ok.bsz I.sz
 noex:=fun b o e hb=>by
  rcases(hf b hb).2.2.2.1 with z|z
  ·show I.ok.noex b o e z
  ·show absurd (Jv (Jg (I.ok.bs b o e).1) z) (Uk _)
 exfs:=fun b hb z=>by
  rcases Jq.mp (I.va b z) with q|q
  ·show(hf b hb).2.1 q
  ·show(hf b hb).2.2.1 q
 lC:=I.stack
 frf:=I.vU
def Kb (I:Inv X pins σ H s)(c:hW X scope Nc Fc js)(eM:∀n c,cl.lookup n=some c->X.env.cells.lookup n=some c)(lF:∀y∈scope.names,y.2 = .free->∃c,cl.lookup y.1=some c)
  (hC:s.heap.objs.size<=C) (hD:s.heap.objs.size<=D) (O4:D≠C) (hf:∀b∈fp,hM X pins H b) (ho:∀b∈fp,∃o,s.heap.get? b=some o) {h1:Heap} {t1:Nat} {m:Str->Option Fk} {ob:Obj}
  (hk:∀b o,s.heap.get? b=some o->h1.get? b=some o) (hm:h1.Ns C m) (VN:h1.get? D=some ob) (hnc:∀v,ob.data ≠ .cell v) :
  Inv (mG X Nc Fc scope cl C s H fp) [(D,ob)] (Jm Nc.length none++eQ σ js) H { s with heap:=h1,toks:=t1 }:=by
 show{rn I c eM lF hC hf ho,rfl,I.bare,Un.kept hk,{m,hm,fun i x v e1 e2 e3 =>?_},fun x a e =>?_,I.bw.fresh hC,fun x a e=>I.freeC x a (eM x a e),fun p hp =>?_,I.bw.kept hk,?_}
 ·have e1:(Nc++Fc)[i]? = some x:=e1
  by_cases hi:i<Nc.length
  ·rw[Uy (by simpa using hi),Yr] at e2
   split at e2<;>cases e2
  ·rw[Uw ⋯] at e1;rw[Uw (by rw[Ud];lia),Ud] at e2;show ak.el (c.frees _ _ e1) _ ?_;rintro wm j hj hN;have hv: σ[j]? = some (some v):=by
    unfold eQ at e2;rw[Jk,hj] at e2;have e2:some ((σ[j]?).join)=some (some v):=e2;cases q: σ[j]? with
    | none=>rw[q] at e2;cases e2
    | some z=>rw[q] at e2;cases e2;rfl
   have kx:=c.free _ (cK wm) rfl;show ak.el (I.loc) _ ?_;rintro m0 hn0 hl0;have TH:Q5 X.env.scope x:=by
    rcases kx with k|k
    ·show .inr (.inl k)
    ·show .inr (.inr k)
   show ak.el (hl0 j x v hN hv TH) _ ?_;rintro u ru lk;show{u,ru,.inr {?_,?_}}
   ·rw[xc];show gC wm
   ·obtain⟨a,ha⟩:=lF _ (cK wm) rfl;show{a,ha,?_}
    rcases lk with ⟨k,_⟩|⟨_,a',ha',hcell⟩
    ·rcases kx with q|q<;>(rw[k] at q;cases q)
    ·have e:=eM _ _ ha;rw[ha'] at e;cases e;show hcell.keeps hk
 ·obtain⟨v,z⟩:=I.cell x a (eM x a e);show{v,z.keeps hk}
 ·have hp:p=(D,ob):=by
   have:p∈[(D,ob)]:=hp;simpa using this
  subst hp;show{VN,I.bw.fresh hD,O4,fun z =>?_,hnc}
  rcases Jq.mp (I.va D z) with q|q
  ·show nI I.lt hD q
  ·show I.RJ hD q
 ·change(Jm Nc.length none++eQ σ js).length=(Nc++Fc).length;unfold eQ;rw[Jn,Jn,Ud,Jc,c.lens]
end
def Kr (X:Cx)(ifs:List QaF)(t:TT):Prop:=
 ∀ ⦃pins:List (KE×Obj)⦄ (s:Gc) (σ:St) (H:Hp) (Q:Bool->Hp->Prop),Inv X pins σ H s->t σ H Q->Qab (Qaa X.prog X.w) X.A (qh ifs X.env) (TP X pins σ Q) X.xe s
def Vf:TT:=fun _ H Q=>Q true H
def cE:Kr X [] Vf:=fun _ _ _ H _ I h=>wpAny_tests_nil ⟨H,I,h⟩
def AM (h:PT X c t):Kr X [c] t:=fun pins s σ H Q I hw=>wpAny_tests_one (h s σ H Q I hw)
def BC (J:It)(n:Nat)(js:List Nat)(g:TG)(tc:TT)(te:TE)(σ:St)(H1:Hp)(fin:List V->Hp->Prop):Prop:=
 ∃W:Nat->Nat->List V->Hp->Prop,(∃m,W 0 m [] H1)/\∀i m ys H,W i m ys H ->
  (J.stop i H/\fin ys H) \/
  (J.go i H/\ys.length<W1/\∀x H',J.yld i H x H'->g x (Jm n none++eQ σ js) H' fun σ2 H2=>tc σ2 H2 fun b H3=>
   if b=true then te σ2 H3 fun y H4=>∃m',m'<m/\W (i+1) m' (ys++[y]) H4 else ∃m',m'<m/\W (i+1) m' ys H3)
def xM (wi:TI)(n:Nat)(js:List Nat)(g:TG)(tc:TT)(te:TE):TE:=fun σ H Q=>wi σ H fun J H1=>
 BC J n js g tc te σ H1 fun ys H2=>∀p,H2 p=none->Q (.ref p) (upd H2 p (.lst ys))
def Gk (n:Nat)(g:TG):Prop:=∀x σ H Q,g x σ H Q->g x σ H fun σ' H'=>Q σ' H'/\(∀j,n<=j -> σ'[j]? = σ[j]?) /\ σ'.length = σ.length
def Sm (n:Nat)(g:FA):Prop:=∀x σ H Q,g x σ H Q->g x σ H fun σ' H'=>Q σ' H'/\(∀j,n<=j -> σ'[j]? = σ[j]?) /\ σ'.length = σ.length
def bC {n i:Nat}(h:i<n:=by decide):Gk n (pF i):=fun x σ H Q q=>⟨q,fun j hj=>Yi ⋯,Wa⟩
def jM:Sm n Mj:=fun x σ H Q q=>⟨q.1,q.2,fun _ _=>rfl,rfl⟩
def cq (h1:Gk n t)(h2:Sm n u)(mt:∀x σ H Q Q',(∀a b,Q a b->Q' a b)->t x σ H Q->t x σ H Q')(mu:∀x σ H Q Q',(∀a b,Q a b->Q' a b)->u x σ H Q->u x σ H Q'):Sm n (EV t u):=fun x σ H Q q=>by
 obtain⟨v,r,e,q⟩:=q;show{v,r,e,mt _ _ _ _ _ (fun σ1 H1 z=>(ak.el (z) _ ?_)) (h1 _ _ _ _ q)};rintro z k1 l1;show mu _ _ _ _ _ (fun σ2 H2 ⟨z2,k2,l2⟩=>{z2,fun j hj=>(k2 j hj).trans (k1 j hj),l2.trans l1}) (h2 _ _ _ _ z)
def lV {K:Ja}{n m:Nat}{t:FA}(h:Sm n t):Gk n (NP K m t):=fun x σ H Q q=>by
 obtain⟨a,xs,e,h1,h2,q⟩:=q;show{a,xs,e,h1,h2,h _ _ _ _ q}
def uJ {elt tg iter:QaF}{ifs:List QaF}{scope:QbU}{pos:Pos}{Nc Fc:List Str}{js:List Nat}{wi:TI}{g:TG}{tc:TT}{te:TE}{use:Option (Fk->Sem Unit)}{QV:Fk->Gc->Prop}
  (gE:X.calm=true) (c:hW X scope Nc Fc js) (hi:PI X tg iter wi)
  (hg:∀cl C s H fp,PG (mG X Nc Fc scope cl C s H fp) tg g) (CD:∀cl C s H fp,Kr (mG X Nc Fc scope cl C s H fp) ifs tc) (EW:∀cl C s H fp,PE (mG X Nc Fc scope cl C s H fp) elt te) (gk:Gk Nc.length g)
  {pins:List (KE×Obj)} {s:Gc} {σ:St} {H:Hp} {fin:List V->Hp->Prop} (I:Inv X pins σ H s)
  (h:wi σ H fun J H1=>BC J Nc.length js g tc te σ H1 fin)
  (behind:∀C D m ys H2 s2,Inv X pins σ (upd H2 D (.lst ys)) s2->s2.heap.Ns C m->hM X pins (upd H2 D (.lst ys)) C->H2 D=none->fin ys H2->Qe4 (Qaa X.prog X.w) X.A X.xe use QV (.ref D) C (.ok .next) s2)
  (hs:∀x,Qbi iter X.env x=pure x) :
  Qab (Qaa X.prog X.w) X.A (comprehension (.ListComp elt [⟨tg,iter,ifs,0⟩] scope pos) scope X.env (firstIterPos [⟨tg,iter,ifs,0⟩] pos) (newList []) false (QaP iter X.env) use) QV X.xe s:=by
 obtain⟨cl,hclos,eM,lF⟩:=mj fun y hy hf=>I.ok.has y.1 (c.free y hy hf);show Qdu rfl hs hclos c.kind c.names (bg (hi s σ H _ I h) fun v s1 h1=>bg h1 fun Q0 s2 h2 =>?_);obtain⟨it,fp,tn,J,H2,e,I2,T,jz,f2,W,⟨m0,w0⟩,turn⟩:=h2;subst e;show QaO (Qei c.nocell (by intro y hy;simp at hy) (fun h1 hns1 hsb1 =>?_) c.kind);generalize hG:s2.heap.push { cls := .type "list",dict:=none,data := .seq ([]:List Fk).toArray } = G at hns1 hsb1 ⊢;have hC:G.objs.size=s2.heap.objs.size+1:=by rw[<-hG,Uh]
 have O4:s2.heap.objs.size≠G.objs.size:=by rw[hC];show Jp (Yz _)
 have hle:s2.heap.objs.size<=G.objs.size:=by rw[hC];show Yw _
 have old:=fun b o e=>
  hsb1.extBut b o (cw (Jg e) hle) (Jb _ (hG▸Jb _ e))
 have iJ:h1.PlainList s2.heap.objs.size #[]:=⟨_,hsb1.extBut _ _ O4 (Jb _ (hG▸Ji _ rfl))⟩
 obtain⟨n0,iJ⟩:=iJ;have fo:∀b∈fp,∃o,s2.heap.get? b=some o:=fun b hb=>let ⟨o,e,_⟩:=T.obj 0 _ jz b hb; ⟨o,e⟩;have tE:=fun b hb=>let ⟨o,e⟩:=fo b hb;Jg e
 let Xc:Cx:=mG X Nc Fc scope cl G.objs.size s2 H2 fp
 let D:KE:=s2.heap.objs.size
 have lS:∀{pl:List (KE×Obj)} {H':Hp},(∀p∈pl,p.1=D)->(∀b∈fp,H' b=none)->∀b∈fp,hM Xc pl H' b:=fun{pl H'} hp hn b hb=>by
  show{hn b hb,?_,?_,.inl hb,fun x a e =>?_,fun p hq =>?_}
  ·show cw (tE b hb) hle
  ·show(rn I2 c eM lF hle f2 fo).exfs b hb
  ·show(f2 b hb).2.2.2.2.1 x a (eM _ _ e)
  ·have q:p∈([]:List (KE×Obj))++pl:=hq;rw[hp p (by simpa using q)];show nI (tE b hb) (Je _)
 have loop:∀t1,QaY (Qaa X.prog X.w) X.A (.compLoop (.ListComp elt [⟨tg,iter,ifs,0⟩] scope pos) 0 (.ref it) (.ref s2.heap.objs.size) (compEnvC scope cl G.objs.size X.env))
   (Qe4 (Qaa X.prog X.w) X.A X.xe use QV (.ref s2.heap.objs.size) G.objs.size) { s2 with heap:=h1,toks:=t1 }:=by
  show fun t1=>yM (fun n s'=>∃i ys H' aF k,Inv Xc [(D,{ cls := .type "list",data := .seq aF k })] (Jm Nc.length none++eQ σ js) H' s'/\Vals ys aF.toList/\ys.length<=W1/\tn i s'.heap/\(∀b∈fp,H' b=none)/\W i n ys H') ?_ m0
   ⟨0,[],H2,#[],n0,Kb I2 c eM lF hle (Je _) O4 f2 fo old hns1 iJ (fun _ z=>nomatch z),.nil,Ue _,T.keep _ _ _ jz (fun b hb o e=>old b o e),fun b hb=>(f2 b hb).1,w0⟩
  show fun n s3 hz_=>ak.el hz_ _ ?_;rintro i ys H3 aF k I3 rv hz eF fr3 w3;have GU:∀p∈[(D,({ cls := .type "list",data := .seq aF k }:Obj))],p.1=D:=fun p hp=>congrArg Prod.fst (Jt.mp hp)
  rcases turn i n ys H3 w3 with ⟨stop,qn⟩|⟨go,jq,step⟩
  ·show bg (T.done Xc rfl rfl rfl gE i _ s3 _ H3 oC I3 (lS GU fr3) eF stop) fun r s4 hz_ =>?_;show ak.el hz_ _ ?_;rintro hr I4;subst hr;obtain⟨hDo,hDn,hDne,hDfs,_⟩:=I4.pin (D,_) (Jr _ Jj);show ak.el (I4.loc) _ ?_;rintro mC hmC _;have u:=I4.base;have Md:=I2.bw.fresh (Je _);have u':Un (l9 X.stack) fp H2 (upd H3 D (.lst ys)) s2.heap s4.heap:=
    ⟨u.keep,u.slot,fun b o e n hx=>by rw[av ((fun b o e=>Jp (Jg e)) b o e)];show u.free b o e n hx,u.there,
      fun b xs e=>by rw[av (aE e Md)];show u.ke b xs e,fun b o xs e=>by rw[av (aE e Md)];show u.j1 b o xs e,
      fun b ps e=>by rw[av (aE e Md)];show u.lI b ps e⟩
   have uK:∀b∈fp,(b∈X.ex\/X.s₀.heap.objs.size<=b)/\b≠X.env.locals/\(∀x c,X.env.cells.lookup x=some c->c≠b)/\∀p∈X.pn++pins,p.1≠b:=fun b hb=>
    ⟨(f2 b hb).2.2.2.1,(f2 b hb).2.1,(f2 b hb).2.2.2.2.1,(f2 b hb).2.2.2.2.2⟩
   show behind G.objs.size D mC ys H3 s4 (I2.Bq I4.os u' (I4.bw.adopt hDn {hz,aF.toList,k,rv,by simpa using hDo}) I4.bare uK) hmC (I2.fN hle ?_) hDn qn;rw[av (QaD O4)];show I4.free
  ·show bg (T.item Xc rfl rfl rfl gE i _ s3 _ H3 oC I3 (lS GU fr3) eF go) fun r s4 hz_ =>?_;show ak.el hz_ _ ?_;rintro u hr h4;subst hr;show bg h4 fun _ s5 hz_=>ak.el hz_ _ ?_;rintro x H5 I5 r5 y5 cB fr5;show bg (hg cl G.objs.size s2 H2 fp s5 _ H5 x u _ (I5.pinned (lS GU fr5) (T.obj _ _ cB)) r5 (gk _ _ _ _ (step x H5 y5))) fun _ s6 hz_=>ak.el hz_ _ ?_;rintro σ6 H6 I6 q6 kσ kl;show bg (CD cl G.objs.size s2 H2 fp s6 σ6 H6 _ I6 q6) fun b s7 hz_=>ak.el hz_ _ ?_;rintro H7 I7 q7;have later:∀{σ':St} {H':Hp} {s':Gc},Inv Xc ([(D,({ cls := .type "list",data := .seq aF k }:Obj))]++iI fp s5.heap) σ' H' s'->tn (i+1) s'.heap/\∀b∈fp,H' b=none:=fun{σ' H' s'} Iz=>by
    show{T.keep _ _ _ cB fun b hb o e=>(Iz.pin (b,o) (Jr _ (Jr _ (dG hb e)))).1,fun b hb=>ak.el (T.obj _ _ cB b hb) _ ?_};rintro o e d;show(Iz.pin (b,o) (Jr _ (Jr _ (dG hb e)))).2.1
   have back:∀{pl:List (KE×Obj)} {H':Hp} {s':Gc},Inv Xc pl σ6 H' s'->Inv Xc pl (Jm Nc.length none++eQ σ js) H' s':=fun{pl H' s'} Iz=>by
    show Iz.weak (by rw[<-kl]) fun j v hj =>?_
    by_cases hn:j<Nc.length
    ·rw[Uy (by simpa using hn),Yr] at hj
     split at hj<;>cases hj
    ·rw[kσ j ⋯];show hj
   cases b with
   | false=>
    rw[if_neg Js] at q7 ⊢;show ak.el (q7) _ ?_;rintro m' yZ w7;obtain⟨l1,l2⟩:=later I7;show{m',yZ,i+1,ys,H7,aF,k,back I7.fw,rv,hz,l1,l2,w7}
   | true=>
    show bg (EW cl G.objs.size s2 H2 fp s7 σ6 H7 _ I7 q7) fun yv s8 hz_=>ak.el hz_ _ ?_;rintro y H8 I8 r8 q8;show ak.el (q8) _ ?_;rintro m' yZ w8;obtain⟨hDo,hDn,hDne,hDfs,_⟩:=I8.pin (D,_) (Jr _ (Uv _ Jj));obtain⟨l1,l2⟩:=later I8;have hits:aF.size=ys.length:=by
     have e1:=rv.length;simp -iota only [Uj] at e1;lia
    show wpAny_list_append_plain ⟨k,hDo⟩ fun h9 SR hs9 =>?_;obtain⟨k9,hD9⟩:=SR;have T4:∀p∈iI fp s5.heap,p.1≠D:=fun p hp=>by
     obtain⟨hb,_⟩:=tO hp;show cw (tE _ hb) (Je _)
    have I9:Inv Xc (iI fp s5.heap) σ6 H8 { s8 with heap:=h9,toks:=s8.toks }:=(I8.qe fun p hp=>I8.pin p (Jr _ (Jr _ hp))).turned (fun b o hb e=>hs9.extBut b o hb e) hDn O4 (.inr (Je _))
     (fun x a e z=>by
      obtain⟨v,q⟩:=I2.cell x a (eM _ _ e);show cw q.lt (Je _) z) (fun p hp=>T4 p (by
       have hp:p∈([]:List (KE×Obj))++iI fp s5.heap:=hp;simpa using hp))
    obtain⟨lh,fr9⟩:tn (i+1) h9/\∀b∈fp,H8 b=none:=by
     show{T.keep _ _ _ l1 fun b hb o e=>hs9.extBut b o (cw (tE _ hb) (Je _)) e,l2}
    show{m',yZ,i+1,ys++[y],H8,aF.push yv,k9,back (I9.qe fun p hp =>?_),?_,?_,lh,fr9,w8}
    ·cases Jt.mp hp;show{hD9,hDn,hDne,hDfs,fun _ z=>nomatch z}
    ·rw[Qcd];show rv.append (.cons r8 .nil)
    ·rw[Jn,Qco];lia
 show codeAny_compStart_list (loop _) (T.self _ 0 _ _ _ (T.keep _ _ _ jz fun b hb o e=>old b o e) (loop _))
def dQ {elt tg iter:QaF}{ifs:List QaF}{scope:QbU}{pos:Pos}{Nc Fc:List Str}{js:List Nat}{wi:TI}{g:TG}{tc:TT}{te:TE}
  (gE:X.calm=true) (c:hW X scope Nc Fc js) (hi:PI X tg iter wi) (gk:Gk Nc.length g)
  (hg:∀cl C s H fp,PG (mG X Nc Fc scope cl C s H fp) tg g) (CD:∀cl C s H fp,Kr (mG X Nc Fc scope cl C s H fp) ifs tc) (EW:∀cl C s H fp,PE (mG X Nc Fc scope cl C s H fp) elt te)
  (hs:∀x,Qbi iter X.env x=pure x:=by intro _;rfl) :
  PE X (.ListComp elt [⟨tg,iter,ifs,0⟩] scope pos) (xM wi Nc.length js g tc te):=
 fun pins s σ H Q I h=>uJ gE c hi hg CD EW gk I h (fun C D m ys H2 s2 I2 hm hC hD q=>⟨m,hm,fun h' hs'=>⟨.ref D,_,I2.turned (fun b o hb e=>hs'.extBut b o hb e) hC.1 (hC.2.1) hC.2.2.2.1 hC.2.2.2.2.1 hC.2.2.2.2.2,rfl,q D hD⟩⟩) hs
def jE {i:Nat}{y:Str}{elt tg iter:QaF}{ifs:List QaF}{scope:QbU}{pos pos' py:Pos}{Nc Fc:List Str}{js:List Nat}{wi:TI}{g:TG}{tc:TT}{te:TE}(hN:X.N.Nodup)(hy:X.N[i]? = some y)(hl:Loc X.env.scope y)
  (gE:X.calm=true) (c:hW X scope Nc Fc js) (hi:PI X tg iter wi) (gk:Gk Nc.length g)
  (hg:∀cl C s H fp,PG (mG X Nc Fc scope cl C s H fp) tg g) (CD:∀cl C s H fp,Kr (mG X Nc Fc scope cl C s H fp) ifs tc) (EW:∀cl C s H fp,PE (mG X Nc Fc scope cl C s H fp) elt te)
  (ZN:QdH (.ListComp elt [⟨tg,iter,ifs,0⟩] scope pos) (some (.Name y py)) pos'.line X.env=pure true:=by rfl)
  (hs:∀x,Qbi iter X.env x=pure x:=by intro _;rfl)
  (hf:X.fn y=true\/X.env.scope.names.lookup y=some .local:=by first|show .inl rfl|show .inr rfl|assumption) :
  PS X (.Assign [.Name y py] (.ListComp elt [⟨tg,iter,ifs,0⟩] scope pos) pos') (GP (xM wi Nc.length js g tc te) (pF i)):=by
 intro pins s σ H E I h;rw[exec_Assign_Name_used _ _ _ _ ZN];show be (Qbe (be (be (bg (uJ gE c hi hg CD EW gk I h (fun C D m ys H2 s2 I2 hm hC hD q=>(wpAny_assign_Name (tT I2 hN hy hl (v := .ref D) rfl (fun s3 I3 ⟨a,hsa,ha⟩=>?_) hf))) hs) fun _ s' hq=>tz (tz hq)))));have zw:C≠a:=by
  rcases ha with e|e
  ·rw[e];show hC.2.1
  ·show fun z=>hC.2.2.2.2.1 _ _ e z.symm
 show{m,hm.at' fun o e=>hsa.extBut _ o zw e,fun h' hs'=>{_,_,I3.turned (fun b o hb e=>hs'.extBut b o hb e) hC.1 hC.2.1 hC.2.2.2.1 hC.2.2.2.2.1 hC.2.2.2.2.2,q D hD}}
section
variable {X:Cx}{pins:List (KE×Obj)}{σ:St}{H:Hp}{s:Gc}{p:KE}{ys:List V}
def tQ (hh:A.handled=none)(I:Inv X pins σ H s)(hq:aW X.K H p ys){R:Fk->Gc->Prop}{E:Fk->Gc->Prop}
  (h:∀aF it s2,Vals ys aF->aF.length<=W1 ->
   Walks X.prog X.w A it [it,p] [it] aF.toArray.size (fun i v=>aF.toArray[i]? = some v) (fun i h=>h.IsListIter it p i/\h.IsList p aF.toArray)->(s2.heap.IsListIter it p 0/\s2.heap.IsList p aF.toArray)->(∀b∈[it,p],b<s2.heap.objs.size) ->
   (∀h' tk,(∀b o,b∉[it]->s2.heap.get? b=some o->h'.get? b=some o)->Inv X pins σ H { s2 with heap:=h',toks:=tk })->R (.ref it) s2) :
  Qab (Qaa X.prog X.w) A (Qfu (.ref p)) R E s:=by
 obtain⟨aF,rv,pl,hz⟩:=I.list hq;have hl:=pl.isList;have hp:p<s.heap.objs.size:=by obtain⟨o,e,_⟩:=hl;show Jg e
 show Qcr hl (h aF s.heap.objs.size _ rv (by have:=rv.length;lia) (Walks.list hh _ p (Jp hp) aF.toArray) {{_,Ji _ rfl,rfl,rfl},hl.push _} (fun b hb =>?_) fun h' tk hk =>?_)
 ·change b<(s.heap.push _).objs.size;rw[Uh]
  rcases Jq.mp hb with rfl|hb
  ·show Yz _
  ·rw[Jt.mp hb];show Qci hp
 ·show I.kept fun b o e=>hk b o (fun z=>cw (Jg e) (Je _) (Jt.mp z)) (Jb _ e)
def jP (r:Vals ys aF){i:Nat}{v:Fk}(e:aF.toArray[i]? = some v):∃y,ys[i]? = some y/\RelV y v:=by
 have e':aF[i]? = some v:=by simpa using e
 have hi:=(Jl.mp e').1;have hl:=r.length;obtain⟨u,h1,h2⟩:=r.get (i:=i) (x:=ys[i]'⋯) (by simp);rw[e'] at h1;cases h1;show{_,by simp,h2}
def Dj (bs:List Bool):(Qcq bs.length).all (fun i=>bs.getD i false)=bs.all id:=by
 induction bs with
 | nil=>rfl
 | cons b r ih=>
  rw[Jo,Qdr,Qcy,List.all_map,Qcy,<-ih]
  rfl
def Ef (bs:List Bool):(Qcq bs.length).any (fun i=>bs.getD i false)=bs.any id:=by
 induction bs with
 | nil=>rfl
 | cons b r ih=>
  rw[Jo,Qdr,Y8,List.any_map,Y8,<-ih]
  rfl
def xo {bs:List Bool}{aF:List Fk}(r:Vals (bs.map V.bl) aF):TruthOf X.prog X.w A (fun i v=>aF.toArray[i]? = some v) (fun i=>bs.getD i false):=by
 intro i v s Q E e hQ;obtain⟨y,h1,h2⟩:=jP r e;rw[Jk] at h1;cases q:bs[i]? with
 | none=>rw[q] at h1;cases h1
 | some b=>
  rw[q] at h1;cases h1;cases h2;have:bs.getD i false=b:=by simp[ q]
  have hQ:Q (bs.getD i false) s:=hQ;rw[this] at hQ;show tz hQ
def yx (hc:X.calm=true):bE X (.builtin "all") (fun xs H Q=>∃(p:KE) (bs:List Bool),xs=[.ref p]/\aW X.K H p (bs.map V.bl)/\Q (.bl (bs.all id)) H):=by
 intro pins s σ H xs us Q I r h;obtain⟨p,bs,rfl,hq,q⟩:=h;obtain⟨u,rfl,ru⟩:=vals1 r;cases ru;show call_all_walk (tQ (A:=X.A.in1) (I.ok.hd hc) I hq fun aF it s2 rv hz W st jq hI=>{it,_,_,_,_,_,fun i=>bs.getD i false,rfl,W,st,xo rv,fun h' tk hk =>?_});have hl:aF.toArray.size=bs.length:=by have:=rv.length;simp at this ⊢;lia
 rw[hl,Dj];show{.bl _,H,hI h' tk hk,rfl,q}
def wI (hc:X.calm=true):bE X (.builtin "any") (fun xs H Q=>∃(p:KE) (bs:List Bool),xs=[.ref p]/\aW X.K H p (bs.map V.bl)/\Q (.bl (bs.any id)) H):=by
 intro pins s σ H xs us Q I r h;obtain⟨p,bs,rfl,hq,q⟩:=h;obtain⟨u,rfl,ru⟩:=vals1 r;cases ru;show call_any_walk (tQ (A:=X.A.in1) (I.ok.hd hc) I hq fun aF it s2 rv hz W st jq hI=>{it,_,_,_,_,_,fun i=>bs.getD i false,rfl,W,st,xo rv,fun h' tk hk =>?_});have hl:aF.toArray.size=bs.length:=by have:=rv.length;simp at this ⊢;lia
 rw[hl,Ef];show{.bl _,H,hI h' tk hk,rfl,q}
def Rp (K:Ja)(hc:X.calm=true)(hK:X.K=K:=by rfl):bE X (.builtin "all") (fun xs H Q=>∃(p:KE) (bs:List Bool),xs=[.ref p]/\aW K H p (bs.map V.bl)/\Q (.bl (bs.all id)) H):=by subst hK;show yx hc
def Tb (K:Ja)(hc:X.calm=true)(hK:X.K=K:=by rfl):bE X (.builtin "any") (fun xs H Q=>∃(p:KE) (bs:List Bool),xs=[.ref p]/\aW K H p (bs.map V.bl)/\Q (.bl (bs.any id)) H):=by subst hK;show wI hc
def lM:JP X "str.startswith" (fun x vs H Q=>∃a b,x = .str a/\vs=[.str b]/\Q (.bl (Qcf a b)) H):=by
 intro pins s σ H x vs v us Q I rx rv h;obtain⟨a,b,rfl,rfl,q⟩:=h;obtain⟨t,rfl⟩:=rx;obtain⟨u,rfl,t',rfl⟩:=rv.one;show SC.startswith ⟨.bl _,H,I,rfl,q⟩
def Eh:JP X "str.strip" (fun x vs H Q=>∃a b,x = .str a/\vs=[.str b]/\a.length<=W1/\Q (.str (Qfy a b)) H):=by
 intro pins s σ H x vs v us Q I rx rv h;obtain⟨a,b,rfl,rfl,hz,q⟩:=h;obtain⟨t,rfl⟩:=rx;obtain⟨u,rfl,t',rfl⟩:=rv.one;show SC.stripChars (fun t' k=>{.str _,H,I.tok _,{_,rfl},q}) hz
def HJ:∀{xs:List Str} {aF:List Fk},Vals (xs.map V.str) aF->StrsAre aF xs:=by
 intro xs aF r
 induction xs generalizing aF with
 | nil=>cases r;show StrsAre.nil
 | cons x xs ih=>
  cases r with
  | cons r1 r2=>
   obtain⟨t,rfl⟩:=r1;show StrsAre.cons x t (ih r2)
def IM:JP X "str.join" (fun x vs H Q=>∃sep p xs,x = .str sep/\vs=[.ref p]/\aW X.K H p (xs.map V.str)/\(xs.map (·.length)).sum+xs.length*sep.length<=16777216/\Q (.str (QaM sep xs)) H):=by
 intro pins s σ H x vs v us Q I rx rv h;obtain⟨sep,p,xs,rfl,rfl,hq,hz,q⟩:=h;obtain⟨t,rfl⟩:=rx;obtain⟨u,rfl,ru⟩:=rv.one;cases ru;obtain⟨aF,r',pl,_⟩:=I.list hq;show join_list pl.isList (HJ r') hz fun t' k=>{.str _,H,I.tok _,{_,rfl},q}
end
mutual
def Den (K:Ja)(H:Hp):Qad->V->Prop
 | .none,v=>v = .non
 | .bool b,v=>v = .bl b
 | .int i,v=>v = .int i
 | .str x,v=>v = .str x
 | .list ds,v=>fX fun a vs=>v = .ref a/\aW K H a vs/\a8 K H ds vs
 | .tuple ds,v=>fX fun a vs=>v = .ref a/\aV K H a vs/\a8 K H ds vs
 | .dict _,_=>False
def a8 (K:Ja)(H:Hp):List Qad->List V->Prop
 | [],vs=>vs=[]
 | d::ds,vs=>fX fun v r=>vs=v::r/\Den K H d v/\a8 K H ds r
end
def aq.bF {K:Ja}{H H':Hp}{a:KE}{xs:List V}(e:aq H H')(h:aV K H a xs):aV K H' a xs:=by
 rcases h with (h|⟨o,h⟩)|h
 ·show .inl (.inl (e _ _ h))
 ·show .inl (.inr {o,e _ _ h})
 ·show .inr h
mutual
def Den.same {K:Ja}{H H':Hp}(e:aq H H'):∀{d:Qad} {v:V},Den K H d v->Den K H' d v
 | .none,_,h=>by unfold Den at h ⊢;show h
 | .bool _,_,h=>by unfold Den at h ⊢;show h
 | .int _,_,h=>by unfold Den at h ⊢;show h
 | .str _,_,h=>by unfold Den at h ⊢;show h
 | .list ds,_,h=>by
  unfold Den at h ⊢;obtain⟨a,vs,h1,h2,h3⟩:=h;show{a,vs,h1,e.seq h2,a8.same e h3}
 | .tuple ds,_,h=>by
  unfold Den at h ⊢;obtain⟨a,vs,h1,h2,h3⟩:=h;show{a,vs,h1,e.bF h2,a8.same e h3}
 | .dict _,_,h=>by unfold Den at h;show h.elim
def a8.same {K:Ja}{H H':Hp}(e:aq H H'):∀{ds:List Qad} {vs:List V},a8 K H ds vs->a8 K H' ds vs
 | [],_,h=>by unfold a8 at h ⊢;show h
 | d::ds,_,h=>by
  obtain⟨v,r,h1,h2,h3⟩:=h;show{v,r,h1,Den.same e h2,a8.same e h3}
end
mutual
def Den.reads {X:Cx}{pins:List (KE×Obj)}{σ:St}{H:Hp}{s:Gc}(I:Inv X pins σ H s):∀{d:Qad} {v:V} {u:Fk},Den X.K H d v->RelV v u->∃as,Reads s.heap u d as
 | .none,_,_,h,r=>by unfold Den at h;subst h;cases r;show⟨_,.none⟩
 | .bool _,_,_,h,r=>by unfold Den at h;subst h;cases r;show⟨_,.bool _⟩
 | .int _,_,_,h,r=>by unfold Den at h;subst h;obtain⟨t,rfl⟩:=r;show⟨_,.int _ _⟩
 | .str _,_,_,h,r=>by unfold Den at h;subst h;obtain⟨t,rfl⟩:=r;show⟨_,.str _ _⟩
 | .list ds,_,_,h,r=>by
  unfold Den at h;obtain⟨a,vs,rfl,h2,h3⟩:=h;cases r;obtain⟨aF,rv,⟨o,n,e1,e2,_,e4⟩,_⟩:=I.list h2;obtain⟨as,q⟩:=a8.reads I h3 rv;show{_,.list e1 e2 e4 (by simpa using q)}
 | .tuple ds,_,_,h,r=>by
  unfold Den at h;obtain⟨a,vs,rfl,h2,h3⟩:=h;cases r;obtain⟨aF,rv,⟨o,e1,e2,n,e4⟩,_⟩:=I.tuple h2;obtain⟨as,q⟩:=a8.reads I h3 rv;show{_,.tuple e1 e2 e4 (by simpa using q)}
 | .dict _,_,_,h,_=>by unfold Den at h;show h.elim
def a8.reads {σ:St}{H:Hp}{s:Gc}(I:Inv X pins σ H s):∀{ds:List Qad} {vs:List V} {us:List Fk},a8 X.K H ds vs->Vals vs us->∃as,ReadsAll s.heap us ds as
 | [],_,_,h,r=>by unfold a8 at h;subst h;cases r;show⟨_,.nil⟩
 | d::ds,_,_,h,r=>by
  obtain⟨v,q,rfl,h2,h3⟩:=h;cases r with
  | cons r1 r2=>
   obtain⟨as,q1⟩:=Den.reads I h2 r1;obtain⟨bs,q2⟩:=a8.reads I h3 r2;show{_,.cons q1 q2}
end
section
variable {X:Cx}
open PySem.SeqAt in
def Nv (hu:X.A.units+64<QcY):fA X (QaC .Eq) (fun x y H Q=>∃d e,Den X.K H d x/\Den X.K H e y/\shaped d=true/\shaped e=true/\Q (.bl (Qb1 d e)) H):=by
 intro pins s σ H x y v u Q I rx ry h;obtain⟨d,e,hd,he,sd,se,q⟩:=h;obtain⟨as,r1⟩:=hd.reads I rx;obtain⟨bs,r2⟩:=he.reads I ry;show eq_dataH r1 r2 sd se hu {.bl _,H,I,rfl,q}
open PySem.SeqAt in
def Mn (hu:X.A.units+64<QcY):fA X (QaC .NotEq) (fun x y H Q=>∃d e,Den X.K H d x/\Den X.K H e y/\shaped d=true/\shaped e=true/\Q (.bl (!PyData.eqv d e)) H):=by
 intro pins s σ H x y v u Q I rx ry h;obtain⟨d,e,hd,he,sd,se,q⟩:=h;obtain⟨as,r1⟩:=hd.reads I rx;obtain⟨bs,r2⟩:=he.reads I ry;show ne_dataH r1 r2 sd se hu {.bl _,H,I,rfl,q}
def L9:fA X (QaC .Is) (fun x y H Q=>∃a b,x = .bl a/\y = .bl b/\Q (.bl (decide (a=b))) H):=by
 intro pins s σ H x y v u Q I rx ry h;obtain⟨a,b,rfl,rfl,q⟩:=h;cases rx;cases ry;show wpAny_is_plain rfl (bq I q ?_);cases a<;>cases b<;>rfl
def Dr:fA X (QaC .IsNot) (fun x y H Q=>∃a b,x = .bl a/\y = .bl b/\Q (.bl (!decide (a=b))) H):=by
 intro pins s σ H x y v u Q I rx ry h;obtain⟨a,b,rfl,rfl,q⟩:=h;cases rx;cases ry;show wpAny_isNot_plain rfl (bq I q ?_);cases a<;>cases b<;>rfl
def E8:bE X (.builtin "isinstance") (fun xs H Q=>∃x T t b,xs=[x,.ty T]/\mW X.K H x t/\Ui X.K t (.type T)=some b/\Q (.bl b) H):=by
 intro pins s σ H xs us Q I r h;obtain⟨x,T,t,b,rfl,ty,e,q⟩:=h;obtain⟨u,w',rfl,r1,r2⟩:=vals2 r;cases r2;show Ca I r1 ty e fun tk=>{.bl b,H,I.tok _,rfl,q}
def Mh:Ek X (fun x lo hi H Q=>∃z,x = .str z/\z.length<=W1/\Q (.str (Qak z lo hi)) H):=by
 intro pins s σ H x v vl vu lo hi sl Q I rx hs pl pu q;obtain⟨z,rfl,hz,q⟩:=q;obtain⟨t,rfl⟩:=rx;show⟨"str",_,F.slot_str_getitem.lookup,QdU _ _ _,?_⟩;have fin:∀t' k,EP X pins σ Q (.str (Qak z lo hi) t') { s with toks:=k }:=fun t' k=>⟨.str _,H,I.tok _,⟨_,rfl⟩,q⟩
 cases pl with
 | none=>
  cases pu with
  | none=>show Qck (l:=none) (u:=none) (st:=none) hs rfl (QdX ⟨Jf (Qdx z _ _) hz,fin⟩)
  | int j uj=>show Qck (l:=none) (u:=some (j,uj)) (st:=none) hs rfl (QdX ⟨Jf (Qdx z _ _) hz,fin⟩)
 | int i ui=>
  cases pu with
  | none=>show Qck (l:=some (i,ui)) (u:=none) (st:=none) hs rfl (QdX ⟨Jf (Qdx z _ _) hz,fin⟩)
  | int j uj=>show Qck (l:=some (i,ui)) (u:=some (j,uj)) (st:=none) hs rfl (QdX ⟨Jf (Qdx z _ _) hz,fin⟩)
end
section
variable {X:Cx}{pins:List (KE×Obj)}{σ:St}{H:Hp}{s:Gc}{h':Heap}
def Inv.iter {ch:List KE}(I:Inv X pins σ H s)(hf:∀b∈ch,hM X pins H b)(keep:∀b o,b∉ch->s.heap.get? b=some o->h'.get? b=some o):Inv X pins σ H { s with heap:=h',toks:=t' }:=by
 have LS:∀b u,H b=some u->b∉ch:=fun b u e z=>by rw[(hf b z).1] at e;cases e
 show I.step (fun b hb=>{(hf b hb).2.2.2.1,(hf b hb).2.1,(hf b hb).2.2.2.2.1,(hf b hb).2.2.2.2.2}) (fun b o _ _ hc e _=>keep b o hc e) (fun b o _ _ hc e _=>{o.slots,keep b o hc e})
  (fun _ _ _ _ n=>n) (fun b o hc e=>⟨o,keep b o hc e⟩) (fun _ _ e=>e) (fun _ _ _ e=>e) (fun b ps e=>⟨#[],by rw[e];simp⟩) (fun m hm=>hm.at' fun o e=>keep _ o (fun z=>(hf _ z).2.1 rfl) e) (fun b u e =>?_) I.bare
 show(I.bw b u e).iz (fun c v hc q=>keep c v ?_ q) (fun _ q=>q) fun _ _ q=>q
 rcases hc with z|z
 ·rw[z];show LS b u e
 ·show LS c _ z
def Inv.adopt (I:Inv X pins σ H s)(hT:hM X pins H T)(hex:X.s₀.heap.objs.size<=T)(new:bB X.prog X.w (upd H T o) s.heap T o):Inv X pins σ (upd H T o) s:=
 ⟨I.ok,I.os,I.bare,⟨I.base.keep,I.base.slot,fun b ob e n hx=>by rw[av (cw (Jg e) hex)];show I.base.free b ob e n hx,I.base.there,
   fun b xs e=>by rw[av (aE (I.base.ke b xs e) hT.1)];show I.base.ke b xs e,fun b ob xs e=>by rw[av (aE (I.base.j1 b ob xs e) hT.1)];show I.base.j1 b ob xs e,
   fun b ps e=>by
    obtain⟨m,q⟩:=I.base.lI b ps e;show⟨m,by rw[av (aE q hT.1)];show q⟩⟩,
  I.loc,I.cell,by rw[av (QaD hT.2.1)];show I.free,fun x c e=>by rw[av (hT.2.2.2.2.1 x c e)];show I.freeC x c e,
  fun p hp=>by
   show ak.el (I.pin p hp) _ ?_;rintro a b c d f;show⟨a,by rw[av (hT.2.2.2.2.2 p hp)];show b,c,d,f⟩,I.bw.adopt hT.1 new,I.len⟩
end
def qU {i:Nat}{x:V}(r:Vals xs aF)(e:xs[i]? = some x):∃u,aF.toArray[i]? = some u/\RelV x u:=by
 show ak.el (r.get e) _ ?_;rintro u h1 h2;show{u,by simpa using h1,h2}
def Xl (K:Ja)(a:KE):It:=
 ⟨fun i H=>fX fun xs x=>aW K H a xs/\xs[i]? = some x,
   fun i H v H'=>∃T,v = .ref T/\H T=none/\∀xs x,aW K H a xs->xs[i]? = some x->H'=upd H T (.tup [.int i,x]),
   fun i H=>∃xs,aW K H a xs/\xs.length<=i⟩
def DV {K:Ja}{elts:List QaF}{k:Nat}{tp:Pos}(e it l:KE)(OX:e≠it)(hle:l≠e)(hli:l≠it):
  Turn P w K (.Tuple elts k tp) (Xl K l) [e,it] e (fun i h=>(∃old,IsEnum h e it i old)/\h.IsListIter it l i) where
 mem:=by simp
 obj:=fun i h st b hb=>by
  obtain⟨⟨_,h1⟩,⟨o4,h4,_,d4⟩⟩:=st;simp at hb
  rcases hb with rfl|rfl
  ·show{_,h1,fun _ z=>nomatch z}
  ·show{_,h4,fun v q=>by rw[d4] at q;cases q}
 keep:=fun i h h' st hk=>by
  obtain⟨⟨a,h1⟩,h4⟩:=st;show{{a,hk e (by simp) _ h1},h4.at fun o e=>hk it (by simp) o e}
 item:=fun X hP hw hK hc i pins s σ H E I hf st go=>by
  subst hP hw hK;obtain⟨⟨old,he⟩,h1⟩:=st;obtain⟨xs,x,q1,e1⟩:=go;obtain⟨its1,r1,p1,_⟩:=I.list q1;obtain⟨u1,g1,ru1⟩:=qU r1 e1;show wpAny_pyNext_enum_item he h1 p1.isList g1 OX fun h' a1 a3 a5 a6 a7=>{_,rfl,(wpAny_letOwnedTupleGo_enum a1 fun h'' b1 b2 =>?_)}
  have kp:∀c o,c∉[e,it]->s.heap.get? c=some o->h''.get? c=some o:=fun c o hc z=>by
   simp only[Jq,Uo,or_false,not_or] at hc;show b2.extBut c o hc.1 (a7 c o hc.1 hc.2 z)
  have I1:Inv X pins σ H { s with heap:=h'',toks:=s.toks+1 }:=I.iter hf kp;have fT:=I.fN (Je _) (I.bw.fresh (Je _));show⟨.ref s.heap.objs.size,_,(I1.adopt (o := .tup [.int i,x]) fT I.sz {by change 2<=W1;decide,[.int i s.toks,u1],.cons {_,rfl} (.cons ru1 .nil),{_,(b2.extBut _ _ (nI (Jg he) (Je _)) a5),rfl,rfl,_,rfl}}),rfl,{_,rfl,fT.1,fun xs' x' q1' e1' =>?_},⟨⟨_,by
   have z:(((i+1:Nat):Int))=(i:Int)+1:=by lia
   rw[z];show b1⟩,a3.extBut b2.extBut (QaD OX)⟩,fun c hc =>?_⟩
  ·rw[I.rP q1' q1] at e1';rw[e1] at e1';cases e1';rfl
  ·have Er:c<s.heap.objs.size:=by
    simp at hc;obtain⟨_,h1,_⟩:=h1
    rcases hc with rfl|rfl
    ·show Jg he
    ·show Jg h1
   rw[av (cw Er (Je _))];show(hf c hc).1
 done:=fun X hP hw hK hc i pins s σ H E I hf st stop=>by
  subst hP hw hK;obtain⟨⟨old,he⟩,h1⟩:=st;obtain⟨xs,q1,e⟩:=stop;obtain⟨its1,r1,p1,_⟩:=I.list q1;have Zk:=r1.length;show wpAny_pyNext_enum_end (I.ok.hd hc) he h1 p1.isList (by simp;lia) fun h' kp=>{rfl,(I.iter (ch:=[it]) (fun c hc=>hf c (by simp at hc ⊢;simp[hc])) fun c o hc z=>kp c o (fun q=>hc (by simp[q])) z)}
 self:=fun A i s Q E st hQ=>by
  obtain⟨⟨old,he⟩,_⟩:=st;show wpAny_pyIter_enum he hQ
section
variable {X:Cx}
def QA (K:Ja)(ta:TA):TI:=fun σ H R=>ta σ H fun vs H1=>∃a,vs=[.ref a]/\(∃xs,aW K H1 a xs)/\R (Xl K a) H1
def JZ {elts:List QaF}{k:Nat}{tp:Pos}{a:QaF}{ta:TA}{p pos:Pos}(hg:Gl X "enumerate")(hm:X.mg "enumerate" = none)(ha:PA X [a] ta)(hb:QaT "enumerate" = some (.type "enumerate"):=by first|rfl|decide)(hs:Qaf [a] X.env=[(false,QaP a X.env)]:=by rfl):
  PI X (.Tuple elts k tp) (.Call (.Name "enumerate" p) [a] [] pos) (QA X.K ta):=by
 show fun pins s σ H R I h=>Call_ (fE I hg hm hb (Qao (bg (ha s σ H _ I h) fun us s1 hz_=>ak.el hz_ _ fun vs H1 I1 r1 q1 =>?_) hs rfl));obtain⟨l1,e,⟨xs,q1⟩,q⟩:=q1;subst e;obtain⟨u,rfl,ru⟩:=vals1 r1;cases ru;obtain⟨its1,rv1,p1,_⟩:=I1.list q1;have a1:l1<s1.heap.objs.size:=by obtain⟨_,e,_⟩:=p1.isList;show Jg e
 show call_enumerate_list p1.isList (fun h' he hi1 hsz hk=>wpAny_pyIter_enum he ?_);have I2:Inv X pins σ H1 { s1 with heap:=h' }:=I1.kept hk;show{_,_,_,_,H1,rfl,I2,DV _ _ _ (Nat.succ_ne_self _) (Jp (Qci a1)) (Jp a1),{{_,he},hi1},fun c hc =>?_,q};have Er:s1.heap.objs.size<=c:=by
  simp at hc
  rcases hc with rfl|rfl
  ·show Ua _ _
  ·show Je _
 show I1.fN Er (I1.bw.fresh Er)
end
section
variable {X:Cx}
def P8:R2:=fun x y H Q=>(fX fun i j=>x = .int i/\y = .int j/\Q (.int (i+j)) H)\/(∃i j,x = .str i/\y = .str j/\i.length+j.length<=W1/\Q (.str (i++j)) H)\/Rl x y H Q
def Pc:fA X (Qba .Add) P8:=MW.or (zO.or M9)
def Rv:R2:=fun x y H Q=>(fX fun i j=>x = .int i/\y = .int j/\Ae i j/\Q (.int (i*j)) H)\/QX x y H Q
def P9:fA X (Qba .Mult) Rv:=OJ.or Mc
structure Fn (P:Qac)(w:Qag)(K:Ja)(mg:Str->Option Fk)(base:Heap)(k:Nat)(x:Str)(ps:List Str)(sp:Sp):Prop where
 ex:∃f fd,aU P w K mg base dX k f fd ps sp/\Binds K fd ps []/\Yj K (.ref f)=true/\mg x=some (.ref f)
def Fn.mono {K:Ja}{mg:Str->Option Fk}{base:Heap}{j k:Nat}{x:Str}{ps:List Str}{sp:Sp}(F:Fn P w K mg base j x ps sp)(h:j<=k):Fn P w K mg base k x ps sp:=by
 show ak.el (F.ex) _ ?_;rintro f fd a b c d;show{f,fd,a.mono h,b,c,d}
def HD {p pos:Pos}{e:QaF}{es:List QaF}{t:TA}(F:Fn X.prog X.w X.K X.mg X.base k x ps sp)(hr:dw k X.A)(hg:Gl X x)
  (ha:PA X (e::es) t) (sD:(x==("__debug__" : Str))=false:=by decide) (he:Qaf (e::es) X.env=(false,QaP e X.env)::Qaf es X.env:=by rfl) (oP:(QbT pos (Qaf es X.env)).any (·.1)=false:=by rfl) :
  PE X (.Call (.Name x p) (e::es) [] pos) (wC sp [] E0 t):=by
 show ak.el (F.ex) _ ?_;rintro f fd a b c d;show Ie a hr hg d c b .nil tX ha sD he oP
end
def Bk (pn sn:List (Str×Qcx))(N Fc:List Str)(js:List Nat):Bool:=
 sn.all (fun y=>y.2 != .cell)&&sn.all (fun y=>y.2 != .local||sn.lookup y.1==some .local)&&sn.all (fun y=>y.2 != .free||pn.lookup y.1==some .cell||pn.lookup y.1==some .free)&&js.length==Fc.length &&
 (Qcq Fc.length).all fun k=>match Fc[k]?,js[k]? with
  | some x,some j=>sn.lookup x==some .free&&N[j]? == some x
  | _,_=>false
def b9 {X:Cx}{scope:QbU}{Nc Fc:List Str}{js:List Nat}(hk:scope.kind = .function:=by rfl)(h:Bk X.env.scope.names scope.names X.N Fc js=true:=by rfl):hW X scope Nc Fc js:=by
 unfold Bk at h;simp -iota only [Jw,U2,Bool.or_eq_true,bne_iff_ne,beq_iff_eq,ne_eq] at h;obtain⟨⟨⟨⟨h1,h2⟩,h3⟩,h4⟩,h5⟩:=h;show{hk,h1,fun y hy hl=>(h2 y hy).resolve_left (fun z=>z hl),fun y hy hf =>?_,fun k x hx =>?_,h4}
 ·rcases h3 y hy with (z|z)|z
  ·show absurd hf z
  ·show .inl z
  ·show .inr z
 ·have ZW:=(Jl.mp hx).1;have q:=h5 k (List.mem_range.mpr ZW);have hj:k<js.length:=by lia
  rw[hx,Jd hj] at q;simp only[Jw,beq_iff_eq] at q;show{q.1,_,Jd hj,q.2}
section
variable {X:Cx}
def Td (hu:X.A.units+64<QcY):fA X (QaC .Eq) (fun x y H Q=>SM x y H Q\/(∃d e,Den X.K H d x/\Den X.K H e y/\QaE d=true/\QaE e=true/\Q (.bl (Qb1 d e)) H)):=QK.or (Nv hu)
def Vy (hu:X.A.units+64<QcY):fA X (QaC .NotEq) (fun x y H Q=>VB x y H Q\/(∃d e,Den X.K H d x/\Den X.K H e y/\QaE d=true/\QaE e=true/\Q (.bl (!PyData.eqv d e)) H)):=Ro.or (Mn hu)
def nN:fA X (QaC .Is) (fun x y H Q=>(y = .non/\Q (.bl (decide (x = .non))) H)\/(∃a b,x = .bl a/\y = .bl b/\Q (.bl (decide (a=b))) H)):=Od.or L9
def BO:fA X (QaC .IsNot) (fun x y H Q=>(y = .non/\Q (.bl (!decide (x = .non))) H)\/(∃a b,x = .bl a/\y = .bl b/\Q (.bl (!decide (a=b))) H)):=JU.or Dr
def Q9:Ek X (fun x lo hi H Q=>Oj X.K x lo hi H Q\/(∃z,x = .str z/\z.length<=W1/\Q (.str (Qak z lo hi)) H)):=JR.or Mh
structure Nm (mg:Str->Option Fk):Prop where
 n_len:mg "len" = none
 n_range:mg "range" = none
 n_max:mg "max" = none
 n_min:mg "min" = none
 n_sum:mg "sum" = none
 n_all:mg "all" = none
 n_any:mg "any" = none
 n_list:mg "list" = none
 n_tuple:mg "tuple" = none
 n_int:mg "int" = none
 n_str:mg "str" = none
 n_bool:mg "bool" = none
 n_zip:mg "zip" = none
 n_enumerate:mg "enumerate" = none
 n_isinstance:mg "isinstance" = none
 n_divmod:mg "divmod" = none
end
def eh {n:Nat}{js:List Nat}{g:TG}{tc:TT}{te:TE}{σ:St}{H1:Hp}{fin:List V->Hp->Prop}(N:Nat)(Pv:Nat->List V->Hp->Prop)(h0:Pv 0 [] H1)
  (go:∀i ys H (Nx:List V->Hp->Prop),i<N->Pv i ys H->(∀ys' H',Pv (i+1) ys' H'->Nx ys' H')->J.go i H/\ys.length<W1 /\
   ∀x H',J.yld i H x H'->g x (Jm n none++eQ σ js) H' fun σ2 H2=>tc σ2 H2 fun b H3=>if b=true then te σ2 H3 fun y H4=>Nx (ys++[y]) H4 else Nx ys H3)
  (stop:∀ys H,Pv N ys H->J.stop N H/\fin ys H):BC J n js g tc te σ H1 fin:=by
 show{fun i m ys H=>m=N-i/\i<=N/\Pv i ys H,{N,by simp,Ue _,h0},(fun i m ys H hz_=>ak.el hz_ _ ?_)};rintro rfl hi p
 by_cases jq:i<N
 ·show .inr (go i ys H (fun ys' H'=>∃m',m'<N-i/\(m'=N-(i+1)/\i+1<=N/\Pv (i+1) ys' H')) jq p fun ys' H' q=>{_,⋯,rfl,jq,q})
 ·have e:i=N:=by lia
  subst e;show .inl (stop ys H p)
section
variable {X:Cx}(K:Ja)
def eW (hK:X.K=K:=by rfl):HS X (Vu K):=by subst hK;show LY
def T2 (hK:X.K=K:=by rfl):Ek X (fun x lo hi H Q=>Oj K x lo hi H Q\/(∃z,x = .str z/\z.length<=W1/\Q (.str (Qak z lo hi)) H)):=by subst hK;show Q9
def dN (hK:X.K=K:=by rfl):bE X (.builtin "len") (fun xs H Q=>∃x n,xs=[x]/\Nj K x H n/\Q (.int n) H):=by subst hK;show Hf
def ux (hK:X.K=K:=by rfl):JP X "str.join" (fun x vs H Q=>∃sep p xs,x = .str sep/\vs=[.ref p]/\aW K H p (xs.map V.str)/\(xs.map (·.length)).sum+xs.length*sep.length<=16777216/\Q (.str (QaM sep xs)) H):=by subst hK;show IM
def FQ {tg l:QaF}{tl:TE}(hl:PE X l tl)(hK:X.K=K:=by rfl):PI X tg l (Hn K tl):=by subst hK;show ID hl
def tupK {pos:Pos}{es:List QaF}{k:Nat}{t:FA}(n:Nat)(hc:X.calm=true)(h:Pw X es t)(hn:(QcD es X.env).length=n:=by rfl)(lR:(QcD es X.env).findIdx? (·.1)=none:=by rfl)(hK:X.K=K:=by rfl):PG X (.Tuple es k pos) (NP K n t):=by subst hK;show NX hc h hn lR
def qd {to:TE}{t:TA}{name:Str}{apos dR:Pos}{T id:String}{r:V->List V->Hp->VK->Prop}(pa:Qgh T)(slot:Slot T name id)(MT:typeOf (.builtin id)=pure (.type "method_descriptor"))(hm:JP X id r)(ho:PE X o to)(ha:PA X (e::es) t)
  (mX:Qbr o name X.env (QaP o X.env)=QaP o X.env:=by rfl)
  (DL:((QbT dR (Qaf (e::es) X.env)).all (fun x => !x.1)&&(backToKw dR (QfL [] X.env)).all (fun x=>x.1.isSome)
   && decide ((e::es).length+([]:List Qf5).length+(if ([]:List Qf5).isEmpty then 0 else 1)<30))=true:=by rfl)
  (nH:(apos.endLine==dR.line)=true:=by rfl) (hs:Qaf (e::es) X.env=(false,QaP e X.env)::Qaf es X.env:=by rfl) (zg:(QbT dR (Qaf es X.env)).any (·.1)=false:=by rfl) (hK:X.K=K:=by rfl) :
  PE X (.Call (.Attribute o name apos) (e::es) [] dR) (Wh K T r to t):=by subst hK;show Qu pa slot MT hm ho ha mX DL nH hs zg
def Tg {name:Str}{apos dR:Pos}{T id:String}{r:V->List V->Hp->VK->Prop}(pa:Qgh T)(slot:Slot T name id)(MT:typeOf (.builtin id)=pure (.type "method_descriptor"))(hm:JP X id r)(ho:PE X o to)
  (mX:Qbr o name X.env (QaP o X.env)=QaP o X.env:=by rfl) (nH:(apos.endLine==dR.line)=true:=by rfl) (hK:X.K=K:=by rfl):PE X (.Call (.Attribute o name apos) [] [] dR) (Rh K T r to):=by subst hK;show MU pa slot MT hm ho mX nH
def ka (hu:X.A.units+64<QcY)(hK:X.K=K:=by rfl):fA X (QaC .Eq) (fun x y H Q=>SM x y H Q\/(∃d e,Den K H d x/\Den K H e y/\QaE d=true/\QaE e=true/\Q (.bl (Qb1 d e)) H)):=by subst hK;show Td hu
def Cq (hu:X.A.units+64<QcY)(hK:X.K=K:=by rfl):fA X (QaC .NotEq) (fun x y H Q=>VB x y H Q\/(∃d e,Den K H d x/\Den K H e y/\QaE d=true/\QaE e=true/\Q (.bl (!PyData.eqv d e)) H)):=by subst hK;show Vy hu
end
abbrev Keeps (g h:Heap)(c:KE->Prop):Prop:=∀b o,¬c b->g.get? b=some o->h.get? b=some o
structure xZ (prog:Qac)(w:Qag)(A:QaB)(it S:KE)(T:String)(fp:KE->Prop)(n:Nat)(P:Nat->Fk->Heap->Prop)(R:Fk->Fk->Prop)(St:Nat->Heap->Prop):Prop where
 sfp:¬fp S
 ne:it≠S
 ty:∀i h,St i h->∃o,h.get? it=some o/\o.cls = .type T
 self:∀(s:Gc) (Q:Fk->Gc->Prop) (E:Fk->Gc->Prop),St 0 s.heap->Q (.ref it) s->Qab (Qaa prog w) A (Qfu (.ref it)) Q E s
 item:∀i (s:Gc) (Q:Option Fk->Gc->Prop) (E:Fk->Gc->Prop),i<n->St i s.heap->S<s.heap.objs.size ->
  (∀v h' tk,Keeps s.heap h' fp->St (i+1) h'->P i v h'->(∀j u,P j u s.heap->R u v)->Q (some v) { s with heap:=h',toks:=tk })->Qab (Qaa prog w) A (QbR (.ref it)) Q E s
 stop:∀(s:Gc) (Q:Option Fk->Gc->Prop) (E:Fk->Gc->Prop),St n s.heap->S<s.heap.objs.size->(∀h' tk,Keeps s.heap h' fp->Q none { s with heap:=h',toks:=tk })->Qab (Qaa prog w) A (QbR (.ref it)) Q E s
 keepS:∀i h h',St i h->Keeps h h' (· = S)->St i h'
 keepP:∀j v h h',P j v h->Keeps h h' (fun b=>fp b\/b=S)->P j v h'
 nolen:Qbu (.type T) "__len__" = pure none
 nohint:Qbu (.type T) "__length_hint__" = pure none
 nl:(Qa2 T==Qa2 "list")=false
 nt:(Qa2 T==Qa2 "tuple")=false
structure pE (h:Heap)(S:KE)(i:Nat)(P:Nat->Fk->Heap->Prop)(R:Fk->Fk->Prop)(acc:Array Fk)(c:Nat):Prop where
 ob:h.get? S=some { cls := .type "list",data := .seq acc c }
 sz:acc.size=i
 pw:acc.toList.Pairwise R
 all:∀(j:Nat) v,acc[j]? = some v->P j v h
abbrev qP (prog:Qac)(w:Qag)(A:QaB)(R:Qb6->Gc->Prop):Fin->Gc->Prop:=fun fin s'=>match fin with
 | .done f=>R (.ok f) s'
 | .again c'=>c'.quiet=true/\QaY (Qaa prog w) A c' R s'
section
variable {prog:Qac}{w:Qag}{A:QaB}{it S:KE}{T:String}{fp:KE->Prop}{n:Nat}{P:Nat->Fk->Heap->Prop}{R:Fk->Fk->Prop}{St:Nat->Heap->Prop}
abbrev pU (g:Heap)(S:KE)(fp:KE->Prop)(n:Nat)(P:Nat->Fk->Heap->Prop)(R:Fk->Fk->Prop)(s:Gc)(Z:Gc->Prop):Prop:=
 ∀h' tk acc c,Keeps g h' (fun b=>fp b\/b=S)->pE h' S n P R acc c->Z { s with heap:=h',toks:=tk }
def uh (Fd:xZ prog w A.in1 it S T fp n P R St)(hn:n<=W1){s:Gc}{Z:Qb6->Gc->Prop}{res:Fk}{g:Heap}(fin:pU g S fp n P R s (Z (.ok (.ret res)))):
  ∀k i h tk acc c,i+k=n->St i h->pE h S i P R acc c->Keeps g h (fun b=>fp b\/b=S) ->
   QaY (Qaa prog w) A (.builtin "list.extend.loop" ⟨[.ref S,.ref it,res],[]⟩) Z { s with heap:=h,toks:=tk }
 | 0,i,h,tk,acc,c,hk,lR,G,kp=>by
  have e:i=n:=by lia
  subst e;show QaH QbQ (be (Fd.stop { s with heap:=h,toks:=tk } _ _ lR (Jg G.ob) fun h' tk' k'=>tz (fin h' tk' acc c (fun b o nb q=>k' b o (fun z=>nb (.inl z)) (kp b o nb q)) {k' _ _ Fd.sfp G.ob,G.sz,G.pw,fun j v e=>Fd.keepP _ _ _ _ (G.all j v e) fun b o nb q=>k' b o (fun z=>nb (.inl z)) q})))
 | k+1,i,h,tk,acc,c,hk,lR,G,kp=>by
  show QaH QbQ (be (Fd.item i { s with heap:=h,toks:=tk } _ _ ⋯ lR (Jg G.ob) fun v h' tk' k' st' pv rv =>?_));have Nu:=k' _ _ Fd.sfp G.ob;have other:Keeps h' (h'.update S (QaJ (·.push v))) (· = S):=fun b o nb q=>(J7 _ _ (QaD nb)).trans q;have k2:Keeps h (h'.update S (QaJ (·.push v))) (fun b=>fp b\/b=S):=fun b o nb q=>other b o (fun z=>nb (.inr z)) (k' b o (fun z=>nb (.inl z)) q);have sz:=G.sz;show be (Qa9 Nu rfl (tz {QaW Qa3 _,(uh Fd hn fin k (i+1) _ tk' (acc.push v) _ ⋯ (Fd.keepS _ _ _ st' other) {J4 _ Nu rfl,by rw[Qb2,sz],?_,fun j u e =>?_} (fun b o nb q=>k2 b o nb (kp b o nb q)))}) (by rw[sz];lia) (by change(acc.push v).size<=W1+1;rw[Qb2,sz];lia))
  ·rw[Qcd];show Y2.mpr {G.pw,Qb7 _ _,fun a ha b hb =>?_};obtain⟨j,hj⟩:=J6.mp ha;rw[Jt.mp hb];show rv j a (G.all j a (by simpa using hj))
  ·by_cases hj:j<i
   ·rw[QfX ⋯] at e;show Fd.keepP _ _ _ _ (G.all j u (by rw[Jz ⋯];show e)) k2
   ·have N7:j=i:=by
     have:=(U4.mp e).1;rw[Qb2] at this;lia
    subst N7;have e':(acc.push v)[acc.size]? = some u:=by rw[sz];show e
    rw[QfI] at e';cases e';show Fd.keepP _ _ _ _ pv fun b o nb q=>other b o (fun z=>nb (.inr z)) q
def xn (Fd:xZ prog w A.in1 it S T fp n P R St)(hn:n<=W1){s:Gc}{Z:Qb6->Gc->Prop}{res:Fk}{c₀:Nat}(lR:St 0 s.heap)(hS:s.heap.get? S=some { cls := .type "list",data := .seq #[] c₀ })
  (fin:pU s.heap S fp n P R s (Z (.ok (.ret res)))) :
  Qab (Qaa prog w) A.in1 (QbE (.ref S) (.ref it) res) (qP prog w A Z) (fun e s'=>Z (.error e) s') s:=by
 have go:∀h c tk,Keeps s.heap h (· = S)->h.get? S=some { cls := .type "list",data := .seq #[] c } -> QaY (Qaa prog w) A (.builtin "list.extend.loop" ⟨[.ref S,.ref it,res],[]⟩) Z { s with heap:=h,toks:=tk }:=
  fun h c tk k o=>uh Fd hn fin n 0 h tk #[] c ⋯ (Fd.keepS _ _ _ lR k) ⟨o,rfl,.nil,fun j v e=>by simp at e⟩ fun b o nb q=>k b o (fun z=>nb (.inr z)) q
 obtain⟨oi,hoi,hci⟩:=Fd.ty 0 _ lR;have hT:s.TypeIs (.ref it) T:=⟨oi,hoi,hci⟩
 have yp:Qa4 (.ref S) (.ref it)=false:=by simp[Qa4,QaD Fd.ne]
 show be (QaX hT ?_);simp only[yp,Fd.nl,Fd.nt,if_false];show be (Fd.self s _ _ lR ?_);have hint:∀Q,Q true s->Qab (Qaa prog w) A.in1 (Qcm (.ref it)) Q (fun e s'=>Z (.error e) s') s:=fun Q q=>by
  show be (QcQ hT Fd.nolen (Qbk (fun z=>absurd z ∅) fun _=>Qbk (fun z=>absurd z ∅) fun _=>be (QcQ hT Fd.nohint (tz q))))
 show be (Qah (hint _ (Qbk (fun _=>(be (Qbj (be ?_)))) fun _=>tz {QaW Qa3 _,go _ c₀ _ (fun _ _ _ q=>q) hS})));have o1:=J4 (QaJ (·.push Qcn)) hS rfl;show be (Qa9 hS rfl (Qa9 o1 rfl (tz {QaW Qa3 _,go _ _ _ (fun b o nb q =>?_) (J4 (QaJ (·.pop)) o1 rfl)})));show(J7 _ _ (QaD nb)).trans ((J7 _ _ (QaD nb)).trans q)
def DR (Fd:xZ prog w A.in1 it S T fp n P R St)(hn:n<=W1){s:Gc}{Z:Qb6->Gc->Prop}(lR:St 0 s.heap)(hS:s.heap.get? S=some { cls := .type "list",data := .seq #[] })
  (fin:pU s.heap S fp n P R s (Z (.ok (.ret .none)))) :
  Qab (Qaa prog w) A.in1 (Builtin.«list.__init__» ⟨[.ref S,.ref it],[]⟩) (qP prog w A Z) (fun e s'=>Z (.error e) s') s:=by
 show be (be (Qav hS rfl (tz ?_)));have k1:Keeps s.heap (s.heap.update S (QaJ (fun _=>(#[]:Array Fk)))) (· = S):=fun b o nb q=>(J7 _ _ (QaD nb)).trans q;show be (Qa9 hS rfl (be (Qcj (xn Fd hn (Fd.keepS _ _ _ lR k1) (J4 (QaJ (fun _=>(#[]:Array Fk))) hS rfl) fun h' tk acc c k G =>?_))));show fin h' tk acc c (fun b o nb q=>k b o nb (k1 b o (fun z=>nb (.inr z)) q)) G
def uB {Q:Fk->Gc->Prop}{E:Fk->Gc->Prop}(Fd:xZ prog w A.in1.in1 it s.heap.objs.size T fp n P R St)(hn:n<=W1)(lR:∀o,St 0 (s.heap.push o))
  (fin:∀h' tk acc c,Keeps s.heap h' fp->pE h' s.heap.objs.size n P R acc c->Q (.ref s.heap.objs.size) { s with heap:=h',toks:=tk }) :
  Qab (Qaa prog w) A (call (.type "list") [.ref it]) Q E s:=by
 show Qdb (Q₁:=fun obj s₁=>obj = .ref s.heap.objs.size/\s₁={ s with heap:=s.heap.push { cls := .type "list",data := .seq #[] } }) F.called_list (F.typeCall_list_1 _) F.entry_list_init
  (code_list_new _ ⟨rfl,rfl⟩) fun obj s₁ h₁ =>?_
 obtain⟨rfl,rfl⟩:=h₁;have hS:(s.heap.push { cls := .type "list",data := .seq #[] }).get? s.heap.objs.size=some { cls := .type "list",data := .seq #[] }:=Ji _ rfl;show{{_,hS,rfl},F.args_list_init_2 _ _,DR Fd hn (lR _) hS fun h' tk acc c k G=>{rfl,fin h' tk acc c (fun b o nb q=>(k b o (fun z=>z.elim nb fun z=>cw (Jg q) (Je _) z) (Jb _ q))) G}}
end
abbrev iU (h:Heap)(z TI TO a:KE)(f:Bool):Prop:=
 h.get? z=some { cls := .type "zip",dict:=none,data := .fields #[Qa0 a,.bool f,.bool false,.ref TI,.ref TO],slots := #[] }
section
variable {prog:Qac}{w:Qag}{A:QaB}{E:Fk->Gc->Prop}{s:Gc}{z TI TO i1 i2 l1 l2 a:KE}{f:Bool}{oa:Obj}
def mT (hz:iU s.heap z TI TO a f)(ha:s.heap.get? a=some oa)
  (q:∀h,iU h z TI TO a true->U6 z s.heap h->Q false { s with heap:=h }):Qab (Qaa prog w) A (Builtin.SmallTypes.ownedTupleIsFree (.ref z)) Q E s:=by
 show be (Qai hz rfl rfl (be (Qgx ha (be (Qai hz rfl rfl ?_)))));cases f
 ·show be (Qae hz (by simp) fun h e k=>tz (q h e k))
 ·show tz (q s.heap hz (U6.refl _ _))
def vY (D:QcL z TI TO i1 i2 l1 l2)(hz:iU s.heap z TI TO a f)(ha:s.heap.get? a=some oa)(sN:Qbq s.heap TI (.ref i1) (.ref i2))
  (h1:s.heap.IsListIter i1 l1 k) (h2:s.heap.IsListIter i2 l2 k) (sR:s.heap.IsList l1 xs) (Ez:s.heap.IsList l2 ys) (hx:xs[k]? = some x) (hy:ys[k]? = some y)
  (q:∀h',iU h' z TI TO a true->h'.IsListIter i1 l1 (k+1)->h'.IsListIter i2 l2 (k+1)->Qbq h' s.heap.objs.size x y->Keeps s.heap h' (fun b=>b=z\/b=i1\/b=i2)->Q (some (.ref s.heap.objs.size)) { s with heap:=h' }) :
  Qab (Qaa prog w) A (QbR (.ref z)) Q E s:=by
 have hT:s.TypeIs (.ref z) "zip":=⟨_,hz,rfl⟩
 show be (QaS (Qam hT QaL (Qaq QaL hT QbF ?_ (Qbz _))));change Qab _ _ (QbV (Qga (.ref z) 2) _) _ _ _;show be (Qai hz rfl rfl (be (Qai hz rfl rfl (be (Qav sN rfl (be (mT hz ha fun h0 z0 k0=>be (be (be (Qah (be (Qbp (h1.extBut k0.extBut D.i1z) (sR.extBut k0.extBut D.l1z) hx fun h4 e4 k4=>tz (tz (be (be (Qah (be (Qbp ((h2.extBut k0.extBut D.i2z).extBut k4.extBut D.i12.symm) ((Ez.extBut k0.extBut D.l2z).extBut k4.extBut D.l2i1) hy fun h5 e5 k5=>tz (tz (tz (be (Qcs (hsz:=by change 2<=W1;decide) (tz {_,rfl,tz ?_})))))))))))))))))))))));have hsz:h5.objs.size=s.heap.objs.size:=by rw[k5.1,k4.1,k0.1]
 rw[hsz];show q (h5.push { cls := .type "tuple",data := .seq #[x,y] }) (Jb _ (k5.extBut _ _ D.i2z.symm (k4.extBut _ _ D.i1z.symm z0))) ((e4.extBut k5.extBut D.i12).at fun o e=>Jb _ e) (e5.at fun o e=>Jb _ e) (by rw[<-hsz];show Ji _ rfl) fun b o nb e =>?_;show Jb _ (k5.extBut _ _ (fun z=>nb (.inr (.inr z))) (k4.extBut _ _ (fun z=>nb (.inr (.inl z))) (k0.extBut _ _ (fun z=>nb (.inl z)) e)))
def vG (hh:A.handled=none)(D:QcL z TI TO i1 i2 l1 l2)(hz:iU s.heap z TI TO a f)(ha:s.heap.get? a=some oa)(sN:Qbq s.heap TI (.ref i1) (.ref i2))
  (h1:s.heap.IsListIter i1 l1 k) (h2:s.heap.IsListIter i2 l2 k) (sR:s.heap.IsList l1 xs) (Ez:s.heap.IsList l2 ys) (he:xs[k]? = none\/ys[k]? = none)
  (q:∀h',Keeps s.heap h' (fun b=>b=z\/b=i1\/b=i2)->Q none { s with heap:=h' }) :
  Qab (Qaa prog w) A (QbR (.ref z)) Q E s:=by
 have hT:s.TypeIs (.ref z) "zip":=⟨_,hz,rfl⟩
 show be (QaS (Qam hT QaL (Qaq QaL hT QbF ?_ (Qbz _))));change Qab _ _ (QbV (Qga (.ref z) 2) _) _ _ _;show be (Qai hz rfl rfl (be (Qai hz rfl rfl (be (Qav sN rfl (be (mT hz ha fun h0 z0 k0=>be (be (be (Qah ?_))))))))));cases hx:xs[k]? with
 | none=>
  show be (Qd6 hh (h1.extBut k0.extBut D.i1z) (sR.extBut k0.extBut D.l1z) hx fun h4 e k4 oe=>ak.el (oe) _ ?_);rintro o ho hc;show be (QaG ⟨o,ho,hc⟩ Qbv (tz (q h4 fun b o nb x=>k4 _ _ (fun z=>nb (.inr (.inl z))) (k0.extBut _ _ (fun z=>nb (.inl z)) x))))
 | some x=>
  show be (Qbp (h1.extBut k0.extBut D.i1z) (sR.extBut k0.extBut D.l1z) hx fun h4 e4 k4=>tz (tz (be (be (Qah (be (Qd6 hh ((h2.extBut k0.extBut D.i2z).extBut k4.extBut D.i12.symm) ((Ez.extBut k0.extBut D.l2z).extBut k4.extBut D.l2i1) (he.resolve_left (by rw[hx];show nofun)) fun h5 e k5 oe=>ak.el (oe) _ ?_)))))));rintro o ho hc;show be (QaG ⟨o,ho,hc⟩ Qbv (tz (q h5 fun b o nb x=>k5 _ _ (fun z=>nb (.inr (.inr z))) (k4.extBut _ _ (fun z=>nb (.inr (.inl z))) (k0.extBut _ _ (fun z=>nb (.inl z)) x)))))
end
structure yo (z TI TO i1 i2 l1 l2 S:KE)(xs ys:Array Fk)(i:Nat)(h:Heap):Prop where
 ti:Qbq h TI (.ref i1) (.ref i2)
 to:∃a b,Qbq h TO a b
 it1:h.IsListIter i1 l1 i
 it2:h.IsListIter i2 l2 i
 a1:h.IsList l1 xs
 a2:h.IsList l2 ys
 zp:Qgm h z TI TO .none\/0<i/\∃a f oa,iU h z TI TO a f/\h.get? a=some oa/\S<a
abbrev rg (z TO i1 i2:KE)(b:KE):Prop:=b=z\/b=TO\/b=i1\/b=i2
abbrev AW (S:KE)(xs ys:Array Fk)(j:Nat)(v:Fk)(h:Heap):Prop:=pW fun a x y=>v = .ref a/\S<a/\xs[j]? = some x/\ys[j]? = some y/\Qbq h a x y
abbrev kY (u v:Fk):Prop:=∃a b,u = .ref a/\v = .ref b/\a<b
def xT {z TI TO i1 i2 l1 l2 S:KE}{xs ys:Array Fk}(hh:A.handled=none)(D:QcL z TI TO i1 i2 l1 l2)(b1:z<S)(b2:TI<S)(b3:TO<S)(b4:i1<S)(b5:i2<S)(b6:l1<S)(b7:l2<S):
  xZ prog w A z S "zip" (rg z TO i1 i2) (min xs.size ys.size) (AW S xs ys) kY (yo z TI TO i1 i2 l1 l2 S xs ys) where
 sfp:=fun q=>by
  rcases q with q|q|q|q<;>(rw[q] at b1 b3 b4 b5;first|show absurd b1 (Uk _)|show absurd b3 (Uk _)|show absurd b4 (Uk _)|show absurd b5 (Uk _))
 ne:=Jp b1
 ty:=fun i h st=>by
  rcases st.zp with q|⟨_,a,f,oa,q,_⟩
  ·show{_,q,rfl}
  ·show{_,q,rfl}
 self:=fun s Q E st q=>by
  rcases st.zp with r|⟨r,_⟩
  ·show QdG r q
  ·show absurd r (Uk _)
 item:=fun i s Q E hi st hS q=>by
  obtain⟨ti,⟨a,b,to⟩,it1,it2,a1,a2,zp⟩:=st;have hx:xs[i]? = some (xs[i]'⋯):=Jz ⋯;have hy:ys[i]? = some (ys[i]'⋯):=Jz ⋯;have old:∀j u,AW S xs ys j u s.heap->kY u (.ref s.heap.objs.size):=fun j u hz_=>ak.el hz_ _ fun a x y e _ _ _ p=>⟨a,_,e,rfl,Jg p⟩
  rcases zp with r|⟨hi0,c,f,oc,r,oc',hc⟩
  ·show wpAny_pyNext_zip_item D r ti to it1 it2 a1 a2 hx hy fun h' r1 r2 r3 r4 r5 r6 r7 =>?_;have kp:Keeps s.heap h' (rg z TO i1 i2):=fun b o nb e=>r7 b o (fun z=>nb (.inl z)) (fun z=>nb (.inr (.inl z))) (fun z=>nb (.inr (.inr (.inl z)))) (fun z=>nb (.inr (.inr (.inr z)))) e;show q _ h' s.toks kp {r7 _ _ D.TIz D.TITO D.TIi1 D.TIi2 ti,{_,_,r2},r3,r4,a1.at fun o e=>r7 _ _ D.l1z D.l1TO D.l1i1 D.l1i2 e,a2.at fun o e=>r7 _ _ D.l2z D.l2TO D.l2i1 D.l2i2 e,.inr {QdA _,_,_,_,r1,r5,hS}} {_,_,_,rfl,hS,hx,hy,r5} old
  ·have ne:∀{b:KE},b<S->c≠b:=fun hb=>Uq (Wf hb hc);show vY D r oc' ti it1 it2 a1 a2 hx hy fun h' r1 r2 r3 r4 r5 =>?_;have kp:Keeps s.heap h' (rg z TO i1 i2):=fun b o nb e=>r5 b o (fun z=>z.elim (fun z=>nb (.inl z)) fun z=>nb (.inr (.inr z))) e;show q _ h' s.toks kp ⟨r5 _ _ (fun z=>z.elim D.TIz fun z=>z.elim D.TIi1 D.TIi2) ti,{_,_,r5 _ _ (fun z=>z.elim D.TOz fun z=>z.elim D.TOi1 D.TOi2) to},r2,r3,a1.at fun o e=>r5 _ _ (fun z=>z.elim D.l1z fun z=>z.elim D.l1i1 D.l1i2) e,a2.at fun o e=>r5 _ _ (fun z=>z.elim D.l2z fun z=>z.elim D.l2i1 D.l2i2) e,
    .inr ⟨QdA _,_,_,_,r1,r5 _ _ (fun z=>z.elim (ne b1) fun z=>z.elim (ne b4) (ne b5)) oc',hc⟩⟩ ⟨_,_,_,rfl,hS,hx,hy,r4⟩ old
 stop:=fun s Q E st hS q=>by
  obtain⟨ti,⟨a,b,to⟩,it1,it2,a1,a2,zp⟩:=st;have he:xs[min xs.size ys.size]? = none\/ys[min xs.size ys.size]? = none:=by
   rcases Qgj xs.size ys.size with h|h
   ·show .inl (Uu ⋯)
   ·show .inr (Uu ⋯)
  rcases zp with r|⟨hi0,c,f,oc,r,oc',hc⟩
  ·show wpAny_pyNext_zip_end hh D r ti to it1 it2 a1 a2 he fun h' k=>q h' s.toks fun b o nb e=>k b o (fun z=>nb (.inl z)) (fun z=>nb (.inr (.inl z))) (fun z=>nb (.inr (.inr (.inl z)))) (fun z=>nb (.inr (.inr (.inr z)))) e
  ·show vG hh D r oc' ti it1 it2 a1 a2 he fun h' k=>q h' s.toks fun b o nb e=>k b o (fun z=>z.elim (fun z=>nb (.inl z)) fun z=>nb (.inr (.inr z))) e
 keepS:=fun i h h' st k=>by
  obtain⟨ti,⟨a,b,to⟩,it1,it2,a1,a2,zp⟩:=st;show{k _ _ (Jp b2) ti,{a,b,k _ _ (Jp b3) to},it1.at fun o e=>k _ o (Jp b4) e,it2.at fun o e=>k _ o (Jp b5) e,a1.at fun o e=>k _ o (Jp b6) e,a2.at fun o e=>k _ o (Jp b7) e,?_}
  rcases zp with r|⟨hi0,c,f,oc,r,oc',hc⟩
  ·show .inl (k _ _ (Jp b1) r)
  ·show .inr {hi0,c,f,oc,k _ _ (Jp b1) r,k _ _ (Uq hc) oc',hc}
 keepP:=fun j v h h' ⟨a,x,y,e,ha,h1,h2,p⟩ k=>by
  have ne:∀{b:KE},b<S->a≠b:=fun hb=>Uq (Wf hb ha);show{a,x,y,e,ha,h1,h2,k _ _ (fun z=>z.elim (fun z=>z.elim (ne b1) fun z=>z.elim (ne b3) fun z=>z.elim (ne b4) (ne b5)) (Uq ha)) p}
 nolen:=by rw[QcS,QbS];kernel_rfl
 nohint:=by rw[QcS,QbS];kernel_rfl
 nl:=∅
 nt:=∅
def Inv.nO {σ:St}:∀(as:List KE) (ps:List (List V)) {H:Hp} {s:Gc},Inv X pins σ H s->as.Nodup->as.length=ps.length->(∀a∈as,hM X pins H a/\X.s₀.heap.objs.size<=a) ->
  (∀(j:Nat) a p,as[j]? = some a->ps[j]? = some p->p.length<=W1/\∃aF,Vals p aF/\vt s.heap a aF.toArray) ->
  ∃H',Inv X pins σ H' s/\aq H H'/\(∀b,b∉as->H' b=H b)/\∀(j:Nat) a p,as[j]? = some a->ps[j]? = some p->H' a=some (.tup p)
 | [],ps,H,s,I,_,_,_,_=>⟨H,I,aq.refl H,fun _ _=>rfl,fun j a p h _=>by simp at h⟩
 | a::as,[],H,s,I,_,hl,_,_=>by simp at hl
 | a::as,p::ps,H,s,I,nd,hl,hf,ho=>by
  obtain⟨na,nd'⟩:=U8.mp nd;obtain⟨fa,sa⟩:=hf a Jj;obtain⟨hz,aF,rv,ht⟩:=ho 0 a p rfl rfl;obtain⟨H',I',sm,same,all⟩:=Inv.nO as ps (I.adopt (o := .tup p) fa sa ⟨hz,aF,rv,ht⟩) nd' (by simpa using hl) (fun b hb=>by
   obtain⟨fb,sb⟩:=hf b (Jh _ hb);show⟨⟨by rw[av (fun e=>na (by rw[<-e];show hb))];show fb.1,fb.2⟩,sb⟩) (fun j b q h1 h2=>ho (j+1) b q h1 h2)
  show{H',I',fun b o e=>sm b o (by rw[av (aE e fa.1)];show e),fun b hb =>?_,fun j b q h1 h2 =>?_}
  ·rw[same b fun z=>hb (Jh _ z),av (fun z=>hb (by rw[z];show Jj))]
  ·cases j with
   | zero=>
    cases h1;cases h2;rw[same a na];show ax
   | succ j=>show all j b q h1 h2
def pS:∀{l:List Fk},(∀v∈l,∃a,v = .ref a)->∃as:List KE,l=as.map Qaj
 | [],_=>⟨[],rfl⟩
 | v::r,h=>by
  obtain⟨a,rfl⟩:=h v Jj;obtain⟨as,rfl⟩:=pS fun u hu=>h u (Jh _ hu);show{a::as,rfl}
section
variable {X:Cx}
def V9 (K:Ja)(ta:TA):TE:=fun σ H Q=>ta σ H fun vs H1=>nP fun l1 l2 xs ys=>vs=[.ref l1,.ref l2]/\aW K H1 l1 xs/\aW K H1 l2 ys /\
 ∀H' p (as:List KE),aq H1 H'->H1 p=none->H' p=some (.lst (as.map V.ref))->as.length=min xs.length ys.length ->
  (∀(j:Nat) a x y,as[j]? = some a->xs[j]? = some x->ys[j]? = some y->H1 a=none/\H' a=some (.tup [x,y]))->Q (.ref p) H'
def uC {xs ys:List V}(j:Nat)(x y:V)(hx:xs[j]? = some x)(hy:ys[j]? = some y):((xs.zip ys).map fun q=>[q.1,q.2])[j]? = some [x,y]:=by grind
def yO {p p2 pos rC:Pos}(hc:X.calm=true)(N5:Gl X "list")(Ov:X.mg "list" = none)(Rx:Gl X "zip")(QW:X.mg "zip" = none)(ha:PA X [a,b] ta)
  (En:QaT "list" = some (.type "list"):=by first|rfl|decide) (Rb:QaT "zip" = some (.type "zip"):=by first|rfl|decide)
  (NA:Qaf [.Call (.Name "zip" p2) [a,b] [] rC] X.env=[(false,QaP (.Call (.Name "zip" p2) [a,b] [] rC) X.env)]:=by rfl)
  (hs:Qaf [a,b] X.env=[(false,QaP a X.env),(false,QaP b X.env)]:=by rfl) (AY:Qaf [b] X.env=[(false,QaP b X.env)]:=by rfl) :
  PE X (.Call (.Name "list" p) [.Call (.Name "zip" p2) [a,b] [] rC] [] pos) (V9 X.K ta):=by
 show fun pins s σ H Q I h=>QaQ (fE I N5 Ov En (Qao (Qbo (Call_ (fE I Rx QW Rb (Qao (bg (ha s σ H _ I h) fun us s1 hz_=>ak.el hz_ _ fun vs H1 I1 r1 q1 =>?_) (by rw[hs,AY]) (by rw[AY];rfl))))) NA rfl));obtain⟨l1,l2,xs,ys,e,q1,q2,q⟩:=q1;subst e;obtain⟨u,w',rfl,r1,r2⟩:=vals2 r1;cases r1;cases r2;obtain⟨its1,rv1,p1,hz1⟩:=I1.list q1;show ak.el (I1.list q2) _ ?_;rintro its2 rv2 p2 hz2;have e1:=rv1.length;have e2:=rv2.length;have a1:l1<s1.heap.objs.size:=by obtain⟨_,e,_⟩:=p1.isList;show Jg e
 have a2:l2<s1.heap.objs.size:=by obtain⟨_,e,_⟩:=p2.isList;show Jg e
 show call_zip_2 p1.isList p2.isList fun h' hz sN zx hi1 hi2 hsz hk=>QbM ?_;have uy:s1.heap.objs.size<=h'.objs.size:=by rw[hsz];show Ua _ _
 have jb:∀n,n<5->s1.heap.objs.size+n<h'.objs.size:=fun n hn=>by rw[hsz];show Qea hn _
 have zs:∀o,yo (s1.heap.objs.size+4) (s1.heap.objs.size+2) (s1.heap.objs.size+3) s1.heap.objs.size (s1.heap.objs.size+1) l1 l2 h'.objs.size its1.toArray its2.toArray 0 (h'.push o):=fun o=>
  ⟨Jb _ sN,⟨_,_,Jb _ zx⟩,hi1.at fun o e=>Jb _ e,hi2.at fun o e=>Jb _ e,(p1.isList.at fun o e=>hk _ o e).push _,(p2.isList.at fun o e=>hk _ o e).push _,.inl (Jb _ hz)⟩
 show uB (xT (I.ok.hd hc) (Qe1 a1 a2) (jb 4 ∅) (jb 2 ∅) (jb 3 ∅) (jb 0 ∅) (jb 1 ∅) (Jv a1 uy) (Jv a2 uy)) (by simp;lia) zs fun h2 tk acc c N0 G =>?_;obtain⟨hS2,hsz2,hpw,kR⟩:=G;obtain⟨as,iJ⟩:=pS (l:=acc.toList) fun v hv=>by
  obtain⟨j,hj⟩:=J6.mp hv;obtain⟨a,_,_,e,_⟩:=kR j v (by simpa using hj);show⟨a,e⟩
 have kI:∀j a,as[j]? = some a->∃x y,h'.objs.size<a/\its1.toArray[j]? = some x/\its2.toArray[j]? = some y/\Qbq h2 a x y:=fun j a h=>by
  obtain⟨a',x,y,e,g⟩:=kR j (.ref a) (by
   have:acc.toList[j]? = some (.ref a):=by rw[iJ,Jk,h];rfl
   simpa using this)
  cases e;show⟨x,y,g⟩
 have above:∀a∈as,h'.objs.size<a:=fun a ha=>by
  obtain⟨j,hj⟩:=J6.mp ha;obtain⟨_,_,g,_⟩:=kI j a hj;show g
 have old:∀b o,s1.heap.get? b=some o->h2.get? b=some o:=fun b o e=>by
  have gt:∀n,b≠s1.heap.objs.size+n:=fun n=>Jp (Jv (Jg e) (Ua _ _));show N0 b o (fun z=>z.elim (gt 4) fun z=>z.elim (gt 3) fun z=>z.elim (gt 0) (gt 1)) (hk b o e)
 have I2:Inv X pins σ H1 { s1 with heap:=h2,toks:=tk }:=I1.kept old;have uL:=fun a ha=>Yd (Jy uy (above a ha));have nd:as.Nodup:=by
  rw[iJ,Qer] at hpw;show hpw.imp fun hz_=>ak.el hz_ _ fun a b e1 e2 h=>by cases e1;cases e2;show Jp h
 have fN:∀a,s1.heap.objs.size<=a->hM X pins H1 a/\X.s₀.heap.objs.size<=a:=fun a ha=>⟨I1.fN ha (I1.bw.fresh ha),Jf I1.sz ha⟩
 have Ew:as.length=min xs.length ys.length:=by
  have z:acc.toList.length=as.length:=by rw[iJ,Jc]
  simp at z hsz2;lia
 obtain⟨H',I',sm,same,all⟩:=I2.nO as ((xs.zip ys).map fun q=>[q.1,q.2]) nd (by rw[Jc,Yq];lia) (fun a ha=>fN a (uL a ha)) (fun j a pp h1 h2'=>by
  show ak.el (kI j a h1) _ ?_;rintro x y _ g1 g2 g3;show ak.el (jP rv1 g1) _ ?_;rintro vx gx rx;show ak.el (jP rv2 g2) _ ?_;rintro vy gy ry;have z:=uC j vx vy gx gy;rw[z] at h2';cases h2';show⟨by change 2<=W1;decide,[x,y],.cons rx (.cons ry .nil),⟨_,g3,rfl,rfl,_,rfl⟩⟩)
 have Gv:=fun hm=>Uk _ (above _ hm);have oj:=I1.bw.fresh uy;obtain⟨fS,sS⟩:=fN h'.objs.size uy;have I3:=I'.adopt (o := .lst (as.map V.ref)) ⟨by rw[same _ Gv];show oj,fS.2⟩ sS ⟨by rw[Jc];lia,acc.toList,c,by
  rw[iJ];clear hS2 iJ all same I' sm uL nd Ew Gv above kI
  induction as with
  | nil=>show .nil
  | cons a r ih=>show .cons rfl ih,by simpa using hS2⟩
 show{.ref h'.objs.size,_,I3,rfl,q _ _ as (fun b o e =>?_) oj ax Ew fun j a x y h1 h2' h3'=>{(fN a (uL a (J0 h1))).1.1,?_}}
 ·rw[av (aE e oj)];show sm b o e
 ·rw[av (fun z=>Gv (by rw[<-z];show J0 h1))];show all j a [x,y] h1 (uC j x y h2' h3')
end
structure jI (H:Hp)(p:KE)(o:HO)(H':Hp):Prop where
 nn:H p=none
 eq:H'=upd H p o
def jI.at {p:KE}{o:HO}(n:jI H p o H'):H' p=some o:=by rw[n.eq];show ax
def jI.ne {p a:KE}{o:HO}(n:jI H p o H')(h:a≠p):H' a=H a:=by rw[n.eq];show av h
def jI.same {p:KE}{o:HO}(n:jI H p o H'):aq H H':=fun a u e=>by rw[n.ne (aE e n.nn)];show e
def jI.back {p a:KE}{o:HO}(n:jI H p o H')(h:H' a=none):H a=none:=by
 cases e:H a with
 | none=>rfl
 | some u=>rw[n.same a u e] at h;cases h
structure Eu (H:Hp)(p:KE)(o:HO)(H':Hp):Prop where
 eq:H'=upd H p o
def Eu.at {p:KE}{o:HO}(n:Eu H p o H'):H' p=some o:=by rw[n.eq];show ax
def Eu.ne {p a:KE}{o:HO}(n:Eu H p o H')(h:a≠p):H' a=H a:=by rw[n.eq];show av h
def uZ {F:KE->Hp->Prop}:(∀p,H p=none->F p (upd H p o)) = ∀p H',jI H p o H'->F p H':=
 propext ⟨fun h p H' n=>by rw[n.eq];show h p n.nn,fun h p hp=>h p _ ⟨hp,rfl⟩⟩
def KY {F:Hp->Prop}:F (upd H p o) = ∀H',Eu H p o H'->F H':=
 propext ⟨fun h H' n=>by rw[n.eq];show h,fun h=>h _ ⟨rfl⟩⟩
section
variable {X:Cx}{pos:Pos}{es:List QaF}{t:TA}
def Lq (t:TA):TE:=fun σ H Q=>t σ H fun xs H1=>xs.length<=W1/\∀p H',jI H1 p (.tup xs) H'->Q (.ref p) H'
def Lo (t:TA):TE:=fun σ H Q=>t σ H fun xs H1=>xs.length<=W1/\∀p H',jI H1 p (.lst xs) H'->Q (.ref p) H'
def bI (h:PA X es t):PE X (.Tuple es x1 pos) (Lq t):=by
 have e:Lq t=QR t:=by
  funext σ H Q
  change t σ H _=t σ H _
  congr 1;funext xs H1
  show congrArg (_ /\ ·) (uZ).symm
 rw[e];show FH h
def gq (h:PA X es t):PE X (.List es pos) (Lo t):=by
 have e:Lo t=Q6 t:=by
  funext σ H Q
  change t σ H _=t σ H _
  congr 1;funext xs H1
  show congrArg (_ /\ ·) (uZ).symm
 rw[e];show Nl h
def Ar (yV:List (TE×TE)):TE:=fun σ H Q=>∀p H0,jI H p (.dK []) H0->sE yV σ H0 fun ps H2=>H2 p=some (.dK [])/\∃kvs,ps=kvs.map (fun kv=>(kV kv.1,kv.2))/\kvs.length<=15/\∀H3,Eu H2 p (.dK (cN [] kvs)) H3->Q (.ref p) H3
def K9 (h:Pf X pos keys values yV)(kR:keys.all (·.isSome)=true)(hl:keys.length=values.length)(h0:keys≠[])
  (Pt:keys.length<=15):PE X (.Dict keys values pos) (Ar yV):=by
 have e:Ar yV=Hw yV:=by
  funext σ H Q
  unfold Ar Hw;rw[uZ (F:=fun p H0=>sE yV σ H0 fun ps H2=>H2 p=some (.dK [])/\∃kvs,ps=kvs.map (fun kv=>(kV kv.1,kv.2))/\kvs.length<=15/\Q (.ref p) (upd H2 p (.dK (cN [] kvs))))];simp only[<-KY]
 rw[e];show Iu h kR hl h0 Pt
end
section
variable {X:Cx}(K:Ja)
def UN (K:Ja):V->Option Int->Option Int->Hp->VK->Prop:=fun x lo hi H Q=>(fX fun a xs=>x = .ref a/\aW K H a xs/\∀p H',jI H p (.lst (kP xs lo hi)) H'->Q (.ref p) H')\/(∃z,x = .str z/\z.length<=W1/\Q (.str (Qak z lo hi)) H)
def xW (hK:X.K=K:=by rfl):Ek X (UN K):=by
 subst hK;show fun pins s σ H x v vl vu lo hi sl Q I rx hs pl pu q=>Q9 s σ H x v vl vu lo hi sl Q I rx hs pl pu ?_
 rcases q with ⟨a,xs,e,h,q⟩|q
 ·show .inl {a,xs,e,h,fun p hp=>q p _ ⟨hp,rfl⟩}
 ·show .inr q
def B0 (hK:X.K=K:=by rfl):bE X (.type "list") (fun xs H Q=>∃p ys,xs=[.ref p]/\(aW K H p ys\/aV K H p ys)/\∀l H',jI H l (.lst ys) H'->Q (.ref l) H'):=by
 subst hK;show fun pins s σ H xs us Q I r h=>ak.el (h) _ ?_;rintro p ys e h q;show u4 s σ H xs us Q I r {p,ys,e,h,fun l hl=>q l _ ⟨hl,rfl⟩}
def oU (hK:X.K=K:=by rfl):bE X (.type "tuple") (fun xs H Q=>∃p ys,xs=[.ref p]/\((aW K H p ys/\∀l H',jI H l (.tup ys) H'->Q (.ref l) H')\/(aV K H p ys/\Q (.ref p) H))):=by
 subst hK;show fun pins s σ H xs us Q I r h=>ak.el (h) _ ?_;rintro p ys e h;show tD s σ H xs us Q I r {p,ys,e,?_}
 rcases h with ⟨h,q⟩|h
 ·show .inl {h,fun l hl=>q l _ ⟨hl,rfl⟩}
 ·show .inr h
end
section
variable {X:Cx}
def RB:R2:=fun x y H Q=>(fX fun i j=>x = .int i/\y = .int j/\Q (.int (i+j)) H)\/(∃i j,x = .str i/\y = .str j/\i.length+j.length<=W1/\Q (.str (i++j)) H) \/
 nP fun l b xs zs=>x = .ref l/\y = .ref b/\H l=some (.lst xs)/\H b=some (.lst zs)/\xs.length+zs.length<=W1/\∀p H',jI H p (.lst (xs++zs)) H'->Q (.ref p) H'
def bh:fA X (Qba .Add) RB:=by
 show fun pins s σ H x y v u Q I rx ry h=>Pc s σ H x y v u Q I rx ry ?_
 rcases h with h|h|⟨l,b,xs,zs,e1,e2,h1,h2,h3,q⟩
 ·show .inl h
 ·show .inr (.inl h)
 ·show .inr (.inr {l,b,xs,zs,e1,e2,h1,h2,h3,fun p hp=>q p _ ⟨hp,rfl⟩})
def LB:R2:=fun x y H Q=>(fX fun i j=>x = .int i/\y = .int j/\Ae i j/\Q (.int (i*j)) H) \/
 pW fun l k xs=>x = .ref l/\y = .int k/\H l=some (.lst xs) /\ -(2^63)<=k/\k<2^63/\xs.length*k.toNat<=W1/\∀p H',jI H p (.lst (Jm k.toNat xs).flatten) H'->Q (.ref p) H'
def j3:fA X (Qba .Mult) LB:=by
 show fun pins s σ H x y v u Q I rx ry h=>P9 s σ H x y v u Q I rx ry ?_
 rcases h with h|⟨l,k,xs,e1,e2,h1,h2,h3,h4,q⟩
 ·show .inl h
 ·show .inr {l,k,xs,e1,e2,h1,h2,h3,h4,fun p hp=>q p _ ⟨hp,rfl⟩}
def K0:bE X (.builtin "divmod") (fun xs H Q=>∃i j,xs=[.int i,.int j]/\NK i j/\∀p H',jI H p (.tup [.int (i / j),.int (i%j)]) H'->Q (.ref p) H'):=by
 show fun pins s σ H xs us Q I r h=>ak.el (h) _ ?_;rintro i j e c q;show wk s σ H xs us Q I r {i,j,e,c,fun p hp=>q p _ ⟨hp,rfl⟩}
def lq:Ic X "list.append" (fun x vs H Q=>∃l xs y,x = .ref l/\vs=[y]/\H l=some (.lst xs)/\xs.length<W1/\∀H',Eu H l (.lst (xs++[y])) H'->Q .non H'):=by
 show fun pins s σ H x xs v us Q I rx rv h=>ak.el (h) _ ?_;rintro l ys y e1 e2 h1 h2 q;show DT s σ H x xs v us Q I rx rv {l,ys,y,e1,e2,h1,h2,q _ ⟨rfl⟩}
def Oq:Ic X "list.pop" (fun x vs H Q=>∃l xs i y,x = .ref l/\vs=[.int i]/\H l=some (.lst xs)/\0<=i/\i<2^63/\xs[i.toNat]? = some y/\∀H',Eu H l (.lst (xs.eraseIdx i.toNat)) H'->Q y H'):=by
 show fun pins s σ H x xs v us Q I rx rv h=>ak.el (h) _ ?_;rintro l ys i y e1 e2 h1 h2 h3 h4 q;show FK s σ H x xs v us Q I rx rv {l,ys,i,i.toNat,y,e1,e2,h1,⋯,h3,?_,h4,q _ ⟨rfl⟩};obtain⟨j,hj,hj2,_⟩:=ql (qj h4);have:El ys.length i=some i.toNat:=by unfold El;rw[if_pos h2,if_pos ⋯]
 show(vH this).1
end
def m6 {n:Nat}{js:List Nat}{g:TG}{tc:TT}{te:TE}{σ:St}{H1:Hp}{Q:V->Hp->Prop}(N:Nat)(Pv:Nat->List V->Hp->Prop)(h0:Pv 0 [] H1)
  (go:∀i ys H (Nx:List V->Hp->Prop),i<N->Pv i ys H->(∀ys' H',Pv (i+1) ys' H'->Nx ys' H')->J.go i H/\ys.length<W1 /\
   ∀x H',J.yld i H x H'->g x (Jm n none++eQ σ js) H' fun σ2 H2=>tc σ2 H2 fun b H3=>if b=true then te σ2 H3 fun y H4=>Nx (ys++[y]) H4 else Nx ys H3)
  (stop:∀ys H,Pv N ys H->J.stop N H/\∀p H',jI H p (.lst ys) H'->Q (.ref p) H'):BC J n js g tc te σ H1 fun ys H2=>∀p,H2 p=none->Q (.ref p) (upd H2 p (.lst ys)):=
 eh N Pv h0 go fun ys H h=>⟨(stop ys H h).1,fun p hp=>(stop ys H h).2 p _ ⟨hp,rfl⟩⟩
def iV {i:Int}{v: α}(h0:0<=i)(h:xs[i.toNat]? = some v):xG xs i=some v:=by
 have q:=qj h;have e:((i.toNat:Nat):Int)=i:=by lia
 rw[e] at q;show q
def Ep:Qad->String
 | .none => "NoneType"
 | .bool _ => "bool"
 | .int _ => "int"
 | .str _ => "str"
 | .list _ => "list"
 | .tuple _ => "tuple"
 | .dict _ => "dict"
def RR (d:Qad)(T:String):Bool:=Ep d==T||(Ep d == "bool" && T == "int")
def xk (K:Ja)(d:Qad):Ui K (.type (Ep d)) (.type "bool")=some (RR d "bool")/\Ui K (.type (Ep d)) (.type "int")=some (RR d "int")/\Ui K (.type (Ep d)) (.type "str")=some (RR d "str") /\
  Ui K (.type (Ep d)) (.type "list")=some (RR d "list")/\Ui K (.type (Ep d)) (.type "tuple")=some (RR d "tuple"):=by
 cases d<;>show⟨rfl,rfl,rfl,rfl,rfl⟩
section
variable {X:Cx}
def AR {σ:St}{H:Hp}{s:Gc}{x:V}{u:Fk}{d:Qad}(I:Inv X pins σ H s)(rx:RelV x u)(h:Den X.K H d x):∃HH,PySem.W.KitX X.K u (.type (Ep d)) HH/\HH s.heap/\u ≠ .builtin "__main__.__loader__#opaque":=by
 cases d with
 | none=>unfold Den at h;subst h;cases rx;show⟨_,Qgu,QaR,nofun⟩
 | bool b=>unfold Den at h;subst h;cases rx;show⟨_,Qgw,QaR,nofun⟩
 | int i=>unfold Den at h;subst h;obtain⟨t,rfl⟩:=rx;show⟨_,PySem.W.kitx_int,QaR,nofun⟩
 | str y=>unfold Den at h;subst h;obtain⟨t,rfl⟩:=rx;show⟨_,PySem.W.kitx_str,QaR,nofun⟩
 | list ds=>
  unfold Den at h;show ak.el (h) _ ?_;rintro a vs rfl h2 _;cases rx;obtain⟨aF,_,⟨o,n,e1,e2,_⟩,_⟩:=I.list h2;show{_,Qd7,⟨o,e1,e2⟩,nofun}
 | tuple ds=>
  unfold Den at h;show ak.el (h) _ ?_;rintro a vs rfl h2 _;cases rx;obtain⟨aF,_,⟨o,e1,e2,_⟩,_⟩:=I.tuple h2;show{_,Qgg,⟨o,e1,e2⟩,nofun}
 | dict _=>unfold Den at h;show h.elim
def CO:bE X (.builtin "isinstance") (fun xs H Q=>∃x T d b,xs=[x,.ty T]/\Den X.K H d x/\Ui X.K (.type (Ep d)) (.type T)=some b/\Q (.bl b) H):=by
 show fun pins s σ H xs us Q I r h=>ak.el (h) _ ?_;rintro x T d b rfl hd e q;show ak.el (vals2 r) _ ?_;rintro u w' rfl r1 r2;cases r2;show ak.el (AR I r1 hd) _ ?_;rintro HH Z hh hx;show U7 Z I.jr hh e hx fun tk=>{.bl b,H,I.tok _,rfl,q}
def zT:bE X (.builtin "isinstance") (fun xs H Q=>∃(x:V) (p:KE) (Ts:List String) (d:Qad) (b:Bool),xs=[x,.ref p]/\H p=some (.tup (Ts.map V.ty))/\Den X.K H d x/\PySem.W.kitAny X.K (.type (Ep d)) (Ts.map Qa2)=some b/\Q (.bl b) H):=by
 show fun pins s σ H xs us Q I r h=>ak.el (h) _ ?_;rintro x p Ts d b rfl hp hd e q;show ak.el (vals2 r) _ ?_;rintro u w' rfl r1 r2;cases r2;show ak.el (AR I r1 hd) _ ?_;rintro HH Z hh hx;obtain⟨hz,aF,rv,o,h1,rO,h2,n,h3⟩:=(show bB X.prog X.w H s.heap p (.tup (Ts.map V.ty)) from I.bw p _ hp)
 have ei:aF=Ts.map Qa2:=by
  clear e hp h3 h2 h1 rO hz
  induction Ts generalizing aF with
  | nil=>cases rv;rfl
  | cons T Ts ih=>
   cases rv with
   | cons q1 q2=>cases q1;rw[ih _ q2];rfl
 subst ei;obtain⟨cls,dd,data,sl⟩:=o;subst h2 h3;show PySem.W.kia_tup Z I.jr hh h1 e hx fun tk=>{.bl b,H,I.tok _,rfl,q}
def VP (K:Ja):List V->Hp->VK->Prop:=fun xs H Q=>(∃x T d b,xs=[x,.ty T]/\Den K H d x/\Ui K (.type (Ep d)) (.type T)=some b/\Q (.bl b) H) \/
 ∃x T t b,xs=[x,.ty T]/\mW K H x t/\Ui K t (.type T)=some b/\Q (.bl b) H
def j2 (K:Ja)(hK:X.K=K:=by rfl):bE X (.builtin "isinstance") (VP K):=by subst hK;show CO.or E8
def RM (K:Ja):List V->Hp->VK->Prop:=fun xs H Q=>∃(x:V) (p:KE) (Ts:List String) (d:Qad) (b:Bool),xs=[x,.ref p]/\H p=some (.tup (Ts.map V.ty))/\Den K H d x/\PySem.W.kitAny K (.type (Ep d)) (Ts.map Qa2)=some b/\Q (.bl b) H
def QT (K:Ja)(hK:X.K=K:=by rfl):bE X (.builtin "isinstance") (RM K):=by subst hK;show zT
end
def VH (k:Bool):String:=if k then "tuple" else "list"
def F0 (k:Bool):String:=if k then "tuple_iterator" else "list_iterator"
def fZ (k:Bool)(h:Heap)(a:KE)(aF:Array Fk):Prop:=∃o,h.get? a=some o/\o.cls = .type (VH k)/\∃n,o.data = .seq aF n
def jZ (k:Bool)(h:Heap)(it a:KE)(i:Nat):Prop:=∃o,h.get? it=some o/\o.cls = .type (F0 k)/\o.data = .fields #[.ref a,.int i 0]
def fZ.at {a:KE}{aF:Array Fk}(x:fZ k h a aF)(e:∀o,h.get? a=some o->h'.get? a=some o):fZ k h' a aF:=let ⟨o,ho,r⟩:=x; ⟨o,e _ ho,r⟩
def jZ.at {it a:KE}{i:Nat}(x:jZ k h it a i)(e:∀o,h.get? it=some o->h'.get? it=some o):jZ k h' it a i:=let ⟨o,ho,r⟩:=x; ⟨o,e _ ho,r⟩
def fZ.lt (x:fZ k h a aF):a<h.objs.size:=let ⟨_,e,_⟩:=x;Jg e
def jZ.lt (x:jZ k h it a i):it<h.objs.size:=let ⟨_,e,_⟩:=x;Jg e
section
variable {prog:Qac}{w:Qag}{A:QaB}{E:Fk->Gc->Prop}{s:Gc}{k:Bool}{it a:KE}{i:Nat}{aF:Array Fk}
def qT (h1:jZ k s.heap it a i)(h2:fZ k s.heap a aF)(hx:aF[i]? = some x)
  (q:∀h',jZ k h' it a (i+1)->U6 it s.heap h'->Q x { s with heap:=h' }):Qab (Qaa prog w) A (QdO (.ref it)) Q E s:=by
 cases k with
 | false=>show Qbp h1 h2 hx q
 | true=>
  obtain⟨o,ho,hc,hd⟩:=h1;obtain⟨ol,hol,_,nl,hdl⟩:=h2;have hT:s.TypeIs (.ref it) "tuple_iterator":=⟨o,ho,hc⟩
  show be (Qam hT QbW (Qaq QbW hT QfU ?_ (QfH _)));change Qab _ _ (QbV (Qga (.ref it) 0) _) _ _ s;show be (Qai ho hd rfl (be (Qai ho hd rfl (be (Qav hol hdl ?_)))));simp only[U0,hx];show be (Qc8 ho hd (by simp) (tz {x,rfl,tz (q _ {_,J4 _ ho (QdM (QcV hd _)),(Obj.cls_mapFields ..).trans hc,?_} (U6.update ..))}));rw[QcV hd];simp[Qa0]
def wU (hh:A.handled=none)(h1:jZ k s.heap it a i)(h2:fZ k s.heap a aF)(hx:aF[i]? = none)
  (q:∀h' e,Heap.ExtBut it s.heap h'->(∃o,h'.get? e=some o/\o.cls = .type "StopIteration")->E (.ref e) { s with heap:=h' }):Qab (Qaa prog w) A (QdO (.ref it)) Q E s:=by
 cases k with
 | false=>show Qd6 hh h1 h2 hx q
 | true=>
  obtain⟨o,ho,hc,hd⟩:=h1;obtain⟨ol,hol,_,nl,hdl⟩:=h2;have hT:s.TypeIs (.ref it) "tuple_iterator":=⟨o,ho,hc⟩
  show be (Qam hT QbW (Qaq QbW hT QfU ?_ (QfH _)));change Qab _ _ (QbV (Qga (.ref it) 0) _) _ _ s;show be (Qai ho hd rfl (be (Qai ho hd rfl (be (Qav hol hdl ?_)))));simp only[U0,hx];show be (Qbj (be (Qc8 ho hd (by simp) (be (be (QaO (be (wpAny_of_eq (by first|rfl|(simp only[];rfl)) (QaO (be (wpAny_handled ?_)) (by size_fits)))) (by size_fits)))))));rw[show A.in1.handled=none from hh];show be (tz (wpAny_throw (q _ _ (((U6.update ..).extBut.push _).push _) {_,Ji _ rfl,rfl})))
end
structure wB (k1 k2:Bool)(z TI TO i1 i2 l1 l2:KE)(i:Nat)(h:Heap):Prop where
 zp:Qgm h z TI TO .none
 ti:Qbq h TI (.ref i1) (.ref i2)
 to:∃a b,Qbq h TO a b
 it1:jZ k1 h i1 l1 i
 it2:jZ k2 h i2 l2 i
section
variable {prog:Qac}{w:Qag}{A:QaB}{E:Fk->Gc->Prop}{s:Gc}{k1 k2:Bool}{z TI TO i1 i2 l1 l2:KE}{i:Nat}{xs ys:Array Fk}
abbrev M5 (z TO i1 i2:KE)(b:KE):Prop:=b=z\/b=TO\/b=i1\/b=i2
def Dv (D:QcL z TI TO i1 i2 l1 l2)(st:wB k1 k2 z TI TO i1 i2 l1 l2 i s.heap)(sR:fZ k1 s.heap l1 xs)(Ez:fZ k2 s.heap l2 ys)(hx:xs[i]? = some x)(hy:ys[i]? = some y)
  (q:∀h',Qgm h' z TI TO (Qa0 s.heap.objs.size)->Qbq h' TO x y->jZ k1 h' i1 l1 (i+1)->jZ k2 h' i2 l2 (i+1)->Qbq h' s.heap.objs.size x y->Keeps s.heap h' (M5 z TO i1 i2)->Q (some (.ref s.heap.objs.size)) { s with heap:=h' }) :
  Qab (Qaa prog w) A (QbR (.ref z)) Q E s:=by
 obtain⟨hz,sN,⟨a,b,zx⟩,h1,h2⟩:=st;have hT:s.TypeIs (.ref z) "zip":=⟨_,hz,rfl⟩
 show be (QaS (Qam hT QaL (Qaq QaL hT QbF ?_ (Qbz _))));change Qab _ _ (QbV (Qga (.ref z) 2) _) _ _ _;show be (Qai hz rfl rfl (be (Qai hz rfl rfl (be (Qav sN rfl (be (be (Qai hz rfl rfl (tz (be (Qbj (be (Qai hz rfl rfl (be (Qae hz (by simp) fun g1 z1 e1=>be (be (be (QcH (be (qT (h1.at fun o e=>e1.extBut _ _ D.i1z e) (sR.at fun o e=>e1.extBut _ _ D.l1z e) hx fun g2 it1 e2=>tz ?_))))))))))))))))))));have to2:=e2.extBut _ _ D.TOi1 (e1.extBut _ _ D.TOz zx);show be (Qav to2 rfl (be (QbY to2 fun g3 to3 e3=>be (Qcj (tz ?_)))));have FV:Keeps s.heap g3 (fun c=>c=z\/c=i1\/c=TO):=fun c o nc e=>e3.extBut _ _ (fun q=>nc (.inr (.inr q))) (e2.extBut _ _ (fun q=>nc (.inr (.inl q))) (e1.extBut _ _ (fun q=>nc (.inl q)) e));show be (be (QcH (be (qT (h2.at fun o e=>FV _ _ (fun q=>q.elim D.i2z fun q=>q.elim D.i12.symm D.TOi2.symm) e) (Ez.at fun o e=>FV _ _ (fun q=>q.elim D.l2z fun q=>q.elim D.l2i1 D.l2TO) e) hy fun g4 it2 e4=>tz ?_))));have QD:=e4.extBut _ _ D.TOi2 to3;show be (Qav QD rfl (be (QbY QD fun g5 KG e5=>be (Qcj (tz (tz ?_))))));have KG:Qbq g5 TO x y:=KG;show be (Qav KG rfl (be (Qcs ?_)));have hsz:g5.objs.size=s.heap.objs.size:=by rw[e5.1,e4.1,e3.1,e2.1,e1.1]
 have z5:=e5.extBut _ _ D.TOz.symm (e4.extBut _ _ D.i2z.symm (e3.extBut _ _ D.TOz.symm (e2.extBut _ _ D.i1z.symm z1)));have k5:Keeps s.heap g5 (M5 z TO i1 i2):=fun c o nc e=>e5.extBut _ _ (fun q=>nc (.inr (.inl q))) (e4.extBut _ _ (fun q=>nc (.inr (.inr (.inr q)))) (FV c o (fun q=>q.elim (fun q=>nc (.inl q)) fun q=>q.elim (fun q=>nc (.inr (.inr (.inl q)))) fun q=>nc (.inr (.inl q))) e));have Qm:=Jg z5;show be ?_;have z6:Qgm (g5.push { cls := .type "tuple",data := .seq #[x,y] }) z TI TO .ellipsis:=Jb _ z5;show be (Qae z6 (by simp) fun g7 z7 e7=>Qae z7 (by simp) fun g8 z8 e8=>tz {_,rfl,tz ?_});have up:∀c o,c≠z->g5.get? c=some o->g8.get? c=some o:=fun c o c1 e=>e8.extBut _ _ c1 (e7.extBut _ _ c1 (Jb _ e));have tp:=e8.extBut _ _ (Uq Qm) (e7.extBut _ _ (Uq Qm) (Ji _ rfl));rw[hsz] at z8 tp ⊢;show q g8 z8 (up _ _ D.TOz KG) ((it1.at fun o e=>e5.extBut _ _ D.TOi1.symm (e4.extBut _ _ D.i12 (e3.extBut _ _ D.TOi1.symm e))).at fun o e=>up _ o D.i1z e) ((it2.at fun o e=>e5.extBut _ _ D.TOi2.symm e).at fun o e=>up _ o D.i2z e) tp fun c o nc e=>up c o (fun q=>nc (.inl q)) (k5 c o nc e)
def Dq (hh:A.handled=none)(D:QcL z TI TO i1 i2 l1 l2)(st:wB k1 k2 z TI TO i1 i2 l1 l2 i s.heap)(sR:fZ k1 s.heap l1 xs)(Ez:fZ k2 s.heap l2 ys)(Vz:xs[i]? = none\/ys[i]? = none)
  (q:∀h',Keeps s.heap h' (M5 z TO i1 i2)->Q none { s with heap:=h' }):Qab (Qaa prog w) A (QbR (.ref z)) Q E s:=by
 obtain⟨hz,sN,⟨a,b,zx⟩,h1,h2⟩:=st;have hT:s.TypeIs (.ref z) "zip":=⟨_,hz,rfl⟩
 show be (QaS (Qam hT QaL (Qaq QaL hT QbF ?_ (Qbz _))));change Qab _ _ (QbV (Qga (.ref z) 2) _) _ _ _;show be (Qai hz rfl rfl (be (Qai hz rfl rfl (be (Qav sN rfl (be (be (Qai hz rfl rfl (tz (be (Qbj (be (Qai hz rfl rfl (be (Qae hz (by simp) fun g1 z1 e1=>be (be (be (QcH ?_))))))))))))))))));cases hx:xs[i]? with
 | none=>
  show be (wU hh (h1.at fun o e=>e1.extBut _ _ D.i1z e) (sR.at fun o e=>e1.extBut _ _ D.l1z e) hx fun g2 e e2 oe=>ak.el (oe) _ ?_);rintro o ho hc;have z2:=e2 _ _ D.i1z.symm z1;have ez:e≠z:=fun q=>by subst q;rw[z2] at ho;cases ho;simp at hc
  show Qae z2 (by simp) fun g3 _ e3=>be (QaG {o,e3.extBut _ _ ez ho,hc} Qbv (tz (q g3 fun c o nc h=>e3.extBut _ _ (fun q=>nc (.inl q)) (e2 _ _ (fun q=>nc (.inr (.inr (.inl q)))) (e1.extBut _ _ (fun q=>nc (.inl q)) h)))))
 | some x=>
  show be (qT (h1.at fun o e=>e1.extBut _ _ D.i1z e) (sR.at fun o e=>e1.extBut _ _ D.l1z e) hx fun g2 it1 e2=>tz ?_);have to2:=e2.extBut _ _ D.TOi1 (e1.extBut _ _ D.TOz zx);show be (Qav to2 rfl (be (QbY to2 fun g3 to3 e3=>be (Qcj (tz ?_)))));have FV:Keeps s.heap g3 (fun c=>c=z\/c=i1\/c=TO):=fun c o nc e=>e3.extBut _ _ (fun q=>nc (.inr (.inr q))) (e2.extBut _ _ (fun q=>nc (.inr (.inl q))) (e1.extBut _ _ (fun q=>nc (.inl q)) e));show be (be (QcH (be (wU hh (h2.at fun o e=>FV _ _ (fun q=>q.elim D.i2z fun q=>q.elim D.i12.symm D.TOi2.symm) e) (Ez.at fun o e=>FV _ _ (fun q=>q.elim D.l2z fun q=>q.elim D.l2i1 D.l2TO) e) (Vz.resolve_left (by rw[hx];show nofun)) fun g4 e e4 oe=>ak.el (oe) _ ?_))));rintro o ho hc;have z4:=e4 _ _ D.i2z.symm (e3.extBut _ _ D.TOz.symm (e2.extBut _ _ D.i1z.symm z1));have ez:e≠z:=fun q=>by subst q;rw[z4] at ho;cases ho;simp at hc
  show Qae z4 (by simp) fun g5 _ e5=>be (QaG {o,e5.extBut _ _ ez ho,hc} Qbv (tz (q g5 fun c o nc h=>e5.extBut _ _ (fun q=>nc (.inl q)) (e4 _ _ (fun q=>nc (.inr (.inr (.inr q)))) (FV c o (fun q=>q.elim (fun q=>nc (.inl q)) fun q=>q.elim (fun q=>nc (.inr (.inr (.inl q)))) fun q=>nc (.inr (.inl q))) h)))))
def wD (h:fZ k s.heap a aF)(q:Q (.ref s.heap.objs.size) { s with heap:=s.heap.push { cls := .type (F0 k),data := .fields #[.ref a,.int 0 0] } }):Qab (Qaa prog w) A (Qfu (.ref a)) Q E s:=by
 cases k with
 | false=>show Qcr h q
 | true=>show QeL h q
end
abbrev IB (k:Bool)(a:KE):Obj:={ cls := .type (F0 k),data := .fields #[.ref a,.int 0 0] }
abbrev W9 (k1 k2:Bool)(h:Heap)(a b:KE):Heap:=((((h.push (IB k1 a)).push (IB k2 b)).push { cls := .type "tuple",data := .seq #[.ref h.objs.size,.ref (h.objs.size+1)] }).push { cls := .type "tuple",data := .seq #[.none,.none] }).push
 { cls := .type "zip",data := .fields #[.none,.bool false,.bool false,.ref (h.objs.size+2),.ref (h.objs.size+3)] }
def EJ (k1 k2:Bool)(a b:KE)(xs ys:Array Fk):
  Meets (Builtin.«zip.__new__» ⟨[.type "zip",.ref a,.ref b],[]⟩) (fun _ R s=>fZ k1 s.heap a xs/\fZ k2 s.heap b ys/\R (.ok (.ret (.ref (s.heap.objs.size+4)))) { s with heap:=W9 k1 k2 s.heap a b }):=
 .of_wp fun prog w A R s h=>by
  obtain⟨hp,g,d,tk,os⟩:=s;obtain⟨sR,Ez,h⟩:=h;have eM:=sub_zip
  wp_walk using wD sR,wD (Ez.at fun o e=>Jb _ e)
  show{_,rfl,?_};simp only[Uh] at h ⊢;show h
section
variable {prog:Qac}{w:Qag}{A:QaB}{E:Fk->Gc->Prop}{s:Gc}
def Dw {a b:KE}{xs ys:Array Fk}{Q:Fk->Gc->Prop}(h1:fZ k1 s.heap a xs)(h2:fZ k2 s.heap b ys)
  (q:∀h',wB k1 k2 (s.heap.objs.size+4) (s.heap.objs.size+2) (s.heap.objs.size+3) s.heap.objs.size (s.heap.objs.size+1) a b 0 h'->(∀c o,s.heap.get? c=some o->h'.get? c=some o)->Q (.ref (s.heap.objs.size+4)) { s with heap:=h' }) :
  Qab (Qaa prog w) A (call (.type "zip") [.ref a,.ref b]) Q E s:=by
 show callType_new F.called_zip rfl (F.typeCall_zip_2 _ _) (F.newCall_zip_2 _ _) (fun obj=>F.args_object_init_3 obj _ _) F.entry_zip_new (EJ k1 k2 a b xs ys) {h1,h2,?_};have up:∀{h:Heap} {c:KE} {o:Obj} p,h.get? c=some o->(h.push p).get? c=some o:=fun p e=>Jb p e;have last:∀{h:Heap} {n:Nat} {p:Obj},h.objs.size=n->p.isFreed=false->(h.push p).get? n=some p:=fun e hf=>by rw[<-e];show Ji _ hf
 have z1:(s.heap.push (IB k1 a)).objs.size=s.heap.objs.size+1:=Uh ..;have z2:((s.heap.push (IB k1 a)).push (IB k2 b)).objs.size=s.heap.objs.size+2:=by rw[Uh,z1]
 have z3:(((s.heap.push (IB k1 a)).push (IB k2 b)).push { cls := .type "tuple",data := .seq #[.ref s.heap.objs.size,.ref (s.heap.objs.size+1)] }).objs.size=s.heap.objs.size+3:=by rw[Uh,z2]
 have z4:((((s.heap.push (IB k1 a)).push (IB k2 b)).push { cls := .type "tuple",data := .seq #[.ref s.heap.objs.size,.ref (s.heap.objs.size+1)] }).push { cls := .type "tuple",data := .seq #[.none,.none] }).objs.size=s.heap.objs.size+4:=by rw[Uh,z3]
 have st:wB k1 k2 (s.heap.objs.size+4) (s.heap.objs.size+2) (s.heap.objs.size+3) s.heap.objs.size (s.heap.objs.size+1) a b 0 (W9 k1 k2 s.heap a b):=
  ⟨last z4 rfl,up _ (up _ (last z2 rfl)),⟨.none,.none,up _ (last z3 rfl)⟩,⟨_,up _ (up _ (up _ (up _ (last rfl rfl)))),rfl,rfl⟩,⟨_,up _ (up _ (up _ (last z1 rfl))),rfl,rfl⟩⟩
 show{{_,st.zp,rfl},q _ st (fun c o e=>up _ (up _ (up _ (up _ (up _ e)))))}
end
def u9 (k:Bool)(K:Ja)(H:Hp)(a:KE)(xs:List V):Prop:=if k=true then aV K H a xs else aW K H a xs
def Inv.DK {σ:St}{H:Hp}{s:Gc}{k:Bool}{a:KE}{xs:List V}(I:Inv X pins σ H s)(h:u9 k X.K H a xs):∃aF,Vals xs aF/\fZ k s.heap a aF.toArray/\xs.length<=W1:=by
 cases k with
 | false=>
  obtain⟨aF,r,⟨o,n,e1,e2,_,e4⟩,z⟩:=I.list h;show{aF,r,⟨o,e1,e2,n,e4⟩,z}
 | true=>
  obtain⟨aF,r,⟨o,e1,e2,n,e4⟩,z⟩:=I.tuple h;show{aF,r,⟨o,e1,e2,n,e4⟩,z}
def Inv.ym {σ:St}{H:Hp}{s:Gc}{k:Bool}{a:KE}{xs ys:List V}(I:Inv X pins σ H s)(h:u9 k X.K H a xs)(h':u9 k X.K H a ys):xs=ys:=by
 cases k with
 | false=>show I.rP h h'
 | true=>show I.uz h h'
def QS (K:Ja)(k1 k2:Bool)(a b:KE):It:=
 ⟨fun i H=>nP fun xs ys x y=>u9 k1 K H a xs/\u9 k2 K H b ys/\xs[i]? = some x/\ys[i]? = some y,
   fun i H v H'=>∃T,v = .ref T/\∀xs ys x y,u9 k1 K H a xs->u9 k2 K H b ys->xs[i]? = some x->ys[i]? = some y->jI H T (.tup [x,y]) H',
   fun i H=>fX fun xs ys=>u9 k1 K H a xs/\u9 k2 K H b ys/\(xs.length<=i\/ys.length<=i)⟩
def Dl {K:Ja}{elts:List QaF}{k:Nat}{tp:Pos}(k1 k2:Bool)(z TI TO i1 i2 l1 l2:KE)(D:QcL z TI TO i1 i2 l1 l2):
  Turn P w K (.Tuple elts k tp) (QS K k1 k2 l1 l2) [z,TI,TO,i1,i2] z (wB k1 k2 z TI TO i1 i2 l1 l2) where
 mem:=by simp
 obj:=fun i h st b hb=>by
  obtain⟨h1,h2,⟨_,_,h3⟩,⟨o4,h4,_,d4⟩,⟨o5,h5,_,d5⟩⟩:=st;simp at hb
  rcases hb with rfl|rfl|rfl|rfl|rfl
  ·show{_,h1,fun _ z=>nomatch z}
  ·show{_,h2,fun _ z=>nomatch z}
  ·show{_,h3,fun _ z=>nomatch z}
  ·show{_,h4,fun v q=>by rw[d4] at q;cases q}
  ·show{_,h5,fun v q=>by rw[d5] at q;cases q}
 keep:=fun i h h' st hk=>by
  obtain⟨h1,h2,⟨a,b,h3⟩,h4,h5⟩:=st;show{hk z (by simp) _ h1,hk TI (by simp) _ h2,{a,b,hk TO (by simp) _ h3},h4.at fun o e=>hk i1 (by simp) o e,h5.at fun o e=>hk i2 (by simp) o e}
 item:=fun X hP hw hK hc i pins s σ H E I hf st go=>by
  subst hP hw hK;obtain⟨xs,ys,x,y,q1,q2,e1,e2⟩:=go;show ak.el (I.DK q1) _ ?_;rintro its1 r1 p1 _;show ak.el (I.DK q2) _ ?_;rintro its2 r2 p2 _;show ak.el (qU r1 e1) _ ?_;rintro u1 g1 ru1;show ak.el (qU r2 e2) _ ?_;rintro u2 g2 ru2;have hz:=st.zp;have sN:=st.ti;show Dv D st p1 p2 g1 g2 fun h' a1 a2 a3 a4 a5 a7=>{_,rfl,(wpAny_letOwnedTupleGo_zip a1 fun h'' b1 b2 =>?_)}
  have kp:∀c o,c∉[z,TO,i1,i2]->s.heap.get? c=some o->h''.get? c=some o:=fun c o hc e=>by
   simp only[Jq,Uo,or_false] at hc;show b2.extBut c o (fun q=>hc (.inl q)) (a7 c o hc e)
  have I1:Inv X pins σ H { s with heap:=h'',toks:=s.toks }:=I.iter (fun c hc=>hf c (by simp at hc ⊢;rcases hc with q|q|q|q<;>simp[q])) kp;have fT:=I.fN (Je _) (I.bw.fresh (Je _));show{.ref s.heap.objs.size,_,(I1.adopt (o := .tup [x,y]) fT I.sz {by change 2<=W1;decide,[u1,u2],.cons ru1 (.cons ru2 .nil),{_,(b2.extBut _ _ (nI (Jg hz) (Je _)) a5),rfl,rfl,_,rfl}}),rfl,{_,rfl,fun xs' ys' x' y' q1' q2' e1' e2' =>?_},{b1,b2.extBut _ _ D.TIz (a7 _ _ (fun q=>q.elim D.TIz fun q=>q.elim D.TITO fun q=>q.elim D.TIi1 D.TIi2) sN),{_,_,b2.extBut _ _ D.TOz a2},a3.at fun o e=>b2.extBut _ _ D.i1z e,a4.at fun o e=>b2.extBut _ _ D.i2z e},fun c hc =>?_}
  ·rw[I.ym q1' q1] at e1';rw[I.ym q2' q2] at e2';rw[e1] at e1';rw[e2] at e2';cases e1';cases e2';show⟨fT.1,rfl⟩
  ·obtain⟨_,_,⟨_,_,zx⟩,h1,h2⟩:=st;have Er:c<s.heap.objs.size:=by
    simp at hc
    rcases hc with rfl|rfl|rfl|rfl|rfl
    ·show Jg hz
    ·show Jg sN
    ·show Jg zx
    ·show h1.lt
    ·show h2.lt
   rw[av (cw Er (Je _))];show(hf c hc).1
 done:=fun X hP hw hK hc i pins s σ H E I hf st stop=>by
  subst hP hw hK;obtain⟨xs,ys,q1,q2,e⟩:=stop;show ak.el (I.DK q1) _ ?_;rintro its1 r1 p1 _;show ak.el (I.DK q2) _ ?_;rintro its2 r2 p2 _;have Zk:=r1.length;have l2':=r2.length;show Dq (I.ok.hd hc) D st p1 p2 ?_ fun h' kp=>{rfl,?_}
  ·rcases e with e|e
   ·show .inl (by simp;lia)
   ·show .inr (by simp;lia)
  ·show I.iter (ch:=[z,TO,i1,i2]) (fun c hc=>hf c (by simp at hc ⊢;rcases hc with q|q|q|q<;>simp[q])) fun c o hc e =>?_;simp only[Jq,Uo,or_false] at hc;show kp c o hc e
 self:=fun A i s Q E st hQ=>QdG st.zp hQ
section
variable {X:Cx}
def Qp (K:Ja)(ta:TA):TI:=fun σ H R=>ta σ H fun vs H1=>nP fun k1 k2 a b=>vs=[.ref a,.ref b]/\(∃xs,u9 k1 K H1 a xs)/\(∃ys,u9 k2 K H1 b ys)/\R (QS K k1 k2 a b) H1
def K8 (K:Ja){elts:List QaF}{k:Nat}{tp:Pos}{a b:QaF}{ta:TA}{p pos:Pos}(hg:Gl X "zip")(hm:X.mg "zip" = none)(ha:PA X [a,b] ta)(hb:QaT "zip" = some (.type "zip"):=by first|rfl|decide)
  (hs:Qaf [a,b] X.env=[(false,QaP a X.env),(false,QaP b X.env)]:=by rfl) (AY:Qaf [b] X.env=[(false,QaP b X.env)]:=by rfl) (hK:X.K=K:=by rfl) :
  PI X (.Tuple elts k tp) (.Call (.Name "zip" p) [a,b] [] pos) (Qp K ta):=by
 subst hK;show fun pins s σ H R I h=>Call_ (fE I hg hm hb (Qao (bg (ha s σ H _ I h) fun us s1 ⟨vs,H1,I1,r1,q1⟩=>?_) (by rw[hs,AY]) (by rw[AY];rfl)));obtain⟨k1,k2,l1,l2,e,⟨xs,q1⟩,⟨ys,q2⟩,q⟩:=q1;subst e;show ak.el (vals2 r1) _ ?_;rintro u w' rfl r1 r2;cases r1;cases r2;show ak.el (I1.DK q1) _ ?_;rintro its1 rv1 p1 _;show ak.el (I1.DK q2) _ ?_;rintro its2 rv2 p2 _;show Dw p1 p2 fun h' st hk=>QdG st.zp ?_;have I2:Inv X pins σ H1 { s1 with heap:=h' }:=I1.kept hk;show{_,_,_,_,H1,rfl,I2,Dl k1 k2 _ _ _ _ _ _ _ (Qe1 p1.lt p2.lt),st,fun c hc =>?_,q};have Er:s1.heap.objs.size<=c:=by
  simp at hc
  rcases hc with rfl|rfl|rfl|rfl|rfl
  ·show Ua _ _
  ·show Ua _ _
  ·show Ua _ _
  ·show Je _
  ·show Ua _ _
 show I1.fN Er (I1.bw.fresh Er)
end
def XF (z:Str):It:=⟨fun i _=>i<z.cps.size,fun i H x H'=>H'=H/\∀c,z.cps[i]? = some c->x = .str ⟨#[c]⟩,fun i _=>z.cps.size<=i⟩
def B8 {K:Ja}{tg:QaF}(it:KE)(z:Str)(t:Tok):Turn P w K tg (XF z) [it] it (fun i h=>h.IsStrIter it "str_ascii_iterator" z t i) where
 mem:=by simp
 obj:=fun i h st b hb=>by
  have e:b=it:=by simpa using hb
  subst e;obtain⟨o,h1,h2,h3⟩:=st;show{o,h1,fun v q=>by rw[h3] at q;cases q}
 keep:=fun i h h' st k=>by
  obtain⟨o,h1,r⟩:=st;show{o,k it (by simp) o h1,r}
 item:=by
  intro X hP hw hK hc i pins s σ H E I hf st hg;obtain⟨f0,f1,f2,f3,f4,f5⟩:=hf it (by simp);have hg:i<z.cps.size:=hg;show wpAny_pyNext_ascii_item st (c:=z.cps[i]) (by simp[]) fun h' st' hs' =>?_;have I1:Inv X pins σ H { s with heap:=h',toks:=s.toks+1 }:=I.turned (fun b o hb e=>hs'.extBut b o hb e) f0 f1 f3 f4 f5;obtain⟨o,h1,h2,h3⟩:=id st';show{_,rfl,BL h1 h2 h3 rfl {.str {#[z.cps[i]]},H,I1,{_,rfl},{rfl,fun c e =>?_},st',fun b hb=>(hf b hb).1}};rw[Jz hg] at e;cases e;rfl
 done:=by
  intro X hP hw hK hc i pins s σ H E I hf st hg;obtain⟨f0,f1,f2,f3,f4,f5⟩:=hf it (by simp);show wpAny_pyNext_ascii_end (I.ok.hd hc) st (Uu hg) fun h' eb=>{rfl,I.turned (fun b o hb e=>eb b o hb e) f0 f1 f3 f4 f5}
 self:=fun _ _ _ _ _ st h=>wpAny_pyIter_striter_ascii st h
def TJ (tl:TE):TI:=fun σ H R=>tl σ H fun x H1=>∃z,x = .str z/\z.cps.all (· < 128)=true/\R (XF z) H1
section
variable {X:Cx}{tg:QaF}
def Bo (hl:PE X l tl):PI X tg l (TJ tl):=by
 show fun pins s σ H R I h=>bg (hl s σ H _ I h) fun v s1 hz_=>ak.el hz_ _ ?_;rintro x H1 I1 r1 q1;obtain⟨z,e,hz,q⟩:=q1;subst e;obtain⟨t,rfl⟩:=r1;show wpAny_pyIter_ascii hz {s1.heap.objs.size,[s1.heap.objs.size],_,_,H1,rfl,I1.kept fun b o e=>Jb _ e,B8 _ z t,{_,Ji _ rfl,rfl,rfl},fun b hb =>?_,q};have e:b=s1.heap.objs.size:=by simpa using hb
 subst e;show I1.fN (Je _) (I1.bw.fresh (Je _))
def jx (K:Ja){l:QaF}{tl:TE}(hl:PE X l tl)(hK:X.K=K:=by rfl):PI X tg l (RE K tl):=by subst hK;show NW hl
end
section
variable {X:Cx}{e:QaF}{te:TE}{pos p2 p3 p4:Pos}{j:Nat}
def Vals.rev:∀{xs:List V} {us:List Fk},Vals xs us->Vals xs.reverse us.reverse:=by
 intro xs us t
 induction t with
 | nil=>show .nil
 | cons r _ ih=>
  rw[Qce,Qce];show ih.append (.cons r .nil)
end
section
variable {X:Cx}(K:Ja)
def Pu (hK:X.K=K:=by rfl):fA X (QaC .In) (R8 K false):=by subst hK;show C2
def N8 (hK:X.K=K:=by rfl):fA X (QaC .NotIn) (R8 K true):=by subst hK;show vS
end
section
variable {prog:Qac}{w:Qag}{A:QaB}{R:Qb6->Gc->Prop}{s:Gc}
def yt {kx vx target iter:QaF}{ifs:List QaF}{scope:QbU}{pos:Pos}{it:Fk}{D:KE}{env:Env}(I:Nat->Gc->Prop)
  (turn:∀n s,I n s->Qab (Qaa prog w) A (QbR it) (fun r s1=>match r with
   | none=>R (.ok .next) s1
   | some v=>Qab (Qaa prog w) A (QcT target it v) (fun _ s1'=>Qab (Qaa prog w) A (Qgc target env v) (fun _ s2=>
     Qab (Qaa prog w) A (qh ifs env) (fun ok s3=>
      if ok=true then Qab (Qaa prog w) A (QaP kx env) (fun kv s4=>Qab (Qaa prog w) A (QaP vx env) (fun vv s5=>
       Qab (Qaa prog w) A (dictSet D kv vv) (fun _ s6=>∃m,m<n/\I m s6) oC s5) oC s4) oC s3
      else ∃m,m<n/\I m s3) oC s2) oC s1') oC s1) oC s)
  (n:Nat) (h:I n s):QaY (Qaa prog w) A (.compLoop (.DictComp kx vx [⟨target,iter,ifs,0⟩] scope pos) 0 it (.ref D) env) R s:=by
 show codeAny_loop rfl I (fun n s hI=>(show Qab _ A (Sem.onRaise (compTurn (.DictComp kx vx [{target,iter,ifs,0}] scope pos) 0 it (.ref D) env) (fun x=>do Qc5 x env;QfV x)) _ _ s from wpAny_noted (be (Qbe (be (cT (bg (turn n s hI) fun r s1 h1 =>?_))))))) n h;cases r with
 | none=>show tz h1
 | some v=>
  show be (cT (bg h1 fun _ s1' LH=>be (cT (bg LH fun _ s2 h2=>be (cT (bg h2 fun ok s3 h3 =>?_))))));cases ok with
  | false=>show tz ⟨rfl,h3⟩
  | true=>
   show be (be (cT (bg h3 fun kv s4 h4=>be (Qah (cT (bg h4 fun vv s5 h5=>be (Qbe (Qah (cT (bg h5 fun _ s6 h6=>tz ⟨rfl,h6⟩))))))))))
end
section
variable {X:Cx}{pins:List (KE×Obj)}{σ:St}{H:Hp}{s:Gc}{a:KE}{y v:V}{u r:Fk}{A:QaB}{E:Fk->Gc->Prop}
def C4 (I:Inv X pins σ H s)(e:H a=some (.dK kvs))(l:kvs.length<W1)(ry:RelV (kV k) u)(rv:RelV v r)
  (h:∀s',Inv X pins σ (upd H a (.dK (putK kvs k v))) s'->Q () s'):Qab (Qaa X.prog X.w) A (dictSet a u r) Q E s:=by
 show ak.el (BK I.bw e) _ ?_;rintro z hd vs rel dd;have hz:vs.length<=W1:=by rw[<-rel.length];show z
 show QcX (nJ ry) dd fun h' Em hs=>h _ (nD I (by rw[e];show QaR) hs (let {q,_,_,hq,_}:=Em; ⟨q,hq⟩) (zP (by have:=iB kvs k v;lia) hd (rel.put k rv) Em))
end
section
variable {X:Cx}{pins:List (KE×Obj)}{σ:St}{H:Hp}{s:Gc}{scope:QbU}{Nc Fc:List Str}{js:List Nat}{cl:List (Str×KE)}{C:KE}{fp:List KE}
def ye (I:Inv X pins σ H s)(c:hW X scope Nc Fc js)(eM:∀n c,cl.lookup n=some c->X.env.cells.lookup n=some c)(lF:∀y∈scope.names,y.2 = .free->∃c,cl.lookup y.1=some c)
  (hC:s.heap.objs.size<=C) (hf:∀b∈fp,hM X pins H b) (ho:∀b∈fp,∃o,s.heap.get? b=some o) {h1:Heap} {t1:Nat} {m:Str->Option Fk}
  (hk:∀b o,s.heap.get? b=some o->h1.get? b=some o) (hm:h1.Ns C m) :
  Inv (mG X Nc Fc scope cl C s H fp) [] (Jm Nc.length none++eQ σ js) H { s with heap:=h1,toks:=t1 }:=by
 show{rn I c eM lF hC hf ho,rfl,I.bare,Un.kept hk,{m,hm,fun i x v e1 e2 e3 =>?_},fun x a e =>?_,I.bw.fresh hC,fun x a e=>I.freeC x a (eM x a e),fun p hp =>?_,I.bw.kept hk,?_}
 ·have e1:(Nc++Fc)[i]? = some x:=e1
  by_cases hi:i<Nc.length
  ·rw[Uy (by simpa using hi),Yr] at e2
   split at e2<;>cases e2
  ·rw[Uw ⋯] at e1;rw[Uw (by rw[Ud];lia),Ud] at e2;show ak.el (c.frees _ _ e1) _ ?_;rintro wm j hj hN;have hv: σ[j]? = some (some v):=by
    unfold eQ at e2;rw[Jk,hj] at e2;have e2:some ((σ[j]?).join)=some (some v):=e2;cases q: σ[j]? with
    | none=>rw[q] at e2;cases e2
    | some z=>rw[q] at e2;cases e2;rfl
   have kx:=c.free _ (cK wm) rfl;show ak.el (I.loc) _ ?_;rintro m0 hn0 hl0;have TH:Q5 X.env.scope x:=by
    rcases kx with k|k
    ·show .inr (.inl k)
    ·show .inr (.inr k)
   show ak.el (hl0 j x v hN hv TH) _ ?_;rintro u ru lk;show{u,ru,.inr {?_,?_}}
   ·rw[xc];show gC wm
   ·obtain⟨a,ha⟩:=lF _ (cK wm) rfl;show{a,ha,?_}
    rcases lk with ⟨k,_⟩|⟨_,a',ha',hcell⟩
    ·rcases kx with q|q<;>(rw[k] at q;cases q)
    ·have e:=eM _ _ ha;rw[ha'] at e;cases e;show hcell.keeps hk
 ·obtain⟨v,z⟩:=I.cell x a (eM x a e);show{v,z.keeps hk}
 ·have hp:=hp;cases hp
 ·change(Jm Nc.length none++eQ σ js).length=(Nc++Fc).length;unfold eQ;rw[Jn,Jn,Ud,Jc,c.lens]
end
def LF (J:It)(n:Nat)(js:List Nat)(g:TG)(tc:TT)(tk tv:TE)(σ:St)(D:KE)(H1:Hp)(fin:Hp->Prop):Prop:=
 ∃W:Nat->Nat->Hp->Prop,(∃m,W 0 m H1)/\∀i m H,W i m H ->
  (J.stop i H/\fin H) \/
  (J.go i H/\∀x H',J.yld i H x H'->g x (Jm n none++eQ σ js) H' fun σ2 H2=>tc σ2 H2 fun b H3=>
   if b=true then tk σ2 H3 fun y H4=>tv σ2 H4 fun z H5=>fX fun kvs k=>H5 D=some (.dK kvs)/\y=kV k/\kvs.length<W1/\∃m',m'<m/\W (i+1) m' (upd H5 D (.dK (putK kvs k z))) else ∃m',m'<m/\W (i+1) m' H3)
def NL (wi:TI)(n:Nat)(js:List Nat)(g:TG)(tc:TT)(tk tv:TE):TE:=fun σ H Q=>wi σ H fun J H1=>∀D,H1 D=none->LF J n js g tc tk tv σ D (upd H1 D (.dK [])) fun H2=>Q (.ref D) H2
def Ax {kx vx tg iter:QaF}{ifs:List QaF}{scope:QbU}{pos:Pos}{Nc Fc:List Str}{js:List Nat}{wi:TI}{g:TG}{tc:TT}{tk tv:TE}{use:Option (Fk->Sem Unit)}{QV:Fk->Gc->Prop}
  (gE:X.calm=true) (c:hW X scope Nc Fc js) (hi:PI X tg iter wi)
  (hg:∀cl C s H fp,PG (mG X Nc Fc scope cl C s H fp) tg g) (CD:∀cl C s H fp,Kr (mG X Nc Fc scope cl C s H fp) ifs tc) (yk:∀cl C s H fp,PE (mG X Nc Fc scope cl C s H fp) kx tk) (VO:∀cl C s H fp,PE (mG X Nc Fc scope cl C s H fp) vx tv) (gk:Gk Nc.length g)
  {pins:List (KE×Obj)} {s:Gc} {σ:St} {H:Hp} {fin:KE->Hp->Prop} (I:Inv X pins σ H s)
  (h:wi σ H fun J H1=>∀D,H1 D=none->LF J Nc.length js g tc tk tv σ D (upd H1 D (.dK [])) (fin D))
  (behind:∀(C D:KE) (m:Str->Option Fk) (H2:Hp) (s2:Gc),Inv X pins σ H2 s2->s2.heap.Ns C m->hM X pins H2 C->fin D H2->Qe4 (Qaa X.prog X.w) X.A X.xe use QV (.ref D) C (.ok .next) s2)
  (hs:∀x,Qbi iter X.env x=pure x) :
  Qab (Qaa X.prog X.w) X.A (comprehension (.DictComp kx vx [⟨tg,iter,ifs,0⟩] scope pos) scope X.env (firstIterPos [⟨tg,iter,ifs,0⟩] pos) newDict false (QaP iter X.env) use) QV X.xe s:=by
 obtain⟨cl,hclos,eM,lF⟩:=mj fun y hy hf=>I.ok.has y.1 (c.free y hy hf);show Qdu rfl hs hclos c.kind c.names (bg (hi s σ H _ I h) fun v s1 h1=>bg h1 fun Q0 s2 h2 =>?_);obtain⟨it,fp,tn,J,H2,e,I2,T,jz,f2,all⟩:=h2;subst e;show QaO (Qei c.nocell (by intro y hy;simp at hy) (fun h1 hns1 hsb1 =>?_) c.kind);have ER:=I2.laid (t':=s2.toks) (fun _ _ q=>Jb _ q) (Je _) (xg s2.heap I2.big);obtain⟨W,⟨m0,w0⟩,turn⟩:=all _ (I2.bw.fresh (Je _));have RQ:∀b∈fp,∃o,s2.heap.get? b=some o:=fun b hb=>let ⟨o,e,_⟩:=T.obj 0 _ jz b hb; ⟨o,e⟩;have tE:=fun b hb=>let ⟨o,e⟩:=RQ b hb;Jg e;generalize hG:s2.heap.push { cls := .type "dict",dict:=none,data := .dict #[] } = G at hns1 hsb1 ER ⊢;have toG:∀b o,s2.heap.get? b=some o->G.get? b=some o:=fun b o e=>hG▸Jb _ e;have hC:G.objs.size=s2.heap.objs.size+1:=by rw[<-hG,Uh]
 have old:=fun b o e=>
  hsb1.extBut b o (cw (Jg e) (Je _)) (Jb _ e)
 let D:KE:=s2.heap.objs.size
 let s2':Gc:={ s2 with heap:=G,toks:=s2.toks }
 let H2':Hp:=upd H2 D (.dK [])
 have Oz:∀b∈fp,hM X pins H2' b:=fun b hb=>by
  obtain⟨a1,a2⟩:=f2 b hb;show{?_,a2};change upd H2 D (.dK []) b=none;rw[av (Jp (tE b hb))];show a1
 have fo:∀b∈fp,∃o,s2'.heap.get? b=some o:=fun b hb=>let ⟨o,e⟩:=RQ b hb; ⟨o,toG b o e⟩;have T9:∀b∈fp,b<G.objs.size:=fun b hb=>by have:=tE b hb;rw[hC];show Qci this
 let Xc:Cx:=mG X Nc Fc scope cl G.objs.size s2' H2' fp
 have lS:∀{H':Hp},(∀b∈fp,H' b=none)->∀b∈fp,hM Xc [] H' b:=fun{H'} hn b hb=>by
  show{hn b hb,?_,?_,.inl hb,fun x a e =>?_,fun p hq =>?_}
  ·show cw (T9 b hb) (Je _)
  ·show(rn ER c eM lF (Je _) Oz fo).exfs b hb
  ·show(f2 b hb).2.2.2.2.1 x a (eM _ _ e)
  ·have q:p∈([]:List (KE×Obj))++[]:=hq;simp at q
 have loop:∀t1,QaY (Qaa X.prog X.w) X.A (.compLoop (.DictComp kx vx [⟨tg,iter,ifs,0⟩] scope pos) 0 (.ref it) (.ref s2.heap.objs.size) (compEnvC scope cl G.objs.size X.env))
   (Qe4 (Qaa X.prog X.w) X.A X.xe use QV (.ref s2.heap.objs.size) G.objs.size) { s2 with heap:=h1,toks:=t1 }:=by
  show fun t1=>yt (fun n s'=>∃i H',Inv Xc [] (Jm Nc.length none++eQ σ js) H' s'/\tn i s'.heap/\(∀b∈fp,H' b=none)/\W i n H') ?_ m0
   ⟨0,H2',ye ER c eM lF (Je _) Oz fo old hns1,T.keep _ _ _ jz (fun b hb o e=>old b o (toG b o e)),fun b hb=>(Oz b hb).1,w0⟩
  show fun n s3 hz_=>ak.el hz_ _ ?_;rintro i H3 I3 eF fr3 w3
  rcases turn i n H3 w3 with ⟨stop,qn⟩|⟨go,step⟩
  ·show bg (T.done Xc rfl rfl rfl gE i _ s3 _ H3 oC I3 (lS fr3) eF stop) fun r s4 hz_ =>?_;show ak.el hz_ _ ?_;rintro hr I4;subst hr;show ak.el (I4.loc) _ ?_;rintro mC hmC _;have u:=I4.base;have uK:∀b∈fp,(b∈X.ex\/X.s₀.heap.objs.size<=b)/\b≠X.env.locals/\(∀x c,X.env.cells.lookup x=some c->c≠b)/\∀p∈X.pn++pins,p.1≠b:=fun b hb=>
    ⟨(f2 b hb).2.2.2.1,(f2 b hb).2.1,(f2 b hb).2.2.2.2.1,(f2 b hb).2.2.2.2.2⟩
   show behind G.objs.size D mC H3 s4 (ER.Bq I4.os u I4.bw I4.bare uK) hmC (ER.fN (Je _) I4.free) qn
  ·show bg (T.item Xc rfl rfl rfl gE i _ s3 _ H3 oC I3 (lS fr3) eF go) fun r s4 hz_ =>?_;show ak.el hz_ _ ?_;rintro u hr h4;subst hr;show bg h4 fun _ s5 hz_=>ak.el hz_ _ ?_;rintro x H5 I5 r5 y5 cB fr5;show bg (hg cl G.objs.size s2' H2' fp s5 _ H5 x u _ (I5.pinned (lS fr5) (T.obj _ _ cB)) r5 (gk _ _ _ _ (step x H5 y5))) fun _ s6 hz_=>ak.el hz_ _ ?_;rintro σ6 H6 I6 q6 kσ kl;show bg (CD cl G.objs.size s2' H2' fp s6 σ6 H6 _ I6 q6) fun b s7 hz_=>ak.el hz_ _ ?_;rintro H7 I7 q7;have later:∀{σ':St} {H':Hp} {s':Gc},Inv Xc ([]++iI fp s5.heap) σ' H' s'->tn (i+1) s'.heap/\∀b∈fp,H' b=none:=fun{σ' H' s'} Iz=>by
    show{T.keep _ _ _ cB fun b hb o e=>(Iz.pin (b,o) (Jr _ (Jr _ (dG hb e)))).1,fun b hb=>ak.el (T.obj _ _ cB b hb) _ ?_};rintro o e d;show(Iz.pin (b,o) (Jr _ (Jr _ (dG hb e)))).2.1
   have back:∀{pl:List (KE×Obj)} {H':Hp} {s':Gc},Inv Xc pl σ6 H' s'->Inv Xc pl (Jm Nc.length none++eQ σ js) H' s':=fun{pl H' s'} Iz=>by
    show Iz.weak (by rw[<-kl]) fun j v hj =>?_
    by_cases hn:j<Nc.length
    ·rw[Uy (by simpa using hn),Yr] at hj
     split at hj<;>cases hj
    ·rw[kσ j ⋯];show hj
   cases b with
   | false=>
    rw[if_neg Js] at q7 ⊢;show ak.el (q7) _ ?_;rintro m' yZ w7;obtain⟨l1,l2⟩:=later I7;show{m',yZ,i+1,H7,back I7.fw,l1,l2,w7}
   | true=>
    show bg (yk cl G.objs.size s2' H2' fp s7 σ6 H7 _ I7 q7) fun yv s8 hz_=>ak.el hz_ _ ?_;rintro y H8 I8 r8 q8;show bg (VO cl G.objs.size s2' H2' fp s8 σ6 H8 _ I8 q8) fun zv s9 hz_=>ak.el hz_ _ ?_;rintro z H9 I9 r9 q9;show ak.el (q9) _ ?_;rintro kvs k eD ey hl m' yZ w9;subst ey;show C4 (X:=Xc) I9 eD hl r8 r9 fun Ld I10 =>?_;obtain⟨l1,l2⟩:=later I10;show{m',yZ,i+1,_,back I10.fw,l1,l2,w9}
 show codeAny_compStart_dict (loop _) (T.self _ 0 _ _ _ (T.keep _ _ _ jz fun b hb o e=>old b o (toG b o e)) (loop _))
def E9 {kx vx tg iter:QaF}{ifs:List QaF}{scope:QbU}{pos:Pos}{Nc Fc:List Str}{js:List Nat}{wi:TI}{g:TG}{tc:TT}{tk tv:TE}
  (gE:X.calm=true) (c:hW X scope Nc Fc js) (hi:PI X tg iter wi) (gk:Gk Nc.length g)
  (hg:∀cl C s H fp,PG (mG X Nc Fc scope cl C s H fp) tg g) (CD:∀cl C s H fp,Kr (mG X Nc Fc scope cl C s H fp) ifs tc) (yk:∀cl C s H fp,PE (mG X Nc Fc scope cl C s H fp) kx tk) (VO:∀cl C s H fp,PE (mG X Nc Fc scope cl C s H fp) vx tv)
  (hs:∀x,Qbi iter X.env x=pure x:=by intro _;rfl) :
  PE X (.DictComp kx vx [⟨tg,iter,ifs,0⟩] scope pos) (NL wi Nc.length js g tc tk tv):=
 fun pins s σ H Q I h=>Ax gE c hi hg CD yk VO gk I h (fun C D m H2 s2 I2 hm hC q=>⟨m,hm,fun h' hs'=>⟨.ref D,_,I2.turned (fun b o hb e=>hs'.extBut b o hb e) hC.1 (hC.2.1) hC.2.2.2.1 hC.2.2.2.2.1 hC.2.2.2.2.2,rfl,q⟩⟩) hs
def mM:∀{ns:List Int} {us:List Fk},Qeu us ns->Vals (ns.map V.int) us
 | _,_,.nil =>.nil
 | _,_,.cons _ _ h =>.cons ⟨_,rfl⟩ (mM h)
open PySem.W
def SJ (h base:Heap)(e:KE)(cls a0:Fk)(dx:Option KE)(fl:Fk):Prop:=∃oe vs T oT ts,
 h.get? e=some oe/\oe.cls=cls/\oe.dict=dx/\oe.data = .fields vs/\vs[0]? = some a0/\vs[1]? = some (.ref T)/\base.get? T=none/\T≠e/\h.get? T=some oT/\oT.data = .fields ts/\ts[3]? = some fl
def qS (base:Heap)(l:List Env)(e:KE)(cls a0:Fk)(dx:Option KE)(h:Heap):Prop:=base.StaysIn h/\base.get? e=none/\h.FunFrames base l/\SJ h base e cls a0 dx .none
def Lw (base:Heap)(l:List Env)(e:KE)(cls a0:Fk)(dx:Option KE)(L:KE)(h:Heap):Prop:=base.StaysIn h/\base.get? e=none/\h.FunFrames base l/\SJ h base e cls a0 dx (Qa0 L)
def qS.own {l:List Env}{e:KE}{cls a0:Fk}{dx:Option KE}(x:qS base l e cls a0 dx h):∃o,h.get? e=some o/\o.cls=cls/\o.dict=dx/\∃vs,o.data = .fields vs:=by
 obtain⟨_,_,_,oe,vs,T,oT,ts,a1,a2,a3,a4,_⟩:=x;show⟨oe,a1,a2,a3,vs,a4⟩
section
variable {M:Model}{A:QaB}{E:Fk->Gc->Prop}{s:Gc}{base:Heap}{env:Env}{outer:List Env}{L e:KE}{cls a0:Fk}{dx:Option KE}{Q:Unit->Gc->Prop}
def qA {hn:Bool}(wm:A.frames=some (env::outer))(mP:s.heap.FunFrames base (env::outer))(hf:env.frame=some L)(he:s.heap.get? e=some oe)(iz:base.StaysIn s.heap)(new:base.get? e=none)
  (hd:oe.data = .fields vs) (sz:1<vs.size) (h0:vs[0]? = some a0)
  (q:∀h',base.StaysIn h'->h'.FunFrames base (env::outer)->SJ h' base e oe.cls a0 oe.dict (Qa0 L)->s.heap.UpToSlots h'->Q () { s with heap:=h' }) :
  Qab M A (do let a <-frameOf env;let pl <-entryPlaceOf L hn;let b <-EntryCells.newEntry head a .none (Qa0 L) .none pl;setField (.ref e) 1 b) Q E s:=by
 have apart:e∉(env::outer).filterMap (·.frame):=fun m=>by
  obtain⟨_,o,ho,nf⟩:=mP.mem m;rw[he] at ho;cases ho;show nf vs hd
 show be (wpAny_frameOf_fun wm mP hf fun h1 so=>be (wpAny_entryPlaceOf fun pl isp=>be (QaO ?_ (isp.sizeOk5 _ _ _ _ _))));obtain⟨tr,etr⟩:∃tr:Obj,tr={ cls := .type "traceback",dict:=none,data := .fields ([head,.ref L,.none,Qa0 L,.none]++(if pl.isEmpty then Jm 6 Qcn else pl)).toArray }:=⟨_,rfl⟩
 rw[<-etr];have e1:=(so.2.1 e apart).trans he;have tG:base.StaysIn h1:=fun b o x=>(so.2.1 b fun m=>by rw[(mP.mem m).1] at x;cases x).trans (iz b o x);have e2:(h1.push tr).get? e=some oe:=Jb _ e1;show Qc8 e2 hd sz (q _ ?_ ?_ ?_ ?_)
 all_goals have nT:=Uq (Jg e1)
 all_goals have kp:∀b o,b≠e->h1.get? b=some o->((h1.push tr).update e (QbL (·.setIfInBounds 1 (Qaj h1.objs.size)))).get? b=some o:=fun b o nb x=>(J7 _ _ (QaD nb)).trans (Jb _ x)
 all_goals have nr:∀b o,s.heap.get? b=some o->(∀ws,o.data ≠ .fields ws)->b≠e:=fun b o x nf z=>(by rw[z,he] at x;cases x;show nf vs hd)
 ·show fun b o x=>kp b o (fun z=>by rw[z,new] at x;cases x) (tG b o x)
 ·show mP.of_keeps fun b o x nf =>?_;obtain⟨sl,hs⟩:=so.2.2 b o x;show{_,kp b _ (nr b o x nf) hs,rfl}
 ·have d3:=QcV hd (·.setIfInBounds 1 (Qaj h1.objs.size));show{_,_,h1.objs.size,tr,_,(J4 (QbL (·.setIfInBounds 1 (Qaj h1.objs.size))) e2 (QdM d3)),Obj.cls_mapFields _ _,?_,d3,by rw[Array.getElem?_setIfInBounds_ne ∅];show h0,by simp[sz],tG.fresh,nT,(J7 _ _ (QaD nT)).trans (Ji h1 (by rw[etr];rfl)),by rw[etr],?_}
  ·obtain⟨c1,c2,c3,c4⟩:=oe;cases c3<;>rfl
  ·first
    | (simp;done)
    | (rcases isp with rfl|⟨_,_,_,_,_,_,_,rfl⟩<;>simp)
 ·intro b o x nf;obtain⟨sl,hs⟩:=so.2.2 b o x;show{sl,kp b _ (nr b o x nf) hs}
def zR (wm:A.frames=some (env::outer))(mP:s.heap.FunFrames base (env::outer))(hf:env.frame=some L)(he:s.heap.get? e=some oe)(iz:base.StaysIn s.heap)(new:base.get? e=none)
  (hd:oe.data = .fields vs) (h1:vs[1]? = some .none) (h0:vs[0]? = some a0) (q:∀h',Lw base (env::outer) e oe.cls a0 oe.dict L h'->s.heap.UpToSlots h'->Q () { s with heap:=h' }):Qab M A (Qc5 (.ref e) env) Q E s:=by
 unfold Qc5;simp only[hf];show be (Qai he hd h1 (qA wm mP hf he iz new hd (U4.mp h1).1 h0 fun h' k1 k2 k3 k4=>q h' ⟨k1,new,k2,k3⟩ k4))
def slot_set (hT:s.heap.get? T=some oT)(dT:oT.data = .fields ts)(nT:base.get? T=none)(iz:base.StaysIn s.heap){l:List Env}(mP:s.heap.FunFrames base l):
  (∀b,b≠T->(s.heap.update T (QbL (·.setIfInBounds 3 x))).get? b=s.heap.get? b)/\base.StaysIn (s.heap.update T (QbL (·.setIfInBounds 3 x)))/\(s.heap.update T (QbL (·.setIfInBounds 3 x))).FunFrames base l /\
   ∀b o,s.heap.get? b=some o->(∀ws,o.data ≠ .fields ws)->(s.heap.update T (QbL (·.setIfInBounds 3 x))).get? b=some o:=by
 have off:∀b,b≠T->(s.heap.update T (QbL (·.setIfInBounds 3 x))).get? b=s.heap.get? b:=fun b nb=>J7 _ _ (QaD nb);have kp:∀b o,s.heap.get? b=some o->(∀ws,o.data ≠ .fields ws)->(s.heap.update T (QbL (·.setIfInBounds 3 x))).get? b=some o:=fun b o z nf=>
  (off b fun w=>by rw[w,hT] at z;cases z;show nf ts dT).trans z
 show{off,fun b o z=>(off b fun w=>by rw[w,nT] at z;cases z).trans (iz b o z),mP.of_keeps fun b o z nf=>{o,kp b o z nf,rfl},kp}
def BR (wm:A.frames=some (env::outer))(hf:env.frame=some L)(uM:qS base (env::outer) e cls a0 dx s.heap)(q:∀h',Lw base (env::outer) e cls a0 dx L h'->s.heap.UpToSlots h'->Q () { s with heap:=h' }):Qab M A (Qc5 (.ref e) env) Q E s:=by
 obtain⟨iz,new,mP,oe,vs,T,oT,ts,he,rfl,rfl,hd,h0,h1,nT,ne,hT,dT,h3⟩:=uM;obtain⟨off,jz,fu2,kp⟩:=slot_set hT dT nT iz mP;unfold Qc5;simp only[hf];show be (Qai he hd h1 (be (Qai hT dT h3 (be (Qc8 hT dT (U4.mp h3).1 ?_)))));show qA wm fu2 hf ((off e (QaD ne)).trans he) jz new hd (U4.mp h1).1 h0 fun h' k1 k2 k3 k4=>q h' ⟨k1,new,k2,k3⟩ fun b o z nf=>k4 b o (kp b o z nf) nf
def AH (iz:base.StaysIn s.heap)(new:base.get? e=none)(mP:s.heap.FunFrames base l)(tr:SJ s.heap base e cls a0 dx fl)(q:∀h',qS base l e cls a0 dx h'->s.heap.UpToSlots h'->Q () { s with heap:=h' }):
  Qab M A (setFlight (.ref e) none) Q E s:=by
 obtain⟨oe,vs,T,oT,ts,he,rfl,rfl,hd,h0,h1,nT,ne,hT,dT,h3⟩:=tr;have O0:=(U4.mp h3).1;obtain⟨off,jz,fu2,kp⟩:=slot_set hT dT nT iz mP;show be (Qai he hd h1 ?_);have Xi:=QcV dT (·.setIfInBounds 3 ((none:Option KE).elim Qcn fun f=>Qa0 f));show Qc8 hT dT O0 (q _ {jz,new,fu2,oe,vs,T,_,_,(off e (QaD ne)).trans he,rfl,rfl,hd,h0,h1,nT,ne,J4 _ hT (QdM Xi),Xi,by simp[O0]} fun b o z nf=>{o.slots,kp b o z nf})
def qS.tail (x:qS base (env::outer) e cls a0 dx h):qS base outer e cls a0 dx h:=let ⟨a,b,⟨_,_,c⟩,d⟩:=x; ⟨a,b,c,d⟩
def DQ (wm:A.frames=some (env::outer))(hf:env.frame=some L)(uM:qS base (env::outer) e cls a0 dx s.heap)(q:∀h',qS base outer e cls a0 dx h'->s.heap.UpToSlots h'->Q () { s with heap:=h' }):Qab M A (leaving env (.ref e)) Q E s:=
 be (BR wm hf uM fun h1 hd up=>AH hd.1 hd.2.1 hd.2.2.1 hd.2.2.2 fun h2 fly2 up2=>q h2 fly2.tail (up.trans up2))
def vK (wm:A.frames=some (env::outer))(mP:s.heap.FunFrames base (env::outer))(hf:env.frame=some L)(he:s.heap.get? e=some oe)(iz:base.StaysIn s.heap)(new:base.get? e=none)
  (hd:oe.data = .fields vs) (h1:vs[1]? = some .none) (h0:vs[0]? = some a0) (q:∀h',qS base outer e oe.cls a0 oe.dict h'->s.heap.UpToSlots h'->Q () { s with heap:=h' }):Qab M A (leaving env (.ref e)) Q E s:=
 be (zR wm mP hf he iz new hd h1 h0 fun h1 hd up=>AH hd.1 hd.2.1 hd.2.2.1 hd.2.2.2 fun h2 fly2 up2=>q h2 fly2.tail (up.trans up2))
end
def bB.ex (x:bB P w H h a o):∃q,h.get? a=some q:=by
 cases o with
 | lst xs=>obtain⟨_,_,_,_,e⟩:=x;show⟨_,e⟩
 | tup xs=>obtain⟨_,_,_,_,e,_⟩:=x;show⟨_,e⟩
 | dK kvs=>obtain⟨_,_,_,_,_,_,_,e,_⟩:=x;show⟨_,e⟩
 | dT kvs=>obtain⟨_,_,_,_,_,_,_,e,_⟩:=x;show⟨_,e⟩
 | set S n=>obtain⟨_,_,_,_,e,_⟩:=x;show⟨_,e⟩
 | ins C dx fs=>show⟨_,x.2.2.2.1⟩
 | own y=>show x
 | xd fs=>obtain⟨_,⟨_,_,_,e,_⟩,_⟩:=x;show⟨_,e⟩
 | rng lo hi=>obtain⟨_,_,_,e⟩:=x;show⟨_,e⟩
 | frz ob u=>show⟨_,x.1⟩
 | tbl ps=>show⟨_,x⟩
 | met f y=>show⟨_,x⟩
 | ext φ=>show x.2.1
def j0.part {h h' B:Heap}(x:j0 P w H h)(hB:B.StaysIn h)(YY:B.StaysIn h')(jb:∀b u,H b=some u->∃o,B.get? b=some o):j0 P w H h':=fun a o e=>
 (x a o e).iz (fun b u hb q=>by
  obtain⟨o',eo⟩:∃o',B.get? b=some o':=by
   rcases hb with hb|hb
   ·subst hb;show jb _ _ e
   ·show jb _ _ hb
  have:=hB b o' eo;rw[q] at this;cases this;show YY b _ eo) (fun _ q=>q) fun _ _ q=>q
def jY (H:Hp)(a:KE):Hp:=fun b=>if b=a then none else H b
def cW:jY H a a=none:=if_pos rfl
def bG {a b:KE}(h:b≠a):jY H a b=H b:=if_neg h
def xj (P:Qac)(w:Qag)(base:Heap):Fl:=fun outer H s E e s'=>Fz fun ea cls t B H' dx=>e = .ref ea/\s'.os=s.os/\Qdt s'.gens/\Un (l9 outer) [] H H' s.heap s'.heap/\j0 P w H' s'.heap /\
 base.StaysIn B/\(∀b o,s.heap.get? b=some o->b∉l9 outer->∃o',B.get? b=some o')/\(∀b u,H' b=some u->∃o',B.get? b=some o')/\qS B outer ea cls (.ref t) dx s'.heap/\E cls dx H'
def mV {base h:Heap}:∀{l:List Env} {b:KE},h.FunFrames base l->b∈l9 l->∃o,h.get? b=some o/\∀vs,o.data ≠ .fields vs:=fun{l b} hl hb=>by
 show ak.el (hl.mem hb) _ ?_;rintro _ o e n;show⟨o,e,n⟩
section
variable {P:Qac}{w:Qag}{K:Ja}{mg:Str->Option Fk}{base:Heap}{N:List Str}{qual:Str}{scope:QbU}{f:KE}{cd:Fk}{A:QaB}{outer:List Env}{s0:Gc}{H0:Hp}{E:XK}
def zH {σ:St}{H:Hp}{s:Gc}{e t:KE}{oe:Obj}{vs:Array Fk}
  (I:Inv (oJ (xj P w base) P w K mg base N qual scope f cd A outer s0 H0 E) pins σ H s) (he:s.heap.get? e=some oe) (new:s0.heap.get? e=none) (hd:oe.data = .fields vs) (v1:vs[1]? = some .none) (v0:vs[0]? = some (.ref t))
  (Rc:H e=none\/∃ φ,H e=some (.ext φ)) (hE:E oe.cls oe.dict (jY H e)):(oJ (xj P w base) P w K mg base N qual scope f cd A outer s0 H0 E).xe (.ref e) s:=by
 let env:=Qb5 qual scope s0.heap.objs.size f cd
 let B:=hideAll s.heap (e::l9 (env::outer))
 have lR:B.StaysIn s.heap:=fun b o q=>of_hideAll _ q;have ME:s.heap.FunFrames base (env::outer):=I.stack;have SZ:∀b o,s0.heap.get? b=some o->b≠s0.heap.objs.size:=fun b o q=>Jp (Jg q);have Ec:∀b o,s0.heap.get? b=some o->b≠e:=fun b o q z=>by rw[z,new] at q;cases q
 have sP:=fun b hb=>by
  have:b∈(env::outer).filterMap (·.frame):=hb;show Jq.mp this
 have O9:=fun b o q z=>by
  show Ec b _ (I.ok.bs b o q).1 z
 have jb:∀b u,jY H e b=some u->∃o,B.get? b=some o:=fun b u q=>by
  have nb:b≠e:=fun z=>by rw[z,cW] at q;cases q
  rw[bG nb] at q;obtain⟨o,eo⟩:=(I.bw b u q).ex;show{o,QfM _ eo fun z =>?_}
  rcases Jq.mp z with z|z
  ·show nb z
  ·have:=I.vU b z;rw[q] at this;cases this
 have Si:base.StaysIn B:=fun b o q=>by
  show QfM _ (I.bs b o q).1 fun z =>?_
  rcases Jq.mp z with z|z
  ·show O9 b o q z
  ·have:=(ME.mem z).1;rw[q] at this;cases this
 have ub:Un (l9 outer) [] H0 H s0.heap s.heap:=I.base;show vK I.ok.frames (funFrames_hide ME fun v hv a ha=>Jh _ (List.mem_filterMap.mpr ⟨v,hv,ha⟩)) rfl he lR (hideAll_none _ (Jj ..)) hd v1 v0 fun h' uM up =>?_;have hk:=fun b o ne hb q=>uM.1 b o (QfM _ q fun z=>(Jq.mp z).elim ne hb);have yq:∀b o,b∈l9 (env::outer)->s.heap.get? b=some o->∃sl,h'.get? b=some { o with slots:=sl }:=fun b o hb q=>by
  show ak.el (mV ME hb) _ ?_;rintro o' e' nf;rw[q] at e';cases e';show up b o q nf
 have old:=fun b o q hb z=>(sP b z).elim (SZ b o q) hb;have QC:j0 P w (jY H e) s.heap:=fun b u q=>by
  have nb:b≠e:=fun z=>by rw[z,cW] at q;cases q
  rw[bG nb] at q;show(I.bw b u q).iz (fun _ _ _ z=>z) (fun c z =>?_) fun c xs z =>?_
  all_goals
   have nc:c≠e:=fun y=>by
    rw[y] at z
    rcases Rc with l|⟨φ,l⟩<;>(rw[l] at z;cases z)
   rw[bG nc];show z
 have FI:∀b o,H0 b=some o->(∀ φ,H b≠some (.ext φ))->H b≠none->jY H e b=H b:=fun b o q n1 n2=>by
  show bG fun z =>?_;rw[z] at n1 n2
  rcases Rc with l|⟨φ,l⟩
  ·show n2 l
  ·show n1 φ l
 show{e,oe.cls,t,B,jY H e,oe.dict,rfl,I.os,I.bare,{?_,?_,?_,?_,?_,?_,?_},QC.part lR uM.1 jb,Si,?_,jb,uM,hE}
 ·show fun b o q n hb nV=>hk b o (Ec b o q) (old b o q hb) (ub.keep b o q n hb nV)
 ·intro b o q n hb nV;obtain⟨sl,e1⟩:=ub.slot b o q n hb nV;obtain⟨sl',e2⟩:=yq b _ (by change b∈(env::outer).filterMap (·.frame);rw[Y6];show Jh _ hb) e1;show⟨sl',e2⟩
 ·intro b o q n nV;rw[bG (Ec b o q)];show ub.free b o q n nV
 ·intro b o q nV;obtain⟨o1,e1⟩:=ub.there b o q nV
  by_cases hb:b∈l9 (env::outer)
  ·obtain⟨sl,e2⟩:=yq b o1 hb e1;show{_,e2}
  ·show{o1,hk b o1 (Ec b o q) hb e1}
 ·intro b xs q;have z:=ub.ke b xs q;rw[FI b _ q (fun φ y=>by rw[z] at y;cases y) (fun y=>by rw[z] at y;cases y)];show z
 ·intro b o u q;have z:=ub.j1 b o u q;rw[FI b _ q (fun φ y=>by rw[z] at y;cases y) (fun y=>by rw[z] at y;cases y)];show z
 ·intro b ps q;obtain⟨m,z⟩:=ub.lI b ps q;show{m,?_};rw[FI b _ q (fun φ y=>by rw[z] at y;cases y) (fun y=>by rw[z] at y;cases y)];show z
 ·intro b o q hb;obtain⟨o1,e1⟩:=ub.there b o q (by simp);show{o1,QfM _ e1 fun z=>(Jq.mp z).elim (Ec b o q) (old b o q hb)}
def CZ (hE:∀c d H,E' c d H->E c d H):Passes (xj P w base) (oJ (xj P w base) P w K mg base N qual scope f cd A outer s0 H0 E) E':=by
 intro pins σ H s ev s' I h
 let env:=Qb5 qual scope s0.heap.objs.size f cd
 obtain⟨e,cls,t,B,H',dx,rfl,os',bare',u1,hok',Si,hold,jb,uM,q⟩:=h;have ub:Un (l9 outer) [] H0 H s0.heap s.heap:=I.base;have SZ:∀b o,s0.heap.get? b=some o->b≠s0.heap.objs.size:=fun b o q=>Jp (Jg q);have sP:=fun b hb=>by
  have:b∈(env::outer).filterMap (·.frame):=hb;show Jq.mp this
 have eM:=fun b hb=>by
  change b∈(env::outer).filterMap (·.frame);rw[Y6];show Jh _ hb
 have old:=fun b o q hb z=>(sP b z).elim (SZ b o q) hb;show DQ I.ok.frames rfl uM fun h' C1 up =>?_;have step:∀b o,s.heap.get? b=some o->b∉l9 (env::outer)->∀o1,s'.heap.get? b=some o1->h'.get? b=some o1:=fun b o q hb o1 e1=>by
  obtain⟨o',eo⟩:=hold b o q hb;have e2:=uM.1 b o' eo;rw[e1] at e2;cases e2;show C1.1 b _ eo
 have yq:∀b o,b∈l9 (env::outer)->s'.heap.get? b=some o->∃sl,h'.get? b=some { o with slots:=sl }:=fun b o hb q=>by
  show ak.el (mV uM.2.2.1 hb) _ ?_;rintro o' e' nf;rw[q] at e';cases e';show up b o q nf
 show{e,cls,t,B,H',dx,rfl,(os'.trans I.os),bare',{?_,?_,?_,?_,?_,?_,?_},hok'.part uM.1 C1.1 jb,Si,?_,jb,C1,hE _ _ _ q}
 ·intro b o q n hb nV;have e1:=ub.keep b o q n hb nV;have n1:=ub.free b o q n nV;have sL:=old b o q hb;show step b o e1 sL o (u1.keep b o e1 n1 sL (by simp))
 ·intro b o q n hb nV;obtain⟨sl,e1⟩:=ub.slot b o q n hb nV;have n1:=ub.free b o q n nV;obtain⟨sl1,e2⟩:=u1.slot b _ e1 n1 (eM b hb) (by simp);obtain⟨sl2,e3⟩:=yq b _ (eM b hb) e2;show⟨sl2,e3⟩
 ·intro b o q n nV;have n1:=ub.free b o q n nV;obtain⟨o1,e1⟩:=ub.there b o q nV;show u1.free b o1 e1 n1 (by simp)
 ·intro b o q nV;obtain⟨o1,e1⟩:=ub.there b o q nV;obtain⟨o2,e2⟩:=u1.there b o1 e1 (by simp)
  by_cases hb:b∈l9 (env::outer)
  ·obtain⟨sl,e3⟩:=yq b o2 hb e2;show{_,e3}
  ·show{o2,step b o1 e1 hb o2 e2}
 ·show fun b xs q=>u1.ke b xs (ub.ke b xs q)
 ·show fun b o u q=>u1.j1 b o u (ub.j1 b o u q)
 ·intro b ps q;obtain⟨m1,e1⟩:=ub.lI b ps q;obtain⟨m2,e2⟩:=u1.lI b _ e1;show{m1++m2,by rw[e2,Array.append_assoc]}
 ·intro b o q hb;obtain⟨o1,e1⟩:=ub.there b o q (by simp);show hold b o1 e1 (old b o q hb)
end
def Et (X:Cx)(pins:List (KE×Obj))(σ0:St)(E':XK):Fk->Gc->Prop:=fun e s'=>pW fun ph H s=>Inv X (pins++ph) σ0 H s/\xj X.prog X.w X.base X.stack H s E' e s'
def xB (X:Cx)(pins:List (KE×Obj))(σ0:St)(E':XK):Cx:={ X with pn:=X.pn++pins,xe:=Et X pins σ0 E' }
def xH (X:Cx)(e:KE):Cx:={ X with A:=X.A.mark (some (.ref e)),calm:=false,xe:=fun _ _=>False }
section
variable {X:Cx}{pins ph:List (KE×Obj)}{σ σ0:St}{E':XK}{H:Hp}{s:Gc}
def Inv.X6 (I:Inv X pins σ H s):Inv (xB X pins σ0 E') [] σ H s:=
 ⟨⟨I.ok.mod,I.ok.kind,I.ok.glob,I.ok.blt,I.ok.above,I.ok.inj,I.ok.has,I.ok.cab,I.ok.hd,I.ok.frames,I.ok.stk,I.ok.exf,I.ok.bs,I.ok.bsz,I.ok.noex,I.ok.exfs,I.ok.lC,I.ok.frf⟩,I.os,I.bare,I.base,I.loc,I.cell,I.free,I.freeC,
  fun p hp=>I.pin p (by have hp:p∈(X.pn++pins)++[]:=hp;simpa using hp),I.bw,I.len⟩
def Inv.PJ (I:Inv (xB X pins σ0 E') ph σ H s):Inv X (pins++ph) σ H s:=
 ⟨⟨I.ok.mod,I.ok.kind,I.ok.glob,I.ok.blt,I.ok.above,I.ok.inj,I.ok.has,I.ok.cab,I.ok.hd,I.ok.frames,I.ok.stk,I.ok.exf,I.ok.bs,I.ok.bsz,I.ok.noex,I.ok.exfs,I.ok.lC,I.ok.frf⟩,I.os,I.bare,I.base,I.loc,I.cell,I.free,I.freeC,
  fun p hp=>I.pin p (by change p∈(X.pn++pins)++ph;simpa [Ux] using hp),I.bw,I.len⟩
def Inv.Wz (I:Inv X pins σ H s):Inv (xH X e) pins σ H s:=
 ⟨⟨I.ok.mod,I.ok.kind,I.ok.glob,I.ok.blt,I.ok.above,I.ok.inj,I.ok.has,I.ok.cab,fun z=>Bool.noConfusion z,I.ok.frames,I.ok.stk,I.ok.exf,I.ok.bs,I.ok.bsz,I.ok.noex,I.ok.exfs,I.ok.lC,I.ok.frf⟩,I.os,I.bare,I.base,I.loc,I.cell,I.free,I.freeC,I.pin,I.bw,I.len⟩
def Inv.RY (k:X.Ok)(I:Inv (xH X e) pins σ H s):Inv X pins σ H s:=
 ⟨k,I.os,I.bare,I.base,I.loc,I.cell,I.free,I.freeC,I.pin,I.bw,I.len⟩
def BQ (σ0:St)(sp:Sp)(E:XK)(t:TA):TE:=fun σ H Q =>σ = σ0/\t σ H fun vs H1=>sp vs H1 Q E
def M3 {p pos:Pos}(F:aU X.prog X.w X.K X.mg X.base (xj X.prog X.w X.base) k f fd ps sp)(hr:dw k X.A)(hg:Gl X x)(hm:X.mg x=some (.ref f))
  (hk:Yj X.K (.ref f)=true) (hb:Binds X.K fd ps []) (ha:PA (xB X pins σ0 E') (e::es) t) (sD:(x==("__debug__" : Str))=false:=by decide)
  (he:Qaf (e::es) X.env=(false,QaP e X.env)::Qaf es X.env:=by rfl) (oP:(QbT pos (Qaf es X.env)).any (·.1)=false:=by rfl) :
  PE (xB X pins σ0 E') (.Call (.Name x p) (e::es) [] pos) (BQ σ0 sp E' t):=by
 intro pl s σ H Q I h;obtain⟨hσ,h⟩:=h;subst hσ;show QaQ (jw I hg hm (Qb0 I.ok.mod.yH hk (bg (ha s σ H _ I h) fun us s1 hz_=>ak.el hz_ _ fun vs H1 I1 r q=>{I1.jr,?_}) he oP) sD);have J1:=I1.PJ;show QcB (Qcw (F.run X.A X.stack s1 H1 {us,[]} us vs Q E' hr J1.KM (by simpa using(hb s1 us J1.jr (by simpa using(by rw[<-r.length];show F.len _ _ _ _ q)))) r q) fun r s' hq =>?_);cases r with
 | error e=>show⟨pl,H1,s1,J1,hq⟩
 | ok fl=>
  cases fl with
  | ret u=>show I1.after hq
  | next=>show QaV hq
  | brk=>show QaV hq
  | cont=>show QaV hq
end
def Un.land {st:List Env}{H H':Hp}{h h1 h3 B:Heap}(u:Un (l9 st) [] H H' h h1)(hold:∀b o,h.get? b=some o->b∉l9 st->∃o',B.get? b=some o')(k1:B.StaysIn h1)(k3:B.StaysIn h3)(hf:h1.FunFrames B st)(up:h1.UpToSlots h3):
  Un (l9 st) [] H H' h h3:=by
 have step:∀b o,h.get? b=some o->b∉l9 st->∀o1,h1.get? b=some o1->h3.get? b=some o1:=fun b o q hb o1 e1=>by
  obtain⟨o',eo⟩:=hold b o q hb;have e2:=k1 b o' eo;rw[e1] at e2;cases e2;show k3 b _ eo
 have sl:∀b o,b∈l9 st->h1.get? b=some o->∃l,h3.get? b=some { o with slots:=l }:=fun b o hb q=>by
  show ak.el (mV hf hb) _ ?_;rintro o' e' nf;rw[q] at e';cases e';show up b o q nf
 show{fun b o q n hb hx=>step b o q hb o (u.keep b o q n hb hx),fun b o q n hb hx =>?_,u.free,fun b o q hx =>?_,u.ke,u.j1,u.lI}
 ·obtain⟨l1,e1⟩:=u.slot b o q n hb hx;obtain⟨l2,e2⟩:=sl b _ hb e1;show⟨l2,e2⟩
 ·obtain⟨o1,e1⟩:=u.there b o q hx
  by_cases hb:b∈l9 st
  ·obtain⟨l,e2⟩:=sl b o1 hb e1;show{_,e2}
  ·show{o1,step b o q hb o1 e1}
def DI {o:Obj}(he:h.get? e=some o):Looks M h (typeOf (.ref e)) o.cls:=
 (Looks.ld he).andThen .now
section
variable {X:Cx}{L:KE}{pins:List (KE×Obj)}{σ:St}{H:Hp}{s:Gc}
def k6 {i:Nat}{n:Str}{pos:Pos}{Q:Unit->Gc->Prop}(I:Inv X pins σ H s)(hN:X.N.Nodup)(hi:X.N[i]? = some n)(IG:X.env.kindOf n=some .local)
  (h:∀s',Inv X pins (σ.set i none) H s'->Q () s'):Qab M A (do bindName X.env n .none;unbindBehindTheSuite X.env n pos) Q E s:=by
 show ak.el (id I.loc) _ ?_;rintro m hn hl;have hp:(X.env.scope.kind == .class||(X.env.scope.kind == .module&&X.env.locals != X.env.globals))=false:=by rw[I.ok.kind];rfl
 obtain⟨oL,_,_,hoL,_⟩:=id hn;show wpAny_nameGoes_keeps IG hn hp fun h' v hn' hs=>h _ ?_;have off:=fun b hb=>hs.2 b hb;have old:∀b o,X.s₀.heap.get? b=some o->b≠X.env.locals:=fun b o e=>Jp (Jv (Jg e) I.ok.above);have ON:∀b u,H b=some u->b≠X.env.locals:=fun b u e z=>by have:=I.free;rw[<-z,e] at this;cases this
 show{I.ok,I.os,I.bare,{fun b o e n hb hx =>?_,fun b o e n hb hx =>?_,I.base.free,fun b o e hx =>?_,I.base.ke,I.base.j1,I.base.lI},{_,hn',fun j y w e1 e2 e3 =>?_},fun y c e =>?_,I.free,I.freeC,fun p hp =>?_,?_,by simpa using I.len}
 ·rw[off b (old b o e)];show I.base.keep b o e n hb hx
 ·rw[off b (old b o e)];show I.base.slot b o e n hb hx
 ·rw[off b (old b o e)];show I.base.there b o e hx
 ·have hj:j≠i:=fun z=>by
   subst z;rw[Yp (by rw[I.len];show(Jl.mp hi).1)] at e2;cases e2
  have hy:y≠n:=fun z=>hj (rf hN e1 (z▸hi));rw[Yi (QaD hj)] at e2;show ak.el (hl j y w e1 e2 e3) _ ?_;rintro u ru lk;show{u,ru,?_}
  rcases lk with ⟨k1,k2⟩|⟨k1,c,k2,k3⟩
  ·show .inl {k1,by change(if y=n then v else m y)=some u;rw[if_neg hy];show k2}
  ·show .inr {k1,c,k2,?_};have hc:=I.Kq y c k2;show k3.sameBut hs hc
 ·obtain⟨w,z⟩:=I.cell y c e;show{w,z.sameBut hs (I.Kq y c e)}
 ·show ak.el (I.pin p hp) _ ?_;rintro p1 p2 p3 p4 p5;show{by rw[off _ p3];show p1,p2,p3,p4,p5}
 ·show fun b u e=>(I.bw b u e).iz (fun c w hc q =>?_) (fun _ q=>q) fun _ _ q=>q;rw[off c (by
   rcases hc with hc|hc
   ·subst hc;show ON _ _ e
   ·show ON _ _ hc)]
  show q
end
def Pk (e:KE)(cls:Fk):HO := .ext fun h=>∃o,h.get? e=some o/\o.cls=cls
def P0 (e:KE)(cls:Fk)(d:KE):HO := .ext fun h=>∃o,h.get? e=some o/\o.cls=cls/\o.dict=some d/\notCls o=true
def mS (e:KE)(cls:Fk):Option KE->HO
 | none=>Pk e cls
 | some d=>P0 e cls d
def Gf {o:Obj}{cls:Fk}{dx:Option KE}{vs:Array Fk}(h1:h.get? e=some o)(h2:o.cls=cls)(h3:o.dict=dx)(h4:o.data = .fields vs):bB P w H h e (mS e cls dx):=by
 cases dx with
 | none=>show⟨⟨o,h1,h2⟩,⟨o,h1⟩,fun a b ⟨o,e1,r⟩ k=>⟨o,k _ e1,r⟩⟩
 | some d=>show⟨⟨o,h1,h2,h3,by obtain⟨_,_,dt,_⟩:=o;cases h4;rfl⟩,⟨o,h1⟩,fun a b ⟨o,e1,r⟩ k=>⟨o,k _ e1,r⟩⟩
section
variable {X:Cx}{L:KE}{pins:List (KE×Obj)}{σ:St}{H:Hp}{s:Gc}
def Inv.zB (I:Inv X pins σ H s)(h0:H e=none)(h1:e≠X.env.locals)(h2:∀x c,X.env.cells.lookup x=some c->c≠e)(h3:∀p∈X.pn++pins,p.1≠e)(h4:∀b u,X.s₀.heap.get? b=some u->b≠e)
  (new:bB X.prog X.w (upd H e o) s.heap e o):Inv X pins σ (upd H e o) s:=by
 show{I.ok,I.os,I.bare,{I.base.keep,I.base.slot,fun b u q n hx =>?_,I.base.there,fun b xs q =>?_,fun b u xs q =>?_,fun b ps q =>?_},I.loc,I.cell,?_,fun x c q =>?_,fun p hp =>?_,I.bw.adopt h0 new,I.len}
 ·rw[av (h4 b u q)];show I.base.free b u q n hx
 ·have z:=I.base.ke b xs q;rw[av (aE z h0)];show z
 ·have z:=I.base.j1 b u xs q;rw[av (aE z h0)];show z
 ·obtain⟨m,z⟩:=I.base.lI b ps q;show{m,by rw[av (aE z h0)];show z}
 ·rw[av (QaD h1)];show I.free
 ·rw[av (h2 x c q)];show I.freeC x c q
 ·obtain⟨p1,p2,p3⟩:=I.pin p hp;show{p1,by rw[av (h3 p hp)];show p2,p3}
def Ends.gone (D:Ends)(j:Nat):Ends:={ nx:=fun σ H=>D.nx (σ.set j none) H,rt:=D.rt,bk:=fun σ H=>D.bk (σ.set j none) H,ct:=fun σ H=>D.ct (σ.set j none) H }
def PR (K:Ja)(C:KE)(j:Nat)(tb:St->XK->TS)(th:TS):TS:=fun D σ H=>∃E',tb σ E' D σ H /\
 ∀cls dx H',E' cls dx H'->exmOne K cls (.ref C)=some true/\∀e,H' e=none->th (D.gone j) (σ.set j (some (.ref e))) (upd H' e (mS e cls dx))
def Ih {c n:Str}{j:Nat}{C:KE}{body Lp:List QcU}{b0:QcU}{tb:St->XK->TS}{th:TS}{np hp pos:Pos}(lR:X.stack=X.env::X.outer)(X4:X.env.frame=some L)(hN:X.N.Nodup)(hj:X.N[j]? = some n)(IG:X.env.kindOf n=some .local)
  (hg:Gl X c) (hm:X.mg c=some (.ref C)) (hb:∀pins σ0 E',yj (xB X pins σ0 E') body (tb σ0 E')) (hh:∀e,yj (xH X e) (b0::Lp) th) (hd:(c==("__debug__" : Str))=false:=by decide) (hex:X.ex=[]:=by rfl) :
  PS X (.Try body [.ExceptHandler (some (.Name c np)) (some n) (b0::Lp) hp] [] [] pos) (PR X.K C j tb th):=by
 intro pins s σ H D I h;obtain⟨E',sL,hc⟩:=h;show wpAny_Try_except (Qbc (hb pins σ E' s σ H D I.X6 sL) (fun f s1 q =>?_) fun ev s1 q =>?_)
 ·cases f with
  | next=>
   obtain⟨σ',H',J,q⟩:=q;have J:=J.PJ;rw[Us] at J;show QcR ⟨σ',H',J,q⟩
  | brk=>
   obtain⟨σ',H',J,q⟩:=q;have J:=J.PJ;rw[Us] at J;show⟨σ',H',J,q⟩
  | cont=>
   obtain⟨σ',H',J,q⟩:=q;have J:=J.PJ;rw[Us] at J;show⟨σ',H',J,q⟩
  | ret u=>
   obtain⟨v,σ',H',J,r,q⟩:=q;have J:=J.PJ;rw[Us] at J;show⟨v,σ',H',J,r,q⟩
 ·obtain⟨ph,H1,s0,J,ea,cls,t,B,H',dx,rfl,os',bare',u1,hok',Si,hold,jb,uM,q⟩:=q;obtain⟨hx,ht⟩:=hc _ _ _ q;have WW:=uM.2.1;have AG:∃oe vs,s1.heap.get? ea=some oe/\oe.data = .fields vs:=by
   show ak.el (uM.own) _ ?_;rintro oe e1 _ _ vs e3;show⟨oe,vs,e1,e3⟩
  have hnf:ea∉l9 X.stack:=fun z=>by
   show ak.el (mV uM.2.2.1 z) _ ?_;rintro o e1 e2;show ak.el (AG) _ ?_;rintro oe vs e3 e4;rw[e1] at e3;cases e3;show e2 vs e4
  have DN:∀b o,s0.heap.get? b=some o->b≠ea:=fun b o e z=>by
   subst z;obtain⟨o',e'⟩:=hold b o e hnf;rw[WW] at e';cases e'
  have XD:H' ea=none:=by
   cases e:H' ea with
   | none=>rfl
   | some u=>obtain⟨o',e'⟩:=jb _ _ e;rw[WW] at e';cases e'
  have C1:=uM;rw[lR] at C1;show BR (by rw[<-lR];show J.ok.frames) X4 C1 fun h4 held4 up4=>AH held4.1 held4.2.1 held4.2.2.1 held4.2.2.2 fun h5 fly5 up5 =>?_;have at_:=fun{h9} k9 up9=>
   (J.Bq (s':={ s1 with heap:=h9 }) os' (u1.land hold uM.1 k9 uM.2.2.1 up9) (hok'.part uM.1 k9 jb) bare' (fun b z=>absurd z (by simp))).fw
  have J5:=at_ fly5.1 (up4.trans up5);obtain⟨ob,VN,tH,_⟩:=fly5.own;show wpAny_handleBy_cons (codeAny_handlers_test (jw J5.Wz hg hm (exm_one J5.jr (by rw[<-tH];show DI VN) hx _ _ _ _ (fun b o z=>z) (codeAny_handlers_suite_as (AH fly5.1 fly5.2.1 fly5.2.2.1 fly5.2.2.2 fun h6 fly6 up6=>ak.el (fly6.own) _ ?_))) hd)) (by intro z;cases z);rintro o6 ho6 hc6 OU w6 hw6;have K6:Inv X pins σ (upd H' ea (mS ea cls dx)) { s1 with heap:=h6 }:=by
   show(at_ fly6.1 ((up4.trans up5).trans up6)).zB XD (fun z =>?_) (fun x k e =>?_) (fun p hp =>?_) (fun b u e =>?_) (Gf ho6 hc6 OU hw6)
   ·obtain⟨m,⟨oL,_,_,e,_⟩,_⟩:=J.loc;show DN _ _ e z.symm
   ·obtain⟨v,o,e1,_⟩:=J.cell x k e;show DN _ _ e1
   ·show DN _ _ (J.pin p (by
     rcases Ub.mp hp with z|z
     ·show Uv _ z
     ·show Jr _ (Uv _ z))).1
   ·obtain⟨o',e'⟩:=J.base.there b u e (by rw[hex];simp);show DN _ _ e'
  show i7 (X:=xH X ea) (K6.Wz) hN hj (.inl IG) (v := .ref ea) rfl (fun s7 K7=>(Qbc (hh ea _ _ _ (D.gone j) K7 (ht ea XD)) (fun f s8 q8 =>?_) fun _ _ z=>QaV z)) (.inr IG);cases f with
  | next=>obtain⟨σ',H8,J8,q8⟩:=q8;show k6 (J8.RY J.ok) hN hj IG fun s9 J9=>⟨_,_,J9,q8⟩
  | brk=>obtain⟨σ',H8,J8,q8⟩:=q8;show k6 (J8.RY J.ok) hN hj IG fun s9 J9=>⟨_,_,J9,q8⟩
  | cont=>obtain⟨σ',H8,J8,q8⟩:=q8;show k6 (J8.RY J.ok) hN hj IG fun s9 J9=>⟨_,_,J9,q8⟩
  | ret u=>obtain⟨v,σ',H8,J8,r,q8⟩:=q8;show k6 (J8.RY J.ok) hN hj IG fun s9 J9=>⟨v,_,_,J9,r,q8⟩
end
section
variable {P:Qac}{w:Qag}{K:Ja}{mg:Str->Option Fk}{base:Heap}
def eC.UE {st:QcU}{f:KE}{fd:Qal}{N ps:List Str}{k:Nat}{sp:Sp}(F:eC K x qual st f fd)(S:aD N ps (ai st))(len:∀vs H Q E,sp vs H Q E->vs.length=ps.length)
  (sy:∀gF A outer s H vs Q E,dw k (A.deeper (Qb5 qual (ai st) s.heap.objs.size f gF))->sp vs H Q E ->
   ∃t,yj (oJ (xj P w base) P w K mg base N qual (ai st) f gF A outer s H E) (bQ st) t/\t { nx:=fun _ H'=>Q .non H',rt:=Q } (start N vs) H):aU P w K mg base (xj P w base) (k+1) f fd ps sp:=by
 show ak.el (F.ex) _ ?_;rintro oc od kV doc pm an gF ct xP rfl lk Ah;show Lf lk Ah S len fun A outer s H vs Q E hr wR=>sy gF A outer s H vs Q E hr wR
structure HV (P:Qac)(w:Qag)(K:Ja)(mg:Str->Option Fk)(base:Heap)(k:Nat)(x:Str)(ps:List Str)(sp:Sp):Prop where
 ex:∃f fd,aU P w K mg base (xj P w base) k f fd ps sp/\Binds K fd ps []/\Yj K (.ref f)=true/\mg x=some (.ref f)
def HV.mono {x:Str}{ps:List Str}{sp:Sp}(F:HV P w K mg base j x ps sp)(h:j<=k):HV P w K mg base k x ps sp:=by
 show ak.el (F.ex) _ ?_;rintro f fd a b c d;show{f,fd,a.mono h,b,c,d}
def Oi {k:Nat}{x:Str}{ps:List Str}{sp:Sp}{p pos:Pos}{e:QaF}{es:List QaF}{t:TA}(F:HV X.prog X.w X.K X.mg X.base k x ps sp)(hr:dw k X.A)(hg:Gl X x)
  (ha:PA (xB X pins σ0 E') (e::es) t) (sD:(x==("__debug__" : Str))=false:=by decide) (he:Qaf (e::es) X.env=(false,QaP e X.env)::Qaf es X.env:=by rfl) (oP:(QbT pos (Qaf es X.env)).any (·.1)=false:=by rfl) :
  PE (xB X pins σ0 E') (.Call (.Name x p) (e::es) [] pos) (BQ σ0 sp E' t):=by
 show ak.el (F.ex) _ ?_;rintro f fd a b c d;show M3 a hr hg d c b ha sD he oP
end
def HV.calm {P:Qac}{w:Qag}{K:Ja}{mg:Str->Option Fk}{base:Heap}{k:Nat}{x:Str}{ps:List Str}{sp sp':Sp}(F:HV P w K mg base k x ps sp)(h:∀vs H Q E,sp' vs H Q E->sp vs H Q (fun _ _ _=>False)):Fn P w K mg base k x ps sp':=by
 show ak.el (F.ex) _ ?_;rintro f fd a b c d;show{f,fd,{fun vs H Q E q=>a.len _ _ _ _ (h _ _ _ _ q),fun A outer s H args us vs Q E hr he hb hv hs=>Qcw (a.run A outer s H args us vs Q _ hr he hb hv (h _ _ _ _ hs)) fun r s' q =>?_},b,c,d};cases r with
 | error e=>obtain⟨_,_,_,_,_,_,_,_,_,_,_,_,_,_,_,z⟩:=q;show z
 | ok fl=>cases fl<;>show q
open PySem.Calls Builtin Builtin.ObjectAttr Builtin.Getset_descriptor
def ExcAt (e C:KE)(h:Heap):Prop:=∃o,h.get? e=some o/\o.cls = .ref C
structure kS (K:Frag)(C:KE):Prop where
 cl:(Qe5 K C).isSome=true
 ga:findIn K (.ref C) "__getattribute__" = some (some (.builtin "BaseException.__getattribute__"))
 gt:findIn K (.ref C) "__getattr__" = some none
 ca:findIn K (.ref C) "__class__" = some (some (.builtin "object.__class__"))
 cg:specialIn K (.builtin "object.__class__") "__get__" = some (some (.builtin "getset_descriptor.__get__"))
 ct:takesIn K (.builtin "object.__class__")=some true
 mo:mroIn K C (.type "object")=some true
 mb:mroIn K C (.type "BaseException")=some true
section
variable {K:Frag}{e C:KE}
def jj {h:Heap}(p:ExcAt e C h):Looks M h (typeOf (.ref e)) (.ref C):=by
 obtain⟨o,h1,h2⟩:=p;show h2▸(Looks.ld h1).andThen .now
def GI {h:Heap}{self:Fk}(X:K.In h)(O:kS K C):Looks M h (find self (.ref C) "__class__") (.bind (.builtin "getset_descriptor.__get__") (.builtin "object.__class__")):=by
 have d:Looks M h (dataDescriptor? (some (.builtin "object.__class__")) (some (.builtin "getset_descriptor.__get__"))) (some (.builtin "getset_descriptor.__get__",.builtin "object.__class__")):=(looks_takesIn (M:=M) X O.ct).andThen .now;show(Qcv (M:=M) X O.ca).andThen ((looks_specialIn X O.cg).andThen (d.andThen (Looks.tag .now)))
variable {prog:Qac}{w:Qag}{A:QaB}{E:Fk->Gc->Prop}{s:Gc}
def FN (X:K.In s.heap)(O:kS K C)(p:ExcAt e C s.heap)(h:R (.ok (.ret (.ref C))) s):
  QaY (Qaa prog w) A (.call (.builtin "getset_descriptor.__get__") ⟨[.builtin "object.__class__",.ref e,tp],[]⟩) R s:=by
 obtain⟨hh,g,dr,t,os⟩:=s;have T0:=jj (M:=Qaa prog w) p;have T1:=looks_mroIn (M:=Qaa prog w) X O.mo;show Qbf KF.slot_gs.plain KF.entry_gs (KF.slot_gs.check _ _ _ _ _ _ _ _ KF.type_class (KF.args_gs _ _ _) (be (tz ?_)));unfold descrGetter descrCheckInstance descrNameAndClass isInstance;simp only[KF.owner_class]
 repeat lk
 show{QcP _ ∅,(QaH KF.entry_class ?_)}
 repeat lk
 show h
def Ei {Q:Fin->Gc->Prop}(X:K.In s.heap)(O:kS K C)(p:ExcAt e C s.heap)(h:Q (.done (.ret (.ref C))) s):
  Qab (Qaa prog w) A (Builtin.«object.__getattribute__» ⟨[.ref e,.str "__class__" tk],[]⟩) Q E s:=by
 obtain⟨hh,g,dr,t,os⟩:=s;show be (tz (be (tz (be ((jj (M:=Qaa prog w) p).at (be ((GI (M:=Qaa prog w) (self := .ref e) X O).at (be (Qah (QcB (FN X O p (tz h))))))))))))
def tR {Q:Unit->Gc->Prop}(X:K.In s.heap)(O:kS K C)(p:ExcAt e C s.heap)(h:Q () s):Qab (Qaa prog w) A (checkBuiltinCall "BaseException.__getattribute__" ⟨[.ref e,nameV],[]⟩) Q E s:=by
 obtain⟨hh,g,dr,t,os⟩:=s;have T0:=jj (M:=Qaa prog w) p;have T1:=looks_mroIn (M:=Qaa prog w) X O.mb;have k1:builtinKind "BaseException.__getattribute__" = some .slot:=∅;have k2:splitId "BaseException.__getattribute__" = some ("BaseException", "__getattribute__"):=∅;simp only[checkBuiltinCall,k2]
 repeat (first|lk|wp_step)
 show h
def He (X:K.In s.heap)(O:kS K C)(p:ExcAt e C s.heap)(h:Q (some (.ref C)) { s with toks:=s.toks+1 }):Qab (Qaa prog w) A (getAttr? (.ref e) "__class__") Q E s:=by
 obtain⟨hh,g,dr,t,os⟩:=s;show be (wpAny_mkText (be (QaS (Qah (be ((jj (M:=Qaa prog w) p).at (be ((Qcv (M:=Qaa prog w) X O.ga).at (be ((Qcv (M:=Qaa prog w) X O.gt).at (be (QaS (Qah (be (tz (QcB (Qbf F.attr_ValueError.ga.plain F.entry_bexc_ga (tR X O p (Ei X O p (handed_on rfl (tz h)))))))))))))))))))))
def Gn (O:kS K C):KitX K (.ref e) (.ref C) (ExcAt e C) where
 ty:=fun _ _ _ p=>jj p
 it:=fun _ _ X _=>by
  have z:=O.cl;cases q:K.lookup C with
  | none=>simp[Qe5,q] at z
  | some o=>
   obtain⟨c1,c2,c3,c4⟩:=o;cases c3<;>simp[Qe5,q] at z
   show fun A Q E s k h=>be (Qf8 (k _ _ (X _ _ q)) (tz h))
 ne:=fun h tp dd aF n sl X htp=>Ye.mpr fun z=>by
  have z:=Value.ref.inj (beq_iff_eq.mp z);subst z;have z:=O.cl;cases q:K.lookup C with
  | none=>simp[Qe5,q] at z
  | some o=>
   cases ((X _ _ q).symm.trans htp);simp[Qe5,q] at z
 ca:=fun X p h=>He X O p h
def AU (h1:Qe5 K D=some cd)(h2:typeIn K (.ref D)=some (.type "type"))(h3:subIn K (.ref C) (.ref D)=some b)(zw:(Qaj C==Qaj D)=false):kitOne K (.ref C) (.ref D)=some b:=by
 unfold kitOne kitCls;rw[if_neg (by rw[zw];decide)];simp[h1,h2,h3]
def Iv (h1:subIn K (.ref D) (.type "BaseException")=some true)(h2:Qe5 K D=some cd)(h3:typeIn K (.ref D)=some (.type "type"))(h4:subIn K (.ref C) (.ref D)=some true):exmOne K (.ref C) (.ref D)=some true:=by
 unfold exmOne kitCls;rw[h1];simp[h2,h3,h4]
def F7 (h:Qe5 K C=some cd):(Qe5 K C).isSome=true:=by rw[h];rfl
def FF:kitOne K (.ref C) (.ref C)=some true:=by
 unfold kitOne;rw[if_pos (beq_iff_eq.mpr rfl)]
def My (h1:kitMeta T=true)(h3:subIn K (.ref C) (.type T)=some b):kitOne K (.ref C) (.type T)=some b:=by
 unfold kitOne kitCls;simp[h1,h3]
end
section
variable {X:Cx}
def cR (hg:Gl X x)(hm:X.mg x=some (.ref C))(hd:(x==("__debug__" : Str))=false:=by decide):PE X (.Name x pos) (tC (.ref C)):=vi hg hm rfl hd
def Ps:V->Option Fk
 | .ref D=>some (.ref D)
 | .ty T=>some (.type T)
 | _=>none
end
section
variable {X:Cx}
def KU:fA X (Qba .Mult) (fun x y H Q=>∃(z:Str) (n:Int),x = .str z/\y = .int n/\MulOk z n/\Q (.str (Qbx z n)) H):=by
 intro pins s σ H x y v u Q I rx ry h;obtain⟨z,n,rfl,rfl,ok,q⟩:=h;obtain⟨t,rfl⟩:=rx;obtain⟨t',rfl⟩:=ry;show SB.mul ok fun t' k=>{.str _,H,I.tok _,{_,rfl},q}
def Qa:R2:=fun x y H Q=>LB x y H Q\/∃(z:Str) (n:Int),x = .str z/\y = .int n/\MulOk z n/\Q (.str (Qbx z n)) H
def Ma:fA X (Qba .Mult) Qa:=j3.or KU
def pC {z:Str}{n:Int}(h1:z.length<=1000)(h2:n<=1000)(h3: -1000<=n):MulOk z n:=by
 show{?_,fun a _ =>?_,fun a _ =>?_}
 ·rw[decide_eq_false ⋯,decide_eq_false ⋯];rfl
 ·have:(1000:Int)<=(2^63-1) / n:=by
   rw[Qgp ⋯];lia
  lia
 ·have:z.length*n.toNat<=1000*1000:=Nat.mul_le_mul h1 ⋯;change decide (_>W1)=false;simp;show Jf this ∅
end
def oneMore {K:Type}[DecidableEq K](D:List K)(k:K):List K:=if k∈D then D else D++[k]
def b8 {K:Type}[DecidableEq K](ks:Nat->K):Nat->List K
 | 0=>[]
 | i+1=>oneMore (b8 ks i) (ks i)
def mr {K:Type}[DecidableEq K](ks:Nat->K):∀i,(b8 ks i).length<=i
 | 0=>Je _
 | i+1=>by
  have:=mr ks i;unfold b8 oneMore
  split
  ·lia
  ·rw[Jn];show Wd this
section
variable {prog:Qac}{w:Qag}{K:Type}[DecidableEq K]{knd:QbH prog w K}
def nK (knd:QbH prog w K)(h:Heap)(a:KE)(D:List K):Prop:=h.SetOf knd a (fun k=>decide (k∈D)) D.length
def nK.at' {h h':Heap}{a:KE}{D:List K}(x:nK knd h a D)(k:∀o,h.get? a=some o->h'.get? a=some o):nK knd h' a D:=by
 obtain⟨o,es,ep,t,e,r⟩:=x;show{o,es,ep,t,k _ e,r}
variable {A:QaB}{R:Qb6->Gc->Prop}{I:KE}{fp wr:List KE}{G:Array Qfa->Array Qfa->Prop}{n:Nat}{P:Nat->Fk->Prop}{St:Nat->Gc->Prop}
end
abbrev qg (led:Bool):Obj:={ cls := .type "set",dict:=none,data := .set #[] 0 (.fresh 0 0 led) }
def Up (xs:List Nat):Prop:=xs.Pairwise (· < ·)
def Up.lt {xs:Array Nat}(h:Up xs.toList){i j:Nat}(hj:j<xs.size)(wN:i<j):xs[i]<xs[j]:=by
 have:=Ut.mp h i j (by simpa using Wf wN hj) (by simpa using hj) wN;simpa using this
structure Cut (xs:Array Nat)(j p:Nat):Prop where
 le:p<=xs.size
 lo:∀i (h:i<xs.size),i<p->xs[i]<j
 hi:∀i (h:i<xs.size),p<=i->j<=xs[i]
def qv (u:Up xs.toList)(j:Nat):∀fuel lo hi,hi-lo<=fuel->lo<=hi->hi<=xs.size->(∀i h,i<lo->xs[i]<j)->(∀i h,hi<=i->j<=xs[i])->Cut xs j (Qe6 xs j fuel lo hi)
 | 0,lo,hi,hf,hl,hs,h1,h2=>by
  have e:lo=hi:=by lia
  subst e;show⟨hs,h1,h2⟩
 | fuel+1,lo,hi,hf,hl,hs,h1,h2=>by
  unfold Qe6
  by_cases jq:lo<hi
  ·rw[if_pos jq];have hm:(lo+hi) / 2<xs.size:=by lia
   have e:xs.getD ((lo+hi) / 2) j=xs[(lo+hi) / 2]:=by simp[ hm]
   dsimp only;rw[e]
   by_cases hc:xs[(lo+hi) / 2]<j
   ·rw[if_pos hc];show qv u j fuel _ _ ⋯ ⋯ hs (fun i h yI =>?_) h2
    by_cases q:i=(lo+hi) / 2
    ·subst q;show hc
    ·show Wf (u.lt hm ⋯) hc
   ·rw[if_neg hc];show qv u j fuel _ _ ⋯ ⋯ ⋯ h1 (fun i h yI =>?_)
    by_cases q:i=(lo+hi) / 2
    ·subst q;lia
    ·have:=u.lt h (show(lo+hi) / 2<i by lia);lia
  ·rw[if_neg jq];have e:lo=hi:=by lia
   subst e;show⟨hs,h1,h2⟩
def jo (u:Up xs.toList)(j:Nat):Cut xs j (QaK xs j):=
 qv u j _ _ _ ⋯ (Ue _) (Je _) (fun i h z=>absurd z (Wb _)) fun i h z=>absurd h ⋯
def Cut.next {xs:Array Nat}{p i:Nat}(u:Up xs.toList)(h:i<xs.size)(c:Cut xs (xs[i]+1) p):p=i+1:=by
 have h1:¬p<i+1:=fun z=>by have:=c.hi i h ⋯;lia
 have h2:¬i+1<p:=fun z=>by
  have hs:i+1<xs.size:=by have:=c.le;lia
  have a:=c.lo (i+1) hs z;have b:=u.lt hs (Yz i);lia
 lia
def eB (t:Qdc):Prop:=t.dummies = #[]/\Up t.place.toList
def Af:eB (SetTable.fresh a b led):=⟨rfl,Qfp⟩
def jN (t:Qdc)(n:Nat):eB (t.standIn n):=⟨rfl,by
 change List.Pairwise _ (Array.range n).toList;rw[Array.toList_range];show Qf1⟩
def has_none (j:Nat):Qfh #[] j=false:=by
 unfold Qfh;simp
def Ch (g:eB t)(j:Nat):t.slot j = .empty\/∃i,t.slot j = .live i:=by
 unfold SetTable.slot;dsimp only
 split
 ·show .inr {_,rfl}
 ·rw[g.1,has_none];show .inl rfl
def Dx {t:Qdc}(g:eB t){j:Nat}(h:t.slot j = .empty):j∉t.place.toList:=fun hm=>by
 obtain⟨i,hi,e⟩:=Yk.mp hm;have yI:i<t.place.size:=by simpa using hi
 have e':t.place[i]=j:=by simpa using e
 have c:=jo g.2 j;have hp:QaK t.place j=i:=by
  have h1:¬i<QaK t.place j:=fun z=>by have:=c.lo i yI z;lia
  have h2:¬QaK t.place j<i:=fun z=>by
   have hs:QaK t.place j<t.place.size:=by lia
   have a:=c.hi _ hs (Je _);have b:=g.2.lt yI z;lia
  lia
 unfold SetTable.slot at h;dsimp only at h;rw[hp,Jz yI,e'] at h;simp at h
def rW (g:eB t){h:Int}{j:Nat}{d:Option Nat}:∀fuel p,p.dummy=none->Qdo t (fun _=>h+1) h fuel p=some (.empty j d)->t.slot j = .empty/\d=none
 | 0,p,hp,e=>by unfold Qdo at e;cases e
 | fuel+1,p,hp,e=>by
  unfold Qdo at e
  rcases Ch g p.j with q|⟨i,q⟩
  ·rw[q] at e;cases e;show⟨q,hp⟩
  ·rw[q] at e;dsimp only at e;rw[if_neg (by rw[beq_iff_eq];lia)] at e;show rW g fuel _ ?_ e;unfold SetTable.advance
   split
   ·show hp
   ·show hp
def HL (g:eB t){j:Nat}(h:t.slot j = .empty):eB (t.put j).1:=by
 have c:=jo g.2 j;show{?_,?_}
 ·change(if Qfh t.dummies j=true then _ else t.dummies) = #[];rw[g.1,has_none,if_neg Js]
 ·change Up (SetTable.insertAt t.place _ j).toList;rw[SetTable.toList_insertAt];have u:=g.2;show Y2.mpr {QcW (List.take_sublist _ _) u,List.pairwise_cons.mpr {fun x hx =>?_,QcW (List.drop_sublist _ _) u},fun x hx y hy =>?_}
  ·obtain⟨i,hi,e⟩:=Yk.mp hx;have yI:QaK t.place j+i<t.place.size:=by rw[Ug] at hi;simp at hi;lia
   have:=c.hi _ yI (Ua _ _);have e':t.place[QaK t.place j+i]=x:=by simpa using e
   have zw:j≠x:=fun z=>(Dx g h) (by rw[z];show Yl hx);lia
  ·have ZC:x<j:=by
    obtain⟨i,hi,e⟩:=Yk.mp hx;rw[J3] at hi;have yI:i<t.place.size:=by simp at hi;lia
    have:=c.lo i yI ⋯;have e':t.place[i]=x:=by simpa using e
    lia
   rcases Jq.mp hy with rfl|hy
   ·show ZC
   ·obtain⟨i,hi,e⟩:=Yk.mp hy;have yI:QaK t.place j+i<t.place.size:=by rw[Ug] at hi;simp at hi;lia
    have:=c.hi _ yI (Ua _ _);have e':t.place[QaK t.place j+i]=y:=by simpa using e
    lia
def Kd (g:eB t)(n:Nat):eB (t.orStandIn n):=by
 unfold Qf0
 split
 ·show g
 ·show jN t n
def FU (g:eB t)(es:Array (Int×Fk))(h:Int)(x:Fk):eB (layNew t es h x).2.1/\(layNew t es h x).2.1.led=t.led:=by
 unfold layNew
 split
 ·rename_i slot wasDummy hs;dsimp only;have Ba:t.slot slot = .empty:=by
   unfold SetTable.freeSlot at hs
   split at hs
   ·rename_i j d hp;obtain⟨h1,h2⟩:=rW g _ _ rfl hp;subst h2;cases hs;show h1
   ·cases hs
  show{Kd (HL g Ba) _,?_};unfold Qf0
  split<;>rfl
 ·show{jN t _,rfl}
def qC {β:Type}(f:Nat->Option β):∀l,List.Sublist ((l.filterMap fun j=>(f j).map (j, ·)).map (·.1)) l
 | []=>List.Sublist.refl _
 | j::l=>by
  rw[Y6];cases f j with
  | none=>show List.Sublist.cons _ (qC f l)
  | some b=>show List.Sublist.cons_cons _ (qC f l)
def Ck {led plain:Bool}{hs:Array Int}{t:Qdc}{order:Array Nat}(e:SetTable.laid mask finger moves led plain hs=some (t,order)):eB t/\t.led=led:=by
 unfold SetTable.laid at e;cases q:SetTable.layClean mask hs with
 | none=>rw[q] at e;cases e
 | some owner=>
  rw[q] at e;cases e;show{{rfl,(QcW (qC _ _) Qf1)},rfl}
def Am (es:Array (Int×Fk))(n:Nat):eB (Qek t es n).2.1/\(Qek t es n).2.1.led=t.led:=by
 unfold Qek
 split
 ·rename_i t' order hr;dsimp only
  split
  ·unfold SetTable.relaid at hr;show Ck hr
  ·show{jN t _,rfl}
 ·show{jN t _,rfl}
section
variable {prog:Qac}{w:Qag}{K:Type}[DecidableEq K]{knd:QbH prog w K}{A:QaB}{E:Fk->Gc->Prop}{s:Gc}{a:KE}
def nB (w:Qag)(h:Heap)(a:KE):Prop:=∃o es ep t,h.get? a=some o/\o.data = .set es ep t/\eB t/\(w.params.followText "set-order" = false->t.led=true)
def nB.at' (x:nB w h a)(k:∀o,h.get? a=some o->h'.get? a=some o):nB w h' a:=by
 obtain⟨o,es,ep,t,e,r⟩:=x;show{o,es,ep,t,k _ e,r}
def dY (knd:QbH prog w K)(h:Heap)(a:KE)(D:List K):Prop:=nK knd h a D/\nB w h a
def ya (ho:s.heap.get? a=some o)(hd:o.data = .set es ep t){Es:Array (Int×Fk)}{t':Qdc}(g:eB t')(l:w.params.followText "set-order" = false->t'.led=true):
  (s.heap.update a (Qem Es t')).get? a=some { o with data := .set Es (ep+1) t' } /\ nB w (s.heap.update a (Qem Es t')) a:=by
 have e:=J4 (Qem Es t') ho (by rw[putSet_of Es t' hd];rfl);rw[putSet_of Es t' hd] at e;show{e,_,_,_,_,e,rfl,g,l}
def zC {k:K}{x:Fk}{Q:Bool->Gc->Prop}(hk:knd.is k x=true)(hx:x.scannable=true)(S:dY knd s.heap a D)(room:D.length+1<Qft)
  (fin:∀b h',U6 a s.heap h'->dY knd h' a (oneMore D k)->Q b { s with heap:=h' }):Qab (Qaa prog w) A (setAddHashed a x (knd.hash k)) Q E s:=by
 obtain⟨HK,o',Es,ep',t',wK,DZ,gt',ld'⟩:=S;obtain⟨o,es,ep,t,ho,ex,hd,el,mem,bnd,fit,len⟩:=id HK;obtain⟨gt,ld⟩:eB t/\(w.params.followText "set-order" = false->t.led=true):=by
  rw[ho] at wK;cases wK;rw[hd] at DZ;cases DZ;show⟨gt',ld'⟩
 show Qah (be (QaN ho hd fit ?_));dsimp only;rw[(byScan_of hx bnd el),if_pos rfl];show be (be (Qbj (be (wpAny_setScan_of hk ho hd fit el ?_))));have RH:∀b {s1:Gc} {Q':Unit->Gc->Prop},Q' () s1->Qab (Qaa prog w) A (match b with|true=>rule "set.scan.the-table-gave-way" | false=>pure ()) Q' E s1:=fun b s1 Q' q=>by
  cases b
  ·show tz q
  ·show Qbj q
 cases hr:es.toList.findIdx? (fun e=>knd.is k e.2) with
 | some j=>
  obtain⟨hj,hp,_⟩:=List.findIdx?_eq_some_iff_getElem.mp hr;show tz (tz ?_);have q:=fin false s.heap (U6.refl a s.heap) (by
   unfold oneMore;rw[if_pos (of_decide_eq_true ((mem k).mpr ⟨_,Uc hj,hp⟩))];show⟨HK,_,_,_,_,ho,hd,gt,ld⟩)
  show q
 | none=>
  have Nh:k∉D:=fun z=>by
   obtain⟨e,he,hp⟩:=(mem k).mp (decide_eq_true z);have:=List.findIdx?_eq_none_iff.mp hr e he;rw[hp] at this;cases this
  have more:∀k',decide (k'∈oneMore D k)=(decide (k'∈D)||decide (k'=k)):=fun k'=>by
   unfold oneMore;rw[if_neg Nh];simp[]
  obtain⟨g1,l1⟩:=FU gt es (knd.hash k) x;have pm:=layNew_perm t es (knd.hash k) x;have ft:=layNew_fits t es (knd.hash k) x;generalize layNew t es (knd.hash k) x=L at g1 l1 pm ft ⊢;obtain⟨es1,t1,dummy,gv⟩:=L;rw[Qcd] at pm;have Xa:=(el.push hk hx).perm pm;have Rq:∀k',decide (k'∈oneMore D k)=true ↔ ∃e∈es1.toList,knd.is k' e.2=true:=fun k'=>by
   rw[more];show mem_push_iff hk mem pm k'
  have O8:es1.size=(oneMore D k).length:=by
   unfold oneMore;rw[if_neg Nh,<-Uj,pm.length_eq,Jn,Jn,Uj,len];rfl
  have Me:(oneMore D k).length=D.length+1:=by
   unfold oneMore;rw[if_neg Nh,Jn];rfl
  have QL:es1.size<Qft:=by lia
  have S4:=fun z=>l1.trans (ld z);have tail:∀t2,eB t2->(w.params.followText "set-order" = false->t2.led=true)->t2.fits es1.size=true->∀c,
    Qab (Qaa prog w) A (do
     storeSet a es1 t2
     if c=true then do
       (match (Qek t2 es1 (QbK es1.size)).2.2 with|true=>rule "set.scan.the-table-gave-way" | false=>pure ())
       storeSet a (Qek t2 es1 (QbK es1.size)).1 (Qek t2 es1 (QbK es1.size)).2.1
       pure (some true)
      else pure (some true)) (fun r s'=>r=some true/\∃h',s'={ s with heap:=h' } /\ U6 a s.heap h'/\dY knd h' a (oneMore D k)) E s:=by
   show fun t2 g2 ld2 ft2 c=>be (wpAny_storeSet_of ho hd ?_ (Qe3 QL));obtain⟨e1,gs1⟩:=ya ho hd g2 ld2;have Ib:=U6.update s.heap a (Qem es1 t2);cases c with
   | false=>
    show tz {rfl,_,rfl,Ib,{_,_,_,_,e1,ex,rfl,Xa,Rq,QL,ft2,O8},gs1}
   | true=>
    have Ia:=relayAll_perm t2 es1 (QbK es1.size);have UO:=relayAll_fits t2 es1 (QbK es1.size);obtain⟨g3,l3⟩:=Am es1 (QbK es1.size);generalize Qek t2 es1 (QbK es1.size)=L2 at Ia UO g3 l3 ⊢;obtain⟨es2,t3,gv2⟩:=L2;dsimp only at Ia UO g3 l3 ⊢;have Qi:es2.size=es1.size:=by rw[<-Uj,Ia.length_eq,Uj]
    show be (RH _ (be (wpAny_storeSet_of e1 rfl ?_ (Qe3 ⋯))));obtain⟨e2,gs2⟩:=ya (s:={ s with heap:=s.heap.update a (Qem es1 t2) }) e1 rfl g3 (fun z=>l3.trans (ld2 z));show tz {rfl,_,rfl,Ib.trans (U6.update _ a _),{_,_,_,_,e2,ex,rfl,Xa.perm Ia,fun k'=>(Rq k').trans {fun hz_=>ak.el hz_ _ fun e he q=>{e,Ia.mem_iff.mpr he,q},fun hz_=>ak.el hz_ _ fun e he q=>{e,Ia.mem_iff.mp he,q}},⋯,UO,Qi.trans O8},gs2}
  have out:∀r s',(r=some true/\∃h',s'={ s with heap:=h' } /\ U6 a s.heap h'/\dY knd h' a (oneMore D k))->Qab (Qaa prog w) A (match r with|some added=>pure added|none=>setAddHashedIn a x (knd.hash k) 99999) Q E s':=by
   rintro r s' ⟨rfl,h',rfl,sb,sk⟩;show tz (fin true h' sb sk)
  show be (RH _ ?_);cases oP:t1.plain with
  | false=>
   show be (tz (Qbc (tail t1 g1 S4 ft _) (fun r s' q=>out r s' q) fun _ _ z=>z))
  | true=>
   show be ?_;rw[hashByValue_scannable 8 hx];show tz ?_;cases plainKind x with
   | true=>
    show Qbc (tail t1 g1 S4 ft _) (fun r s' q=>out r s' q) fun _ _ z=>z
   | false=>
    show Qbc (tail { t1 with plain:=false } g1 S4 (SetTable.fits_plain_off ft) _) (fun r s' q=>out r s' q) fun _ _ z=>z
def dY.at' {h h':Heap}(x:dY knd h a D)(k:∀o,h.get? a=some o->h'.get? a=some o):dY knd h' a D:=⟨x.1.at' k,x.2.at' k⟩
def GZ {k:K}{x:Fk}{Q:Fk->Gc->Prop}(hk:knd.is k x=true)(hx:x.scannable=true)(S:dY knd s.heap a D)(room:D.length+1<Qft)
  (fin:∀h',U6 a s.heap h'->dY knd h' a (oneMore D k)->Q .none { s with heap:=h',toks:=s.toks+1 }):Qab (Qaa prog w) A (call (.builtin "set.add") [.ref a,x]) Q E s:=by
 show Qaq F.slot_set_add (show s.heap.SetOf knd a _ _ from S.1).typeIs F.entry_set_add ?_ (F.args_set_add_2 _ _);unfold Builtin.«set.add» Builtin.Frozenset.oneOther QdW setAdd;simp only[List.isEmpty_nil,bind_assoc];show be (tz (be (tz (be (Qah (be (knd.pyHash hk (zC hk hx S room fun b h' sb sk=>tz {_,rfl,fin h' sb sk}))))))))
end
structure qt (P:Qac)(w:Qag)(K:Type)[DecidableEq K] where
 knd:QbH P w K
 v:K->V
 ok:∀k u,RelV (v k) u->knd.is k u=true/\u.scannable=true
def K5 (P:Qac)(w:Qag):qt P w Str:=⟨strKind P w,V.str,fun k u r=>by obtain⟨t,rfl⟩:=r;show⟨strKind_is _ _ _ _,rfl⟩⟩
def Cu (P:Qac)(w:Qag):qt P w Int:=⟨intKind P w,V.int,fun k u r=>by obtain⟨t,rfl⟩:=r;show⟨intKind_is _ _ _ _,rfl⟩⟩
def iw {K:Type}[DecidableEq K](kv:qt P w K)(a:KE)(D:List K):HO := .ext fun h=>dY kv.knd h a D
def Br {K:Type}[DecidableEq K]{kv:qt P w K}{a:KE}{D:List K}{H:Hp}{h:Heap}(x:dY kv.knd h a D):bB P w H h a (iw kv a D):=by
 obtain⟨o,es,ep,t,e,rest⟩:=x.1;show{x,⟨o,e⟩,fun h1 h2 y k=>dY.at' y k}
section
variable {prog:Qac}{w:Qag}{A:QaB}{R:Qb6->Gc->Prop}{s:Gc}
def yf {ex target iter:QaF}{ifs:List QaF}{scope:QbU}{pos:Pos}{it:Fk}{D:KE}{env:Env}(I:Nat->Gc->Prop)
  (turn:∀n s,I n s->Qab (Qaa prog w) A (QbR it) (fun r s1=>match r with
   | none=>R (.ok .next) s1
   | some v=>Qab (Qaa prog w) A (QcT target it v) (fun _ s1'=>Qab (Qaa prog w) A (Qgc target env v) (fun _ s2=>
     Qab (Qaa prog w) A (qh ifs env) (fun ok s3=>
      if ok=true then Qab (Qaa prog w) A (QaP ex env) (fun ev s4=>Qab (Qaa prog w) A (call (.builtin "set.add") [.ref D,ev]) (fun _ s6=>∃m,m<n/\I m s6) oC s4) oC s3
      else ∃m,m<n/\I m s3) oC s2) oC s1') oC s1) oC s)
  (n:Nat) (h:I n s):QaY (Qaa prog w) A (.compLoop (.SetComp ex [⟨target,iter,ifs,0⟩] scope pos) 0 it (.ref D) env) R s:=by
 show codeAny_loop rfl I (fun n s hI=>(show Qab _ A (Sem.onRaise (compTurn (.SetComp ex [{target,iter,ifs,0}] scope pos) 0 it (.ref D) env) (fun x=>do Qc5 x env;QfV x)) _ _ s from wpAny_noted (be (Qbe (be (cT (bg (turn n s hI) fun r s1 h1 =>?_))))))) n h;cases r with
 | none=>show tz h1
 | some v=>
  show be (cT (bg h1 fun _ s1' LH=>be (cT (bg LH fun _ s2 h2=>be (cT (bg h2 fun ok s3 h3 =>?_))))));cases ok with
  | false=>show tz ⟨rfl,h3⟩
  | true=>
   show be (be (cT (bg h3 fun ev s4 h4=>be (Qbe (be (cT (bg h4 fun _ s6 h6=>tz (tz ⟨rfl,h6⟩))))))))
def xF {ex target iter ifs rest scope pos it acc env}(h0:QaY (Qaa prog w) A (.compLoop (.SetComp ex (⟨target,iter,ifs,0⟩::rest) scope pos) 0 it acc env) R s)
  (h:Qab (Qaa prog w) A (Qfu it) (fun it' s'=>QaY (Qaa prog w) A (.compLoop (.SetComp ex (⟨target,iter,ifs,0⟩::rest) scope pos) 0 it' acc env) R s') (notedBy (Qaa prog w) A env fun x s'=>R (.error x) s') s) :
  QaY (Qaa prog w) A (.compStart (.SetComp ex (⟨target,iter,ifs,0⟩::rest) scope pos) 0 it acc env) R s:=by
 show codeAny_of_tree (show Qab _ A ((compStart (.SetComp ex ({target,iter,ifs,0}::rest) scope pos) 0 it acc env).onRaise (fun x=>do Qc5 x env;standAt theWindowsPlace)) _ _ s from wpAny_notedAt (be (Qbd (Qbs ?_))))
 split
 ·first
   | show be (tz (tz ⟨rfl,h0⟩))
   | show tz ⟨rfl,h0⟩
 ·show be (Qbj ?_);show be (Qbe (be (Qbc h (fun it' s' h'=>tz ⟨rfl,h'⟩) fun _ _ x=>x)))
end
section
variable {X:Cx}{pins:List (KE×Obj)}{σ:St}{H:Hp}{s:Gc}{a:KE}{u:Fk}{A:QaB}{E:Fk->Gc->Prop}{K:Type}[DecidableEq K]{kv:qt X.prog X.w K}
def Qb (I:Inv X pins σ H s)(e:H a=some (iw kv a D))(l:D.length<=4000)(ry:RelV (kv.v k) u)
  (h:∀v s',Inv X pins σ (upd H a (iw kv a (oneMore D k))) s'->Q v s'):Qab (Qaa X.prog X.w) A (call (.builtin "set.add") [.ref a,u]) Q E s:=by
 obtain⟨h1,h2⟩:=kv.ok k u ry;show GZ h1 h2 ((show bB X.prog X.w H s.heap a (iw kv a D) from I.bw a _ e).1) (by unfold Qft;lia) fun h' sb y =>?_;obtain⟨o,es,ep,t,eo,_⟩:=y.1;show h _ _ (nD I (by rw[e];show QaR) sb ⟨o,eo⟩ (Br y))
end
def GY {KT:Type}[DecidableEq KT](kv:qt P w KT)(J:It)(n:Nat)(js:List Nat)(g:TG)(tc:TT)(te:TE)(σ:St)(D:KE)(H1:Hp)(fin:Hp->Prop):Prop:=
 ∃W:Nat->Nat->Hp->Prop,(∃m,W 0 m H1)/\∀i m H,W i m H ->
  (J.stop i H/\fin H) \/
  (J.go i H/\∀x H',J.yld i H x H'->g x (Jm n none++eQ σ js) H' fun σ2 H2=>tc σ2 H2 fun b H3=>
   if b=true then te σ2 H3 fun y H4=>∃ks k,H4 D=some (iw kv D ks)/\y=kv.v k/\ks.length<=4000/\∃m',m'<m/\W (i+1) m' (upd H4 D (iw kv D (oneMore ks k))) else ∃m',m'<m/\W (i+1) m' H3)
def Mb {KT:Type}[DecidableEq KT](kv:qt P w KT)(wi:TI)(n:Nat)(js:List Nat)(g:TG)(tc:TT)(te:TE):TE:=fun σ H Q=>wi σ H fun J H1=>∀D,H1 D=none->GY kv J n js g tc te σ D (upd H1 D (iw kv D [])) fun H2=>Q (.ref D) H2
def IP {s:Gc}{Q:Fk->Gc->Prop}{E:Fk->Gc->Prop}(h:∀led,(w.params.followText "set-order" = false->led=true)->Q (.ref s.heap.objs.size) { s with heap:=s.heap.push (qg led) }):Qab (Qaa prog w) A (newSet (.type "set")) Q E s:=
 be (be (Qbd (tz (be (wpAny_alloc (tz (h _ fun z=>by change(!w.params.followText "set-order")=true;rw[z];rfl)))))))
def y7 {K:Type}[DecidableEq K]{knd:QbH prog w K}{h:Heap}{a:KE}{led:Bool}(e:h.get? a=some (qg led)):nK knd h a []:=
 (setObjOf_fresh (knd:=knd) led).setOf e ∅
def zy {K:Type}[DecidableEq K]{knd:QbH prog w K}{h:Heap}{a:KE}{led:Bool}(l:w.params.followText "set-order" = false->led=true)(e:h.get? a=some (qg led)):dY knd h a []:=⟨y7 e,_,_,_,_,e,rfl,Af,l⟩
def AF {KT:Type}[DecidableEq KT](kv:qt X.prog X.w KT){ex tg iter:QaF}{ifs:List QaF}{scope:QbU}{pos:Pos}{Nc Fc:List Str}{js:List Nat}{wi:TI}{g:TG}{tc:TT}{te:TE}{use:Option (Fk->Sem Unit)}{QV:Fk->Gc->Prop}
  (gE:X.calm=true) (c:hW X scope Nc Fc js) (hi:PI X tg iter wi)
  (hg:∀cl C s H fp,PG (mG X Nc Fc scope cl C s H fp) tg g) (CD:∀cl C s H fp,Kr (mG X Nc Fc scope cl C s H fp) ifs tc) (EW:∀cl C s H fp,PE (mG X Nc Fc scope cl C s H fp) ex te) (gk:Gk Nc.length g)
  {pins:List (KE×Obj)} {s:Gc} {σ:St} {H:Hp} {fin:KE->Hp->Prop} (I:Inv X pins σ H s)
  (h:wi σ H fun J H1=>∀D,H1 D=none->GY kv J Nc.length js g tc te σ D (upd H1 D (iw kv D [])) (fin D))
  (behind:∀(C D:KE) (m:Str->Option Fk) (H2:Hp) (s2:Gc),Inv X pins σ H2 s2->s2.heap.Ns C m->hM X pins H2 C->fin D H2->Qe4 (Qaa X.prog X.w) X.A X.xe use QV (.ref D) C (.ok .next) s2)
  (hs:∀x,Qbi iter X.env x=pure x) :
  Qab (Qaa X.prog X.w) X.A (comprehension (.SetComp ex [⟨tg,iter,ifs,0⟩] scope pos) scope X.env (firstIterPos [⟨tg,iter,ifs,0⟩] pos) (newSet (.type "set")) false (QaP iter X.env) use) QV X.xe s:=by
 obtain⟨cl,hclos,eM,lF⟩:=mj fun y hy hf=>I.ok.has y.1 (c.free y hy hf);show Qdu rfl hs hclos c.kind c.names (bg (hi s σ H _ I h) fun v s1 h1=>bg h1 fun Q0 s2 h2 =>?_);obtain⟨it,fp,tn,J,H2,e,I2,T,jz,f2,all⟩:=h2;subst e;show IP fun led hled=>(Qei c.nocell (by intro y hy;simp at hy) (fun h1 hns1 hsb1 =>?_) c.kind)
 have ER:=I2.laid (o:=iw kv s2.heap.objs.size []) (t':=s2.toks) (fun _ _ q=>Jb _ q) (Je _) (Br (zy hled (Ji _ rfl)));obtain⟨W,⟨m0,w0⟩,turn⟩:=all _ (I2.bw.fresh (Je _));have RQ:∀b∈fp,∃o,s2.heap.get? b=some o:=fun b hb=>let ⟨o,e,_⟩:=T.obj 0 _ jz b hb; ⟨o,e⟩;have tE:=fun b hb=>let ⟨o,e⟩:=RQ b hb;Jg e;generalize hG:s2.heap.push (qg led)=G at hns1 hsb1 ER ⊢;have toG:∀b o,s2.heap.get? b=some o->G.get? b=some o:=fun b o e=>hG▸Jb _ e;have hC:G.objs.size=s2.heap.objs.size+1:=by rw[<-hG,Uh]
 have old:=fun b o e=>
  hsb1.extBut b o (cw (Jg e) (Je _)) (Jb _ e)
 let D:KE:=s2.heap.objs.size
 let s2':Gc:={ s2 with heap:=G,toks:=s2.toks }
 let H2':Hp:=upd H2 D (iw kv D [])
 have Oz:∀b∈fp,hM X pins H2' b:=fun b hb=>by
  obtain⟨a1,a2⟩:=f2 b hb;show{?_,a2};change upd H2 D (iw kv D []) b=none;rw[av (Jp (tE b hb))];show a1
 have fo:∀b∈fp,∃o,s2'.heap.get? b=some o:=fun b hb=>let ⟨o,e⟩:=RQ b hb; ⟨o,toG b o e⟩;have T9:∀b∈fp,b<G.objs.size:=fun b hb=>by have:=tE b hb;rw[hC];show Qci this
 let Xc:Cx:=mG X Nc Fc scope cl G.objs.size s2' H2' fp
 have lS:∀{H':Hp},(∀b∈fp,H' b=none)->∀b∈fp,hM Xc [] H' b:=fun{H'} hn b hb=>by
  show{hn b hb,?_,?_,.inl hb,fun x a e =>?_,fun p hq =>?_}
  ·show cw (T9 b hb) (Je _)
  ·show(rn ER c eM lF (Je _) Oz fo).exfs b hb
  ·show(f2 b hb).2.2.2.2.1 x a (eM _ _ e)
  ·have q:p∈([]:List (KE×Obj))++[]:=hq;simp at q
 have loop:∀t1,QaY (Qaa X.prog X.w) X.A (.compLoop (.SetComp ex [⟨tg,iter,ifs,0⟩] scope pos) 0 (.ref it) (.ref s2.heap.objs.size) (compEnvC scope cl G.objs.size X.env))
   (Qe4 (Qaa X.prog X.w) X.A X.xe use QV (.ref s2.heap.objs.size) G.objs.size) { s2 with heap:=h1,toks:=t1 }:=by
  show fun t1=>yf (fun n s'=>∃i H',Inv Xc [] (Jm Nc.length none++eQ σ js) H' s'/\tn i s'.heap/\(∀b∈fp,H' b=none)/\W i n H') ?_ m0
   ⟨0,H2',ye ER c eM lF (Je _) Oz fo old hns1,T.keep _ _ _ jz (fun b hb o e=>old b o (toG b o e)),fun b hb=>(Oz b hb).1,w0⟩
  show fun n s3 hz_=>ak.el hz_ _ ?_;rintro i H3 I3 eF fr3 w3
  rcases turn i n H3 w3 with ⟨stop,qn⟩|⟨go,step⟩
  ·show bg (T.done Xc rfl rfl rfl gE i _ s3 _ H3 oC I3 (lS fr3) eF stop) fun r s4 ⟨hr,I4⟩=>?_;subst hr;show ak.el (I4.loc) _ ?_;rintro mC hmC _;have u:=I4.base;have uK:∀b∈fp,(b∈X.ex\/X.s₀.heap.objs.size<=b)/\b≠X.env.locals/\(∀x c,X.env.cells.lookup x=some c->c≠b)/\∀p∈X.pn++pins,p.1≠b:=fun b hb=>
    ⟨(f2 b hb).2.2.2.1,(f2 b hb).2.1,(f2 b hb).2.2.2.2.1,(f2 b hb).2.2.2.2.2⟩
   show behind G.objs.size D mC H3 s4 (ER.Bq I4.os u I4.bw I4.bare uK) hmC (ER.fN (Je _) I4.free) qn
  ·show bg (T.item Xc rfl rfl rfl gE i _ s3 _ H3 oC I3 (lS fr3) eF go) fun r s4 hz_=>ak.el hz_ _ fun u hr h4 =>?_;subst hr;show bg h4 fun _ s5 hz_=>ak.el hz_ _ fun x H5 I5 r5 y5 cB fr5=>bg (hg cl G.objs.size s2' H2' fp s5 _ H5 x u _ (I5.pinned (lS fr5) (T.obj _ _ cB)) r5 (gk _ _ _ _ (step x H5 y5))) fun _ s6 hz_=>ak.el hz_ _ fun σ6 H6 I6 q6 kσ kl=>bg (CD cl G.objs.size s2' H2' fp s6 σ6 H6 _ I6 q6) fun b s7 hz_=>ak.el hz_ _ fun H7 I7 q7 =>?_;have later:∀{σ':St} {H':Hp} {s':Gc},Inv Xc ([]++iI fp s5.heap) σ' H' s'->tn (i+1) s'.heap/\∀b∈fp,H' b=none:=fun{σ' H' s'} Iz=>by
    show{T.keep _ _ _ cB fun b hb o e=>(Iz.pin (b,o) (Jr _ (Jr _ (dG hb e)))).1,fun b hb=>ak.el (T.obj _ _ cB b hb) _ ?_};rintro o e d;show(Iz.pin (b,o) (Jr _ (Jr _ (dG hb e)))).2.1
   have back:∀{pl:List (KE×Obj)} {H':Hp} {s':Gc},Inv Xc pl σ6 H' s'->Inv Xc pl (Jm Nc.length none++eQ σ js) H' s':=fun{pl H' s'} Iz=>by
    show Iz.weak (by rw[<-kl]) fun j v hj =>?_
    by_cases hn:j<Nc.length
    ·rw[Uy (by simpa using hn),Yr] at hj
     split at hj<;>cases hj
    ·rw[kσ j ⋯];show hj
   cases b with
   | false=>
    rw[if_neg Js] at q7 ⊢;show ak.el (q7) _ ?_;rintro m' yZ w7;obtain⟨l1,l2⟩:=later I7;show{m',yZ,i+1,H7,back I7.fw,l1,l2,w7}
   | true=>
    show bg (EW cl G.objs.size s2' H2' fp s7 σ6 H7 _ I7 q7) fun yv s8 hz_=>ak.el hz_ _ fun y H8 I8 r8 q8=>ak.el (q8) _ ?_;rintro ks k eD ey hl m' yZ w9;subst ey;show Qb (X:=Xc) I8 eD hl r8 fun _ Ld I10 =>?_;obtain⟨l1,l2⟩:=later I10;show{m',yZ,i+1,_,back I10.fw,l1,l2,w9}
 show xF (loop _) (T.self _ 0 _ _ _ (T.keep _ _ _ jz fun b hb o e=>old b o (toG b o e)) (loop _))
def xf {KT:Type}[DecidableEq KT](kv:qt X.prog X.w KT){ex tg iter:QaF}{ifs:List QaF}{scope:QbU}{pos:Pos}{Nc Fc:List Str}{js:List Nat}{wi:TI}{g:TG}{tc:TT}{te:TE}
  (gE:X.calm=true) (c:hW X scope Nc Fc js) (hi:PI X tg iter wi) (gk:Gk Nc.length g)
  (hg:∀cl C s H fp,PG (mG X Nc Fc scope cl C s H fp) tg g) (CD:∀cl C s H fp,Kr (mG X Nc Fc scope cl C s H fp) ifs tc) (EW:∀cl C s H fp,PE (mG X Nc Fc scope cl C s H fp) ex te)
  (hs:∀x,Qbi iter X.env x=pure x:=by intro _;rfl) :
  PE X (.SetComp ex [⟨tg,iter,ifs,0⟩] scope pos) (Mb kv wi Nc.length js g tc te):=
 fun pins s σ H Q I h=>AF kv gE c hi hg CD EW gk I h (fun C D m H2 s2 I2 hm hC q=>⟨m,hm,fun h' hs'=>⟨.ref D,_,I2.turned (fun b o hb e=>hs'.extBut b o hb e) hC.1 (hC.2.1) hC.2.2.2.1 hC.2.2.2.2.1 hC.2.2.2.2.2,rfl,q⟩⟩) hs
def Ds {KT:Type}[DecidableEq KT](kv:qt X.prog X.w KT):bE X (.builtin "len") (fun xs H Q=>∃a D,xs=[.ref a]/\H a=some (iw kv a D)/\Q (.int (D.length:Nat)) H):=by
 show fun pins s σ H xs us Q I r h=>ak.el (h) _ ?_;rintro a D rfl ha q;show ak.el (vals1 r) _ ?_;rintro u rfl ru;cases ru;obtain⟨o,es,ep,t,h1,h2,h3,h4,h5,h6,h7,h8⟩:=(show bB X.prog X.w H s.heap a (iw kv a D) from I.bw a _ ha).1.1;have hb:Qft=4096:=rfl;show call_len_set h1 h2 h3 h7 ⋯ {.int (D.length:Nat),H,I.tok _,{_,by rw[h8]},q}
def yu {KT:Type}[DecidableEq KT]{kv:qt P w KT}{J:It}{n:Nat}{js:List Nat}{g:TG}{tc:TT}{te:TE}{σ:St}{D:KE}{H1:Hp}{fin:Hp->Prop}(N:Nat)(Pv:Nat->Hp->Prop)(h0:Pv 0 H1)
  (go:∀i H (Nx:Hp->Prop),i<N->Pv i H->(∀H',Pv (i+1) H'->Nx H')->J.go i H /\
   ∀x H',J.yld i H x H'->g x (Jm n none++eQ σ js) H' fun σ2 H2=>tc σ2 H2 fun b H3=>if b=true then te σ2 H3 fun y H4=>∃ks k,H4 D=some (iw kv D ks)/\y=kv.v k/\ks.length<=4000/\Nx (upd H4 D (iw kv D (oneMore ks k))) else Nx H3)
  (stop:∀H,Pv N H->J.stop N H/\fin H):GY kv J n js g tc te σ D H1 fin:=by
 show{fun i m H=>m=N-i/\i<=N/\Pv i H,{N,by simp,Ue _,h0},(fun i m H hz_=>ak.el hz_ _ ?_)};rintro rfl hi p
 by_cases jq:i<N
 ·obtain⟨g1,g2⟩:=go i H (fun H'=>∃m',m'<N-i/\(m'=N-(i+1)/\i+1<=N/\Pv (i+1) H')) jq p fun H' q=>⟨_,⋯,rfl,jq,q⟩
  show .inr {g1,fun x H' y=>g2 x H' y}
 ·have e:i=N:=by lia
  subst e;show .inl (stop H p)
section
variable {X:Cx}
def HB:Ic X "list.reverse" (fun x vs H Q=>∃l xs,x = .ref l/\vs=[]/\H l=some (.lst xs)/\∀H',Eu H l (.lst xs.reverse) H'->Q .non H'):=by
 intro pins s σ H x vs v us Q I rx rv h;obtain⟨l,xs,rfl,rfl,hH,q⟩:=h;cases rx;cases rv;obtain⟨z,aF,n,r,hl,e⟩:=I.tm hH;show QbD F.slot_list_reverse {_,e,rfl} F.entry_list_reverse (F.args_list_reverse_1 _) (AutoListH.list_reverse_list_0 l aF.toArray n (by rw[Ju];lia)) {e,{.non,_,I.JV hH e (by simp) r.rev (by rw[Qd4];lia),rfl,q _ ⟨rfl⟩}}
def u0 (hg:Gl X x)(hm:X.mg x=some (.str z t))(hd:(x==("__debug__" : Str))=false:=by decide):PE X (.Name x pos) (tC (.str z)):=vi hg hm ⟨t,rfl⟩ hd
def mZ (hg:Gl X x)(hm:X.mg x=some (.int z t))(hd:(x==("__debug__" : Str))=false:=by decide):PE X (.Name x pos) (tC (.int z)):=vi hg hm ⟨t,rfl⟩ hd
end
def nA:∀{ss:List Str} {us:List Fk},StrsAre us ss->Vals (ss.map V.str) us:=by
 intro ss us h
 induction h with
 | nil=>show .nil
 | cons _ _ _ ih=>show .cons ⟨_,rfl⟩ ih
def jT:∀{ss:List Str} {us:List Fk},Vals (ss.map V.str) us->StrsAre us ss
 | [],_,.nil =>.nil
 | _::_,_,.cons ⟨_,e⟩ t=>by subst e;show .cons _ _ (jT t)
section
variable {X:Cx}(K:Ja)
def sortedS (hK:X.K=K:=by rfl):bE X (.builtin "sorted") (fun xs H Q=>∃p ss,xs=[.ref p]/\aW K H p (ss.map V.str)/\ss.length<64 /\
  ∀ms q H',ms.Perm ss->Qa5 ms=true->jI H q (.lst (ms.map V.str)) H'->Q (.ref q) H'):=by
 subst hK;intro pins s σ H xs us Q I r h;obtain⟨p,ss,rfl,hq,hl,q⟩:=h;obtain⟨u,rfl,ru⟩:=vals1 r;cases ru;obtain⟨aF,rv,pl,hz⟩:=I.list hq;have hn:aF.length=ss.length:=by have:=rv.length;rw[Jc] at this;show this.symm
 show sorted_strs pl.isList (jT rv) ⋯ fun out ms a1 a2 a3 =>?_;obtain⟨e,he⟩:=sortedAll_at s.heap aF out;have hm:=a2.length_eq;show{.ref (s.heap.objs.size+1),_,I.laid (o := .lst (ms.map V.str)) (fun _ _=>sortedAll_old) (Yw _) {?_,out.toList,e,(nA a1),?_},rfl,q ms _ _ a2 a3 {I.bw.fresh (Yw _),rfl}}
 ·rw[Jc];show Jf (show ms.length<=64 by lia) ∅
 ·simpa [QcC] using he
end
section
variable {X:Cx}
def Px:fA X (QaC .In) (fun x y H Q=>∃a b,x = .str a/\y = .str b/\Q (.bl (Qge b a)) H):=by
 intro pins s σ H x y v u Q I rx ry h;obtain⟨a,b,rfl,rfl,q⟩:=h;obtain⟨t,rfl⟩:=rx;obtain⟨t',rfl⟩:=ry;show PySem.P.in_str {.bl _,H,I,rfl,q}
end
section
variable {X:Cx}
def qH:∀{xs:List V} {us:List Fk} j,Vals xs us->Vals (xs.eraseIdx j) (us.eraseIdx j)
 | _,_,_,.nil=>by simp;show .nil
 | _,_,0,.cons _ t=>by simpa using t
 | _,_,j+1,.cons h t=>by simpa using .cons h (qH j t)
end
def PE.weak (h:PE X e t)(w:∀ σ H Q,t' σ H Q->t σ H Q):PE X e t':=fun _ s σ H Q I q=>h s σ H Q I (w σ H Q q)
def PA.weak (h:PA X es t)(w:∀ σ H Q,t' σ H Q->t σ H Q):PA X es t':=fun _ _ s σ H Q I q=>h s σ H Q I (w σ H Q q)
def newOf (H H':Hp):Hp:=fun a=>match H a with
 | none=>H' a
 | some _=>none
def mF (h:H a=none):newOf H H' a=H' a:=by unfold newOf;rw[h]
def j9 (h:newOf H H' a=some o):H a=none/\H' a=some o:=by
 unfold newOf at h;cases e:H a with
 | none=>rw[e] at h;show⟨rfl,h⟩
 | some u=>rw[e] at h;cases h
def Hj:aq (newOf H H') H':=fun _ _ h=>(j9 h).2
def qV {H H1 H2:Hp}(s:aq H1 H2):aq (newOf H H1) (newOf H H2):=fun a o h=>by
 rw[mF (j9 h).1];show s a o (j9 h).2
def Ad (s:aq H H1):aq (newOf H1 H2) (newOf H H2):=fun a o h=>by
 rw[mF (s.free (j9 h).1)];show(j9 h).2
def MC (K:Ja)(d:Qad):TE:=fun _ H Q=>∀v H',aq H H'->Den K (newOf H H') d v->Q v H'
def B2 (K:Ja)(ds:List Qad):TA:=fun _ H Q=>∀vs H',aq H H'->a8 K (newOf H H') ds vs->Q vs H'
section
variable {X:Cx}{K:Ja}
def lit_int:PE X (.Constant (.int i) j pos) (MC K (.int i)):=ah.weak fun σ H Q h=>h _ H (aq.refl _) (by unfold Den;rfl)
def Hq:PA X [] (B2 K []):=ae.weak fun σ H Q h=>h [] H (aq.refl _) (by unfold a8;rfl)
def fC {d:Qad}{ds:List Qad}(h:PE X e (MC K d))(hs:PA X es (B2 K ds))(lR:Qaf (e::es) X.env=(false,QaP e X.env)::Qaf es X.env:=by rfl):PA X (e::es) (B2 K (d::ds)):=
 (aa h hs lR).weak fun σ H Q q v H1 s1 d1 vs H2 s2 d2=>q (v::vs) H2 (s1.trans s2) (by
  show⟨v,vs,rfl,d1.same (qV s2),d2.same (Ad s1)⟩)
def Bs:∀{ds:List Qad} {vs:List V},a8 K H ds vs->vs.length=ds.length
 | [],_,h=>by unfold a8 at h;subst h;rfl
 | d::ds,vs,h=>by
  obtain⟨v,r,rfl,h1,h2⟩:=h;rw[Jo,Jo,Bs h2]
def JG (h:PA X es (B2 K ds))(hl:ds.length<=1000:=by decide):PE X (.List es pos) (MC K (.list ds)):=
 (gq h).weak fun σ H Q q vs H1 s1 d1=>⟨Jf (by rw[Bs d1];show hl) (show 1000<=W1 by decide),fun p H' n=>q _ _ (s1.trans n.same) (by
  show⟨p,vs,rfl,aW.of (by rw[mF (s1.free n.nn)];show n.at),d1.same (qV n.same)⟩)⟩
end
structure Lv (K:Ja)(w:Qag)(a:KE):Prop where
 ex:∃es n,K.lookup a=some ⟨.type "dict",none,.dict es n,#[]⟩/\Qdh w.params es.toList
def QB (K:Ja)(w:Qag)(td ty:TE):TE:=fun σ H Q=>td σ H fun x H1=>ty σ H1 fun y H2=>∃a k u v,x = .ref a/\y = .str k/\Lv K w a/\Qfz K a k=some (some u)/\RelV v u/\Q v H2
section
variable {X:Cx}{o i:QaF}{td ty:TE}{pos:Pos}
def KZ (K:Ja)(w:Qag)(ho:PE X o td)(hi:PE X i ty)(hs:ND i)(hK:X.K=K:=by rfl)(hw:X.w=w:=by rfl):PE X (.Subscript o i pos) (QB K w td ty):=by
 subst hK hw;show fun pins s σ H Q I h=>AZ PySem.F.slot_dict_getitem.lookup hs (bg (ho s σ H _ I h) fun u s1 hz_=>ak.el hz_ _ fun x H1 I1 rx q1=>bg (hi s1 σ H1 _ I1 q1) fun iv s2 hz_=>ak.el hz_ _ ?_);rintro y H2 I2 ry ⟨a,k,u',v,ex,ey,cd,e,rv,q2⟩;subst ex ey;obtain rfl:u=Qaj a:=rx;obtain⟨t,rfl⟩:=ry;obtain⟨es,n,hl,hk⟩:=cd.ex;have hm:=PySem.W.mapOf_K (prog:=X.prog) I2.jr hl hk;show{hm.typeIs,wpAny_getItem_of (strKind_is X.prog X.w k t) hm (PySem.W.find_K hl e) {v,H2,I2.tok _,rv,q2}}
end
section
variable {X:Cx}
def QG (K:Ja):V->Option Int->Option Int->Hp->VK->Prop:=fun x lo hi H Q=>fX fun a xs=>x = .ref a/\aV K H a xs /\
 ¬(HT.eT xs.length 0 lo=0/\HT.eT xs.length xs.length hi=xs.length)/\∀p H',jI H p (.tup (kP xs lo hi)) H'->Q (.ref p) H'
def Ph (K:Ja)(hK:X.K=K:=by rfl):Ek X (QG K):=by
 subst hK;show fun pins s σ H x v vl vu lo hi sl Q I rx hs pl pu q=>Mu s σ H x v vl vu lo hi sl Q I rx hs pl pu ?_;obtain⟨a,xs,e,h,nw,q⟩:=q;show{a,xs,e,h,nw,fun p hp=>q p _ ⟨hp,rfl⟩}
end
def EH {K:Ja}{a:KE}{aF:List Fk}{n:Nat}{sl:Array (Option Fk)}{xs:List V}(h:K.lookup a=some ⟨.type "tuple",none,.seq aF.toArray n,sl⟩)(hv:Vals xs aF)(hz:xs.length<=1000)(H:Hp):aV K H a xs:=
 .inr ⟨_,aF.toArray,n,h,rfl,rfl,rfl,Jf (by rw[Ju,<-hv.length];show hz) (show 1000<=W1 by decide),by simpa using hv⟩
def IL (r:dw k A):A.units+66<QcY:=by have:=r.un;lia
def qQ {k:Nat}{x:Str}{ps:List Str}{sp:Sp}{p pos:Pos}(F:Fn X.prog X.w X.K X.mg X.base k x ps sp)(hr:dw k X.A)(hg:Gl X x)(sD:(x==("__debug__" : Str))=false:=by decide):
  PE X (.Call (.Name x p) [] [] pos) (wC sp [] E0 Cv):=by
 obtain⟨f,fd,a,b,c,d⟩:=F.ex;show Hd a hr hg d c b .nil tX sD
abbrev eE:List Fk:=[.type "ValueError",.type "Exception",.type "BaseException",.type "object"]
structure nh (K:Frag)(C:KE)(f:Str):Prop where
 sa:findIn K (.ref C) "__setattr__" = some (some (.builtin "object.__setattr__"))
 na:findIn K (.ref C) f=some none
 mo:mroIn K C (.type "object")=some true
 cl:∃cd D,Qe5 K C=some cd/\cd.mro = .ref C :: .ref D::eE/\cd.hasDict=true
def Raw (o:Obj):Prop:=∃t,o.data = .fields #[.ref t,.none,.none,.none,.bool false,.none]
def Raw.nc (h:Raw o):notCls o=true:=by
 obtain⟨_,_,dt,_⟩:=o;obtain⟨t,h⟩:=h;cases h;rfl
def xw (e C:KE):HO := .ext fun h=>∃o,h.get? e=some o/\o.cls = .ref C/\o.dict=none/\Raw o
def Dy (e C dx:KE):HO := .ext fun h=>∃o,h.get? e=some o/\o.cls = .ref C/\o.dict=some dx/\Raw o
section
variable {prog:Qac}{w:Qag}{A:QaB}{K:Frag}{C e:KE}{s:Gc}{E:Fk->Gc->Prop}{f:Str}{v:Fk}
def DF (X:K.In s.heap)(O:nh K C f)(hx:s.heap.get? e=some o)(hc:o.cls = .ref C)(hd:o.dict=none)(hn:notCls o=true)
  (k:∀h' tk,h'.get? e=some { o with dict:=some s.heap.objs.size } -> h'.Ns1 s.heap.objs.size (fun y=>if y=f then some v else none)->(∀b ob,b≠e->s.heap.get? b=some ob->h'.get? b=some ob)->Q () { s with heap:=h',toks:=tk }) :
  Qab (Qaa prog w) A (setAttr (.ref e) f v) Q E s:=by
 have J:InstAt s.heap e o C none:=⟨hx,hc,hn,by rw[hd];trivial⟩
 show ak.el (O.cl) _ ?_;rintro cd D c1 c2 c3;have SF:=PySem.F.store_object;have UD:Looks (Qaa prog w) s.heap (mroOf (.ref C)) cd.mro:=(looks_clsIn X c1).andThen .now;show set_plain X J O.sa (Qbf SF.slot.plain SF.entry (@check_slot (Qaa prog w) _ _ { s with toks:=s.toks+1 } "object.__setattr__" "object" "__setattr__" (.ref e) [.str f s.toks,v] [] _ SF.kind SF.split (J.type.andThen (looks_mroIn X O.mo)) (SF.args (.ref e) (.str f s.toks) v) ?_));rw[osa_eq,refuse_eq];show be (be (J.type.here (s:={ s with toks:=s.toks+1 }) (be (UD.here (s:={ s with toks:=s.toks+1 }) ?_))));rw[c2,refuseLoop_ref,refuseLoop_ref,PySem.F.store_ValueError.passes];show tz (be (J.type.here (s:={ s with toks:=s.toks+1 }) (be ((Qcv X O.na).here (s:={ s with toks:=s.toks+1 }) (be (tz ?_))))));obtain⟨oc,od,odt,xP⟩:=o;subst hc hd;have Ec:=Jp (Jg hx);show be (tz (be (be (Qf8 hx (be ((looks_clsIn X c1).here (s:={ s with toks:=s.toks+1 }) ?_))))));rw[c3];dsimp only;rw[if_neg ∅,if_neg (by simp[typeHasDict])]
 split
 ·rename_i c;show absurd hn (by simp[notCls])
 have OP:(s.heap.push { cls := .type "dict",data := .dict #[] }).get? e=some ⟨.ref C,none,odt,xP⟩:=Jb _ hx;show be (wpAny_alloc' (be (wpAny_update' OP (tz ?_))));obtain⟨G,hG⟩:∃G,G=(s.heap.push { cls := .type "dict",data := .dict #[] }).update e fun o=>{ cls:=o.cls,dict:=some s.heap.objs.size,data:=o.data,slots:=o.slots }:=⟨_,rfl⟩
 have gd:G.get? s.heap.objs.size=some { cls := .type "dict",data := .dict #[] }:=by
  rw[hG];show(Heap.get?_update_ne _ _ _ _ Ec.symm).trans (Heap.get?_push_at rfl rfl)
 have ge:G.get? e=some ⟨.ref C,some s.heap.objs.size,odt,xP⟩:=by
  rw[hG];show J4 _ OP ?_;cases odt<;>first|rfl|show(Heap.get?_some_iff.mp hx).2
 have go:∀b ob,b≠e->s.heap.get? b=some ob->G.get? b=some ob:=fun b ob nb q=>by
  rw[hG];show(Heap.get?_update_ne _ _ _ _ nb).trans (Jb _ q)
 rw[<-hG];show be (tz (be (wpAny_nsSet1 (Qgq {_,#[],_,gd,rfl,(fun a ha=>absurd ha (by simp)),fun _=>rfl}) fun h2 ns2 sb=>ak.el (ns2.count (Within.cons f v Within.nil)) _ ?_)));rintro oD eD pD hoD dD cD;show be (wpAny_lookBehind hoD ?_ ?_)
 ·rw[dD];show pastItsLine_dict (Jf cD ?_);rw[Jo,Yo,Qdn];lia
 show tz (k h2 _ ((sb.2 e Ec).trans ge) ns2 fun b ob nb q=>(sb.2 b (Jp (Jg q))).trans (go b ob nb q))
def Fa {dx:KE}{Q:Fk->Gc->Prop}(X:K.In s.heap)(O:kS K C)(S:nh K C f)(hx:s.heap.get? e=some o)(hc:o.cls = .ref C)(hd:o.dict=some dx)(hn:notCls o=true)(ho:s.heap.get? dx=some od)
  (hl:lookIn f od=some (some v)) (hv:handedIn v=true) (k:Q v { s with toks:=s.toks+1 }):Qab (Qaa prog w) A (getAttr (.ref e) f true) Q E s:=by
 have p:ExcAt e C s.heap:=⟨o,hx,hc⟩
 show ak.el (S.cl) _ ?_;rintro cd D c1 c2 c3;have fo:findObj K C (some od) f=some (.value v):=by
  unfold findObj PySem.W.ownOf;simp only[c1,S.na,Option.bind_some,c3,if_true,hl]
 obtain⟨hh,g,dr,t,os⟩:=s;have T0:=jj (M:=Qaa prog w) p;show be (wpAny_mkText (Qah (be (T0.at (be ((Qcv (M:=Qaa prog w) X O.ga).at (be ((Qcv (M:=Qaa prog w) X O.gt).at (be (QaS (Qah (be (tz (QcB (Qbf F.attr_ValueError.ga.plain F.entry_bexc_ga (tR X O p (be (tz (be (tz (be (T0.at (be ((looks_find (M:=Qaa prog w) X {hx,hc,hn,by rw[hd];show ho} fo).at (tz (handed_on hv k))))))))))))))))))))))))))
end
section
variable {prog:Qac}{w:Qag}{A:QaB}{E:Fk->Gc->Prop}{h0:Heap}{g0:Array Qfa}{d0:Drawn}{t0:Nat}{SH:OsState}{nm qn:Str}{C N fi:KE}{bs up tail:List Fk}{hdct:Bool}{sn:List Str}{sub:List Fk}{ab:Bool}
 {col:Option Bool} {dd:Option KE} {k0 k1 k2 k3 k5:Option Fk} {B newId F6:String}
def CK (FB:ExcBaseFacts B newId F6 tail)(TL:OwnTail h0 tail up){vs:List Fk}{oi:Obj}{Q:Fin->Gc->Prop}
  (tH:h0.get? C=some (QbZ nm qn C N bs up hdct sn sub ab col dd k0 k1 k2 k3 k5 newId)) (jb:∀h1,(∀b o,h0.get? b=some o->h1.get? b=some o)->Looks (Qaa prog w) h1 (Qbu (.ref C) "__init__") (some (.ref fi))) (Vh:h0.get? fi=some oi) (S7:oi.cls = .type "function") (fit:vs.length<=W1)
  (run:∀h' e,Qfq h0 h' e (.ref C) vs->Qab (Qaa prog w) A (call (.ref fi) (.ref e::vs)) (fun r s'=>r = .none/\Q (.done (.ret (.ref e))) s') E ⟨h',g0,d0,t0,SH⟩) :
  Qab (Qaa prog w) A (Builtin.«type.__call__» ⟨.ref C::vs,[]⟩) Q E ⟨h0,g0,d0,t0,SH⟩:=by
 repeat (first
  | with_reducible show Qct tH ?_
  | with_reducible show wpAny_madeBy_exc tH ?_
  | wp_step)
 show codeAny_call_builtin_code (QcP _ FB.quiet) (wpAny_check_new_subT FB TL tH (codeAny_exc_new_subT FB TL tH ?_ fit));obtain⟨H1,e1⟩:∃H1,H1=(h0.push { cls := .type "tuple",data := .seq vs.toArray }).push { cls := .ref C,data := .fields #[.ref h0.objs.size,.none,.none,.none,.bool false,.none] }:=⟨_,rfl⟩
 have kp:∀b o,h0.get? b=some o->H1.get? b=some o:=fun b o z=>by
  rw[e1];show Jb _ (Jb _ z)
 have me:H1.get? (h0.objs.size+1)=some { cls := .ref C,data := .fields #[.ref h0.objs.size,.none,.none,.none,.bool false,.none] }:=by
  rw[e1]
  heap_get
 have mt:H1.get? h0.objs.size=some { cls := .type "tuple",data := .seq vs.toArray }:=by
  rw[e1];show Jb _ (Heap.get?_push_at rfl rfl)
 rw[<-e1];have self:(Qaj C::up).contains (.ref C)=true:=by simp
 repeat (first
  | with_reducible show Qct me ?_
  | (with_reducible show wpAny_isSubtype_exc (kp _ _ tH) ?_;rw[self])
  | wp_step)
 show(jb H1 kp).at (Qah (be (be (QaX {_,kp _ _ Vh,S7} (tz (be (Qbc (run H1 _ {kp,QdT (Yw _),h0.objs.size,me,QdT (Je _),mt}) (fun r s' hr =>?_) fun _ _ x=>x)))))));obtain⟨rfl,q⟩:=hr
 wp_walk
 show q
def Ql (FB:ExcBaseFacts B newId F6 tail)(TL:OwnTail h0 tail up){vs:List Fk}{oi:Obj}{Q:Fk->Gc->Prop}
  (tH:h0.get? C=some (QbZ nm qn C N bs up hdct sn sub ab col dd k0 k1 k2 k3 k5 newId)) (jb:∀h1,(∀b o,h0.get? b=some o->h1.get? b=some o)->Looks (Qaa prog w) h1 (Qbu (.ref C) "__init__") (some (.ref fi))) (Vh:h0.get? fi=some oi) (S7:oi.cls = .type "function") (fit:vs.length<=W1)
  (run:∀h' e,Qfq h0 h' e (.ref C) vs->Qab (Qaa prog w) (A.under (.builtin "type.__call__" ⟨.ref C::vs,[]⟩)) (call (.ref fi) (.ref e::vs)) (fun r s'=>r = .none/\Q (.ref e) s') E ⟨h',g0,d0,t0,SH⟩) :
  Qab (Qaa prog w) A (call (.ref C) vs) Q E ⟨h0,g0,d0,t0,SH⟩:=by
 have b1:=tc_lookup;have b2:=tc_bind (.ref C);show QcB (codeAny_of_tree ?_)
 repeat (any_goals (first
  | assumption
  | with_reducible show Qct tH ?_
  | wp_step))
 show{rfl,codeAny_call_builtin_at (QcP _ ∅) entry_typeCall (wpAny_check_type_call_sub tH (CK FB TL tH jb Vh S7 fit fun h' e m=>run h' e m))}
end
section
variable {X:Cx}{pins:List (KE×Obj)}{σ:St}{H:Hp}{s:Gc}{e C:KE}
def JI {H:Hp}{h:Heap}{o:Obj}(h1:h.get? e=some o)(h2:o.cls = .ref C)(h3:o.dict=none)(h4:Raw o):bB P w H h e (xw e C):=
 ⟨⟨o,h1,h2,h3,h4⟩,⟨o,h1⟩,fun a b ⟨o,e1,r⟩ k=>⟨o,k _ e1,r⟩⟩
def KA {H:Hp}{h:Heap}{o:Obj}{dx:KE}(h1:h.get? e=some o)(h2:o.cls = .ref C)(h3:o.dict=some dx)(h4:Raw o):bB P w H h e (Dy e C dx):=
 ⟨⟨o,h1,h2,h3,h4⟩,⟨o,h1⟩,fun a b ⟨o,e1,r⟩ k=>⟨o,k _ e1,r⟩⟩
def Inv.noObj (I:Inv X pins σ H s)(h:s.heap.get? e=none):H e=none:=by
 cases z:H e with
 | none=>rfl
 | some o=>obtain⟨q,hq⟩:=(I.bw e o z).ex;rw[hq] at h;cases h
def Inv.Qw (I:Inv X pins σ H s)(m:Qfq s.heap h' e (.ref C) us)(hex:X.ex=[]):Inv X pins σ (upd H e (xw e C)) { s with heap:=h',toks:=tk }:=by
 obtain⟨k,ne,t0,me,nt,mt⟩:=m;have I2:Inv X pins σ H { s with heap:=h',toks:=tk }:=I.kept k;have hs:∀b o,s.heap.get? b=some o->b≠e:=fun b o q z=>by rw[z,ne] at q;cases q
 show I2.zB (I.noObj ne) (fun z =>?_) (fun x c q =>?_) (fun p hp =>?_) (fun b u q =>?_) (JI me rfl rfl {_,rfl})
 ·obtain⟨m,⟨oL,_,_,q,_⟩,_⟩:=I.loc;show hs _ _ q z.symm
 ·obtain⟨v,o,e1,_⟩:=I.cell x c q;show hs _ _ e1
 ·show hs _ _ (I.pin p hp).1
 ·obtain⟨o',q'⟩:=I.base.there b u q (by rw[hex];show nofun);show hs _ _ q'
structure O1 (K:Frag)(C fi:KE):Prop where
 cl:∃nm qn N bs D hdct sn sub ab col dd k0 k1 k2 k3 k5,K.lookup C=some (QbZ nm qn C N bs (.ref D::eE) hdct sn sub ab col dd k0 k1 k2 k3 k5 "ValueError.__new__")/\∀h:Heap,K.In h->OwnTail h eE (.ref D::eE)
 OZ:findIn K (.ref C) "__init__" = some (some (.ref fi))
 fn:∃oi:Obj,K.lookup fi=some oi/\oi.cls = .type "function"
 kp:keepIn K (.ref C)=true
def EC (C:KE)(sp:Sp)(t:TA):TE:=fun σ H Q=>t σ H fun vs H1=>vs.length<=1000/\∀e,H1 e=none->sp (.ref e::vs) (upd H1 e (xw e C)) (fun v H2=>v = .non/\Q (.ref e) H2) E0
def CI {fi:KE}{fd:Qal}{ps:List Str}{sp:Sp}{Q:VK}{us:List Fk}{vs:List V}(M:O1 X.K C fi)(F:aU X.prog X.w X.K X.mg X.base dX k fi fd ps sp)(hr:dw (k+1) X.A)(hb:Binds X.K fd ps [])(hex:X.ex=[])
  (I:Inv X pins σ H s) (r:Vals vs us) (hl:vs.length<=1000) (h:∀e,H e=none->sp (.ref e::vs) (upd H e (xw e C)) (fun v H2=>v = .non/\Q (.ref e) H2) E0):Qab (Qaa X.prog X.w) X.A (call (.ref C) us) (EP X pins σ Q) X.xe s:=by
 show ak.el (M.cl) _ ?_;rintro nm qn N bs D hdct sn sub ab col dd k0 k1 k2 k3 k5 lk TL;show ak.el (M.fn) _ ?_;rintro oi l2 ft;have yH:=I.jr;show Ql PySem.F.excBase_ValueError (TL _ yH) (yH _ _ lk) (fun h1 kp=>Qcv (fun a o z=>kp a o (yH a o z)) M.OZ) (yH _ _ l2) ft (by rw[<-r.length];show Jf hl ∅) fun h' e m =>?_;have I2:Inv X pins σ (upd H e (xw e C)) { s with heap:=h',toks:=s.toks }:=I.Qw m hex;have hq:=h e (I.noObj m.2);have r2:Vals (V.ref e::vs) (Qaj e::us) := .cons rfl r;have Xd:=hb { s with heap:=h',toks:=s.toks } (Qaj e::us) I2.jr (by rw[Us];show(by rw[<-r2.length];show F.len _ _ _ _ hq));rw[Us] at Xd;show QcB (Qcw (F.run _ X.stack { s with heap:=h',toks:=s.toks } _ {Qaj e::us,[]} (Qaj e::us) _ _ E0 (hr.make C us []) (I2.KM.make C us []) Xd r2 hq) fun rr s' hq' =>?_);cases rr with
 | error x=>show hq'.elim
 | ok fl=>
  cases fl with
  | ret u=>
   obtain⟨v,H',I3,rv,ev,q3⟩:=I2.after hq';subst ev;show{rv,{V.ref e,H',I3,rfl,q3}}
  | next=>show hq'.elim
  | brk=>show hq'.elim
  | cont=>show hq'.elim
def ED {fi:KE}{fd:Qal}{ps:List Str}{sp:Sp}{x:Str}{p pos:Pos}{a:QaF}{as:List QaF}{t:TA}(M:O1 X.K C fi)(F:aU X.prog X.w X.K X.mg X.base dX k fi fd ps sp)(hr:dw (k+1) X.A)(hg:Gl X x)(hm:X.mg x=some (.ref C))
  (hb:Binds X.K fd ps []) (ha:PA X (a::as) t) (hex:X.ex=[]:=by rfl) (sD:(x==("__debug__" : Str))=false:=by decide) (he:Qaf (a::as) X.env=(false,QaP a X.env)::Qaf as X.env:=by rfl) (oP:(QbT pos (Qaf as X.env)).any (·.1)=false:=by rfl) :
  PE X (.Call (.Name x p) (a::as) [] pos) (EC C sp t):=
 fun pins s σ H Q I h=>QaQ (jw I hg hm (Qb0 I.ok.mod.yH M.kp (bg (ha s σ H _ I h) fun us s1 hz_=>ak.el hz_ _ fun vs H1 I1 r q=>⟨I1.jr,(CI M F hr hb hex I1 r q.1 q.2)⟩) he oP) sD)
def Qf (K:Frag)(to tv:TE)(f:Str):TS:=fun D σ H=>tv σ H fun v H1=>to σ H1 fun x H2=>∃e C,x = .ref e/\H2 e=some (xw e C)/\nh K C f/\∀dx,H2 dx=none->dx≠e->D.nx σ (upd (upd H2 e (Dy e C dx)) dx (.xd [(f,v)]))
def AX {to tv:TE}{pos pos':Pos}(ho:PE X o to)(hv:PE X value tv)(hs:QdH value (some (.Attribute o f pos')) pos.line X.env=pure false):PS X (.Assign [.Attribute o f pos'] value pos) (Qf X.K to tv f):=by
 show fun pins s σ H D I h=>Qfg (bg (hv s σ H _ I h) fun u s1 ⟨v,H1,I1,ru,q⟩=>bg (ho s1 σ H1 _ I1 q) fun ov s2 ⟨x,H2,I2,rx,e,C,ex,ee,S,q2⟩=>?_) hs;subst ex;obtain rfl:ov=Qaj e:=rx;obtain⟨ob,b1,b2,b3,b4⟩:=(show bB X.prog X.w H2 s2.heap e (xw e C) from I2.bw e _ ee).1;have Ec:=Jp (Jg b1);show DF I2.jr S b1 b2 b3 b4.nc fun h' tk a1 a2 a3 =>?_;have I3:Inv X pins σ (upd H2 e (Dy e C s2.heap.objs.size)) { s2 with heap:=h',toks:=tk }:=I2.write (by rw[ee];show QaR) (.inl rfl) a3 ⟨_,a1⟩ (KA a1 b2 rfl b4);have hd:=I2.bw.fresh (Je _);have fp:=I2.fN (Je _) hd;show{σ,_,?_,q2 _ hd Ec.symm};show I3.zB (by rw[av Ec.symm];show hd) fp.2.1 fp.2.2.2.2.1 fp.2.2.2.2.2 (fun b u q z =>?_) {_,a2,fun g =>?_}
 ·have:=Jg q;rw[z] at this;show absurd (Jv this I2.sz) (Uk _)
 ·change jD (Wc g [(f,v)]) (if g=f then some u else none)
  by_cases z:g=f
  ·rw[if_pos z,z,List.lookup_cons_self];show ru
  ·rw[if_neg z];have:Wc g [(f,v)]=none:=by
    rw[Ur];have:(g==f)=false:=by simpa using z
    rw[this];rfl
   rw[this];trivial
end
section
variable {K:Frag}{C D N:KE}{nm qn:Str}{bs up:List Fk}{hdct:Bool}{sn:List Str}{sub:List Fk}{ab:Bool}{col:Option Bool}{dd:Option KE}{k0 k1 k2 k3 k5:Option Fk}
def CA (lk:K.lookup C=some (QbZ nm qn C N bs up hdct sn sub ab col dd k0 k1 k2 k3 k5 "ValueError.__new__"))(made:excIn K C eE "ValueError.__new__" = true):nsOkIn K N=true/\Qfv K N "__init__" = some none:=by
 have h:(C==C && "ValueError.__new__" == "ValueError.__new__" && !false&&tailIn K eE up&&nsOkIn K N&&Qfv K N "__init__" == some none)=true:=by
  unfold excIn at made;rw[lk] at made;show made
 have h1:=Bool.and_eq_true_iff.mp h;show{(Bool.and_eq_true_iff.mp h1.1).2,beq_iff_eq.mp h1.2}
def Ht (lk:K.lookup C=some (QbZ nm qn C N bs eE hdct sn sub ab col dd k0 k1 k2 k3 k5 "ValueError.__new__"))(made:excIn K C eE "ValueError.__new__" = true)(h:Heap)(yH:K.In h):OwnTail h eE (.ref C::eE):=by
 obtain⟨a,b⟩:=CA lk made;show .own (yH _ _ lk) (.of_isNs (isNs_of_in yH a)) (nsMap_none_of_in yH a b) .base
def GB (lk:K.lookup C=some (QbZ nm qn C N bs (.ref D::eE) true sn sub ab col dd k0 k1 k2 k3 k5 "ValueError.__new__"))(sa:findIn K (.ref C) "__setattr__" = some (some (.builtin "object.__setattr__")))(na:findIn K (.ref C) f=some none)
  (mo:mroIn K C (.type "object")=some true):nh K C f:=by
 show{sa,na,mo,{{ name:=nm,bases:=bs,mro := .ref C :: .ref D::eE,ns:=N,qualname:=qn,hasDict:=true,slotNames:=sn,subclasses:=sub,abstract:=ab,collection:=col,hasDel:=false },D,?_,rfl,rfl}};unfold Qe5;rw[lk]
end
structure Bh (K:Ja)(P:Qac)(w:Qag)(a:KE)(es:Array QdN)(n:Nat)(kvs:List (Str×Fk)):Prop where
 l:K.lookup a=some ⟨.type "dict",none,.dict es n,#[]⟩
 k:Qdh w.params es.toList
 p:Pairs (QdY P w) es.toList kvs
 nd:(kvs.map (·.1)).Nodup
 ns:(a==QbC)=false
def Bh.at {K:Ja}{P:Qac}{w:Qag}{a:KE}{es:Array QdN}{n:Nat}{kvs:List (Str×Fk)}{h:Heap}(D:Bh K P w a es n kvs)(X:K.In h):h.DictAt (QdY P w) a kvs n:=
 ⟨_,es,X _ _ D.l,⟨rfl,rfl,rfl⟩,rfl,fun e he=>by
  obtain⟨x,t,e1,e2⟩:=D.k.all e (Array.mem_toList_iff.mpr he);show⟨x,by rw[e1];show strKind_is P w x t,e2⟩,D.p,D.nd⟩
section
variable {X:Cx}
def MN:Ic X "list.index" (fun x vs H Q=>∃(l:KE) (xs:List Str) (y:Str) (j:Nat),x = .ref l/\vs=[.str y]/\H l=some (.lst (xs.map V.str))/\xs[j]? = some y/\(∀m,m<j->xs[m]? ≠ some y)/\Q (.int (j:Nat)) H):=by
 show fun pins s σ H x vs v us Q I rx rv h=>ak.el (h) _ ?_;rintro l xs y j rfl rfl hH hj Ej q;cases rx;show ak.el (vals1 rv) _ ?_;rintro u rfl ru;obtain⟨t,rfl⟩:=ru;show ak.el (I.tm hH) _ ?_;rintro z aF n r hl e;have hlen:=r.length;rw[Jc] at hlen;have jl:=(Jl.mp hj).1
 let ev:Fk->Bool:=fun u=>match u with | .str a _=>decide (a=y)|_=>false
 have at':∀m (hm:m<aF.length),∃t',aF[m] = .str (xs[m]'⋯) t':=fun m hm=>by
  obtain⟨a,h1,h2⟩:=jP r (i:=m) (v:=aF[m]) (by simp[]);rw[Jk,Jd ⋯] at h1;cases h1;show h2
 have hn:=oq;show QbD F.slot_list_index {_,e,rfl} F.entry_list_index (F.args_list_index_2 _ _) (SeqAt.list_indexAt l aF.toArray n none #[] (.str y t) ev j (by rw[Ju];lia) (by
  lia) ?_ ?_) ⟨e,fun w hw =>?_,?_⟩
 ·obtain⟨t',e'⟩:=at' j ⋯;change ev aF[j]=true;rw[e'];show decide_eq_true (Jl.mp hj).2
 ·intro m hm hmj;obtain⟨t',e'⟩:=at' m (by rw[Ju] at hm;show hm);change ev aF[m]=false;rw[e'];show decide_eq_false fun z=>Ej m hmj ?_;rw[Jd ⋯,z]
 ·have hw:w∈aF:=by simpa using hw
  show ak.el (Yk.mp hw) _ ?_;rintro i hi ew;obtain⟨t',e'⟩:=at' i hi;rw[<-ew,e'];show QfN _ t' y t
 ·show{.int _,H,I.tok _,{_,rfl},q}
end
structure zQ (h:Heap)(S it d:KE)(i n ep:Nat):Prop where
 ex:∃(x0:Fk) (f:Bool) (ok ov:Fk),h.get? it=some { cls := .type "dict_itemiterator",dict:=none,data := .fields #[x0,.bool f,.ref d,.int i 0,.int n 0,.int ep 0,ok,ov],slots := #[] } /\ (x0 = .none\/∃(a:KE) (oa:Obj),x0=Qa0 a/\h.get? a=some oa/\a≠it/\a≠S)
section
variable {prog:Qac}{w:Qag}{K:Type}[DecidableEq K]{knd:KeyKind prog w K}{A:QaB}{E:Fk->Gc->Prop}{s:Gc}
def Cr (st:zQ s.heap S it d i n ep)(hS:S<s.heap.objs.size)
  (q:∀h',zQ h' S it d i n ep->h'.get? s.heap.objs.size=some { cls := .type "tuple",data := .seq #[key,val] } -> h'.objs.size=s.heap.objs.size+1->(∀b o,b≠it->s.heap.get? b=some o->h'.get? b=some o)->Q (.ref s.heap.objs.size) { s with heap:=h' }) :
  Qab (Qaa prog w) A (Builtin.Dict_items.pairFromOwner (.ref it) 6 key val) Q E s:=by
 obtain⟨⟨x0,f,ok,ov,e,HY⟩⟩:=st;have low:=Jg e;show be (Qcs ?_);obtain⟨h2,eh2⟩:∃h2,h2=s.heap.push { cls := .type "tuple",data := .seq #[key,val] }:=⟨_,rfl⟩
 have t2:h2.get? s.heap.objs.size=some { cls := .type "tuple",data := .seq #[key,val] }:=by rw[eh2];show Ji _ rfl
 have z2:h2.objs.size=s.heap.objs.size+1:=by rw[eh2,Uh]
 have k2:∀b o,s.heap.get? b=some o->h2.get? b=some o:=fun b o x=>by rw[eh2];show Jb _ x
 have e2:=k2 _ _ e;rw[<-eh2];show be ?_
 rcases HY with rfl|⟨a,oa,rfl,ha,na,nS⟩
 ·show be (Qai e2 rfl rfl (tz ?_));show be (Qai e2 rfl rfl (be (Qai e2 rfl rfl (be (Qae e2 (by simp) fun h3 e3 s3=>be (Qae e3 (by simp) fun h4 e4 s4=>be (Qae e4 (by simp) fun h5 e5 s5=>be (Qae e5 (by simp) fun h6 e6 s6 =>?_))))))));have kk:=fun b o nb x=>s6.extBut b o nb (s5.extBut b o nb (s4.extBut b o nb (s3.extBut b o nb x)));have t6:=kk _ _ (Uq low) t2;show be (Qcj (tz (q h6 {_,_,_,_,e6,.inr {_,_,rfl,t6,Uq low,Uq hS}} t6 (by rw[s6.1,s5.1,s4.1,s3.1];show z2) fun b o nb x=>kk b o nb (k2 b o x))))
 ·show be (Qai e2 rfl rfl ?_);show be (Qgx (k2 _ _ ha) (be (Qai e2 rfl rfl ?_)));cases f
  ·show be (Qae e2 (by simp) fun h3 e3 s3=>tz ?_);show tz (q h3 {_,_,_,_,e3,.inr {a,oa,rfl,s3.extBut _ _ na (k2 _ _ ha),na,nS}} (s3.extBut _ _ (Uq low) t2) (by rw[s3.1];show z2) fun b o nb x=>s3.extBut b o nb (k2 b o x))
  ·show tz ?_;show tz (q h2 {_,_,_,_,e2,.inr {a,oa,rfl,k2 _ _ ha,na,nS}} t2 z2 fun b o nb x=>k2 b o x)
def AB (zL:zQ s.heap S it d i kvs.length ep)(hS:S<s.heap.objs.size)
  (hm:s.heap.DictAt knd d kvs ep) (hx:kvs[i]? = some (k,v))
  (hQ:∀key h',knd.is k key=true->zQ h' S it d (i+1) kvs.length ep->h'.get? s.heap.objs.size=some { cls := .type "tuple",data := .seq #[key,v] } -> h'.objs.size=s.heap.objs.size+1 ->
   (∀b o,b≠it->s.heap.get? b=some o->h'.get? b=some o)->Q (some (.ref s.heap.objs.size)) { s with heap:=h' }) :
  Qab (Qaa prog w) A (QbR (.ref it)) Q E s:=by
 obtain⟨⟨x0,f,ok,ov,e,HY⟩⟩:=zL;obtain⟨od,es,hod,Ah,hdd,hk,Kx,hn⟩:=id hm;have hT:s.TypeIs (.ref it) "dict_itemiterator":=⟨_,e,rfl⟩
 have hsz:es.size=kvs.length:=by rw[<-Kx.length];simp
 have jq:i<es.size:=by rw[hsz];show(Jl.mp hx).1
 obtain⟨hkey,hval⟩:=Kx.get? (e:=es[i]) (by simp[]) hx;show be (QaS (Qam hT QbI (Qaq QbI hT Qfe ?_ (Qe0 _))))
 repeat (first
  | with_reducible show QbG hT ?_
  | with_reducible show wpAny_typeNameOf_itemiter hT ?_
  | with_reducible show Qej e rfl ?_
  | with_reducible show wpAny_dictEntries hod hdd ?_
  | with_reducible show wpAny_dictEpoch hod hdd ?_
  | with_reducible show Qcu hT ?_
  | wp_step)
 simp only[ U0,Jz jq];show be (be (QbG hT (tz (be (Qcu hT ?_)))));change Qab _ _ (QbV (setField (.ref it) 3 (Qa0 ((i:Int)+1))) _) _ _ _;show be (Qae e (by simp) fun h1 e1 s1 =>?_);have z:((i+1:Nat):Int)=(i:Int)+1:=by lia
 have tG:zQ h1 S it d (i+1) kvs.length ep:=⟨x0,f,ok,ov,by rw[z];show e1,HY.imp id fun⟨a,oa,h1,h2,h3,h4⟩=>⟨a,oa,h1,s1.extBut _ _ h3 h2,h3,h4⟩⟩
 have Eo:Qa1 { s with heap:=h1 } (.ref it) "dict_itemiterator":=⟨_,e1,rfl⟩
 show be (Qah (be (Qcu Eo (be (Qcu Eo (Cr tG (by change S<h1.objs.size;rw[s1.1];show hS) fun h' st' t' z' k' =>?_))))));rw[s1.1] at t' z' ⊢;show tz {_,rfl,tz (hQ _ h' hkey st' (by rw[<-hval];show t') z' fun b o nb x=>k' b o nb (s1.extBut b o nb x))}
def Aa (hh:A.handled=none)(zL:zQ s.heap S it d i kvs.length ep)
  (hm:s.heap.DictAt knd d kvs ep) (hx:kvs[i]? = none) (hQ:∀h',Heap.ExtBut it s.heap h'->Q none { s with heap:=h' }) :
  Qab (Qaa prog w) A (QbR (.ref it)) Q E s:=by
 obtain⟨⟨x0,f,ok,ov,e,HY⟩⟩:=zL;obtain⟨od,es,hod,Ah,hdd,hk,Kx,hn⟩:=id hm;have hT:s.TypeIs (.ref it) "dict_itemiterator":=⟨_,e,rfl⟩
 have hsz:es.size=kvs.length:=by rw[<-Kx.length];simp
 show be (QaS (Qam hT QbI (Qaq QbI hT Qfe ?_ (Qe0 _))))
 repeat (first
  | with_reducible show QbG hT ?_
  | with_reducible show Qej e rfl ?_
  | with_reducible show wpAny_dictEntries hod hdd ?_
  | with_reducible show wpAny_dictEpoch hod hdd ?_
  | wp_step)
 simp only[ U0,Uu (by rw[hsz];simpa using hx)];show be (be (QbG hT (tz ?_)));change Qab _ _ (QbV (setField (.ref it) 2 .none) _) _ _ _;show be (Qae e (by simp) fun h1 e1 s1 =>?_)
 wp_walk
 show Qa6 hh (be (QaG {_,Ji _ rfl,rfl} Qbv (tz (hQ _ fun b o nb x =>?_))));show Jb _ (Jb _ (s1.extBut b o nb x))
end
structure G7 (prog:Qac)(w:Qag)(A:QaB)(it S:KE)(fp:KE->Prop)(n:Nat)(P:Nat->Fk->Heap->Prop)(R:Fk->Fk->Prop)(St:Nat->Heap->Prop):Prop where
 sfp:¬fp S
 item:∀i (s:Gc) (Q:Option Fk->Gc->Prop) (E:Fk->Gc->Prop),i<n->St i s.heap->S<s.heap.objs.size ->
  (∀v h' tk,Keeps s.heap h' fp->St (i+1) h'->P i v h'->(∀j u,P j u s.heap->R u v)->Q (some v) { s with heap:=h',toks:=tk })->Qab (Qaa prog w) A (QbR (.ref it)) Q E s
 stop:∀(s:Gc) (Q:Option Fk->Gc->Prop) (E:Fk->Gc->Prop),St n s.heap->S<s.heap.objs.size->(∀h' tk,Keeps s.heap h' fp->Q none { s with heap:=h',toks:=tk })->Qab (Qaa prog w) A (QbR (.ref it)) Q E s
 keepS:∀i h h',St i h->Keeps h h' (· = S)->St i h'
 keepP:∀j v h h',P j v h->Keeps h h' (fun b=>fp b\/b=S)->P j v h'
section
variable {prog:Qac}{w:Qag}{A:QaB}{it S:KE}{fp:KE->Prop}{n:Nat}{P:Nat->Fk->Heap->Prop}{R:Fk->Fk->Prop}{St:Nat->Heap->Prop}
def mv (Fd:G7 prog w A.in1 it S fp n P R St)(hn:n<=W1){s:Gc}{Z:Qb6->Gc->Prop}{res:Fk}{g:Heap}(fin:pU g S fp n P R s (Z (.ok (.ret res)))):
  ∀k i h tk acc c,i+k=n->St i h->pE h S i P R acc c->Keeps g h (fun b=>fp b\/b=S) ->
   QaY (Qaa prog w) A (.builtin "list.extend.loop" ⟨[.ref S,.ref it,res],[]⟩) Z { s with heap:=h,toks:=tk }
 | 0,i,h,tk,acc,c,hk,lR,G,kp=>by
  have e:i=n:=by lia
  subst e;show QaH QbQ (be (Fd.stop { s with heap:=h,toks:=tk } _ _ lR (Jg G.ob) fun h' tk' k'=>tz (fin h' tk' acc c (fun b o nb q=>k' b o (fun z=>nb (.inl z)) (kp b o nb q)) {k' _ _ Fd.sfp G.ob,G.sz,G.pw,fun j v e=>Fd.keepP _ _ _ _ (G.all j v e) fun b o nb q=>k' b o (fun z=>nb (.inl z)) q})))
 | k+1,i,h,tk,acc,c,hk,lR,G,kp=>by
  show QaH QbQ (be (Fd.item i { s with heap:=h,toks:=tk } _ _ ⋯ lR (Jg G.ob) fun v h' tk' k' st' pv rv =>?_));have Nu:=k' _ _ Fd.sfp G.ob;have other:Keeps h' (h'.update S (QaJ (·.push v))) (· = S):=fun b o nb q=>(J7 _ _ (QaD nb)).trans q;have k2:Keeps h (h'.update S (QaJ (·.push v))) (fun b=>fp b\/b=S):=fun b o nb q=>other b o (fun z=>nb (.inr z)) (k' b o (fun z=>nb (.inl z)) q);have sz:=G.sz;show be (Qa9 Nu rfl (tz {QaW Qa3 _,(mv Fd hn fin k (i+1) _ tk' (acc.push v) _ ⋯ (Fd.keepS _ _ _ st' other) {J4 _ Nu rfl,by rw[Qb2,sz],?_,fun j u e =>?_} (fun b o nb q=>k2 b o nb (kp b o nb q)))}) (by rw[sz];lia) (by change(acc.push v).size<=W1+1;rw[Qb2,sz];lia))
  ·rw[Qcd];show Y2.mpr {G.pw,Qb7 _ _,fun a ha b hb =>?_};obtain⟨j,hj⟩:=J6.mp ha;rw[Jt.mp hb];show rv j a (G.all j a (by simpa using hj))
  ·by_cases hj:j<i
   ·rw[QfX ⋯] at e;show Fd.keepP _ _ _ _ (G.all j u (by rw[Jz ⋯];show e)) k2
   ·have N7:j=i:=by
     have:=(U4.mp e).1;rw[Qb2] at this;lia
    subst N7;have e':(acc.push v)[acc.size]? = some u:=by rw[sz];show e
    rw[QfI] at e';cases e';show Fd.keepP _ _ _ _ pv fun b o nb q=>other b o (fun z=>nb (.inr z)) q
end
section
variable {prog:Qac}{w:Qag}{K:Type}[DecidableEq K]{knd:KeyKind prog w K}
abbrev nM (knd:KeyKind prog w K)(it S:KE)(kvs:List (K×Fk))(j:Nat)(v:Fk)(h:Heap):Prop:=∃a k key val,v = .ref a/\S<a/\it<a/\kvs[j]? = some (k,val)/\knd.is k key=true/\a<h.objs.size/\h.get? a=some { cls := .type "tuple",data := .seq #[key,val] }
def yX {it d S:KE}{kvs:List (K×Fk)}{ep:Nat}(hh:A.handled=none)(n1:it≠S)(n2:d≠it)(n3:d≠S):
  G7 prog w A it S (· = it) kvs.length (nM knd it S kvs) kY (fun i h=>zQ h S it d i kvs.length ep/\h.DictAt knd d kvs ep) where
 sfp:=fun z=>n1 z.symm
 item:=fun i s Q E hi st hS q=>by
  obtain⟨st,hm⟩:=st;show AB st hS hm (Jd hi) fun key h' hk st' t' z' k' =>?_;show q _ h' s.toks (fun b o nb x=>k' b o nb x) {st',?_} {_,_,key,_,rfl,hS,(by obtain⟨⟨_,_,_,_,e,_⟩⟩:=st;show Jg e),Jd hi,hk,by rw[z'];show Yz _,t'} fun j u hu =>?_
  ·obtain⟨o,es,ho,r⟩:=hm;show{o,es,k' _ _ n2 ho,r}
  ·show ak.el (hu) _ ?_;rintro a _ _ _ rfl _ _ _ _ ha _;show{a,_,rfl,rfl,ha}
 stop:=fun s Q E st hS q=>by
  obtain⟨st,hm⟩:=st;show Aa hh st hm (Qgl (Je _)) fun h' kb=>q h' s.toks fun b o nb x=>kb b o nb x
 keepS:=fun i h h' st k=>by
  obtain⟨⟨⟨x0,f,ok,ov,e,hx⟩⟩,⟨o,es,ho,r⟩⟩:=st;show{{x0,f,ok,ov,k _ _ n1 e,hx.imp id fun⟨a,oa,h1,h2,h3,h4⟩=>{a,oa,h1,k _ _ h4 h2,h3,h4}},{o,es,k _ _ n3 ho,r}}
 keepP:=fun j v h h' p k=>by
  show ak.el (p) _ ?_;rintro a kk key val h1 h2 h3 h4 h5 h6 h7;have z:=k a _ (fun z=>z.elim (fun z=>Uk _ (z▸h3)) fun z=>Uk _ (z▸h2)) h7;show{a,kk,key,val,h1,h2,h3,h4,h5,Jg z,z}
def C7:isSubtype (.type "dict_items") (.type "dict_items")=pure true:=rfl
def wx {S vw d:KE}{kvs:List (K×Fk)}{ep:Nat}(hh:A.in1.handled=none){s:Gc}{Z:Qb6->Gc->Prop}{res:Fk}{c₀:Nat}(hv:s.heap.IsItemsView vw d)(hm:s.heap.DictAt knd d kvs ep)(hn:kvs.length<=W1)
  (SE:vw≠S) (SO:d≠S) (hS:s.heap.get? S=some { cls := .type "list",data := .seq #[] c₀ })
  (fin:∀h' tk acc c,Keeps s.heap h' (· = S)->pE h' S kvs.length (nM knd s.heap.objs.size S kvs) kY acc c->Z (.ok (.ret res)) { s with heap:=h',toks:=tk }) :
  Qab (Qaa prog w) A.in1 (QbE (.ref S) (.ref vw) res) (qP prog w A Z) (fun e s'=>Z (.error e) s') s:=by
 have yp:Qa4 (.ref S) (.ref vw)=false:=by simp[Qa4,QaD SE]
 show be (QaX hv.typeIs ?_);simp only[yp,if_false];show be (wpAny_pyIter_items hv hm ?_);obtain⟨h1,eh1⟩:∃h1,h1=s.heap.push { cls := .type "dict_itemiterator",data := .fields #[.none,.bool false,.ref d,.int 0 0,.int kvs.length 0,.int ep 0,.none,.none] }:=⟨_,rfl⟩
 have k1:∀b o,s.heap.get? b=some o->h1.get? b=some o:=fun b o x=>by rw[eh1];show Jb _ x
 rw[<-eh1];have Eo:Qa1 { s with heap:=h1 } (.ref vw) "dict_items":=by
  obtain⟨o,ho,hc,_⟩:=hv;show{o,k1 _ _ ho,hc}
 have hint:∀Q,Q false { s with heap:=h1 } -> Qab (Qaa prog w) A.in1 (Qcm (.ref vw)) Q (fun e s'=>Z (.error e) s') { s with heap:=h1 }:=fun Q q=>by
  show be (QcQ Eo F.slot_dict_items_len.lookup (be (QaG Eo C7 (Qbk (fun z=>absurd z ∅) fun _=>Qbk (fun _=>(be (QaX Eo (tz q)))) fun z=>absurd (show _=true by decide +kernel) z))))
 show be (Qah (hint _ ?_));have oj:=k1 _ _ hS;have go:∀h c tk,Keeps h1 h (· = S)->h.get? S=some { cls := .type "list",data := .seq #[] c } -> QaY (Qaa prog w) A (.builtin "list.extend.loop" ⟨[.ref S,.ref s.heap.objs.size,res],[]⟩) Z { s with heap:=h,toks:=tk }:=
  fun h c tk k o=>by
   have Fd:=yX (knd:=knd) (kvs:=kvs) (ep:=ep) hh (Uq (Jg hS)) (Jp hm.lt_size) SO;obtain⟨od,es,ho,r⟩:=hm;show mv Fd hn (fun h' tk acc c k' G=>fin h' tk acc c (fun b o nb q=>k' b o (fun z=>z.elim (fun z=>Uk _ (z▸Jg q)) nb) (k1 b o q)) G) kvs.length 0 h tk #[] c ⋯ (Fd.keepS _ _ _ {{.none,false,.none,.none,by rw[eh1];show Ji _ rfl,.inl rfl},od,es,k1 _ _ ho,r} k) {o,rfl,.nil,fun j v e=>by simp at e} fun b o nb q=>k b o (fun z=>nb (.inr z)) q
 show Qbk (fun _=>(be (Qbj (be ?_)))) fun z=>absurd (show _=true by decide +kernel) z;have o1:=J4 (QaJ (·.push Qcn)) oj rfl;show be (Qa9 oj rfl (Qa9 o1 rfl (tz {QaW Qa3 _,go _ _ _ (fun b o nb q =>?_) (J4 (QaJ (·.pop)) o1 rfl)})));show(J7 _ _ (QaD nb)).trans ((J7 _ _ (QaD nb)).trans q)
def Dp {S vw d:KE}{kvs:List (K×Fk)}{ep:Nat}(hh:A.in1.handled=none){s:Gc}{Z:Qb6->Gc->Prop}(hv:s.heap.IsItemsView vw d)(hm:s.heap.DictAt knd d kvs ep)(hn:kvs.length<=W1)
  (SE:vw≠S) (SO:d≠S) (hS:s.heap.get? S=some { cls := .type "list",data := .seq #[] })
  (fin:∀h' tk acc c,Keeps s.heap h' (· = S)->pE h' S kvs.length (nM knd s.heap.objs.size S kvs) kY acc c->Z (.ok (.ret .none)) { s with heap:=h',toks:=tk }) :
  Qab (Qaa prog w) A.in1 (Builtin.«list.__init__» ⟨[.ref S,.ref vw],[]⟩) (qP prog w A Z) (fun e s'=>Z (.error e) s') s:=by
 show be (be (Qav hS rfl (tz ?_)));have k1:Keeps s.heap (s.heap.update S (QaJ (fun _=>(#[]:Array Fk)))) (· = S):=fun b o nb q=>(J7 _ _ (QaD nb)).trans q;show be (Qa9 hS rfl (be (Qcj ?_)));have hz:(s.heap.update S (QaJ (fun _=>(#[]:Array Fk)))).objs.size=s.heap.objs.size:=Heap.size_update ..;obtain⟨ov,hov,c1,c2⟩:=hv;obtain⟨od,es,ho,r⟩:=hm;show wx hh {ov,k1 _ _ SE hov,c1,c2} {od,es,k1 _ _ SO ho,r} hn SE SO (J4 (QaJ (fun _=>(#[]:Array Fk))) hS rfl) fun h' tk acc c k G =>?_;show fin h' tk acc c (fun b o nb q=>k b o nb (k1 b o nb q)) ?_;rw[hz.symm];show G
def Cy {vw d:KE}{kvs:List (K×Fk)}{ep:Nat}(hh:A.handled=none){s:Gc}{Q:Fk->Gc->Prop}(hv:s.heap.IsItemsView vw d)(hm:s.heap.DictAt knd d kvs ep)(hn:kvs.length<=W1)
  (fin:∀h' tk acc c,(∀b o,s.heap.get? b=some o->h'.get? b=some o)->pE h' s.heap.objs.size kvs.length (nM knd (s.heap.objs.size+1) s.heap.objs.size kvs) kY acc c->Q (.ref s.heap.objs.size) { s with heap:=h',toks:=tk }) :
  Qab (Qaa prog w) A (call (.type "list") [.ref vw]) Q E s:=by
 show Qdb (Q₁:=fun obj s₁=>obj = .ref s.heap.objs.size/\s₁={ s with heap:=s.heap.push { cls := .type "list",data := .seq #[] } }) F.called_list (F.typeCall_list_1 _) F.entry_list_init
  (code_list_new _ ⟨rfl,rfl⟩) fun obj s₁ h₁ =>?_
 obtain⟨rfl,rfl⟩:=h₁;have hS:(s.heap.push { cls := .type "list",data := .seq #[] }).get? s.heap.objs.size=some { cls := .type "list",data := .seq #[] }:=Ji _ rfl;obtain⟨ov,hov,c1,c2⟩:=hv;obtain⟨od,es,ho,r⟩:=hm;show{{_,hS,rfl},F.args_list_init_2 _ _,Dp (A:=A.in1) hh {ov,Jb _ hov,c1,c2} {od,es,Jb _ ho,r} hn (Jp (Jg hov)) (Jp (Jg ho)) hS fun h' tk acc c k G=>{rfl,fin h' tk acc c (fun b o q =>?_) ?_}}
 ·show k b o (Jp (Jg q)) (Jb _ q)
 ·have e:(s.heap.push { cls := .type "list",data := .seq #[] }).objs.size=s.heap.objs.size+1:=Uh ..;rw[<-e];show G
end
def QN (h:(bD P w).is k u=true):RelV (kV k) u:=by
 cases k with
 | inl i=>show QcZ h
 | inr x=>show QdV h
def Pp (r:KV kvs vs):∀{j:Nat} {k:Key} {u:Fk},vs[j]? = some (k,u)->∃v,kvs[j]? = some (k,v)/\RelV v u:=by
 induction r with
 | nil=>intro j k u h;simp at h
 | @cons p q ps qs h t ih=>
  intro j k u e;cases j with
  | zero=>
   cases e;have h1:p.1=k:=h.1;show{p.2,by rw[<-h1];rfl,h.2}
  | succ j=>show ih e
section
variable {X:Cx}
def tLI (to:TE):TE:=fun σ H Q=>to σ H fun x H1=>∃a kvs,x = .ref a/\H1 a=some (.dK kvs) /\
 ∀H' p (as:List KE),aq H1 H'->H1 p=none->H' p=some (.lst (as.map V.ref))->as.length=kvs.length ->
  (∀(j:Nat) b k v,as[j]? = some b->kvs[j]? = some (k,v)->H1 b=none/\H' b=some (.tup [kV k,v]))->Q (.ref p) H'
def CT {p pos apos dR:Pos}(hc:X.calm=true)(N5:Gl X "list")(Ov:X.mg "list" = none)(ho:PE X o to)
  (En:QaT "list" = some (.type "list"):=by first|rfl|decide)
  (NA:Qaf [.Call (.Attribute o "items" apos) [] [] dR] X.env=[(false,QaP (.Call (.Attribute o "items" apos) [] [] dR) X.env)]:=by rfl)
  (mX:Qbr o "items" X.env (QaP o X.env)=QaP o X.env:=by rfl) (nH:(apos.endLine==dR.line)=true:=by rfl) :
  PE X (.Call (.Name "list" p) [.Call (.Attribute o "items" apos) [] [] dR] [] pos) (tLI to):=by
 show fun pins s σ H Q I h=>QaQ (fE I N5 Ov En (Qao (Qbo (wpAny_Call_method0_late mX nH (bg (ho s σ H _ I h) fun v s1 ⟨x,H1,I1,r1,q1⟩=>(ak.el (q1) _ ?_)))) NA rfl));rintro a kvs rfl ea q;cases r1;obtain⟨h1,h2⟩:=zG I1 (x := .ref a) rfl (show Rg X.K "dict" (.ref a) H1 from .inr (.inr (.inl ⟨rfl,.inl ⟨kvs,ea⟩⟩)));show ak.el (BK I1.bw ea) _ ?_;rintro hz hsm vs rel dd;show⟨"dict", "dict.items",Qfl,Qfk,PySem.F.type_dict_items,h1,h2,Qcc rfl (Qgs (call_meetsIn Qfk h1 PySem.F.entry_dict_items (PySem.F.args_dict_items_1 _) (meets_dict_items (bD X.prog X.w) a hsm) ⟨⟨vs,dd⟩,(QbM ?_)⟩))⟩;obtain⟨ep,dat⟩:=dd.dictAt;obtain⟨hp,ehp⟩:∃hp,hp=s1.heap.push { cls := .type "dict_items",data := .fields #[.ref a] }:=⟨_,rfl⟩
 have hk:∀b o,s1.heap.get? b=some o->hp.get? b=some o:=fun b o x=>by rw[ehp];show Jb _ x
 have hsz:hp.objs.size=s1.heap.objs.size+1:=by rw[ehp,Uh]
 have uy:s1.heap.objs.size<=hp.objs.size:=by rw[hsz];show Yw _
 rw[<-ehp];have rl:=rel.length;show Cy (I.ok.hd hc) {_,by rw[ehp];show Ji _ rfl,rfl,rfl} (dat.keep hk) (by rw[<-rl];show hz) fun h' tk acc c N0 G =>?_;obtain⟨gob,gsz,gpw,gall⟩:=G;obtain⟨as,iJ⟩:=pS (l:=acc.toList) fun v hv=>by
  obtain⟨j,hj⟩:=J6.mp hv;obtain⟨b,_,_,_,e,_⟩:=gall j v (by simpa using hj);show⟨b,e⟩
 have kI:∀j b,as[j]? = some b->∃k key val,hp.objs.size<b/\vs[j]? = some (k,val)/\(bD X.prog X.w).is k key=true/\h'.get? b=some { cls := .type "tuple",data := .seq #[key,val] }:=fun j b hb=>by
  obtain⟨b',k,key,val,e,g1,_,g3,g4,_,g6⟩:=gall j (.ref b) (by
   have:acc.toList[j]? = some (.ref b):=by rw[iJ,Jk,hb];rfl
   simpa using this)
  cases e;show⟨k,key,val,g1,g3,g4,g6⟩
 have above:∀b∈as,hp.objs.size<b:=fun b hb=>by
  obtain⟨j,hj⟩:=J6.mp hb;obtain⟨_,_,_,g,_⟩:=kI j b hj;show g
 have I2:Inv X pins σ H1 { s1 with heap:=h',toks:=tk }:=I1.kept fun b o e=>N0 b o (hk b o e);have uL:=fun b hb=>Yd (Jy uy (above b hb));have nd:as.Nodup:=by
  rw[iJ,Qer] at gpw;show gpw.imp fun⟨a,b,e1,e2,h⟩=>by cases e1;cases e2;show Jp h
 have fN:∀b,s1.heap.objs.size<=b->hM X pins H1 b/\X.s₀.heap.objs.size<=b:=fun b hb=>⟨I1.fN hb (I1.bw.fresh hb),Jf I1.sz hb⟩
 have Ew:as.length=kvs.length:=by
  have z:acc.toList.length=as.length:=by rw[iJ,Jc]
  simp at z gsz;lia
 obtain⟨H',I',sm,same,all⟩:=I2.nO as (kvs.map fun q=>[kV q.1,q.2]) nd (by rw[Jc];show Ew) (fun b hb=>fN b (uL b hb)) (fun j b pp g1 g2=>by
  show ak.el (kI j b g1) _ ?_;rintro k key val _ c1 c2 c3;show ak.el (Pp rel c1) _ ?_;rintro v c4 c5;rw[Jk,c4] at g2;cases g2;show⟨by change 2<=W1;decide,[key,val],.cons (QN c2) (.cons c5 .nil),⟨_,c3,rfl,rfl,_,rfl⟩⟩)
 have Gv:=fun hm=>Uk _ (above _ hm);have oj:=I1.bw.fresh uy;obtain⟨fS,sS⟩:=fN hp.objs.size uy;have I3:=I'.adopt (o := .lst (as.map V.ref)) ⟨by rw[same _ Gv];show oj,fS.2⟩ sS ⟨by rw[Jc];lia,acc.toList,c,by
  rw[iJ];clear gob iJ all same I' sm uL nd Ew Gv above kI
  induction as with
  | nil=>show .nil
  | cons a r ih=>show .cons rfl ih,by simpa using gob⟩
 show{.ref hp.objs.size,_,I3,rfl,q _ _ as (fun b o e =>?_) oj ax Ew fun j b k v g1 g2=>{(fN b (uL b (J0 g1))).1.1,?_}}
 ·rw[av (aE e oj)];show sm b o e
 ·rw[av (fun z=>Gv (by rw[<-z];show J0 g1))];show all j b [kV k,v] g1 (by rw[Jk,g2];rfl)
end
def gf:Slot "set_iterator" "__next__" "set_iterator.__next__":=by
 show .of (owner := "set_iterator") (n := "__next__") ?_ ?_ ?_ ?_ ?_ ?_
 ·rw[QcS,QbS];kernel_rfl
 ·decide +kernel
 ·decide +kernel
 ·decide +kernel
 ·first
   | show .inl ∅
   | show .inr ∅
 ·rw[isSubtype_type];kernel_rfl
def mU:entryFor table "set_iterator.__next__" = some Builtin.«set_iterator.__next__»:=entryFor_of_fast (by kernel_rfl)
def o8 (a:Fk):argsOk "set_iterator.__next__" ⟨[a],[]⟩:=by intros;rfl
def rJ:entryFor table "set.__iter__" = some Builtin.«frozenset.__iter__»:=entryFor_alias (id' := "frozenset.__iter__") (by kernel_rfl) rfl ∅ (by kernel_rfl)
def fG {α:Type}:∀{l:List α} {i:Nat} h,U9 (l[i]::l.eraseIdx i) l
 | x::l,0,h=>U9.refl _
 | x::l,i+1,h=>by
  show(U9.swap _ _ _).trans ((fG (Nat.lt_of_succ_lt_succ h)).cons x)
def Bg (next:Nat->Nat):∀n k left (out:Array α),left.length=n->U9 (Qe2 next n k left out).toList (out.toList++left)
 | 0,k,left,out,h=>by
  unfold Qe2;rw[U1 h,Us]
 | n+1,k,left,out,h=>by
  unfold Qe2;have hp:next k%left.length<left.length:=Nat.mod_lt _ ⋯;rw[Jd hp];show(Bg next n (k+1) _ _ (by rw[QdS,if_pos hp];lia)).trans ?_;rw[Qcd,Ux];show U9.append_left _ (fG hp)
def Cz (next:Nat->Nat)(xs:Array α):U9 (QdI next xs).toList xs.toList:=Bg next _ 0 _ #[] rfl
def zt {α:Type}:∀n xs s (Q:List α->Gc->Prop),xs.length=n ->
  (∀ys d,U9 ys xs->Q ys { s with drawn:=d })->Qab M A (drawOrder n xs) Q E s:=by
 intro n
 induction n with
 | zero=>
  show fun xs s Q h q=>tz (q [] s.drawn (by rw[U1 h]))
 | succ n ih=>
  intro xs s Q h q;cases xs with
  | nil=>cases h
  | cons x xs=>
   show be (fun Γ p hΓ=>{by simp,?_});have hp:M.w.draws .order (s.drawn.get .order)%(x::xs).length<(x::xs).length:=Nat.mod_lt _ (by simp);generalize M.w.draws .order (s.drawn.get .order)%(x::xs).length=i at hp ⊢;rw[Sem.wp_pure];dsimp only;rw[Jd hp];show be (ih _ _ _ (by rw[QdS,if_pos hp];lia) fun ys d hy=>tz (q _ d ((hy.cons _).trans (fG hp))))
def Mf (w:Qag):Bool:=w.params.followText "set-order"
inductive Hs (w:Qag)(a:KE)(es:Array (Int×Fk))(ep:Nat)(t:Qdc)(lo i:Nat)(h:Heap)(it:KE):Fk->List Fk->Prop
 | text (b:Mf w=true):Hs w a es ep t lo i h it (.int 0 0) ((QdI (w.params.setOrder a ep) es).toList.map (·.2))
 | places (b:Mf w=false) (d:(!t.plain&&decide (es.size>1))=false) (l:t.led=true) (z:Nat) (c:Cut t.place z i):Hs w a es ep t lo i h it (.int (z:Int) 0) (es.toList.map (·.2))
 | drawn (ys:List Nat) (p:U9 ys (Qcq es.size)) (tp:KE) (low:lo<=tp) (ne:tp≠it) (o:Obj) (n:Nat) (e:h.get? tp=some o) (d:o.data = .seq (ys.map fun(k:Nat)=>Qa0 k).toArray n):Hs w a es ep t lo i h it (.ref tp) (ys.map fun k=>(es.toList.map (·.2)).getD k .none)
structure LW (w:Qag)(a:KE)(es:Array (Int×Fk))(ep:Nat)(t:Qdc)(lo:Nat)(vals:List Fk)(it:KE)(i:Nat)(h:Heap):Prop where
 set:∃o,h.get? a=some o/\o.data = .set es ep t
 fit:t.fits es.size=true
 good:eB t
 ne:a≠it
 low:lo<=it
 ex:∃first,Hs w a es ep t lo i h it first vals/\h.get? it=some { cls := .type "set_iterator",data := .fields #[first,.int i 0,.ref a,.int es.size 0,.int ep 0] }
def LW.keep {lo:Nat}{vals:List Fk}{it:KE}{i:Nat}{h h':Heap}(x:LW w a es ep t lo vals it i h)(k:∀b o,h.get? b=some o->(b=a\/lo<=b)->h'.get? b=some o):LW w a es ep t lo vals it i h':=by
 obtain⟨⟨o,e1,e2⟩,ft,g,ne,low,first,so,e3⟩:=x;show{{o,k _ _ e1 (.inl rfl),e2},ft,g,ne,low,first,?_,k _ _ e3 (.inr low)};cases so with
 | text b=>show .text b
 | places b d l z c=>show .places b d l z c
 | drawn ys p tp tl ne o n e d=>show .drawn ys p tp tl ne o n (k _ _ e (.inr tl)) d
section
variable {prog:Qac}{w:Qag}{A:QaB}{E:Fk->Gc->Prop}{s:Gc}{a:KE}{es:Array (Int×Fk)}{ep:Nat}{t:Qdc}{o:Obj}{lo:Nat}
def GR (ho:s.heap.get? a=some o)(hx:o.ExactSet)(hd:o.data = .set es ep t)(hf:t.fits es.size=true)(g:eB t)(l:Mf w=false->t.led=true)(hz:es.size<=W1)
  (fin:∀it h' d vals,vals.length=es.size->U9 vals (es.toList.map (·.2))->s.heap.objs.size<=it->(∀b o,s.heap.get? b=some o->h'.get? b=some o)->LW w a es ep t s.heap.objs.size vals it 0 h'->Q (.ref it) { s with heap:=h',drawn:=d }) :
  Qab (Qaa prog w) A (Qfu (.ref a)) Q E s:=by
 have hT:s.TypeIs (.ref a) "set":=⟨o,ho,hx.1⟩
 show wpAny_pyIter_slot hT F.slot_set_iter (Qaq F.slot_set_iter hT rJ ?_ (F.args_set_iter_1 _));unfold Builtin.«frozenset.__iter__» Builtin.Frozenset.slot0 slotArgs QdW Builtin.Frozenset.sizeOf setEntries setDrawn setEpoch setsByText;dsimp only
 try simp -iota only [bind_assoc, ↓reduceIte]
 show be (tz (be (tz (be (QaN ho hd hf (be (tz (be (tz (be (QaN ho hd hf (be (Qbd (be (tz (be (tz ?_)))))))))))))))));have last:∀s1 d first vals,s1.drawn=d->s1.gens=s.gens->s1.toks=s.toks->s1.os=s.os->(∀b o,s.heap.get? b=some o->s1.heap.get? b=some o)->s.heap.objs.size<=s1.heap.objs.size->vals.length=es.size->U9 vals (es.toList.map (·.2)) ->
   (∀h' it,s1.heap.objs.size<=it->(∀b o,s1.heap.get? b=some o->h'.get? b=some o)->Hs w a es ep t s.heap.objs.size 0 h' it first vals) ->
   Qab (Qaa prog w) A.in1 (do
    let x <-setState a
    let y <-pure x.2.1
    let z <-newFields "set_iterator" [first,Qa0 0,.ref a,Qa0 es.size,Qa0 y]
    ret z) (fun fin s'=>∃v,fin = .done (.ret v)/\∃T' r,s'.TypeIs v T'/\Qbu (.type T') (Wp "__next__")=pure (some r)/\Q v s') E s1:=by
  show fun s1 d first vals e1 e2 e3 e4 k1 z1 hl hp so=>be (QaN (k1 _ _ ho) hd hf (be (tz (be (QaO (tz ⟨_,rfl, "set_iterator",_,⟨_,Ji _ rfl,rfl⟩,gf.lookup,?_⟩))))))
  have k2:∀b o,s1.heap.get? b=some o->(s1.heap.push { cls := .type "set_iterator",data := .fields [first,Qa0 0,.ref a,Qa0 es.size,Qa0 ep].toArray }).get? b=some o:=fun b o x=>Jb _ x;have q:=fin s1.heap.objs.size (s1.heap.push { cls := .type "set_iterator",data := .fields [first,Qa0 0,.ref a,Qa0 es.size,Qa0 ep].toArray }) d vals hl hp z1 (fun b o x=>k2 b o (k1 b o x)) ⟨⟨o,k2 _ _ (k1 _ _ ho),hd⟩,hf,g,Jp (Jv (Jg ho) z1),z1,first,so _ _ (Je _) k2,Ji _ rfl⟩;subst e1;rw[<-e2,<-e3,<-e4] at q;show q
 have lv:(es.toList.map (·.2)).length=es.size:=by rw[Jc,Uj]
 cases hb:Mf w with
 | true=>
  have sL:w.params.followText "set-order" = true:=hb;show Qbs ?_;rw[if_neg (by change ¬((!w.params.followText "set-order" && _)=true);rw[sL];show Js)];show be (tz ?_);have pm:=Cz (w.params.setOrder a ep) es;show last s s.drawn _ _ rfl rfl rfl rfl (fun _ _ x=>x) (Je _) (by rw[Jc,pm.length_eq,Uj]) (pm.map _) fun h' it _ _ =>.text hb
 | false=>
  have sL:w.params.followText "set-order" = false:=hb;show Qbs ?_;cases hc:(!t.plain&&decide (es.size>1)) with
  | false=>
   rw[if_neg (by change ¬((!w.params.followText "set-order" && (!t.plain&&decide (es.size>1)))=true);rw[sL,hc];show Js)];show be (tz (last s s.drawn _ _ rfl rfl rfl rfl (fun _ _ x=>x) (Je _) lv (U9.refl _) fun h' it _ _ =>.places hb hc (l hb) 0 {Ue _,fun i _ z=>absurd z (Wb _),fun i _ _=>Ue _}))
  | true=>
   rw[if_pos (by change(!w.params.followText "set-order" && (!t.plain&&decide (es.size>1)))=true;rw[sL,hc];rfl)];show be (zt _ _ _ _ Qc3 fun ys d hy =>?_);have OQ:ys.length=es.size:=by rw[hy.length_eq,Qc3]
   show be (Qcs ?_ (by rw[Jc,OQ];show hz));have rm:U9 (ys.map fun k=>(es.toList.map (·.2)).getD k .none) (es.toList.map (·.2)):=by
    show(hy.map _).trans ?_;have:(Qcq es.size).map (fun k=>(es.toList.map (·.2)).getD k .none)=es.toList.map (·.2):=by
     show List.ext_getElem (by rw[Jc,Qc3,lv]) fun i h1 h2 =>?_;rw[Y0,List.getElem_range,Yu,Jd h2];rfl
    rw[this]
   show last { s with heap:=s.heap.push { cls := .type "tuple",data := .seq (ys.map fun(i:Nat)=>Qa0 i).toArray },drawn:=d } d _ _ rfl rfl rfl rfl (fun b o x=>Jb _ x) (by change _<=(s.heap.push _).objs.size;rw[Uh];show Yw _) (by rw[Jc,OQ]) rm fun h' it zL k' =>?_;show .drawn ys hy _ (Je _) ?_ _ 0 (k' _ _ (Ji _ rfl)) rfl;rw[Uh] at zL;show Jp zL
def ue (b:Mf w=true)(ho:s.heap.get? a=some o)(hd:o.data = .set es ep t)(hf:t.fits es.size=true)(q:Q (QdI (w.params.setOrder a ep) es) s):Qab (Qaa prog w) A (setWalk a) Q E s:=by
 show be (QaN ho hd hf (be (be (Qbd (tz (Qbs ?_))))));rw[if_pos (show({ program:=(Qaa prog w).prog,params:=(Qaa prog w).w.params }:Setting).params.followText "set-order" = true from b)];show be (Qbd (tz q))
def Ga (st:LW w a es ep t lo vals it i s.heap)(hv:vals[i]? = some v)
  (fin:∀h',(∀b o,b≠it->s.heap.get? b=some o->h'.get? b=some o)->h'.objs.size=s.heap.objs.size->LW w a es ep t lo vals it (i+1) h'->Q (some v) { s with heap:=h' }) :
  Qab (Qaa prog w) A (QbR (.ref it)) Q E s:=by
 obtain⟨⟨o,ho,hd⟩,hf,g,ne,low,first,so,e⟩:=st;have hT:s.TypeIs (.ref it) "set_iterator":=⟨_,e,rfl⟩
 show be (QaS (Qam hT gf (Qaq gf hT mU ?_ (o8 _))));unfold Builtin.«set_iterator.__next__» slotArgs setEntries setNext setsByText;dsimp only
 try simp -iota only [bind_assoc, ↓reduceIte]
 show be (tz (be (Qej e rfl (be (QaN ho hd hf (be (tz (Qbs ?_))))))));rw[if_neg (by simp)];cases so with
 | text b=>
  have b':=b;show be (QaN ho hd hf (be (Qbd (be (tz (be (Qbs ?_)))))));rw[if_pos (show({ program:=(Qaa prog w).prog,params:=(Qaa prog w).w.params }:Setting).params.followText "set-order" = true from b')];show Qbs ?_;rw[if_neg (by simp)];show be (ue b ho hd hf (tz ?_));have hx:((QdI (w.params.setOrder a ep) es)[(i:Int).toNat]?).map (fun e=>(e.2,(0:Int).toNat))=some (v,0):=by
   rw[U0,<-U3];rw[Jk] at hv;cases q:(QdI (w.params.setOrder a ep) es).toList[i]? with
   | none=>rw[q] at hv;cases hv
   | some y=>rw[q] at hv;cases hv;rfl
  rw[hx];show be (Qae e (by simp) fun h1 e1 s1=>be (Qae e1 (by simp) fun h2 e2 s2=>tz {_,rfl,tz (fin h2 (fun b o nb x=>s2.extBut b o nb (s1.extBut b o nb x)) (s2.1.trans s1.1) {{o,s2.extBut _ _ ne (s1.extBut _ _ ne ho),hd},hf,g,ne,low,_,.text b,?_})}));simpa [Qa0] using e2
 | places b d l z c=>
  have b':w.params.followText "set-order" = false:=b;have ZA:t.place.size=es.size:=by
   have:=hf;simp only[SetTable.fits,Jw,beq_iff_eq] at this;show this.1
  have hi:i<es.size:=by
   have:=(Jl.mp hv).1;rwa[Jc,Uj] at this
  show be (QaN ho hd hf (be (Qbd (be (tz (be (Qbs ?_)))))));rw[if_neg (by change ¬(w.params.followText "set-order" = true);rw[b'];show Js)];show Qbs ?_;rw[if_neg (by change ¬((!t.plain&&decide (es.size>1))=true);rw[d];show Js)];show be ?_;change Qab _ _ (if (!t.led && !es.isEmpty)=true then QfJ "set:maker-not-led" else pure ()) _ _ _;rw[l];show tz ?_;have En:QaK t.place ((z:Int)).toNat=i:=by
   rw[U0];have c2:=jo g.2 z;have h1:¬QaK t.place z<i:=fun q=>by
    have hs:QaK t.place z<t.place.size:=by lia
    have:=c2.hi _ hs (Je _);have:=c.lo _ hs q;lia
   have h2:¬i<QaK t.place z:=fun q=>by
    have hs:i<t.place.size:=by lia
    have:=c2.lo _ hs q;have:=c.hi _ hs (Je _);lia
   lia
  show tz ?_;rw[En,Jz hi,Jz (show i<t.place.size by lia)];have Sw:es[i].2=v:=by
   rw[Jk,U3,Jz hi] at hv
   injection hv
  dsimp only;rw[Sw];show be (Qae e (by simp) fun h1 e1 s1=>be (Qae e1 (by simp) fun h2 e2 s2=>tz {_,rfl,tz (fin h2 (fun b o nb x=>s2.extBut b o nb (s1.extBut b o nb x)) (s2.1.trans s1.1) {{o,s2.extBut _ _ ne (s1.extBut _ _ ne ho),hd},hf,g,ne,low,_,.places b d l (t.place[i]+1) ?_,?_})}))
  ·have c3:=jo g.2 (t.place[i]+1);rw[Cut.next g.2 ⋯ c3] at c3;show c3
  ·simpa [Qa0] using e2
 | drawn ys p tp tl nt ot n et dt=>
  show be (be (QeM et ?_));rw[dt];show tz ?_;dsimp only;rw[Jk] at hv;cases hy:ys[i]? with
  | none=>rw[hy] at hv;cases hv
  | some y=>
   rw[hy] at hv
   injection hv with hv
   have XB:=List.mem_range.mp (p.mem_iff.mp (J0 hy));have oP:(ys.map fun(k:Nat)=>Qa0 k).toArray[(i:Int).toNat]? = some (Qa0 y):=by
    rw[U0,Qcp,Jk,hy];rfl
   rw[oP];have Ec:es[y].2=v:=by
    rw[<-hv];dsimp only;rw[Yu,Jk,U3,Jz XB];rfl
   change Qab _ _ (setNextDrawn a ((y:Int)).toNat ((ep:Int)).toNat >>= _) _ _ _;rw[U0,U0];show be (be (QaN ho hd hf (Qbs ?_)));rw[if_neg (by simp),Jz XB];show tz ?_;change Qab _ _ (setField (.ref it) 1 (Qa0 ((i:Int)+1)) >>= fun _=>ret es[y].2) _ _ _;rw[Ec];show be (Qae e (by simp) fun h1 e1 s1=>tz {_,rfl,tz (fin h1 (fun b o nb x=>s1.extBut b o nb x) s1.1 {{o,s1.extBut _ _ ne ho,hd},hf,g,ne,low,_,.drawn ys p tp tl nt ot n (s1.extBut _ _ nt et) dt,?_})});simpa [Qa0] using e1
def FX {vals:List Fk}{it:KE}{Q:Option Fk->Gc->Prop}(hh:A.handled=none)(st:LW w a es ep t lo vals it es.size s.heap)(hl:vals.length=es.size)
  (fin:∀h',(∀b o,b≠it->s.heap.get? b=some o->h'.get? b=some o)->Q none { s with heap:=h' }) :
  Qab (Qaa prog w) A (QbR (.ref it)) Q E s:=by
 obtain⟨⟨o,ho,hd⟩,hf,g,ne,low,first,so,e⟩:=st;have hT:s.TypeIs (.ref it) "set_iterator":=⟨_,e,rfl⟩
 show be (QaS (Qam (name:=Wp "__next__") hT gf (Qaq gf hT mU ?_ (o8 _))));unfold Builtin.«set_iterator.__next__» slotArgs setEntries setNext setsByText;simp -iota only [List.isEmpty_nil,Bool.not_true,Qeh, ↓reduceIte,bind_assoc,Yo,bne_self_eq_false];dsimp only
 try simp -iota only [bind_assoc,Qeh, ↓reduceIte]
 show be (tz (be (Qej e rfl ?_)));dsimp only;show be (QaN ho hd hf (be (tz ?_)));show Qbs ?_;rw[if_neg (by simp)];cases so with
 | text b=>
  have b':w.params.followText "set-order" = true:=b;show be (QaN ho hd hf (be (Qbd (be (tz ?_)))));show be (Qbs ?_);rw[if_pos (show({ program:=(Qaa prog w).prog,params:=(Qaa prog w).w.params }:Setting).params.followText "set-order" = true from b')];show Qbs ?_;rw[if_neg (by simp)];show be (ue b ho hd hf (tz ?_));have hx:((QdI (w.params.setOrder a ep) es)[(es.size:Int).toNat]?).map (fun e=>(e.2,(0:Int).toNat))=none:=by
   have:(QdI (w.params.setOrder a ep) es).size=es.size:=by rw[<-hl,Jc,Uj]
   rw[U0,Uu ⋯];rfl
  rw[hx];show be (Qae e (by simp) fun h1 e1 s1 =>?_)
  wp_walk
  show Qa6 hh (be (QaG (T := "StopIteration") (b:=true) ⟨_,Ji _ rfl,rfl⟩ Qbv (tz (fin _ fun b o nb x =>?_))));show Jb _ (Jb _ (s1.extBut b o nb x))
 | places b d l z c=>
  have b':w.params.followText "set-order" = false:=b;have ZA:t.place.size=es.size:=by
   have:=hf;simp only[SetTable.fits,Jw,beq_iff_eq] at this;show this.1
  show be (QaN ho hd hf (be (Qbd (be (tz ?_)))));show be (Qbs ?_);rw[if_neg (by change ¬(w.params.followText "set-order" = true);rw[b'];show Js)];show Qbs ?_;rw[if_neg (by change ¬((!t.plain&&decide (es.size>1))=true);rw[d];show Js)];show be ?_;change Qab _ _ (if (!t.led && !es.isEmpty)=true then QfJ "set:maker-not-led" else pure ()) _ _ _;rw[l];show tz ?_;have En:es.size<=QaK t.place ((z:Int)).toNat:=by
   rw[U0];have c2:=jo g.2 z;show Nat.not_lt.mp fun q =>?_;have hs:QaK t.place z<t.place.size:=by lia
   have:=c2.hi _ hs (Je _);have:=c.lo _ hs q;lia
  show tz ?_;rw[Uu En];show be (Qae e (by simp) fun h1 e1 s1 =>?_)
  wp_walk
  show Qa6 hh (be (QaG (T := "StopIteration") (b:=true) ⟨_,Ji _ rfl,rfl⟩ Qbv (tz (fin _ fun b o nb x =>?_))));show Jb _ (Jb _ (s1.extBut b o nb x))
 | drawn ys p tp tl nt ot n et dt=>
  show be (be (QeM et ?_));rw[dt];show tz ?_;dsimp only;have OQ:ys.length=es.size:=by rw[p.length_eq,Qc3]
  have oP:(ys.map fun(k:Nat)=>Qa0 k).toArray[(es.size:Int).toNat]? = none:=by
   rw[U0,Uu (by rw[Ju,Jc,OQ];show Je _)]
  rw[oP];show be (Qae e (by simp) fun h0 e0 s0=>be (Qae (s:={ s with heap:=h0 }) e0 (by simp) fun h1 e1 s1 =>?_))
  wp_walk
  show Qa6 hh (be (QaG (T := "StopIteration") (b:=true) ⟨_,Ji _ rfl,rfl⟩ Qbv (tz (fin _ fun b o nb x =>?_))));show Jb _ (Jb _ (s1.extBut b o nb (s0.extBut b o nb x)))
end
section
variable {prog:Qac}{w:Qag}{a:KE}{es:Array (Int×Fk)}{ep:Nat}{t:Qdc}{lo:Nat}
def Gy {it S:KE}{vals:List Fk}(hh:A.handled=none)(hl:vals.length=es.size)(n1:it≠S)(n2:a≠S)(hS:S<lo):
  G7 prog w A it S (· = it) es.size (fun i v _=>vals[i]? = some v) (fun _ _=>True) (fun i h=>LW w a es ep t lo vals it i h) where
 sfp:=fun z=>n1 z.symm
 item:=fun i s Q E hi st _ q=>Ga st (Jd ⋯) fun h' k' z' st'=>q _ h' s.toks (fun b o nb x=>k' b o nb x) st' (Jd ⋯) fun _ _ _=>trivial
 stop:=fun s Q E st _ q=>FX hh st hl fun h' k'=>q h' s.toks fun b o nb x=>k' b o nb x
 keepS:=fun i h h' st k=>st.keep fun b o e hb=>k b o (fun z=>by
  rcases hb with rfl|hb
  ·show n2 z
  ·subst z;show absurd hS (Nat.not_lt.mpr hb)) e
 keepP:=fun j v h h' p k=>p
def IH:isSubtype (.type "set") (.type "set")=pure true:=rfl
def zD {A:QaB}{S:KE}{o:Obj}(hh:A.in1.handled=none){s:Gc}{Z:Qb6->Gc->Prop}{res:Fk}{c0:Nat}(ho:s.heap.get? a=some o)(hx:o.ExactSet)(hd:o.data = .set es ep t)(hf:t.fits es.size=true)(g:eB t)(l:Mf w=false->t.led=true)(hz:es.size<=W1)
  (WE:a≠S) (hS:s.heap.get? S=some { cls := .type "list",data := .seq #[] c0 })
  (fin:∀h' tk d acc c vals,Keeps s.heap h' (· = S)->vals.length=es.size->U9 vals (es.toList.map (·.2))->pE h' S es.size (fun i v _=>vals[i]? = some v) (fun _ _=>True) acc c->Z (.ok (.ret res)) { s with heap:=h',toks:=tk,drawn:=d }) :
  Qab (Qaa prog w) A.in1 (QbE (.ref S) (.ref a) res) (qP prog w A Z) (fun e s'=>Z (.error e) s') s:=by
 have hT:s.TypeIs (.ref a) "set":=⟨o,ho,hx.1⟩
 have yp:Qa4 (.ref S) (.ref a)=false:=by simp[Qa4,QaD WE]
 have low:=Jg hS;show be (QaX hT ?_);simp only[yp,show(Qa2 "set" == Qa2 "list")=false by decide,show(Qa2 "set" == Qa2 "tuple")=false by decide,Qec,Qeh,if_false];show be (GR ho hx hd hf g l hz fun it h1 d vals hl hp zL k1 tG =>?_);have Eo:Qa1 { s with heap:=h1,drawn:=d } (.ref a) "set":=⟨o,k1 _ _ ho,hx.1⟩
 have hint:∀(Q:Bool->Gc->Prop),Q false { s with heap:=h1,drawn:=d } -> Qab (Qaa prog w) A.in1 (Qcm (.ref a)) Q (fun e s'=>Z (.error e) s') { s with heap:=h1,drawn:=d }:=fun Q q=>by
  show be (QcQ Eo F.slot_set_len.lookup ?_);show be (QaG Eo IH ?_);show Qbk (fun z=>absurd z ∅) fun _=>Qbk (fun _ =>?_) fun z=>absurd (show _=true by decide +kernel) z;show be (QaX Eo (tz q))
 show be (Qah (hint _ ?_));have oj:=k1 _ _ hS;have nS:it≠S:=fun z=>by subst z;show absurd low (Nat.not_lt.mpr zL)
 have go:∀(h:Heap) (c tk:Nat),Keeps h1 h (· = S)->h.get? S=some { cls := .type "list",data := .seq #[] c } -> QaY (Qaa prog w) A (.builtin "list.extend.loop" ⟨[.ref S,.ref it,res],[]⟩) Z { s with heap:=h,toks:=tk,drawn:=d }:=fun h c tk k ob=>by
  have Fd:=Gy (prog:=prog) (w:=w) (ep:=ep) (t:=t) hh hl nS WE low;show mv Fd hz (s:={ s with drawn:=d }) (fun h' tk acc c k' G=>fin h' tk d acc c vals (fun b o nb q=>k' b o (fun z=>z.elim (fun z=>by subst z;show absurd (Jg q) (Nat.not_lt.mpr zL)) nb) (k1 b o q)) hl hp G) es.size 0 h tk #[] c ⋯ (Fd.keepS _ _ _ tG k) {ob,rfl,.nil,fun j v e=>by simp at e} fun b o nb q=>k b o (fun z=>nb (.inr z)) q
 show Qbk (fun _ =>?_) fun z=>absurd (show _=true by decide +kernel) z;show be (Qbj (be ?_));have o1:=J4 (QaJ (·.push Qcn)) oj rfl;have o2:=J4 (QaJ (·.pop)) o1 rfl;show be (Qa9 oj rfl (Qa9 o1 rfl (tz {QaW Qa3 _,go _ _ _ (fun b o nb q =>?_) o2})));show(J7 _ _ (QaD nb)).trans ((J7 _ _ (QaD nb)).trans q)
def xE {o:Obj}(hh:A.handled=none){s:Gc}{Q:List Fk->Gc->Prop}(ho:s.heap.get? a=some o)(hx:o.ExactSet)(hd:o.data = .set es ep t)(hf:t.fits es.size=true)(g:eB t)(l:Mf w=false->t.led=true)(hz:es.size<=W1)
  (fin:∀h' tk d vals,s.heap.objs.size<=h'.objs.size->(∀b o,s.heap.get? b=some o->h'.get? b=some o)->U9 vals (es.toList.map (·.2))->Q vals { s with heap:=h',toks:=tk,drawn:=d }):Qab (Qaa prog w) A (collect (.ref a)) Q E s:=by
 show be (wpAny_runValue (QaH PySem.F.entry_proto_collect (be (QaO (tz {QaW PySem.F.plain_list_iadd _,QaH PySem.F.entry_list_iadd ?_})))));have k0:∀b o,s.heap.get? b=some o->(s.heap.push { cls := .type "list",data := .seq ([]:List Fk).toArray }).get? b=some o:=fun b o x=>Jb _ x;show zD
  (Z:=fun r s'=>match r with
   | .ok (.ret v)=>Qab (Qaa prog w) A (match v with
    | .ref a=>(load a >>= fun o=>match o.data with
     | .seq xs _=>pure xs.toList
     | _=>QfJ "internal:collect")
    | _=>QfJ "internal:collect") Q E s'
   | .ok _=>False
   | .error e=>E e s') hh (k0 _ _ ho) hx hd hf g l hz (Jp (Jg ho)) (Ji _ rfl) fun h' tk d acc c vals k hl hp G =>?_
 show be (QeM G.ob (tz ?_));have e:acc.toList=vals:=by
  show List.ext_getElem? fun j =>?_
  by_cases hj:j<acc.size
  ·rw[U3,Jz hj];show(G.all j _ (Jz hj)).symm
  ·rw[U3,Uu ⋯,Qgl (by have:=G.sz;lia)]
 rw[e];show fin h' tk d vals (Yd (Jg G.ob)) (fun b o x=>k b o (Jp (Jg x)) (k0 b o x)) hp
end
def pf {α:Type}[DecidableEq α]:∀{D ns:List α},D.Nodup->(∀k∈D,k∈ns)->ns.length<=D.length->U9 ns D
 | [],ns,_,_,hl=>by rw[U1 (Nat.le_zero.mp hl)]
 | k::D,ns,nd,sub,hl=>by
  obtain⟨nk,nd'⟩:=U8.mp nd;have hk:=sub k Jj;show(QgA hk).trans (U9.cons k (pf nd' (fun x hx =>?_) ?_))
  ·show(List.mem_erase_of_ne (fun z=>nk (by rw[<-z];show hx))).mpr (sub x (Jh _ hx))
  ·rw[QfS hk];rw[Jo] at hl;lia
def xS:∀{vs:List Fk},(∀v∈vs,∃k t,v = .int k t)->∃ns,Qeu vs ns/\∀k,k∈ns ↔ ∃t,QdP k t∈vs
 | [],_=>⟨[],.nil,fun k=>⟨(nofun),(fun⟨_,h⟩=>nomatch h)⟩⟩
 | v::vs,h=>by
  obtain⟨ns,h1,h2⟩:=xS fun u hu=>h u (Jh _ hu);obtain⟨k,t,rfl⟩:=h v Jj;show{k::ns,.cons k t h1,fun j=>{fun hj =>?_,fun⟨u,hu⟩=>?_}}
  ·rcases Jq.mp hj with rfl|hj
   ·show⟨t,Jj⟩
   ·obtain⟨u,hu⟩:=(h2 j).mp hj;show{u,Jh _ hu}
  ·rcases Jq.mp hu with e|hu
   ·cases e;show Jj
   ·show Jh _ ((h2 j).mpr ⟨u,hu⟩)
def wQ:∀{vs:List Fk} {ns:List Int},Qeu vs ns->vs.length=ns.length
 | _,_,.nil=>rfl
 | _,_,.cons _ _ h=>by rw[Jo,Jo,wQ h]
def Inv.drawn {σ:St}{H:Hp}{s:Gc}(d:Drawn)(I:Inv X pins σ H s):Inv X pins σ H { s with drawn:=d }:=⟨I.ok,I.os,I.bare,I.base,I.loc,I.cell,I.free,I.freeC,I.pin,I.bw,I.len⟩
def zm {X:Cx}(hc:X.calm=true):bE X (.builtin "sorted") (fun xs H Q=>∃(a:KE) (D:List Int),xs=[.ref a]/\H a=some (iw (Cu X.prog X.w) a D)/\D.Nodup/\D.length<64 /\
  ∀(ms:List Int) (q:KE) (H':Hp),ms.Perm D->ms.Pairwise (· <= ·)->jI H q (.lst (ms.map V.int)) H'->Q (.ref q) H'):=by
 intro pins s σ H xs us Q I r h;obtain⟨a,D,rfl,ha,nd,hl,q⟩:=h;obtain⟨u,rfl,ru⟩:=vals1 r;cases ru;obtain⟨HK,o',Es,ep',t',wK,DZ,g',l'⟩:=(show bB X.prog X.w H s.heap a (iw (Cu X.prog X.w) a D) from I.bw a _ ha).1;obtain⟨o,es,ep,t,ho,ex,hd,el,mem,bnd,fit,len⟩:=id HK;obtain⟨g,l⟩:eB t/\(X.w.params.followText "set-order" = false->t.led=true):=by
  rw[ho] at wK;cases wK;rw[hd] at DZ;cases DZ;show⟨g',l'⟩
 show Qfr kind_sorted plain_sorted entry_sorted (args_sorted1 _) ?_;unfold Builtin.«sorted»;show be (m:=checkCount "sorted" 1 1 _) (tz ?_);show be (xE (A:=X.A.in1) (show X.A.in1.handled=none from I.ok.hd hc) ho ex hd fit g l (Qe3 bnd) fun h1 tk d vals hle k1 pm =>?_);have hv:∀v∈vals,∃k t,v = .int k t:=fun v hv=>by
  obtain⟨e,he,rfl⟩:=Ul.mp (pm.mem_iff.mp hv);obtain⟨⟨k,hk,_⟩,_⟩:=el e he;obtain⟨t,ht⟩:=QcZ hk;show⟨k,t,ht⟩
 obtain⟨ns,hI,DN⟩:=xS hv;have hlen:vals.length=D.length:=by rw[pm.length_eq,Jc,Uj,len]
 have hnl:=wQ hI;have pD:U9 ns D:=pf nd (fun k hk=>by
  obtain⟨e,he,h2⟩:=(mem k).mp (decide_eq_true hk);obtain⟨t,ht⟩:=QcZ h2;show(DN k).mpr ⟨t,by rw[<-ht];show pm.mem_iff.mpr (Ul.mpr ⟨e,he,rfl⟩)⟩) ⋯
 show be (wpAny_newList ?_ (Jf (show vals.length<=64 by lia) ∅));have ob:(h1.push (QcC "list" vals.toArray 0)).get? h1.objs.size=some (QcC "list" vals.toArray 0):=Ji _ rfl;show be (Qah (Qaq slot_list_sort {_,ob,rfl} entry_list_sort (list_sort_tree ob hI ⋯ fun out ms a1 a2 a3=>{_,rfl,tz {_,rfl,?_}}) (args_list_sort _)));obtain⟨e,he⟩:=sortedHeap_at (out:=out) ob;have hm:ms.length=D.length:=(a2.trans pD).length_eq;have hr:=mM a1;have kk:∀b o,s.heap.get? b=some o->(sortedHeap (h1.push (QcC "list" vals.toArray 0)) h1.objs.size vals out).get? b=some o:=fun b Nu x=>by
  have x1:=k1 b Nu x;rw[sortedHeap_old (Jp (Jg x1)) (by rw[size_push'];show Qci (Jg x1)),Heap.get?_push_ne _ _ _ (Jp (Jg x1))];show x1
 show{.ref h1.objs.size,_,(I.laid (a:=h1.objs.size) (o := .lst (ms.map V.int)) (t':=tk) kk hle {?_,out.toList,e,hr,?_}).drawn d,rfl,q ms _ _ (a2.trans pD) a3 {I.bw.fresh hle,rfl}}
 ·rw[Jc];show Jf (show ms.length<=64 by lia) ∅
 ·simpa [QcC] using he
def JH:Qbu (.type "list") "keys" = pure none:=rfl
def PB:Qbu (.type "list") "__getattr__" = pure none:=rfl
def ou:isSubtype (.type "AttributeError") (.type "AttributeError")=pure true:=rfl
section
variable {prog:Qac}{w:Qag}{A:QaB}{E:Fk->Gc->Prop}{h:Heap}{g:Array Qfa}{d:Drawn}{t:Nat}{os:OsState}{a:KE}{o:Obj}
def zd {tk:Tok}{Q:Fin->Gc->Prop}(hx:h.get? a=some o)(hc:o.cls = .type "list")(rO:o.dict=none){xs:Array Fk}{n:Nat}(hd:o.data = .seq xs n)(hh:A.handled=none)
  (hq:∀e h' t',(∀b o,h.get? b=some o->h'.get? b=some o)->(∃oe,h'.get? e=some oe/\oe.cls = .type "AttributeError")->E (.ref e) ⟨h',g,d,t',os⟩) :
  Qab (Qaa prog w) A (Builtin.«object.__getattribute__» ⟨[.ref a,.str "keys" tk],[]⟩) Q E ⟨h,g,d,t,os⟩:=by
 have hT:(⟨h,g,d,t,os⟩:Gc).TypeIs (.ref a) "list":=⟨_,hx,hc⟩
 have f4:=JH
 repeat (any_goals (first|assumption|wp_step))
 rw[hd]
 repeat (any_goals (first|assumption|wp_step))
 rw[rO,hc]
 repeat (any_goals (first|assumption|wp_step))
 have f9:=ou;unfold Qf9 noteAttr
 wp_walk
 repeat (any_goals (first|assumption|wp_step))
 show Qa6 hh (hq _ _ _ (fun b o' x =>?_) {_,J4 _ (Ji _ rfl) rfl,rfl});have x1:=Jb { cls:=Qa2 "tuple",data:=Data.seq #[QcI (Wp (toString "'" ++ toString ((Qdp "list").elim "list" fun x=>x.tpName)++toString "' object has no attribute '")++Wp "keys" ++ Wp "'") t] } x;rw[J7 _ _ (Uq (Jg x1))];show Jb _ x1
def DS {R:Qb6->Gc->Prop}(hx:h.get? a=some o)(hc:o.cls = .type "list")(rO:o.dict=none){xs:Array Fk}{n:Nat}(hd:o.data = .seq xs n)(hh:A.handled=none)
  (hq:∀e h' t',(∀b o,h.get? b=some o->h'.get? b=some o)->(∃oe,h'.get? e=some oe/\oe.cls = .type "AttributeError")->R (.error (.ref e)) ⟨h',g,d,t',os⟩) :
  QaY (Qaa prog w) A (.call (.builtin "list.__getattribute__") ⟨[.ref a,.str "keys" tk],[]⟩) R ⟨h,g,d,t,os⟩:=
 Qbf F.slot_list_getattribute.plain F.entry_list_ga (F.slot_list_getattribute.check _ _ _ _ _ _ _ _ (show(⟨h,g,d,t,os⟩:Gc).TypeIs (.ref a) "list" from⟨_,hx,hc⟩) (F.args_list_getattribute_2 _ _) (zd hx hc rO hd hh hq))
def CG (hx:h.get? a=some o)(hc:o.cls = .type "list")(rO:o.dict=none){xs:Array Fk}{n:Nat}(hd:o.data = .seq xs n)(hh:A.handled=none)
  (hq:∀h' t',(∀b o,h.get? b=some o->h'.get? b=some o)->Q none ⟨h',g,d,t',os⟩):Qab (Qaa prog w) A (getAttr? (.ref a) "keys") Q E ⟨h,g,d,t,os⟩:=by
 have hT:(⟨h,g,d,t+1,os⟩:Gc).TypeIs (.ref a) "list":=⟨_,hx,hc⟩
 have f2:=F.slot_list_getattribute.lookup;have f3:=F.slot_list_getattribute.bind (.ref a);have f4:=PB
 repeat (any_goals (first|assumption|wp_step))
 show DS hx hc rO hd hh fun e h' t' k hoe =>?_;have QY:Qa1 ⟨h',g,d,t',os⟩ (.ref e) "AttributeError":=hoe;have f5:=ou;show be (QaG QY f5 ?_)
 repeat (any_goals (first|assumption|wp_step))
 show hq h' t' k
end
def cG:entryFor table "dict.update.loop" = some Builtin.«dict.update.loop»:=entryFor_of_fast (by kernel_rfl)
def cH:plainId "dict.update.loop" = true:=∅
section
variable {prog:Qac}{w:Qag}{K:Type}[DecidableEq K]{knd:KeyKind prog w K}{A:QaB}{E:Fk->Gc->Prop}
def lY (knd:KeyKind prog w K)(h:Heap)(v:Fk)(kv:K×Fk):Prop:=∃tp o n ku,v = .ref tp/\h.get? tp=some o/\o.cls = .type "tuple" /\ o.data = .seq #[ku,kv.2] n/\knd.is kv.1 ku=true
def rG {s:Gc}{R:Qb6->Gc->Prop}{it l d:KE}{items:Array Fk}{kvs:List (K×Fk)}{g:Heap}(hh:A.in1.handled=none)(hl:g.IsList l items)(hn:items.size=kvs.length)(hz:kvs.length<=100000)
  (hp:∀(j:Nat) v kv,items[j]? = some v->kvs[j]? = some kv->lY knd g v kv) (lit:∀b o,g.get? b=some o->b≠it/\b≠d) (ne:d≠it)
  (fin:∀h tk,(∀b o,b≠d->b≠it->g.get? b=some o->h.get? b=some o)->h.DictOf knd d (Qda [] kvs)->R (.ok (.ret .none)) { s with heap:=h,toks:=tk }) :
  ∀k i h tk acc,i+k=kvs.length->acc.length<=i->Qda acc (kvs.drop i)=Qda [] kvs->(∀b o,b≠d->b≠it->g.get? b=some o->h.get? b=some o)->h.IsListIter it l i->h.DictOf knd d acc ->
   QaY (Qaa prog w) A (.builtin "dict.update.loop" ⟨[.ref d,.ref it,Qa0 i,.none],[]⟩) R { s with heap:=h,toks:=tk }
 | 0,i,h,tk,acc,hk,ha,hm,kp,hi,hd=>by
  have e:i=kvs.length:=by lia
  subst e;have Io:h.IsList l items:=by
   obtain⟨o,ho,r⟩:=hl;show{o,kp _ _ (lit _ _ ho).2 (lit _ _ ho).1 ho,r}
  show QaH cG (be (wpAny_pyNext_list_end hh hi Io (by rw[Uu ⋯]) fun h' eb =>?_));show be (tz (tz (fin h' tk (fun b o nd ni x=>eb b o ni (kp b o nd ni x)) ?_)));rw[QeJ] at hm;rw[<-hm];obtain⟨o,es,ep,ho,r⟩:=hd;show{o,es,ep,eb _ _ ne ho,r}
 | k+1,i,h,tk,acc,hk,ha,hm,kp,hi,hd=>by
  have jq:i<kvs.length:=by lia
  have Io:h.IsList l items:=by
   obtain⟨o,ho,r⟩:=hl;show{o,kp _ _ (lit _ _ ho).2 (lit _ _ ho).1 ho,r}
  have zL:items[i]? = some items[i]:=Jz ⋯;obtain⟨tp,o,n,ku,ev,ho,hc,AG,hkey⟩:=hp i _ _ zL (Jd jq);show QaH cG (be (wpAny_pyNext_list_item hi Io zL fun h1 hi1 Ib =>?_));rw[ev];have Ly:=Ib.extBut _ _ (lit _ _ ho).1 (kp _ _ (lit _ _ ho).2 (lit _ _ ho).1 ho);have LZ:h1.DictOf knd d acc:=by
   obtain⟨o,es,ep,ho,r⟩:=hd;show{o,es,ep,Ib.extBut _ _ ne ho,r}
  have hT:Qa1 { s with heap:=h1,toks:=tk } (.ref tp) "tuple":=⟨o,Ly,hc⟩
  show be (Qah (be (Qf7 (be (QaX hT (be (Qav Ly AG (tz (Qah (QcX hkey LZ (fun h2 N3 sb2=>(tz {QaW cH _,?_})) (Jf (show acc.length<=100000 by lia) ∅)))))))))));have:=rG hh hl hn hz hp lit ne fin k (i+1) h2 (tk+1) (QeN acc kvs[i].1 kvs[i].2) ⋯ ?_ ?_ (fun b o nd ni x=>sb2.extBut b o nd (Ib.extBut b o ni (kp b o nd ni x))) ?_ N3
  ·show this
  ·show Jf ?_ (Wd ha);unfold QeN
   split
   ·rw[Jc];show Yw _
   ·rw[Jn];show Je _
  ·rw[<-hm,Qc0 jq]
   rfl
  ·obtain⟨oi,e1,r⟩:=hi1;show{oi,sb2.extBut _ _ (QaD ne) e1,r}
def zj {Q:Fk->Gc->Prop}{l:KE}{items:Array Fk}{kvs:List (K×Fk)}{ol:Obj}{n:Nat}(hh:A.handled=none)(ho:s.heap.get? l=some ol)(hc:ol.cls = .type "list")(rO:ol.dict=none)(hd:ol.data = .seq items n)(hn:items.size=kvs.length)(hz:kvs.length<=100000)
  (hp:∀(j:Nat) v kv,items[j]? = some v->kvs[j]? = some kv->lY knd s.heap v kv)
  (fin:∀h tk,(∀b o,s.heap.get? b=some o->h.get? b=some o)->h.DictOf knd s.heap.objs.size (Qda [] kvs)->Q (.ref s.heap.objs.size) { s with heap:=h,toks:=tk }) :
  Qab (Qaa prog w) A (call (.type "dict") [.ref l]) Q E s:=by
 show Qdb (Q₁:=fun obj s₁=>obj = .ref s.heap.objs.size/\s₁={ s with heap:=s.heap.push { cls := .type "dict",data := .dict #[] } }) Qfd (Qeb _) QeT (Qfx _ ⟨rfl,rfl⟩) ?_;rintro obj s1 ⟨rfl,rfl⟩;have new:(s.heap.push { cls := .type "dict",data := .dict #[] }).DictOf knd s.heap.objs.size []:=Qc1 s.heap;have k0:∀b o,s.heap.get? b=some o->(s.heap.push { cls := .type "dict",data := .dict #[] }).get? b=some o:=fun b o x=>Jb _ x;show{new.typeIs,QeD _ _,(be (be (Qd5 new.typeIs (tz ?_))))};have hT:Qa1 { s with heap:=s.heap.push { cls := .type "dict",data := .dict #[] } } (.ref l) "list":=⟨ol,k0 _ _ ho,hc⟩
 show be (QaX hT (be (CG (k0 _ _ ho) hc rO hd hh fun h1 t1 k1 =>?_)));have kk:=fun b o x=>k1 b o (k0 b o x);show be (Qbj (be (Qcr {ol,kk _ _ ho,hc,n,hd} ?_)));have hS:s.heap.objs.size<h1.objs.size:=by
  obtain⟨o,es,ep,e,_⟩:=new;show Jg (k1 _ _ e)
 show tz {QaW cH _,?_};have low:∀b o,s.heap.get? b=some o->b≠h1.objs.size/\b≠s.heap.objs.size:=fun b o x=>⟨Jp (Jg (kk b o x)),Jp (Jg x)⟩
 show rG (A:=A.in1) hh ⟨ol,ho,hc,n,hd⟩ hn hz hp low (Jp hS) (fun h tk k dd=>{rfl,fin h tk (fun b o x=>k b o (low b o x).2 (low b o x).1 x) dd}) kvs.length 0 _ _ [] ⋯ (Je _) rfl (fun b o nd ni x=>Jb _ (kk b o x)) {_,Ji _ rfl,rfl,rfl} ?_;obtain⟨o,es,ep,e,r⟩:=new;show{o,es,ep,Jb _ (k1 _ _ e),r}
end
section
variable {X:Cx}{pins:List (KE×Obj)}{σ:St}{H:Hp}{s:Gc}
def uo (I:Inv X pins σ H s)(as:List KE):∀{kvs:List (Key×V)},as.length=kvs.length->(∀(j:Nat) b kv,as[j]? = some b->kvs[j]? = some kv->aV X.K H b [kV kv.1,kv.2]) ->
  ∃vs,KV kvs vs/\∀(j:Nat) b kv,as[j]? = some b->vs[j]? = some kv->lY (bD X.prog X.w) s.heap (.ref b) kv:=by
 induction as with
 | nil=>
  intro kvs hl _;rw[U1 hl.symm];show{[],.nil,fun j b kv h=>by simp at h}
 | cons a as ih=>
  intro kvs hl h;cases kvs with
  | nil=>cases hl
  | cons p kvs=>
  obtain⟨vs,h1,h2⟩:=ih (by simpa using hl) fun j b kv e1 e2=>h (j+1) b kv e1 e2;obtain⟨aF,r,⟨o,e1,e2,n,e3⟩,_⟩:=I.tuple (h 0 a p rfl rfl);obtain⟨ku,vu,rfl,r1,r2⟩:=r.two;show{(p.1,vu)::vs,.cons ⟨rfl,r2⟩ h1,fun j b kv e4 e5 =>?_};cases j with
  | zero=>
   cases e4;cases e5;show{a,o,n,ku,rfl,e1,e2,e3,nJ r1}
  | succ j=>show h2 j b kv e4 e5
def lU:∀{as:List KE} {aF:List Fk},Vals (as.map V.ref) aF->aF=as.map Qaj
 | [],_,rv=>by cases rv;rfl
 | a::as,_,rv=>by
  obtain⟨v,r,rfl,rv1,rv2⟩:=rv.hd;cases rv1;rw[lU rv2];rfl
def sA (K:Ja)(hc:X.calm=true)(hK:X.K=K:=by rfl):bE X (.type "dict") (fun xs H Q=>∃(p:KE) (as:List KE) (kvs:List (Key×V)),xs=[.ref p]/\aW K H p (as.map V.ref)/\as.length=kvs.length/\kvs.length<=100000 /\
  (∀(j:Nat) b kv,as[j]? = some b->kvs[j]? = some kv->aV K H b [kV kv.1,kv.2])/\∀d H',jI H d (.dK (cN [] kvs)) H'->Q (.ref d) H'):=by
 subst hK;intro pins s σ H xs us Q I r h;obtain⟨p,as,kvs,rfl,hp,hl,hz,ht,q⟩:=h;obtain⟨u,rfl,ru⟩:=vals1 r;cases ru;obtain⟨aF,rv,⟨o,n,e1,e2,e3,e4⟩,_⟩:=I.list hp;obtain⟨vs,kv,pa⟩:=uo I _ hl ht;have hits:=lU rv;have kl:=kv.length;show zj (knd:=bD X.prog X.w) (kvs:=vs) (I.ok.hd hc) e1 e2 e3 e4 (by rw[hits];simp;lia) ⋯ (fun j v kw h1 h2 =>?_) fun h1 tk k1 dd =>?_
 ·rw[hits] at h1;simp only[Qcp,Jk] at h1;cases e:as[j]? with
  | none=>rw[e] at h1;cases h1
  | some b=>rw[e] at h1;cases h1;show pa j b kw e h2
 ·have ml:=eI kvs [];show{.ref s.heap.objs.size,_,I.laid (o := .dK (cN [] kvs)) k1 (Je _) {Jf (show _<=100000 by simp at ml;lia) ∅,(beq_eq_false_iff_ne.mpr (Uq I.big)),_,KV.merge kv .nil,dd},rfl,q _ _ {I.bw.fresh (Je _),rfl}}
end
section
variable {X:Cx}
def K1:Ic X "list.remove" (fun x vs H Q=>∃(l:KE) (xs:List Str) (y:Str),x = .ref l/\vs=[.str y]/\H l=some (.lst (xs.map V.str))/\y∈xs/\∀H',Eu H l (.lst ((xs.erase y).map V.str)) H'->Q .non H'):=by
 intro pins s σ H x vs v us Q I rx rv h;obtain⟨l,xs,y,rfl,rfl,hH,hy,q⟩:=h;cases rx;obtain⟨u,rfl,ru⟩:=vals1 rv;obtain⟨t,rfl⟩:=ru;obtain⟨z,aF,n,r,hl,e⟩:=I.tm hH;have hlen:=r.length;rw[Jc] at hlen;obtain⟨j,hj⟩:∃j,j=xs.idxOf y:=⟨_,rfl⟩
 have jl:j<xs.length:=by rw[hj];show List.idxOf_lt_length_iff.mpr hy
 have jy:xs[j]=y:=by simp only[hj];show List.getElem_idxOf (by rw[<-hj];show jl)
 have jn:∀m (hm:m<xs.length),m<j->xs[m]≠y:=fun m hm hmj w=>by
  have:m<List.findIdx (· == y) xs:=by rw[hj] at hmj;show hmj
  have:=Qf2 this;rw[w] at this;simp at this
 let ev:Fk->Bool:=fun u=>match u with | .str a _=>a==y|_=>false
 have at':∀m (hm:m<aF.length),∃t',aF[m] = .str (xs[m]'⋯) t':=fun m hm=>by
  obtain⟨a,h1,h2⟩:=jP r (i:=m) (v:=aF[m]) (by simp[hm]);rw[Jk,Jd ⋯] at h1;cases h1;show h2
 show QbD F.slot_list_remove {_,e,rfl} F.entry_list_remove (F.args_list_remove_2 _ _) (MeetsSeq.list_remove l aF.toArray n (.str y t) ev (fun w hw =>?_) j (by rw[Ju];lia) ?_ ?_ (by rw[Ju];lia)) {e,?_}
 ·have hw:w∈aF:=by simpa using hw
  obtain⟨i,hi,ew⟩:=Yk.mp hw;obtain⟨t',e'⟩:=at' i hi;rw[<-ew,e'];have z:=SeqRoads2.EqGives.str (xs[i]'⋯) y t' t;rw[show((xs[i]'⋯).cps.toList==y.cps.toList)=((xs[i]'⋯)==y) from by rw[Y9,beq_iff_eq,beq_iff_eq,Array.toList_inj];show⟨fun q=>by generalize xs[i]'⋯=x at q ⊢;cases x;cases y;simp_all,fun q=>by rw[q]⟩] at z;show z
 ·obtain⟨t',e'⟩:=at' j ⋯;change ev aF[j]=true;rw[e'];change(xs[j]==y)=true;rw[jy];simp
 ·intro m hm hmj;have yZ:m<aF.length:=by rw[Ju] at hm;show hm
  obtain⟨t',e'⟩:=at' m yZ;change ev aF[m]=false;rw[e'];change(xs[m]==y)=false;simpa using jn m ⋯ hmj
 ·have ex:(xs.map V.str).eraseIdx j=(xs.erase y).map V.str:=by
   rw[List.erase_eq_eraseIdx_of_idxOf (i:=j) hj.symm,Yx,Yx,Jx,QfQ,QfR]
  show{.non,_,I.JV (ys:=(xs.map V.str).eraseIdx j) (its':=aF.eraseIdx j) hH e ?_ (qH j r) (by rw[QdS];split<;>lia),rfl,?_}
  ·simp[Array.eraseIdxIfInBounds,show j<aF.length by lia]
  ·show q _ {by rw[ex]}
end
section
variable {M:Model}{A:QaB}{E:Fk->Gc->Prop}{s:Gc}{env:Env}
variable {nm q:Str}{C N:KE}{bs bm:List Fk}{hdct:Bool}{sn:List Str}{sub:List Fk}{ab:Bool}{col:Option Bool}{dd:Option KE}{k0 k1 k2 k3 k5:Option Fk}{newId:String}
def DW (hh:A.handled=none)(hb:bm.contains (.type "BaseException")=true)
  (h:Qab M A (QaP x env) (fun v s1=>∃e o,v = .ref e/\s1.heap.get? C=some (QbZ nm q C N bs bm hdct sn sub ab col dd k0 k1 k2 k3 k5 newId)/\s1.heap.get? e=some o/\o.cls = .ref C/\Raw o/\E (.ref e) s1) E s) :
  Qab M A (exec (.Raise (some x) none pos) env) Q E s:=by
 have Z5:(Qaj C::bm).contains (.type "BaseException")=true:=by rw[List.contains_cons,hb,Bool.or_true]
 show be (Qbe (be (be (Qbc h (fun v s1 h1=>be (Qbe (tz ?_))) fun _ _ z=>z))));obtain⟨e,o,rfl,hC,he,hc,⟨t,hd⟩,hE⟩:=h1;obtain⟨oc,od,odt,xP⟩:=o;subst hc hd;obtain⟨hp,g,d,tk,os⟩:=s1
 repeat (first|with_reducible show Qct he ?_|with_reducible show Qct hC ?_|(with_reducible show wpAny_isSubtype_exc hC ?_;rw[Z5])|wp_step)
 show Qa6 hh hE
end
section
variable {P:Qac}{w:Qag}{K:Ja}{mg:Str->Option Fk}{base:Heap}{N:List Str}{qual:Str}{scope:QbU}{f:KE}{cd:Fk}{A:QaB}{outer:List Env}{s0:Gc}{H0:Hp}{E:XK}
def KJ (C:KE)(H0:Hp)(E:XK)(sp:Sp)(t:TA):TS:=fun _ σ H=>EC C sp t σ H fun v H2=>∃e dx,v = .ref e/\H2 e=some (Dy e C dx)/\H0 e=none/\E (.ref C) (some dx) (jY H2 e)
def uP {fi C:KE}{fd:Qal}{ps:List Str}{sp:Sp}{x:Str}{p dR pos:Pos}{a:QaF}{as:List QaF}{t:TA}(M:O1 K C fi)(F:aU P w K mg base dX k fi fd ps sp)(hr:dw (k+1) (A.deeper (Qb5 qual scope s0.heap.objs.size f cd)))
  (hg:Gl (oJ (xj P w base) P w K mg base N qual scope f cd A outer s0 H0 E) x) (hm:mg x=some (.ref C)) (hb:Binds K fd ps []) (ha:PA (oJ (xj P w base) P w K mg base N qual scope f cd A outer s0 H0 E) (a::as) t) (sD:(x==("__debug__" : Str))=false:=by decide)
  (he:Qaf (a::as) (Qb5 qual scope s0.heap.objs.size f cd)=(false,QaP a (Qb5 qual scope s0.heap.objs.size f cd))::Qaf as (Qb5 qual scope s0.heap.objs.size f cd):=by rfl) (oP:(QbT dR (Qaf as (Qb5 qual scope s0.heap.objs.size f cd))).any (·.1)=false:=by rfl) :
  PS (oJ (xj P w base) P w K mg base N qual scope f cd A outer s0 H0 E) (.Raise (some (.Call (.Name x p) (a::as) [] dR)) none pos) (KJ C H0 E sp t):=by
 intro pins s σ H D I h;obtain⟨nm,qn,Nn,bs,Db,hdct,sn,sub,ab,col,dd,k0,k1,k2,k3,k5,lk,TL⟩:=id M.cl;show DW (C:=C) (nm:=nm) (q:=qn) (N:=Nn) (bs:=bs) (bm := .ref Db::eE) (hdct:=hdct) (sn:=sn) (sub:=sub) (ab:=ab) (col:=col) (dd:=dd) (k0:=k0) (k1:=k1) (k2:=k2) (k3:=k3) (k5:=k5) (newId := "ValueError.__new__")
  (I.ok.hd rfl) (by simp[]) (bg (ED (p:=p) M F hr hg hm hb ha rfl sD he oP s σ H _ I h) fun v s1 ⟨y,H1,I1,ry,e,dx,ey,ee,h0,hE⟩=>?_)
 subst ey;obtain rfl:v=Qaj e:=ry;obtain⟨ob,b1,b2,b3,b4⟩:=(show bB P w H1 s1.heap e (Dy e C dx) from I1.bw e _ ee).1;obtain⟨t0,b5⟩:=id b4;have ub:Un (l9 outer) [] H0 H1 s0.heap s1.heap:=I1.base;show{e,ob,rfl,I1.jr _ _ lk,b1,b2,b4,zH I1 b1 ?_ b5 rfl rfl (.inr {_,ee}) (by rw[b2,b3];show hE)};cases z:s0.heap.get? e with
 | none=>rfl
 | some o=>
  have:=ub.free e o z h0 (by simp);rw[ee] at this;cases this
end
section
variable {X:Cx}
def NQ (K:Frag)(to:TE)(f:Str):TE:=fun σ H Q=>to σ H fun x H1=>∃e C dx fs v,x = .ref e/\H1 e=some (mS e (.ref C) (some dx))/\H1 dx=some (.xd fs)/\fs.lookup f=some v/\kS K C/\nh K C f/\((∃i,v = .int i)\/∃z,v = .str z)/\Q v H1
def rY {to:TE}{pos:Pos}(K:Frag)(ho:PE X o to)(hb:Qbr o f X.env (QaP o X.env)=QaP o X.env:=by rfl)(hK:X.K=K:=by rfl):PE X (.Attribute o f pos) (NQ K to f):=by
 subst hK;show fun pins s σ H Q I h=>BW hb (bg (ho s σ H _ I h) fun ov s1 hz_=>ak.el hz_ _ ?_);rintro x H1 I1 rx ⟨e,C,dx,fs,v,ex,ee,ed,el,O,S,hv,q⟩;subst ex;obtain rfl:ov=Qaj e:=rx;obtain⟨ob,b1,b2,b3,b4⟩:=(show bB X.prog X.w H1 s1.heap e (P0 e (.ref C) dx) from I1.bw e _ ee).1;obtain⟨mA,n1,n2⟩:=I1.bw dx _ ed;obtain⟨od,c1,c2⟩:=tK n1;have hf:=n2 f;rw[el] at hf;cases hm:mA f with
 | none=>rw[hm] at hf;show hf.elim
 | some u=>
  rw[hm] at hf;have ru:=hf;show Fa I1.jr O S b1 b2 b3 b4 c1 (by rw[c2,hm]) ?_ {v,H1,I1.tok _,ru,q}
  rcases hv with ⟨i,rfl⟩|⟨z,rfl⟩
  ·obtain⟨t,rfl⟩:=ru;rfl
  ·obtain⟨t,rfl⟩:=ru;rfl
def FW (x:bB P w H h e (mS e (.ref C) dx)):ExcAt e C h:=by
 cases dx with
 | none=>show x.1
 | some d=>obtain⟨o,a,b,_⟩:=x.1;show⟨o,a,b⟩
def Tq (K:Frag):List V->Hp->VK->Prop:=fun xs H Q=>Fz fun e C dx c cv b=>xs=[.ref e,c]/\H e=some (mS e (.ref C) dx)/\kS K C/\Ps c=some cv/\kitOne K (.ref C) cv=some b/\Q (.bl b) H
def sZ (K:Frag)(hK:X.K=K:=by rfl):bE X (.builtin "isinstance") (Tq K):=by
 subst hK;intro pins s σ H xs us Q I r h;obtain⟨e,C,dx,c,cv,b,rfl,hE,O,hc,hk,q⟩:=h;obtain⟨u,w',rfl,r1,r2⟩:=vals2 r;cases r1;have ew:w'=cv:=by
  cases c<;>simp[Ps] at hc
  ·subst hc;cases r2;rfl
  ·subst hc;cases r2;rfl
 subst ew;show kia_one (Gn O) I.jr (FW (I.bw e _ hE)) hk (nofun) fun tk=>{.bl b,H,I.tok _,rfl,q}
end
def Rr {X:Cx}:bE X (.type "int") (fun xs H Q=>∃x n,xs=[.str x]/\PySem.intText? x=some n/\x.length<=640/\Q (.int n) H):=by
 intro pins s σ H xs us Q I r h;obtain⟨x,n,rfl,e,hl,q⟩:=h;obtain⟨u,rfl,t,rfl⟩:=vals1 r;show KIN.call_text e hl {.int n,H,I.tok _,{_,rfl},q}
def dC {h h':Heap}{it:KE}{ty:String}{z:Str}{t:Tok}{i:Nat}(x:h.IsStrIter it ty z t i)(k:∀o,h.get? it=some o->h'.get? it=some o):h'.IsStrIter it ty z t i:=
 let ⟨o,a,r⟩:=x; ⟨o,k o a,r⟩
open Builtin.Str
def nC:∀tk xs,Vals (xs.map V.str) (strValues (numbered tk xs))
 | _,[] =>.nil
 | tk,x::r =>.cons ⟨tk,rfl⟩ (nC (tk+1) r)
section
variable {X:Cx}
def yS:JP X "str.split" (fun x vs H Q=>fX fun a b=>x = .str a/\vs=[.str b]/\b.length≠0/\a.length<=10000000/\(Qb9 a b).length<=10000000/\∀p H',jI H p (.lst ((Qb9 a b).map V.str)) H'->Q (.ref p) H'):=by
 intro pins s σ H x vs v us Q I rx rv h;obtain⟨a,b,rfl,rfl,hb,ha,hn,q⟩:=h;obtain⟨t,rfl⟩:=rx;obtain⟨u,rfl,t',rfl⟩:=rv.one;have sL:(b.length==0)=false:=by simpa using hb
 have new:∀tk aF,Vals ((Qb9 a b).map V.str) aF->EP X pins σ Q (.ref s.heap.objs.size) { s with toks:=tk,heap:=s.heap.push { cls := .type "list",data := .seq aF.toArray } }:=fun tk aF r=>
  ⟨.ref _,_,I.laid (o := .lst ((Qb9 a b).map V.str)) (fun _ _ e=>Jb _ e) (Je _) ⟨by rw[Jc];show Jf hn ∅,aF,0,r,Ji _ rfl⟩,rfl,q _ _ ⟨I.bw.fresh (Je _),rfl⟩⟩
 have self:Qb9 a b=[a]->Vals ((Qb9 a b).map V.str) [.str a t]:=fun e=>by rw[e];show .cons ⟨t,rfl⟩ .nil
 by_cases h1:(decide (a.length<b.length)||decide (strKind a<strKind b))=true
 ·show QbD Qfc (QdU _ _ _) QeS (QeC _ _) (meets_str_split_cannot_occur a b t t' h1) (new s.toks _ (self (if_pos h1)))
 have LH:=Ye.mpr h1
 by_cases hf:(occurrences a b 0 a.length (a.length+1)).isEmpty=true
 ·show QbD Qfc (QdU _ _ _) QeS (QeC _ _) (meets_str_split_not_found a b t t' LH sL hf) (new s.toks _ (self ((if_neg h1).trans (if_pos hf))))
 have e:Qb9 a b=partsBetween a (occurrences a b 0 a.length (a.length+1)) b.length:=(if_neg h1).trans (if_neg hf);show QbD Qfc (QdU _ _ _) QeS (QeC _ _) (meets_str_split_sep a b t t' LH sL (Ye.mpr hf) (Jf ha ∅) (by rw[<-e];show Jf hn ∅)) (new _ _ ?_);rw[<-e,strsFrom_eq];show nC _ _
def Mo (K:Ja):R2:=fun x y H Q=>nP fun a b xs ys=>x = .ref a/\y = .ref b/\aV K H a xs/\aV K H b ys/\xs.length+ys.length<=100000/\xs≠[] /\
 (ys=[]->Q (.ref a) H)/\(ys≠[]->∀p H',jI H p (.tup (xs++ys)) H'->Q (.ref p) H')
def Hr:fA X (Qba .Add) (Mo X.K):=by
 intro pins s σ H x y v u Q I rx ry h;obtain⟨a,b,xs,ys,rfl,rfl,ha,hb,hl,hx,q0,q1⟩:=h;cases rx;cases ry;obtain⟨is,ra,⟨⟨c1,d1,k1,l1⟩,e1,f1,n1,g1⟩,_⟩:=I.tuple ha;obtain⟨js,rb,⟨⟨c2,d2,k2,l2⟩,e2,f2,n2,g2⟩,_⟩:=I.tuple hb;subst f1 g1 f2 g2;have li:=ra.length;have lj:=rb.length;have hi:¬is.toArray.isEmpty=true:=fun z=>hx (by
  have:is=[]:=by simpa using z
  rw[this] at li;show Ys.mp li)
 by_cases hy:ys=[]
 ·have hj:js.toArray.isEmpty=true:=by
   rw[hy] at lj;have:js=[]:=Ys.mp lj.symm;rw[this];rfl
  show concat_meets {_,e1,rfl} {_,e2,rfl} Qfw seq_tuple_add Qfb QeR (QeB _ _) (tuple_addW1 a b is.toArray js.toArray n1 n2 d1 d2 l1 l2 hi hj) {e1,e2,{.ref a,H,I,rfl,q0 hy}}
 ·have hj:¬js.toArray.isEmpty=true:=fun z=>hy (by
   have:js=[]:=by simpa using z
   rw[this] at lj;show Ys.mp lj)
  show concat_meets {_,e1,rfl} {_,e2,rfl} Qfw seq_tuple_add Qfb QeR (QeB _ _) (tuple_addW2 a b is.toArray js.toArray n1 n2 d1 d2 l1 l2 hi hj (by rw[Ju,Ju];show Jf ⋯ (show 100000<=W1 by decide))) {e1,e2,{.ref s.heap.objs.size,_,I.laid (fun _ _ e=>Jb _ e) (Je _) ?_,rfl,q1 hy _ _ {I.bw.fresh (Je _),rfl}}};show{by rw[Jn];show Jf hl ∅,is++js,ra.append rb,{_,Ji _ rfl,rfl,rfl,0,by simp}}
def Qd (K:Ja)(hK:X.K=K:=by rfl):fA X (Qba .Add) (Mo K):=by subst hK;show Hr
end
section
variable {prog:Qac}{w:Qag}{A:QaB}{E:Fk->Gc->Prop}{s:Gc}
def zV {n:Nat}{Q:List Fk->Gc->Prop}(ho:s.heap.get? l=some o)(hc:o.cls = .type "tuple")(hd:o.data = .seq vs.toArray n)(hz:vs.length<=W1)
  (h:Q vs { s with heap:=(s.heap.push (QcC "list" #[] 0)).update s.heap.objs.size (QaJ (· ++ vs.toArray)) }):Qab (Qaa prog w) A (collect (.ref l)) Q E s:=by
 have VX:(s.heap.push (QcC "list" #[] 0)).get? l=some o:=Jb _ ho;have hn:(s.heap.push (QcC "list" #[] 0)).get? s.heap.objs.size=some (QcC "list" #[] 0):=Ji _ rfl;show be (wpAny_runValue (QaH entry_proto_collect' (be (wpAny_newList (tz {QcP _ ∅,QaH entry_list_iadd' ?_})))));change Qab _ _ (QbE (.ref s.heap.objs.size) (.ref l) (.ref s.heap.objs.size)) _ _ { s with heap:=s.heap.push (QcC "list" #[] 0) };show be (QaX ⟨o,VX,hc⟩ ?_);rw[if_pos (by simp)];show be (listItems_at VX hd (be (listItems_at hn rfl (be (listUpdate_at hn rfl (tz (be (QeM (get?_update_seq hn _) ?_))) (Ue _) (by rw[Array.size_append,Ju];show Jf (by change 0+vs.length<=vs.length;lia) (Nat.le_succ_of_le hz)))))));have e:((#[]:Array Fk)++vs.toArray).toList=vs:=by simp
 show tz ?_;rw[e];show h
def y6 {n:Nat}{ss:List Str}{Q:Fk->Gc->Prop}(ho:s.heap.get? l=some o)(hc:o.cls = .type "tuple")(hd:o.data = .seq vs.toArray n)(hS:StrsAre vs ss)(xv:vs.length<64)
  (h:∀out ms,StrsAre out.toList ms->ms.Perm ss->Qa5 ms=true->Q (.ref (s.heap.objs.size+1)) { s with heap:=sortedAll s.heap vs out }):Qab (Qaa prog w) A (call (.builtin "sorted") [.ref l]) Q E s:=by
 have k1:((s.heap.push (QcC "list" #[] 0)).update s.heap.objs.size (QaJ (· ++ vs.toArray))).objs.size=s.heap.objs.size+1:=(Heap.size_update ..).trans (size_push' _ _);have k2:(((s.heap.push (QcC "list" #[] 0)).update s.heap.objs.size (QaJ (· ++ vs.toArray))).push (QcC "list" vs.toArray 0)).get? _=some (QcC "list" vs.toArray 0):=Ji _ rfl;show Qfr kind_sorted plain_sorted entry_sorted (args_sorted1 _) (be (tz (be (zV ho hc hd (Jf (Yd xv) ∅) (be (wpAny_newList ?_))))));rw[k1] at k2;rw[k1];show be (Qah (Qaq slot_list_sort {_,k2,rfl} entry_list_sort (list_sort_treeK strKind_oneLt k2 hS.keysOf (fun v₁ v₂ rest e=>keyKind_strs (by rw[<-e];show hS)) xv fun st a1 a2=>{_,rfl,tz {_,rfl,?_}}) (args_list_sort _)));obtain⟨ms,h1,h2,h3⟩:=sorted_out_str hS a1 a2;show h _ ms h1 h2 h3
end
section
variable {X:Cx}(K:Ja)
def Gi (hK:X.K=K:=by rfl):bE X (.builtin "sorted") (fun xs H Q=>∃p ss,xs=[.ref p]/\aV K H p (ss.map V.str)/\ss.length<64 /\
  ∀ms q H',ms.Perm ss->Qa5 ms=true->jI H q (.lst (ms.map V.str)) H'->Q (.ref q) H'):=by
 subst hK;intro pins s σ H xs us Q I r h;obtain⟨p,ss,rfl,hq,hl,q⟩:=h;obtain⟨u,rfl,ru⟩:=vals1 r;cases ru;obtain⟨aF,rv,⟨o,ho,hc,n,hd⟩,hz⟩:=I.tuple hq;have hn:aF.length=ss.length:=by have:=rv.length;rw[Jc] at this;show this.symm
 show y6 ho hc hd (jT rv) ⋯ fun out ms a1 a2 a3 =>?_;obtain⟨e,he⟩:=sortedAll_at s.heap aF out;have hm:=a2.length_eq;show{.ref (s.heap.objs.size+1),_,I.laid (o := .lst (ms.map V.str)) (fun _ _=>sortedAll_old) (Yw _) {?_,out.toList,e,nA a1,?_},rfl,q ms _ _ a2 a3 {I.bw.fresh (Yw _),rfl}}
 ·rw[Jc];show Jf (show ms.length<=64 by lia) ∅
 ·simpa [QcC] using he
def wo (hK:X.K=K:=by rfl):bE X (.builtin "sorted") (fun xs H Q=>∃p ss,xs=[.ref p]/\(aW K H p (ss.map V.str)\/aV K H p (ss.map V.str))/\ss.length<64 /\
  ∀ms q H',ms.Perm ss->Qa5 ms=true->jI H q (.lst (ms.map V.str)) H'->Q (.ref q) H'):=by
 intro pins s σ H xs us Q I r h;obtain⟨p,ss,e,hq,hl,q⟩:=h
 rcases hq with hq|hq
 ·show L2.sortedS K hK s σ H xs us Q I r ⟨p,ss,e,hq,hl,q⟩
 ·show Gi K hK s σ H xs us Q I r ⟨p,ss,e,hq,hl,q⟩
end
def EN:Qbu (.type "tuple") "keys" = pure none:=rfl
def Mg:Qbu (.type "tuple") "__getattr__" = pure none:=by intros;rfl
section
variable {prog:Qac}{w:Qag}{A:QaB}{E:Fk->Gc->Prop}{h:Heap}{g:Array Qfa}{d:Drawn}{t:Nat}{os:OsState}{a:KE}{o:Obj}
def wG {tk:Tok}{Q:Fin->Gc->Prop}(hx:h.get? a=some o)(hc:o.cls = .type "tuple")(rO:o.dict=none){xs:Array Fk}{n:Nat}(hd:o.data = .seq xs n)(hh:A.handled=none)
  (hq:∀e h' t',(∀b o,h.get? b=some o->h'.get? b=some o)->(∃oe,h'.get? e=some oe/\oe.cls = .type "AttributeError")->E (.ref e) ⟨h',g,d,t',os⟩) :
  Qab (Qaa prog w) A (Builtin.«object.__getattribute__» ⟨[.ref a,.str "keys" tk],[]⟩) Q E ⟨h,g,d,t,os⟩:=by
 have hT:(⟨h,g,d,t,os⟩:Gc).TypeIs (.ref a) "tuple":=⟨_,hx,hc⟩
 have f4:=EN
 repeat (any_goals (first|assumption|wp_step))
 rw[hd]
 repeat (any_goals (first|assumption|wp_step))
 rw[rO,hc]
 repeat (any_goals (first|assumption|wp_step))
 have f9:=ou;unfold Qf9 noteAttr
 wp_walk
 repeat (any_goals (first|assumption|wp_step))
 show Qa6 hh (hq _ _ _ (fun b o' x =>?_) {_,J4 _ (Ji _ rfl) rfl,rfl});have x1:=Jb { cls:=Qa2 "tuple",data:=Data.seq #[QcI (Wp (toString "'" ++ toString ((Qdp "tuple").elim "tuple" fun x=>x.tpName)++toString "' object has no attribute '")++Wp "keys" ++ Wp "'") t] } x;rw[J7 _ _ (Uq (Jg x1))];show Jb _ x1
def yY {R:Qb6->Gc->Prop}(hx:h.get? a=some o)(hc:o.cls = .type "tuple")(rO:o.dict=none){xs:Array Fk}{n:Nat}(hd:o.data = .seq xs n)(hh:A.handled=none)
  (hq:∀e h' t',(∀b o,h.get? b=some o->h'.get? b=some o)->(∃oe,h'.get? e=some oe/\oe.cls = .type "AttributeError")->R (.error (.ref e)) ⟨h',g,d,t',os⟩) :
  QaY (Qaa prog w) A (.call (.builtin "tuple.__getattribute__") ⟨[.ref a,.str "keys" tk],[]⟩) R ⟨h,g,d,t,os⟩:=
 Qbf F.slot_tuple_getattribute.plain F.entry_tuple_ga (F.slot_tuple_getattribute.check _ _ _ _ _ _ _ _ (show(⟨h,g,d,t,os⟩:Gc).TypeIs (.ref a) "tuple" from⟨_,hx,hc⟩) (F.args_tuple_getattribute_2 _ _) (wG hx hc rO hd hh hq))
def zq (hx:h.get? a=some o)(hc:o.cls = .type "tuple")(rO:o.dict=none){xs:Array Fk}{n:Nat}(hd:o.data = .seq xs n)(hh:A.handled=none)
  (hq:∀h' t',(∀b o,h.get? b=some o->h'.get? b=some o)->Q none ⟨h',g,d,t',os⟩):Qab (Qaa prog w) A (getAttr? (.ref a) "keys") Q E ⟨h,g,d,t,os⟩:=by
 have hT:(⟨h,g,d,t+1,os⟩:Gc).TypeIs (.ref a) "tuple":=⟨_,hx,hc⟩
 have f2:=F.slot_tuple_getattribute.lookup;have f3:=F.slot_tuple_getattribute.bind (.ref a);have f4:=Mg
 repeat (any_goals (first|assumption|wp_step))
 show yY hx hc rO hd hh fun e h' t' k hoe =>?_;have QY:Qa1 ⟨h',g,d,t',os⟩ (.ref e) "AttributeError":=hoe;have f5:=ou;show be (QaG QY f5 ?_)
 repeat (any_goals (first|assumption|wp_step))
 show hq h' t' k
end
section
variable {prog:Qac}{w:Qag}{K:Type}[DecidableEq K]{knd:KeyKind prog w K}{A:QaB}{E:Fk->Gc->Prop}
def oY {s:Gc}{R:Qb6->Gc->Prop}{it l d:KE}{items:Array Fk}{kvs:List (K×Fk)}{g:Heap}(hh:A.in1.handled=none)(hl:g.IsTuple l items)(hn:items.size=kvs.length)(hz:kvs.length<=100000)
  (hp:∀(j:Nat) v kv,items[j]? = some v->kvs[j]? = some kv->lY knd g v kv) (lit:∀b o,g.get? b=some o->b≠it/\b≠d) (ne:d≠it)
  (fin:∀h tk,(∀b o,b≠d->b≠it->g.get? b=some o->h.get? b=some o)->h.DictOf knd d (Qda [] kvs)->R (.ok (.ret .none)) { s with heap:=h,toks:=tk }) :
  ∀k i h tk acc,i+k=kvs.length->acc.length<=i->Qda acc (kvs.drop i)=Qda [] kvs->(∀b o,b≠d->b≠it->g.get? b=some o->h.get? b=some o)->h.IsTupleIter it l i->h.DictOf knd d acc ->
   QaY (Qaa prog w) A (.builtin "dict.update.loop" ⟨[.ref d,.ref it,Qa0 i,.none],[]⟩) R { s with heap:=h,toks:=tk }
 | 0,i,h,tk,acc,hk,ha,hm,kp,hi,hd=>by
  have e:i=kvs.length:=by lia
  subst e;have Io:h.IsTuple l items:=by
   obtain⟨o,ho,r⟩:=hl;show{o,kp _ _ (lit _ _ ho).2 (lit _ _ ho).1 ho,r}
  show QaH cG (be (wpAny_pyNext_tuple_end hh hi Io (by rw[Uu ⋯]) fun h' eb =>?_));show be (tz (tz (fin h' tk (fun b o nd ni x=>eb b o ni (kp b o nd ni x)) ?_)));rw[QeJ] at hm;rw[<-hm];obtain⟨o,es,ep,ho,r⟩:=hd;show{o,es,ep,eb _ _ ne ho,r}
 | k+1,i,h,tk,acc,hk,ha,hm,kp,hi,hd=>by
  have jq:i<kvs.length:=by lia
  have Io:h.IsTuple l items:=by
   obtain⟨o,ho,r⟩:=hl;show{o,kp _ _ (lit _ _ ho).2 (lit _ _ ho).1 ho,r}
  have zL:items[i]? = some items[i]:=Jz ⋯;obtain⟨tp,o,n,ku,ev,ho,hc,AG,hkey⟩:=hp i _ _ zL (Jd jq);show QaH cG (be (wpAny_pyNext_tuple_item hi Io zL fun h1 hi1 Ib =>?_));rw[ev];have Ly:=Ib.extBut _ _ (lit _ _ ho).1 (kp _ _ (lit _ _ ho).2 (lit _ _ ho).1 ho);have LZ:h1.DictOf knd d acc:=by
   obtain⟨o,es,ep,ho,r⟩:=hd;show{o,es,ep,Ib.extBut _ _ ne ho,r}
  have hT:Qa1 { s with heap:=h1,toks:=tk } (.ref tp) "tuple":=⟨o,Ly,hc⟩
  show be (Qah (be (Qf7 (be (QaX hT (be (Qav Ly AG (tz (Qah (QcX hkey LZ (fun h2 N3 sb2=>(tz {QaW cH _,?_})) (Jf (show acc.length<=100000 by lia) ∅)))))))))));have:=oY hh hl hn hz hp lit ne fin k (i+1) h2 (tk+1) (QeN acc kvs[i].1 kvs[i].2) ⋯ ?_ ?_ (fun b o nd ni x=>sb2.extBut b o nd (Ib.extBut b o ni (kp b o nd ni x))) ?_ N3
  ·show this
  ·show Jf ?_ (Wd ha);unfold QeN
   split
   ·rw[Jc];show Yw _
   ·rw[Jn];show Je _
  ·rw[<-hm,Qc0 jq]
   rfl
  ·obtain⟨oi,e1,r⟩:=hi1;show{oi,sb2.extBut _ _ (QaD ne) e1,r}
def xQ {Q:Fk->Gc->Prop}{l:KE}{items:Array Fk}{kvs:List (K×Fk)}{ol:Obj}{n:Nat}(hh:A.handled=none)(ho:s.heap.get? l=some ol)(hc:ol.cls = .type "tuple")(rO:ol.dict=none)(hd:ol.data = .seq items n)(hn:items.size=kvs.length)(hz:kvs.length<=100000)
  (hp:∀(j:Nat) v kv,items[j]? = some v->kvs[j]? = some kv->lY knd s.heap v kv)
  (fin:∀h tk,(∀b o,s.heap.get? b=some o->h.get? b=some o)->h.DictOf knd s.heap.objs.size (Qda [] kvs)->Q (.ref s.heap.objs.size) { s with heap:=h,toks:=tk }) :
  Qab (Qaa prog w) A (call (.type "dict") [.ref l]) Q E s:=by
 show Qdb (Q₁:=fun obj s₁=>obj = .ref s.heap.objs.size/\s₁={ s with heap:=s.heap.push { cls := .type "dict",data := .dict #[] } }) Qfd (Qeb _) QeT (Qfx _ ⟨rfl,rfl⟩) ?_;rintro obj s1 ⟨rfl,rfl⟩;have new:(s.heap.push { cls := .type "dict",data := .dict #[] }).DictOf knd s.heap.objs.size []:=Qc1 s.heap;have k0:∀b o,s.heap.get? b=some o->(s.heap.push { cls := .type "dict",data := .dict #[] }).get? b=some o:=fun b o x=>Jb _ x;show{new.typeIs,QeD _ _,(be (be (Qd5 new.typeIs (tz ?_))))};have hT:Qa1 { s with heap:=s.heap.push { cls := .type "dict",data := .dict #[] } } (.ref l) "tuple":=⟨ol,k0 _ _ ho,hc⟩
 show be (QaX hT (be (zq (k0 _ _ ho) hc rO hd hh fun h1 t1 k1 =>?_)));have kk:=fun b o x=>k1 b o (k0 b o x);show be (Qbj (be (QeL {ol,kk _ _ ho,hc,n,hd} ?_)));have hS:s.heap.objs.size<h1.objs.size:=by
  obtain⟨o,es,ep,e,_⟩:=new;show Jg (k1 _ _ e)
 show tz {QaW cH _,?_};have low:∀b o,s.heap.get? b=some o->b≠h1.objs.size/\b≠s.heap.objs.size:=fun b o x=>⟨Jp (Jg (kk b o x)),Jp (Jg x)⟩
 show oY (A:=A.in1) hh ⟨ol,ho,hc,n,hd⟩ hn hz hp low (Jp hS) (fun h tk k dd=>{rfl,fin h tk (fun b o x=>k b o (low b o x).2 (low b o x).1 x) dd}) kvs.length 0 _ _ [] ⋯ (Je _) rfl (fun b o nd ni x=>Jb _ (kk b o x)) {_,Ji _ rfl,rfl,rfl} ?_;obtain⟨o,es,ep,e,r⟩:=new;show{o,es,ep,Jb _ (k1 _ _ e),r}
end
section
variable {X:Cx}{pins:List (KE×Obj)}{σ:St}{H:Hp}{s:Gc}
def L3 (K:Ja)(hc:X.calm=true)(hK:X.K=K:=by rfl):bE X (.type "dict") (fun xs H Q=>∃(p:KE) (as:List KE) (kvs:List (Key×V)),xs=[.ref p]/\aV K H p (as.map V.ref)/\as.length=kvs.length/\kvs.length<=100000 /\
  (∀(j:Nat) b kv,as[j]? = some b->kvs[j]? = some kv->aV K H b [kV kv.1,kv.2])/\∀d H',jI H d (.dK (cN [] kvs)) H'->Q (.ref d) H'):=by
 subst hK;intro pins s σ H xs us Q I r h;obtain⟨p,as,kvs,rfl,hp,hl,hz,ht,q⟩:=h;obtain⟨u,rfl,ru⟩:=vals1 r;cases ru;obtain⟨aF,rv,⟨o,e1,e3,e2,n,e4⟩,_⟩:=I.oU hp;obtain⟨vs,kv,pa⟩:=uo I _ hl ht;have hits:=lU rv;have kl:=kv.length;show xQ (knd:=bD X.prog X.w) (kvs:=vs) (I.ok.hd hc) e1 e2 e3 e4 (by rw[hits];simp;lia) ⋯ (fun j v kw h1 h2 =>?_) fun h1 tk k1 dd =>?_
 ·rw[hits] at h1;simp only[Qcp,Jk] at h1;cases e:as[j]? with
  | none=>rw[e] at h1;cases h1
  | some b=>rw[e] at h1;cases h1;show pa j b kw e h2
 ·have ml:=eI kvs [];show{.ref s.heap.objs.size,_,I.laid (o := .dK (cN [] kvs)) k1 (Je _) {Jf (show _<=100000 by simp at ml;lia) ∅,(beq_eq_false_iff_ne.mpr (Uq I.big)),_,KV.merge kv .nil,dd},rfl,q _ _ {I.bw.fresh (Je _),rfl}}
def L8 (K:Ja)(hc:X.calm=true)(hK:X.K=K:=by rfl):bE X (.type "dict") (fun xs H Q=>∃(p:KE) (as:List KE) (kvs:List (Key×V)),xs=[.ref p]/\(aW K H p (as.map V.ref)\/aV K H p (as.map V.ref))/\as.length=kvs.length/\kvs.length<=100000 /\
  (∀(j:Nat) b kv,as[j]? = some b->kvs[j]? = some kv->aV K H b [kV kv.1,kv.2])/\∀d H',jI H d (.dK (cN [] kvs)) H'->Q (.ref d) H'):=by
 intro pins s σ H xs us Q I r h;obtain⟨p,as,kvs,e,hp,hl⟩:=h
 rcases hp with hp|hp
 ·show sA K hc hK s σ H xs us Q I r ⟨p,as,kvs,e,hp,hl⟩
 ·show L3 K hc hK s σ H xs us Q I r ⟨p,as,kvs,e,hp,hl⟩
def Oe (hc:X.calm=true):bE X (.type "list") (fun xs H Q=>nP fun d es n kvs=>xs=[.ref d]/\Bh X.K X.prog X.w d es n kvs/\kvs.length<=1000/\∀p H',jI H p (.lst ((kvs.map (·.1)).map V.str)) H'->Q (.ref p) H'):=by
 intro pins s σ H xs us Q I r h;obtain⟨d,es,n,kvs,rfl,D,xv,q⟩:=h;obtain⟨u,rfl,ru⟩:=vals1 r;cases ru;show kdl_call (kdl_dict D.ns) (I.ok.hd hc) (D.at I.jr) (Jf xv ∅) fun h' tk acc c k hS items=>{.ref s.heap.objs.size,_,I.laid (o := .lst ((kvs.map (·.1)).map V.str)) k (Je _) {by rw[Jc,Jc];show Jf xv ∅,acc.toList,c,?_,by simpa using hS},rfl,q _ _ {I.bw.fresh (Je _),rfl}}
 have hi:=fun j v ej=>items.2 j v (by rw[<-U3];show ej);have hl:acc.toList.length=kvs.length:=by rw[Uj];show items.1
 generalize acc.toList=aF at hi hl;clear D items q xv
 induction kvs generalizing aF with
 | nil=>rw[U1 hl];show .nil
 | cons p kvs ih=>
  cases aF with
  | nil=>cases hl
  | cons v aF=>
   show .cons ?_ (ih aF (fun j u e=>hi (j+1) u e) (Qd1 hl));obtain⟨k,x,e1,e2⟩:=hi 0 v rfl;cases e1;obtain⟨t,e3⟩:=QdV e2;show⟨t,e3⟩
end
section
variable {X:Cx}
def rK:∀{xs:List Bool} {aF:List Fk},Vals (xs.map V.bl) aF->aF=xs.map Qbw
 | [],_,h=>by cases h;rfl
 | b::xs,_,h=>by
  cases h with
  | cons r1 r2=>rw[J2,rK r2,show _=Qbw b from r1]
def Iw:Fk->Bool
 | .bool b=>b==true
 | _=>false
def Nb:Ic X "list.count" (fun x vs H Q=>∃(l:KE) (xs:List Bool),x = .ref l/\vs=[.bl true]/\H l=some (.lst (xs.map V.bl))/\Q (.int (xs.countP (· == true):Nat)) H):=by
 intro pins s σ H x vs v us Q I rx rv h;obtain⟨l,xs,rfl,rfl,hH,q⟩:=h;cases rx;obtain⟨u,rfl,ru⟩:=vals1 rv;cases ru;obtain⟨z,aF,n,r,hl,e⟩:=I.tm hH;obtain rfl:=rK r;show QbD F.slot_list_count {_,e,rfl} F.entry_list_count (F.args_list_count_2 _ _) (SeqAt.list_countAt l _ n none #[] (.bool true) Iw) {e,fun w hw =>?_,?_}
 ·have hw:w∈xs.map Qbw:=by simpa using hw
  obtain⟨b,_,rfl⟩:=Ul.mp hw;show Qdf b true
 ·have ec:(xs.map Qbw).toArray.toList.countP Iw=xs.countP (· == true):=by
   rw[List.countP_map];rfl
  show{.int _,H,I.tok _,{_,by rw[ec]},q}
def Ng:Ic X "list.index" (fun x vs H Q=>∃(l:KE) (xs:List Bool) (j:Nat),x = .ref l/\vs=[.bl true]/\H l=some (.lst (xs.map V.bl))/\xs[j]? = some true/\(∀m,m<j->xs[m]? ≠ some true)/\Q (.int (j:Nat)) H):=by
 intro pins s σ H x vs v us Q I rx rv h;obtain⟨l,xs,j,rfl,rfl,hH,hj,Ej,q⟩:=h;cases rx;obtain⟨u,rfl,ru⟩:=vals1 rv;cases ru;obtain⟨z,aF,n,r,hl,e⟩:=I.tm hH;obtain rfl:=rK r;have jl:=(Jl.mp hj).1;have zl:(xs.map Qbw).toArray.size=xs.length:=by rw[Ju,Jc]
 have hn:=oq;rw[Jc] at z;have at':∀m (hm:m<(xs.map Qbw).toArray.size),Iw (xs.map Qbw).toArray[m]=(xs[m]'⋯==true):=fun m hm=>by
  simp only[List.getElem_toArray,Y0];rfl
 show QbD F.slot_list_index {_,e,rfl} F.entry_list_index (F.args_list_index_2 _ _) (SeqAt.list_indexAt l _ n none #[] (.bool true) Iw j ⋯ ⋯ ?_ ?_) {e,fun w hw =>?_,?_}
 ·rw[at' j ⋯,(Jl.mp hj).2];rfl
 ·intro m hm hmj;rw[at' m hm];have:=Ej m hmj;rw[Jd ⋯] at this;cases ev:xs[m]'⋯ with
  | false=>rfl
  | true=>rw[ev] at this;show absurd rfl this
 ·have hw:w∈xs.map Qbw:=by simpa using hw
  obtain⟨b,_,rfl⟩:=Ul.mp hw;show Qdf b true
 ·show{.int _,H,I.tok _,{_,rfl},q}
end
def EF:Qbu (.type "zip") "keys" = pure none:=by intros;rfl
def MD:Qbu (.type "zip") "__getattr__" = pure none:=by intros;rfl
def MK:entryFor table "zip.__getattribute__" = some Builtin.«object.__getattribute__»:=entryFor_alias (id' := "object.__getattribute__") (by kernel_rfl) ∅ ∅ (by kernel_rfl)
section
variable {prog:Qac}{w:Qag}{A:QaB}{E:Fk->Gc->Prop}{h:Heap}{g:Array Qfa}{d:Drawn}{t:Nat}{os:OsState}{a:KE}{o:Obj}{fs:Array Fk}
def wM {tk:Tok}{Q:Fin->Gc->Prop}(hx:h.get? a=some o)(hc:o.cls = .type "zip")(rO:o.dict=none)(hd:o.data = .fields fs)(hh:A.handled=none)
  (hq:∀e h' t',(∀b o,h.get? b=some o->h'.get? b=some o)->(∃oe,h'.get? e=some oe/\oe.cls = .type "AttributeError")->E (.ref e) ⟨h',g,d,t',os⟩) :
  Qab (Qaa prog w) A (Builtin.«object.__getattribute__» ⟨[.ref a,.str "keys" tk],[]⟩) Q E ⟨h,g,d,t,os⟩:=by
 have hT:(⟨h,g,d,t,os⟩:Gc).TypeIs (.ref a) "zip":=⟨_,hx,hc⟩
 have f4:=EF
 repeat (any_goals (first|assumption|wp_step))
 rw[hd];dsimp only;unfold instanceDict
 repeat (any_goals (first|assumption|wp_step))
 rw[rO,hc]
 repeat (any_goals (first|assumption|wp_step))
 have f9:=ou;unfold Qf9 noteAttr
 wp_walk
 rw[show(Qdp "AttributeError").elim false (fun t=>t.mro.contains "StopIteration" || t.mro.contains "SystemExit")=false by decide +kernel,if_neg Js]
 repeat (any_goals (first|assumption|wp_step))
 show Qa6 hh (hq _ _ _ (fun b o' x =>?_) {_,J4 _ (Ji _ rfl) rfl,rfl});have x1:=Jb (h:=h) { cls:=Qa2 "tuple",data:=Data.seq #[QcI (Wp (toString "'" ++ toString ((Qdp "zip").elim "zip" fun x=>x.tpName)++toString "' object has no attribute '")++Wp "keys" ++ Wp "'") t] } x;rw[J7 _ _ (Uq (Jg x1))];show Jb _ x1
def yT {Q:Option Fk->Gc->Prop}(hx:h.get? a=some o)(hc:o.cls = .type "zip")(rO:o.dict=none)(hd:o.data = .fields fs)(hh:A.handled=none)
  (hq:∀h' t',(∀b o,h.get? b=some o->h'.get? b=some o)->Q none ⟨h',g,d,t',os⟩):Qab (Qaa prog w) A (getAttr? (.ref a) "keys") Q E ⟨h,g,d,t,os⟩:=by
 have hT:(⟨h,g,d,t+1,os⟩:Gc).TypeIs (.ref a) "zip":=⟨_,hx,hc⟩
 have f2:=F.slot_zip_getattribute.lookup;have f3:=F.slot_zip_getattribute.bind (.ref a);have f4:=MD
 repeat (any_goals (first|assumption|wp_step))
 show Qbf F.slot_zip_getattribute.plain MK (F.slot_zip_getattribute.check _ _ _ _ _ _ _ _ hT (F.args_zip_getattribute_2 _ _) (wM hx hc rO hd hh fun e h' t' k hoe =>?_));have QY:Qa1 ⟨h',g,d,t',os⟩ (.ref e) "AttributeError":=hoe;have f5:=ou;show be (QaG QY f5 ?_)
 repeat (any_goals (first|assumption|wp_step))
 show hq h' t' k
end
section
variable {prog:Qac}{w:Qag}{K:Type}[DecidableEq K]{knd:KeyKind prog w K}{A:QaB}{E:Fk->Gc->Prop}
variable {it d:KE}{T:String}{fp:KE->Prop}{n:Nat}{P:Nat->Fk->Heap->Prop}{R:Fk->Fk->Prop}{St:Nat->Heap->Prop}
def xK {s:Gc}{Z:Qb6->Gc->Prop}{kvs:List (K×Fk)}{g:Heap}(Fd:xZ prog w A.in1 it d T fp n P R St)(hn:n=kvs.length)(hz:kvs.length<=100000)
  (hp:∀(j:Nat) v kv h,P j v h->kvs[j]? = some kv->lY knd h v kv)
  (fin:∀h tk,Keeps g h (fun b=>fp b\/b=d)->h.DictOf knd d (Qda [] kvs)->Z (.ok (.ret .none)) { s with heap:=h,toks:=tk }) :
  ∀k i h tk acc,i+k=kvs.length->acc.length<=i->Qda acc (kvs.drop i)=Qda [] kvs->Keeps g h (fun b=>fp b\/b=d)->St i h->h.DictOf knd d acc ->
   QaY (Qaa prog w) A (.builtin "dict.update.loop" ⟨[.ref d,.ref it,Qa0 i,.none],[]⟩) Z { s with heap:=h,toks:=tk }
 | 0,i,h,tk,acc,hk,ha,hm,kp,hi,hd=>by
  have e:i=n:=by lia
  subst e;show QaH cG ?_;have dl:d<h.objs.size:=by obtain⟨o,es,ep,ho,r⟩:=hd;show Jg ho
  show be (Fd.stop { s with heap:=h,toks:=tk } _ _ hi dl fun h' tk' k'=>be (tz (tz (fin h' tk' (fun b o nb x=>k' b o (fun z=>nb (.inl z)) (kp b o nb x)) ?_))));rw[hn,QeJ] at hm;rw[<-hm];obtain⟨o,es,ep,ho,r⟩:=hd;show{o,es,ep,k' _ _ Fd.sfp ho,r}
 | k+1,i,h,tk,acc,hk,ha,hm,kp,hi,hd=>by
  have jq:i<kvs.length:=by lia
  have dl:d<h.objs.size:=by obtain⟨o,es,ep,ho,r⟩:=hd;show Jg ho
  show QaH cG (be (Fd.item i { s with heap:=h,toks:=tk } _ _ ⋯ hi dl fun v h1 tk1 k1 tG p1 r1 =>?_));obtain⟨tp,o,m,ku,ev,Ly,hc,AG,hkey⟩:=hp i _ _ _ p1 (Jd jq);subst ev;have LZ:h1.DictOf knd d acc:=by
   obtain⟨o,es,ep,ho,r⟩:=hd;show{o,es,ep,k1 _ _ Fd.sfp ho,r}
  have hT:Qa1 { s with heap:=h1,toks:=tk1 } (.ref tp) "tuple":=⟨o,Ly,hc⟩
  show be (Qah (be (Qf7 (be (QaX hT (be (Qav Ly AG (tz (Qah (QcX hkey LZ (fun h2 N3 sb2=>(tz {QaW cH _,?_})) (Jf (show acc.length<=100000 by lia) ∅)))))))))));have WA:=fun b o nb x=>sb2.extBut b o nb x;show xK Fd hn hz hp fin k (i+1) h2 _ (QeN acc kvs[i].1 kvs[i].2) ⋯ ?_ ?_ (fun b o nb x=>WA b o (fun z=>nb (.inr z)) (k1 b o (fun z=>nb (.inl z)) (kp b o nb x))) (Fd.keepS _ _ _ tG WA) N3
  ·show Jf ?_ (Wd ha);unfold QeN
   split
   ·rw[Jc];show Yw _
   ·rw[Jn];show Je _
  ·rw[<-hm,Qc0 jq]
   rfl
def G5 {Q:Fk->Gc->Prop}{kvs:List (K×Fk)}{oz:Obj}{fs:Array Fk}(hh:A.handled=none)(hT:T = "zip")(ho:s.heap.get? it=some oz)(hc:oz.cls = .type "zip")(rO:oz.dict=none)(hd:oz.data = .fields fs)
  (Fd:xZ prog w A.in1.in1 it s.heap.objs.size T fp n P R St) (hn:n=kvs.length) (hz:kvs.length<=100000) (hp:∀(j:Nat) v kv h,P j v h->kvs[j]? = some kv->lY knd h v kv) (lR:∀h',(∀b o,s.heap.get? b=some o->h'.get? b=some o)->St 0 h')
  (fin:∀h tk,Keeps s.heap h fp->h.DictOf knd s.heap.objs.size (Qda [] kvs)->Q (.ref s.heap.objs.size) { s with heap:=h,toks:=tk }) :
  Qab (Qaa prog w) A (call (.type "dict") [.ref it]) Q E s:=by
 show Qdb (Q₁:=fun obj s₁=>obj = .ref s.heap.objs.size/\s₁={ s with heap:=s.heap.push { cls := .type "dict",data := .dict #[] } }) Qfd (Qeb _) QeT (Qfx _ ⟨rfl,rfl⟩) ?_;rintro obj s1 ⟨rfl,rfl⟩;have new:(s.heap.push { cls := .type "dict",data := .dict #[] }).DictOf knd s.heap.objs.size []:=Qc1 s.heap;have k0:∀b o,s.heap.get? b=some o->(s.heap.push { cls := .type "dict",data := .dict #[] }).get? b=some o:=fun b o x=>Jb _ x;show{new.typeIs,QeD _ _,(be (be (Qd5 new.typeIs (tz ?_))))};have hTy:Qa1 { s with heap:=s.heap.push { cls := .type "dict",data := .dict #[] } } (.ref it) "zip":=⟨oz,k0 _ _ ho,hc⟩
 show be (QaX hTy (be (yT (k0 _ _ ho) hc rO hd hh fun h1 t1 k1 =>?_)));have kk:=fun b o x=>k1 b o (k0 b o x);have tG:=lR h1 kk;have VI:h1.DictOf knd s.heap.objs.size []:=by
  obtain⟨o,es,ep,e,r⟩:=new;show{o,es,ep,k1 _ _ e,r}
 show be (Qbj (be (Fd.self ⟨h1,s.gens,s.drawn,t1,s.os⟩ _ _ tG (tz {QaW cH _,(xK Fd hn hz hp (fun h tk k dd=>{rfl,fin h tk (fun b o nb x=>k b o (fun z=>z.elim nb fun z=>cw (Jg x) (Je _) z) x) dd}) kvs.length 0 _ _ [] ⋯ (Je _) rfl (fun b o nb x=>kk b o x) tG VI)}))))
end
section
variable {X:Cx}
def NV:∀{ks:List Key} {aF:List Fk},Vals (ks.map kV) aF->∀(i:Nat) k u,ks[i]? = some k->aF[i]? = some u->RelV (kV k) u
 | ks,aF,r,i,k,u,h1,h2=>by
  obtain⟨u',h3,r3⟩:=r.get (by rw[Jk,h1];rfl);rw[h2] at h3;cases h3;show r3
def Xn (K:Ja)(ta:TA):TE:=fun σ H Q=>ta σ H fun vs H1=>nP fun l1 l2 (ks:List Key) ys=>vs=[.ref l1,.ref l2]/\aW K H1 l1 (ks.map kV)/\aW K H1 l2 ys/\ks.length=ys.length/\ks.length<=100000 /\
 ∀d H',jI H1 d (.dK (cN [] (ks.zip ys))) H'->Q (.ref d) H'
def Aw {p p2 pos rC:Pos}(hc:X.calm=true)(N5:Gl X "dict")(Ov:X.mg "dict" = none)(Rx:Gl X "zip")(QW:X.mg "zip" = none)(ha:PA X [a,b] ta)
  (En:QaT "dict" = some (.type "dict"):=by first|rfl|decide) (Rb:QaT "zip" = some (.type "zip"):=by first|rfl|decide)
  (NA:Qaf [.Call (.Name "zip" p2) [a,b] [] rC] X.env=[(false,QaP (.Call (.Name "zip" p2) [a,b] [] rC) X.env)]:=by rfl)
  (hs:Qaf [a,b] X.env=[(false,QaP a X.env),(false,QaP b X.env)]:=by rfl) (AY:Qaf [b] X.env=[(false,QaP b X.env)]:=by rfl) :
  PE X (.Call (.Name "dict" p) [.Call (.Name "zip" p2) [a,b] [] rC] [] pos) (Xn X.K ta):=by
 show fun pins s σ H Q I h=>QaQ (fE I N5 Ov En (Qao (Qbo (Call_ (fE I Rx QW Rb (Qao (bg (ha s σ H _ I h) fun us s1 hz_=>ak.el hz_ _ fun vs H1 I1 r1 q1 =>?_) (by rw[hs,AY]) (by rw[AY];rfl))))) NA rfl));obtain⟨l1,l2,ks,ys,e,q1,q2,el,ez,q⟩:=q1;subst e;obtain⟨u,w',rfl,r1,r2⟩:=vals2 r1;cases r1;cases r2;obtain⟨its1,rv1,p1,hz1⟩:=I1.list q1;show ak.el (I1.list q2) _ ?_;rintro its2 rv2 p2 hz2;have e1:=rv1.length;have e2:=rv2.length;rw[Jc] at e1;have a1:l1<s1.heap.objs.size:=by obtain⟨_,e,_⟩:=p1.isList;show Jg e
 have a2:l2<s1.heap.objs.size:=by obtain⟨_,e,_⟩:=p2.isList;show Jg e
 show call_zip_2 p1.isList p2.isList fun h' hz sN zx hi1 hi2 hsz hk=>QbM ?_;have uy:s1.heap.objs.size<=h'.objs.size:=by rw[hsz];show Ua _ _
 have jb:∀n,n<5->s1.heap.objs.size+n<h'.objs.size:=fun n hn=>by rw[hsz];show Qea hn _
 have kvL:KV (ks.zip ys) (ks.zip its2):=by
  have:∀{ks:List Key} {ys:List V} {aF:List Fk},Vals ys aF->ks.length=ys.length->KV (ks.zip ys) (ks.zip aF):=by
   intro ks
   induction ks with
   | nil=>intro ys aF r e;show .nil
   | cons k ks ih=>
    intro ys aF r e;cases ys with
    | nil=>cases e
    | cons y ys=>
     obtain⟨v,r',rfl,rv1,rv2⟩:=r.hd;show .cons ⟨rfl,rv1⟩ (ih rv2 (by simpa using e))
  show this rv2 el
 have zl:(ks.zip its2).length=ks.length:=by rw[Yq];lia
 show G5 (knd:=bD X.prog X.w) (kvs:=ks.zip its2) (I1.ok.hd hc) rfl hz rfl rfl rfl
  (xT (I.ok.hd hc) (Qe1 a1 a2) (jb 4 ∅) (jb 2 ∅) (jb 3 ∅) (jb 0 ∅) (jb 1 ∅) (Jv a1 uy) (Jv a2 uy)) (by simp;lia) ⋯ (fun j v kv h hP hkv =>?_) (fun h2 k2=>⟨k2 _ _ sN,⟨_,_,k2 _ _ zx⟩,hi1.at fun o e=>k2 _ _ e,hi2.at fun o e=>k2 _ _ e,(p1.isList.at fun o e=>hk _ o e).at fun o e=>k2 _ o e,(p2.isList.at fun o e=>hk _ o e).at fun o e=>k2 _ o e,.inl (k2 _ _ hz)⟩) fun h2 tk k2 dd =>?_
 ·obtain⟨a,x,y,rfl,_,gx,gy,pr⟩:=hP;have z:=(Yy).mp hkv;have gy:its2[j]? = some y:=by simpa using gy
  have ey:=Qan (gy.symm.trans z.2);subst ey;show{a,_,_,x,rfl,pr,rfl,rfl,nJ (NV rv1 j kv.1 x z.1 (by simpa using gx))}
 ·have kk:∀b o,s1.heap.get? b=some o->h2.get? b=some o:=fun b o e=>by
   have gt:∀n,b≠s1.heap.objs.size+n:=fun n=>Jp (Jv (Jg e) (Ua _ _));show k2 b o (fun z=>z.elim (gt 4) fun z=>z.elim (gt 3) fun z=>z.elim (gt 0) (gt 1)) (hk b o e)
  have ml:=eI (ks.zip ys) [];show{.ref h'.objs.size,_,I1.laid (o := .dK (cN [] (ks.zip ys))) kk uy {Jf (show _<=100000 by simp at ml;lia) ∅,(beq_eq_false_iff_ne.mpr (Uq (Jv I1.big uy))),_,KV.merge kvL .nil,dd},rfl,q _ _ {I1.bw.fresh uy,rfl}}
end
abbrev qW (h:Heap)(it:KE)(x:Str)(t:Tok)(i:Nat):Prop:=h.IsStrIter it "str_ascii_iterator" x t i
section
variable {prog:Qac}{w:Qag}{A:QaB}{E:Fk->Gc->Prop}{s:Gc}{z TI TO i1 i2 l a:KE}{f:Bool}{oa:Obj}{x:Str}{t:Tok}{i c:Nat}{ys:Array Fk}
def CJ (D:QcL z TI TO i1 i2 l l)(hz:Qgm s.heap z TI TO .none)(sN:Qbq s.heap TI (.ref i1) (.ref i2))(zx:∃a b,Qbq s.heap TO a b)
  (h1:qW s.heap i1 x t i) (h2:s.heap.IsListIter i2 l i) (hl:s.heap.IsList l ys) (hx:x.cps[i]? = some c) (hy:ys[i]? = some y)
  (q:∀h' tk tk',Qgm h' z TI TO (Qa0 s.heap.objs.size)->(∃a b,Qbq h' TO a b)->qW h' i1 x t (i+1)->h'.IsListIter i2 l (i+1)->Qbq h' s.heap.objs.size (.str ⟨#[c]⟩ tk) y->Keeps s.heap h' (rg z TO i1 i2)->Q (some (.ref s.heap.objs.size)) { s with heap:=h',toks:=tk' }) :
  Qab (Qaa prog w) A (QbR (.ref z)) Q E s:=by
 obtain⟨a,b,zx⟩:=zx;have hT:s.TypeIs (.ref z) "zip":=⟨_,hz,rfl⟩
 show be (QaS (Qam hT QaL (Qaq QaL hT QbF ?_ (Qbz _))));change Qab _ _ (QbV (Qga (.ref z) 2) _) _ _ _;show be (Qai hz rfl rfl (be (Qai hz rfl rfl (be (Qav sN rfl (be (be (Qai hz rfl rfl (tz (be (Qbj (be (Qai hz rfl rfl (be (Qae hz (by simp) fun g1 z1 e1=>be (be (be (QcH (be (wpAny_nextOf_ascii_item (dC h1 fun o e=>e1.extBut _ _ D.i1z e) hx fun g2 it1 e2=>tz ?_))))))))))))))))))));have to2:=e2.extBut _ _ D.TOi1 (e1.extBut _ _ D.TOz zx);show be (Qav to2 rfl (be (QbY to2 fun g3 to3 e3=>be (Qcj (tz ?_)))));have FV:Keeps s.heap g3 (fun c=>c=z\/c=i1\/c=TO):=fun c o nc e=>e3.extBut _ _ (fun q=>nc (.inr (.inr q))) (e2.extBut _ _ (fun q=>nc (.inr (.inl q))) (e1.extBut _ _ (fun q=>nc (.inl q)) e));show be (be (QcH (be (Qbp (h2.at fun o e=>FV _ _ (fun q=>q.elim D.i2z fun q=>q.elim D.i12.symm D.TOi2.symm) e) (hl.at fun o e=>FV _ _ (fun q=>q.elim D.l2z fun q=>q.elim D.l2i1 D.l2TO) e) hy fun g4 it2 e4=>tz ?_))));have QD:=e4.extBut _ _ D.TOi2 to3;show be (Qav QD rfl (be (QbY QD fun g5 KG e5=>be (Qcj (tz (tz ?_))))));have KG:Qbq g5 TO (.str ⟨#[c]⟩ s.toks) y:=KG;show be (Qav KG rfl (be (Qcs ?_)));have hsz:g5.objs.size=s.heap.objs.size:=by rw[e5.1,e4.1,e3.1,e2.1,e1.1]
 have z5:=e5.extBut _ _ D.TOz.symm (e4.extBut _ _ D.i2z.symm (e3.extBut _ _ D.TOz.symm (e2.extBut _ _ D.i1z.symm z1)));have k5:Keeps s.heap g5 (rg z TO i1 i2):=fun c o nc e=>e5.extBut _ _ (fun q=>nc (.inr (.inl q))) (e4.extBut _ _ (fun q=>nc (.inr (.inr (.inr q)))) (FV c o (fun q=>q.elim (fun q=>nc (.inl q)) fun q=>q.elim (fun q=>nc (.inr (.inr (.inl q)))) fun q=>nc (.inr (.inl q))) e));have Qm:=Jg z5;show be ?_;have z6:Qgm (g5.push { cls := .type "tuple",data := .seq #[.str ⟨#[c]⟩ s.toks,y] }) z TI TO .ellipsis:=Jb _ z5;show be (Qae z6 (by simp) fun g7 z7 e7=>Qae z7 (by simp) fun g8 z8 e8=>tz {_,rfl,tz ?_});have up:∀c o,c≠z->g5.get? c=some o->g8.get? c=some o:=fun c o c1 e=>e8.extBut _ _ c1 (e7.extBut _ _ c1 (Jb _ e));have tp:=e8.extBut _ _ (Uq Qm) (e7.extBut _ _ (Uq Qm) (Ji _ rfl));rw[hsz] at z8 tp ⊢;show q g8 s.toks (s.toks+1) z8 {_,_,up _ _ D.TOz KG} (dC (dC it1 fun o e=>e5.extBut _ _ D.TOi1.symm (e4.extBut _ _ D.i12 (e3.extBut _ _ D.TOi1.symm e))) fun o e=>up _ o D.i1z e) ((it2.at fun o e=>e5.extBut _ _ D.TOi2.symm e).at fun o e=>up _ o D.i2z e) tp fun c o nc e=>up c o (fun q=>nc (.inl q)) (k5 c o nc e)
def EY (D:QcL z TI TO i1 i2 l l)(hz:iU s.heap z TI TO a f)(ha:s.heap.get? a=some oa)(sN:Qbq s.heap TI (.ref i1) (.ref i2))
  (h1:qW s.heap i1 x t i) (h2:s.heap.IsListIter i2 l i) (hl:s.heap.IsList l ys) (hx:x.cps[i]? = some c) (hy:ys[i]? = some y)
  (q:∀h' tk tk',iU h' z TI TO a true->qW h' i1 x t (i+1)->h'.IsListIter i2 l (i+1)->Qbq h' s.heap.objs.size (.str ⟨#[c]⟩ tk) y->Keeps s.heap h' (fun b=>b=z\/b=i1\/b=i2)->Q (some (.ref s.heap.objs.size)) { s with heap:=h',toks:=tk' }) :
  Qab (Qaa prog w) A (QbR (.ref z)) Q E s:=by
 have hT:s.TypeIs (.ref z) "zip":=⟨_,hz,rfl⟩
 show be (QaS (Qam hT QaL (Qaq QaL hT QbF ?_ (Qbz _))));change Qab _ _ (QbV (Qga (.ref z) 2) _) _ _ _;show be (Qai hz rfl rfl (be (Qai hz rfl rfl (be (Qav sN rfl (be (mT hz ha fun h0 z0 k0=>be (be (be (Qah (be (wpAny_nextOf_ascii_item (dC h1 fun o e=>k0.extBut _ _ D.i1z e) hx fun h4 e4 k4=>tz (tz (be (be (Qah (be (Qbp ((h2.extBut k0.extBut D.i2z).extBut k4.extBut D.i12.symm) ((hl.extBut k0.extBut D.l2z).extBut k4.extBut D.l2i1) hy fun h5 e5 k5=>tz (tz (tz (be (Qcs (hsz:=by change 2<=W1;decide) (tz {_,rfl,tz ?_})))))))))))))))))))))));have hsz:h5.objs.size=s.heap.objs.size:=by rw[k5.1,k4.1,k0.1]
 rw[hsz];show q (h5.push { cls := .type "tuple",data := .seq #[.str ⟨#[c]⟩ s.toks,y] }) s.toks (s.toks+1) (Jb _ (k5.extBut _ _ D.i2z.symm (k4.extBut _ _ D.i1z.symm z0))) (dC e4 fun o e=>Jb _ (k5.extBut _ _ D.i12 e)) (e5.at fun o e=>Jb _ e) (by rw[<-hsz];show Ji _ rfl) fun b o nb e =>?_;show Jb _ (k5.extBut _ _ (fun z=>nb (.inr (.inr z))) (k4.extBut _ _ (fun z=>nb (.inr (.inl z))) (k0.extBut _ _ (fun z=>nb (.inl z)) e)))
def GF (hh:A.handled=none)(D:QcL z TI TO i1 i2 l l)(hz:iU s.heap z TI TO a f)(ha:s.heap.get? a=some oa)(sN:Qbq s.heap TI (.ref i1) (.ref i2))
  (h1:qW s.heap i1 x t i) (hx:x.cps[i]? = none)
  (q:∀h',Keeps s.heap h' (fun b=>b=z\/b=i1\/b=i2)->Q none { s with heap:=h' }) :
  Qab (Qaa prog w) A (QbR (.ref z)) Q E s:=by
 have hT:s.TypeIs (.ref z) "zip":=⟨_,hz,rfl⟩
 show be (QaS (Qam hT QaL (Qaq QaL hT QbF ?_ (Qbz _))));change Qab _ _ (QbV (Qga (.ref z) 2) _) _ _ _;show be (Qai hz rfl rfl (be (Qai hz rfl rfl (be (Qav sN rfl (be (mT hz ha fun h0 z0 k0=>be (be (be (Qah (be (wpAny_nextOf_ascii_end hh (dC h1 fun o e=>k0.extBut _ _ D.i1z e) hx fun h4 e k4 oe=>ak.el (oe) _ ?_))))))))))));rintro o ho hc;show be (QaG ⟨o,ho,hc⟩ Qbv (tz (q h4 fun b o nb x=>k4 _ _ (fun z=>nb (.inr (.inl z))) (k0.extBut _ _ (fun z=>nb (.inl z)) x))))
end
abbrev WT (h:Heap)(x:Str)(t:Tok)(b:KE):Heap:=((((h.push { cls := .type "str_ascii_iterator",data := .fields #[.str x t,.int 0 0] }).push { cls := .type "list_iterator",data := .fields #[.ref b,.int 0 0] }).push { cls := .type "tuple",data := .seq #[.ref h.objs.size,.ref (h.objs.size+1)] }).push { cls := .type "tuple",data := .seq #[.none,.none] }).push
 { cls := .type "zip",data := .fields #[.none,.bool false,.bool false,.ref (h.objs.size+2),.ref (h.objs.size+3)] }
def Ij (x:Str)(t:Tok)(b:KE)(ys:Array Fk):
  Meets (Builtin.«zip.__new__» ⟨[.type "zip",.str x t,.ref b],[]⟩) (fun _ R s=>x.cps.all (· < 128)=true/\s.heap.IsList b ys/\R (.ok (.ret (.ref (s.heap.objs.size+4)))) { s with heap:=WT s.heap x t b }):=
 .of_wp fun prog w A R s h=>by
  obtain⟨hp,g,d,tk,os⟩:=s;obtain⟨hx,Ez,h⟩:=h;have eM:=sub_zip;have hL2:Heap.IsList (Shared.heap ⟨hp.push { cls := .type "str_ascii_iterator",data := .fields #[.str x t,.int 0 0] },g,d,tk,os⟩) b ys:=Ez.at fun o e=>Jb _ e;have s1:(hp.push { cls := .type "str_ascii_iterator",data := .fields #[.str x t,.int 0 0] }).objs.size=hp.objs.size+1:=Uh ..
  wp_walk using wpAny_pyIter_ascii hx,Qcr hL2
  show{_,rfl,?_};simp -iota only [Uh] at h ⊢;show h
section
variable {prog:Qac}{w:Qag}{A:QaB}{E:Fk->Gc->Prop}{s:Gc}
def GW {b:KE}{ys:Array Fk}{Q:Fk->Gc->Prop}(h1:x.cps.all (· < 128)=true)(h2:s.heap.IsList b ys)
  (q:∀h',Qgm h' (s.heap.objs.size+4) (s.heap.objs.size+2) (s.heap.objs.size+3) .none->Qbq h' (s.heap.objs.size+2) (.ref s.heap.objs.size) (.ref (s.heap.objs.size+1))->Qbq h' (s.heap.objs.size+3) .none .none->qW h' s.heap.objs.size x t 0->h'.IsListIter (s.heap.objs.size+1) b 0->h'.objs.size=s.heap.objs.size+5->(∀c o,s.heap.get? c=some o->h'.get? c=some o)->Q (.ref (s.heap.objs.size+4)) { s with heap:=h' }) :
  Qab (Qaa prog w) A (call (.type "zip") [.str x t,.ref b]) Q E s:=by
 show callType_new F.called_zip rfl (F.typeCall_zip_2 _ _) (F.newCall_zip_2 _ _) (fun obj=>F.args_object_init_3 obj _ _) F.entry_zip_new (Ij x t b ys) {h1,h2,?_};have up:∀{h:Heap} {c:KE} {o:Obj} p,h.get? c=some o->(h.push p).get? c=some o:=fun p e=>Jb p e;have last:∀{h:Heap} {n:Nat} {p:Obj},h.objs.size=n->p.isFreed=false->(h.push p).get? n=some p:=fun e hf=>by rw[<-e];show Ji _ hf
 have z1:=Uh s.heap { cls := .type "str_ascii_iterator",data := .fields #[.str x t,.int 0 0] };have z2:=Uh (s.heap.push { cls := .type "str_ascii_iterator",data := .fields #[.str x t,.int 0 0] }) { cls := .type "list_iterator",data := .fields #[.ref b,.int 0 0] };rw[z1] at z2;have z3:=Uh ((s.heap.push { cls := .type "str_ascii_iterator",data := .fields #[.str x t,.int 0 0] }).push { cls := .type "list_iterator",data := .fields #[.ref b,.int 0 0] }) { cls := .type "tuple",data := .seq #[.ref s.heap.objs.size,.ref (s.heap.objs.size+1)] };rw[z2] at z3;have z4:=Uh (((s.heap.push { cls := .type "str_ascii_iterator",data := .fields #[.str x t,.int 0 0] }).push { cls := .type "list_iterator",data := .fields #[.ref b,.int 0 0] }).push { cls := .type "tuple",data := .seq #[.ref s.heap.objs.size,.ref (s.heap.objs.size+1)] }) { cls := .type "tuple",data := .seq #[.none,.none] };rw[z3] at z4;have zz:(WT s.heap x t b).get? (s.heap.objs.size+4)=some _:=last z4 rfl;show{{_,zz,rfl},q _ zz (up _ (up _ (last z2 rfl))) (up _ (last z3 rfl)) {_,up _ (up _ (up _ (up _ (last rfl rfl)))),rfl,rfl} {_,up _ (up _ (up _ (last z1 rfl))),rfl,rfl} ?_ fun c o e=>up _ (up _ (up _ (up _ (up _ e))))};rw[Uh,z4]
end
structure Bn (z TI TO i1 i2 l S:KE)(x:Str)(t:Tok)(ys:Array Fk)(i:Nat)(h:Heap):Prop where
 ti:Qbq h TI (.ref i1) (.ref i2)
 to:∃a b,Qbq h TO a b
 it1:qW h i1 x t i
 it2:h.IsListIter i2 l i
 a2:h.IsList l ys
 zp:Qgm h z TI TO .none/\i=0\/0<i/\∃a f oa,iU h z TI TO a f/\h.get? a=some oa/\S<a
abbrev FP (S:KE)(x:Str)(ys:Array Fk)(j:Nat)(v:Fk)(h:Heap):Prop:=nP fun a c tk y=>v = .ref a/\S<a/\x.cps[j]? = some c/\ys[j]? = some y/\Qbq h a (.str ⟨#[c]⟩ tk) y
def E5 {z TI TO i1 i2 l S:KE}{x:Str}{t:Tok}{ys:Array Fk}(hh:A.handled=none)(hn:0<x.cps.size)(hy:x.cps.size<=ys.size)(D:QcL z TI TO i1 i2 l l)(b1:z<S)(b2:TI<S)(b3:TO<S)(b4:i1<S)(b5:i2<S)(b6:l<S):
  xZ prog w A z S "zip" (rg z TO i1 i2) x.cps.size (FP S x ys) kY (Bn z TI TO i1 i2 l S x t ys) where
 sfp:=fun q=>by
  rcases q with q|q|q|q<;>(rw[q] at b1 b3 b4 b5;first|show absurd b1 (Uk _)|show absurd b3 (Uk _)|show absurd b4 (Uk _)|show absurd b5 (Uk _))
 ne:=Jp b1
 ty:=fun i h st=>by
  rcases st.zp with ⟨q,_⟩|⟨_,a,f,oa,q,_⟩
  ·show{_,q,rfl}
  ·show{_,q,rfl}
 self:=fun s Q E st q=>by
  rcases st.zp with ⟨r,_⟩|⟨r,_⟩
  ·show QdG r q
  ·show absurd r (Uk _)
 item:=fun i s Q E hi st hS q=>by
  obtain⟨ti,to,it1,it2,a2,zp⟩:=st;have hx:=Jz hi;have hy:ys[i]? = some (ys[i]'⋯):=Jz ⋯;have old:∀j u,FP S x ys j u s.heap->kY u (.ref s.heap.objs.size):=fun j u hz_=>ak.el hz_ _ fun a c tk y e _ _ _ p=>⟨a,_,e,rfl,Jg p⟩
  rcases zp with ⟨r,_⟩|⟨hi0,c,f,oc,r,oc',hc⟩
  ·show CJ D r ti to it1 it2 a2 hx hy fun h' tk tk' r1 r2 r3 r4 r5 r7 =>?_;have n2:∀{b:KE},b≠z->b≠TO->b≠i1->b≠i2->¬rg z TO i1 i2 b:=fun c1 c2 c3 c4 q=>q.elim c1 fun q=>q.elim c2 fun q=>q.elim c3 c4;show q _ h' tk' r7 {r7 _ _ (n2 D.TIz D.TITO D.TIi1 D.TIi2) ti,r2,r3,r4,a2.at fun o e=>r7 _ _ (n2 D.l2z D.l2TO D.l2i1 D.l2i2) e,.inr {QdA _,_,_,_,r1,r5,hS}} {_,_,_,_,rfl,hS,hx,hy,r5} old
  ·have ne:∀{b:KE},b<S->c≠b:=fun hb=>Uq (Wf hb hc);show EY D r oc' ti it1 it2 a2 hx hy fun h' tk tk' r1 r2 r3 r4 r5 =>?_;obtain⟨ta,tb,to⟩:=to;show q _ h' tk' (fun b o nb e=>r5 b o (fun z=>z.elim (fun z=>nb (.inl z)) fun z=>nb (.inr (.inr z))) e) ⟨r5 _ _ (fun z=>z.elim D.TIz fun z=>z.elim D.TIi1 D.TIi2) ti,{_,_,r5 _ _ (fun z=>z.elim D.TOz fun z=>z.elim D.TOi1 D.TOi2) to},r2,r3,a2.at fun o e=>r5 _ _ (fun z=>z.elim D.l2z fun z=>z.elim D.l2i1 D.l2i2) e,
    .inr ⟨QdA _,_,_,_,r1,r5 _ _ (fun z=>z.elim (ne b1) fun z=>z.elim (ne b4) (ne b5)) oc',hc⟩⟩ ⟨_,_,_,_,rfl,hS,hx,hy,r4⟩ old
 stop:=fun s Q E st hS q=>by
  obtain⟨ti,to,it1,it2,a2,zp⟩:=st
  rcases zp with ⟨_,r⟩|⟨hi0,c,f,oc,r,oc',hc⟩
  ·rw[r] at hn;show absurd hn (Uk _)
  ·show GF hh D r oc' ti it1 (Uu (Je _)) fun h' k=>q h' s.toks fun b o nb e=>k b o (fun z=>z.elim (fun z=>nb (.inl z)) fun z=>nb (.inr (.inr z))) e
 keepS:=fun i h h' st k=>by
  obtain⟨ti,⟨a,b,to⟩,it1,it2,a2,zp⟩:=st;show{k _ _ (Jp b2) ti,{a,b,k _ _ (Jp b3) to},dC it1 fun o e=>k _ o (Jp b4) e,it2.at fun o e=>k _ o (Jp b5) e,a2.at fun o e=>k _ o (Jp b6) e,?_}
  rcases zp with ⟨r,r0⟩|⟨hi0,c,f,oc,r,oc',hc⟩
  ·show .inl {k _ _ (Jp b1) r,r0}
  ·show .inr {hi0,c,f,oc,k _ _ (Jp b1) r,k _ _ (Uq hc) oc',hc}
 keepP:=fun j v h h' hz_ k=>ak.el hz_ _ fun a c tk y e ha h1 h2 p=>by
  have ne:∀{b:KE},b<S->a≠b:=fun hb=>Uq (Wf hb ha);show{a,c,tk,y,e,ha,h1,h2,k _ _ (fun z=>z.elim (fun z=>z.elim (ne b1) fun z=>z.elim (ne b3) fun z=>z.elim (ne b4) (ne b5)) (Uq ha)) p}
 nolen:=by rw[QcS,QbS];kernel_rfl
 nohint:=by rw[QcS,QbS];kernel_rfl
 nl:=∅
 nt:=∅
section
variable {X:Cx}
def W3 (K:Ja)(ta:TA):TE:=fun σ H Q=>ta σ H fun vs H1=>pW fun x l2 ys=>vs=[.str x,.ref l2]/\aW K H1 l2 ys/\x.cps.all (· < 128)=true/\0<x.cps.size/\x.cps.size<=ys.length /\
 ∀H' p (as:List KE),aq H1 H'->H1 p=none->H' p=some (.lst (as.map V.ref))->as.length=x.cps.size ->
  (∀(j:Nat) a c y,as[j]? = some a->x.cps[j]? = some c->ys[j]? = some y->H1 a=none/\H' a=some (.tup [.str ⟨#[c]⟩,y]))->Q (.ref p) H'
def yi {p p2 pos rC:Pos}(hc:X.calm=true)(N5:Gl X "list")(Ov:X.mg "list" = none)(Rx:Gl X "zip")(QW:X.mg "zip" = none)(ha:PA X [a,b] ta)
  (En:QaT "list" = some (.type "list"):=by first|rfl|decide) (Rb:QaT "zip" = some (.type "zip"):=by first|rfl|decide)
  (NA:Qaf [.Call (.Name "zip" p2) [a,b] [] rC] X.env=[(false,QaP (.Call (.Name "zip" p2) [a,b] [] rC) X.env)]:=by rfl)
  (hs:Qaf [a,b] X.env=[(false,QaP a X.env),(false,QaP b X.env)]:=by rfl) (AY:Qaf [b] X.env=[(false,QaP b X.env)]:=by rfl) :
  PE X (.Call (.Name "list" p) [.Call (.Name "zip" p2) [a,b] [] rC] [] pos) (W3 X.K ta):=by
 show fun pins s σ H Q I h=>QaQ (fE I N5 Ov En (Qao (Qbo (Call_ (fE I Rx QW Rb (Qao (bg (ha s σ H _ I h) fun us s1 hz_=>ak.el hz_ _ fun vs H1 I1 r1 q1 =>?_) (by rw[hs,AY]) (by rw[AY];rfl))))) NA rfl));obtain⟨x,l2,ys,e,q2,xa,xp,xy,q⟩:=q1;subst e;obtain⟨u,w',rfl,ru,r2⟩:=vals2 r1;cases r2;obtain⟨t,rfl⟩:∃t,u = .str x t:=ru;show ak.el (I1.list q2) _ ?_;rintro its2 rv2 p2 hz2;have e2:=rv2.length;have a2:l2<s1.heap.objs.size:=by obtain⟨_,e,_⟩:=p2.isList;show Jg e
 show GW xa p2.isList fun h' hz sN zx hi1 hi2 hsz hk=>QbM ?_;have uy:s1.heap.objs.size<=h'.objs.size:=by rw[hsz];show Ua _ _
 have jb:∀n,n<5->s1.heap.objs.size+n<h'.objs.size:=fun n hn=>by rw[hsz];show Qea hn _
 have zs:∀o,Bn (s1.heap.objs.size+4) (s1.heap.objs.size+2) (s1.heap.objs.size+3) s1.heap.objs.size (s1.heap.objs.size+1) l2 h'.objs.size x t its2.toArray 0 (h'.push o):=fun o=>
  ⟨Jb _ sN,⟨_,_,Jb _ zx⟩,dC hi1 fun o e=>Jb _ e,hi2.at fun o e=>Jb _ e,(p2.isList.at fun o e=>hk _ o e).push _,.inl ⟨Jb _ hz,rfl⟩⟩
 show uB (E5 (I.ok.hd hc) xp (by simp;lia) (Qe1 a2 a2) (jb 4 ∅) (jb 2 ∅) (jb 3 ∅) (jb 0 ∅) (jb 1 ∅) (Jv a2 uy)) ⋯ zs fun h2 tk acc c N0 G =>?_;obtain⟨hS2,hsz2,hpw,kR⟩:=G;obtain⟨as,iJ⟩:=pS (l:=acc.toList) fun v hv=>by
  obtain⟨j,hj⟩:=J6.mp hv;obtain⟨a,_,_,_,e,_⟩:=kR j v (by simpa using hj);show⟨a,e⟩
 have kI:∀j a,as[j]? = some a->pW fun c tk y=>h'.objs.size<a/\x.cps[j]? = some c/\its2.toArray[j]? = some y/\Qbq h2 a (.str ⟨#[c]⟩ tk) y:=fun j a h=>by
  obtain⟨a',c,tk,y,e,g⟩:=kR j (.ref a) (by
   have:acc.toList[j]? = some (.ref a):=by rw[iJ,Jk,h];rfl
   simpa using this)
  cases e;show⟨c,tk,y,g⟩
 have above:∀a∈as,h'.objs.size<a:=fun a ha=>by
  obtain⟨j,hj⟩:=J6.mp ha;obtain⟨_,_,_,g,_⟩:=kI j a hj;show g
 have old:∀b o,s1.heap.get? b=some o->h2.get? b=some o:=fun b o e=>by
  have gt:∀n,b≠s1.heap.objs.size+n:=fun n=>Jp (Jv (Jg e) (Ua _ _));show N0 b o (fun z=>z.elim (gt 4) fun z=>z.elim (gt 3) fun z=>z.elim (gt 0) (gt 1)) (hk b o e)
 have I2:Inv X pins σ H1 { s1 with heap:=h2,toks:=tk }:=I1.kept old;have uL:=fun a ha=>Yd (Jy uy (above a ha));have nd:as.Nodup:=by
  rw[iJ,Qer] at hpw;show hpw.imp fun hz_=>ak.el hz_ _ fun a b e1 e2 h=>by cases e1;cases e2;show Jp h
 have fN:∀a,s1.heap.objs.size<=a->hM X pins H1 a/\X.s₀.heap.objs.size<=a:=fun a ha=>⟨I1.fN ha (I1.bw.fresh ha),Jf I1.sz ha⟩
 have Ew:as.length=x.cps.size:=by
  have z:acc.toList.length=as.length:=by rw[iJ,Jc]
  simp at z hsz2;lia
 let ps:List (List V):=(x.cps.toList.zip ys).map fun q=>[V.str ⟨#[q.1]⟩,q.2]
 have V4:∀j c y,x.cps[j]? = some c->ys[j]? = some y->ps[j]? = some [V.str ⟨#[c]⟩,y]:=fun j c y h1 h2=>by
  rw[Jk,(Yy (z:=(c,y))).mpr ⟨by simpa using h1,h2⟩]
  rfl
 obtain⟨H',I',sm,same,all⟩:=I2.nO as ps nd (by change _=((x.cps.toList.zip ys).map _).length;rw[Jc,Yq];have:=Uj (xs:=x.cps);lia) (fun a ha=>fN a (uL a ha)) (fun j a pp h1 h2'=>by
  show ak.el (kI j a h1) _ ?_;rintro c tk y _ g1 g2 g3;show ak.el (jP rv2 g2) _ ?_;rintro vy gy ry;rw[V4 j c vy g1 gy] at h2';cases h2';show⟨by change 2<=W1;decide,[.str ⟨#[c]⟩ tk,y],.cons ⟨_,rfl⟩ (.cons ry .nil),⟨_,g3,rfl,rfl,_,rfl⟩⟩)
 have Gv:=fun hm=>Uk _ (above _ hm);have oj:=I1.bw.fresh uy;obtain⟨fS,sS⟩:=fN h'.objs.size uy;have I3:=I'.adopt (o := .lst (as.map V.ref)) ⟨by rw[same _ Gv];show oj,fS.2⟩ sS ⟨by rw[Jc];lia,acc.toList,c,by
  rw[iJ];clear hS2 iJ all same I' sm uL nd Ew Gv above kI
  induction as with
  | nil=>show .nil
  | cons a r ih=>show .cons rfl ih,by simpa using hS2⟩
 show{.ref h'.objs.size,_,I3,rfl,q _ _ as (fun b o e =>?_) oj ax Ew fun j a c y h1 h2' h3'=>{(fN a (uL a (J0 h1))).1.1,?_}}
 ·rw[av (aE e oj)];show sm b o e
 ·rw[av (fun z=>Gv (by rw[<-z];show J0 h1))];show all j a _ h1 (V4 j c y h2' h3')
end
section
variable {X:Cx}
def Lz (K:Ja):R2:=fun x y H Q=>Mo K x y H Q\/∃(a b:KE) (ys:List V),x = .ref a/\y = .ref b/\aV K H a []/\aV K H b ys/\Q (.ref b) H
def JC:fA X (Qba .Add) (Lz X.K):=by
 intro pins s σ H x y v u Q I rx ry h
 rcases h with h|⟨a,b,ys,rfl,rfl,ha,hb,q⟩
 ·apply Hr<;>assumption
 cases rx;cases ry;obtain⟨is,ra,⟨⟨c1,d1,k1,l1⟩,e1,f1,n1,g1⟩,_⟩:=I.tuple ha;obtain⟨js,rb,⟨⟨c2,d2,k2,l2⟩,e2,f2,n2,g2⟩,_⟩:=I.tuple hb;simp only at f1 g1 f2 g2;subst f1 g1 f2 g2;have hi:is.toArray.isEmpty=true:=by
  have:=ra.length;have:is=[]:=Ys.mp this.symm;rw[this];rfl
 show concat_meets {_,e1,rfl} {_,e2,rfl} Qfw seq_tuple_add Qfb QeR (QeB _ _) (tuple_addW0 a b is.toArray js.toArray n1 n2 d1 d2 l1 l2 hi) {e1,e2,{.ref b,H,I,rfl,q}}
def Pg (K:Ja)(hK:X.K=K:=by rfl):fA X (Qba .Add) (Lz K):=by subst hK;show JC
end
def AV {β:Type}{M:Model}{A:QaB}{E:Fk->Gc->Prop}{s s1:Gc}{f:Nat -> β->Sem (ForInStep β)}{Q: β->Gc->Prop}{b0 b1: β}{j:Nat}
  (go:∀i,i<j->∀R:ForInStep β->Gc->Prop,R (.yield b0) s->Qab M A (f i b0) R E s) (stop:∀R:ForInStep β->Gc->Prop,R (.done b1) s1->Qab M A (f j b0) R E s) (q:Q b1 s1) :
  ∀(n k:Nat),k<=j->j<k+n->Qab M A (forIn (List.range' k n) b0 f) Q E s
 | 0,k,h1,h2=>by lia
 | n+1,k,h1,h2=>by
  rw[List.range'_succ,QeX]
  by_cases h:k=j
  ·subst h;show be (stop _ (tz q))
  ·show be (go k ⋯ _ (AV go stop q n (k+1) ⋯ ⋯))
section
variable {X:Cx}
def ML (K:Ja)(hK:X.K=K:=by rfl):Ic X "tuple.index" (fun x vs H Q=>nP fun(l:KE) (xs:List Str) (y:Str) (j:Nat)=>x = .ref l/\vs=[.str y]/\aV K H l (xs.map V.str)/\xs[j]? = some y/\(∀m,m<j->xs[m]? ≠ some y)/\Q (.int (j:Nat)) H):=by
 subst hK;intro pins s σ H x vs v us Q I rx rv h;show ak.el h _ ?_;rintro l xs y j rfl rfl hH hj Ej q;cases rx;obtain⟨u,rfl,t,rfl⟩:=vals1 rv;obtain⟨aF,r,⟨o,ho,hc,n,hd⟩,hz⟩:=I.tuple hH;have hlen:=r.length;rw[Jc] at hlen;have jl:j<xs.length:=(Jl.mp hj).1;have at':∀m (hm:m<xs.length),∃t',aF.toArray[m]? = some (.str (xs[m]) t'):=fun m hm=>by
  obtain⟨a,h1,h2⟩:=jP r (i:=m) (v:=aF[m]'⋯) (by simp);rw[Jk,Jd hm] at h1;cases h1;obtain⟨t',e⟩:=h2;show{t',by rw[Qcp,Jd ⋯,e]}
 show Qaq F.slot_tuple_index {_,ho,hc} F.entry_tuple_index ?_ (F.args_tuple_index_2 _ _);unfold Builtin.«tuple.index»;show be (m:=selfAndSome _ _ _ _ _) (tz ?_);show be (wpAny_tupleItemsOf ho hd ?_);dsimp only;show be (tz (be (tz ?_)));show be ?_;rw[Std.Legacy.Range.forIn_eq_forIn_range'];show AV (j:=j) (b1:=(some (.done (.ret (.int (j:Nat) s.toks))),())) (s1:={ s with toks:=s.toks+1 }) (fun i hi R hR =>?_) (fun R hR =>?_) ?_ _ 0 (Ue _) ?_
 ·obtain⟨t',e⟩:=at' i ⋯;rw[e];show be (Qfs ?_);have zw:xs[i]'⋯≠y:=fun z=>Ej i hi (by rw[Jd ⋯,z]);rw[decide_eq_false zw];show tz hR
 ·obtain⟨t',e⟩:=at' j jl;rw[e];show be (Qfs ?_);have he:xs[j]=y:=(Jl.mp hj).2;rw[decide_eq_true he]
  wp_walk
  show hR
 ·show tz {_,rfl,.int (j:Nat),H,I.tok _,{_,rfl},q}
 ·simp;lia
end
def NN {α:Type}{P:List α->Prop}(h:P []):∀us:List α,us.length=0->P us:=fun us e=>U1 e▸h
def MB {α:Type}{P:List α->Prop}{n:Nat}(h:∀a (us:List α),us.length=n->P (a::us))(us:List α)(e:us.length=n+1):P us:=by
 cases us with|nil=>cases e|cons a us=>show h a us (Qd1 e)
structure Ev (P:Qac)(w:Qag)(K:Frag)(mg:Str->Option Fk)(base:Heap):Prop where
 g:∀{x v},Qfv K QaI x=some (some v)->mg x=some v
 n:∀{x},Qfv K QaI x=some none->mg x=none
structure Df (K:Frag)(x:Str)(st:QcU)(f:KE)(fd:Qal):Prop where
 F:eC K x x st f fd
 a:Qfv K QaI x=some (some (.ref f))
structure Mt (K:Frag)(C:KE)(x q:Str)(st:QcU)(f:KE)(fd:Qal):Prop where
 F:eC K x q st f fd
 m:findIn K (.ref C) x=some (some (.ref f))
 i:isFn K (.ref f)=true
structure Xp (K:Frag)(D C:KE)(q Sj:Str)(st:QcU)(f:KE)(fd:Qal):Prop where
 S:nh K C Sj
 M:O1 K C f
 F:eC K "__init__" q st f fd
structure Tp (K:Frag)(x:Str)(a:KE)(xs:List V):Prop where
 g:Qfv K QaI x=some (some (.ref a))
 s:∀H,aV K H a xs
def Gr (K:Frag)(x:Str)(v:Fk):Prop:=Qfv K QaI x=some (some v)
def Nn (K:Frag):List Str->Prop
 | []=>True
 | x::r=>Qfv K QaI x=some none/\Nn K r
def Oy (K:Frag)(aP:KE):List (Str×List Str)->Prop
 | []=>True
 | q::r=>(∃p,Qfv K aP q.1=some (some (.ref p))/\∀H,aV K H p (q.2.map V.str))/\Oy K aP r
section
variable {P:Qac}{w:Qag}{K:Frag}{mg:Str->Option Fk}{base:Heap}{x q Sj:Str}{st:QcU}{f C D:KE}{fd:Qal}{k:Nat}{ps:List Str}{sp:Sp}{oc:Fk}{od an:Option KE}{xP:Array (Option Fk)}{kV doc pm gF ct:Fk}
def Ev.df (e:Ev P w K mg base)(D:Df K x st f fd)(ok:aU P w K mg base dX k f fd ps sp)
  (hb:∀kV doc pm an gF ct us,us.length=ps.length->Qgb (fnOf x x (cn st) (bQ st) (ai st) .none kV doc pm an gF ct) ⟨us,[]⟩=pure (ps.zip us):=by
   intro _ _ _ _ _ _;repeat' (first|show NN rfl|show MB fun _ =>?_)):Fn P w K mg base k x ps sp:=⟨f,fd,ok,D.F.binds hb,D.F.kp,e.g D.a⟩
def Ev.dx (e:Ev P w K mg base)(D:Df K x st f fd)(ok:aU P w K mg base (xj P w base) k f fd ps sp)
  (hb:∀kV doc pm an gF ct us,us.length=ps.length->Qgb (fnOf x x (cn st) (bQ st) (ai st) .none kV doc pm an gF ct) ⟨us,[]⟩=pure (ps.zip us):=by
   intro _ _ _ _ _ _;repeat' (first|show NN rfl|show MB fun _ =>?_)):HV P w K mg base k x ps sp:=⟨f,fd,ok,D.F.binds hb,D.F.kp,e.g D.a⟩
def eC.bd (F:eC K x q st f fd)
  (hb:∀kV doc pm an gF ct us,us.length=ps.length->Qgb (fnOf x q (cn st) (bQ st) (ai st) .none kV doc pm an gF ct) ⟨us,[]⟩=pure (ps.zip us):=by
   intro _ _ _ _ _ _;repeat' (first|show NN rfl|show MB fun _ =>?_)):Binds K fd ps []:=F.binds hb
def PK (a:Qfv K QaI x=some (some (.ref f)))(l:K.lookup f=some ⟨oc,od,.func (fnOf x x (cn st) (bQ st) (ai st) .none kV doc pm an gF ct),xP⟩)(c:codeIn K gF x=true)(h:keepIn K (.ref f)=true):Df K x st f (fnOf x x (cn st) (bQ st) (ai st) .none kV doc pm an gF ct):=⟨vM l c h,a⟩
def P2 (m:findIn K (.ref C) x=some (some (.ref f)))(l:K.lookup f=some ⟨oc,od,.func (fnOf x q (cn st) (bQ st) (ai st) .none kV doc pm an gF ct),xP⟩)(c:codeIn K gF q=true)(h:keepIn K (.ref f)=true)(i:isFn K (.ref f)=true):Mt K C x q st f (fnOf x q (cn st) (bQ st) (ai st) .none kV doc pm an gF ct):=⟨vM l c h,m,i⟩
def Mt.at (M:Mt K C x q st f fd):DU K C x f:=⟨M.m,M.i,M.F.kp⟩
def Mt.OZ (M:Mt K C "__init__" q st f fd)(h:makesIn K C=true)(g:keepIn K (.ref C)=true):Mk K C f:=⟨h,M.m,M.i,g⟩
def Q7 {a:KE}{aF:List Fk}{n:Nat}{sl:Array (Option Fk)}{xs:List V}(g:Qfv K QaI x=some (some (.ref a)))(l:K.lookup a=some ⟨.type "tuple",none,.seq aF.toArray n,sl⟩)(hv:Vals xs aF)(hz:xs.length<=1000):Tp K x a xs:=⟨g,EH l hv hz⟩
def FY {v:Fk}(h:Qfv K QaI x=some (some v)):Gr K x v:=h
def bR {r:List Str}(h:Qfv K QaI x=some none)(z:Nn K r):Nn K (x::r):=⟨h,z⟩
def dP {aP a:KE}{ys:List Str}{r:List (Str×List Str)}{aF:List Fk}{n:Nat}{sl:Array (Option Fk)}(g:Qfv K aP x=some (some (.ref a)))(l:K.lookup a=some ⟨.type "tuple",none,.seq aF.toArray n,sl⟩)(hv:Vals (ys.map V.str) aF)(hz:(ys.map V.str).length<=1000)(z:Oy K aP r):Oy K aP ((x,ys)::r):=⟨⟨a,g,EH l hv hz⟩,z⟩
def Oy.all {aP:KE}:∀{l:List (Str×List Str)},Oy K aP l->∀q∈l,∃p,Qfv K aP q.1=some (some (.ref p))/\∀H,aV K H p (q.2.map V.str)
 | [],_,_,h=>nomatch h
 | a::l,z,q,h=>by
  rcases Jq.mp h with rfl|h
  ·show z.1
  ·show Oy.all z.2 q h
section
variable {nm qn:Str}{N:KE}{bs:List Fk}{sn:List Str}{su:List Fk}{ab:Bool}{co:Option Bool}{dd:Option KE}{k0 k1 k2 k3 k5:Option Fk}{Zr XT:Str}{N':KE}{Zl:List Fk}{DZ:Bool}{sn':List Str}{ZS:List Fk}{YW:Bool}{ZM:Option Bool}{Em:Option KE}{k0' YV XS k3' ZD:Option Fk}
def Qj (lO:K.lookup D=some (QbZ Zr XT D N' Zl eE DZ sn' ZS YW ZM Em k0' YV XS k3' ZD "ValueError.__new__"))(xO:excIn K D eE "ValueError.__new__" = true)
  (l:K.lookup C=some (QbZ nm qn C N bs (.ref D::eE) true sn su ab co dd k0 k1 k2 k3 k5 "ValueError.__new__")) (kp:keepIn K (.ref C)=true) (OZ:findIn K (.ref C) "__init__" = some (some (.ref f)))
  (lf:K.lookup f=some ⟨.type "function",od,.func (fnOf "__init__" q (cn st) (bQ st) (ai st) .none kV doc pm an gF ct),xP⟩) (cf:codeIn K gF q=true) (kf:keepIn K (.ref f)=true)
  (sa:findIn K (.ref C) "__setattr__" = some (some (.builtin "object.__setattr__"))) (na:findIn K (.ref C) Sj=some none) (mo:mroIn K C (.type "object")=some true):Xp K D C q Sj st f (fnOf "__init__" q (cn st) (bQ st) (ai st) .none kV doc pm an gF ct):=
 ⟨GB l sa na mo,⟨⟨_,_,_,_,_,_,_,_,_,_,_,_,_,_,_,_,l,Ht lO xO⟩,OZ,⟨_,lf,rfl⟩,kp⟩,vM lf cf kf⟩
end
end
def fO {N P:List Str}{sc:QbU}(a:sc.kind = .function:=by rfl)(b:sc.isCoroutine=false:=by rfl)(c:sc.isGenerator=false:=by rfl)(d:N.Nodup:=by decide +kernel)(e:N.take P.length=P:=by rfl)
  (f:∀x∈P,sc.names.lookup x=some .local\/sc.names.lookup x=some .cell:=by decide +kernel) (g:∀y∈sc.names,y.2 ≠ .free:=by decide +kernel):aD N P sc:=⟨a,b,c,d,e,f,g⟩
def HU:0<=W1:=∅
def HW:1<=W1:=∅
def eV:2<=W1:=∅
def Hh:3<=W1:=∅
def Sg:4<=W1:=∅
def Vr:5<=W1:=∅
def zl6:6<=W1:=∅
def zl7:7<=W1:=∅
def zl8:8<=W1:=∅
section
variable {X:Cx}{i j k:Nat}{x:Str}{ps:List Str}{sp:Sp}
def bP {p pos:Pos}{e:QaF}{es:List QaF}{t:TA}(F:Fn X.prog X.w X.K X.mg X.base j x ps sp)(hr:dw k X.A)(ha:PA X (e::es) t)(hle:j<=k:=by decide)(hg:Gl X x:=by rfl)
  (sD:(x==("__debug__" : Str))=false:=by decide) (he:Qaf (e::es) X.env=(false,QaP e X.env)::Qaf es X.env:=by rfl) (oP:(QbT pos (Qaf es X.env)).any (·.1)=false:=by rfl) :
  PE X (.Call (.Name x p) (e::es) [] pos) (wC sp [] E0 t):=HD (F.mono hle) hr hg ha sD he oP
def cz {e:QaF}{te:TE}{pos pos':Pos}(hN:X.N.Nodup)(he:PE X e te)(hi:X.N[i]? = some x:=by rfl)(hx:Loc X.env.scope x:=by show Qd0 rfl)(hs:QdH e (some (.Name x pos')) pos.line X.env=pure false:=by rfl)(hf:X.fn x=true\/X.env.scope.names.lookup x=some .local:=by first|show .inl rfl|show .inr rfl|assumption):
  PS X (.Assign [.Name x pos'] e pos) (GP te (pF i)):=oG hN hi hx he hs hf
def eX {pos:Pos}(hN:X.N.Nodup)(hi:X.N[i]? = some x:=by rfl)(hx:Loc X.env.scope x:=by show Qd0 rfl)(hf:X.fn x=true\/X.env.scope.names.lookup x=some .local:=by first|show .inl rfl|show .inr rfl|assumption):PG X (.Name x pos) (pF i):=Bc hN hi hx hf
end
section
variable {P:Qac}{w:Qag}{K:Ja}{mg:Str->Option Fk}{base:Heap}{x qual:Str}{st:QcU}{f:KE}{fd:Qal}{N ps:List Str}{k:Nat}{sp:Sp}
def eC.gw (F:eC K x qual st f fd)(S:aD N ps (ai st))
  (sy:∀{gF A outer s} H vs Q E,dw k (A.deeper (Qb5 qual (ai st) s.heap.objs.size f gF))->sp vs H Q E ->
   ∃t,yj (oJ dX P w K mg base N qual (ai st) f gF A outer s H E).Q1 (bQ st) t/\t { nx:=fun _ H'=>Q .non H',rt:=Q } (start N vs) H)
  (len:∀vs H Q E,sp vs H Q E->vs.length=ps.length:=by
   intro vs H Q E h
   first
    | (obtain⟨rfl,_⟩:=h;rfl)|(obtain⟨_,rfl,_⟩:=h;rfl)|(obtain⟨_,_,rfl,_⟩:=h;rfl)|(obtain⟨_,_,_,rfl,_⟩:=h;rfl)|(obtain⟨_,_,_,_,rfl,_⟩:=h;rfl)|(obtain⟨_,_,_,_,_,rfl,_⟩:=h;rfl)
    | (obtain⟨_,_,_,_,_,_,rfl,_⟩:=h;rfl)|(obtain⟨_,_,_,_,_,_,_,rfl,_⟩:=h;rfl)|(obtain⟨_,_,_,_,_,_,_,_,rfl,_⟩:=h;rfl)|(obtain⟨_,_,_,_,_,_,_,_,_,rfl,_⟩:=h;rfl)
    | (obtain⟨_,_,_,_,_,_,_,_,_,_,rfl,_⟩:=h;rfl)|(obtain⟨_,_,_,_,_,_,_,_,_,_,_,rfl,_⟩:=h;rfl)):aU P w K mg base dX (k+1) f fd ps sp:=
 F.ok S len fun _ _ _ _ H vs Q E=>sy H vs Q E
end
end L2
namespace Z
open PySem L2
def sizeOk (h:n<=10000000):n<=W1:=Jf h ∅
def pK (l:List Str)(h:decide l.Nodup=true:=by decide +kernel):l.Nodup:=of_decide_eq_true h
def Gw (i:Nat):(2:Int)^i+2^i=2^(i+1):=by rw[QeA];lia
end Z
namespace L2
set_option genSizeOf false
set_option genInjectivity false
set_option genSizeOf false
set_option genInjectivity false
end L2
namespace Z
open PySem L2
structure wj (H:Hp)(b c:KE)(t:Int)(ns:List Int):Prop where
 d:H b=some (.dK [(.inr "cells",.ref c),(.inr "turn",.int t)])
 l:H c=some (.lst (ns.map V.int))
 ne:0<ns.length
 le:ns.length<=64
def gN (H:Hp)(b c:KE):Hp:=fun a=>if a=b\/a=c then none else H a
def dF {b c a:KE}(h1:a≠b)(h2:a≠c):gN H b c a=H a:=if_neg (fun z=>z.elim h1 h2)
def md (h:gN H b c a=some o):H a=some o/\a≠b/\a≠c:=by
 unfold gN at h
 split at h
 ·cases h
 ·rename_i n;show{h,fun z=>n (.inl z),fun z=>n (.inr z)}
def MJ:aq (gN H b c) H:=fun a o h=>(md h).1
def wj.bc (x:wj H b c t ns):b≠c:=rq x.d x.l (by intro z;cases z)
def wj.G8 (x:wj H b c t ns):fz H b (.str "turn") (some (.int t)):=fz.k (k:=Qbb "turn") x.d
def wj.oI (x:wj H b c t ns):fz H b (.str "cells") (some (.ref c)):=fz.k (k:=Qbb "cells") x.d
def wj.GQ (x:wj H b c t ns)(t':Int):sY H b (.str "turn") (.int t') (upd H b (.dK [(.inr "cells",.ref c),(.inr "turn",.int t')])):=
 sY.k (k:=Qbb "turn") x.d (by change 2<W1;decide)
def wj.turned (x:wj H b c t ns)(t':Int):wj (upd H b (.dK [(.inr "cells",.ref c),(.inr "turn",.int t')])) b c t' ns:=
 ⟨ax,by rw[av (QaD x.bc)];show x.l,x.ne,x.le⟩
def Dz {o:HO}:gN (upd H b o) b c=gN H b c:=by
 funext a;unfold gN;split
 ·rfl
 ·rename_i n;show av (fun z=>n (.inl z))
def DG {b c:KE}{o:HO}:gN (upd H c o) b c=gN H b c:=by
 funext a;unfold gN;split
 ·rfl
 ·rename_i n;show av (fun z=>n (.inr z))
def Gj:Sp:=fun vs H Q _=>uN fun b c t ns many=>vs=[.ref b,.int many]/\wj H b c t ns/\0<=t/\t<100000000/\0<many/\many<1073741824 /\
 ∀r H' KI,0<=r->r<many->wj H' b c (t+1) KI->aq (gN H b c) (gN H' b c)->Q (.int r) H'
def at_of {ns:List Int}{p:Int}(h0:0<=p)(h1:p<ns.length):∃v,xG (ns.map V.int) p=some (.int v)/\ns[p.toNat]? = some v:=by
 have hk:p.toNat<ns.length:=by lia
 have ek:p=((p.toNat:Nat):Int):=by lia
 have q:xG (ns.map V.int) ((p.toNat:Nat):Int)=some (.int ns[p.toNat]):=qj (by rw[Jk,Jd hk]<;>rfl);rw[<-ek] at q;show{_,q,Jd hk}
def M8 {a j m:Int}(h0:0<m)(h:m<2^64):Ae (a%m) j:=by
 have h1:=QcG a (b:=m) ⋯;have h2:=Qb8 a h0;show .inl {⋯,⋯}
def Mm {n:Nat}{p:Int}(h0:0<=p)(h1:p<n):El n p=some p.toNat:=by unfold El;rw[if_pos h0,if_pos h1]
def qF {b c:KE}(h:∀a o,a≠b->a≠c->H a=some o->H' a=some o):aq (gN H b c) (gN H' b c):=fun a o e=>by
 show ak.el (md e) _ ?_;rintro e h1 h2;rw[dF h1 h2];show h a o h1 h2 e
end Z
namespace L2
open PySem
def Gm (t:TG):Prop:=∀x σ H Q Q',(∀a b,Q a b->Q' a b)->t x σ H Q->t x σ H Q'
def S3 (t:FA):Prop:=∀x σ H Q Q',(∀a b,Q a b->Q' a b)->t x σ H Q->t x σ H Q'
def bL:Gm (pF i):=fun _ _ _ _ _ h q=>h _ _ q
def dq:S3 Mj:=fun _ _ _ _ _ h q=>⟨q.1,h _ _ q.2⟩
def ic (a:Gm t)(b:S3 u):S3 (EV t u):=fun _ _ _ _ _ h ⟨v,r,e,q⟩=>⟨v,r,e,a _ _ _ _ _ (fun _ _ z=>b _ _ _ _ _ h z) q⟩
def a8.get:∀{ds:List Qad} {vs:List V} {i:Nat} {d:Qad},a8 K H ds vs->ds[i]? = some d->∃v,vs[i]? = some v/\Den K H d v
 | [],_,_,_,_,e=>by simp at e
 | d::ds,vs,i,d',h,e=>by
  obtain⟨v,r,rfl,h1,h2⟩:=h;cases i with
  | zero=>cases e;show⟨v,rfl,h1⟩
  | succ i=>show a8.get (i:=i) h2 e
def a8.len:∀{ds:List Qad} {vs:List V},a8 K H ds vs->vs.length=ds.length
 | [],_,h=>by unfold a8 at h;subst h;rfl
 | d::ds,vs,h=>by
  obtain⟨v,r,rfl,h1,h2⟩:=h;rw[Jo,Jo,a8.len h2]
def Den.pair (h:Den K H (.tuple [.str a,.str b]) v):∃p,v = .ref p/\aV K H p [.str a,.str b]:=by
 obtain⟨p,vs,e,h1,h2⟩:=h;obtain⟨v1,r1,rfl,d1,h2⟩:=h2;obtain⟨v2,r2,rfl,d2,h2⟩:=h2;subst h2;subst d1 d2;show⟨p,e,h1⟩
end L2
namespace Z
open PySem L2
def aO (bk:List (Str×Str)):Qad := .list (bk.map fun q =>.tuple [.str q.1,.str q.2])
def bb (h:H p=none)(o:HO):aq H (upd H p o):=fun b u q=>by rw[av (aE q h)];show q
end Z
namespace L2
open PySem
def jO {J:It}{g:TG}{tb:TS}{D:Ends}{σ:St}{H:Hp}(N:Nat)(Pv:Nat->St->Hp->Prop)(h0:Pv 0 σ H)
  (go:∀i σ H,i<N->Pv i σ H->J.go i H/\∀x H',J.yld i H x H'->g x σ H' fun σ2 H2=>tb { D with nx:=Pv (i+1),ct:=Pv (i+1),bk:=D.nx } σ2 H2)
  (stop:∀ σ H,Pv N σ H->J.stop N H/\D.nx σ H) :
  ∃W:Nat->Nat->St->Hp->Prop,(∃m,W 0 m σ H)/\∀i m σ H,W i m σ H ->
   (J.stop i H/\D.nx σ H)\/(J.go i H/\∃N,(∀ σ' H',N σ' H'->∃m',m'<m/\W (i+1) m' σ' H')/\∀x H',J.yld i H x H'->g x σ H' fun σ2 H2=>tb { D with nx:=N,ct:=N,bk:=D.nx } σ2 H2):=by
 show{fun i m σ H=>m=N-i/\i<=N/\Pv i σ H,{N,by simp,Ue _,h0},(fun i m σ H hz_=>ak.el hz_ _ ?_)};rintro rfl hi p
 by_cases jq:i<N
 ·obtain⟨g1,g2⟩:=go i σ H jq p;show .inr {g1,Pv (i+1),fun σ' H' p'=>{N-(i+1),⋯,rfl,jq,p'},g2}
 ·have e:i=N:=by lia
  subst e;show .inl (stop σ H p)
def cS (Ex:St->Hp->Prop)(h:∀Nx,(∀ σ H,Ex σ H->Nx σ H)->t { D with nx:=Nx } σ H)(fin:∀ σ H,Ex σ H->u D σ H):Ka t u D σ H:=h (u D) fin
def VR {t:TE}{σ:St}{H:Hp}{Q:VK}(Ex:V->Hp->Prop)(h:∀Qn,(∀v H,Ex v H->Qn v H)->t σ H Qn)(fin:∀v H,Ex v H->Q v H):t σ H Q:=h Q fin
def nz {σ:St}{H:Hp}(Pv:Nat->St->Hp->Prop)(h0:∃m,Pv m σ H)
  (hs:∀m σ H,Pv m σ H->c σ H fun b H1=>if b=true then ∃N,(∀ σ' H',N σ' H'->∃m',m'<m/\Pv m' σ' H')/\tb { D with nx:=N,ct:=N,bk:=D.nx } σ H1 else D.nx σ H1):lX c tb D σ H:=⟨Pv,h0,hs⟩
def ie (Ex:V->Hp->Prop)(h:∀Qn,(∀v H,Ex v H->Qn v H)->te σ H Qn)(fin:∀v H,Ex v H->g v σ H (u D)):Ka (GP te g) u D σ H:=h _ fin
def gn {H:Hp}{Q:St->Hp->Prop}(h:Q (σ.set i (some v)) H):pF i v σ H Q:=h
end L2
namespace Z
open PySem L2
def Bx (H:Hp)(b c:KE)(t:Int):Prop:=∃ns,wj H b c t ns
structure Step (b c:KE)(H H':Hp)(t t' N:Int):Prop where
 le:t<=t'
 ub:t'<=t+N
 bx:Bx H' b c t'
 sm:aq (gN H b c) (gN H' b c)
def Step.refl {H:Hp}{t:Int}(h:Bx H b c t):Step b c H H t t 0:=⟨Int.le_refl _,⋯,h,aq.refl _⟩
def Step.trans {t t' t2 N M:Int}(x:Step b c H H' t t' N)(y:Step b c H' H2 t' t2 M):Step b c H H2 t t2 (N+M):=
 ⟨by have:=x.le;have:=y.le;lia,by have:=x.ub;have:=y.ub;lia,y.bx,x.sm.trans y.sm⟩
def Step.more (x:Step b c H H' t t' N)(h:N<=M):Step b c H H' t t' M:=⟨x.le,by have:=x.ub;lia,x.bx,x.sm⟩
def Bx.aM {t:Int}(x:Bx H b c t)(h:H p=none):p≠b/\p≠c:=by
 obtain⟨ns,x⟩:=x;show{fun z=>(by rw[z,x.d] at h;cases h),fun z=>(by rw[z,x.l] at h;cases h)}
def Bx.upd {t:Int}{o:HO}(x:Bx H b c t)(h1:p≠b)(h2:p≠c):Bx (upd H p o) b c t:=by
 obtain⟨ns,x⟩:=x;show{ns,by rw[av (QaD h1)];show x.d,by rw[av (QaD h2)];show x.l,x.ne,x.le}
def Step.new {H H':Hp}{t t' N:Int}(x:Step b c H H' t t' N)(h:H' p=none)(o:HO):Step b c H (upd H' p o) t t' N:=
 ⟨x.le,x.ub,x.bx.upd (x.bx.aM h).1 (x.bx.aM h).2,x.sm.trans (qF fun a u _ _ e=>by rw[av (aE e h)];show e)⟩
def Step.Zs {H H':Hp}{t t' N:Int}(x:Step b c H H' t t' N)(h:H p=none)(h1:p≠b)(h2:p≠c)(o:HO):Step b c H (upd H' p o) t t' N:=
 ⟨x.le,x.ub,x.bx.upd h1 h2,fun a u e=>by
  have q:=x.sm a u e;show ak.el (md q) _ ?_;rintro q n1 n2;rw[dF n1 n2,av (fun z =>?_)]
  ·show q
  ·rw[z] at e;rw[(md e).1] at h;cases h⟩
def Step.old {H H':Hp}{t t' N:Int}{o:HO}(x:Step b c H H' t t' N)(h:H a=some o)(h1:a≠b)(h2:a≠c):H' a=some o:=
 (md (x.sm a o (by rw[dF h1 h2];show h))).1
def Step.fresh {H H':Hp}{t t' N:Int}(x:Step b c H H' t t' N)(hb:Bx H b c t)(h:H' a=none):H a=none:=by
 obtain⟨h1,h2⟩:=x.bx.aM h;cases e:H a with
 | none=>rfl
 | some o=>rw[x.old e h1 h2] at h;cases h
def aq.gN (s:aq H H'):aq (gN H b c) (gN H' b c):=qF fun a o _ _ e=>s a o e
def Bx.same {b c:KE}{t:Int}(x:Bx H b c t)(s:aq H H'):Bx H' b c t:=by
 obtain⟨ns,x⟩:=x;show{ns,s _ _ x.d,s _ _ x.l,x.ne,x.le}
def Step.same {H H':Hp}{t:Int}(x:Bx H b c t)(s:aq H H'):Step b c H H' t t 0:=⟨Int.le_refl _,⋯,x.same s,aq.gN s⟩
def yh:Sp:=fun vs H Q _=>nP fun b c t many=>vs=[.ref b,.int many]/\Bx H b c t/\0<=t/\t<100000000/\0<many/\many<1073741824 /\
 ∀r H',0<=r->r<many->Step b c H H' t (t+1) 1->Q (.int r) H'
def JL (h:yh vs H Q E):Gj vs H Q E:=by
 obtain⟨b,c,t,many,e,⟨ns,bx⟩,h1,h2,h3,h4,q⟩:=h;show{b,c,t,ns,many,e,bx,h1,h2,h3,h4,fun r H' KI r0 r1 bx' sm=>q r H' r0 r1 {⋯,⋯,⟨KI,bx'⟩,sm}}
def Nt (vs:List V)(j:Nat):kP vs none (some (j:Int))=vs.take j:=by
 unfold kP;rw[HT.wX,HT.m5,QcO,Nat.sub_zero]
 rcases Qgj j vs.length with h|h
 ·rw[Nat.min_eq_left h]
 ·rw[Nat.min_eq_right h,Uz (Je _),Uz h]
def GX (vs:List V)(j:Nat):kP vs (some (j:Int)) none=vs.drop j:=by
 unfold kP;rw[HT.wX,HT.m5]
 rcases Qgj j vs.length with h|h
 ·rw[Nat.min_eq_left h,Uz (by rw[Ug];show Je _)]
 ·rw[Nat.min_eq_right h,Qf4 (Je _),Qf4 h];simp
def Fn.imp (F:Fn P w K mg base k x ps sp)(h:∀vs H Q E,sp' vs H Q E->sp vs H Q E):Fn P w K mg base k x ps sp':=by
 show ak.el (F.ex) _ ?_;rintro f fd a b c d;show{f,fd,a.imp h,b,c,d}
def Step.cL {H H' H2:Hp}{t t' N:Int}{o:HO}(x:Step b c H H' t t' N)(n:jI H' p o H2):Step b c H H2 t t' N:=by rw[n.eq];show x.new n.nn _
def Step.GD {H H' H2:Hp}{t t' N:Int}{o:HO}(x:Step b c H H' t t' N)(n:Eu H' p o H2)(h:H p=none)(h1:p≠b)(h2:p≠c):Step b c H H2 t t' N:=by rw[n.eq];show x.Zs h h1 h2 _
def eA (x:Str):Prop:=∀c∈x.cps.toList,c=48\/c=49
def sG (g:Str):∀(parts:List Str) acc,(parts.foldl (fun acc p=>acc++g.cps++p.cps) acc).toList=acc.toList++parts.flatMap (fun p=>g.cps.toList++p.cps.toList)
 | [],acc=>by simp
 | p::r,acc=>by rw[QeY,sG g r];simp
def dI (xs:List Str):(QaM "" xs).cps.toList=xs.flatMap (fun p=>p.cps.toList):=by
 cases xs with
 | nil=>rfl
 | cons x r=>
  change((r.foldl (fun acc p=>acc++(Wp "").cps++p.cps) x.cps)).toList=_;rw[sG];have e:(Wp "").cps.toList=[]:=rfl;simp[e]
def aK (x y:Str):(x++y).cps.toList=x.cps.toList++y.cps.toList:=by
 change(x.cps++y.cps).toList=_;simp
def str_len (x:Str):x.length=x.cps.toList.length:=by simp[Str.length]
def Sh (n:Nat)(d:Qad):Prop:=d.canLay0=true/\d.depth<=n
def Sh.all:∀{ds:List Qad},(∀d∈ds,Sh n d)->Qcb ds=true/\Qbt ds<=n
 | [],_=>⟨by simp[Qcb],by simp[Qbt]⟩
 | d::ds,h=>by
  obtain⟨h1,h2⟩:=h d Jj;obtain⟨h3,h4⟩:=Sh.all fun e he=>h e (Jh _ he);show{by simp[Qcb,h1,h3],by simp only[Qbt];lia}
def Sh.list {ds:List Qad}(h:∀d∈ds,Sh n d):Sh (n+1) (.list ds):=by
 obtain⟨h1,h2⟩:=Sh.all h;show{by simpa [QbB] using h1,by simp only[Qbg];lia}
def Sh.tuple {ds:List Qad}(h:∀d∈ds,Sh n d):Sh (n+1) (.tuple ds):=by
 obtain⟨h1,h2⟩:=Sh.all h;show{by simpa [QbB] using h1,by simp only[Qbg];lia}
def Sh.shaped (h:Sh n d)(hn:n<=64):QaE d=true:=by
 unfold QaE;rw[h.1,decide_eq_true (Jf h.2 hn)]
 rfl
def Sh.str {x:Str}(h:QbB (.str x)=true):Sh n (.str x):=⟨h,by simp[Qbg]⟩
def Sh.int:Sh n (.int i):=⟨by simp[QbB],by simp[Qbg]⟩
def fj (h:∀ch∈x.cps.toList,ch<128):QbB (.str x)=true:=by
 simp only[QbB,PyData.strOk];rw[<-Array.all_toList,U2];intro ch hc;have:=h ch hc;show decide_eq_true ⋯
def Den.strs:∀(xs:List Str),a8 K H (xs.map QbO) (xs.map V.str)
 | []=>by unfold a8;rfl
 | x::xs=>by
  show{_,_,rfl,by unfold Den;rfl,Den.strs xs}
def Den.list {vs:List V}(h:aW K H l vs)(hd:a8 K H ds vs):Den K H (.list ds) (.ref l):=
 ⟨l,vs,rfl,h,hd⟩
def m8:∀{ds:List Qad} {d:Qad},Qbt ds<=n->d∈ds->d.depth<=n
 | [],_,_,h=>nomatch h
 | e::ds,d,hn,h=>by
  simp only[Qbt] at hn
  rcases Jq.mp h with rfl|h
  ·lia
  ·show m8 ⋯ h
def gR:∀{ds:List Qad} {d:Qad},Qap ds<=n->d∈ds->d.weight<=n
 | [],_,_,h=>nomatch h
 | e::ds,d,hn,h=>by
  simp only[Qap] at hn
  rcases Jq.mp h with rfl|h
  ·lia
  ·show gR ⋯ h
def mi:∀ds,ds.length<=Qap ds
 | []=>by simp
 | e::ds=>by
  simp only[Qap,Jo];have:=mi ds;lia
def all_true (n:Nat):(Jm n true).all id=true:=by simp
def a8.of_get:∀{ds:List Qad} {vs:List V},ds.length=vs.length->(∀(j:Nat) d v,ds[j]? = some d->vs[j]? = some v->Den K H d v)->a8 K H ds vs
 | [],[],_,_=>by unfold a8;rfl
 | [],_::_,h,_=>by simp at h
 | _::_,[],h,_=>by simp at h
 | d::ds,v::vs,h,g=>by
  show{v,vs,rfl,g 0 d v rfl rfl,a8.of_get (by simpa using h) fun j d' v' h1 h2=>g (j+1) d' v' h1 h2}
def lK (a b:Str):V:=if Qcf a b=true then .str (Qak a (some (b.length:Nat)) none) else if Qcf b a=true then .str (Qak b (some (a.length:Nat)) none) else .non
def Aq:Sp:=fun vs H Q _=>∃a b,vs=[.str a,.str b]/\a.length<=1000000/\b.length<=1000000/\Q (lK a b) H
section
variable {P:Qac}{w:Qag}{K:Ja}{mg:Str->Option Fk}{base:Heap}{f:KE}{fd:Qal}
def Iy:aD ["one", "other"] ["one", "other"] (ai (top nR)):=fO
def IT (F:eC K "rest_of" "rest_of" (top nR) f fd)(T:Nm mg):aU P w K mg base dX 1 f fd ["one", "other"] Aq:=by
 show F.gw Iy fun H vs Q E hr h =>?_;unfold Aq at h;show ak.el h _ ?_;rintro a b rfl ha hb q;show⟨_,(af (aN (bX (qd K Qaz QeG QeF lM (pv 0) (aa (pv 1) ae))) (ag (ao (bt (T2 K) (pv 0) (aY (aj (dN K) rfl T.n_len (by rfl) (aa (pv 1) ae))) eK))) ay)
  (af (aN (bX (qd K Qaz QeG QeF lM (pv 1) (aa (pv 0) ae))) (ag (ao (bt (T2 K) (pv 1) (aY (aj (dN K) rfl T.n_len (by rfl) (aa (pv 0) ae))) eK))) ay)
  (ag (ao aX)))),?_⟩
 unfold lK at q;show{_,rfl,rfl,_,rfl,a,b,rfl,rfl,_,rfl,(eU (fun c =>?_) (fun c =>?_))}
 ·rw[if_pos c] at q;show{_,rfl,_,rfl,_,_,rfl,{sizeOk (Jf hb ∅),rfl},_,rfl,.inr {a,rfl,sizeOk (Jf ha ∅),q}}
 ·rw[if_neg c] at q;show{_,rfl,rfl,_,rfl,b,a,rfl,rfl,_,rfl,(eU (fun c =>?_) (fun c =>?_))}
  ·rw[if_pos c] at q;show{_,rfl,_,rfl,_,_,rfl,{sizeOk (Jf ha ∅),rfl},_,rfl,.inr {b,rfl,sizeOk (Jf hb ∅),q}}
  ·rw[if_neg c] at q;show q
def SN (bk:List (Str×Str))(j:Nat):Prop:=∀i' j' a b,i'<j'->j'<j->bk[i']? = some a->bk[j']? = some b->lK a.2 b.2 = .non
def BA (K:Ja):Sp:=fun vs H Q _=>∃v bk,vs=[v]/\Den K H (aO bk) v/\bk.length<=1000/\(∀q∈bk,q.2.length<=200000) /\
 (SN bk bk.length->∀H',aq H H'->Q .non H') /\
 ∀i j a b,bk[i]? = some a->bk[j]? = some b->i<j->SN bk j->(∀i' a',i'<i->bk[i']? = some a'->lK a'.2 b.2 = .non)->lK a.2 b.2 ≠ .non ->
  ∀p H',aq H H'->H p=none->H' p=some (.tup [.str a.1,.str b.1])->Q (.ref p) H'
def tI:aD ["book", "at", "other", "code", "one", "code_ahead"] ["book"] (ai (top uU)):=fO
def Gu (vs:List V)(j:Nat)(h:j<=vs.length):kP vs none (some (j:Int))=vs.take j:=by
 unfold kP;have e:HT.eT vs.length vs.length (some (j:Int))=j:=by
  unfold HT.eT;lia
 rw[e];change((vs.drop 0).take (j-0))=_;simp
def PN (F:eC K "clash" "clash" (top uU) f fd)(T:Nm mg)(NI:Fn P w K mg base 1 "rest_of" ["one", "other"] Aq):aU P w K mg base dX 2 f fd ["book"] (BA K):=by
 show F.gw tI fun H vs Q E hr h =>?_;obtain⟨v,bk,rfl,hD,hlen,hle,q0,q1⟩:=h;show⟨_,(af (eZ Qay rfl (JZ rfl T.n_enumerate (aa (pv 0) ae)) (tupK K 2 rfl (aI (eX (i:=1) tI.nd) (aI (tupK K 2 rfl (aI (eX (i:=2) tI.nd) (aI (eX (i:=3) tI.nd) bM))) bM))) (ag (eZ Qay rfl (FQ K (bt (T2 K) (pv 0) eK (aY (pv 1)))) (tupK K 2 rfl (aI (eX (i:=4) tI.nd) (aI (eX (i:=5) tI.nd) bM))) (ag (aN (aw BO (HD NI hr rfl (aa (pv 5) (aa (pv 3) ae))) aX (aA _)) (ag (ao (FH (aa (pv 4) (aa (pv 2) ae))))) ay)))))
  (ag (ao aX))),?_⟩
 obtain⟨l,vs,rfl,hS,hDs⟩:=hD;have hvl:vs.length=bk.length:=by rw[hDs.len,Jc]
 have item:∀i (hi:i<bk.length),∃a,vs[i]? = some (.ref a)/\aV K H a [.str bk[i].1,.str bk[i].2]:=fun i hi=>by
  obtain⟨x,hx,dx⟩:=hDs.get (by rw[Jk,Jd hi];rfl);obtain⟨a,rfl,hT⟩:=dx.pair;show⟨a,hx,hT⟩
 have tH:∀i (hi:i<bk.length),bk[i].2.length<=1000000:=fun i hi=>Jf (hle _ (Uc hi)) ∅;show{_,rfl,l,rfl,{_,hS},(jO (N:=bk.length) (fun j σ H'=>aq H H'/\SN bk j/\∃x1 x2 x3 x4 x5,σ=[some (.ref l),x1,x2,x3,x4,x5]) {aq.refl _,fun i' j' a b _ h=>absurd h (Wb _),_,_,_,_,_,rfl} ?_ ?_)}
 ·rintro j σ H' hj ⟨sm,nc,x1,x2,x3,x4,x5,rfl⟩;obtain⟨a,hx,hT⟩:=item j hj;show{{_,_,sm.seq hS,hx},?_};rintro x H2 ⟨t1,rfl,ht1,hy⟩;have e:=hy _ _ (sm.seq hS) hx;subst e;have j6:=sm.trans (bb ht1 (.tup [.int j,.ref a]));show{t1,_,rfl,aV.of ax,rfl,_,_,rfl,_,_,rfl,a,_,rfl,j6.bF hT,rfl,_,_,rfl,_,_,rfl,rfl,rfl,{_,rfl,_,rfl,_,rfl,.inl {l,_,rfl,j6.seq hS,fun p hp =>?_}}};rw[Gu vs j ⋯];have LL:=j6.trans (bb hp (.lst (vs.take j)));show{p,rfl,{_,aW.of ax},(Hz (xs:=vs.take j) (fun i σ H4=>aq (upd (upd H' t1 (.tup [.int j,.ref a])) p (.lst (vs.take j))) H4/\(∀i' a',i'<i->bk[i']? = some a'->lK a'.2 bk[j].2 = .non)/\∃y4 y5,σ=[some (.ref l),some (.int j),some (.str bk[j].1),some (.str bk[j].2),y4,y5]) {aq.refl _,fun i' a' h=>absurd h (Wb _),_,_,rfl} ?_ ?_ ?_)}
  ·rintro i σ H4 hi ⟨tP,_,_⟩;show tP.seq (aW.of ax)
  ·rintro i x σ H4 hix ⟨tP,ng,y4,y5,rfl⟩;have wN:i<j:=by
    have:=(Jl.mp hix).1;rw[J3] at this;lia
   have Sr:i<bk.length:=by lia
   obtain⟨a',nV,hT'⟩:=item i Sr;rw[QfT wN,nV] at hix;cases hix;have TQ:=LL.trans tP;show{a',_,rfl,TQ.bF hT',rfl,_,_,rfl,_,_,rfl,rfl,{_,rfl,_,rfl,bk[i].2,bk[j].2,rfl,tH i Sr,tH j hj,.inl {rfl,_,rfl,(eU (fun c =>?_) (fun c =>?_))}}}
   ·have hr:lK bk[i].2 bk[j].2 ≠ .non:=by simpa using c
    show{_,rfl,_,rfl,eV,fun t2 ht2=>q1 i j bk[i] bk[j] (Jd Sr) (Jd hj) wN nc ng hr t2 _ (TQ.trans (bb ht2 _)) (TQ.free ht2) ax}
   ·have hr:lK bk[i].2 bk[j].2 = .non:=by simpa using c
    show{tP,fun i' b' yI sL =>?_,_,_,rfl}
    by_cases z:i'<i
    ·show ng i' b' z sL
    ·have:i'=i:=by lia
     subst this;rw[Jd Sr] at sL;cases sL;show hr
  ·rintro σ H4 ⟨tP,ng,y4,y5,rfl⟩;show{LL.trans tP,fun i' j' a1 b1 h1 h2 e1 e2 =>?_,_,_,_,_,_,rfl}
   by_cases z:j'<j
   ·show nc i' j' a1 b1 h1 z e1 e2
   ·have:j'=j:=by lia
    subst this;rw[Jd hj] at e2;cases e2;show ng i' a1 (by rw[J3];lia) e1
 ·rintro σ H' ⟨sm,nc,x1,x2,x3,x4,x5,rfl⟩;show{{_,sm.seq hS,by rw[hvl];show Je _},q0 nc H' sm}
abbrev sg (x:Str):List Nat:=x.cps.toList
def RF (a b:Str):Prop := ¬(sg a <+: sg b)/\¬(sg b <+: sg a)
def RF.symm (h:RF a b):RF b a:=⟨h.2,h.1⟩
def nY (x y:Str):sg (x++y)=sg x++sg y:=aK x y
def RF.ext (h:RF a b):RF (a++u) (b++v):=by
 show{fun z =>?_,fun z =>?_}
 ·rw[nY,nY] at z
  rcases Qcl ((Qb4 _ _).trans z) (Qb4 (sg b) (sg v)) with q|q
  ·show h.1 q
  ·show h.2 q
 ·rw[nY,nY] at z
  rcases Qcl ((Qb4 _ _).trans z) (Qb4 (sg a) (sg u)) with q|q
  ·show h.2 q
  ·show h.1 q
abbrev gB (cs:List Str):Prop:=cs.Pairwise RF
def gB.perm (h:gB cs)(p:cs.Perm ds):gB ds:=(p.pairwise_iff fun h=>RF.symm h).mp h
abbrev s0:Str := "0"
abbrev s1:Str := "1"
def RF.two (x:Str):RF (x++s0) (x++s1):=by
 have e0:sg (x++s0)=sg x++[48]:=aK x s0;have e1:sg (x++s1)=sg x++[49]:=aK x s1;show{fun z =>?_,fun z =>?_}
 ·rw[e0,e1] at z;have:=z.eq_of_length (by simp);simp at this
 ·rw[e0,e1] at z;have:=z.eq_of_length (by simp);simp at this
def RF.one {x y u:Str}(h:RF y x):RF y (x++u):=
 h.ext (u:=Qau) (v:=u)
def gB.split {x:Str}(h:gB (A++x::B)):gB (A++[x++s0,x++s1]++B):=by
 rw[Ux];show ak.el (Y2.mp h) _ ?_;rintro hA hxB hAB;obtain⟨hx,hB⟩:=List.pairwise_cons.mp hxB;show Y2.mpr {hA,?_,fun a ha y hy =>?_}
 ·show Y2.mpr {List.pairwise_cons.mpr {fun y hy=>by rw[Jt.mp hy];show RF.two x,Qb7 _ _},hB,fun y hy z hz =>?_};have q:=(hx z hz).symm;simp at hy
  rcases hy with rfl|rfl
  ·show q.one.symm
  ·show q.one.symm
 ·rcases Ub.mp hy with hy|hy
  ·have q:=hAB a ha x Jj;simp at hy
   rcases hy with rfl|rfl
   ·show q.one
   ·show q.one
  ·show hAB a ha y (Jh _ hy)
def jH (x y:Str):Qcf x y=true↔sg y <+: sg x:=by
 have hl:=str_len y;have hx:=str_len x;have e:(x.cps.extract 0 (0+y.length)==y.cps)=true↔(sg x).take y.length=sg y:=by
  rw[beq_iff_eq,<-Array.toList_inj];simp[]
 change(decide (0+y.length<=x.length)&&(x.cps.extract 0 (0+y.length)==y.cps))=true↔_;rw[Jw,decide_eq_true_iff,e];constructor
 ·rintro⟨_,h⟩;rw[<-h];show List.take_prefix _ _
 ·show fun h=>{by have:=h.length_le;lia,by rw[hl];show(List.prefix_iff_eq_take.mp h).symm}
def tN:lK a b = .non↔RF a b:=by
 unfold lK RF
 by_cases h1:Qcf a b=true
 ·rw[if_pos h1];show{(nofun),fun z=>absurd ((jH a b).mp h1) z.2}
 ·rw[if_neg h1]
  by_cases h2:Qcf b a=true
  ·rw[if_pos h2];show{(nofun),fun z=>absurd ((jH b a).mp h2) z.1}
  ·rw[if_neg h2];show{fun _=>{fun z=>h2 ((jH b a).mpr z),fun z=>h1 ((jH a b).mpr z)},fun _=>rfl}
def BG (bk:List (Str×Str)):SN bk bk.length↔gB (bk.map (·.2)):=by
 constructor
 ·show fun h=>Ut.mpr fun i j hi hj wN =>?_;rw[Jc] at hi hj;rw[Y0,Y0];show tN.mp (h i j _ _ wN hj (Jd hi) (Jd hj))
 ·intro h i j a b wN hj ha hb;obtain⟨yI,rfl⟩:=Jl.mp ha;obtain⟨N7,rfl⟩:=Jl.mp hb;have z:=Ut.mp h i j (by rw[Jc];show yI) (by rw[Jc];show N7) wN;rw[Y0,Y0] at z;show tN.mpr z
def Fu (K:Ja):Sp:=fun vs H Q _=>∃v bk,vs=[v]/\Den K H (aO bk) v/\bk.length<=1000/\(∀q∈bk,q.2.length<=200000) /\
 (gB (bk.map (·.2))->∀H',aq H H'->Q (.bl true) H')/\(¬gB (bk.map (·.2))->∀H',aq H H'->Q (.bl false) H')
def JO:aD ["book"] ["book"] (ai (top Ak)):=fO
def IY (F:eC K "free" "free" (top Ak) f fd)(T:Nm mg)(IU:Fn P w K mg base 2 "clash" ["book"] (BA K)):aU P w K mg base dX 3 f fd ["book"] (Fu K):=by
 show F.gw JO fun H vs Q E hr h =>?_;obtain⟨v,bk,rfl,hD,hl,hc,q1,q2⟩:=h;show{_,(ag (ao (cF nN (bP IU hr (aa (pv 0) ae)) aX (aA _)))),{_,rfl,v,bk,rfl,hD,hl,hc,fun nc H' sm =>.inl {rfl,q1 ((BG bk).mp nc) H' sm},fun i j a b ha hb wN _ _ zw p H' sm hp hp' =>.inl {rfl,q2 (fun fr=>(zw ((BG bk).mpr fr i j a b wN (Jl.mp hb).1 ha hb))) H' sm}}}
end
end Z
set_option maxHeartbeats 30000000
namespace Z
open PySem L2
abbrev dB:Str := "01"
abbrev uV:Str := "abcdefghijklmnopqrstuvwxyz"
def gm (x y:Str):Bool:=decide (V.str (Qfy x y)=V.str (Wp ""))
def eJ:Qad->Bool
 | .str x=>decide ((1:Int)<=(x.length:Nat))&&(decide (((x.length:Nat):Int)<=8)&&gm x uV)
 | _=>false
def cV:Qad->Bool
 | .str x => !decide (V.str x=V.str (Wp ""))&&gm x dB
 | _=>false
def bH:Qad->Bool
 | .tuple [a,b]=>eJ a&&cV b
 | _=>false
def hX:Qad->Str
 | .tuple (.str x::_)=>x
 | _=>Qau
def d6:Qad->Bool
 | .list ds => !ds.isEmpty&&(ds.all bH&&decide ((b8 (fun i=>(ds.map hX).getD i Qau) ds.length).length=ds.length))
 | _=>false
def yr (K:Ja):Sp:=fun vs H Q _=>∃v d,vs=[v]/\Den K H d v/\d.weight<=300000/\QaE d=true/\(∀ds,d = .list ds->ds.length<=4000)/\∀H',aq H H'->Q (.bl (d6 d)) H'
def vV:Sp:=fun vs H Q _=>∃x y,vs=[.str x,.str y]/\x.length<=1000000/\Q (.bl (gm x y)) H
def uu (K:Ja)(f:Qad->Bool):Sp:=fun vs H Q _=>∃v d,vs=[v]/\Den K H d v/\d.weight<=1000000/\∀H',aq H H'->Q (.bl (f d)) H'
section
variable {P:Qac}{w:Qag}{K:Ja}{mg:Str->Option Fk}{base:Heap}{f:KE}{fd:Qal}{t1 t2 t3:Tok}
def y9:aD ["text", "signs"] ["text", "signs"] (ai (top oV)):=fO
def Ik (F:eC K "made_of" "made_of" (top oV) f fd)(T:Nm mg):aU P w K mg base dX 1 f fd ["text", "signs"] vV:=by
 show F.gw y9 fun H vs Q E hr h =>?_;obtain⟨x,y,rfl,hx,q⟩:=h;show{_,(ag (ao (cF (ka K hr.units) (qd K Qaz PySem.F.slot_str_strip PySem.F.type_str_strip Eh (pv 0) (aa (pv 1) ae)) ar (aA _)))),{_,rfl,rfl,_,rfl,x,y,rfl,rfl,sizeOk (Jf hx ∅),.inl ⟨rfl,q⟩}}
def Aj:aD ["thing"] ["thing"] (ai (top oN)):=fO
def De (F:eC K "is_name" "is_name" (top oN) f fd)(T:Nm mg)(ig:mg "LONGEST_NAME" = some (.int 8 t1))(gj:mg "SMALL_LETTERS" = some (.str uV t2))(jg:Fn P w K mg base 1 "made_of" ["text", "signs"] vV):aU P w K mg base dX 2 f fd ["thing"] (uu K eJ):=by
 show F.gw Aj fun H vs Q E hr h =>?_;obtain⟨v,d,rfl,hd,hw,q⟩:=h;have hq:=q H (aq.refl _);show⟨_,(ag (ao (fL (aj (j2 K) rfl T.n_isinstance (by rfl) (aa (pv 0) (aa (bK rfl T.n_str (by rfl) (v := .ty "str") rfl) ae))) (fL (Gg rL rL ah (aj (dN K) rfl T.n_len (by rfl) (aa (pv 0) ae)) (mZ rfl ig)) (ky (bP jg hr (aa (pv 0) (aa (u0 rfl gj) ae)))))))),⟨_,rfl,.inl ⟨_, "str",d,_,rfl,hd,(xk K d).2.2.1,_,rfl,?_⟩⟩⟩;cases d with
 | str x=>
  subst hd;have OL:=hw;show br {_,rfl,_,_,rfl,{sizeOk (Jf OL ∅),rfl},_,_,rfl,rfl,_,rfl,?_};have hq:Q (.bl (decide ((1:Int)<=(x.length:Nat))&&(decide (((x.length:Nat):Int)<=8)&&gm x uV))) H:=hq;show eU (fun c1 =>?_) (fun c1 =>?_)
  ·rw[c1,Yb] at hq;show{_,_,rfl,rfl,_,rfl,eU (fun c2 =>?_) (fun c2 =>?_)}
   ·rw[c2,Yb] at hq;show{_,rfl,x,_,rfl,OL,hq}
   ·rw[Ye.mpr c2,Y1] at hq;show hq
  ·rw[Ye.mpr c1,Y1] at hq;show{_,rfl,bf hq}
 | _=>show bf hq
def zb:aD ["thing"] ["thing"] (ai (top oA)):=fO
def Ea (F:eC K "is_code" "is_code" (top oA) f fd)(T:Nm mg)(lA:mg "SIGNS" = some (.str dB t3))(jg:Fn P w K mg base 1 "made_of" ["text", "signs"] vV):aU P w K mg base dX 2 f fd ["thing"] (uu K cV):=by
 show F.gw zb fun H vs Q E hr h =>?_;obtain⟨v,d,rfl,hd,hw,q⟩:=h;have hq:=q H (aq.refl _);show⟨_,(ag (ao (fL (aj (j2 K) rfl T.n_isinstance (by rfl) (aa (pv 0) (aa (bK rfl T.n_str (by rfl) (v := .ty "str") rfl) ae))) (fL (cF (Cq K hr.units) (pv 0) ar (aA _)) (ky (bP jg hr (aa (pv 0) (aa (u0 rfl lA) ae)))))))),⟨_,rfl,.inl ⟨_, "str",d,_,rfl,hd,(xk K d).2.2.1,_,rfl,?_⟩⟩⟩;cases d with
 | str x=>
  subst hd;have hq:Q (.bl (!decide (V.str x=V.str (Wp ""))&&gm x dB)) H:=hq;show br {_,rfl,.inl {rfl,_,rfl,eU (fun c1 =>?_) (fun c1 =>?_)}}
  ·rw[c1,Yb] at hq;show{_,rfl,x,_,rfl,hw,hq}
  ·rw[Ye.mpr c1,Y1] at hq;show hq
 | _=>show bf hq
def xr:aD ["thing"] ["thing"] (ai (top mE)):=fO
def yP (F:eC K "is_entry" "is_entry" (top mE) f fd)(T:Nm mg)(Cm:Fn P w K mg base 2 "is_name" ["thing"] (uu K eJ))(CM:Fn P w K mg base 2 "is_code" ["thing"] (uu K cV)):aU P w K mg base dX 3 f fd ["thing"] (uu K bH):=by
 show F.gw xr fun H vs Q E hr h =>?_;obtain⟨v,d,rfl,hd,hw,q⟩:=h;show⟨_,(ag (ao (fL (aj (j2 K) rfl T.n_isinstance (by rfl) (aa (pv 0) (aa (bK rfl T.n_tuple (by rfl) (v := .ty "tuple") rfl) ae))) (fL (cF (ka K hr.units) (aj (dN K) rfl T.n_len (by rfl) (aa (pv 0) ae)) ah (aA _)) (fL (bP Cm hr (aa (aR (eW K) (pv 0) ah (fun _ _=>rfl)) ae)) (ky (bP CM hr (aa (aR (eW K) (pv 0) ah (fun _ _=>rfl)) ae)))))))),⟨_,rfl,.inl ⟨_, "tuple",d,_,rfl,hd,(xk K d).2.2.2.2,_,rfl,?_⟩⟩⟩;cases d with
 | tuple ds=>
  have e:=hd;obtain⟨a,us,rfl,hT,hds⟩:=e;have hl:=hds.len;show br {_,rfl,_,_,rfl,.inr {_,hT,rfl},.inl {rfl,_,rfl,eU (fun c1 =>?_) (fun c1 =>?_)}}
  ·have c1:=of_decide_eq_true c1;rw[hl] at c1
   match ds,c1,hds,hw,q with
   | [d1,d2],_,hds,hw,q=>
    obtain⟨v1,r1,rfl,h1,hds⟩:=hds;obtain⟨v2,r2,rfl,h2,hds⟩:=hds;subst hds;have hw:QaA d1+1+(QaA d2+1+0)<=1000000:=by simpa only [QaA,Qap] using hw
    have q:∀H',aq H H'->Q (.bl (eJ d1&&cV d2)) H':=q;show{_,rfl,.inr (.inl {a,_,0,_,rfl,rfl,hT,rfl,v1,d1,rfl,h1,⋯,fun H1 sm1=>{_,rfl,eU (fun c2 =>?_) (fun c2 =>?_)}})}
    ·show{_,rfl,.inr (.inl {a,_,1,_,rfl,rfl,sm1.bF hT,rfl,v2,d2,rfl,h2.same sm1,⋯,fun H2 j6 =>?_})};have z:=q H2 (sm1.trans j6);rw[c2,Yb] at z;show z
    ·have z:=q H1 sm1;rw[Ye.mpr c2,Y1] at z;show z
  ·have c1:=of_decide_eq_false (Ye.mpr c1);have z:=q H (aq.refl _);have e:bH (.tuple ds)=false:=by
    match ds,hl with
    | [],_=>rfl
    | [_],_=>rfl
    | [_,_],hl=>show absurd (by rw[hl];rfl) c1
    | _::_::_::_,_=>rfl
   rw[e] at z;show z
 | _=>show bf (q H (aq.refl _))
def Gq (h:eJ d=true):∃x,d = .str x:=by
 cases d<;>first|show⟨_,rfl⟩|(simp[eJ] at h)
def FR (h:cV d=true):∃x,d = .str x:=by
 cases d<;>first|show⟨_,rfl⟩|(simp[cV] at h)
def wH (h:bH d=true):∃x y,d = .tuple [.str x,.str y]:=by
 cases d with
 | tuple ds=>
  match ds,h with
  | [],h=>simp[bH] at h
  | [_],h=>simp[bH] at h
  | [a,b],h=>
   have h:(eJ a&&cV b)=true:=h;rw[Jw] at h;obtain⟨x,rfl⟩:=Gq h.1;obtain⟨y,rfl⟩:=FR h.2;show⟨x,y,rfl⟩
  | _::_::_::_,h=>simp[bH] at h
 | _=>simp[bH] at h
def Bu (ds:List Qad):Qb1 (.list ds) (.list [])=ds.isEmpty:=by
 cases ds<;>simp[Qb1,QbX]
def zM:aD ["thing"] ["thing"] (ai (top oh)):=fO
def DM (F:eC K "is_book" "is_book" (top oh) f fd)(T:Nm mg)(yQ:Fn P w K mg base 3 "is_entry" ["thing"] (uu K bH)):aU P w K mg base dX 4 f fd ["thing"] (yr K):=by
 show F.gw zM fun H vs Q E hr h =>?_;obtain⟨v,d,rfl,hd,hw,So,DL,q⟩:=h;have fB:=hr.units;show⟨_,(af (aN (PW.pt (jW (dM (bX (aj (j2 K) rfl T.n_isinstance (by rfl) (aa (pv 0) (aa (bK rfl T.n_list (by rfl) (v := .ty "list") rfl) ae))))) (iQ (aw (ka K fB) (pv 0) (gq ae) (aA _))))) (ag (ao jX)) ay)
  (af (aN (dM (bX (aj (Rp K rfl) rfl T.n_all (by rfl) (aa (dQ rfl (b9 (Nc:=["part"]) (Fc:=[]) (js:=[])) (FQ K (pv 0)) (bC (i:=0) (n:=1) ∅) (fun _ _ _ _ _=>(eX (i:=0) (pK ["part"]))) (fun _ _ _ _ _=>cE) (fun _ _ _ _ _=>(bP yQ hr (aa (pv 0) ae)))) ae)))) (ag (ao jX)) ay)
  (ag (ao (cF (ka K fB) (aj (Ds (K5 P w)) rfl T.n_len (by rfl) (aa (xf (K5 P w) rfl (b9 (Nc:=["name", "code"]) (Fc:=[]) (js:=[])) (FQ K (pv 0)) (lV (cq (bC (i:=0) (n:=2) ∅) (cq (bC (i:=1) (n:=2) ∅) jM bL dq) bL (ic bL dq))) (fun _ _ _ _ _=>(tupK K 2 rfl (aI (eX (i:=0) (pK ["name", "code"])) (aI (eX (i:=1) (pK ["name", "code"])) bM)))) (fun _ _ _ _ _=>cE) (fun _ _ _ _ _=>(pv 0))) ae)) (aj (dN K) rfl T.n_len (by rfl) (aa (pv 0) ae)) (aA _)))))),?_⟩
 show⟨_,rfl,.inl ⟨_, "list",d,_,rfl,hd,(xk K d).2.2.2.1,_,rfl,?_⟩⟩;cases d with
 | list ds=>
  have e:=hd;unfold Den at e;obtain⟨a,us,rfl,hS,hds⟩:=e;have hl:=hds.len;have DL:=DL ds rfl;have Zp:Qap ds<=300000:=by simpa only [QaA] using hw
  show bf {_,rfl,HU,fun pe H1 n1 =>?_};have VA:Den K H1 (.list []) (.ref pe):=Den.list (aW.of n1.at) (Den.strs []);show .inr {_,_,hd.same n1.same,VA,So,∅,_,rfl,?_};rw[Bu];cases hem:ds.isEmpty with
  | true=>
   have z:=q H1 n1.same;have e:d6 (.list ds)=false:=by simp[d6,hem]
   rw[e] at z;show br z
  | false=>
   show bf ?_;have oj:=n1.same.seq hS;have QP:=hds.same n1.same;show{_,rfl,a,rfl,{_,oj},?_};show eh (N:=ds.length) (fun i ys H'=>aq H1 H'/\ys=((ds.take i).map bH).map V.bl) {aq.refl _,rfl} ?_ ?_
   ·rintro i ys H2 Nx hi ⟨j6,rfl⟩ nx;obtain⟨x,hx,dx⟩:=QP.get (i:=i) (Jd hi);show{{_,_,j6.seq oj,hx},Jy (show _<=300000 by rw[Jc,Jc,J3];lia) ∅,?_};rintro x' H3 ⟨rfl,hy⟩;have e:=hy _ (j6.seq oj);rw[hx] at e;cases e;show gn {_,rfl,_,_,rfl,dx.same j6,Jf (gR (n:=300000) Zp (Uc hi)) ∅,fun H4 tP=>nx _ _ {j6.trans tP,?_}};rw[Yv hi,Jx,Jx]
    rfl
   ·rintro ys H2 ⟨j6,rfl⟩;show{{_,j6.seq oj,by rw[hl];show Je _},fun p hp =>?_};rw[U5];show{p,_,rfl,aW.of ax,_,rfl,?_};have Ke:aq H1 (upd H2 p (.lst ((ds.map bH).map V.bl))):=j6.trans (bb hp _);have Tw:(ds.map bH).all id=ds.all bH:=by rw[List.all_map];rfl
    rw[Tw];cases kR:ds.all bH with
    | false=>
     have z:=q _ (n1.same.trans Ke);have e:d6 (.list ds)=false:=by simp[d6,hem,kR]
     rw[e] at z;show br z
    | true=>
     show bf ?_;generalize upd H2 p (.lst ((ds.map bH).map V.bl))=H3 at Ke;have ent:∀i (hi:i<ds.length),∃x y:Str,ds[i] = .tuple [.str x,.str y]:=fun i hi=>wH (U2.mp kR _ (Uc hi));show{_,rfl,a,rfl,{_,Ke.seq oj},fun D hD =>?_};show yu (N:=ds.length) (fun i H'=>H' D=some (iw (K5 P w) D (b8 (fun i=>(ds.map hX).getD i Qau) i))/\∀a u,a≠D->H3 a=some u->H' a=some u) {ax,fun a u h e=>by rw[av h];show e} ?_ ?_
     ·rintro i H4 Nx hi ⟨hD4,kp⟩ nx;obtain⟨x,hx,dx⟩:=(QP.same Ke).get (i:=i) (Jd hi);obtain⟨nm,cd,ed⟩:=ent i hi;rw[ed] at dx;obtain⟨pa,rfl,hT⟩:=dx.pair;have tP:aq H3 H4:=fun a u e=>kp a u (aE e hD) e;show{{_,_,tP.seq (Ke.seq oj),hx},?_};rintro x' H5 ⟨rfl,hy⟩;have e:=hy _ (tP.seq (Ke.seq oj));rw[hx] at e;cases e;have enm:(ds.map hX).getD i Qau=nm:=by
       rw[show(ds.map hX).getD i Qau=((ds.map hX)[i]?).getD Qau from rfl,Jk,Jd hi,ed]
       rfl
      have ml:=mr (fun i=>(ds.map hX).getD i Qau) i;show{pa,_,rfl,tP.bF hT,rfl,_,_,rfl,_,_,rfl,rfl,_,rfl,_,nm,hD4,rfl,⋯,nx _ {?_,fun a u h e =>?_}}
      ·rw[ax];change _=some (iw (K5 P w) D (oneMore (b8 (fun i=>(ds.map hX).getD i Qau) i) ((ds.map hX).getD i Qau)));rw[enm]
       rfl
      ·rw[av h];show kp a u h e
     ·rintro H4 ⟨hD4,kp⟩;have tP:aq H3 H4:=fun a u e=>kp a u (aE e hD) e;show{{_,tP.seq (Ke.seq oj),by rw[hl];show Je _},?_};show{D,_,rfl,hD4,_,rfl,_,_,rfl,.inl {_,tP.seq (Ke.seq oj),rfl},.inl {rfl,?_}};have z:=q H4 (n1.same.trans (Ke.trans tP));have e:d6 (.list ds)=decide (V.int ((b8 (fun i=>(ds.map hX).getD i Qau) ds.length).length:Nat)=V.int (us.length:Nat)):=by
       change(!ds.isEmpty&&(ds.all bH&&decide ((b8 (fun i=>(ds.map hX).getD i Qau) ds.length).length=ds.length)))=_;rw[hem,kR,Bool.not_false,Yb,Yb,Y9,decide_eq_true_iff,decide_eq_true_iff,hl];constructor
       ·intro z;rw[z]
       ·intro z;injection z with z;lia
      rw[e] at z;show z
 | _=>show br (q H (aq.refl _))
def cJ:aq (gN H b c) H:=fun a o e=>(md e).1
end
def fk {j:Nat}{d:Qad}{v:V}(h:a8 K H ds vs)(hd:ds[j]? = some d)(hv:vs[j]? = some v):Den K H d v:=by
 obtain⟨u,hu,q⟩:=h.get hd;rw[hv] at hu;cases hu;show q
def mO (h:a8 K H ds vs)(q:Den K H d v):a8 K H (ds++[d]) (vs++[v]):=by
 have hl:=h.len;show a8.of_get (by simp[hl]) fun j d' v' h1 h2 =>?_
 by_cases e:j<ds.length
 ·rw[Uy e] at h1;rw[Uy ⋯] at h2;show fk h h1 h2
 ·rw[Uw ⋯] at h1;rw[Uw ⋯,hl] at h2;have:j-ds.length=0:=by
   have:=(Jl.mp h1).1;simp at this;lia
  rw[this] at h1 h2;cases h1;cases h2;show q
def WY:List Qad->Bool
 | []=>true
 | .int _::_=>false
 | _::_=>true
mutual
def OY:Qad->Bool
 | .list ds=>WY ds&&Ab ds
 | .tuple ds=>Ab ds
 | _=>true
def Ab:List Qad->Bool
 | []=>true
 | d::ds=>OY d&&Ab ds
end
def Il (h:Den K H d (.int i)):d = .int i:=by
 cases d with
 | int k=>unfold Den at h;cases h;rfl
 | none=>unfold Den at h;cases h
 | bool b=>unfold Den at h;cases h
 | str x=>unfold Den at h;cases h
 | list ds=>unfold Den at h;obtain⟨_,_,e,_⟩:=h;cases e
 | tuple ds=>unfold Den at h;obtain⟨_,_,e,_⟩:=h;cases e
 | dict _=>unfold Den at h;show h.elim
mutual
def Den.hide {K:Ja}{H:Hp}{b c:KE}{t:Int}(bx:Bx H b c t):∀{d:Qad} {v:V},OY d=true->Den K H d v->Den K (gN H b c) d v
 | .none,_,_,h=>by unfold Den at h ⊢;show h
 | .bool _,_,_,h=>by unfold Den at h ⊢;show h
 | .int _,_,_,h=>by unfold Den at h ⊢;show h
 | .str _,_,_,h=>by unfold Den at h ⊢;show h
 | .list ds,_,n,h=>by
  unfold Den at h ⊢;unfold OY at n;rw[Jw] at n;obtain⟨a,vs,h1,h2,h3⟩:=h;show{a,vs,h1,?_,a8.hide bx n.2 h3};obtain⟨ns,bx⟩:=bx
  rcases h2 with (h2|⟨o,h2⟩)|h2
  ·show .inl (.inl ?_);rw[dF (fun z=>by rw[z,bx.d] at h2;cases h2) (fun z =>?_)]
   ·show h2
   rw[z,bx.l] at h2;cases h2;cases ds with
   | nil=>
    unfold a8 at h3;have:=bx.ne;cases ns with
    | nil=>show absurd this ∅
    | cons i ns=>cases h3
   | cons d ds=>
    unfold a8 at h3;obtain⟨v,r,e,hv,_⟩:=h3;cases ns with
    | nil=>cases e
    | cons i ns=>
     cases e;rw[Il hv] at n;show absurd n.1 (by simp[WY])
  ·show .inl (.inr {o,?_});rw[dF (fun z=>by rw[z,bx.d] at h2;cases h2) (fun z=>by rw[z,bx.l] at h2;cases h2)];show h2
  ·show .inr h2
 | .tuple ds,_,n,h=>by
  unfold Den at h ⊢;unfold OY at n;obtain⟨a,vs,h1,h2,h3⟩:=h;show{a,vs,h1,?_,a8.hide bx n h3};obtain⟨ns,bx⟩:=bx
  rcases h2 with (h2|⟨o,h2⟩)|h2
  ·show .inl (.inl ?_);rw[dF (fun z=>by rw[z,bx.d] at h2;cases h2) (fun z=>by rw[z,bx.l] at h2;cases h2)];show h2
  ·show .inl (.inr {o,?_});rw[dF (fun z=>by rw[z,bx.d] at h2;cases h2) (fun z=>by rw[z,bx.l] at h2;cases h2)];show h2
  ·show .inr h2
 | .dict _,_,_,h=>by unfold Den at h;show h.elim
def a8.hide {H:Hp}{b c:KE}{t:Int}(bx:Bx H b c t):∀{ds:List Qad} {vs:List V},Ab ds=true->a8 K H ds vs->a8 K (gN H b c) ds vs
 | [],_,_,h=>by unfold a8 at h ⊢;show h
 | d::ds,_,n,h=>by
  unfold Ab at n;rw[Jw] at n;obtain⟨v,r,h1,h2,h3⟩:=h;show{v,r,h1,Den.hide bx n.1 h2,a8.hide bx n.2 h3}
end
def AA (h:i.natAbs<2^200):QaA (.int i)<=201:=by
 simp only[QaA]
 split
 ·lia
 ·rename_i h0;have zw:i.natAbs≠0:=by
   show fun z=>h0 (by simp;lia)
  have:=(QeV zw).mpr h;lia
def BV (K:Ja):Sp:=fun vs H Q _=>fX fun a (ns:List Int)=>vs=[.ref a]/\aW K H a (ns.map V.int)/\ns.length<=63 /\
 ∀b c H',Bx H' b c 0->H b=none->H c=none->aq H (gN H' b c)->Q (.ref b) H'
def Den.ints:∀(ns:List Int),a8 K H (ns.map QdZ) (ns.map V.int)
 | []=>by unfold a8;rfl
 | n::ns=>by
  show{_,_,rfl,by unfold Den;rfl,Den.ints ns}
def FG (ds:List Qad):Qb1 (.list ds) (.list [])=ds.isEmpty:=by
 cases ds<;>simp[Qb1,QbX]
def JD (ns:List Int):Sh (n+1) (.list (ns.map QdZ)):=Sh.list fun d hd=>by
 show ak.el (Ul.mp hd) _ ?_;rintro i _ rfl;show Sh.int
section
variable {P:Qac}{w:Qag}{K:Ja}{mg:Str->Option Fk}{base:Heap}{f:KE}{fd:Qal}
def jv:aD ["_law_script", "_law_cells"] ["_law_script"] (ai (top kX)):=fO
def FC (F:eC K "_law_begin" "_law_begin" (top kX) f fd)(T:Nm mg):aU P w K mg base dX 1 f fd ["_law_script"] (BV K):=by
 show F.gw jv fun H vs Q E hr h =>?_;obtain⟨a,ns,rfl,hS,hlen,q⟩:=h;show⟨_,(af (cz (i:=1) jv.nd (aQ (B0 K) rfl T.n_list (by rfl) (aa (bt (xW K) (pv 0) eK (aY ah)) ae)))
  (af (aN (aw (ka K hr.units) (pv 1) (gq ae) (aA _)) (ag (cz (i:=1) jv.nd (gq (aa ah ae)))) ay)
  (ag (ao (K9 (iu ar (pv 1) (iu ar ah A0)) rfl rfl ∅ ∅))))),?_⟩
 show{_,rfl,_,rfl,.inl {a,_,rfl,hS,fun r1 H1 n1=>{r1,_,rfl,.inl (aW.of n1.at),fun r2 H2 n2=>gn ?_}}};have hc:kP (ns.map V.int) none (some 63)=ns.map V.int:=by
  have e:=Nt (ns.map V.int) 63;rw[Uz (by rw[Jc];show hlen)] at e;show e
 have yN:H2 r2=some (.lst (ns.map V.int)):=by rw[<-hc];show n2.at
 have j6:=n1.same.trans n2.same;dsimp only;show cS (fun σ H'=>fX fun r (KI:List Int) =>σ=[some (.ref a),some (.ref r)]/\H' r=some (.lst (KI.map V.int))/\0<KI.length/\KI.length<=64/\H r=none/\aq H H') (fun Nx nx =>?_) ?_
 ·show{_,rfl,HU,fun r3 H3 n3 =>?_};show .inr {_,_,(Den.list (aW.of (n3.same _ _ yN)) (Den.ints ns)),(Den.list (aW.of n3.at) (Den.ints [])),(JD (n:=1) ns).shaped ∅,∅,_,rfl,(eU (fun e =>?_) (fun e =>?_))}
  ·show{HW,fun r4 H4 n4=>gn (nx _ _ {r4,[_],rfl,n4.at,∅,∅,(j6.trans n3.same).free n4.nn,j6.trans (n3.same.trans n4.same)})}
  ·show nx _ _ {r2,ns,rfl,n3.same _ _ yN,?_,⋯,n1.same.free n2.nn,j6.trans n3.same};cases ns with
   | nil=>show absurd rfl e
   | cons _ _=>show QdA _
 show fun σ H3 hz_=>ak.el hz_ _ ?_;rintro r KI rfl hr' l0 l1 hn sm;show fun p H0 n0=>⟨_,rfl,⟨n0.at,[(.inr "cells",.ref r),(.inr "turn",.int 0)],rfl,by change 2<=15;decide,fun H6 n6 =>?_⟩⟩
 have Kx:=aE hr' n0.nn;have hp:=sm.free n0.nn;show q p r H6 {KI,?_,?_,l0,l1} hp hn (fun b o e =>?_)
 ·rw[n6.at];rfl
 ·rw[n6.ne Kx,n0.ne Kx];show hr'
 ·have SS:=aE e hp;rw[dF SS (aE e hn),n6.ne SS,n0.ne SS];show sm _ _ e
end
def tL:∀{ns:List Int} {vs:List V},a8 K H (ns.map QdZ) vs->vs=ns.map V.int
 | [],_,h=>by rw[Qds] at h;unfold a8 at h;show h
 | n::ns,_,h=>by
  obtain⟨v,r,rfl,h1,h2⟩:=h;rw[h1,tL h2];rfl
def Hg {ns:List Int}{v:V}(h:Den K H (.list (ns.map QdZ)) v):∃p,v = .ref p/\aW K H p (ns.map V.int):=by
 obtain⟨p,vs,rfl,h1,h2⟩:=h;rw[tL h2] at h1;show⟨p,rfl,h1⟩
def wj.same {b c:KE}{t:Int}{ns:List Int}(x:wj H b c t ns)(s:aq H H'):wj H' b c t ns:=⟨s _ _ x.d,s _ _ x.l,x.ne,x.le⟩
section
variable {P:Qac}{w:Qag}{K:Ja}{mg:Str->Option Fk}{base:Heap}{f:KE}{fd:Qal}
def cP:aD ["_law_state", "_law_many", "_law_turn", "_law_place", "_law_cell", "_law_digit", "_law_prime", "_law_mixed_here"] ["_law_state", "_law_many"] (ai (top lT)):=fO
def JJ (F:eC K "_law_take" "_law_take" (top lT) f fd)(T:Nm mg):aU P w K mg base dX 1 f fd ["_law_state", "_law_many"] Gj:=by
 show F.gw cP fun H vs Q E hr h =>?_;obtain⟨b,c,t,ns,many,rfl,bx,t0,t1,m0,m1,q⟩:=h;have hu:=lP hr;show⟨_,(af (cz (i:=2) cP.nd (au bh (bS hu (pv 0) ar (fun _ _=>rfl)) ah))
  (af (vD hu (pv 0) ar (pv 2) rfl)
  (af (cz (i:=3) cP.nd (au kd (pv 2) (aj (dN K) rfl T.n_len (by rfl) (aa (bS hu (pv 0) ar (fun _ _=>rfl)) ae))))
  (af (cz (i:=4) cP.nd (aR (eW K) (bS hu (pv 0) ar (fun _ _=>rfl)) (pv 3) (fun _ _=>rfl)))
  (af (aN (aw Bv (pv 4) (au NU ah ah) (aA _)) (af (iM (aj K0 rfl T.n_divmod (by rfl) (aa (pv 4) (aa (pv 1) ae))) (tupK K 2 rfl (aI (Nr (bS hu (pv 0) ar (fun _ _=>rfl)) (pv 3) set_list) (aI (eX (i:=5) cP.nd) bM))))
  (ag (ao (pv 5)))) ay)
  (af (cz (i:=6) cP.nd (aR (eW K) (JG (K:=K) (fC lit_int (fC lit_int (fC lit_int (fC lit_int (fC lit_int (fC lit_int (fC lit_int Hq)))))))) (au kd (pv 2) ah) (fun _ _=>rfl)))
  (af (cz (i:=7) cP.nd (au kd (au j3 (au bh (au bh (au kd (pv 4) (pv 6)) (au j3 (au j3 (pv 2) (pv 2)) ah)) ah) ah) ah))
  (af (cz (i:=7) cP.nd (au kd (au j3 (pv 7) (pv 7)) (pv 6)))
  (ag (ao (au kd (au uW (au kd (au j3 (au bh (pv 7) (au j3 (pv 2) ah)) ah) ah) ah) (pv 1)))))))))))),?_⟩
 show{_,rfl,b,_,rfl,bx.G8,.inl {_,_,rfl,rfl,?_}};show{_,rfl,_,rfl,b,_,rfl,bx.GQ (t+1),?_};have zI:=bx.turned (t+1);show{_,rfl,_,rfl,b,_,rfl,zI.oI,_,_,rfl,.inl {_,aW.of zI.l,rfl},_,_,rfl,rfl,?_,?_}
 ·rw[Jc];have:=zI.ne;lia
 have hlen:(ns.map V.int).length=ns.length:=Jc _;have JM:0<=(t+1)%((ns.map V.int).length:Int):=QcG _ (by have:=zI.ne;lia);have EG:(t+1)%((ns.map V.int).length:Int)<ns.length:=by rw[hlen];show Qb8 _ (by have:=zI.ne;lia)
 show ak.el (at_of JM EG) _ ?_;rintro v hv Sw;show{_,rfl,b,_,rfl,zI.oI,_,rfl,.inl {c,_,_,_,rfl,rfl,aW.of zI.l,hv,?_}};show{_,rfl,_,_,rfl,rfl,{∅,∅,∅},_,_,rfl,rfl,_,rfl,?_};show eU (fun _ =>?_) (fun _ =>?_)
 ·show{_,rfl,_,rfl,v,many,rfl,{m0,⋯},fun pt H2 n2 =>?_};obtain⟨hpb,hpc⟩:pt≠b/\pt≠c:=⟨fun z=>(by have:=n2.nn;rw[z,zI.d] at this;cases this),fun z=>(by have:=n2.nn;rw[z,zI.l] at this;cases this)⟩
  have OM:=zI.same n2.same;show{pt,_,rfl,aV.of n2.at,rfl,_,_,rfl,?_};show{_,rfl,b,_,rfl,OM.oI,_,rfl,c,_,_,_,rfl,rfl,OM.l,Mm JM (by simpa only [hlen] using EG),?_};show{_,_,rfl,rfl,_,rfl,?_};show q (v%many) _ (ns.set ((t+1)%((ns.map V.int).length:Int)).toNat (v / many)) (QcG _ ⋯) (Qb8 _ m0) {?_,?_,?_,?_} ?_
  ·rw[av OM.bc];show OM.d
  ·rw[ax,List.map_set]
  ·rw[Wa];show zI.ne
  ·rw[Wa];show zI.le
  ·rw[DG];show qF fun a o h1 h2 e =>?_;rw[n2.ne (fun z =>?_),av h1]
   ·show e
   ·have z2:=n2.nn;rw[av hpb,<-z,e] at z2;cases z2
 ·intro v1 H2 j6 d2;obtain⟨L,hL,kR,d2⟩:∃L:List Int,L.length=7/\(∀x∈L,0<x/\x<2147483648)/\Den K H2 (.list (L.map QdZ)) v1:=by
   show{[_,_,_,_,_,_,_],?_,?_,d2.same Hj}
   ·rfl
   ·decide
  obtain⟨pp,rfl,hS⟩:=Hg d2;have ZK:0<=(t+1)%7:=QcG _ ∅;have ZG:(t+1)%7<7:=Qb8 _ ∅;have OM:=zI.same j6;show{_,rfl,_,_,rfl,rfl,(by dsimp only;decide),?_};show ak.el (at_of ZK (show(t+1)%7<(L.length:Int) by rw[hL];show ZG)) _ ?_;rintro pr Kx hpr';have TX:=kR pr (J0 hpr');show .inl {pp,_,_,_,rfl,rfl,hS,Kx,?_};obtain⟨pr0,pr1⟩:=TX;show{_,rfl,_,rfl,_,_,rfl,rfl,pr0,_,rfl,_,rfl,.inl {_,_,rfl,rfl,.inl {⋯,⋯},.inl {_,_,rfl,rfl,.inr {∅,∅},.inl {_,_,rfl,rfl,.inl {_,_,rfl,rfl,.inl {_,_,rfl,rfl,.inr {∅,∅},_,_,rfl,rfl,(by dsimp only;decide),?_}}}}}};have cm:∀(x y p:Int),0<p->p<2^64->Ae (x%p) y:=fun x y p h0 h1=>M8 h0 h1;show{_,rfl,_,rfl,.inl {_,_,rfl,rfl,cm _ _ _ ∅ ∅,?_}};show{_,rfl,_,_,rfl,rfl,pr0,?_};show{_,rfl,_,rfl,.inl {_,_,rfl,rfl,.inl {⋯,⋯},.inl {_,_,rfl,rfl,.inl {_,_,rfl,rfl,.inr {∅,∅},_,_,rfl,rfl,(by dsimp only;decide),_,_,rfl,rfl,{∅,∅},_,rfl,_,_,rfl,rfl,m0,?_}}}};show q _ _ ns (QcG _ ⋯) (Qb8 _ m0) OM ?_;have:=aq.gN (b:=b) (c:=c) j6;rw[Dz] at this;show this
def lN (x:Str):Bool:=x.cps.all (· < 128)
mutual
def Pz:Qad->Bool
 | .none | .bool _=>true
 | .int i=>decide (i.natAbs<10^40)
 | .str x=>lN x
 | .list ds | .tuple ds=>KO ds
 | .dict _=>false
def KO:List Qad->Bool
 | []=>true
 | d::ds=>Pz d&&KO ds
end
def C8 (ts:List Str):(listText ts).length<=piled ts+2:=by
 unfold listText;rw[Qdv];cases ts with
 | nil=>show Je _
 | cons t ts=>
  change(textFrom 1 _ ts).length+1<=_;rw[(textFrom_length_pos ts 1 ((("[" : String):Str)++((if 0>0 then ", " else "" : String):Str)++t) ∅),Qdv,Qdv,piled_cons];have e1:(((("[" : String):Str))).length=1:=rfl;have e2:((((if 0>0 then ", " else "" : String):Str))).length=0:=rfl;lia
def Cb (ts:List Str):(tupleText ts).length<=piled ts+3:=by
 unfold tupleText;rw[Qdv,Qdv];have e1:((("(" : String):Str)).length=1:=rfl;have e3:(((if ts.length==1 then ",)" else ")" : String):Str)).length<=2:=by split<;>decide
 have e2:(Str.join ", " ts).length<=piled ts:=by
  cases ts with
  | nil=>show Je _
  | cons t ts=>have:=join_length_add (t::ts) (by simp);lia
 lia
def JF {i:Int}(h:i.natAbs<10^40):(Wp (toString i)).length<=41:=by
 cases i with
 | ofNat n=>
  have:=QdK (v:=Int.ofNat n) (by simp) (k:=40) ∅ (by
   change((n:Nat):Int)<10^40
   exact_mod_cast h)
  lia
 | negSucc n=>
  have:=QdK (by change(0:Int)<=((n+1:Nat):Int);lia) (k:=40) ∅ (by
   change((n+1:Nat):Int)<10^40
   exact_mod_cast h)
  have e:toString (Int.negSucc n) = "-" ++ toString (Int.ofNat (n+1)):=rfl;rw[e];have e2:∀a b,(Wp (a++b)).length=(Wp a).length+(Wp b).length:=fun a b=>by
   simp[PyProof.Rows.ofString_length]
  rw[e2];have e3:(Wp "-").length=1:=rfl;lia
mutual
def xt:∀(d:Qad),Pz d=true->d.shown.length<=44*d.weight+42/\d.showable=true/\d.canLay0=true
 | .none,_=>⟨∅,rfl,rfl⟩
 | .bool b,_=>⟨by cases b<;>decide +kernel,rfl,rfl⟩
 | .int i,h=>by
  have h:i.natAbs<10^40:=by simpa [Pz] using h
  show{?_,?_,rfl}
  ·have:=JF h;simp only[Qee];change(Wp (toString i)).length<=_;lia
  ·simp only[QeH,decide_eq_true_eq]
   by_cases z:i.natAbs=0
   ·rw[z];decide
   ·show(QeV z).mpr (Jv h ∅)
 | .str x,h=>by
  have hx:∀c∈x.cps.toList,c<128:=fun c hc=>by
   have h:lN x=true:=by simpa only [Pz] using h
   unfold lN at h;rw[Yg] at h;have:=h c (by simpa using hc);simpa using this
  show{?_,rfl,?_}
  ·have:=StrLaws.reprText_len x fun c hc=>Jv (hx c hc) ∅;simp only[Qee,QaA];have e:x.cps.size=x.length:=rfl;lia
  ·show(Sh.str (n:=0) (fj fun ch hc=>by have:=hx ch hc;lia)).1
 | .list ds,h=>by
  obtain⟨h1,h2,h3⟩:=om ds (by simpa only [Pz] using h);show{?_,by simpa only [QeH] using h2,by simpa only [QbB] using h3};have:=C8 (Qdl ds);simp only[Qee,QaA];lia
 | .tuple ds,h=>by
  obtain⟨h1,h2,h3⟩:=om ds (by simpa only [Pz] using h);show{?_,by simpa only [QeH] using h2,by simpa only [QbB] using h3};have:=Cb (Qdl ds);simp only[Qee,QaA];lia
 | .dict _,h=>by simp[Pz] at h
def om:∀ds,KO ds=true->piled (Qdl ds)<=44*Qap ds/\Qgy ds=true/\Qcb ds=true
 | [],_=>⟨Je _,rfl,rfl⟩
 | d::ds,h=>by
  simp only[KO,Jw] at h;show ak.el (xt d h.1) _ ?_;rintro a1 a2 a3;show ak.el (om ds h.2) _ ?_;rintro b1 b2 b3;show{?_,by simp only[Qgy,a2,b2];rfl,by simp only[Qcb,a3,b3];rfl};simp only[Qdl,Qap,piled_cons];lia
end
def pT:KO ds=true ↔ ∀d∈ds,Pz d=true:=by
 induction ds with
 | nil=>simp[KO]
 | cons d ds ih=>simp[KO,ih]
def vP:∀{ds:List Qad},(∀e∈ds,e.depth<=m)->Qbt ds<=m
 | [],_=>by simp[Qbt]
 | d::ds,h=>by
  have:=vP fun e he=>h e (Jh _ he);have:=h d Jj;simp only[Qbt];lia
structure Gd (w dp:Nat)(d:Qad):Prop where
 pz:Pz d=true
 wt:d.weight<=w
 dp:d.depth<=dp
def Gd.mono {w dp w' Qo:Nat}{d:Qad}(h:Gd w dp d)(hw:w<=w')(hd:dp<=Qo):Gd w' Qo d:=⟨h.pz,Jf h.wt hw,Jf h.dp hd⟩
def Gd.shaped {w dp:Nat}{d:Qad}(h:Gd w dp d)(hd:dp<=64):QaE d=true:=by
 unfold QaE;rw[(xt d h.pz).2.2,decide_eq_true (Jf h.dp hd)];rfl
def E1 (xs ys:List Qad):Qap (xs++ys)=Qap xs+Qap ys:=by
 induction xs with
 | nil=>simp[Qap]
 | cons x xs ih=>rw[Qdj];simp only[Qap,ih];lia
structure Gs (w dp:Nat)(ds:List Qad):Prop where
 pz:∀d∈ds,Pz d=true
 wt:Qap ds<=w
 dp:∀d∈ds,d.depth<=dp
def Gs.list {w dp:Nat}{ds:List Qad}(h:Gs w dp ds):Gd w (dp+1) (.list ds):=⟨by simp only[Pz];show pT.mpr h.pz,by simp only[QaA];show h.wt,by simp only[Qbg];have:=vP h.dp;lia⟩
def Gs.tuple {w dp:Nat}{ds:List Qad}(h:Gs w dp ds):Gd w (dp+1) (.tuple ds):=⟨by simp only[Pz];show pT.mpr h.pz,by simp only[QaA];show h.wt,by simp only[Qbg];have:=vP h.dp;lia⟩
def Gs.mono {w dp w' Qo:Nat}{ds:List Qad}(h:Gs w dp ds)(hw:w<=w')(hd:dp<=Qo):Gs w' Qo ds:=⟨h.pz,Jf h.wt hw,fun d m=>Jf (h.dp d m) hd⟩
def Gs.app {w dp w':Nat}{xs ys:List Qad}(h:Gs w dp xs)(g:Gs w' dp ys):Gs (w+w') dp (xs++ys):=
 ⟨fun d m=>(Ub.mp m).elim (h.pz d) (g.pz d),by rw[E1];have:=h.wt;have:=g.wt;lia,fun d m=>(Ub.mp m).elim (h.dp d) (g.dp d)⟩
def Gs.one {w dp:Nat}{d:Qad}(h:Gd w dp d):Gs (w+1) dp [d]:=
 ⟨fun e m=>by rw[Jt.mp m];show h.pz,by have:=h.wt;simp only[Qap];lia,fun e m=>by rw[Jt.mp m];show h.dp⟩
def Gs.cons {w dp w':Nat}{d:Qad}{ds:List Qad}(h:Gd w dp d)(g:Gs w' dp ds):Gs (w+1+w') dp (d::ds):=(Gs.one h).app g
def Gs.nil {dp:Nat}:Gs 0 dp []:=⟨(fun d m=>nomatch m),Je _,(fun d m=>nomatch m)⟩
def Gs.at {w dp:Nat}{ds:List Qad}{d:Qad}(h:Gs w dp ds)(m:d∈ds):Gd w dp d:=⟨h.pz d m,gR h.wt m,h.dp d m⟩
def Gd.yB {w dp:Nat}{ds:List Qad}(h:Gd w (dp+1) (.tuple ds)):Gs w dp ds:=⟨pT.mp (by simpa only [Pz] using h.pz),by simpa only [QaA] using h.wt,fun d m=>m8 (by have:=h.dp;simp only[Qbg] at this;lia) m⟩
def Gd.int {w dp:Nat}{i:Int}(h:i.natAbs<10^40)(hw:201<=w):Gd w dp (.int i):=⟨by simpa [Pz] using h,Jf (AA (Jv h ∅)) hw,by simp[Qbg]⟩
def Gd.str {w dp:Nat}{x:Str}(h:lN x=true)(hw:x.length<=w):Gd w dp (.str x):=⟨by simpa only [Pz] using h,by simp only[QaA];show hw,by simp[Qbg]⟩
end
def Cg:Den K H (.str x) (.str x):=by unfold Den;rfl
def rM:Den K H (.int x) (.int x):=by unfold Den;rfl
def iC:a8 K H [] []:=by unfold a8;rfl
def bN (h:Den K H d v)(g:a8 K H ds vs):a8 K H (d::ds) (v::vs):=by unfold a8;show⟨_,_,rfl,h,g⟩
def GJ {G:Hp}{p:KE}{ds:List Qad}{vs:List V}(h:G p=some (.tup vs))(g:a8 K G ds vs):Den K G (.tuple ds) (.ref p):=by unfold Den;show⟨p,vs,rfl,aV.of h,g⟩
def KQ:lN x=true ↔ ∀c∈x.cps.toList,c<128:=by
 unfold lN;rw[Yg];constructor
 ·intro h c hc;have:=h c (by simpa using hc);simpa using this
 ·intro h c hc;have:=h c (by simpa using hc);simpa using this
def Me:Qad->Nat
 | .list ds | .tuple ds=>ds.length
 | _=>0
def iX:Qad->Qad
 | .tuple ds =>.list ds
 | d=>d
def dh:Qad->List (Str×Str)
 | .list ds=>ds.map fun d=>match d with
  | .tuple [.str x,.str y]=>(x,y)
  | _=>(Qau,Qau)
 | _=>[]
def pR (h:d6 d=true):d=aO (dh d)/\∀q∈dh d,eJ (.str q.1)=true/\cV (.str q.2)=true:=by
 cases d with
 | list ds=>
  replace h:(!ds.isEmpty&&(ds.all bH&&decide ((b8 (fun i=>(ds.map hX).getD i Qau) ds.length).length=ds.length)))=true:=h;rw[Jw,Jw,U2] at h;have he:=h.2.1;clear h
  induction ds with
  | nil=>show⟨rfl,fun q hq=>nomatch hq⟩
  | cons e ds ih=>
   obtain⟨e1,e2⟩:=ih fun x hx=>he x (Jh _ hx);have z:=he e Jj;obtain⟨x,y,rfl⟩:=wH z;have z:(eJ (.str x)&&cV (.str y))=true:=z;rw[Jw] at z;show{?_,fun q hq =>?_}
   ·change PyData.list (.tuple [.str x,.str y]::ds) = .list (.tuple [.str x,.str y]::(dh (.list ds)).map fun q =>.tuple [.str q.1,.str q.2]);rw[<-(Qd9 e1)]
   ·rcases Jq.mp (show q∈(x,y)::dh (.list ds) from hq) with rfl|hq
    ·show z
    ·show e2 q hq
 | _=>simp[d6] at h
def fQ {x y:Str}(h:x.cps.toList=y.cps.toList):x=y:=by
 cases x;cases y
 congr 1
 show Array.toList_inj.mp h
def uI:∀p l,QeU p l=true->(p::l).Pairwise fun a b=>a.cps.toList<=b.cps.toList
 | p,[],_=>by simp
 | p,x::r,h=>by
  have h:(!Spec.ltCps x.cps.toList p.cps.toList&&QeU x r)=true:=h;rw[Jw,PyProof.Rows.ltCps_eq,Bool.not_eq_true',decide_eq_false_iff_not] at h;have ih:=uI x r h.2;have px:=h.1;show List.pairwise_cons.mpr {fun y hy =>?_,ih}
  rcases Jq.mp hy with rfl|hy
  ·show px
  ·show List.le_trans px ((List.pairwise_cons.mp ih).1 y hy)
def tU (h:Qa5 a=true):a.Pairwise fun a b=>a.cps.toList<=b.cps.toList:=by
 cases a with
 | nil=>show .nil
 | cons p l=>show uI p l h
def Dm (h:a.Perm b)(ha:Qa5 a=true)(hb:Qa5 b=true):a=b:=
 h.eq_of_pairwise (fun x y _ _ h1 h2=>fQ (List.le_antisymm h1 h2)) (tU ha) (tU hb)
def yE (bk:List (Str×Str)):Bool := @decide (gB (bk.map (·.2))) (Qby _)
def dv (names:List Str)(d:Qad):Bool:=d6 (iX d)&&(decide (((dh (iX d)).map (·.1)).Perm names)&&yE (dh (iX d)))
structure Lc (d:Qad):Prop where
 pz:Pz d=true
 wt:d.weight<=300000
 sh:QaE d=true
 xv:∀ds,iX d = .list ds->ds.length<=60
 cd:∀q∈dh (iX d),q.2.length<=200000
def y8 (d:Qad):(iX d).weight=d.weight:=by cases d<;>simp only[iX,QaA]
def Np (h:Pz d=true):Pz (iX d)=true:=by cases d<;>simpa only [iX,Pz] using h
def L6 (h:QaE d=true):QaE (iX d)=true:=by cases d<;>show h
def Om (h:Den K H (aO bk) v):fX fun a us=>v = .ref a/\aW K H a us/\us.length=bk.length/\∀(i:Nat) q,bk[i]? = some q->∃b,us[i]? = some (.ref b)/\aV K H b [.str q.1,.str q.2]:=by
 obtain⟨a,us,rfl,hS,hds⟩:=h;show{a,us,rfl,hS,by have:=hds.len;rw[Jc] at this;show this,fun i q e =>?_};obtain⟨u,hu,du⟩:=hds.get (by rw[Jk,e];rfl);obtain⟨b,vs,rfl,hT,hd⟩:=du;obtain⟨x,r,rfl,hx,hd⟩:=hd;obtain⟨y,r,rfl,hy,hd⟩:=hd;subst hd hx hy;show⟨b,hu,hT⟩
def yd:∀(a b:List Str),QbX (a.map QbO) (b.map QbO)=decide (a=b)
 | [],[]=>by simp[QbX]
 | [],_::_=>by simp[QbX]
 | _::_,[]=>by simp[QbX]
 | x::a,y::b=>by
  rw[J2,J2];simp only[QbX,yd a b,List.cons.injEq,Bool.decide_and]
  rfl
def AD (h:lN x=true):∀c∈x.cps.toList,c<128:=fun c hc=>by
 unfold lN at h;rw[Yg] at h;have:=h c (by simpa using hc);simpa using this
def Gx {ks:List Str}(h:∀x∈ks,lN x=true):QaE (.list (ks.map QbO))=true:=(Sh.list (n:=0) fun d hd=>by
 obtain⟨x,hx,rfl⟩:=Ul.mp hd;show Sh.str (fj fun ch hc=>by have:=AD (h x hx) ch hc;lia)).shaped ∅
def Li (K:Ja):Sp:=fun vs H Q _=>nP fun v d p ns=>vs=[v,.ref p]/\Den K H d v/\Lc d/\(aW K H p (ns.map V.str)\/aV K H p (ns.map V.str))/\ns.length<64/\(∀x∈ns,lN x=true)/\∀H',aq H H'->Q (.bl (dv ns d)) H'
section
variable {P:Qac}{w:Qag}{K:Ja}{mg:Str->Option Fk}{base:Heap}{f:KE}{fd:Qal}
def ij:aD ["thing", "names", "book"] ["thing", "names"] (ai (top fh)):=fO
def M7 (F:eC K "is_free_book_of" "is_free_book_of" (top fh) f fd)(T:Nm mg)(gX:mg "sorted" = none)(Co:Fn P w K mg base 4 "is_book" ["thing"] (yr K))(Oo:Fn P w K mg base 3 "free" ["book"] (Fu K)):aU P w K mg base dX 5 f fd ["thing", "names"] (Li K):=by
 show F.gw ij fun H vs Q E hr h =>?_;obtain⟨v,d,p,ns,rfl,hd,fit,DN,nl,na,q⟩:=h;have fB:=hr.units;show⟨_,(af (cz (i:=2) ij.nd (cY (bX (aj (j2 K) rfl T.n_isinstance (by rfl) (aa (pv 0) (aa (bK rfl T.n_tuple (by rfl) (v := .ty "tuple") rfl) ae)))) (aQ (B0 K) rfl T.n_list (by rfl) (aa (pv 0) ae)) (pv 0)))
  (af (aN (PW.pt (jW (dM (bX (bP Co hr (aa (pv 2) ae)))) (iQ (aw (Cq K fB) (aj (wo K) rfl gX (by rfl) (aa (dQ rfl (b9 (Nc:=["name", "code"]) (js:=[])) (FQ K (pv 2)) (lV (cq (bC ∅) (cq (bC ∅) jM bL dq) bL (ic bL dq))) (fun _ _ _ _ _=>(tupK K 2 rfl (aI (eX (i:=0) (pK ["name", "code"])) (aI (eX (i:=1) (pK ["name", "code"])) bM)))) (fun _ _ _ _ _=>cE) (fun _ _ _ _ _=>(pv 0))) ae)) (aj (wo K) rfl gX (by rfl) (aa (pv 1) ae)) (aA _))))) (ag (ao jX)) ay)
  (ag (ao (bP Oo hr (aa (pv 2) ae)))))),?_⟩
 show ie (fun v2 H'=>aq H H'/\Den K H' (iX d) v2) (fun Qn qn =>?_) ?_
 ·show⟨_,rfl,.inl ⟨_, "tuple",d,_,rfl,hd,(xk K d).2.2.2.2,_,rfl,?_⟩⟩;cases d with
  | tuple ds=>
   have e:=hd;obtain⟨a,us,rfl,hT,hds⟩:=e;show br {_,rfl,a,us,rfl,.inr hT,fun l H1 n1=>qn _ _ {n1.same,?_}};show{l,us,rfl,aW.of n1.at,hds.same n1.same}
  | _=>show bf ⟨_,rfl,qn _ _ ⟨aq.refl _,hd⟩⟩
 rintro v2 H1 ⟨s1,d1⟩;show gn ?_;show{_,rfl,v2,iX d,rfl,d1,by rw[y8];show fit.wt,L6 fit.sh,fun ds e=>Jf (fit.xv ds e) ∅,fun H2 s2 =>?_};have HX:=s1.trans s2;show{_,rfl,?_};cases hb:d6 (iX d) with
 | false=>
  have z:=q H2 HX;rw[show dv ns d=false by unfold dv;rw[hb,Y1]] at z;show br (br z)
 | true=>
  obtain⟨eb,ok⟩:=pR hb;have fl:=fit.xv (match iX d with | .list ds=>ds|_=>[]) (by rw[eb];rfl);have d2:=d1.same s2;rw[eb] at d2;have bl:(dh (iX d)).length<=60:=by
   rw[eb] at fl;have:((dh (iX d)).map fun q=>Qca [.str q.1,.str q.2]).length<=60:=fl;rw[Jc] at this;show this
  have wt:(aO (dh (iX d))).weight<=300000:=by rw[<-eb,y8];show fit.wt
  have WG:Pz (aO (dh (iX d)))=true:=by rw[<-eb];show Np fit.pz
  have fb:dv ns d=(decide (((dh (iX d)).map (·.1)).Perm ns)&&yE (dh (iX d))):=by unfold dv;rw[hb,Yb]
  have cd:=fit.cd;generalize dh (iX d)=bk at d2 bl wt fb ok WG cd;rw[fb] at q;show bf ?_;obtain⟨a,us,rfl,hS,hul,hds⟩:=Om d2;have pz:Pz (aO bk)=true:=WG;have az:∀x∈bk.map (·.1),lN x=true:=fun x hx=>by
   obtain⟨q0,hq0,rfl⟩:=Ul.mp hx;have h1:KO (bk.map fun q=>Qca [.str q.1,.str q.2])=true:=by simpa only [aO,Pz] using pz
   have h2:=pT.mp h1 _ (Ul.mpr ⟨q0,hq0,rfl⟩);simp only[Pz,KO,Jw] at h2;show h2.1
  have small:∀{n:Nat},n<=10000->n<W1:=fun h=>Jy h ∅;show{_,rfl,a,rfl,{_,hS},?_};show eh (N:=bk.length) (fun i ys H'=>aq H2 H'/\ys=((bk.take i).map (·.1)).map V.str) {aq.refl _,rfl} ?_ ?_
  ·rintro i ys H3 Ny hi ⟨s3,rfl⟩ ny;obtain⟨b,sL,hT⟩:=hds i bk[i] (Jd hi);show{{_,_,s3.seq hS,sL},small (by rw[Jc,Jc,J3];lia),?_};rintro x' H4 ⟨rfl,hy⟩;have e:=hy _ (s3.seq hS);rw[sL] at e;cases e;show{b,_,rfl,s3.bF hT,rfl,_,_,rfl,gn {_,_,rfl,gn {rfl,_,rfl,ny _ _ {s3,?_}}}};rw[Yv hi,Jx,Jx]
   rfl
  ·rintro ys H3 ⟨s3,rfl⟩;show{{_,s3.seq hS,by rw[hul];show Je _},fun pv hp =>?_};rw[U5];have R1:aq H2 (upd H3 pv (.lst ((bk.map (·.1)).map V.str))):=s3.trans (bb hp _);show{pv,bk.map (·.1),rfl,.inl (aW.of ax),by rw[Jc];lia,fun ms q1 H4 pm so n4 =>?_};have s4:=R1.trans n4.same;show{_,rfl,p,ns,rfl,DN.imp (HX.trans s4).seq (HX.trans s4).bF,nl,fun ms2 q2 H5 Ia so2 n5 =>.inr {.list (ms.map .str),.list (ms2.map .str),Den.list (aW.of (n5.same _ _ n4.at)) (Den.strs _),Den.list (aW.of n5.at) (Den.strs _),Gx fun x hx=>az x (pm.mem_iff.mp hx),Gx fun x hx=>na x (Ia.mem_iff.mp hx),?_}};have s5:=s4.trans n5.same;have ev:Qb1 (.list (ms.map .str)) (.list (ms2.map .str))=decide (ms=ms2):=by simp only[Qb1];show yd ms ms2
   rw[ev]
   by_cases e:ms=ms2
   ·have pp:(bk.map (·.1)).Perm ns:=pm.symm.trans (by rw[e];show Ia);rw[show decide ((bk.map (·.1)).Perm ns)=true from decide_eq_true pp,Yb] at q;rw[decide_eq_true e];show{_,rfl,bf {_,rfl,.ref a,bk,rfl,d2.same s5,⋯,cd,fun fr H6 s6 =>?_,fun fr H6 s6 =>?_}}
    ·have z:=q H6 (HX.trans (s5.trans s6));rw[show yE bk=true from @decide_eq_true _ (Qby _) fr] at z;show z
    ·have z:=q H6 (HX.trans (s5.trans s6));rw[show yE bk=false from @decide_eq_false _ (Qby _) fr] at z;show z
   ·have np:¬(bk.map (·.1)).Perm ns:=fun pp=>e (Dm (pm.trans (pp.trans Ia.symm)) so so2);have z:=q H5 (HX.trans s5);rw[show decide ((bk.map (·.1)).Perm ns)=false from decide_eq_false np,Y1] at z;rw[decide_eq_false e];show{_,rfl,br z}
abbrev aB:List Str:=["set", "add", "take", "tell", "ask", "jump", "zero", "stop", "farjump", "farzero", "skip"]
abbrev bJ:List Str:=["a", "b", "c", "d"]
abbrev aH:List Str:=["none", "one", "two", "three", "four", "five", "six", "seven", "eight"]
def sJ:Qad->Bool
 | .int _=>true
 | _=>false
def iE (bk:List (Str×Str)):List (Key×V):=bk.map fun q=>((Qbb q.1:Key),V.str q.2)
def a9:List (Str×Str)->Str->Str
 | [],_=>Qau
 | q::r,x=>if q.1=x then q.2 else a9 r x
def mq (bk:List (Str×Str))(near eY:Int):Bool:=["jump", "zero"].any fun j:String=>decide (((a9 bk (Wp ("far" ++ j))).length:Int)+eY<((a9 bk (Wp j)).length:Int)+near)
def xu:Qad->Bool
 | .int i=>decide (2<=i)&&decide (i<=8)
 | _=>false
end
def B6 (d1:Qad):Qad->Qad->Bool
 | .int n,.int f=>decide (n<f)&&(decide (f<=16) && !mq (dh (iX d1)) n f)
 | _,_=>false
def Hu (d1 d4 d5:Qad):Option Str:=if xu d4=false then some "near" else if B6 d1 d4 d5=false then some "far" else none
def nj (d1 d2 d3 d4 d5:Qad):Option Str:=
 if dv aB d1=false then some "kinds" else if dv bJ d2=false then some "spots" else if dv aH d3=false then some "sizes" else Hu d1 d4 d5
def Fe:Option Str->V
 | none =>.non
 | some x =>.str x
def jC:∀{bk:List (Str×Str)} {x:Str},x∈bk.map (·.1)->gH (iE bk) (.inr x)=some (.str (a9 bk x))
 | q::r,x,h=>by
  change gH ((Qbb q.1,V.str q.2)::iE r) _=some (.str (if q.1=x then q.2 else a9 r x))
  by_cases e:q.1=x
  ·rw[fe (by rw[e]),if_pos e]
  ·rw[eG (fun z=>e (QcM z)),if_neg e];show jC ?_
   rcases Jq.mp h with z|z
   ·show absurd z.symm e
   ·show z
def Ag:∀{bk:List (Str×Str)} x,(∀q∈bk,q.2.length<=200000)->(a9 bk x).length<=200000
 | [],_,_=>Ue _
 | q::r,x,h=>by
  unfold a9
  split
  ·show h q Jj
  ·show Ag x fun z hz=>h z (Jh _ hz)
def tW:∀kvs acc,(kvs.map (·.1)).Nodup->(∀kv∈kvs,gH acc kv.1=none)->cN acc kvs=acc++kvs
 | [],acc,_,_=>by change acc=acc++[];rw[Us]
 | kv::kvs,acc,nd,h=>by
  rw[J2] at nd;obtain⟨n1,n2⟩:=U8.mp nd;change cN (putK acc kv.1 kv.2) kvs=_;rw[yF _ (h kv Jj),tW kvs _ n2 fun kw hw =>?_]
  ·rw[Ux];rfl
  ·rw[uS _ _ _ _ (h kv Jj),if_neg (fun z=>n1 (by rw[<-z];show Um hw))];show h kw (Jh _ hw)
def jd (h:(bk.map (·.1)).Nodup):cN [] (iE bk)=iE bk:=by
 have nd:((iE bk).map (·.1)).Nodup:=by
  unfold iE;rw[Yh];show List.pairwise_map.mpr ((List.pairwise_map.mp h).imp fun{a b} z e=>z (QcM e))
 rw[tW _ _ nd fun kv _=>rfl]
 rfl
def vF {us:List V}(h:a8 K H (bk.map fun q =>.tuple [.str q.1,.str q.2]) us):∃as:List KE,us=as.map V.ref/\as.length=bk.length/\∀(j:Nat) b kv,as[j]? = some b->(iE bk)[j]? = some kv->aV K H b [kV kv.1,kv.2]:=by
 induction bk generalizing us with
 | nil=>
  subst h;show{[],rfl,rfl,fun j b kv e=>nomatch e}
 | cons q bk ih=>
  obtain⟨v,r,rfl,hd,h⟩:=h;obtain⟨as,rfl,hl,hk⟩:=ih h;obtain⟨b,vs,rfl,hT,hd⟩:=hd;obtain⟨x,r,rfl,hx,hd⟩:=hd;obtain⟨y,r,rfl,hy,hd⟩:=hd;subst hd hx hy;show{b::as,rfl,by rw[Jo,Jo,hl],fun j c kv e1 e2 =>?_};cases j with
  | zero=>cases e1;cases e2;show hT
  | succ j=>show hk j c kv e1 e2
def IV {v:V}(h:Den K H d v)(e:iX d=aO bk):∃(p:KE) (as:List KE),v = .ref p/\(aW K H p (as.map V.ref)\/aV K H p (as.map V.ref))/\as.length=bk.length/\∀(j:Nat) b kv,as[j]? = some b->(iE bk)[j]? = some kv->aV K H b [kV kv.1,kv.2]:=by
 cases d with
 | list ds=>
  have e:=Qd9 e;obtain⟨p,us,rfl,hS,hd⟩:=h;rw[e] at hd;obtain⟨as,rfl,hl,hk⟩:=vF hd;show{p,as,rfl,.inl hS,hl,hk}
 | tuple ds=>
  have e:=Qd9 e;obtain⟨p,us,rfl,hS,hd⟩:=h;rw[e] at hd;obtain⟨as,rfl,hl,hk⟩:=vF hd;show{p,as,rfl,.inr hS,hl,hk}
 | _=>show absurd e (by unfold aO iX;show nofun)
def FT (K:Ja):Sp:=fun vs H Q _=>∃v d,vs=[v]/\Den K H d v/\∀H',aq H H'->Q (.bl (sJ d)) H'
def LP (K:Ja):Sp:=fun vs H Q _=>uN fun v d bk (n f:Int)=>vs=[v,.int n,.int f]/\Den K H d v/\iX d=aO bk/\bk.length<=60/\(∀q∈bk,q.2.length<=200000)/\(bk.map (·.1)).Nodup/\(∀x∈aB,x∈bk.map (·.1))/\∀H',aq H H'->Q (.bl (mq bk n f)) H'
section
variable {P:Qac}{w:Qag}{K:Ja}{mg:Str->Option Fk}{base:Heap}{f aJ aP aS aZ:KE}{fd:Qal}{t1 t2 t3:Tok}
def uY:aD ["thing"] ["thing"] (ai (top kF)):=fO
def Gp (F:eC K "is_number" "is_number" (top kF) f fd)(T:Nm mg):aU P w K mg base dX 1 f fd ["thing"] (FT K):=by
 show F.gw uY fun H vs Q E hr h =>?_;obtain⟨v,d,rfl,hd,q⟩:=h;have hq:=q H (aq.refl _);show⟨_,(ag (ao (fL (aj (j2 K) rfl T.n_isinstance (by rfl) (aa (pv 0) (aa (bK rfl T.n_int (by rfl) (v := .ty "int") rfl) ae))) (ky (Fq (aj (j2 K) rfl T.n_isinstance (by rfl) (aa (pv 0) (aa (bK rfl T.n_bool (by rfl) (v := .ty "bool") rfl) ae)))))))),⟨_,rfl,.inl ⟨_, "int",d,_,rfl,hd,(xk K d).2.1,_,rfl,?_⟩⟩⟩;cases d with
 | int i=>show br ⟨_,rfl,.inl ⟨_, "bool",.int i,_,rfl,hd,(xk K (.int i)).1,_,rfl,hq⟩⟩
 | bool i=>show br ⟨_,rfl,.inl ⟨_, "bool",.bool i,_,rfl,hd,(xk K (.bool i)).1,_,rfl,hq⟩⟩
 | _=>show bf hq
def iD:aD ["kinds", "near", "far", "codes"] ["kinds", "near", "far"] (ai (top fJ)):=fO
def Nw (F:eC K "far_is_shorter" "far_is_shorter" (top fJ) f fd)(T:Nm mg)(cI:mg "dict" = none)(Kf:mg "JUMPS" = some (.ref aJ))(hJ:∀H,aV K H aJ [V.str "jump",V.str "zero"]):aU P w K mg base dX 1 f fd ["kinds", "near", "far"] (LP K):=by
 show F.gw iD fun H vs Q E hr h =>?_;obtain⟨v,d,bk,n,f,rfl,hd,ea,bl,cl,nd,hk,q⟩:=h;have hu:=lP hr;obtain⟨p,as,rfl,sq,al,hT⟩:=IV hd ea;have bn:(iE bk).length=bk.length:=by unfold iE;rw[Jc]
 show⟨_,(af (oG (i:=3) iD.nd rfl (Qep rfl) (aQ (L8 K rfl) rfl cI (by rfl) (aa (pv 0) ae)))
  (ag (ao (aj (Tb K rfl) rfl T.n_any (by rfl) (aa (dQ rfl (b9 (Nc:=["jump"]) (js:=[2,1,3])) (jx K (cR rfl Kf)) (bC ∅) (fun _ _ _ _ _=>(eX (i:=0) (pK ["jump", "far", "near", "codes"]))) (fun _ _ _ _ _=>cE) (fun _ _ _ _ _=>(cF qu (au bh (aj (dN K) rfl T.n_len (by rfl) (aa (bS hu (pv 3) (au bh ar (pv 0)) (fun _ _=>rfl)) ae)) (pv 1)) (au bh (aj (dN K) rfl T.n_len (by rfl) (aa (bS hu (pv 3) (pv 0) (fun _ _=>rfl)) ae)) (pv 2)) (aA _)))) ae))))),?_⟩
 show{_,rfl,p,as,iE bk,rfl,sq,by rw[bn];show al,by rw[bn];lia,hT,fun dd H1 n1=>gn ?_};rw[jd nd] at n1;have small:∀{n:Nat},n<=1000000->n<W1:=fun h=>Jy h ∅
 let tst:Str->Bool:=fun j=>decide (((a9 bk (Wp "far" ++ j)).length:Int)+f<((a9 bk j).length:Int)+n)
 have js:∀j∈(["jump", "zero"]:List Str),j∈aB/\(Wp "far" ++ j)∈aB/\j.length<=10:=∅;show⟨aJ,rfl,⟨_,hJ _⟩,(eh (N:=2) (fun i ys H'=>aq H1 H'/\ys=(((["jump", "zero"]:List Str).take i).map tst).map V.bl) ⟨aq.refl _,rfl⟩ ?_ ?_)⟩
 ·rintro i ys H2 Ny hi ⟨s2,rfl⟩ ny;have WS:([V.str "jump",V.str "zero"]:List V)[i]? = some (.str ((["jump", "zero"]:List Str)[i])):=by
   match i,hi with
   | 0,_=>rfl
   | 1,_=>rfl
  show{{_,_,hJ _,WS},small (by rw[Jc,Jc,J3];lia),?_};rintro x' H3 ⟨rfl,hy⟩;have e:=hy _ (hJ _);rw[WS] at e;cases e;obtain⟨j,hj⟩:∃j,j=(["jump", "zero"]:List Str)[i]:=⟨_,rfl⟩
  have jm:=js j (by rw[hj];show Uc _);rw[<-hj];show gn ?_;have h2:=s2 _ _ n1.at;have gd:∀{Hx:Hp},Hx dd=some (.dK (iE bk))->∀x,x∈aB->fz Hx dd (.str x) (some (.str (a9 bk x))):=fun h x hx=>by
   rw[<-jC (hk x hx)];show fz.k (k := .inr x) h
  have lf:(Wp "far").length=3:=rfl;have sz:∀{x:Str},x.length<=200000->x.length<=W1:=fun h=>Jf h ∅;show⟨_,rfl,_,rfl,.inr (.inl ⟨_,_,rfl,rfl,Yd (small (by rw[lf];lia)),dd,_,rfl,gd h2 _ jm.2.1,⟨_,_,rfl,⟨sz (Ag (Wp "far" ++ j) cl),rfl⟩,_,rfl,.inl ⟨_,_,rfl,rfl,⟨_,rfl,_,rfl,dd,_,rfl,gd h2 _ jm.1,_,_,rfl,⟨sz (Ag j cl),rfl⟩,_,rfl,.inl ⟨_,_,rfl,rfl,_,_,rfl,rfl,ny _ _ ⟨s2,?_⟩⟩⟩⟩⟩⟩)⟩;rw[Yv (show i<(["jump", "zero"]:List Str).length from hi),Jx,Jx,hj]
  rfl
 ·rintro ys H2 ⟨s2,rfl⟩;show{{_,hJ _,Je _},fun pv hp=>{pv,_,rfl,aW.of ax,(q _ (n1.same.trans (s2.trans (bb hp _))))}}
def OT:Qad->Qad
 | .list ds =>.tuple ds
 | d=>d
structure xC (K:Ja)(H:Hp)(v1 v2 v3 v4 v5:V)(d1 d2 d3 d4 d5:Qad):Prop where
 e1:Den K H d1 v1
 e2:Den K H d2 v2
 e3:Den K H d3 v3
 e4:Den K H d4 v4
 e5:Den K H d5 v5
 f1:Lc d1
 f2:Lc d2
 f3:Lc d3
end
def xC.same {v1 v2 v3 v4 v5:V}{d1 d2 d3 d4 d5:Qad}(h:xC K H v1 v2 v3 v4 v5 d1 d2 d3 d4 d5)(s:aq H H'):xC K H' v1 v2 v3 v4 v5 d1 d2 d3 d4 d5:=⟨h.e1.same s,h.e2.same s,h.e3.same s,h.e4.same s,h.e5.same s,h.f1,h.f2,h.f3⟩
structure Qg (K:Ja)(P:Qac)(w:Qag)(mg:Str->Option Fk)(aP aS aZ:KE)(t1 t2 t3:Tok):Prop where
 gP:mg "PARTS" = some (.ref aP)
 gS:mg "SPOT_NAMES" = some (.ref aS)
 gZ:mg "SIZE_NAMES" = some (.ref aZ)
 P:pW fun es n kvs=>Bh K P w aP es n kvs/\kvs.map (·.1)=aB
 S:∀H,aV K H aS (bJ.map V.str)
 Z:∀H,aV K H aZ (aH.map V.str)
 vl:mg "LEAST_NEAR" = some (.int 2 t1)
 vm:mg "MOST_NEAR" = some (.int 8 t2)
 vf:mg "MOST_FAR" = some (.int 16 t3)
def PV (K:Ja):Sp:=fun vs H Q _=>∃v1 v2 v3 v4 v5 d1 d2 d3 d4 d5,vs=[v1,v2,v3,v4,v5]/\xC K H v1 v2 v3 v4 v5 d1 d2 d3 d4 d5/\∀H',aq H H'->Q (Fe (nj d1 d2 d3 d4 d5)) H'
def HA (h:sJ d=false):xu d=false:=by cases d<;>first|rfl|cases h
def AK (h:sJ d=true):∃i,d = .int i:=by cases d<;>first|show⟨_,rfl⟩|cases h
def nZ:(∀x∈aB,lN x=true)/\(∀x∈bJ,lN x=true)/\∀x∈aH,lN x=true:=∅
def da:aB.Nodup:=∅
section
variable {P:Qac}{w:Qag}{K:Ja}{mg:Str->Option Fk}{base:Heap}{f aP aS aZ:KE}{fd:Qal}{t1 t2 t3:Tok}
def si:aD ["kinds", "spots", "sizes", "near", "far"] ["kinds", "spots", "sizes", "near", "far"] (ai (top iW)):=fO
def QH (F:eC K "first_wrong" "first_wrong" (top iW) f fd)(T:Nm mg)(M:Qg K P w mg aP aS aZ t1 t2 t3)(fu:Fn P w K mg base 5 "is_free_book_of" ["thing", "names"] (Li K))(pB:Fn P w K mg base 1 "is_number" ["thing"] (FT K))(ow:Fn P w K mg base 1 "far_is_shorter" ["kinds", "near", "far"] (LP K)):aU P w K mg base dX 6 f fd ["kinds", "spots", "sizes", "near", "far"] (PV K):=by
 show F.gw si fun H vs Q E hr h =>?_;obtain⟨v1,v2,v3,v4,v5,d1,d2,d3,d4,d5,rfl,D,q⟩:=h;have Iq:=M.gP;have wa:=M.gS;have jF:=M.gZ;have mI:=M.vl;have pG:=M.vm;have sI:=M.vf;obtain⟨es,n,kvs,KD,ek⟩:=M.P;show⟨_,(af (aN (dM (bX (bP fu hr (aa (pv 0) (aa (aQ (Oe rfl) rfl T.n_list (by rfl) (aa (cR rfl Iq) ae)) ae))))) (ag (ao ar)) ay)
  (af (aN (dM (bX (bP fu hr (aa (pv 1) (aa (cR rfl wa) ae))))) (ag (ao ar)) ay)
  (af (aN (dM (bX (bP fu hr (aa (pv 2) (aa (cR rfl jF) ae))))) (ag (ao ar)) ay)
  (af (aN (PW.pt (jW (dM (bX (bP pB hr (aa (pv 3) ae)))) (iQ (dM (xY rL rL (mZ rfl mI) (pv 3) (mZ rfl pG)))))) (ag (ao ar)) ay)
  (af (aN (PW.pt (jW (dM (bX (bP pB hr (aa (pv 4) ae)))) (jW (dM (xY qu rL (pv 3) (pv 4) (mZ rfl sI))) (iQ (bX (bP ow hr (aa (pv 0) (aa (pv 3) (aa (pv 4) ae))))))))) (ag (ao ar)) ay)
  (ag (ao aX))))))),?_⟩
 show{_,rfl,aP,es,n,kvs,rfl,KD,by have:=congrArg Qc4 ek;rw[Jc] at this;rw[this];decide,fun p H1 n1 =>?_};rw[ek] at n1;show{v1,d1,p,aB,rfl,D.e1.same n1.same,D.f1,.inl (aW.of n1.at),∅,nZ.1,fun H2 s2=>{_,rfl,?_}};have HX:=n1.same.trans s2;have D2:=D.same HX;have wy:∀{y:Option Str},nj d1 d2 d3 d4 d5=y->∀H',aq H H'->Q (Fe y) H':=fun e H' sm=>by rw[<-e];show q H' sm
 cases h1:dv aB d1 with
 | false=>show br (wy (if_pos h1) _ HX)
 | true=>
 have TY:¬dv aB d1=false:=by rw[h1];decide
 show bf ?_;show{_,rfl,v2,d2,aS,bJ,rfl,D2.e2,D2.f2,.inr (M.S _),∅,nZ.2.1,fun H3 s3=>{_,rfl,?_}};have UQ:=HX.trans s3;have D3:=D.same UQ;cases h2:dv bJ d2 with
 | false=>show br (wy ((if_neg TY).trans (if_pos h2)) _ UQ)
 | true=>
 have W4:¬dv bJ d2=false:=by rw[h2];decide
 show bf ?_;show{_,rfl,v3,d3,aZ,aH,rfl,D3.e3,D3.f3,.inr (M.Z _),∅,nZ.2.2,fun H4 s4=>{_,rfl,?_}};have Cc:=UQ.trans s4;have D4:=D.same Cc;cases h3:dv aH d3 with
 | false=>show br (wy ((if_neg TY).trans ((if_neg W4).trans (if_pos h3))) _ Cc)
 | true=>
 have YF:¬dv aH d3=false:=by rw[h3];decide
 have wy:∀{y:Option Str},Hu d1 d4 d5=y->∀H',aq H H'->Q (Fe y) H':=fun e H' sm=>wy ((if_neg TY).trans ((if_neg W4).trans ((if_neg YF).trans e))) H' sm;show bf ?_;show{_,rfl,v4,d4,rfl,D4.e4,fun H5 s5=>{_,rfl,?_}};have Ir:=Cc.trans s5;have D5:=D.same Ir;cases hd4:sJ d4 with
 | false=>show br (br (wy (if_pos (HA hd4)) _ Ir))
 | true=>
 obtain⟨i,rfl⟩:=AK hd4;have e4:v4 = .int i:=by have:=D.e4;unfold Den at this;show this
 subst e4;show bf ?_;have nF:¬(2<=i/\i<=8)->Hu d1 (.int i) d5=some "near":=fun h=>if_pos (by
  change(decide (2<=i)&&decide (i<=8))=false;rw[Bool.and_eq_false_iff]
  by_cases z:2<=i
  ·show .inr (decide_eq_false fun y=>h ⟨z,y⟩)
  ·show .inl (decide_eq_false z))
 show{_,rfl,_,_,rfl,rfl,_,rfl,eU (fun c1 =>?_) (fun c1=>{_,rfl,br (wy (nF fun z=>c1 (decide_eq_true z.1)) _ Ir)})};have c1:=of_decide_eq_true c1;show{_,_,rfl,rfl,_,rfl,?_}
 by_cases c2:i<=8
 case neg=>
  rw[decide_eq_false c2];show br (wy (nF fun z=>c2 z.2) _ Ir)
 rw[decide_eq_true c2];show bf ?_;have wy:∀{y:Option Str},(if B6 d1 (.int i) d5=false then some (Wp "far") else none)=y->∀H',aq H H'->Q (Fe y) H':=fun e H' sm=>wy ((if_neg (by
  change ¬(decide (2<=i)&&decide (i<=8))=false;rw[decide_eq_true c1,decide_eq_true c2];decide)).trans e) H' sm
 show{_,rfl,v5,d5,rfl,D5.e5,fun H6 s6=>{_,rfl,?_}};have FL:=Ir.trans s6;have D6:=D.same FL;cases Ss:sJ d5 with
 | false=>show br (br (wy (if_pos (by cases d5<;>first|rfl|cases Ss)) _ FL))
 | true=>
 obtain⟨j,rfl⟩:=AK Ss;have e5:v5 = .int j:=by have:=D.e5;unfold Den at this;show this
 subst e5;show bf ?_;have nG:¬(i<j/\j<=16/\mq (dh (iX d1)) i j=false)->B6 d1 (.int i) (.int j)=false:=fun h=>by
  change(decide (i<j)&&(decide (j<=16) && !mq (dh (iX d1)) i j))=false
  by_cases z:i<j
  ·by_cases y:j<=16
   ·rw[decide_eq_true z,decide_eq_true y];cases e:mq (dh (iX d1)) i j with
    | true=>rfl
    | false=>show absurd ⟨z,y,e⟩ h
   ·rw[decide_eq_true z,decide_eq_false y];rfl
  ·rw[decide_eq_false z];rfl
 show{_,rfl,_,rfl,_,_,rfl,rfl,_,rfl,eU (fun c3 =>?_) (fun c3=>{_,rfl,br (br (wy (if_pos (nG fun z=>c3 (decide_eq_true z.1))) _ FL))})};have c3:=of_decide_eq_true c3;show{_,_,rfl,rfl,_,rfl,?_}
 by_cases c4:j<=16
 case neg=>
  rw[decide_eq_false c4];show br (br (wy (if_pos (nG fun z=>c4 z.2.1)) _ FL))
 rw[decide_eq_true c4];show bf ?_;have bo:d6 (iX d1)=true/\((dh (iX d1)).map (·.1)).Perm aB:=by
  have z:=h1;unfold dv at z;rw[Jw,Jw] at z;show{z.1,of_decide_eq_true z.2.1}
 obtain⟨eb,_⟩:=pR bo.1;have xv:=bo.2.length_eq;rw[Jc] at xv;show{_,rfl,_,rfl,_,rfl,v1,d1,dh (iX d1),i,j,rfl,D6.e1,eb,by rw[xv];decide,D.f1.cd,bo.2.nodup_iff.mpr da,fun x hx=>bo.2.mem_iff.mpr hx,fun H7 s7=>{_,rfl,?_}};have OO:=FL.trans s7;cases hf:mq (dh (iX d1)) i j with
 | true=>show br (wy (if_pos (nG fun z=>by rw[hf] at z;show absurd z.2.2 ∅)) _ OO)
 | false=>
  show bf ?_;show wy (if_neg ?_) _ OO;change ¬(decide (i<j)&&(decide (j<=16) && !mq (dh (iX d1)) i j))=false;rw[decide_eq_true c3,decide_eq_true c4,hf];decide
end
end Z
namespace L2
open PySem
def fR (K:Ja){X:Cx}{e:QaF}{f:Str}{pos:Pos}{ta:TE}(he:PE X e ta)(hb:Qbr e f X.env (QaP e X.env)=QaP e X.env)(hK:X.K=K:=by rfl):PE X (.Attribute e f pos) (QI K ta f):=by subst hK;show MY he hb
end L2
namespace Z
open PySem L2
structure Oa (K:Ja)(CF:KE):Prop where
 c:Bl K CF
 n1:dg K CF "kinds"
 n2:dg K CF "spots"
 n3:dg K CF "sizes"
 n4:dg K CF "near"
 n5:dg K CF "far"
def kA (K:Ja)(CF:KE)(H:Hp)(m:KE)(d1 d2 d3 d4 d5:Qad):Prop:=Fz fun dx w1 w2 w3 w4 w5=>H m=some (.ins CF dx [("kinds",w1),("spots",w2),("sizes",w3),("near",w4),("far",w5)]) /\
 Den K H (OT d1) w1/\Den K H (OT d2) w2/\Den K H (OT d3) w3/\Den K H d4 w4/\Den K H d5 w5
def kA.same {m:KE}{d1 d2 d3 d4 d5:Qad}(h:kA K CF H m d1 d2 d3 d4 d5)(s:aq H H'):kA K CF H' m d1 d2 d3 d4 d5:=by
 obtain⟨dx,w1,w2,w3,w4,w5,e,h1,h2,h3,h4,h5⟩:=h;show{dx,w1,w2,w3,w4,w5,s _ _ e,h1.same s,h2.same s,h3.same s,h4.same s,h5.same s}
def RL (K:Ja)(CF C:KE):Sp:=fun vs H Q E=>fX fun H0 m=>Fz fun dx v1 v2 v3 v4 v5=>uN fun d1 d2 d3 d4 d5=>vs=[.ref m,v1,v2,v3,v4,v5]/\aq H0 H/\H0 m=none/\H m=some (.ins CF dx [])/\xC K H0 v1 v2 v3 v4 v5 d1 d2 d3 d4 d5 /\
 (nj d1 d2 d3 d4 d5=none->∀H',aq H0 H'->kA K CF H' m d1 d2 d3 d4 d5->Q .non H') /\
 (∀y,nj d1 d2 d3 d4 d5=some y->∀ex H',aq H0 H'->H' ex=some (.xd [("why",.str y)])->E (.ref C) (some ex) H')
def B5:aq (jY H m) H:=fun a o e=>by
 by_cases z:a=m
 ·rw[z,cW] at e;cases e
 ·rw[bG z] at e;show e
def xX (s:aq H H'):aq (jY H m) (jY H' m):=fun a o e=>by
 by_cases z:a=m
 ·rw[z,cW] at e;cases e
 ·rw[bG z] at e ⊢;show s _ _ e
def qf:jY (upd H m o) m=jY H m:=by
 funext a
 by_cases z:a=m
 ·rw[z,cW,cW]
 ·rw[bG z,bG z,av z]
def BX (s:aq H0 H)(n:H0 m=none):aq H0 (jY H m):=fun a o e=>by
 rw[bG (aE e n)];show s _ _ e
def vz (h:dv ns d=true):∃ds,d = .list ds\/d = .tuple ds:=by
 unfold dv at h;rw[Jw] at h;cases d with
 | list ds=>show⟨ds,.inl rfl⟩
 | tuple ds=>show⟨ds,.inr rfl⟩
 | _=>show absurd h.1 (by unfold iX d6;show nofun)
def sC (h:nj d1 d2 d3 d4 d5=none):dv aB d1=true/\dv bJ d2=true/\dv aH d3=true:=by
 unfold nj at h;cases h1:dv aB d1 with
 | false=>rw[if_pos h1] at h;cases h
 | true=>
  rw[if_neg (by rw[h1];decide)] at h;cases h2:dv bJ d2 with
  | false=>rw[if_pos h2] at h;cases h
  | true=>
   rw[if_neg (by rw[h2];decide)] at h;cases h3:dv aH d3 with
   | false=>rw[if_pos h3] at h;cases h
   | true=>show⟨rfl,rfl,rfl⟩
def zK {H:Hp}{m:KE}{o:HO}{d:Qad}{v:V}{Q:VK}{σ:St}{i:Nat}(hv: σ[i]? = some (some v))(hm:H m=some o)(hd:Den K (jY H m) d v)(hs:∃ds,d = .list ds\/d = .tuple ds)
  (k:∀w H',aq (jY H m) (jY H' m)->H' m=some o->Den K (jY H' m) (OT d) w->Q w H'):Q3 (fun xs H Q=>∃p ys,xs=[.ref p]/\((aW K H p ys/\∀l H',jI H l (.tup ys) H'->Q (.ref l) H')\/(aV K H p ys/\Q (.ref p) H))) (Bm (K2 i) Cv) σ H Q:=by
 show{_,hv,?_};obtain⟨ds,rfl|rfl⟩:=hs
 ·unfold Den at hd;obtain⟨p,us,rfl,hS,hD⟩:=hd;show{p,us,rfl,.inl {B5.seq hS,fun l H' n=>k _ _ (xX n.same) (n.same _ _ hm) {l,us,rfl,aV.of (by rw[bG (fun z=>by have:=n.nn;rw[z,hm] at this;cases this)];show n.at),hD.same (xX n.same)}}}
 ·have DZ:=hd;obtain⟨p,us,rfl,hS,hD⟩:=DZ;show{p,us,rfl,.inr {B5.bF hS,k _ _ (aq.refl _) hm hd}}
section
variable {P:Qac}{w:Qag}{K:Ja}{mg:Str->Option Fk}{base:Heap}{f fi C CF:KE}{fd NR:Qal}
def tF:aD ["self", "why"] ["self", "why"] (ai (inClass (top rF) 0)):=fO
def Bb (C:KE)(f:Str):Sp:=fun vs H Q _=>∃e v,vs=[.ref e,v]/\H e=some (xw e C)/\∀dx,H dx=none->dx≠e->Q .non (upd (upd H e (Dy e C dx)) dx (.xd [(f,v)]))
def sO (F:eC K "__init__" "NoForm.__init__" (inClass (top rF) 0) f fd)(S:nh K C "why"):aU P w K mg base dX 1 f fd ["self", "why"] (Bb C "why"):=by
 show F.gw tF fun H vs Q E hr h =>?_;obtain⟨e,v,rfl,he,q⟩:=h;show{_,(ag (AX (pv 0) (pv 1) rfl)),{_,rfl,_,rfl,e,C,rfl,he,S,fun dx h1 h2=>q dx h1 h2}}
def mK:aD ["self", "kinds", "spots", "sizes", "near", "far", "why"] ["self", "kinds", "spots", "sizes", "near", "far"] (ai (inClass (top yL) 0)):=fO
def PH (F:eC K "__init__" "Form.__init__" (inClass (top yL) 0) f fd)(T:Nm mg)(MF:Oa K CF)(ja:mg "NoForm" = some (.ref C))(Hv:O1 K C fi)(qr:aU P w K mg base dX 1 fi NR ["self", "why"] (Bb C "why"))(FJ:Binds K NR ["self", "why"] [])(sQ:Fn P w K mg base 6 "first_wrong" ["kinds", "spots", "sizes", "near", "far"] (PV K)):
  aU P w K mg base (xj P w base) 7 f fd ["self", "kinds", "spots", "sizes", "near", "far"] (RL K CF C):=by
 show F.UE mK (fun vs H Q E h =>?_) (fun gF A outer s H vs Q E hr h =>?_)
 ·obtain⟨H0,m,dx,v1,v2,v3,v4,v5,d1,d2,d3,d4,d5,rfl,_⟩:=h
  rfl
 obtain⟨H0,m,dx,v1,v2,v3,v4,v5,d1,d2,d3,d4,d5,rfl,sm,nm,hm,D,qY,qN⟩:=h;show⟨_,(af (cz (i:=6) mK.nd (bP sQ hr (aa (pv 1) (aa (pv 2) (aa (pv 3) (aa (pv 4) (aa (pv 5) ae)))))))
  (af (aN (aw BO (pv 6) aX (aA _)) (ag (uP Hv qr (hr.mono ∅) rfl ja FJ (aa (pv 6) ae))) ay)
  (af (iR (pv 0) (aQ (oU K) rfl T.n_tuple (by rfl) (aa (pv 1) ae)) rfl)
  (af (iR (pv 0) (aQ (oU K) rfl T.n_tuple (by rfl) (aa (pv 2) ae)) rfl)
  (af (iR (pv 0) (aQ (oU K) rfl T.n_tuple (by rfl) (aa (pv 3) ae)) rfl)
  (af (iR (pv 0) (pv 4) rfl)
  (ag (iR (pv 0) (pv 5) rfl)))))))),?_⟩
 have nb:∀{Hx:Hp} {a:KE},aq H Hx->Hx a=none->H a=none:=fun{Hx a} s h=>by
  cases e:H a with
  | none=>rfl
  | some o=>rw[s _ _ e] at h;cases h
 show{_,rfl,_,rfl,_,rfl,_,rfl,_,rfl,v1,v2,v3,v4,v5,d1,d2,d3,d4,d5,rfl,D.same sm,fun H1 s1=>gn ?_};have SU:=sm.trans s1;show{_,rfl,.inl {rfl,?_}};cases hw:nj d1 d2 d3 d4 d5 with
 | some y=>
  show{_,rfl,br {_,rfl,by change 1<=1000;decide,fun e he=>{e,.str y,rfl,ax,fun dx c1 c2=>{rfl,e,dx,rfl,?_,nb s1 he,?_}}}}
  ·rw[av (QaD c2),ax]
  ·show qN y hw dx _ (fun a o z =>?_) ?_
   ·have z1:=SU _ _ z;have na:=aE z1 he;have nd:a≠dx:=fun y=>by
     rw[av c2,<-y,z1] at c1;cases c1
    rw[bG na,av nd,av na,av na];show z1
   ·rw[bG c2,ax]
 | none=>
  show{_,rfl,bf ?_};obtain⟨o1,o2,o3⟩:=sC hw;have D1:=D.same (BX SU nm);dsimp only[ji];unfold Ka Rf;dsimp only;show zK (by rfl) (s1 _ _ hm) D1.e1 (vz o1) fun w1 H2 s2 m2 t1=>{_,rfl,m,CF,dx,_,rfl,m2,MF.c,MF.n1,by change 0<1000;decide,(zK (by rfl) ax (qf▸D1.e2.same s2) (vz o2) fun w2 H3 s3 m3 t2 =>?_)}
  rw[qf] at s3;show{_,rfl,m,CF,dx,_,rfl,m3,MF.c,MF.n2,by change 1<1000;decide,(zK (by rfl) ax (qf▸D1.e3.same (s2.trans s3)) (vz o3) fun w3 H4 s4 m4 t3 =>?_)};rw[qf] at s4;show{_,rfl,m,CF,dx,_,rfl,m4,MF.c,MF.n3,by change 2<1000;decide,{_,rfl,_,rfl,m,CF,dx,_,rfl,ax,MF.c,MF.n4,by change 3<1000;decide,{_,rfl,_,rfl,m,CF,dx,_,rfl,ax,MF.c,MF.n5,by change 4<1000;decide,?_}}};have Cc:=s2.trans (s3.trans s4);have fin:∀{Hx:Hp},aq (jY Hx m) (jY H4 m)->∀{o p q:HO},aq (jY Hx m) (upd (upd (upd H4 m o) m p) m q):=fun{Hx} h {o p q}=>h.trans fun a u e=>by
   have na:a≠m:=fun y=>by rw[y,cW] at e;cases e
   rw[bG na] at e;rw[av na,av na,av na];show e
  show qY hw _ ?_ {dx,w1,w2,w3,v4,v5,?_,?_,?_,?_,?_,?_}
  ·show fun a o e=>by
    have z:=((BX SU nm).trans Cc) _ _ e;have na:a≠m:=fun y=>by rw[y,nm] at e;cases e
    rw[bG na] at z;rw[av na,av na,av na];show z
  ·show ax
  ·show t1.same (fin (s3.trans s4))
  ·show t2.same (fin s4)
  ·show t3.same (fin (aq.refl _))
  ·show D1.e4.same (fin Cc)
  ·show D1.e5.same (fin Cc)
def qi (ks:List Str)(x:Str):LC (.str x) (ks.map V.str)=ks.contains x:=by
 unfold LC;rw[List.any_map,List.contains_eq_any_beq]
 congr 1
 funext y
 change(y==x)=(x==y)
 rw[Y9,beq_iff_eq,beq_iff_eq];show eq_comm
def la (h:aq H0 H)(n:H0 p=none):aq H0 (upd H p o):=fun x u e=>by
 rw[av (aE e n)];show h x u e
def nW {A B:Prop}(q:A):if decide (V.str x=V.str x)=true then A else B:=by lia
def gA {A B:Prop}(q:B)(h:(x==y)=false:=by decide +kernel):if decide (V.str x=V.str y)=true then A else B:=by lia
def Gh {ks:List Str}{x:Str}{A B:Prop}(q:B)(h:ks.contains x=false:=by decide +kernel):if (if false=true then !LC (.str x) (ks.map V.str) else LC (.str x) (ks.map V.str))=true then A else B:=by
 rw[if_neg Js,qi,h];show bf q
def GC {ks:List Str}{x:Str}{A B:Prop}(q:A)(h:ks.contains x=true:=by decide +kernel):if (if false=true then !LC (.str x) (ks.map V.str) else LC (.str x) (ks.map V.str))=true then A else B:=by
 rw[if_neg Js,qi,h];show br q
def cM {α:Type}{l:List α}{i:Nat}(h:i<l.length):l.take (i+1)=l.take i++[l[i]]:=by simp
def Ri (K:Ja)(CF C:KE):Sp:=fun vs H Q E=>Fz fun lp v1 v2 v3 v4 v5=>uN fun d1 d2 d3 d4 d5=>vs=[.ref lp]/\aW K H lp [v1,v2,v3,v4,v5]/\xC K H v1 v2 v3 v4 v5 d1 d2 d3 d4 d5 /\
 (nj d1 d2 d3 d4 d5=none->∀m H',aq H H'->H m=none->kA K CF H' m d1 d2 d3 d4 d5->Q (.ref m) H') /\
 (∀y,nj d1 d2 d3 d4 d5=some y->∀ex H',aq H H'->H' ex=some (.xd [("why",.str y)])->E (.ref C) (some ex) H')
def Hl (K:Ja)(CF:KE):Sp:=fun vs H Q _=>Fz fun lp v1 v2 v3 v4 v5=>uN fun d1 d2 d3 d4 d5=>vs=[.ref lp]/\aW K H lp [v1,v2,v3,v4,v5]/\xC K H v1 v2 v3 v4 v5 d1 d2 d3 d4 d5/\nj d1 d2 d3 d4 d5=none /\
 ∀m H',aq H H'->H m=none->kA K CF H' m d1 d2 d3 d4 d5->Q (.ref m) H'
end
def Mw {vs:List V}{H:Hp}{Q:VK}{E:XK}(h:Hl K CF vs H Q E):Ri K CF C vs H Q (fun _ _ _=>False):=by
 obtain⟨lp,v1,v2,v3,v4,v5,d1,d2,d3,d4,d5,rfl,hl,D,hw,q⟩:=h;show{lp,v1,v2,v3,v4,v5,d1,d2,d3,d4,d5,rfl,hl,D,fun _ m H' s n fo=>q m H' s n fo,fun y hy=>by rw[hw] at hy;cases hy}
section
variable {P:Qac}{w:Qag}{K:Ja}{mg:Str->Option Fk}{base:Heap}{f C CF cO c1 c2 c3 c4 c5 c6 c7 gi:KE}{fd UZ:Qal}
def wV:aD ["_law_parts_here"] ["_law_parts_here"] (ai (top mw)):=fO
def Pd (F:eC K "_law_form" "_law_form" (top mw) f fd)(T:Nm mg)(JA:Mk K CF gi)(zk:mg "Form" = some (.ref CF))(vq:aU P w K mg base (xj P w base) 7 gi UZ ["self", "kinds", "spots", "sizes", "near", "far"] (RL K CF C))(vW:Binds K UZ ["self", "kinds", "spots", "sizes", "near", "far"] []):
  aU P w K mg base (xj P w base) 9 f fd ["_law_parts_here"] (Ri K CF C):=by
 show F.UE wV (fun vs H Q E h =>?_) (fun gF A outer s H vs Q E hr h =>?_)
 ·obtain⟨lp,v1,v2,v3,v4,v5,d1,d2,d3,d4,d5,rfl,_⟩:=h
  rfl
 obtain⟨lp,v1,v2,v3,v4,v5,d1,d2,d3,d4,d5,rfl,hl,D,qY,qN⟩:=h;show{_,(ag (ao (B4 JA (vq.mono (by first|decide|show Je _)) (hr.mono (by first|decide|show Je _)) rfl zk vW .nil (CZ fun _ _ _ z=>z) (aa (aR (eW K) (pv 0) ah (fun _ _=>rfl)) (aa (aR (eW K) (pv 0) ah (fun _ _=>rfl)) (aa (aR (eW K) (pv 0) ah (fun _ _=>rfl)) (aa (aR (eW K) (pv 0) ah (fun _ _=>rfl)) (aa (aR (eW K) (pv 0) ah (fun _ _=>rfl)) ae)))))))),{_,rfl,.inl {lp,_,_,v1,rfl,rfl,hl,rfl,_,rfl,.inl {lp,_,_,v2,rfl,rfl,hl,rfl,_,rfl,.inl {lp,_,_,v3,rfl,rfl,hl,rfl,_,rfl,.inl {lp,_,_,v4,rfl,rfl,hl,rfl,_,rfl,.inl {lp,_,_,v5,rfl,rfl,hl,rfl,fun x dx hx hdx ne=>{H,x,dx,v1,v2,v3,v4,v5,d1,d2,d3,d4,d5,rfl,(bb hdx _).trans (bb (by rw[av (QaD ne)];show hx) _),hx,ax,D,fun e H' s fo=>{rfl,qY e x H' s hx fo},qN}}}}}}}}
def vZ (K:Ja)(n:Nat):Sp:=fun vs H Q _=>pW fun v1 v2 d=>vs=[v1,v2]/\Den K H d v1/\Den K H d v2/\d.depth<n/\d.weight<=1000000/\∀H',aq H H'->Q (.bl true) H'
def yC:aD ["_law_found", "_law_due_here"] ["_law_found", "_law_due_here"] (ai (top mn)):=fO
def KW {n:Nat}(F:eC K "_law_same" "_law_same" (top mn) f fd)(T:Nm mg)(fF:Fn P w K mg base n "_law_same" ["_law_found", "_law_due_here"] (vZ K n)):aU P w K mg base dX (n+1) f fd ["_law_found", "_law_due_here"] (vZ K (n+1)):=by
 show F.gw yC fun H vs Q E hr h =>?_;obtain⟨v1,v2,d,rfl,d1,d2,hn,hw,q⟩:=h;have fB:=hr.units;show⟨_,(af (aN (aw nN (pv 1) aX (aA _)) (ag (ao (cF nN (pv 0) aX (aA _)))) ay)
  (af (aN (bX (aj (j2 K) rfl T.n_isinstance (by rfl) (aa (pv 1) (aa (bK rfl T.n_bool (by rfl) (v := .ty "bool") rfl) ae)))) (ag (ao (fL (aj (j2 K) rfl T.n_isinstance (by rfl) (aa (pv 0) (aa (bK rfl T.n_bool (by rfl) (v := .ty "bool") rfl) ae))) (ky (cF (ka K fB) (pv 0) (pv 1) (aA _)))))) ay)
  (af (aN (bX (aj (QT K) rfl T.n_isinstance (by rfl) (aa (pv 1) (aa (bI (aa (bK rfl T.n_list (by rfl) (v := .ty "list") rfl) (aa (bK rfl T.n_tuple (by rfl) (v := .ty "tuple") rfl) ae))) ae)))) (af (aN (PW.pt (jW (aw (Cq K fB) (aj (j2 K) rfl T.n_isinstance (by rfl) (aa (pv 0) (aa (bK rfl T.n_list (by rfl) (v := .ty "list") rfl) ae))) (aj (j2 K) rfl T.n_isinstance (by rfl) (aa (pv 1) (aa (bK rfl T.n_list (by rfl) (v := .ty "list") rfl) ae))) (aA _)) (iQ (aw (Cq K fB) (aj (j2 K) rfl T.n_isinstance (by rfl) (aa (pv 0) (aa (bK rfl T.n_tuple (by rfl) (v := .ty "tuple") rfl) ae))) (aj (j2 K) rfl T.n_isinstance (by rfl) (aa (pv 1) (aa (bK rfl T.n_tuple (by rfl) (v := .ty "tuple") rfl) ae))) (aA _))))) (ag (ao jX)) ay)
  (af (aN (aw (Cq K fB) (aj (dN K) rfl T.n_len (by rfl) (aa (pv 0) ae)) (aj (dN K) rfl T.n_len (by rfl) (aa (pv 1) ae)) (aA _)) (ag (ao jX)) ay)
  (ag (ao (aj (Rp K rfl) rfl T.n_all (by rfl) (aa (dQ rfl (b9 (Nc:=["_law_one", "_law_other"]) (Fc:=[]) (js:=[])) (K8 K rfl T.n_zip (aa (pv 0) (aa (pv 1) ae))) (lV (cq (bC (i:=0) (n:=2) ∅) (cq (bC (i:=1) (n:=2) ∅) jM bL dq) bL (ic bL dq))) (fun _ _ _ _ _=>(tupK K 2 rfl (aI (eX (i:=0) (pK ["_law_one", "_law_other"])) (aI (eX (i:=1) (pK ["_law_one", "_law_other"])) bM)))) (fun _ _ _ _ _=>cE) (fun _ _ _ _ _=>(HD (fF.mono (by first|decide|show Je _|lia)) hr rfl (aa (pv 0) (aa (pv 1) ae))))) ae)))))) ay)
  (af (aN (bX (aj (j2 K) rfl T.n_isinstance (by rfl) (aa (pv 1) (aa (bK rfl T.n_str (by rfl) (v := .ty "str") rfl) ae)))) (ag (ao (fL (aj (j2 K) rfl T.n_isinstance (by rfl) (aa (pv 0) (aa (bK rfl T.n_str (by rfl) (v := .ty "str") rfl) ae))) (ky (cF (ka K fB) (pv 0) (pv 1) (aA _)))))) ay)
  (ag (ao (fL (aj (j2 K) rfl T.n_isinstance (by rfl) (aa (pv 0) (aa (bK rfl T.n_int (by rfl) (v := .ty "int") rfl) ae))) (fL (Fq (aj (j2 K) rfl T.n_isinstance (by rfl) (aa (pv 0) (aa (bK rfl T.n_bool (by rfl) (v := .ty "bool") rfl) ae)))) (ky (cF (ka K fB) (pv 0) (pv 1) (aA _))))))))))),?_⟩
 cases d with
 | none=>
  have ES:=d1;have EZ:=d2;unfold Den at ES EZ;subst ES EZ;show{_,rfl,.inl {rfl,_,rfl,br {_,rfl,.inl {rfl,q H (aq.refl _)}}}}
 | bool b=>
  have ES:=d1;have EZ:=d2;unfold Den at ES EZ;subst ES EZ;show{_,rfl,.inl {rfl,_,rfl,bf ?_}};show⟨_,rfl,.inl ⟨_, "bool",.bool b,true,rfl,d2,rfl,_,rfl,br ?_⟩⟩;show⟨_,rfl,.inl ⟨_, "bool",.bool b,true,rfl,d1,rfl,_,rfl,br ⟨_,rfl,_,rfl,.inl ⟨rfl,?_⟩⟩⟩⟩;rw[decide_eq_true rfl];show q H (aq.refl _)
 | int i=>
  have ES:=d1;have EZ:=d2;unfold Den at ES EZ;subst ES EZ;show{_,rfl,.inl {rfl,_,rfl,bf ?_}};show⟨_,rfl,.inl ⟨_, "bool",.int i,false,rfl,d2,rfl,_,rfl,bf ?_⟩⟩;show⟨_,rfl,eV,fun p H1 n1=>⟨_,p,["list", "tuple"],.int i,false,rfl,n1.at,d2,rfl,_,rfl,bf ?_⟩⟩;show⟨_,rfl,.inl ⟨_, "str",.int i,false,rfl,d2,rfl,_,rfl,bf ?_⟩⟩;show⟨_,rfl,.inl ⟨_, "int",.int i,true,rfl,d1,rfl,_,rfl,br ⟨_,rfl,.inl ⟨_, "bool",.int i,false,rfl,d1,rfl,_,rfl,_,rfl,br ⟨_,rfl,_,rfl,.inl ⟨rfl,?_⟩⟩⟩⟩⟩⟩;rw[decide_eq_true rfl];show q H1 n1.same
 | str x=>
  have ES:=d1;have EZ:=d2;unfold Den at ES EZ;subst ES EZ;show{_,rfl,.inl {rfl,_,rfl,bf ?_}};show⟨_,rfl,.inl ⟨_, "bool",.str x,false,rfl,d2,rfl,_,rfl,bf ?_⟩⟩;show⟨_,rfl,eV,fun p H1 n1=>⟨_,p,["list", "tuple"],.str x,false,rfl,n1.at,d2,rfl,_,rfl,bf ?_⟩⟩;show⟨_,rfl,.inl ⟨_, "str",.str x,true,rfl,d2,rfl,_,rfl,br ?_⟩⟩;show⟨_,rfl,.inl ⟨_, "str",.str x,true,rfl,d1,rfl,_,rfl,br ⟨_,rfl,_,rfl,.inl ⟨rfl,?_⟩⟩⟩⟩;rw[decide_eq_true rfl];show q H1 n1.same
 | list ds=>
  have e1:=d1;have e2:=d2;unfold Den at e1 e2;obtain⟨a1,vs1,rfl,s1,ds1⟩:=e1;obtain⟨a2,vs2,rfl,s2,ds2⟩:=e2;simp only[Qbg] at hn;simp only[QaA] at hw;have YH:=mi ds;show{_,rfl,.inl {rfl,_,rfl,bf ?_}};show⟨_,rfl,.inl ⟨_, "bool",.list ds,false,rfl,d2,rfl,_,rfl,bf ?_⟩⟩;show⟨_,rfl,eV,fun p H1 n1=>⟨_,p,["list", "tuple"],.list ds,true,rfl,n1.at,d2.same n1.same,rfl,_,rfl,br ?_⟩⟩;have b1:=d1.same n1.same;have b2:=d2.same n1.same;show⟨_,rfl,.inl ⟨_, "list",.list ds,true,rfl,b1,rfl,_,rfl,.inl ⟨_, "list",.list ds,true,rfl,b2,rfl,.inl ⟨rfl,_,rfl,bf ?_⟩⟩⟩⟩;show⟨_,rfl,.inl ⟨_, "tuple",.list ds,false,rfl,b1,rfl,_,rfl,.inl ⟨_, "tuple",.list ds,false,rfl,b2,rfl,.inl ⟨rfl,_,rfl,bf ?_⟩⟩⟩⟩;show{_,rfl,_,_,rfl,.inl {vs1,n1.same.seq s1,rfl},_,rfl,_,_,rfl,.inl {vs2,n1.same.seq s2,rfl},.inl {rfl,_,rfl,?_}};rw[decide_eq_true (show V.int (vs1.length:Nat)=V.int (vs2.length:Nat) by rw[ds1.len,ds2.len])];show bf ?_;show{_,rfl,_,rfl,false,false,a1,a2,rfl,{_,n1.same.seq s1},{_,n1.same.seq s2},?_};show eh (N:=ds.length) (fun i ys H'=>aq H1 H'/\ys=(Jm i true).map V.bl) {aq.refl _,rfl} ?_ ?_
  ·rintro i ys H2 Nx hi ⟨sm,rfl⟩ nx;have j6:=n1.same.trans sm;obtain⟨x,hx,dx⟩:=ds1.get (i:=i) (d:=ds[i]) (Jd hi);obtain⟨y,hy,dy⟩:=ds2.get (i:=i) (d:=ds[i]) (Jd hi);have q1:u9 false K H2 a1 vs1:=j6.seq s1;have q2:u9 false K H2 a2 vs2:=j6.seq s2;show{{_,_,_,_,q1,q2,hx,hy},by rw[Jc,Ud];show Jv (show i<10000000 by lia) ∅,?_};rintro x' H3 ⟨T',rfl,hN⟩;have n3:=hN _ _ _ _ q1 q2 hx hy;show{T',_,rfl,aV.of n3.at,rfl,_,_,rfl,_,_,rfl,rfl,?_};have LL:=j6.trans n3.same;show{_,rfl,_,rfl,x,y,ds[i],rfl,dx.same LL,dy.same LL,?_,?_,fun H4 tP=>nx _ _ {sm.trans (n3.same.trans tP),?_}}
   ·have:=m8 (n:=n-1) ⋯ (Uc hi);lia
   ·show gR hw (Uc hi)
   ·rw[QdQ,Jx];rfl
  ·rintro ys H2 ⟨sm,rfl⟩;have j6:=n1.same.trans sm;have q1:u9 false K H2 a1 vs1:=j6.seq s1;have q2:u9 false K H2 a2 vs2:=j6.seq s2;show{{_,_,q1,q2,.inl (by rw[ds1.len];show Je _)},fun p2 zW =>?_};show{p2,Jm ds.length true,rfl,aW.of ax,?_};rw[all_true];show q _ (j6.trans (bb zW _))
 | tuple ds=>
  have e1:=d1;have e2:=d2;unfold Den at e1 e2;obtain⟨a1,vs1,rfl,s1,ds1⟩:=e1;obtain⟨a2,vs2,rfl,s2,ds2⟩:=e2;simp only[Qbg] at hn;simp only[QaA] at hw;have YH:=mi ds;show{_,rfl,.inl {rfl,_,rfl,bf ?_}};show⟨_,rfl,.inl ⟨_, "bool",.tuple ds,false,rfl,d2,rfl,_,rfl,bf ?_⟩⟩;show⟨_,rfl,eV,fun p H1 n1=>⟨_,p,["list", "tuple"],.tuple ds,true,rfl,n1.at,d2.same n1.same,rfl,_,rfl,br ?_⟩⟩;have b1:=d1.same n1.same;have b2:=d2.same n1.same;show⟨_,rfl,.inl ⟨_, "list",.tuple ds,false,rfl,b1,rfl,_,rfl,.inl ⟨_, "list",.tuple ds,false,rfl,b2,rfl,.inl ⟨rfl,_,rfl,bf ?_⟩⟩⟩⟩;show⟨_,rfl,.inl ⟨_, "tuple",.tuple ds,true,rfl,b1,rfl,_,rfl,.inl ⟨_, "tuple",.tuple ds,true,rfl,b2,rfl,.inl ⟨rfl,_,rfl,bf ?_⟩⟩⟩⟩;show{_,rfl,_,_,rfl,.inr {vs1,n1.same.bF s1,rfl},_,rfl,_,_,rfl,.inr {vs2,n1.same.bF s2,rfl},.inl {rfl,_,rfl,?_}};rw[decide_eq_true (show V.int (vs1.length:Nat)=V.int (vs2.length:Nat) by rw[ds1.len,ds2.len])];show bf ?_;show{_,rfl,_,rfl,true,true,a1,a2,rfl,{_,n1.same.bF s1},{_,n1.same.bF s2},?_};show eh (N:=ds.length) (fun i ys H'=>aq H1 H'/\ys=(Jm i true).map V.bl) {aq.refl _,rfl} ?_ ?_
  ·rintro i ys H2 Nx hi ⟨sm,rfl⟩ nx;have j6:=n1.same.trans sm;obtain⟨x,hx,dx⟩:=ds1.get (i:=i) (d:=ds[i]) (Jd hi);obtain⟨y,hy,dy⟩:=ds2.get (i:=i) (d:=ds[i]) (Jd hi);have q1:u9 true K H2 a1 vs1:=j6.bF s1;have q2:u9 true K H2 a2 vs2:=j6.bF s2;show{{_,_,_,_,q1,q2,hx,hy},by rw[Jc,Ud];show Jv (show i<10000000 by lia) ∅,?_};rintro x' H3 ⟨T',rfl,hN⟩;have n3:=hN _ _ _ _ q1 q2 hx hy;show{T',_,rfl,aV.of n3.at,rfl,_,_,rfl,_,_,rfl,rfl,?_};have LL:=j6.trans n3.same;show{_,rfl,_,rfl,x,y,ds[i],rfl,dx.same LL,dy.same LL,?_,?_,fun H4 tP=>nx _ _ {sm.trans (n3.same.trans tP),?_}}
   ·have:=m8 (n:=n-1) ⋯ (Uc hi);lia
   ·show gR hw (Uc hi)
   ·rw[QdQ,Jx];rfl
  ·rintro ys H2 ⟨sm,rfl⟩;have j6:=n1.same.trans sm;have q1:u9 true K H2 a1 vs1:=j6.bF s1;have q2:u9 true K H2 a2 vs2:=j6.bF s2;show{{_,_,q1,q2,.inl (by rw[ds1.len];show Je _)},fun p2 zW =>?_};show{p2,Jm ds.length true,rfl,aW.of ax,?_};rw[all_true];show q _ (j6.trans (bb zW _))
 | dict _=>unfold Den at d1;show d1.elim
def LV {j:Int}(h0:0<=j)(h1:j<=x.length):sg (Qak x none (some j))=(sg x).take j.toNat:=by
 rw[eq_of_beq (PyProof.Rows.slice_closes_to ⟨h0,by rw[<-str_len];show h1⟩)];simp
def split_not {g:Nat->Bool}:∀l,l.all g=false->∃p c r,l=p++c::r/\(∀a∈p,g a=true)/\g c=false
 | [],h=>by cases h
 | a::l,h=>by
  cases ha:g a with
  | false=>show⟨[],a,l,rfl,(fun _ z=>nomatch z),ha⟩
  | true=>
   rw[Qcy,ha,Yb] at h;obtain⟨p,c,r,rfl,hp,hc⟩:=split_not l h;show{a::p,c,r,rfl,fun x hx =>?_,hc}
   rcases Jq.mp hx with rfl|hx
   ·show ha
   ·show hp x hx
def jL (x y:Str):gm x y=x.cps.toList.all y.cps.contains:=by
 unfold gm Qfy;rw[PyProof.Rows.stripBy_eq];generalize y.cps.contains=g;unfold stripHi stripLo;have sub:∀i j,decide (V.str (QdE x i j)=V.str (Wp ""))=decide (min j x.length<=i):=fun i j=>by
  congr 1
  show propext {fun h =>?_,fun h =>?_}
  ·injection h with h
   have h:=congrArg (fun s:Str=>s.cps.size) h;have e0:(Wp "").cps.size=0:=rfl;simp only[QdE,Array.size_extract,e0] at h;have:x.cps.size=x.length:=rfl;lia
  ·congr 1
   unfold QdE;have e:x.cps.extract i j = #[]:=by
    apply QeE;rw[Array.size_extract];have:x.cps.size=x.length:=rfl;lia
   rw[e]
   rfl
 rw[sub];have hlen:x.length=x.cps.toList.length:=by simp[Str.length]
 rw[hlen];generalize x.cps.toList=l
 by_cases h:l.all g=true
 ·rw[h];have e:l.takeWhile g=l:=by
   induction l with
   | nil=>rfl
   | cons a l ih=>
    rw[Qcy,Jw] at h;rw[Qd2,if_pos h.1,ih h.2]
  show decide_eq_true ⋯
 ·have hf:l.all g=false:=by simpa using h
  rw[hf];apply decide_eq_false;intro z;obtain⟨p,c,r,rfl,hp,hc⟩:=split_not l hf;have e:(p++c::r).takeWhile g=p:=by
   clear z hlen sub h hf
   induction p with
   | nil=>rw[List.nil_append,Qd2,hc];rfl
   | cons a p ih=>
    rw[Qdj,Qd2,if_pos (hp a Jj),ih fun x hx=>hp x (Jh _ hx)]
  have ed:(p++c::r).drop p.length=c::r:=List.drop_left;have hl:(p++c::r).length=p.length+(r.length+1):=by rw[Jn,Jo]
  have tl:((c::r).reverse.takeWhile g).length<=r.length:=by
   rw[Qce];have:((r.reverse++[c]).takeWhile g).length<=r.reverse.length:=by
    rw[List.takeWhile_append]
    split
    ·rw[Jn];have e:[c].takeWhile g=[]:=by simp[ hc]
     rw[e];simp
    ·show(List.takeWhile_prefix g).length_le
   rw[Qd4] at this;show this
  lia
def pY [DecidableEq α]{f:Nat -> α}{k: α}:∀{i:Nat},k∈b8 f i ↔ ∃j,j<i/\f j=k
 | 0=>by simp[b8]
 | i+1=>by
  unfold b8 oneMore;have ih:=pY (f:=f) (k:=k) (i:=i)
  by_cases h:f i∈b8 f i
  ·rw[if_pos h,ih];constructor
   ·rintro⟨j,hj,e⟩;show⟨j,⋯,e⟩
   ·rintro⟨j,hj,e⟩
    by_cases hji:j=i
    ·subst hji;obtain⟨m,hm,em⟩:=(pY).mp h;show{m,hm,em.trans e}
    ·show{j,⋯,e}
  ·rw[if_neg h,Ub,ih,Jt];constructor
   ·rintro(⟨j,hj,e⟩|e)
    ·show{j,⋯,e}
    ·show{i,⋯,e.symm}
   ·rintro⟨j,hj,e⟩
    by_cases hji:j=i
    ·subst hji;show .inr e.symm
    ·show .inl {j,⋯,e}
def yw [DecidableEq α]{f:Nat -> α}:∀{i:Nat},(b8 f i).length=i ↔ ∀a b,a<b->b<i->f a≠f b
 | 0=>⟨fun _ a b _ h=>absurd h (Wb _),fun _=>rfl⟩
 | i+1=>by
  have ih:=yw (f:=f) (i:=i);have le:=mr f i;unfold b8 oneMore
  by_cases h:f i∈b8 f i
  ·rw[if_pos h];show{fun z=>⋯,fun z =>?_};obtain⟨j,hj,e⟩:=pY.mp h;show absurd e (z j i hj ⋯)
  ·rw[if_neg h,Jn,Qco];constructor
   ·intro z a b uL hb e
    by_cases hbi:b=i
    ·subst hbi;show h (pY.mpr ⟨a,uL,e⟩)
    ·show ih.mp ⋯ a b uL ⋯ e
   ·intro z;have:=ih.mpr fun a b uL hb=>z a b uL ⋯;lia
def DE {l:List Str}:(b8 (fun i=>l.getD i Qau) l.length).length=l.length↔l.Nodup:=by
 rw[yw,List.nodup_iff_pairwise_ne,Ut];constructor
 ·show fun h i j hi hj wN e=>h i j wN hj ?_;simp only[Yu,Jd hi,Jd hj];show e
 ·show fun h a b uL hb e=>h a b ⋯ hb uL ?_;simpa only [Yu,Jd hb,Jd (show a<l.length by lia),Option.getD_some] using e
def Ko:Qad->Bool
 | .tuple [.str _,.str y]=>cV (.str y)
 | _=>false
def II (h:Ko d=true):∃x y,d = .tuple [.str x,.str y]/\cV (.str y)=true:=by
 unfold Ko at h
 split at h
 ·show{_,_,rfl,h}
 ·cases h
def qD:∀{ds:List Qad},(∀x∈ds,Ko x=true)->ds=(dh (.list ds)).map fun q=>Qca [.str q.1,.str q.2]
 | [],_=>rfl
 | d::ds,h=>by
  obtain⟨x,y,rfl,_⟩:=II (h d Jj);change Qca [.str x,.str y]::ds=Qca [.str x,.str y]::(dh (.list ds)).map fun q=>Qca [.str q.1,.str q.2];rw[<-(qD fun x hx=>h x (Jh _ hx))]
def L1 {d:Qad}{ds:List Qad}(e:iX d = .list ds)(h:∀x∈ds,Ko x=true)(nn:ns≠[])(nd:ns.Nodup)(nv:∀x∈ns,eJ (.str x)=true):
  dv ns d=(decide (((dh (.list ds)).map (·.1)).Perm ns)&&yE (dh (.list ds))):=by
 unfold dv;rw[e]
 by_cases hp:((dh (.list ds)).map (·.1)).Perm ns
 ·rw[decide_eq_true hp,Yb];have hb:d6 (.list ds)=true:=by
   change(!ds.isEmpty&&(ds.all bH&&decide ((b8 (fun i=>(ds.map hX).getD i Qau) ds.length).length=ds.length)))=true;have en:ds.map hX=(dh (.list ds)).map (·.1):=by
    have e2:=congrArg (List.map hX) (qD h);rw[Yh] at e2;show e2
   rw[Jw,Jw,U2];show{?_,fun x hx =>?_,decide_eq_true ?_}
   ·cases ds with
    | nil=>show absurd hp.symm.eq_nil nn
    | cons _ _=>rfl
   ·have nV:=hx;rw[qD h] at nV;obtain⟨q,hq,rfl⟩:=Ul.mp nV;have h2:cV (.str q.2)=true:=h _ hx;change(eJ (.str q.1)&&cV (.str q.2))=true;rw[(nv q.1 (hp.mem_iff.mp (Um hq))),h2];rfl
   ·have:=DE (l:=ds.map hX);rw[Jc] at this;show this.mpr (by rw[en];show hp.nodup_iff.mpr nd)
  rw[hb,Yb]
 ·rw[decide_eq_false hp,Y1,Bool.and_false]
def qa (x:Str):decide (V.str x=V.str (Wp ""))=decide (x.length=0):=by
 congr 1
 show propext {fun h =>?_,fun h =>?_}
 ·injection h with h
  rw[h];rfl
 ·congr 1
  cases x with
  | mk c=>
   have:c = #[]:=QeE h;rw[this];rfl
structure PZ (ns:List Str):Prop where
 l:ns.length<64
 nn:ns≠[]
 nd:ns.Nodup
 az:∀x∈ns,lN x=true
 ok:∀x∈ns,eJ (.str x)=true
def rA (ws:List Str):Sp:=fun vs H Q _=>vs=[]/\∀p H',jI H p (.lst (ws.map V.str)) H'->Q (.ref p) H'
def Pr:PZ aB:=⟨∅,∅,∅,∅,∅⟩
def Ow:PZ bJ:=⟨∅,∅,∅,∅,∅⟩
def OK:PZ aH:=⟨∅,∅,∅,∅,∅⟩
def vn:aD [] [] (ai (top ki)):=fO
def Ge (F:eC K "_law_kinds" "_law_kinds" (top ki) f fd)(T:Nm mg):aU P w K mg base dX 1 f fd [] (rA aB):=by
 show F.gw vn fun H vs Q E hr h =>?_;obtain⟨rfl,q⟩:=h;show{_,(ag (ao (qd K Qaz Qde Qdd yS ar (aa ar ae)))),?_};have LQ:Qb9 (Wp "set add take tell ask jump zero stop farjump farzero skip") (Wp " ")=aB:=∅;show{rfl,_,_,rfl,rfl,∅,∅,by rw[LQ];decide,fun p H7 n7 =>?_};rw[LQ] at n7;show q p H7 n7
def vT:aD [] [] (ai (top kj)):=fO
def G0 (F:eC K "_law_sizes" "_law_sizes" (top kj) f fd)(T:Nm mg):aU P w K mg base dX 1 f fd [] (rA aH):=by
 show F.gw vT fun H vs Q E hr h =>?_;obtain⟨rfl,q⟩:=h;show{_,(ag (ao (qd K Qaz Qde Qdd yS ar (aa ar ae)))),?_};have LQ:Qb9 (Wp "none one two three four five six seven eight") (Wp " ")=aH:=∅;show{rfl,_,_,rfl,rfl,∅,∅,by rw[LQ];decide,fun p H7 n7 =>?_};rw[LQ] at n7;show q p H7 n7
structure Mx (K:Ja)(G:Hp)(zs:List (Qad×V)):Prop where
 xv:zs.length<=64
 d:∀z∈zs,Den K G z.1 z.2
 sh:∀z∈zs,Sh 2 z.1
def fG {α:Type}:∀{l:List α} {k:Nat} {z: α},l[k]? = some z->(z::l.eraseIdx k).Perm l
 | [],_,_,h=>by cases h
 | x::l,0,z,h=>by
  cases h;show U9.refl _
 | x::l,k+1,z,h=>by
  show(U9.swap x z _).trans ((fG (k:=k) h).cons x)
def EB (K:Ja):Sp:=fun vs H Q _=>Fz fun b c p t G zs=>vs=[.ref b,.ref p]/\Bx H b c t/\0<=t/\t<50000000/\aq G (gN H b c)/\(aW K H p (zs.map (·.2))\/aV K H p (zs.map (·.2)))/\Mx K G zs /\
 ∀l (Dd:List (Qad×V)) (H':Hp) (t':Int),Dd.Perm zs->H l=none->H' l=some (.lst (Dd.map (·.2)))->Step b c H H' t t' 64->Q (.ref l) H'
def jt:aD ["_law_state", "_law_some", "_law_rest", "_law_found"] ["_law_state", "_law_some"] (ai (top kH)):=fO
def E4 (F:eC K "_law_mixed" "_law_mixed" (top kH) f fd)(T:Nm mg)(aG:Fn P w K mg base 1 "_law_take" ["_law_state", "_law_many"] yh):aU P w K mg base dX 2 f fd ["_law_state", "_law_some"] (EB K):=by
 show F.gw jt fun H vs Q E hr h =>?_;obtain⟨b,c,p,t,G,zs,rfl,bx,t0,t1,hG,hs,M,q⟩:=h;show⟨_,(af (cz (i:=2) jt.nd (aQ (B0 K) rfl T.n_list (by rfl) (aa (pv 1) ae)))
  (af (cz (i:=3) jt.nd (gq ae))
  (af (kz Qay (aw (Cq K hr.units) (pv 2) (gq ae) (aA _)) (ag (iG (qd K Qaw Qa8 Qa7 lq (pv 3) (aa (qd K Qaw PySem.F.slot_list_pop PySem.F.type_list_pop Oq (pv 2) (aa (bP aG hr (aa (pv 0) (aa (aj (dN K) rfl T.n_len (by rfl) (aa (pv 2) ae)) ae))) ae)) ae)))))
  (ag (ao (pv 3)))))),?_⟩
 show{_,rfl,p,_,rfl,hs,fun p1 H1 n1=>gn {HU,fun p2 H2 n2=>gn ?_}};have EG:=n1.nn;have zW:=n1.back n2.nn;have XI:p2≠p1:=fun z=>by have:=n2.nn;rw[z,n1.at] at this;cases this
 obtain⟨b1,c1⟩:=bx.aM EG;obtain⟨b2,c2⟩:=bx.aM zW;have zl:=M.xv;show cS (t:=lX _ _) (fun σ H'=>∃(fs:List (Qad×V)) (t':Int),σ=[some (.ref b),some (.ref p),some (.ref p1),some (.ref p2)]/\fs.Perm zs/\Step b c H H' t t' 64/\H' p2=some (.lst (fs.map (·.2)))) (fun Nx nx =>?_) ?_
 ·show nz (fun m σ H'=>∃(rs fs:List (Qad×V)) (t':Int),m=rs.length /\ σ=[some (.ref b),some (.ref p),some (.ref p1),some (.ref p2)]/\(rs++fs).Perm zs/\Step b c H H' t t' (64-rs.length)/\H' p1=some (.lst (rs.map (·.2)))/\H' p2=some (.lst (fs.map (·.2)))) {_,zs,[],t,rfl,rfl,by rw[Us],(Step.same bx (n1.same.trans n2.same)).more ⋯,n2.same _ _ n1.at,n2.at} ?_;rintro m σ H3 ⟨rs,fs,t3,rfl,rfl,pm,eF,hr3,hf3⟩;have Sd:=eF.ub;have R7:=eF.le;have rl:=pm.length_eq;rw[Jn] at rl;have G3:aq G H3:=fun a o e=>(md (eF.sm _ _ (hG _ _ e))).1;have mem:∀z∈rs,z∈zs:=fun z hz=>pm.mem_iff.mp (Uv _ hz);show{_,rfl,HU,fun pe H4 n4 =>.inr {.list (rs.map (·.1)),.list [],Den.list (aW.of (n4.same _ _ hr3)) (a8.of_get (by rw[Jc,Jc]) fun j d v hd hv =>?_),Den.list (aW.of n4.at) (Den.strs []),(Sh.list (n:=2) fun d hd =>?_).shaped ∅,∅,_,rfl,?_}}
  ·rw[Jk] at hd hv;cases e:rs[j]? with
   | none=>rw[e] at hd;cases hd
   | some z=>
    rw[e] at hd hv;cases hd;cases hv;show(M.d z (mem z (J0 e))).same (G3.trans n4.same)
  ·obtain⟨z,hz,rfl⟩:=Ul.mp hd;show M.sh z (mem z hz)
  rw[Bu];have gG:=eF.cL n4;have VU:=n4.same _ _ hr3;have UP:=n4.same _ _ hf3;cases rs with
  | nil=>show bf (nx _ _ ⟨fs,t3,rfl,pm,gG.more (by simp),UP⟩)
  | cons r0 rs0=>
   generalize hrs:r0::rs0=rs at *;have pos:1<=rs.length:=by rw[<-hrs];show Wd (Ue _)
   have em:(rs.map (·.1)).isEmpty=false:=by rw[<-hrs];rfl
   rw[em];show br {fun σ' H'=>∃m',m'<rs.length/\_,fun _ _ h=>h,?_};have small:∀{n:Nat},n<=10000->n<W1:=fun h=>Jy h ∅;have vl:(rs.map (·.2)).length=rs.length:=Jc _;show{_,rfl,.inl {rfl,_,aW.of UP},_,rfl,.inl {rfl,_,aW.of VU},_,rfl,_,rfl,_,_,rfl,.inl {_,aW.of VU,rfl},b,c,t3,_,rfl,gG.bx,⋯,⋯,⋯,⋯,fun a H5 a0 a1 cB =>?_};have hr5:=cB.old VU b1 c1;have YS:=cB.old UP b2 c2;obtain⟨z,hz⟩:∃z,rs[a.toNat]? = some z:=⟨_,Jd ⋯⟩
   show{p1,_,a,z.2,rfl,rfl,hr5,a0,⋯,by rw[Jk,hz];rfl,fun H6 c6 =>?_};show{p2,_,_,rfl,rfl,(by rw[c6.ne XI];show YS),small (by rw[Jc];lia),fun H7 c7 =>?_};have le:(rs.eraseIdx a.toNat).length=rs.length-1:=List.length_eraseIdx_of_lt ⋯;show{(rs.eraseIdx a.toNat).length,⋯,rs.eraseIdx a.toNat,fs++[z],t3+1,rfl,rfl,?_,(((gG.trans cB).GD c6 EG b1 c1).GD c7 zW b2 c2).more ⋯,?_,?_}
   ·show U9.trans ?_ pm;show U9.trans ?_ ((fG hz).append_right fs);rw[<-Ux];show List.perm_append_singleton z _
   ·rw[c7.ne XI.symm,c6.at]
    congr 2
    rw[Yx,Yx,Jx,QfQ,QfR]
   ·rw[c7.at,Jx];rfl
 rintro σ H3 ⟨fs,t3,rfl,pm,eF,hf3⟩;show{_,rfl,q p2 fs H3 t3 pm zW hf3 eF}
def NH (most:Nat)(cs:List Str):Nat:=(cs.map fun x=>2^(most-x.length)).sum
structure Cs (most:Nat)(cs:List Str):Prop where
 free:gB cs
 bin:∀x∈cs,eA x
 le:∀x∈cs,x.length<=most
 full:NH most cs=2^most
def JT (h:cs.Perm ds):NH most cs=NH most ds:=(h.map _).sum_nat
def Cs.one:Cs most [Qau]:=⟨Qb7 _ _,fun x hx=>by rw[Jt.mp hx];show fun c hc=>by simp[Qau] at hc,fun x hx=>by rw[Jt.mp hx];show Ue _,by unfold NH;rw[J2,Qds,Yc,List.sum_nil];change 2^(most-0)+0=2^most;rw[Nat.sub_zero,Nat.add_zero]⟩
def wz:∀{cs:List Str},(∀x∈cs,most<=x.length)->NH most cs=cs.length
 | [],_=>rfl
 | x::cs,h=>by
  have ih:=wz fun y hy=>h y (Jh _ hy);unfold NH at ih ⊢;rw[J2,Yc,ih,show most-x.length=0 from Nat.sub_eq_zero_of_le (h x Jj),Jo];lia
def Cs.short (h:Cs most cs)(hl:cs.length<2^most):∃x∈cs,x.length<most:=by
 apply QeK;intro n;have:=wz fun x hx=>Nat.le_of_not_lt fun z=>n ⟨x,hx,z⟩;rw[h.full] at this;lia
def qL (y z:Str):(y++z).length=y.length+z.length:=by
 change(y.cps++z.cps).size=_;rw[Array.size_append];rfl
def Cs.part (h:Cs most cs)(hy:y∈cs)(hl:y.length<most):Cs most (cs.erase y++[y++s0,y++s1]):=by
 have pm:=QgA hy;have l0:(y++s0).length=y.length+1:=qL _ _;have l1:(y++s1).length=y.length+1:=qL _ _;have sub:∀x∈cs.erase y,x∈cs:=fun x hx=>List.mem_of_mem_erase hx;show{?_,fun x hx =>?_,fun x hx =>?_,?_}
 ·have:=gB.split (A:=[]) (h.free.perm pm);show this.perm List.perm_append_comm
 ·rcases Ub.mp hx with hx|hx
  ·show h.bin x (sub x hx)
  ·have hb:=h.bin y hy;simp only[Jq,Uo,or_false] at hx
   rcases hx with rfl|rfl
   ·intro c hc;rw[show(y++s0).cps.toList=y.cps.toList++[48] from aK y s0] at hc
    rcases Ub.mp hc with hc|hc
    ·show hb c hc
    ·show .inl (Jt.mp hc)
   ·intro c hc;rw[show(y++s1).cps.toList=y.cps.toList++[49] from aK y s1] at hc
    rcases Ub.mp hc with hc|hc
    ·show hb c hc
    ·show .inr (Jt.mp hc)
 ·rcases Ub.mp hx with hx|hx
  ·show h.le x (sub x hx)
  ·simp only[Jq,Uo,or_false] at hx
   rcases hx with rfl|rfl<;>lia
 ·have e:=h.full;rw[JT pm] at e;unfold NH at e ⊢;rw[J2,Yc] at e;rw[Jx,List.sum_append,J2,J2,Qds,Yc,Yc,List.sum_nil,l0,l1];have:2^(most-y.length)=2^(most-(y.length+1))+2^(most-(y.length+1)):=by
   rw[show most-y.length=(most-(y.length+1))+1 by lia,Qch];lia
  lia
def gB.longer (h:gB fs)(hl:gs.length=fs.length)(he:∀(j:Nat) y,gs[j]? = some y->∃x u,fs[j]? = some x/\y=x++u):gB gs:=by
 show Ut.mpr fun i j hi hj wN =>?_;obtain⟨x,u,hx,ex⟩:=he i gs[i] (Jd hi);obtain⟨y,v,hy,ey⟩:=he j gs[j] (Jd hj);obtain⟨yI,rfl⟩:=Jl.mp hx;obtain⟨N7,rfl⟩:=Jl.mp hy;rw[ex,ey];show((Ut.mp h) i j yI N7 wN).ext
def pZ:eA (Wp ""):=fun c hc=>by
 cases hc
def LU:Sp:=fun vs H Q _=>uN fun b c t many most=>vs=[.ref b,.int (many:Nat),.int (most:Nat)]/\Bx H b c t/\0<=t/\t<40000000/\2<=many/\many<=20/\many<=2^most/\most<=12 /\
 ∀l cs H' t',cs.length=many->gB cs->(∀x∈cs,eA x/\x.length<=most+2)->H l=none->H' l=some (.lst (cs.map V.str))->Step b c H H' t t' 200->Q (.ref l) H'
def eg:aD ["_law_state", "_law_many", "_law_most", "_law_found", "_law_short", "_law_code"] ["_law_state", "_law_many", "_law_most"] (ai (top ko)):=fO
def L4 (F:eC K "_law_codes" "_law_codes" (top ko) f fd)(T:Nm mg)(aG:Fn P w K mg base 1 "_law_take" ["_law_state", "_law_many"] yh)(fW:Fn P w K mg base 2 "_law_mixed" ["_law_state", "_law_some"] (EB K)):aU P w K mg base dX 3 f fd ["_law_state", "_law_many", "_law_most"] LU:=by
 show F.gw eg fun H vs Q E hr h =>?_;obtain⟨b,c,t,many,most,rfl,bx,t0,t1,m2,m20,mm,m12,q⟩:=h;have fB:=hr.units;show⟨_,(af (cz (i:=3) eg.nd (gq (aa ar ae)))
  (af (kz Qay (aw qu (aj (dN K) rfl T.n_len (by rfl) (aa (pv 3) ae)) (pv 1) (aA _)) (af (jE (i:=4) eg.nd rfl (Qd0 rfl) rfl (b9 (Nc:=["_law_code"]) (js:=[2])) (FQ K (pv 3)) (bC ∅) (fun _ _ _ _ _=>(eX (i:=0) (pK ["_law_code", "_law_most"]))) (fun _ _ _ _ _=>(AM (aw qu (aj (dN K) rfl T.n_len (by rfl) (aa (pv 0) ae)) (pv 1) (aA _)))) (fun _ _ _ _ _=>(pv 0)))
  (af (cz (i:=5) eg.nd (aR (eW K) (pv 4) (bP aG hr (aa (pv 0) (aa (aj (dN K) rfl T.n_len (by rfl) (aa (pv 4) ae)) ae))) (fun _ _=>rfl)))
  (af (iG (qd K Qaw PySem.F.slot_list_remove PySem.F.type_list_remove K1 (pv 3) (aa (pv 5) ae)))
  (ag (cz (i:=3) eg.nd (au bh (pv 3) (gq (aa (au bh (pv 5) ar) (aa (au bh (pv 5) ar) ae))))))))))
  (af (aN (aw (ka K fB) (bP aG hr (aa (pv 0) (aa ah ae))) ah (aA _)) (ag (jE (i:=3) eg.nd rfl (Qd0 rfl) rfl (b9 (Nc:=["_law_code"]) (js:=[0])) (FQ K (pv 3)) (bC ∅) (fun _ _ _ _ _=>(eX (i:=0) (pK ["_law_code", "_law_state"]))) (fun _ _ _ _ _=>cE) (fun _ _ _ _ _=>(au bh (pv 0) (aR (eW K) (gq (aa ar (aa ar (aa ar (aa ar (aa ar ae)))))) (bP aG hr (aa (pv 1) (aa ah ae))) (fun _ _=>rfl)))))) ay)
  (ag (ao (bP fW hr (aa (pv 0) (aa (pv 3) ae)))))))),?_⟩
 show{HW,fun l0 H1 n1=>gn ?_};have small:∀{n:Nat},n<=10000->n<W1:=fun h=>Jy h ∅;show cS (t:=lX _ _) (fun σ H'=>∃(cs:List Str) (l:KE) (t':Int) (x4 x5:Option V),σ=[some (.ref b),some (.int (many:Nat)),some (.int (most:Nat)),some (.ref l),x4,x5]/\cs.length=many/\Cs most cs/\H l=none/\H' l=some (.lst (cs.map V.str))/\Step b c H H' t t' 20) (fun Nx nx =>?_) ?_
 ·show nz (fun m σ H'=>∃(cs:List Str) (l:KE) (t':Int) (x4 x5:Option V),m=many-cs.length /\ σ=[some (.ref b),some (.int (many:Nat)),some (.int (most:Nat)),some (.ref l),x4,x5]/\cs.length<=many/\Cs most cs/\H l=none/\H' l=some (.lst (cs.map V.str))/\Step b c H H' t t' cs.length) {_,[Qau],l0,t,_,_,rfl,rfl,by change 1<=many;lia,Cs.one,n1.nn,n1.at,(Step.same bx n1.same).more ∅} ?_;rintro m σ H3 ⟨cs,l,t3,x4,x5,rfl,rfl,cm,C,hl,mQ,eF⟩;have Sd:=eF.ub;have R7:=eF.le;have vl:(cs.map V.str).length=cs.length:=Jc _;obtain⟨lb,lc⟩:=bx.aM hl;show{_,rfl,_,_,rfl,.inl {_,aW.of mQ,rfl},_,rfl,_,_,rfl,rfl,_,rfl,?_};show eU (fun c1 =>?_) (fun c1 =>?_)
  ·have c1:cs.length<many:=by have:=of_decide_eq_true c1;lia
   show{fun σ' H'=>∃m',m'<many-cs.length/\_,fun _ _ h=>h,?_};show{_,rfl,l,rfl,{_,aW.of mQ},?_};show eh (N:=cs.length) (fun i ys H'=>H'=H3/\ys=((cs.take i).filter fun x=>decide (x.length<most)).map V.str) ⟨rfl,rfl⟩ ?_ ?_
   ·rintro i ys H' Ny hi ⟨rfl,rfl⟩ ny;have hx:(cs.map V.str)[i]? = some (.str cs[i]):=by rw[Jk,Jd hi];rfl
    have xl:=C.le cs[i] (Uc hi);have fl:((cs.take i).filter fun x=>decide (x.length<most)).length<=20:=Jf (QdF _ _) (by rw[J3];lia);show{{_,_,aW.of mQ,hx},small (by rw[Jc];lia),?_};rintro x' H4 ⟨rfl,hy⟩;have e:=hy _ (aW.of mQ);rw[hx] at e;cases e;show gn ?_;show{_,rfl,_,_,rfl,{Yd (small ⋯),rfl},_,rfl,_,_,rfl,rfl,_,rfl,?_};have TZ:∀ys',ys'=((cs.take (i+1)).filter fun x=>decide (x.length<most)).map V.str->Ny ys' H4:=fun ys' e=>ny _ _ ⟨rfl,e⟩;rw[Yv hi,List.filter_append,Jx] at TZ;show eU (fun c2 =>?_) (fun c2 =>?_)
    ·have c2:cs[i].length<most:=by have:=of_decide_eq_true c2;lia
     show{_,rfl,TZ _ ?_};rw[List.filter_cons_of_pos (by show decide_eq_true c2)]
     rfl
    ·have c2:¬cs[i].length<most:=fun z=>c2 (decide_eq_true ⋯);show TZ _ ?_;rw[List.filter_cons_of_neg (by rw[decide_eq_false c2];decide)];show(Us _).symm
   rintro ys H4 ⟨rfl,rfl⟩;show{{_,aW.of mQ,by rw[vl];show Je _},?_};rw[U5];obtain⟨y0,hy0,ly0⟩:=C.short ⋯;have So:∀y∈cs.filter fun x=>decide (x.length<most),y∈cs/\y.length<most:=fun y hy=>by
    obtain⟨z1,z2⟩:=List.mem_filter.mp hy;show{z1,of_decide_eq_true z2}
   have pos:1<=(cs.filter fun x=>decide (x.length<most)).length:=Qf3 (List.mem_filter.mpr ⟨hy0,decide_eq_true ly0⟩);have fl:(cs.filter fun x=>decide (x.length<most)).length<=20:=Jf (QdF _ _) ⋯;generalize (cs.filter fun x=>decide (x.length<most))=sh at So pos fl;have vs:(sh.map V.str).length=sh.length:=Jc _;show fun ls hls=>gn ?_;have n4:jI H4 ls (.lst (sh.map V.str)) (upd H4 ls (.lst (sh.map V.str))):=⟨hls,rfl⟩
   generalize upd H4 ls (.lst (sh.map V.str))=H5 at n4;have yG:=n4.same _ _ mQ;have cB:=eF.cL n4;obtain⟨sb,sc⟩:=eF.bx.aM n4.nn;show{_,rfl,_,rfl,_,rfl,_,_,rfl,.inl {_,aW.of n4.at,rfl},b,c,t3,_,rfl,cB.bx,⋯,⋯,⋯,⋯,fun a H6 a0 a1 iZ =>?_};have YZ:=iZ.old n4.at sb sc;have V6:=iZ.old yG lb lc;have iZ:=cB.trans iZ;obtain⟨y,hy⟩:∃y,sh[a.toNat]? = some y:=⟨_,Jd ⋯⟩
   obtain⟨yc,yl⟩:=So y (J0 hy);show .inl {ls,_,a,.str y,rfl,rfl,aW.of YZ,iV a0 (by rw[Jk,hy];rfl),gn ?_};show{_,rfl,.inl {rfl,_,aW.of V6},_,rfl,l,cs,y,rfl,rfl,V6,yc,fun H7 c7 =>?_};have eO:=iZ.GD c7 hl lb lc;have el:=QfS yc;have dR:=Qf3 yc;have k0:(Wp "0").length=1:=rfl;have k1:(Wp "1").length=1:=rfl;show{_,rfl,_,rfl,.inr (.inl {_,_,rfl,rfl,Yd (small (by rw[k0];lia)),_,rfl,.inr (.inl {_,_,rfl,rfl,Yd (small (by rw[k1];lia)),eV,fun lp H8 n8 =>.inr (.inr {l,lp,_,_,rfl,rfl,n8.same _ _ c7.at,n8.at,Yd (small (by simp only[Jc,Jo,Yo];lia)),fun l' H9 n9=>gn ?_})})})};have lh:=(eO.cL n8).cL n9;have cl:(cs.erase y++[y++s0,y++s1]).length=cs.length+1:=by rw[Jn,el];change cs.length-1+2=_;lia
   show{many-(cs.length+1),⋯,cs.erase y++[y++s0,y++s1],l',t3+1,_,_,by rw[cl],rfl,⋯,C.part yc yl,(eO.cL n8).fresh bx n9.nn,by rw[n9.at,Jx];rfl,lh.more ⋯}
  ·have c1:¬(cs.length<many):=fun z=>(Ye.mp (Ye.mpr c1)) (decide_eq_true ⋯);show nx _ _ {cs,l,t3,x4,x5,rfl,⋯,C,hl,mQ,eF.more ⋯}
 rintro σ H3 ⟨cs,l,t3,x4,x5,rfl,cm,C,hl,mQ,eF⟩;have Sd:=eF.ub;have R7:=eF.le;obtain⟨lb,lc⟩:=bx.aM hl;have vl:(cs.map V.str).length=cs.length:=Jc _;show cS (fun σ H'=>∃(ds:List Str) (l:KE) (t':Int) (x4 x5:Option V),σ=[some (.ref b),some (.int (many:Nat)),some (.int (most:Nat)),some (.ref l),x4,x5]/\ds.length=many/\gB ds/\(∀x∈ds,eA x/\x.length<=most+2)/\H l=none/\H' l=some (.lst (ds.map V.str))/\Step b c H H' t t' 50) (fun Nx nx =>?_) ?_
 ·show{_,rfl,b,c,t3,2,rfl,eF.bx,⋯,⋯,⋯,⋯,fun a H4 a0 a1 gG =>?_};have HQ:=gG.old mQ lb lc;have gG:=eF.trans gG;show .inl {rfl,_,rfl,eU (fun _ =>?_) (fun _ =>?_)}
  ·show{_,rfl,l,rfl,{_,aW.of HQ},?_};show eh (N:=cs.length) (fun i ys H'=>∃(gs:List Str) (t':Int),ys=gs.map V.str/\gs.length=i/\(∀(j:Nat) y,gs[j]? = some y->∃x u,cs[j]? = some x/\y=x++u/\eA u/\u.length<=2)/\Step b c H H' t t' (21+i)/\H' l=some (.lst (cs.map V.str))) {[],t3+1,rfl,rfl,(fun j y e=>nomatch e),gG.more ⋯,HQ} ?_ ?_
   ·rintro i ys H5 Ny hi ⟨gs,t5,rfl,gl,gg,cB,yG⟩ ny;have ub5:=cB.ub;have Zw:=cB.le;have hx:(cs.map V.str)[i]? = some (.str cs[i]):=by rw[Jk,Jd hi];rfl
    show{{_,_,aW.of yG,hx},small (by rw[Jc];lia),?_};rintro x' H6 ⟨rfl,hy⟩;have e:=hy _ (aW.of yG);rw[hx] at e;cases e;have xl:=C.le cs[i] (Uc hi);show gn ?_;show{_,rfl,Vr,fun lp H7 n7=>{_,rfl,b,c,t5,5,rfl,cB.bx.same n7.same,⋯,⋯,⋯,⋯,fun r H8 r0 r1 iy =>?_}};obtain⟨pb,pc⟩:=cB.bx.aM n7.nn;have T8:=iy.old n7.at pb pc;have X1:=iy.old (n7.same _ _ yG) lb lc;have iy:=(cB.cL n7).trans iy;obtain⟨u,hu,bu,lu⟩:∃u:Str,([V.str "",V.str "",V.str "0",V.str "1",V.str "01"]:List V)[r.toNat]? = some (.str u)/\eA u/\u.length<=2:=by
     have:r=0\/r=1\/r=2\/r=3\/r=4:=by lia
     rcases this with rfl|rfl|rfl|rfl|rfl
     ·show⟨"",rfl,pZ,∅⟩
     ·show⟨"",rfl,pZ,∅⟩
     ·show⟨"0",rfl,(by unfold eA;decide +kernel),∅⟩
     ·show⟨"1",rfl,(by unfold eA;decide +kernel),∅⟩
     ·show⟨"01",rfl,(by unfold eA;decide +kernel),∅⟩
    show .inl {lp,_,r,.str u,rfl,rfl,aW.of T8,iV r0 hu,.inr (.inl {_,_,rfl,rfl,Yd (small ⋯),ny _ _ {gs++[cs[i]++u],t5+1,by rw[Jx];rfl,by rw[Jn,gl];rfl,fun j y hj =>?_,iy.more ⋯,X1}})}
    by_cases hji:j<gs.length
    ·rw[Uy hji] at hj;show gg j y hj
    ·rw[Uw ⋯] at hj;have:j-gs.length=0:=by have:=(Jl.mp hj).1;simp at this;lia
     rw[this] at hj;cases hj;show{cs[i],u,by rw[show j=i by lia];show Jd hi,rfl,bu,lu}
   ·rintro ys H5 ⟨gs,t5,rfl,gl,gg,cB,yG⟩;show{{_,aW.of yG,by rw[vl];show Je _},fun p6 hp6=>gn ?_};have n6:jI H5 p6 (.lst (gs.map V.str)) (upd H5 p6 (.lst (gs.map V.str))):=⟨hp6,rfl⟩
    generalize upd H5 p6 (.lst (gs.map V.str))=H6 at n6;show nx _ _ {gs,p6,t5,x4,x5,rfl,⋯,?_,fun x hx =>?_,cB.fresh bx n6.nn,n6.at,(cB.cL n6).more ⋯}
    ·show C.free.longer ⋯ fun j y hj=>by
      obtain⟨x,u,h1,h2,_⟩:=gg j y hj;show⟨x,u,h1,h2⟩
    ·obtain⟨j,hj,rfl⟩:=List.getElem_of_mem hx;obtain⟨x,u,h1,h2,h3,h4⟩:=gg j _ (Jd hj);have xm:=J0 h1;have xl:=C.le x xm;rw[h2];show{fun ch hc =>?_,by rw[qL];lia};rw[show(x++u).cps.toList=x.cps.toList++u.cps.toList from aK x u] at hc
     rcases Ub.mp hc with hc|hc
     ·show C.bin x xm ch hc
     ·show h3 ch hc
  ·show nx _ _ {cs,l,t3+1,x4,x5,rfl,cm,C.free,fun x hx=>{C.bin x hx,by have:=C.le x hx;lia},hl,HQ,gG.more ⋯}
 rintro σ H4 ⟨ds,l,t4,x4,x5,rfl,dm,fr,ok,hl,HQ,gG⟩;have Vn:=gG.ub;have Tv:=gG.le;obtain⟨lb,lc⟩:=bx.aM hl;have em:(ds.map fun x=>(QbO x,V.str x)).map (·.2)=ds.map V.str:=by rw[Yh];rfl
 show{_,rfl,_,rfl,b,c,l,t4,gN H4 b c,ds.map fun x=>(QbO x,V.str x),rfl,gG.bx,⋯,⋯,aq.refl _,.inl (aW.of (by rw[em];show HQ)),{by rw[Jc];lia,fun z hz =>?_,fun z hz =>?_},fun l5 zs H5 t5 pm hn h5 cB =>?_}
 ·obtain⟨x,_,rfl⟩:=Ul.mp hz
  rfl
 ·obtain⟨x,hx,rfl⟩:=Ul.mp hz;show Sh.str (fj fun ch hc=>by rcases(ok x hx).1 ch hc with rfl|rfl<;>decide)
 ·have ez:∃es:List Str,zs=es.map (fun x=>(QbO x,V.str x))/\es.Perm ds:=by
   show{zs.map fun z=>match z.1 with | .str x=>x|_=>Qau,?_,?_}
   ·rw[Yh];show(QdR zs).symm.trans (Y7 fun z hz =>?_);obtain⟨x,_,rfl⟩:=Ul.mp (pm.mem_iff.mp hz)
    rfl
   ·have:=pm.map fun z:Qad×V=>match z.1 with | .str x=>x|_=>Qau
    rw[Yh] at this;show this.trans ?_;rw[show(ds.map ((fun z:Qad×V=>match z.1 with | .str x=>x|_=>Qau)∘fun x=>(QbO x,V.str x)))=ds from(Y7 fun x _=>rfl).trans (QdR ds)]
  obtain⟨es,rfl,pe⟩:=ez;show q l5 es H5 t5 (by rw[pe.length_eq,dm]) (fr.perm pe.symm) (fun x hx=>ok x (pe.mem_iff.mp hx)) (gG.fresh bx hn) ?_ ((gG.trans cB).more ⋯);rw[h5,Yh]
  rfl
abbrev iA (q:Str×Str):Qad := .tuple [.str q.1,.str q.2]
def nQ:∀{ns cs:List Str} {k:Nat} {x c:Str},ns.Nodup->ns[k]? = some x->cs[k]? = some c->a9 (ns.zip cs) x=c
 | [],_,_,_,_,_,h,_=>nomatch h
 | _::_,[],_,_,_,_,_,h=>nomatch h
 | n::ns,c0::cs,0,x,c,_,h1,h2=>by
  cases h1;cases h2;show if_pos rfl
 | n::ns,c0::cs,k+1,x,c,nd,h1,h2=>by
  obtain⟨n1,n2⟩:=U8.mp nd;change(if n=x then c0 else a9 (ns.zip cs) x)=c;rw[if_neg (fun z=>n1 (by rw[z];show(J0 (show ns[k]? = some x from h1))))];show nQ n2 h1 h2
def Be:∀{ns cs:List Str} {k:Nat} {x y:Str},ns.Nodup->ns.length=cs.length->ns[k]? = some x->(iE (ns.zip cs)).map (fun kv=>if kv.1=Qbb x then (kv.1,V.str y) else kv)=iE (ns.zip (cs.set k y))
 | [],_,_,_,_,_,_,h=>nomatch h
 | _::_,[],_,_,_,_,h,_=>nomatch h
 | n::ns,c::cs,0,x,y,nd,hl,h=>by
  cases h;obtain⟨n1,n2⟩:=U8.mp nd;change(if (Qbb n:Key)=Qbb n then ((Qbb n:Key),V.str y) else _)::(iE (ns.zip cs)).map _=(Qbb n,V.str y)::iE (ns.zip cs);rw[if_pos rfl]
  congr 1
  conv=>rhs;rw[<-QdR (iE (ns.zip cs))]
  show Y7 fun kv hkv=>if_neg fun z=>n1 ?_;obtain⟨q,hq,rfl⟩:=Ul.mp hkv;have z:=QcM z;rw[<-z];show(Qb3 hq).1
 | n::ns,c::cs,k+1,x,y,nd,hl,h=>by
  obtain⟨n1,n2⟩:=U8.mp nd;change(if (Qbb n:Key)=Qbb x then _ else ((Qbb n:Key),V.str c))::(iE (ns.zip cs)).map _=(Qbb n,V.str c)::iE (ns.zip (cs.set k y));rw[if_neg (fun z=>n1 (by rw[QcM z];show(J0 (show ns[k]? = some x from h)))),Be n2 (by simpa using hl) h]
def gT {ns cs:List Str}(hl:ns.length=cs.length):(ns.zip cs).map (·.1)=ns:=List.map_fst_zip ⋯
def C5 {ns cs:List Str}(hl:ns.length=cs.length):(ns.zip cs).map (·.2)=cs:=List.map_snd_zip ⋯
def KS {ns cs:List Str}{k:Nat}{x y:Str}(nd:ns.Nodup)(hl:ns.length=cs.length)(h:ns[k]? = some x):putK (iE (ns.zip cs)) (.inr x) (.str y)=iE (ns.zip (cs.set k y)):=by
 unfold putK;rw[nE,jC (by rw[gT hl];show J0 h),if_pos (Qgz)];show Be nd hl h
def swap_perm {cs:List Str}{i j:Nat}{a b:Str}(hi:cs[i]? = some a)(hj:cs[j]? = some b):((cs.set i b).set j a).Perm cs:=by grind
def i9 (bk:List (Str×Str)):dh (aO bk)=bk:=by
 change(bk.map iA).map _=bk;rw[Yh];show(Y7 fun q _=>rfl).trans (QdR bk)
def JN (hb:eA y)(hl:1<=y.length):cV (.str y)=true:=by
 change(!decide (V.str y=V.str (Wp ""))&&gm y dB)=true;rw[qa,decide_eq_false ⋯,jL,Bool.not_false,Yb,U2];intro c hc
 rcases hb c hc with rfl|rfl<;>decide +kernel
def HG (N:PZ ns)(pm:(bk.map (·.1)).Perm ns)(hc:∀q∈bk,cV (.str q.2)=true)(fr:gB (bk.map (·.2))):dv ns (aO bk)=true:=by
 have e:=L1 (d:=aO bk) rfl (fun x hx=>by
  obtain⟨q,hq,rfl⟩:=Ul.mp hx;show hc q hq) N.nn N.nd N.ok
 rw[e,show dh (.list (bk.map iA))=bk from i9 bk,decide_eq_true pm,Yb];show @decide_eq_true _ (Qby _) fr
end
def BS:∀{bk:List (Str×Str)},(∀q∈bk,lN q.1=true/\lN q.2=true/\q.1.length+q.2.length+3<=w)->Gs (w*bk.length) 1 (bk.map iA)
 | [],_=>Gs.nil.mono (Ue _) (Ue _)
 | q::bk,h=>by
  obtain⟨h1,h2,h3⟩:=h q Jj;show(Gs.cons ((Gs.cons (Gd.str h1 (Je _)) (Gs.one (Gd.str h2 (Je _)))).tuple) (BS fun x hx=>h x (Jh _ hx))).mono ?_ (Je _);rw[Jo,QdB];lia
def HN (h:iX d = .list ds):Me d=ds.length:=by
 cases d<;>first|(cases h;rfl)|(show nomatch h)
def Lc.of {w dp:Nat}(g:Gd w dp d)(hw:w<=150000)(hd:dp<=64)(hl:Me d<=60):Lc d:=by
 show{g.pz,Jf g.wt ⋯,g.shaped hd,fun ds e=>by rw[<-HN e];show hl,fun q hq =>?_};have wt:(iX d).weight<=150000:=by rw[y8];show Jf g.wt hw
 cases e:iX d with
 | list ds=>
  rw[e] at hq wt;obtain⟨x,hx,rfl⟩:=Ul.mp (show q∈ds.map _ from hq);have hx:=gR (by simpa only [QaA] using wt) hx
  split
  ·simp only[QaA,Qap] at hx;have:∀y:Str,y.cps.size=y.length:=fun _=>rfl;simp only[this] at hx;lia
  ·show Ue _
 | _=>rw[e] at hq;show nomatch hq
def HF {zs Dd:List (Qad×V)}(e:zs.map (·.1)=bk.map iA)(p:Dd.Perm zs):∃Bp:List (Str×Str),Bp.Perm bk/\Dd.map (·.1)=Bp.map iA:=by
 have pm:(Dd.map (·.1)).Perm (bk.map iA):=by rw[<-e];show p.map _
 show{dh (.list (Dd.map (·.1))),?_,?_}
 ·have:=i9 bk
  conv=>rhs;rw[<-this]
  show pm.map _
 ·have all:∀d∈Dd.map (·.1),∃q,d=iA q:=fun d hd=>by
   obtain⟨q,_,rfl⟩:=Ul.mp (pm.mem_iff.mp hd);show⟨q,rfl⟩
  generalize Dd.map (·.1)=ds at all
  induction ds with
  | nil=>rfl
  | cons d ds ih=>
   obtain⟨q,rfl⟩:=all d Jj;have:=ih fun d hd=>all d (Jh _ hd);change iA q::ds=iA q::(dh (.list ds)).map iA;rw[<-this]
def GV (h:gB cs)(hl:2<=cs.length):∀x∈cs,1<=x.length:=fun x hx=>by
 apply QeK;intro n;have x0:sg x=[]:=U1 (by have:x.length=(sg x).length:=str_len x;lia);obtain⟨i,hi,rfl⟩:=Yk.mp hx;have pw:=Ut.mp h
 by_cases i0:i=0
 ·subst i0;have:=(pw 0 1 ⋯ ⋯ ∅).1;rw[x0] at this;show this List.nil_prefix
 ·have:=(pw 0 i ⋯ hi ⋯).2;rw[x0] at this;show this List.nil_prefix
def JK (h:eA x):lN x=true:=KQ.mpr fun c hc=>by rcases h c hc with rfl|rfl<;>decide
def G2 {G:Hp}{bk:List (Str×Str)}{as:List KE}(hl:as.length=bk.length)(xv:bk.length<=64)(az:∀q∈bk,lN q.1=true/\lN q.2=true)(h:∀(j:Nat) a q,as[j]? = some a->bk[j]? = some q->G a=some (.tup [.str q.1,.str q.2])):
  ∃zs,zs.map (·.1)=bk.map iA/\zs.map (·.2)=as.map V.ref/\Mx K G zs:=by
 have l1:(bk.map iA).length=(as.map V.ref).length:=by rw[Jc,Jc,hl]
 show{(bk.map iA).zip (as.map V.ref),List.map_fst_zip ⋯,List.map_snd_zip ⋯,?_,?_,?_}
 ·rw[Yq,Jc];lia
 ·intro z hz;obtain⟨j,hj⟩:=J6.mp hz;have z1:=Yy.mp hj;rw[Jk,Jk] at z1;obtain⟨e1,e2⟩:=z1;cases h1:bk[j]? with
  | none=>rw[h1] at e1;cases e1
  | some q=>
   cases h2:as[j]? with
   | none=>rw[h2] at e2;cases e2
   | some a=>
    rw[h1] at e1;rw[h2] at e2;rw[<-Qan e1,<-Qan e2];show GJ (h j a q h2 h1) (bN Cg (bN Cg iC))
 ·intro z hz;have z1:=(Qb3 hz).1;obtain⟨q,hq,e⟩:=Ul.mp z1;rw[<-e];have h1:=az q hq;show(fun h=>{h.1,Jf h.2 ∅}:Sh 1 (iA q)->Sh 2 (iA q)) (Sh.tuple fun d hd =>?_)
  ·simp only[Jq,Uo,or_false] at hd
   rcases hd with rfl|rfl
   ·show Sh.str (fj fun ch hc=>by have:=AD h1.1 ch hc;lia)
   ·show Sh.str (fj fun ch hc=>by have:=AD h1.2 ch hc;lia)
def zu {zs Dd:List (Qad×V)}{l:KE}(e:zs.map (·.1)=bk.map iA)(M:Mx K G zs)(p:Dd.Perm zs)(s:aq G G')(hl:G' l=some (.lst (Dd.map (·.2)))):
  ∃Bp,Bp.Perm bk/\Den K G' (aO Bp) (.ref l):=by
 obtain⟨Bp,h1,h2⟩:=HF e p;show{Bp,h1,Den.list (aW.of hl) ?_};rw[<-h2];show a8.of_get (by rw[Jc,Jc]) fun j d v hd hv =>?_;rw[Jk] at hd hv;cases ez:Dd[j]? with
 | none=>rw[ez] at hd;cases hd
 | some z=>
  rw[ez] at hd hv;cases hd;cases hv;show(M.d z (p.mem_iff.mp (J0 ez))).same s
structure Good3 (sM we wg:List (Str×Str))(near eY:Int):Prop where
 why:nj (aO sM) (aO we) (aO wg) (.int near) (.int eY)=none
 n1:(sM.map (·.1)).Perm aB
 l1:sM.length=11
 l2:we.length=4
 l3:wg.length=9
 sz:∀q,q∈sM\/q∈we\/q∈wg->lN q.1=true/\lN q.2=true/\q.1.length<=8/\q.2.length<=11
 fr:near.natAbs<10/\eY.natAbs<20
def Lj (K:Ja):Sp:=fun vs H Q _=>pW fun b c t=>vs=[.ref b]/\Bx H b c t/\0<=t/\t<30000000 /\
 ∀l r1 r2 r3 sM we wg (near eY:Int) (H':Hp) (t':Int),Good3 sM we wg near eY->H l=none->H' l=some (.lst [r1,r2,r3,.int near,.int eY])->a8 K (gN H' b c) [aO sM,aO we,aO wg] [r1,r2,r3]->Step b c H H' t t' 1500->Q (.ref l) H'
def vI {ns cs:List Str}{most:Nat}(hn:∀x∈ns,lN x=true/\x.length<=8)(hm:most<=11)(hc:∀x∈cs,eA x/\x.length<=most):∀q∈ns.zip cs,lN q.1=true/\lN q.2=true/\q.1.length<=8/\q.2.length<=11:=fun q hq=>by
 obtain⟨h1,h2⟩:=Qb3 hq;show{(hn _ h1).1,JK (hc _ h2).1,(hn _ h1).2,Jf (hc _ h2).2 hm}
def nU:(∀x∈aB,lN x=true/\x.length<=8)/\(∀x∈bJ,lN x=true/\x.length<=8)/\∀x∈aH,lN x=true/\x.length<=8:=∅
def u5 (N:PZ ns)(hl:ns.length=cs.length)(h2:2<=cs.length)(hb:∀x∈cs,eA x)(fr:gB cs)(p:bk.Perm (ns.zip cs)):dv ns (aO bk)=true:=by
 have p1:=p.map (·.1);have p2:=p.map (·.2);rw[gT hl] at p1;rw[C5 hl] at p2;show HG N p1 (fun q hq =>?_) (fr.perm p2.symm);have NT:=p2.mem_iff.mp (Um hq);show JN (hb _ NT) (GV fr h2 _ NT)
def KC {bk Bp:List (Str×Str)}{x:Str}(p:Bp.Perm bk)(nd:(bk.map (·.1)).Nodup)(hx:x∈bk.map (·.1)):a9 Bp x=a9 bk x:=by
 have of:∀{bs:List (Str×Str)},(bs.map (·.1)).Nodup->∀y,(x,y)∈bs->a9 bs x=y:=fun{bs}=>by
  induction bs with
  | nil=>intro _ y h;show nomatch h
  | cons q r ih=>
   intro nd y h;rw[J2] at nd;obtain⟨n1,n2⟩:=U8.mp nd;unfold a9
   rcases Jq.mp h with e|h
   ·rw[<-e];show if_pos rfl
   ·rw[if_neg (fun z=>n1 (by rw[z];show Um h))];show ih n2 y h
 obtain⟨q,hq,rfl⟩:=Ul.mp hx;rw[of nd q.2 hq,of ((p.map (·.1)).nodup_iff.mpr nd) q.2 (p.mem_iff.mpr hq)]
def F9 {bk Bp:List (Str×Str)}{n f:Int}(p:Bp.Perm bk)(hn:bk.map (·.1)=aB):mq Bp n f=mq bk n f:=by
 have e:∀x∈aB,a9 Bp x=a9 bk x:=fun x hx=>KC p (by rw[hn];show da) (by rw[hn];show hx);unfold mq;simp only[Y8,List.any_nil,Qec];rw[e _ ∅,e _ ∅,e _ ∅,e _ ∅]
def E2 (h1:dv aB (aO sM)=true)(h2:dv bJ (aO we)=true)(h3:dv aH (aO wg)=true)(n2:2<=n)(n8:n<=8)(nf:n<f)(QM:f<=16)(hf:mq sM n f=false):nj (aO sM) (aO we) (aO wg) (.int n) (.int f)=none:=by
 unfold nj Hu;rw[h1,h2,h3,if_neg ∅,if_neg ∅,if_neg ∅,show xu (.int n)=true from by change(decide (2<=n)&&decide (n<=8))=true;rw[decide_eq_true n2,decide_eq_true n8];rfl,if_neg ∅];have:B6 (aO sM) (.int n) (.int f)=true:=by
  change(decide (n<f)&&(decide (f<=16) && !mq (dh (aO sM)) n f))=true;rw[i9,hf,decide_eq_true nf,decide_eq_true QM];rfl
 rw[this,if_neg ∅]
def xh {ns cs:List Str}{k:Nat}{x y:Str}(h:H dd=some (.dK (iE (ns.zip cs))))(nd:ns.Nodup)(hl:ns.length=cs.length)(hx:ns[k]? = some x)(sm:ns.length<1000):
  ∃H',Eu H dd (.dK (iE (ns.zip (cs.set k y)))) H'/\sY H dd (.str x) (.str y) H':=by
 show{_,⟨rfl⟩,?_};rw[<-KS nd hl hx];show sY.k (k := .inr x) h (Jy (show(iE (ns.zip cs)).length<=1000 by unfold iE;rw[Jc,Yq];lia) ∅)
def E3 {ns cs:List Str}{k:Nat}{x c:Str}(h:H dd=some (.dK (iE (ns.zip cs))))(nd:ns.Nodup)(hl:ns.length=cs.length)(hx:ns[k]? = some x)(hc:cs[k]? = some c):fz H dd (.str x) (some (.str c)):=by
 have e:gH (iE (ns.zip cs)) (.inr x)=some (.str c):=by rw[jC (by rw[gT hl];show J0 hx),nQ nd hx hc]
 rw[<-e];show fz.k (k := .inr x) h
def DY {ns:List Str}{cs:List Str}(nd:ns.Nodup)(hl:ns.length=cs.length):cN [] ((ns.map (Qbb:Str->Key)).zip (cs.map V.str))=iE (ns.zip cs):=by
 have e:(ns.map (Qbb:Str->Key)).zip (cs.map V.str)=iE (ns.zip cs):=by
  rw[List.zip_map]
  rfl
 rw[e,jd (by rw[gT hl];show nd)]
def Ii:∀(j:Nat) c,(Wp "abcd").cps[j]? = some c->bJ[j]? = some ⟨#[c]⟩:=by
 intro j c h
 match j,((U4.mp h).1) with
 | 0,_=>cases h;rfl
 | 1,_=>cases h;rfl
 | 2,_=>cases h;rfl
 | 3,_=>cases h;rfl
structure wZ (K:Ja)(b c:KE)(H:Hp)(p:KE)(bk:List (Str×Str))(as:List KE):Prop where
 at':H p=some (.lst (as.map V.ref))
 pb:p≠b
 pc:p≠c
 len:as.length=bk.length
 prs:∀(j:Nat) a q,as[j]? = some a->bk[j]? = some q->gN H b c a=some (.tup [.str q.1,.str q.2])
def wZ.step {H H':Hp}{t t' N:Int}{bk:List (Str×Str)}{as:List KE}(h:wZ K b c H p bk as)(s:Step b c H H' t t' N):wZ K b c H' p bk as:=
 ⟨s.old h.at' h.pb h.pc,h.pb,h.pc,h.len,fun j a q e1 e2=>s.sm _ _ (h.prs j a q e1 e2)⟩
section
variable {P:Qac}{w:Qag}{K:Ja}{mg:Str->Option Fk}{base:Heap}{f:KE}{fd:Qal}
def bT:aD ["_law_state", "_law_kinds_here", "_law_near", "_law_far", "_law_one", "_law_other", "_law_kept", "_law_spots", "_law_sizes_here"] ["_law_state"] (ai (top kg)):=fO
def Hm (F:eC K "_law_parts" "_law_parts" (top kg) f fd)(T:Nm mg)(cI:mg "dict" = none)(kJ:Fn P w K mg base 1 "_law_kinds" [] (rA aB))(fY:Fn P w K mg base 1 "_law_sizes" [] (rA aH))(aG:Fn P w K mg base 1 "_law_take" ["_law_state", "_law_many"] yh)(fW:Fn P w K mg base 2 "_law_mixed" ["_law_state", "_law_some"] (EB K))(kT:Fn P w K mg base 3 "_law_codes" ["_law_state", "_law_many", "_law_most"] LU):aU P w K mg base dX 4 f fd ["_law_state"] (Lj K):=by
 show F.gw bT fun H vs Q E hr h =>?_;obtain⟨b,c,t,rfl,bx,t0,t1,q⟩:=h;have fB:=hr.units;have hu:=lP hr;have small:∀{n:Nat},n<=10000->n<W1:=fun h=>Jy h ∅;show⟨_,(af (cz (i:=1) bT.nd (Aw rfl rfl cI rfl T.n_zip (aa (qQ (kJ.mono (by first|decide|show Je _|lia)) hr rfl) (aa (bP kT hr (aa (pv 0) (aa ah (aa (aR (eW K) (gq (aa ah (aa ah (aa ah (aa ah ae))))) (bP aG hr (aa (pv 0) (aa ah ae))) (fun _ _=>rfl)) ae)))) ae))))
  (af (cz (i:=2) bT.nd (au bh ah (bP aG hr (aa (pv 0) (aa ah ae)))))
  (af (cz (i:=3) bT.nd (au bh (au bh (pv 2) ah) (bP aG hr (aa (pv 0) (aa (au dW ah (pv 2)) ae)))))
  (af (eZ Qay rfl (jx K (bI (aa (bI (aa ar (aa ar ae))) (aa (bI (aa ar (aa ar ae))) ae)))) (tupK K 2 rfl (aI (eX (i:=4) bT.nd) (aI (eX (i:=5) bT.nd) bM))) (ag (aN (aw qu (au bh (aj (dN K) rfl T.n_len (by rfl) (aa (bS hu (pv 1) (pv 5) (fun _ _=>rfl)) ae)) (pv 3)) (au bh (aj (dN K) rfl T.n_len (by rfl) (aa (bS hu (pv 1) (pv 4) (fun _ _=>rfl)) ae)) (pv 2)) (aA _)) (af (cz (i:=6) bT.nd (bS hu (pv 1) (pv 4) (fun _ _=>rfl)))
  (af (vD hu (pv 1) (pv 4) (bS hu (pv 1) (pv 5) (fun _ _=>rfl)) rfl)
  (ag (vD hu (pv 1) (pv 5) (pv 6) rfl)))) ay)))
  (af (cz (i:=7) bT.nd (yi rfl rfl T.n_list rfl T.n_zip (aa ar (aa (bP kT hr (aa (pv 0) (aa ah (aa ah ae)))) ae))))
  (af (cz (i:=8) bT.nd (yO rfl rfl T.n_list rfl T.n_zip (aa (qQ (fY.mono (by first|decide|show Je _|lia)) hr rfl) (aa (bP kT hr (aa (pv 0) (aa ah (aa (aR (eW K) (gq (aa ah (aa ah (aa ah ae)))) (bP aG hr (aa (pv 0) (aa ah ae))) (fun _ _=>rfl)) ae)))) ae))))
  (ag (ao (gq (aa (bP fW hr (aa (pv 0) (aa (CT rfl rfl T.n_list (pv 1)) ae))) (aa (bP fW hr (aa (pv 0) (aa (pv 7) ae))) (aa (bP fW hr (aa (pv 0) (aa (pv 8) ae))) (aa (pv 2) (aa (pv 3) ae)))))))))))))),?_⟩
 dsimp only;show ie (te:=Xn _ _) (fun v H'=>∃(dd:KE) (cs:List Str) (t':Int),v = .ref dd/\cs.length=11/\gB cs/\(∀x∈cs,eA x/\x.length<=11)/\H dd=none/\H' dd=some (.dK (iE (aB.zip cs)))/\Step b c H H' t t' 300) (fun Qn qn =>?_) ?_
 ·show{rfl,fun pk H1 n1=>{_,rfl,Sg,fun lp H2 n2=>{_,rfl,b,c,t,4,rfl,(bx.same n1.same).same n2.same,t0,⋯,∅,∅,fun r H3 r0 r1 eF =>?_}}};obtain⟨pb,pc⟩:=bx.aM n1.nn;obtain⟨lb,lc⟩:=(bx.same n1.same).aM n2.nn;have Zc:=eF.old (n2.same _ _ n1.at) pb pc;have yK:=eF.old n2.at lb lc;have eF:=(Step.same bx (n1.same.trans n2.same)).trans eF;obtain⟨m,hm,m4,m9⟩:∃m:Nat,([V.int 4,V.int 4,V.int 5,V.int 9]:List V)[r.toNat]? = some (.int (m:Nat))/\4<=m/\m<=9:=by
   have:r=0\/r=1\/r=2\/r=3:=by lia
   rcases this with rfl|rfl|rfl|rfl
   ·show{4,rfl,∅,∅}
   ·show{4,rfl,∅,∅}
   ·show{5,rfl,∅,∅}
   ·show{9,rfl,∅,∅}
  have mm:11<=2^m:=Jf (show 11<=2^4 by decide) (Y3 ∅ m4);show .inl {lp,_,r,.int (m:Nat),rfl,rfl,aW.of yK,iV r0 hm,b,c,t+1,11,m,rfl,eF.bx,⋯,⋯,∅,∅,mm,⋯,fun l cs H4 t4 cl fr cb hl0 sR gG =>?_};have hk4:=gG.old Zc pb pc;have gG:=eF.trans gG;show{pk,l,aB.map Qbb,cs.map V.str,rfl,aW.of hk4,aW.of sR,by rw[Jc,Jc,cl];rfl,∅,fun d H5 n5 =>?_};rw[DY da (by rw[cl];rfl)] at n5;show qn _ _ {d,cs,t4,rfl,cl,fr,fun x hx=>{(cb x hx).1,by have:=(cb x hx).2;lia},gG.fresh bx n5.nn,n5.at,(gG.cL n5).more ⋯}
 rintro v H1 ⟨dd,cs,t2,rfl,cl,fr,cb,hd0,LZ,tG⟩;obtain⟨db,dc⟩:=bx.aM hd0;have Zm:=tG.ub;have lo1:=tG.le;show gn ?_;show{_,rfl,b,c,t2,7,rfl,tG.bx,⋯,⋯,∅,∅,fun r2 H2 r20 r21 jz =>.inl {_,_,rfl,rfl,gn ?_}};have N3:=jz.old LZ db dc;have jz:=tG.trans jz;show{_,rfl,.inl {_,_,rfl,rfl,_,rfl,_,rfl,_,_,rfl,rfl,b,c,_,_,rfl,jz.bx,⋯,⋯,⋯,⋯,fun r3 H3 r30 r31 eF =>.inl {_,_,rfl,rfl,gn ?_}}};have Cp:=eF.old N3 db dc;have eF:=jz.trans eF;obtain⟨near,en⟩:∃near:Int,near=2+r2:=⟨_,rfl⟩
 obtain⟨eY,ef⟩:∃eY:Int,eY=2+r2+1+r3:=⟨_,rfl⟩
 rw[<-ef,<-en];have n2:2<=near:=by lia
 have n8:near<=8:=by lia
 have nf:near<eY:=by lia
 have QM:eY<=16:=by lia
 have kl:aB.length=cs.length:=by rw[cl];rfl
 have sz:∀{x:Str},x.length<=11->x.length<=W1:=fun h=>Jf h ∅;dsimp only;show cS (t:=CW _ _ _) (fun σ H'=>∃(j5:List Str) (x4 x5 x6:Option V) (t':Int),σ=[some (.ref b),some (.ref dd),some (.int near),some (.int eY),x4,x5,x6,none,none]/\j5.Perm cs/\H' dd=some (.dK (iE (aB.zip j5)))/\mq (aB.zip j5) near eY=false/\Step b c H H' t t' 310) (fun Nx nx =>?_) ?_
 ·show{eV,fun p1 H4 n4=>{eV,fun p2 H5 n5=>{eV,fun p3 H6 n6=>{p3,rfl,{_,aV.of n6.at},?_}}}};have iZ:=((eF.cL n4).cL n5).cL n6;have OU:=n6.same _ _ (n5.same _ _ (n4.same _ _ Cp));have h1:=n6.same _ _ (n5.same _ _ n4.at);have h2:=n6.same _ _ n5.at;have h3:=n6.at;have US:∀{p:KE} {o:List V},H6 p=some (.tup o)->p≠dd:=fun h z=>by rw[z,OU] at h;cases h
  have e1:=US h1;have e2:=US h2;have e3:=US h3;show jO (N:=2) (fun k σ H'=>∃(j5:List Str) (x4 x5 x6:Option V),σ=[some (.ref b),some (.ref dd),some (.int near),some (.int eY),x4,x5,x6,none,none]/\j5.Perm cs/\H' dd=some (.dK (iE (aB.zip j5)))/\(∀p,p≠dd->H' p=H6 p)/\(0<k->∀x y,j5[5]? = some x->j5[8]? = some y->¬((y.length:Int)+eY<x.length+near))/\(1<k->∀x y,j5[6]? = some x->j5[9]? = some y->¬((y.length:Int)+eY<x.length+near))/\∃t',Step b c H H' t t' 310) {cs,_,_,_,rfl,U9.refl _,OU,fun _ _=>rfl,(fun h=>absurd h ∅),(fun h=>absurd h ∅),_,iZ.more ⋯} ?_ ?_
  ·rintro k σ H7 hk ⟨j5,x4,x5,x6,rfl,pm,hd7,k7,o1,o2,t7,eO⟩;have Zz:=(k7 _ e1).trans h1;have ZJ:=(k7 _ e2).trans h2;have SA:=(k7 _ e3).trans h3;have Xz:j5.length=11:=by rw[pm.length_eq,cl]
   have UL:aB.length=j5.length:=by rw[Xz];rfl
   have Sa:∀{i:Nat} {x:Str},j5[i]? = some x->x.length<=11:=fun h=>(cb _ (pm.mem_iff.mp (J0 h))).2;obtain⟨c5,h5⟩:∃x,j5[5]? = some x:=⟨_,Jd ⋯⟩
   obtain⟨c6,h6⟩:∃x,j5[6]? = some x:=⟨_,Jd ⋯⟩
   obtain⟨c8,h8⟩:∃x,j5[8]? = some x:=⟨_,Jd ⋯⟩
   obtain⟨c9,h9⟩:∃x,j5[9]? = some x:=⟨_,Jd ⋯⟩
   have gd:∀{i:Nat} {x y:Str},aB[i]? = some x->j5[i]? = some y->fz H7 dd (.str x) (some (.str y)):=fun hx hy=>E3 hd7 da UL hx hy;have swap:∀{i j:Nat} {x y a d:Str},aB[i]? = some x->aB[j]? = some y->j5[i]? = some a->j5[j]? = some d->∃H8 H9,sY H7 dd (.str x) (.str d) H8/\sY H8 dd (.str y) (.str a) H9/\H9 dd=some (.dK (iE (aB.zip ((j5.set i d).set j a))))/\(∀p,p≠dd->H9 p=H6 p)/\((j5.set i d).set j a).Perm cs/\Step b c H H9 t t7 310:=fun{i j x y a d} hx hy ha hd=>by
    obtain⟨H8,c8,d8⟩:=xh (y:=d) hd7 da UL hx ∅;obtain⟨H9,c9,d9⟩:=xh (y:=a) c8.at da (by rw[Wa];show UL) hy ∅;show{H8,H9,d8,d9,c9.at,fun p hp=>by rw[c9.ne hp,c8.ne hp];show k7 p hp,(swap_perm ha hd).trans pm,(eO.GD c8 hd0 db dc).GD c9 hd0 db dc}
   obtain rfl|rfl:k=0\/k=1:=by lia
   ·show{{_,_,aV.of SA,rfl},?_};rintro w' H8 ⟨rfl,hy⟩;have e:=hy _ (aV.of SA);obtain rfl:V.ref p1=w':=Qan e;show{p1,_,rfl,aV.of Zz,rfl,_,_,rfl,_,_,rfl,rfl,?_};show{_,rfl,_,rfl,dd,_,rfl,gd (i:=8) rfl h8,_,_,rfl,{sz (Sa h8),rfl},_,rfl,.inl {_,_,rfl,rfl,_,rfl,_,rfl,dd,_,rfl,gd (i:=5) rfl h5,_,_,rfl,{sz (Sa h5),rfl},_,rfl,.inl {_,_,rfl,rfl,_,_,rfl,rfl,_,rfl,eU (fun c =>?_) (fun c =>?_)}}}
    ·have c:=of_decide_eq_true c;obtain⟨H9,H10,d9,d10,hd10,k10,pm10,jA⟩:=swap (i:=5) (j:=8) (x := "jump") (y := "farjump") rfl rfl h5 h8;show{_,rfl,_,rfl,dd,_,rfl,gd (i:=5) rfl h5,gn {_,rfl,_,rfl,dd,_,rfl,gd (i:=8) rfl h8,_,rfl,_,rfl,dd,_,rfl,d9,_,rfl,_,rfl,_,rfl,dd,_,rfl,d10,?_}};show{_,_,_,_,rfl,pm10,hd10,k10,fun _ x y hx hy =>?_,(fun h=>absurd h ∅),t7,jA};rw[Yi ∅,Yp ⋯] at hx;rw[Yp (by rw[Wa];lia)] at hy;cases hx;cases hy;lia
    ·have c:¬_:=fun z=>c (decide_eq_true z);show{j5,_,_,_,rfl,pm,hd7,k7,fun _ x y hx hy =>?_,(fun h=>absurd h ∅),t7,eO};rw[h5] at hx;rw[h8] at hy;cases hx;cases hy;show c
   ·show{{_,_,aV.of SA,rfl},?_};rintro w' H8 ⟨rfl,hy⟩;have e:=hy _ (aV.of SA);obtain rfl:V.ref p2=w':=Qan e;show{p2,_,rfl,aV.of ZJ,rfl,_,_,rfl,_,_,rfl,rfl,?_};have o1:=o1 ∅;show{_,rfl,_,rfl,dd,_,rfl,gd (i:=9) rfl h9,_,_,rfl,{sz (Sa h9),rfl},_,rfl,.inl {_,_,rfl,rfl,_,rfl,_,rfl,dd,_,rfl,gd (i:=6) rfl h6,_,_,rfl,{sz (Sa h6),rfl},_,rfl,.inl {_,_,rfl,rfl,_,_,rfl,rfl,_,rfl,eU (fun c =>?_) (fun c =>?_)}}}
    ·have c:=of_decide_eq_true c;obtain⟨H9,H10,d9,d10,hd10,k10,pm10,jA⟩:=swap (i:=6) (j:=9) (x := "zero") (y := "farzero") rfl rfl h6 h9;show{_,rfl,_,rfl,dd,_,rfl,gd (i:=6) rfl h6,gn {_,rfl,_,rfl,dd,_,rfl,gd (i:=9) rfl h9,_,rfl,_,rfl,dd,_,rfl,d9,_,rfl,_,rfl,_,rfl,dd,_,rfl,d10,?_}};show{_,_,_,_,rfl,pm10,hd10,k10,fun _ x y hx hy =>?_,fun _ x y hx hy =>?_,t7,jA}
     ·rw[Yi ∅,Yi ∅] at hx hy;show o1 x y hx hy
     ·rw[Yi ∅,Yp ⋯] at hx;rw[Yp (by rw[Wa];lia)] at hy;cases hx;cases hy;lia
    ·have c:¬_:=fun z=>c (decide_eq_true z);show{j5,_,_,_,rfl,pm,hd7,k7,fun _=>o1,fun _ x y hx hy =>?_,t7,eO};rw[h6] at hx;rw[h9] at hy;cases hx;cases hy;show c
  ·rintro σ H7 ⟨j5,x4,x5,x6,rfl,pm,hd7,k7,o1,o2,t7,eO⟩;have Xz:j5.length=11:=by rw[pm.length_eq,cl]
   show{{_,aV.of ((k7 _ e3).trans h3),Je _},nx _ _ {j5,_,_,_,t7,rfl,pm,hd7,?_,eO}};obtain⟨c5,h5⟩:∃x,j5[5]? = some x:=⟨_,Jd ⋯⟩
   obtain⟨c6,h6⟩:∃x,j5[6]? = some x:=⟨_,Jd ⋯⟩
   obtain⟨c8,h8⟩:∃x,j5[8]? = some x:=⟨_,Jd ⋯⟩
   obtain⟨c9,h9⟩:∃x,j5[9]? = some x:=⟨_,Jd ⋯⟩
   unfold mq;simp only[Y8,List.any_nil,Qec];have g5:a9 (aB.zip j5) (Wp "jump")=c5:=nQ da (k:=5) rfl h5;have g6:a9 (aB.zip j5) (Wp "zero")=c6:=nQ da (k:=6) rfl h6;have g8:a9 (aB.zip j5) (Wp ("far" ++ "jump"))=c8:=nQ da (k:=8) (by rfl) h8;have g9:a9 (aB.zip j5) (Wp ("far" ++ "zero"))=c9:=nQ da (k:=9) (by rfl) h9;rw[g5,g6,g8,g9,decide_eq_false (o1 ∅ _ _ h5 h8),decide_eq_false (o2 ∅ _ _ h6 h9)]
   rfl
 rintro σ H4 ⟨cs1,x4,x5,x6,t4,rfl,pm1,hd4,hF,gG⟩;have Vn:=gG.ub;have Tv:=gG.le;have SI:cs1.length=11:=by rw[pm1.length_eq,cl]
 have Zn:gB cs1:=fr.perm pm1.symm;have WD:∀x∈cs1,eA x/\x.length<=11:=fun x hx=>cb x (pm1.mem_iff.mp hx);show ie (te:=W3 _ _) (fun v H'=>∃(p:KE) (as:List KE) (cs:List Str) (t':Int),v = .ref p/\cs.length=4/\gB cs/\(∀x∈cs,eA x/\x.length<=11)/\wZ K b c H' p (bJ.zip cs) as/\Step b c H4 H' t4 t' 300) (fun Qn qn =>?_) ?_
 ·show{_,rfl,b,c,t4,4,3,rfl,gG.bx,⋯,⋯,∅,∅,∅,∅,fun l cs2 H5 t5 cl2 fr2 cb2 hl0 sR cB =>?_};show⟨"abcd",l,cs2.map V.str,rfl,aW.of sR,∅,∅,by rw[Jc,cl2];decide +kernel,fun H6 p as s6 JM EG al hk=>qn _ _ ⟨p,as,cs2,t5,rfl,cl2,fr2,fun x hx=>⟨(cb2 x hx).1,by have:=(cb2 x hx).2;lia⟩,⟨EG,(cB.bx.aM JM).1,(cB.bx.aM JM).2,by rw[al,Yq,cl2];decide +kernel,fun j a qq ha hq =>?_⟩,(cB.trans (Step.same cB.bx s6)).more ⋯⟩⟩;have z:=Yy.mp hq;have hj:j<(Wp "abcd").cps.size:=by rw[<-al];show(Jl.mp ha).1
  have ex:=Jz hj;obtain⟨u1,u2⟩:=hk j a _ (.str qq.2) ha ex (by rw[Jk,z.2];rfl);have e1:=Ii j _ ex;rw[z.1] at e1;rw[<-Qan e1] at u2;rw[dF (cB.bx.aM u1).1 (cB.bx.aM u1).2];show u2
 rintro v H5 ⟨p5,as5,cs2,t5,rfl,cl2,fr2,cb2,P5,cB⟩;have Ss:=cB.old hd4 db dc;have ub5:=cB.ub;have Zw:=cB.le;show gn ?_;show ie (te:=V9 _ _) (fun v H'=>∃(p:KE) (as:List KE) (cs:List Str) (t':Int),v = .ref p/\cs.length=9/\gB cs/\(∀x∈cs,eA x/\x.length<=11)/\wZ K b c H' p (aH.zip cs) as/\Step b c H5 H' t5 t' 300) (fun Qn qn =>?_) ?_
 ·show{rfl,fun pk H6 n6=>{_,rfl,Hh,fun lp H7 n7=>{_,rfl,b,c,t5,3,rfl,(cB.bx.same n6.same).same n7.same,⋯,⋯,∅,∅,fun r H8 r0 r1 iy =>?_}}};obtain⟨pb,pc⟩:=cB.bx.aM n6.nn;obtain⟨lb,lc⟩:=(cB.bx.same n6.same).aM n7.nn;have YD:=iy.old (n7.same _ _ n6.at) pb pc;have T8:=iy.old n7.at lb lc;have iy:=(Step.same cB.bx (n6.same.trans n7.same)).trans iy;obtain⟨m,hm,m4,m9⟩:∃m:Nat,([V.int 4,V.int 5,V.int 8]:List V)[r.toNat]? = some (.int (m:Nat))/\4<=m/\m<=8:=by
   have:r=0\/r=1\/r=2:=by lia
   rcases this with rfl|rfl|rfl
   ·show{4,rfl,∅,∅}
   ·show{5,rfl,∅,∅}
   ·show{8,rfl,∅,∅}
  have mm:9<=2^m:=Jf (show 9<=2^4 by decide) (Y3 ∅ m4);show .inl {lp,_,r,.int (m:Nat),rfl,rfl,aW.of T8,iV r0 hm,b,c,t5+1,9,m,rfl,iy.bx,⋯,⋯,∅,∅,mm,⋯,fun l cs3 H9 t9 cl3 fr3 cb3 hl0 sR lh =>?_};have hk9:=lh.old YD pb pc;have lh:=iy.trans lh;show{pk,l,aH.map V.str,cs3.map V.str,rfl,aW.of hk9,aW.of sR,fun H10 p as Ld JM EG al hk=>qn _ _ {p,as,cs3,t9,rfl,cl3,fr3,fun x hx=>{(cb3 x hx).1,by have:=(cb3 x hx).2;lia},{EG,(lh.bx.aM JM).1,(lh.bx.aM JM).2,by rw[al,Jc,Jc,Yq],fun j a qq ha hq =>?_},(lh.trans (Step.same lh.bx Ld)).more ⋯}};have z:=Yy.mp hq;obtain⟨u1,u2⟩:=hk j a (.str qq.1) (.str qq.2) ha (by rw[Jk,z.1];rfl) (by rw[Jk,z.2];rfl);rw[dF (lh.bx.aM u1).1 (lh.bx.aM u1).2];show u2
 rintro v H6 ⟨p6,as6,cs3,t6,rfl,cl3,fr3,cb3,P6,iZ⟩;have OU:=iZ.old Ss db dc;have P5:=P5.step iZ;have VJ:=iZ.ub;have UC:=iZ.le;show gn ?_;have O8:=vI nU.1 (Je 11) WD;have Qi:=vI nU.2.1 (Je 11) cb2;have O0:=vI nU.2.2 (Je 11) cb3;have HW:(aB.zip cs1).length=11:=by rw[Yq,SI];rfl
 have eV:(bJ.zip cs2).length=4:=by rw[Yq,cl2];rfl
 have Hh:(aH.zip cs3).length=9:=by rw[Yq,cl3];rfl
 have P1:=(gG.trans cB).trans iZ;show{_,rfl,_,rfl,dd,_,rfl,OU,fun H7 p7 as7 s7 JM EG al hk =>?_};have eO:=Step.same iZ.bx s7;have P5:=P5.step eO;have P6:=P6.step eO;obtain⟨zs,ez1,ez2,M⟩:=G2 (K:=K) (G:=gN H7 b c) (bk:=aB.zip cs1) (as:=as7) (by rw[al];unfold iE;rw[Jc]) ⋯ (fun qq hq=>⟨(O8 qq hq).1,(O8 qq hq).2.1⟩) (fun j a qq ha hq=>by
  obtain⟨u1,u2⟩:=hk j a (.inr qq.1) (.str qq.2) ha (by unfold iE;rw[Jk,hq];rfl);rw[dF (iZ.bx.aM u1).1 (iZ.bx.aM u1).2];show u2)
 show{b,c,p7,t6,gN H7 b c,zs,rfl,eO.bx,⋯,⋯,aq.refl _,.inl (aW.of (by rw[EG,ez2])),M,fun l1 zs1 H8 t8 pz1 hl10 hl11 iy =>?_};have ub8:=iy.ub;have lo8:=iy.le;obtain⟨l1b,l1c⟩:=eO.bx.aM hl10;obtain⟨sM,pb1,D1⟩:=zu ez1 M pz1 iy.sm (by rw[dF l1b l1c];show hl11);have P5:=P5.step iy;have P6:=P6.step iy;obtain⟨zs,ez1,ez2,M⟩:=G2 (K:=K) (G:=gN H8 b c) P5.len ⋯ (fun qq hq=>⟨(Qi qq hq).1,(Qi qq hq).2.1⟩) P5.prs;show{_,rfl,_,rfl,b,c,p5,t8,gN H8 b c,zs,rfl,iy.bx,⋯,⋯,aq.refl _,.inl (aW.of (by rw[P5.at',ez2])),M,fun l2 zs2 H9 t9 pz2 hl20 hl21 lh =>?_};have ub9:=lh.ub;have lo9:=lh.le;obtain⟨l2b,l2c⟩:=iy.bx.aM hl20;obtain⟨we,pb2,D2⟩:=zu ez1 M pz2 lh.sm (by rw[dF l2b l2c];show hl21);have P6:=P6.step lh;obtain⟨zs,ez1,ez2,M⟩:=G2 (K:=K) (G:=gN H9 b c) P6.len ⋯ (fun qq hq=>⟨(O0 qq hq).1,(O0 qq hq).2.1⟩) P6.prs;show{_,rfl,_,rfl,b,c,p6,t9,gN H9 b c,zs,rfl,lh.bx,⋯,⋯,aq.refl _,.inl (aW.of (by rw[P6.at',ez2])),M,fun l3 zs3 H10 t10 pz3 hl30 hl31 jA =>?_};obtain⟨l3b,l3c⟩:=lh.bx.aM hl30;obtain⟨wg,pb3,D3⟩:=zu ez1 M pz3 jA.sm (by rw[dF l3b l3c];show hl31);show{_,rfl,_,rfl,Vr,fun l H11 n11 =>?_};have qM:=((((P1.trans eO).trans iy).trans lh).trans jA).cL n11;have NJ:=(Step.same jA.bx n11.same).sm;show q l _ _ _ sM we wg near eY H11 t10 {?_,?_,?_,?_,?_,?_,⋯} (((((P1.trans eO).trans iy).trans lh).trans jA).fresh bx n11.nn) n11.at (bN (D1.same (lh.sm.trans (jA.sm.trans NJ))) (bN (D2.same (jA.sm.trans NJ)) (bN (D3.same NJ) iC))) (qM.more ⋯)
 ·show E2 (u5 Pr (by rw[SI];rfl) ⋯ (fun x hx=>(WD x hx).1) Zn pb1) (u5 Ow (by rw[cl2];rfl) ⋯ (fun x hx=>(cb2 x hx).1) fr2 pb2) (u5 OK (by rw[cl3];rfl) ⋯ (fun x hx=>(cb3 x hx).1) fr3 pb3) n2 n8 nf QM ?_;rw[F9 pb1 (gT (by rw[SI];rfl))];show hF
 ·have:=pb1.map (·.1);rw[gT (by rw[SI];rfl)] at this;show this
 ·rw[pb1.length_eq,HW]
 ·rw[pb2.length_eq,eV]
 ·rw[pb3.length_eq,Hh]
 ·rintro qq (hq|hq|hq)
  ·show O8 qq (pb1.mem_iff.mp hq)
  ·show Qi qq (pb2.mem_iff.mp hq)
  ·show O0 qq (pb3.mem_iff.mp hq)
def jk:Nat->Nat->List Nat
 | 0,_=>[]
 | k+1,n=>jk k (n / 2)++[48+n%2]
def gb (n k:Nat):Str:=⟨(jk k n).toArray⟩
def kU:∀k n,((Qcq k).map fun j=>48+n / 2^j%2).reverse=jk k n
 | 0,_=>rfl
 | k+1,n=>by
  rw[Qdr,J2,Qce,Yh];change _++[48+n / 2^0%2]=jk k (n / 2)++[48+n%2];rw[<-kU k (n / 2)]
  congr 2
  ·show Y7 fun j _ =>?_;change 48+n / 2^(j+1)%2=48+n / 2 / 2^j%2;rw[Qgk,Qch,QdC]
  ·simp
def rQ:∀k n,(jk k n).length=k
 | 0,_=>rfl
 | k+1,n=>by unfold jk;rw[Jn,rQ k];rfl
def JX (n:Nat):(Wp (toString ((n%2:Nat):Int)))=⟨#[48+n%2]⟩:=by
 rcases Nat.mod_two_eq_zero_or_one n with h|h<;>rw[h]<;>decide +kernel
def Lk:Sp:=fun vs H Q _=>fX fun(n k:Nat)=>vs=[.int n,.int k]/\k<=60/\∀H',aq H H'->Q (.str (gb n k)) H'
def tJ:Sp:=fun vs H Q _=>∃n:Nat,vs=[.int n]/\n<=1000/\Q (.int (2^n)) H
def vd:aD ["power", "whole", "step"] ["power"] (ai (top qJ)):=fO
def OD (F:eC K "two_to" "two_to" (top qJ) f fd)(T:Nm mg):aU P w K mg base dX 1 f fd ["power"] tJ:=by
 show F.gw vd fun H vs Q E hr h =>?_;obtain⟨n,rfl,hn,q⟩:=h;show⟨_,(af (cz (i:=1) vd.nd ah)
  (af (eZ Qay rfl (de rfl T.n_range (aa (pv 0) ae)) (eX (i:=2) vd.nd) (ag (Hy (i:=1) vd.nd rfl (Qd0 rfl) (pv 1) MS)))
  (ag (ao (pv 1))))),?_⟩
 show{_,rfl,_,rfl,⋯,⋯,(kZ (fun i σ H'=>H'=H/\∃st,σ=[some (.int n),some (.int (2^i)),st]) {rfl,_,rfl} ?_ ?_)}
 ·rintro i σ H' hi ⟨rfl,st,rfl⟩;show{_,rfl,_,rfl,_,_,rfl,rfl,rfl,some (.int (0+i)),?_};rw[<-Gw]
  rfl
 ·rintro σ H' ⟨rfl,st,rfl⟩;show{_,rfl,q}
inductive Arg where
 | sp (x:Str)|nu (n:Nat)|ma (n:Nat)|ne (d:Int)|fa (d:Int)
def Arg.kind:Arg->Str
 | .sp _ => "spot" | .nu _ => "number" | .ma _ => "many" | .ne _ => "near" | .fa _ => "far"
def Arg.v:Arg->V
 | .sp x =>.str x | .nu n =>.int (n:Nat) | .ma n =>.int (n:Nat) | .ne d =>.int d | .fa d =>.int d
def Arg.ok:Arg->Prop
 | .sp x=>x∈bJ | .nu n=>n<=255 | .ma n=>n<=7 | .ne d=>d.natAbs<=1000000 | .fa d=>d.natAbs<=1000000
def inD (d:Int)(k:Nat):Bool:=decide (-(2^(k-1))<=d)&&decide (d<2^(k-1))
def j4 (d:Int)(k:Nat):Option Str:=if inD d k=true then some (gb ((if d<0 then d+2^k else d).toNat) k) else none
def dz (n:Nat):Nat:=Qcg (n:Int)
structure Fb where
 b1:List (Str×Str)
 b2:List (Str×Str)
 b3:List (Str×Str)
 near:Nat
 eY:Nat
def fI (F:Fb):Arg->Option Str
 | .sp x=>some (a9 F.b2 x)
 | .nu n=>some (a9 F.b3 (aH.getD (dz n) Qau)++Qak (gb n (dz n)) (some 1) none)
 | .ma n=>some (gb n 3++Qbx (Wp "0") (n:Nat))
 | .ne d=>j4 d F.near
 | .fa d=>j4 d F.eY
def dj (F:Fb):List Arg->Option (List Str)
 | []=>some []
 | a::r=>match fI F a with
  | none=>none
  | some x=>(dj F r).map (x :: ·)
def kM (F:Fb)(w:Str)(as:List Arg):Option Str:=(dj F as).map fun ts=>QaM "" (a9 F.b1 w::ts)
structure iK (F:Fb):Prop where
 g:Good3 F.b1 F.b2 F.b3 F.near F.eY
 n2:(F.b2.map (·.1)).Perm bJ
 n3:(F.b3.map (·.1)).Perm aH
 nr:2<=F.near/\F.near<=8
 fr:F.near<F.eY/\F.eY<=16
def wW (h:dv ns (aO bk)=true):(bk.map (·.1)).Perm ns:=by
 unfold dv at h;rw[Jw,Jw] at h;have:=of_decide_eq_true h.2.1;rw[show dh (iX (aO bk))=bk from i9 bk] at this;show this
def Good3.Zy (g:Good3 b1 b2 b3 near eY):iK ⟨b1,b2,b3,near.toNat,eY.toNat⟩/\near=(near.toNat:Nat)/\eY=(eY.toNat:Nat):=by
 obtain⟨h1,h2,h3⟩:=sC g.why;have w:=g.why;unfold nj at w;rw[if_neg (by rw[h1];decide),if_neg (by rw[h2];decide),if_neg (by rw[h3];decide)] at w;unfold Hu at w;have hn:xu (.int near)=true:=by
  cases e:xu (.int near) with
  | true=>rfl
  | false=>rw[if_pos e] at w;cases w
 rw[if_neg (by rw[hn];decide)] at w;have hf:B6 (aO b1) (.int near) (.int eY)=true:=by
  cases e:B6 (aO b1) (.int near) (.int eY) with
  | true=>rfl
  | false=>rw[if_pos e] at w;cases w
 have hn:(decide (2<=near)&&decide (near<=8))=true:=hn;have hf:(decide (near<eY)&&(decide (eY<=16) && !mq (dh (iX (aO b1))) near eY))=true:=hf;have en:near=(near.toNat:Nat):=by lia
 have ef:eY=(eY.toNat:Nat):=by lia
 show{{by change Good3 b1 b2 b3 (near.toNat:Nat) (eY.toNat:Nat);rw[<-en,<-ef];show g,wW h2,wW h3,by change 2<=near.toNat/\near.toNat<=8;lia,by change near.toNat<eY.toNat/\eY.toNat<=16;lia},en,ef}
def vR (h:n<=255):dz n<=8:=by
 unfold dz Qcg
 split
 ·decide
 ·rename_i hz;have:=(QeV (fun z=>hz (by simp;lia))).mpr (show((n:Nat):Int).natAbs<2^8 by lia);lia
def bZ (n k:Nat):(gb n k).length=k:=by
 change(jk k n).toArray.size=k;rw[Ju,rQ]
def Fj (h:∀q∈bk,q.2.length<=11):(a9 bk x).length<=11:=by
 induction bk with
 | nil=>show Ue _
 | cons q r ih=>
  unfold a9
  split
  ·show h q Jj
  ·show ih fun z hz=>h z (Jh _ hz)
def iK.c1 (h:iK F)(x:Str):(a9 F.b1 x).length<=11:=Fj fun q hq=>(h.g.sz q (.inl hq)).2.2.2
def iK.c2 (h:iK F)(x:Str):(a9 F.b2 x).length<=11:=Fj fun q hq=>(h.g.sz q (.inr (.inl hq))).2.2.2
def iK.c3 (h:iK F)(x:Str):(a9 F.b3 x).length<=11:=Fj fun q hq=>(h.g.sz q (.inr (.inr hq))).2.2.2
def IQ (h:iK F){a:Arg}(ha:a.ok){x:Str}(e:fI F a=some x):x.length<=40:=by
 have fr:=h.fr;have dl:∀{d:Int} {k:Nat} {x:Str},j4 d k=some x->x.length=k:=fun e=>by
  unfold j4 at e
  split at e
  ·cases e;show bZ _ _
  ·cases e
 cases a with
 | sp y=>cases e;have:=h.c2 y;lia
 | nu n=>
  cases e;have h1:=h.c3 (aH.getD (dz n) Qau);have h2:=Qdx (gb n (dz n)) (some 1) none;have h3:=vR ha;rw[Qar];rw[bZ] at h2;lia
 | ma n=>
  cases e;rw[Qar,bZ];have:∀n,n<=7->(Qbx (Wp "0") ((n:Nat):Int)).length<=10:=∅;have:=this n ha;lia
 | ne d=>have:=dl e;lia
 | fa d=>have:=dl e;lia
def lJ (K:Ja)(CF:KE)(H:Hp)(m:KE)(F:Fb):Prop:=kA K CF H m (aO F.b1) (aO F.b2) (aO F.b3) (.int (F.near:Nat)) (.int (F.eY:Nat))
abbrev fP:List (Str×List Str):=[("set",["spot", "number"]),("add",["spot", "spot"]),("take",["spot", "spot"]),("tell",["spot"]),("ask",["spot"]),("jump",["near"]),("zero",["spot", "near"]),("stop",[]),("farjump",["far"]),("farzero",["spot", "far"]),("skip",["many"])]
def eP:∀q∈fP,q.1∈aB/\q.2.length<=2:=∅
structure lQ (w:Str)(as:List Arg):Prop where
 pt:∃q∈fP,w=q.1/\as.map Arg.kind=q.2
 ok:∀a∈as,a.ok
structure QJ (K:Ja)(w:Qag)(mg:Str->Option Fk)(aP:KE):Prop where
 g:mg "PARTS" = some (.ref aP)
 cd:Lv K w aP
 pt:∀q∈fP,∃p,Qfz K aP q.1=some (some (.ref p))/\∀H,aV K H p (q.2.map V.str)
def uk (e:fI F a=none):∀{as:List Arg},a∈as->dj F as=none
 | b::as,h=>by
  change(match fI F b with|none=>none|some x=>(dj F as).map (x :: ·))=none
  rcases Jq.mp h with rfl|h
  ·rw[e]
  ·rw[uk e h];cases fI F b<;>rfl
def yz (fr:iK F):∀{as:List Arg} {ts:List Str},(∀a∈as,a.ok)->dj F as=some ts->ts.length=as.length/\((ts.map fun x=>x.length).sum<=40*as.length)
 | [],ts,_,e=>by cases e;show⟨rfl,Je _⟩
 | a::as,ts,ok,e=>by
  have e:(match fI F a with|none=>none|some x=>(dj F as).map (x :: ·))=some ts:=e;cases ea:fI F a with
  | none=>rw[ea] at e;cases e
  | some x=>
   rw[ea] at e;cases er:dj F as with
   | none=>rw[er] at e;cases e
   | some us=>
    rw[er] at e;cases e;obtain⟨h1,h2⟩:=yz fr (fun b hb=>ok b (Jh _ hb)) er;have:=IQ fr (ok a Jj) ea;show{by rw[Jo,Jo,h1],?_};rw[J2,Yc,Jo];lia
def lH (w:Str):Bool:=(["farjump", "farzero"]:List Str).contains w
def tS (n i:Nat):gb n (i+1)=(⟨#[48+n / 2^i%2]⟩:Str)++gb n i:=by
 show fQ ?_;rw[aK];change jk (i+1) n=[48+n / 2^i%2]++jk i n;rw[<-kU,<-kU,List.range_succ,Jx,List.reverse_append]
 rfl
def vX:Sp:=fun vs H Q _=>∃w,vs=[.str w]/\∀H',aq H H'->Q (.bl (lH w)) H'
def gJ:aD ["_law_many", "_law_found", "_law_k"] ["_law_many"] (ai (top kc)):=fO
def IC (F:eC K "_law_power" "_law_power" (top kc) f fd)(T:Nm mg):aU P w K mg base dX 1 f fd ["_law_many"] tJ:=by
 show F.gw gJ fun H vs Q E hr h =>?_;obtain⟨n,rfl,n1,q⟩:=h;show⟨_,(af (cz (i:=1) gJ.nd ah)
  (af (eZ Qay rfl (de rfl T.n_range (aa (pv 0) ae)) (eX (i:=2) gJ.nd) (ag (cz (i:=1) gJ.nd (au j3 ah (pv 1)))))
  (ag (ao (pv 1))))),?_⟩
 show{_,rfl,n,rfl,⋯,⋯,(kZ (fun i σ H'=>∃x2,σ=[some (.int (n:Nat)),some (.int (2^i)),x2]/\H'=H) {_,rfl,rfl} ?_ ?_)}
 ·rintro i σ H2 hi ⟨x2,rfl,rfl⟩;show{_,rfl,.inl {_,_,rfl,rfl,.inl {∅,∅},some (.int (0+i)),?_,rfl}};rw[QeA,Qgo]
  rfl
 ·rintro σ H2 ⟨x2,rfl,rfl⟩;show{_,rfl,q}
def dA:aD ["_law_number", "_law_many", "_law_found", "_law_k"] ["_law_number", "_law_many"] (ai (top iO)):=fO
def K4 (F:eC K "_law_figures" "_law_figures" (top iO) f fd)(T:Nm mg):aU P w K mg base dX 1 f fd ["_law_number", "_law_many"] Lk:=by
 show F.gw dA fun H vs Q E hr h =>?_;obtain⟨n,k,rfl,hk,q⟩:=h;show⟨_,(af (cz (i:=2) dA.nd ar)
  (af (eZ Qay rfl (de rfl T.n_range (aa (pv 1) ae)) (eX (i:=3) dA.nd) (af (cz (i:=2) dA.nd (au bh (aQ vk rfl T.n_str (by rfl) (aa (au kd (pv 0) ah) ae)) (pv 2)))
  (ag (cz (i:=0) dA.nd (au uW (pv 0) ah)))))
  (ag (ao (pv 2))))),?_⟩
 show{_,rfl,k,rfl,⋯,⋯,(kZ (fun i σ H'=>∃x3,σ=[some (.int ((n / 2^i:Nat):Int)),some (.int (k:Nat)),some (.str (gb n i)),x3]/\H'=H) {_,by simp;rfl,rfl} ?_ ?_)}
 ·rintro i σ H2 hi ⟨x2,rfl,rfl⟩;have lg:((n / 2^i%2:Nat):Int).natAbs.log2<1920:=by
   have hb:((n / 2^i%2:Nat):Int).natAbs=0\/((n / 2^i%2:Nat):Int).natAbs=1:=by lia
   rcases hb with z|z<;>rw[z]<;>decide
  have em:((n / 2^i:Nat):Int)%2=((n / 2^i%2:Nat):Int):=by lia
  show{_,rfl,_,_,rfl,rfl,(by change(0:Int)<2;decide),_,rfl,by rw[em];show lg,_,rfl,?_};rw[em,JX];have fl:=bZ n i;show .inr (.inl {_,_,rfl,rfl,Jf (show _<=100 by change 1+(gb n i).length<=100;lia) ∅,?_});have ed:((n / 2^i:Nat):Int) / 2=((n / 2^(i+1):Nat):Int):=by rw[Qch,<-Qgk];lia
  show{_,rfl,_,_,rfl,rfl,{∅,∅},some (.int (0+i)),?_,rfl};rw[tS,<-ed]
  rfl
 ·rintro σ H2 ⟨x2,rfl,rfl⟩;show{_,rfl,q _ (aq.refl _)}
def pM:aD ["_law_word"] ["_law_word"] (ai (top ip)):=fO
def JQ (F:eC K "_law_far_word" "_law_far_word" (top ip) f fd)(T:Nm mg):aU P w K mg base dX 1 f fd ["_law_word"] vX:=by
 show F.gw pM fun H vs Q E hr h =>?_;obtain⟨wd,rfl,q⟩:=h;show⟨_,(ag (ao (cF (Pu K) (pv 0) (bI (aa ar (aa ar ae))) (by with_unfolding_all rfl)))),⟨_,rfl,eV,fun p H1 n1=>⟨p,(["farjump", "farzero"]:List Str).map V.str,rfl,.inr (aV.of n1.at),rfl,rfl,?_⟩⟩⟩;rw[if_neg Js,qi];show q H1 n1.same
def OI (h:1<=x.length):sg (Qak x (some 1) none)=(sg x).drop 1:=by
 rw[Qed ∅ ⋯ rfl,QcE,Uz]
 ·rfl
 ·rw[Ug,<-str_len];lia
def lz (n k:Nat):Qak (gb n k) (some 1) none=gb n (k-1):=by
 cases k with
 | zero=>
  show(by decide +kernel:Qak ({#[]}:Str) (some 1) none={#[]})
 | succ k=>
  show fQ ((OI (by rw[bZ];lia)).trans ?_);rw[tS];change((⟨#[48+n / 2^k%2]⟩:Str)++gb n k).cps.toList.drop 1=_;rw[aK]
  rfl
def GK (n k:Nat):gb (n+2^k) k=gb n k:=by
 show fQ ?_;change jk k (n+2^k)=jk k n;rw[<-kU,<-kU]
 congr 1
 show Y7 fun j hj =>?_;have hj:=List.mem_range.mp hj
 congr 1
 have e:2^k=2^(k-j-1)*2*2^j:=by
  rw[Nat.mul_assoc,QdC 2,<-Qch,<-Nat.pow_add]
  congr 1
  lia
 rw[e,Nat.add_mul_div_right _ _ (Qe9 j),Nat.add_mul_mod_self_right]
def EA {k:Nat}(h1:1<=k)(h:inD d k=true):j4 d k=some (gb (d+2^k).toNat k):=by
 unfold j4;rw[if_pos h]
 by_cases c:d<0
 ·rw[if_pos c]
 ·rw[if_neg c];have:(d+2^k).toNat=d.toNat+2^k:=by
   lia
  rw[this,GK]
def vg (n s:Nat):2^s<=n↔s<dz n:=by
 unfold dz Qcg
 by_cases h:n=0
 ·subst h;have:=Qe9 s;constructor
  ·intro z;lia
  ·intro z;show absurd z (by simp)
 ·have hz:¬(((n:Nat):Int)==0)=true:=by simp;lia
  have e:((n:Nat):Int).natAbs=n:=rfl;rw[e,if_neg hz,<-Nat.le_log2 h];lia
def join_cons (x:Str)(r:List Str):QaM "" (x::r)=x++QaM "" r:=by
 show fQ ?_;rw[dI,aK,dI,Qet]
def Fw (x r:List Str):QaM "" (x++r)=QaM "" x++QaM "" r:=by
 show fQ ?_;rw[dI,aK,dI,dI,List.flatMap_append]
def join_nil:QaM "" []=Qau:=rfl
def uX (x:Str):x++Qau=x:=rfl
def vL (x y z:Str):x++y++z=x++(y++z):=by
 show fQ ?_;rw[aK,aK,aK,aK,Ux]
def vb:∀(xs:List Str) r,dj F (xs.map Arg.sp++r)=(dj F r).map fun ts=>xs.map (a9 F.b2)++ts
 | [],r=>by
  change dj F r=_;cases dj F r<;>rfl
 | x::xs,r=>by
  change(dj F (xs.map Arg.sp++r)).map (a9 F.b2 x :: ·)=_;rw[(vb (F:=F) xs r)];cases dj F r<;>rfl
def gM {a:Arg}(h:a.kind = "spot"):∃x,a = .sp x:=by
 cases a<;>first|show⟨_,rfl⟩|show absurd h (of_decide_eq_false rfl)
def Ks {a:Arg}(h:a.kind = "number"):∃x,a = .nu x:=by
 cases a<;>first|show⟨_,rfl⟩|show absurd h (of_decide_eq_false rfl)
def IK {a:Arg}(h:a.kind = "many"):∃x,a = .ma x:=by
 cases a<;>first|show⟨_,rfl⟩|show absurd h (of_decide_eq_false rfl)
def B1 {a:Arg}(h:a.kind = "near"):∃x,a = .ne x:=by
 cases a<;>first|show⟨_,rfl⟩|show absurd h (of_decide_eq_false rfl)
def BF {a:Arg}(h:a.kind = "far"):∃x,a = .fa x:=by
 cases a<;>first|show⟨_,rfl⟩|show absurd h (of_decide_eq_false rfl)
def Ft (a v: α)(ys:List α):xG (a::(ys++[v])) (-1)=some v:=by
 have l:(a::(ys++[v])).length=ys.length+2:=by rw[Jo,Jn];rfl
 unfold xG El;rw[l,if_neg ∅,if_pos ⋯,show((-1:Int)+((ys.length+2:Nat):Int)).toNat=ys.length+1 by lia];change(ys++[v])[ys.length]? = some v;rw[Uw (Je _),Nat.sub_self]
 rfl
def Ku (a v:V)(ys:List V):kP (a::(ys++[v])) (some 1) (some (-1))=ys:=by
 have l:(a::(ys++[v])).length=ys.length+2:=by rw[Jo,Jn];rfl
 have e1:HT.eT (ys.length+2) 0 (some 1)=1:=by
  change HT.eT _ 0 (some ((1:Nat):Int))=1;rw[HT.m5];lia
 have e2:HT.eT (ys.length+2) (ys.length+2) (some (-1))=ys.length+1:=by
  change(if (-1:Int)<0 then ((-1:Int)+((ys.length+2:Nat):Int)).toNat else min (-1:Int).toNat (ys.length+2))=_;lia
 unfold kP;rw[l,e1,e2];change((ys++[v]).drop 0).take (ys.length+1-1)=ys;rw[QcO,Nat.add_sub_cancel,QeW]
 rfl
def iK.sum (h:iK F):∀xs:List Str,((xs.map (a9 F.b2)).map fun x=>x.length).sum<=11*xs.length
 | []=>Je _
 | y::ys=>by
  have ih:=h.sum ys;have:=h.c2 y;rw[J2,J2,Yc,Jo];lia
def fV (xs:List Str):(QaM "" xs).length=(xs.map fun x=>x.length).sum:=by
 rw[str_len,dI,List.length_flatMap]
 rfl
abbrev jB:List Str:=["jump", "zero", "farjump", "farzero"]
abbrev LK:List Str:=["add", "take", "tell", "ask", "stop"]
def mD (w:Str)(d:Int):Arg:=if lH w=true then .fa d else .ne d
end
def lQ.cls (b:lQ w as):(w = "skip" /\ ∃n,as=[.ma n])\/(w∈jB/\∃(xs:List Str) (d:Int),xs.length<=1/\as=xs.map Arg.sp++[mD w d])\/(w = "set" /\ ∃x n,as=[.sp x,.nu n])\/(w∈LK/\∃xs:List Str,xs.length<=2/\as=xs.map Arg.sp):=by
 obtain⟨q,hq,rfl,ek⟩:=b.pt;have n0:∀{as:List Arg},as.map Arg.kind=[]->as=[]:=fun h=>List.map_eq_nil_iff.mp h;have n1:∀{as:List Arg} {a:Str} {r:List Str},as.map Arg.kind=a::r->∃x t,as=x::t/\x.kind=a/\t.map Arg.kind=r:=fun{as a r} h=>by
  cases as with
  | nil=>cases h
  | cons x t=>rw[J2] at h;injection h with h1 h2;show⟨x,t,rfl,h1,h2⟩
 simp only[ Jq,Uo,or_false] at hq
 rcases hq with rfl|rfl|rfl|rfl|rfl|rfl|rfl|rfl|rfl|rfl|rfl
 ·obtain⟨a,t,rfl,h1,h⟩:=n1 ek;obtain⟨c,t,rfl,h2,h⟩:=n1 h;obtain rfl:=n0 h;obtain⟨x,rfl⟩:=gM h1;obtain⟨n,rfl⟩:=Ks h2;show .inr (.inr (.inl ⟨rfl,x,n,rfl⟩))
 ·obtain⟨a,t,rfl,h1,h⟩:=n1 ek;obtain⟨c,t,rfl,h2,h⟩:=n1 h;obtain rfl:=n0 h;obtain⟨x,rfl⟩:=gM h1;obtain⟨y,rfl⟩:=gM h2;show .inr (.inr (.inr {by simp,[x,y],by simp,rfl}))
 ·obtain⟨a,t,rfl,h1,h⟩:=n1 ek;obtain⟨c,t,rfl,h2,h⟩:=n1 h;obtain rfl:=n0 h;obtain⟨x,rfl⟩:=gM h1;obtain⟨y,rfl⟩:=gM h2;show .inr (.inr (.inr {by simp,[x,y],by simp,rfl}))
 ·obtain⟨a,t,rfl,h1,h⟩:=n1 ek;obtain rfl:=n0 h;obtain⟨x,rfl⟩:=gM h1;show .inr (.inr (.inr {by simp,[x],by simp,rfl}))
 ·obtain⟨a,t,rfl,h1,h⟩:=n1 ek;obtain rfl:=n0 h;obtain⟨x,rfl⟩:=gM h1;show .inr (.inr (.inr {by simp,[x],by simp,rfl}))
 ·obtain⟨a,t,rfl,h1,h⟩:=n1 ek;obtain rfl:=n0 h;obtain⟨d,rfl⟩:=B1 h1;show .inr (.inl {by simp,[],d,∅,rfl})
 ·obtain⟨a,t,rfl,h1,h⟩:=n1 ek;obtain⟨c,t,rfl,h2,h⟩:=n1 h;obtain rfl:=n0 h;obtain⟨x,rfl⟩:=gM h1;obtain⟨d,rfl⟩:=B1 h2;show .inr (.inl {by simp,[x],d,by simp,rfl})
 ·obtain rfl:=n0 ek;show .inr (.inr (.inr {by simp,[],∅,rfl}))
 ·obtain⟨a,t,rfl,h1,h⟩:=n1 ek;obtain rfl:=n0 h;obtain⟨d,rfl⟩:=BF h1;show .inr (.inl {by simp,[],d,∅,rfl})
 ·obtain⟨a,t,rfl,h1,h⟩:=n1 ek;obtain⟨c,t,rfl,h2,h⟩:=n1 h;obtain rfl:=n0 h;obtain⟨x,rfl⟩:=gM h1;obtain⟨d,rfl⟩:=BF h2;show .inr (.inl {by simp,[x],d,by simp,rfl})
 ·obtain⟨a,t,rfl,h1,h⟩:=n1 ek;obtain rfl:=n0 h;obtain⟨n,rfl⟩:=IK h1;show .inl ⟨rfl,n,rfl⟩
structure je (K:Ja)(H:Hp)(lp:KE)(F:Fb):Prop where
 ex:pW fun r1 r2 r3=>aW K H lp [r1,r2,r3,.int (F.near:Nat),.int (F.eY:Nat)]/\a8 K H [aO F.b1,aO F.b2,aO F.b3] [r1,r2,r3]
def je.same {lp:KE}{F:Fb}(h:je K H lp F)(s:aq H H'):je K H' lp F:=by
 obtain⟨r1,r2,r3,h1,h2⟩:=h.ex;show{r1,r2,r3,s.seq h1,h2.same s}
def PQ (K:Ja):Sp:=fun vs H Q _=>uN fun lp p F w as=>vs=[.ref lp,.ref p]/\je K H lp F/\iK F/\lQ w as/\aV K H p (.str w::as.map Arg.v)/\∀H',aq H H'->Q (Fe (kM F w as)) H'
def pV (h:Den K H (aO bk) v):∃(p:KE) (as:List KE),v = .ref p/\aW K H p (as.map V.ref)/\as.length=(iE bk).length/\∀(j:Nat) b kv,as[j]? = some b->(iE bk)[j]? = some kv->aV K H b [kV kv.1,kv.2]:=by
 obtain⟨a,us,rfl,hS,hd⟩:=h;obtain⟨as,rfl,al,hT⟩:=vF hd;show{a,as,rfl,hS,by unfold iE;rw[Jc];show al,hT}
def pX (bk:List (Str×Str)):(iE bk).length=bk.length:=by unfold iE;rw[Jc]
section
variable {P:Qac}{w:Qag}{K:Ja}{mg:Str->Option Fk}{base:Heap}{f:KE}{fd:Qal}
def cA:aD ["_law_parts_here", "_law_bare", "_law_kinds_here", "_law_spots", "_law_word", "_law_text", "_law_many", "_law_half", "_law_size"] ["_law_parts_here", "_law_bare"] (ai (top nX)):=fO
def Qc (F:eC K "_law_put" "_law_put" (top nX) f fd)(T:Nm mg)(cI:mg "dict" = none)(fY:Fn P w K mg base 1 "_law_sizes" [] (rA aH))(iT:Fn P w K mg base 1 "_law_figures" ["_law_number", "_law_many"] Lk)(cQ:Fn P w K mg base 1 "_law_power" ["_law_many"] tJ)(dE:Fn P w K mg base 1 "_law_far_word" ["_law_word"] vX):aU P w K mg base dX 2 f fd ["_law_parts_here", "_law_bare"] (PQ K):=by
 show F.gw cA fun H vs Q E hr h =>?_;obtain⟨lp,p,Fo,wd,args,rfl,hP,fr,ba,hp,q⟩:=h;have hu:=lP hr;have fB:=hr.units;have small:∀{n:Nat},n<=10000->n<=W1:=fun h=>Jf h ∅;obtain⟨r1,r2,r3,hl,hD⟩:=hP.ex;have l1:Fo.b1.length=11:=fr.g.l1;have l2:Fo.b2.length=4:=fr.g.l2;have l3:Fo.b3.length=9:=fr.g.l3;have SQ:(Fo.b1.map (·.1)).Nodup:=fr.g.n1.nodup_iff.mpr da;have R4:(Fo.b2.map (·.1)).Nodup:=fr.n2.nodup_iff.mpr Ow.nd;have Sf:(Fo.b3.map (·.1)).Nodup:=fr.n3.nodup_iff.mpr OK.nd;obtain⟨qq,hqq,ew,ek⟩:=ba.pt;have OP:wd∈Fo.b1.map (·.1):=fr.g.n1.mem_iff.mpr (by rw[ew];show(eP qq hqq).1);show⟨_,(af (iM (bI (aa (aQ (sA K rfl) rfl cI (by rfl) (aa (aR (eW K) (pv 0) ah (fun _ _=>rfl)) ae)) (aa (aQ (sA K rfl) rfl cI (by rfl) (aa (aR (eW K) (pv 0) ah (fun _ _=>rfl)) ae)) ae))) (tupK K 2 rfl (aI (eX (i:=2) cA.nd) (aI (Bc (i:=3) cA.nd rfl (Qep rfl)) bM))))
  (af (cz (i:=4) cA.nd (aR (eW K) (pv 1) ah (fun _ _=>rfl)))
  (af (cz (i:=5) cA.nd (bS hu (pv 2) (pv 4) (fun _ _=>rfl)))
  (af (aN (aw (ka K fB) (pv 4) ar (aA _)) (ag (ao (au bh (au bh (pv 5) (bP iT hr (aa (aR (eW K) (pv 1) ah (fun _ _=>rfl)) (aa ah ae)))) (au Ma ar (aR (eW K) (pv 1) ah (fun _ _=>rfl)))))) ay)
  (af (aN (aw (Pu K) (pv 4) (bI (aa ar (aa ar (aa ar (aa ar ae))))) (by with_unfolding_all rfl)) (af (cz (i:=6) cA.nd (aR (eW K) (pv 0) (au bh ah (aQ fH rfl T.n_int (by rfl) (aa (bP dE hr (aa (pv 4) ae)) ae))) (fun _ _=>rfl)))
  (af (cz (i:=7) cA.nd (bP cQ hr (aa (au dW (pv 6) ah) ae)))
  (af (aN (PW.pt (jW (aw qu (aR (eW K) (pv 1) (xi qz ah) (fun _ _=>rfl)) (au dW ah (pv 7)) (aA _)) (iQ (aw Bv (aR (eW K) (pv 1) (xi qz ah) (fun _ _=>rfl)) (pv 7) (aA _))))) (ag (ao aX)) ay)
  (ag (ao (au bh (au bh (pv 5) (qd K Qaz Qbm Qbl (ux K) ar (aa (dQ rfl (b9 (Nc:=["_law_spot"]) (Fc:=["_law_spots"]) (js:=[3])) (jx K (bt (Ph K) (pv 1) (aY ah) (aY (xi qz ah)))) (bC (i:=0) (n:=1) ∅) (fun _ _ _ _ _=>(eX (i:=0) (pK ["_law_spot", "_law_spots"]))) (fun _ _ _ _ _=>cE) (fun _ _ _ _ _=>(bS hu (pv 1) (pv 0) (fun _ _=>rfl)))) ae))) (bP iT hr (aa (au bh (aR (eW K) (pv 1) (xi qz ah) (fun _ _=>rfl)) (au j3 ah (pv 7))) (aa (pv 6) ae))))))))) ay)
  (af (aN (aw (ka K fB) (pv 4) ar (aA _)) (af (cz (i:=8) cA.nd ah)
  (af (kz Qay (aw rL (bP cQ hr (aa (pv 8) ae)) (aR (eW K) (pv 1) ah (fun _ _=>rfl)) (aA _)) (ag (cz (i:=8) cA.nd (au bh (pv 8) ah))))
  (af (cz (i:=5) cA.nd (au bh (au bh (pv 5) (bS hu (pv 3) (aR (eW K) (pv 1) ah (fun _ _=>rfl)) (fun _ _=>rfl))) (bS hu (aQ (sA K rfl) rfl cI (by rfl) (aa (aR (eW K) (pv 0) ah (fun _ _=>rfl)) ae)) (aR (eW K) (qQ (fY.mono (by first|decide|show Je _|lia)) hr rfl) (pv 8) (fun _ _=>rfl)) (fun _ _=>rfl))))
  (ag (ao (au bh (pv 5) (bP iT hr (aa (aR (eW K) (pv 1) ah (fun _ _=>rfl)) (aa (aj (tZ rfl) rfl T.n_max (by rfl) (aa ah (aa (au dW (pv 8) ah) ae))) ae))))))))) ay)
  (ag (ao (au bh (pv 5) (qd K Qaz Qbm Qbl (ux K) ar (aa (dQ rfl (b9 (Nc:=["_law_spot"]) (Fc:=["_law_spots"]) (js:=[3])) (jx K (bt (Ph K) (pv 1) (aY ah) eK)) (bC (i:=0) (n:=1) ∅) (fun _ _ _ _ _=>(eX (i:=0) (pK ["_law_spot", "_law_spots"]))) (fun _ _ _ _ _=>cE) (fun _ _ _ _ _=>(bS hu (pv 1) (pv 0) (fun _ _=>rfl)))) ae))))))))))),?_⟩
 obtain⟨a1,as1,rfl,sq1,al1,Eo⟩:=pV (fk (j:=0) hD rfl rfl);show{_,rfl,.inl {lp,_,0,.ref a1,rfl,rfl,hl,rfl,a1,as1,iE Fo.b1,rfl,sq1,al1,by rw[pX,l1];decide,Eo,fun d1 H1 n1 =>?_}};rw[jd SQ] at n1;obtain⟨a2,as2,rfl,sq2,al2,hT2⟩:=pV ((fk (j:=1) hD rfl rfl).same n1.same);show{_,rfl,.inl {lp,_,1,.ref a2,rfl,rfl,n1.same.seq hl,rfl,a2,as2,iE Fo.b2,rfl,sq2,al2,by rw[pX,l2];decide,hT2,fun d2 H2 n2 =>?_}};rw[jd R4] at n2;show{eV,fun t3 H3 n3=>{t3,_,rfl,aV.of n3.at,rfl,_,_,rfl,_,_,rfl,rfl,?_}};have s3:=n1.same.trans (n2.same.trans n3.same);have h1:=n3.same _ _ (n2.same _ _ n1.at);have h2:=n3.same _ _ n2.at;have ZY:fz H3 d1 (.str wd) (some (.str (a9 Fo.b1 wd))):=by
  rw[<-jC OP];show fz.k (k := .inr wd) h1
 have WV:∀{Hx:Hp} {x:Str},aq H3 Hx->x∈bJ->fz Hx d2 (.str x) (some (.str (a9 Fo.b2 x))):=fun s hx=>by
  rw[<-jC (fr.n2.mem_iff.mpr hx)];show fz.k (k := .inr _) (s _ _ h2)
 have yK:=s3.bF hp;have c1:=fr.c1 wd;show{_,rfl,.inr (.inl {p,_,0,.str wd,rfl,rfl,yK,iV (Int.le_refl 0) rfl,gn ?_})};show{_,rfl,_,rfl,d1,_,rfl,ZY,gn ?_}
 rcases ba.cls with ⟨rfl,n,rfl⟩|⟨hw,xs,d,xl,rfl⟩|⟨rfl,x,n,rfl⟩|⟨hw,xs,xl,rfl⟩
 ·-- skip
  show{_,rfl,.inl {rfl,_,rfl,nW ?_}};have hn:n<=7:=ba.ok _ (Jt.mpr rfl);have ml:∀n,n<=7->(Qbx (Wp "0") ((n:Nat):Int)).length<=10:=∅;have ml:=ml n hn;have fl:=bZ n 3;show{_,rfl,_,rfl,.inr (.inl {p,_,1,.int (n:Nat),rfl,rfl,yK,rfl,n,3,rfl,∅,fun H4 s4 =>?_})};show .inr (.inl {_,_,rfl,rfl,small ⋯,?_});show{_,rfl,.inr (.inl {p,_,1,.int (n:Nat),rfl,rfl,s4.bF yK,rfl,.inr {_,_,rfl,rfl,pC ∅ ⋯ ⋯,?_}})};show .inr (.inl {_,_,rfl,rfl,small (by rw[Qar];lia),?_});have q:=q H4 (s3.trans s4);have e:kM Fo "skip" [.ma n]=some (a9 Fo.b1 "skip" ++ gb n 3++Qbx (Wp "0") (n:Nat)):=by
   change some (QaM "" [a9 Fo.b1 "skip",gb n 3++Qbx (Wp "0") (n:Nat)])=_;rw[join_cons,join_cons,join_nil,uX,vL]
  rw[e] at q;show q
 ·-- jumps
  have Tz:∀w∈jB,(w == "skip")=false/\jB.contains w=true:=∅;obtain⟨k1,k2⟩:=Tz _ hw;show{_,rfl,.inl {rfl,_,rfl,gA ?_ k1}};dsimp only[ji];show{_,rfl,Sg,fun t4 H4 n4=>{t4,jB.map V.str,rfl,.inr (aV.of n4.at),rfl,?_,_,rfl,GC ?_ k2}}
  ·rfl
  obtain⟨kk,ekk⟩:∃kk:Nat,kk=if lH wd=true then Fo.eY else Fo.near:=⟨_,rfl⟩
  have nr:=fr.nr;have ff:=fr.fr;have kb:2<=kk/\kk<=16:=by rw[ekk];split<;>lia
  have s4:=s3.trans n4.same;show{_,rfl,_,rfl,wd,rfl,fun H5 s5 =>.inr {lH wd,rfl,.inl {_,_,rfl,rfl,.inl {lp,_,_,.int (kk:Nat),rfl,rfl,(s4.trans s5).seq hl,?_,gn ?_}}}}
  ·rw[ekk];cases lH wd<;>rfl
  show{_,rfl,_,_,rfl,rfl,kk-1,?_,⋯,gn ?_}
  ·change[V.int ((kk:Int)-1)]=[V.int ((kk-1:Nat):Int)]
   rw[show(kk:Int)-1=((kk-1:Nat):Int) by lia]
  have T3:=s5 _ _ (n4.same _ _ h2);have s5:=s4.trans s5;have dk:d.natAbs<=1000000:=by
   have:=ba.ok (mD wd d) (Jr _ (Jt.mpr rfl));unfold mD at this
   split at this<;>show this
  have ev:(mD wd d).v = .int d:=by unfold mD;split<;>rfl
  have eL:(xs.map Arg.sp++[mD wd d]).map Arg.v=xs.map V.str++[.int d]:=by rw[Jx,Yh,J2,ev];rfl
  have SG:=s5.bF hp;rw[eL] at SG;have aL:=Ft (V.str wd) (V.int d) (xs.map V.str);have q0:inD d kk=false->∀H',aq H H'->Q .non H':=fun c H' s'=>by
   have q:=q H' s';have e:kM Fo wd (xs.map Arg.sp++[mD wd d])=none:=by
    have ea:fI Fo (mD wd d)=none:=by
     have:fI Fo (mD wd d)=j4 d kk:=by
      rw[ekk];unfold mD;cases lH wd<;>rfl
     rw[this];unfold j4;rw[c];rfl
    unfold kM;rw[uk ea (Jr _ (Jt.mpr rfl))];rfl
   rw[e] at q;show q
  show{_,rfl,_,rfl,.inr (.inl {p,_,-1,.int d,rfl,rfl,SG,aL,_,rfl,_,_,rfl,rfl,_,_,rfl,rfl,_,rfl,?_})};show eU (fun c=>br (q0 ?_ _ s5)) (fun c =>?_)
  ·have c:d<0-2^(kk-1):=of_decide_eq_true c;unfold inD;rw[decide_eq_false ⋯,Y1]
  have c1':¬d<0-2^(kk-1):=fun z=>c (decide_eq_true z);show{_,rfl,_,rfl,.inr (.inl {p,_,-1,.int d,rfl,rfl,SG,aL,_,rfl,_,_,rfl,rfl,_,rfl,?_})};show eU (fun c=>q0 ?_ _ s5) (fun c =>?_)
  ·have c:2^(kk-1)<=d:=of_decide_eq_true c;unfold inD;rw[decide_eq_false (p:=d<2^(kk-1)) ⋯,Bool.and_false]
  have c2':¬ 2^(kk-1)<=d:=fun z=>c (decide_eq_true z);have cin:inD d kk=true:=by
   unfold inD;rw[decide_eq_true ⋯,decide_eq_true ⋯];rfl
  dsimp only[ji];show{_,rfl,rfl,_,rfl,1,rfl,_,rfl,-1,rfl,p,_,rfl,SG,?_,fun p6 H6 n6 =>?_}
  ·rintro⟨z,_⟩;have:HT.eT (V.str wd::(xs.map V.str++[V.int d])).length 0 (some 1)=1:=by
    change HT.eT _ 0 (some ((1:Nat):Int))=1;rw[HT.m5,Jo];lia
   rw[this] at z;show absurd z ∅
  rw[Ku] at n6;have s6:=s5.trans n6.same;show{p6,rfl,{_,aV.of n6.at},?_};show eh (N:=xs.length) (fun i ys H'=>H'=H6/\ys=((xs.take i).map (a9 Fo.b2)).map V.str) ⟨rfl,rfl⟩ ?_ ?_
  ·rintro i ys H7 Ny hi ⟨rfl,rfl⟩ ny;have hv:(xs.map V.str)[i]? = some (.str xs[i]):=by rw[Jk,Jd hi];rfl
   show{{_,_,aV.of n6.at,hv},Jy (show _<=100 by rw[Jc,Jc,J3];lia) ∅,?_};rintro x' H8 ⟨rfl,hy⟩;have e:=hy _ (aV.of n6.at);rw[hv] at e;cases e;have S6:xs[i]∈bJ:=ba.ok (.sp xs[i]) (Uv _ (Um (Uc hi)));have Z8:fz H8 d2 (.str xs[i]) (some (.str (a9 Fo.b2 xs[i]))):=by
    rw[<-jC (fr.n2.mem_iff.mpr S6)];show fz.k (k := .inr _) (n6.same _ _ ?_);show T3
   show gn {_,rfl,_,rfl,d2,_,rfl,Z8,ny _ _ {rfl,?_}};rw[cM hi,Jx,Jx];rfl
  ·rintro ys H7 ⟨rfl,rfl⟩;rw[U5];show{{_,aV.of n6.at,by rw[Jc];show Je _},fun pv hpv =>?_};have jl:=fr.sum xs;show{_,pv,xs.map (a9 Fo.b2),rfl,rfl,aW.of ax,?_,?_}
   ·change((xs.map (a9 Fo.b2)).map fun x=>x.length).sum+_*0<=16777216;lia
   have Zx:=fV (xs.map (a9 Fo.b2));show .inr (.inl {_,_,rfl,rfl,small ⋯,?_});have s7:=s6.trans (bb hpv (.lst ((xs.map (a9 Fo.b2)).map V.str)));have XQ:=s7.bF hp;rw[eL] at XQ;have p2:(2:Int)^kk=2*2^(kk-1):=by
    rw[show kk=(kk-1)+1 by lia,QeA,Qgo];rfl
   have pp:(0:Int)<2^(kk-1):=Int.pow_pos ∅;show{_,rfl,_,rfl,.inr (.inl {p,_,-1,.int d,rfl,rfl,XQ,aL,_,rfl,.inl {_,_,rfl,rfl,.inl {∅,∅},.inl {_,_,rfl,rfl,_,rfl,(d+2^kk).toNat,kk,?_,⋯,fun H8 s8 =>?_}}})}
   ·change[V.int (d+2*2^(kk-1)),V.int (kk:Nat)]=_;rw[QcJ ⋯,p2]
   have fl:=bZ (d+2^kk).toNat kk;show .inr (.inl {_,_,rfl,rfl,small (by rw[Qar];lia),?_});have q:=q H8 (s7.trans s8);have e:kM Fo wd (xs.map Arg.sp++[mD wd d])=some (a9 Fo.b1 wd++QaM "" (xs.map (a9 Fo.b2))++gb (d+2^kk).toNat kk):=by
    have ea:fI Fo (mD wd d)=some (gb (d+2^kk).toNat kk):=by
     rw[<-EA ⋯ cin,ekk];unfold mD;cases lH wd<;>rfl
    unfold kM;rw[vb];have:dj Fo [mD wd d]=some [gb (d+2^kk).toNat kk]:=by
     change(match fI Fo (mD wd d) with|none=>none|some x=>(some []).map (x :: ·))=_;rw[ea];rfl
    rw[this];change some (QaM "" (a9 Fo.b1 wd::(xs.map (a9 Fo.b2)++[gb (d+2^kk).toNat kk])))=_;rw[join_cons,Fw,join_cons,join_nil,uX,vL]
   rw[e] at q;show q
 ·-- set
  show{_,rfl,.inl {rfl,_,rfl,gA ?_}};dsimp only[ji];show{_,rfl,Sg,fun t4 H4 n4=>{t4,jB.map V.str,rfl,.inr (aV.of n4.at),rfl,rfl,_,rfl,Gh ?_}};dsimp only[ji];show{_,rfl,.inl {rfl,_,rfl,nW ?_}};have hx:x∈bJ:=ba.ok _ Jj;have hn:n<=255:=ba.ok _ (Jh _ Jj);have hb:=vR hn;have c2:=fr.c2 x;obtain⟨z,hz⟩:∃z,aH[dz n]? = some z:=⟨_,Jd (show dz n<9 by lia)⟩
  have ez:aH.getD (dz n) Qau=z:=by rw[Yu,hz];rfl
  have c3:=fr.c3 z;have Z3:z∈Fo.b3.map (·.1):=fr.n3.mem_iff.mpr (J0 hz);show gn ?_;show cS (t:=lX _ _) (fun σ H' =>σ=[some (.ref lp),some (.ref p),some (.ref d1),some (.ref d2),some (.str "set"),some (.str (a9 Fo.b1 "set")),none,none,some (.int (dz n:Nat))]/\H'=H4) (fun Nx nx =>?_) ?_
  ·show nz (fun m σ H'=>∃k:Nat,m=dz n-k/\k<=dz n /\ σ=[some (.ref lp),some (.ref p),some (.ref d1),some (.ref d2),some (.str "set"),some (.str (a9 Fo.b1 "set")),none,none,some (.int (k:Nat))]/\H'=H4) ⟨_,0,rfl,Ue _,rfl,rfl⟩ ?_;rintro m σ H5 ⟨k,rfl,hk,rfl,rfl⟩;show{_,rfl,k,rfl,⋯,?_};show{_,rfl,.inr (.inl {p,_,2,.int (n:Nat),rfl,rfl,n4.same.bF yK,rfl,_,_,rfl,rfl,_,rfl,?_})};have e2:(2:Int)^k<=(n:Nat)↔k<dz n:=by
    rw[<-vg];lia
   show eU (fun c =>?_) (fun c =>?_)
   ·have c:=e2.mp (of_decide_eq_true c);show{fun σ' H'=>∃m',m'<dz n-k/\_,fun _ _ h=>h,?_};show{_,rfl,.inl {_,_,rfl,rfl,dz n-(k+1),⋯,k+1,rfl,⋯,rfl,rfl}}
   ·have c:¬k<dz n:=fun y=>c (decide_eq_true (e2.mpr y));have:k=dz n:=by lia
    subst this;show nx _ _ ⟨rfl,rfl⟩
  rintro σ H5 ⟨rfl,rfl⟩;have s4:=s3.trans n4.same;have X5:=n4.same.bF yK;show{_,rfl,_,rfl,_,rfl,.inr (.inl {p,_,1,.str x,rfl,rfl,X5,rfl,d2,_,rfl,WV n4.same hx,?_})};show .inr (.inl {_,_,rfl,rfl,small ⋯,?_});obtain⟨a3,as3,rfl,sq3,al3,hT3⟩:=pV ((fk (j:=2) hD rfl rfl).same s4);show{_,rfl,.inl {lp,_,2,.ref a3,rfl,rfl,s4.seq hl,rfl,a3,as3,iE Fo.b3,rfl,sq3,al3,by rw[pX,l3];decide,hT3,fun d3 H6 n6 =>?_}};rw[jd Sf] at n6;show{rfl,fun ps H7 n7=>{_,rfl,.inl {ps,_,_,.str z,rfl,rfl,aW.of n7.at,qj (by rw[Jk];change(aH[dz n]?).map V.str=_;rw[hz];rfl),d3,_,rfl,by rw[<-jC Z3];show fz.k (k := .inr z) (n7.same _ _ n6.at),?_}}};show .inr (.inl {_,_,rfl,rfl,small (by rw[Qar];lia),gn ?_});have s7:=s4.trans (n6.same.trans n7.same);have em:(if ((dz n:Nat):Int)-1>0 then ((dz n:Nat):Int)-1 else 0)=((dz n-1:Nat):Int):=by split<;>lia
  show{_,rfl,_,rfl,.inr (.inl {p,_,2,.int (n:Nat),rfl,rfl,s7.bF hp,rfl,_,rfl,_,_,rfl,rfl,0,_,rfl,n,dz n-1,(by change[V.int ((n:Nat):Int),V.int (if ((dz n:Nat):Int)-1>0 then ((dz n:Nat):Int)-1 else 0)]=_;rw[em]),⋯,fun H8 s8 =>?_})};have fl:=bZ n (dz n-1);show .inr (.inl {_,_,rfl,rfl,small (by rw[Qar,Qar];lia),?_});have q:=q H8 (s7.trans s8);have e:kM Fo "set" [.sp x,.nu n]=some (a9 Fo.b1 "set" ++ a9 Fo.b2 x++a9 Fo.b3 z++gb n (dz n-1)):=by
   change some (QaM "" [a9 Fo.b1 "set",a9 Fo.b2 x,a9 Fo.b3 (aH.getD (dz n) Qau)++Qak (gb n (dz n)) (some 1) none])=_;rw[join_cons,join_cons,join_cons,join_nil,uX,ez,lz,vL,vL]
  rw[e] at q;show q
 ·-- the others
  have Tz:∀w∈LK,(w == "skip")=false/\jB.contains w=false/\(w == "set")=false:=∅;obtain⟨k1,k2,k3⟩:=Tz _ hw;show{_,rfl,.inl {rfl,_,rfl,gA ?_ k1}};show{_,rfl,Sg,fun t4 H4 n4=>{t4,jB.map V.str,rfl,.inr (aV.of n4.at),rfl,?_,_,rfl,Gh ?_ k2}}
  ·rfl
  show{_,rfl,.inl {rfl,_,rfl,gA ?_ k3}};have s4:=s3.trans n4.same;show{_,rfl,rfl,_,rfl,1,rfl,p,_,rfl,s4.bF hp,?_,fun p5 H5 n5 =>?_}
  ·rintro⟨z,_⟩;have:HT.eT (V.str wd::(xs.map Arg.sp).map Arg.v).length 0 (some 1)=1:=by
    change HT.eT _ 0 (some ((1:Nat):Int))=1;rw[HT.m5,Jo];lia
   rw[this] at z;show absurd z ∅
  rw[show(1:Int)=((1:Nat):Int) from rfl,GX] at n5;have e5:(V.str wd::(xs.map Arg.sp).map Arg.v).drop 1=xs.map V.str:=by rw[List.drop_succ_cons,QcO,Yh];rfl
  rw[e5] at n5;have s5:=s4.trans n5.same;show{p5,rfl,{_,aV.of n5.at},?_};show eh (N:=xs.length) (fun i ys H'=>H'=H5/\ys=((xs.take i).map (a9 Fo.b2)).map V.str) ⟨rfl,rfl⟩ ?_ ?_
  ·rintro i ys H6 Ny hi ⟨rfl,rfl⟩ ny;have hv:(xs.map V.str)[i]? = some (.str xs[i]):=by rw[Jk,Jd hi];rfl
   show{{_,_,aV.of n5.at,hv},Jy (show _<=100 by rw[Jc,Jc,J3];lia) ∅,?_};rintro x' H7 ⟨rfl,hy⟩;have e:=hy _ (aV.of n5.at);rw[hv] at e;cases e;have S6:xs[i]∈bJ:=ba.ok (.sp xs[i]) (Um (Uc hi));show gn {_,rfl,_,rfl,d2,_,rfl,WV (n4.same.trans n5.same) S6,ny _ _ {rfl,?_}};rw[cM hi,Jx,Jx];rfl
  ·rintro ys H6 ⟨rfl,rfl⟩;rw[U5];show{{_,aV.of n5.at,by rw[Jc];show Je _},fun pv hpv =>?_};have jl:=fr.sum xs;show{_,pv,xs.map (a9 Fo.b2),rfl,rfl,aW.of ax,?_,?_}
   ·change((xs.map (a9 Fo.b2)).map fun x=>x.length).sum+_*0<=16777216;lia
   have Zx:=fV (xs.map (a9 Fo.b2));show .inr (.inl {_,_,rfl,rfl,small ⋯,?_});have q:=q _ (s5.trans (bb hpv (.lst ((xs.map (a9 Fo.b2)).map V.str))));have e:kM Fo wd (xs.map Arg.sp)=some (a9 Fo.b1 wd++QaM "" (xs.map (a9 Fo.b2))):=by
    have:=vb (F:=Fo) xs [];rw[Us] at this;unfold kM;rw[this];change some (QaM "" (a9 Fo.b1 wd::(xs.map (a9 Fo.b2)++[])))=_;rw[Us,join_cons]
   rw[e] at q;show q
def Ra (K:Ja):Sp:=fun vs H Q _=>Fz fun b c t lp F z=>vs=[.ref b,.ref lp,.int (z:Nat)]/\z<=1/\Bx H b c t/\0<=t/\t<90000000/\je K (gN H b c) lp F/\iK F /\
 ∀p w as H' t',lQ w as->(z=0->∀a∈as,(fI F a).isSome=true)->H' p=some (.tup (.str w::as.map Arg.v))->p≠b->p≠c->Step b c H H' t t' 10->Q (.ref p) H'
def PF:Arg->Bool
 | .ne _=>false
 | .fa _=>false
 | _=>true
def F4 {z:Nat}{as:List Arg}(h:as.all PF=true):z=0->∀a∈as,(fI F a).isSome=true:=fun _ a ha=>by
 have:=U2.mp h a ha;cases a<;>first|rfl|cases this
def B3 (h0:0<=r)(h1:r<4):∃c,xG (Wp "abcd").cps.toList r=some c/\(⟨#[c]⟩:Str)∈bJ:=by
 have:r=0\/r=1\/r=2\/r=3:=by lia
 rcases this with rfl|rfl|rfl|rfl
 ·show{97,∅,∅}
 ·show{98,∅,∅}
 ·show{99,∅,∅}
 ·show{100,∅,∅}
def GA:∀w∈aB,w = "set" \/ w∈(["add", "take"]:List Str)\/w∈(["tell", "ask"]:List Str)\/w = "stop" \/ w = "skip" \/ w∈jB:=∅
def bV:aD ["_law_state", "_law_parts_here", "_law_beyond", "_law_word", "_law_one", "_law_other", "_law_half", "_law_some", "_law_distance"] ["_law_state", "_law_parts_here", "_law_beyond"] (ai (top gu)):=fO
def Kz (F:eC K "_law_some_bare" "_law_some_bare" (top gu) f fd)(T:Nm mg)(kJ:Fn P w K mg base 1 "_law_kinds" [] (rA aB))(aG:Fn P w K mg base 1 "_law_take" ["_law_state", "_law_many"] yh)(cQ:Fn P w K mg base 1 "_law_power" ["_law_many"] tJ)(dE:Fn P w K mg base 1 "_law_far_word" ["_law_word"] vX):aU P w K mg base dX 2 f fd ["_law_state", "_law_parts_here", "_law_beyond"] (Ra K):=by
 show F.gw bV fun H vs Q E hr h =>?_;obtain⟨b,c,t,lp,Fo,z,rfl,z1,bx,t0,t1,hP,fr,q⟩:=h;have fB:=hr.units;have nr:=fr.nr;have ff:=fr.fr;show⟨_,(af (cz (i:=3) bV.nd (aR (eW K) (qQ (kJ.mono (by first|decide|show Je _|lia)) hr rfl) (bP aG hr (aa (pv 0) (aa ah ae))) (fun _ _=>rfl)))
  (af (rD (i:=4) (j:=5) rfl bV.nd rfl rfl ∅ rfl rfl (aa (aR (eW K) ar (bP aG hr (aa (pv 0) (aa ah ae))) (fun _ _=>rfl)) (aa (aR (eW K) ar (bP aG hr (aa (pv 0) (aa ah ae))) (fun _ _=>rfl)) ae)) rfl)
  (af (aN (aw (ka K fB) (pv 3) ar (aA _)) (ag (ao (bI (aa (pv 3) (aa (pv 4) (aa (aR (eW K) (gq (aa (bP aG hr (aa (pv 0) (aa ah ae))) (aa (au dW (bP cQ hr (aa (bP aG hr (aa (pv 0) (aa ah ae))) ae)) ah) (aa ah ae)))) (bP aG hr (aa (pv 0) (aa ah ae))) (fun _ _=>rfl)) ae)))))) ay)
  (af (aN (aw (Pu K) (pv 3) (bI (aa ar (aa ar ae))) (by with_unfolding_all rfl)) (ag (ao (bI (aa (pv 3) (aa (pv 4) (aa (pv 5) ae)))))) ay)
  (af (aN (aw (Pu K) (pv 3) (bI (aa ar (aa ar ae))) (by with_unfolding_all rfl)) (ag (ao (bI (aa (pv 3) (aa (pv 4) ae))))) ay)
  (af (aN (aw (ka K fB) (pv 3) ar (aA _)) (ag (ao (bI (aa (pv 3) ae)))) ay)
  (af (aN (aw (ka K fB) (pv 3) ar (aA _)) (ag (ao (bI (aa (pv 3) (aa (bP aG hr (aa (pv 0) (aa ah ae))) ae))))) ay)
  (af (cz (i:=6) bV.nd (bP cQ hr (aa (au dW (aR (eW K) (pv 1) (au bh ah (aQ fH rfl T.n_int (by rfl) (aa (bP dE hr (aa (pv 3) ae)) ae))) (fun _ _=>rfl)) ah) ae)))
  (af (cz (i:=7) bV.nd (gq (aa (au dW (bP aG hr (aa (pv 0) (aa (au j3 ah (pv 6)) ae))) (pv 6)) (aa (au dW ah (pv 6)) (aa (au dW (pv 6) ah) (aa ah (aa (xi qz ah) (aa (au j3 (pv 6) (pv 2)) (aa (au j3 (au dW (au dW ah (pv 6)) ah) (pv 2)) ae)))))))))
  (af (cz (i:=8) bV.nd (aR (eW K) (pv 7) (bP aG hr (aa (pv 0) (aa ah ae))) (fun _ _=>rfl)))
  (ag (ao (cY (aw (Pu K) (pv 3) (bI (aa ar (aa ar ae))) (by with_unfolding_all rfl)) (bI (aa (pv 3) (aa (pv 8) ae))) (bI (aa (pv 3) (aa (pv 4) (aa (pv 8) ae))))))))))))))))),?_⟩
 show ie (te:=_) (fun v H'=>∃(wd:Str) (t':Int),v = .str wd/\wd∈aB/\Step b c H H' t t' 1) (fun Qn qn =>?_) ?_
 ·show{rfl,fun pk H1 n1=>{_,rfl,b,c,t,11,rfl,bx.same n1.same,t0,⋯,∅,∅,fun r H2 r0 r1 jz =>?_}};obtain⟨pb,pc⟩:=bx.aM n1.nn;have N0:=jz.old n1.at pb pc;have Vx:r.toNat<aB.length:=by change r.toNat<11;lia
  have hw:aB[r.toNat]? = some aB[r.toNat]:=Jd Vx;show .inl {pk,_,r,.str aB[r.toNat],rfl,rfl,aW.of N0,iV r0 (by rw[Jk,hw];rfl),qn _ _ {_,_,rfl,Uc _,((Step.same bx n1.same).trans jz).more ⋯}}
 rintro v H1 ⟨wd,t1',rfl,NM,tG⟩;have lo1:=tG.le;have Zm:=tG.ub;show gn ?_;show{_,rfl,b,c,t1',4,rfl,tG.bx,⋯,⋯,∅,∅,fun r2 H2 r20 r21 jz =>?_};obtain⟨c2,e2,hx⟩:=B3 r20 r21;show .inr (.inr {_,_,c2,rfl,rfl,∅,e2,?_});show{_,rfl,b,c,_,4,rfl,jz.bx,⋯,⋯,∅,∅,fun r3 H3 r30 r31 eF =>?_};obtain⟨c3,e3,hy⟩:=B3 r30 r31;show .inr (.inr {_,_,c3,rfl,rfl,∅,e3,_,_,rfl,gn ?_});have eF:=tG.trans (jz.trans eF);have R7:=eF.le;have Sd:=eF.ub;generalize (⟨#[c2]⟩:Str)=x at hx ⊢;generalize (⟨#[c3]⟩:Str)=y at hy ⊢;generalize t1'+1+1=t3 at eF R7 Sd
 rcases GA wd NM with rfl|hw|hw|rfl|rfl|hw
 ·-- set
  show{_,rfl,.inl {rfl,_,rfl,nW ?_}};show{_,rfl,_,rfl,_,rfl,b,c,_,256,rfl,eF.bx,⋯,⋯,∅,∅,fun r4 H4 r40 r41 gG =>?_};show{_,rfl,b,c,_,9,rfl,gG.bx,⋯,⋯,∅,∅,fun r5 H5 r50 r51 cB =>?_};have cB:=eF.trans (gG.trans cB);show{r5.toNat,by rw[QcJ r50];rfl,⋯,_,_,rfl,rfl,Hh,fun l H6 n6 =>?_};obtain⟨lb,lc⟩:=cB.bx.aM n6.nn;have iZ:=cB.cL n6;show{_,rfl,b,c,_,3,rfl,iZ.bx,⋯,⋯,∅,∅,fun r7 H7 r70 r71 eO =>?_};have hl7:=eO.old n6.at lb lc;have eO:=iZ.trans eO;have p9:2^r5.toNat<=2^8:=Y3 ∅ ⋯;have e9:(2:Int)^r5.toNat=((2^r5.toNat:Nat):Int):=by push_cast;rfl
  have p0:0<2^r5.toNat:=Qe9 _;obtain⟨n,hn,en⟩:∃n:Nat,n<=255/\([V.int r4,V.int (2^r5.toNat-1),V.int 0]:List V)[r7.toNat]? = some (.int (n:Nat)):=by
   have:r7=0\/r7=1\/r7=2:=by lia
   rcases this with rfl|rfl|rfl
   ·show{r4.toNat,⋯,by rw[QcJ r40];rfl}
   ·show{2^r5.toNat-1,⋯,?_};rw[e9,show((2^r5.toNat:Nat):Int)-1=((2^r5.toNat-1:Nat):Int) by lia];rfl
   ·show{0,∅,rfl}
  show .inl {l,_,r7,.int (n:Nat),rfl,rfl,aW.of hl7,iV r70 en,Hh,fun p H8 n8 =>?_};have iy:=eO.cL n8;show q p "set" [.sp x,.nu n] _ _ ⟨⟨_,Jj,rfl,rfl⟩,fun a ha =>?_⟩ (F4 rfl) n8.at (eO.bx.aM n8.nn).1 (eO.bx.aM n8.nn).2 (iy.more ⋯);simp only[Jq,Uo,or_false] at ha
  rcases ha with rfl|rfl
  ·show hx
  ·show hn
 ·-- add,take
  have ns:(wd == "set")=false:=(by decide +kernel:∀w∈(["add", "take"]:List Str),(w == "set")=false) _ hw;have nc:(["add", "take"]:List Str).contains wd=true:=(by decide +kernel:∀w∈(["add", "take"]:List Str),(["add", "take"]:List Str).contains w=true) _ hw;show{_,rfl,.inl {rfl,_,rfl,gA ?_ ns}};show⟨_,rfl,eV,fun t4 H4 n4=>⟨t4,(["add", "take"]:List Str).map V.str,rfl,.inr (aV.of n4.at),rfl,rfl,_,rfl,GC ?_ nc⟩⟩;show{_,rfl,_,rfl,_,rfl,Hh,fun p H8 n8 =>?_};have gG:=eF.cL n4;have iy:=gG.cL n8;show q p wd [.sp x,.sp y] _ _ {?_,fun a ha =>?_} (F4 rfl) n8.at (gG.bx.aM n8.nn).1 (gG.bx.aM n8.nn).2 (iy.more ⋯)
  ·simp only[Jq,Uo,or_false] at hw
   rcases hw with rfl|rfl
   ·show⟨("add",["spot", "spot"]),by simp,rfl,rfl⟩
   ·show⟨("take",["spot", "spot"]),by simp,rfl,rfl⟩
  ·simp only[Jq,Uo,or_false] at ha
   rcases ha with rfl|rfl
   ·show hx
   ·show hy
 ·-- tell,ask
  have ns:(wd == "set")=false:=(by decide +kernel:∀w∈(["tell", "ask"]:List Str),(w == "set")=false) _ hw;have na:(["add", "take"]:List Str).contains wd=false:=(by decide +kernel:∀w∈(["tell", "ask"]:List Str),(["add", "take"]:List Str).contains w=false) _ hw;have nc:(["tell", "ask"]:List Str).contains wd=true:=(by decide +kernel:∀w∈(["tell", "ask"]:List Str),(["tell", "ask"]:List Str).contains w=true) _ hw;show{_,rfl,.inl {rfl,_,rfl,gA ?_ ns}};show⟨_,rfl,eV,fun t4 H4 n4=>⟨t4,(["add", "take"]:List Str).map V.str,rfl,.inr (aV.of n4.at),rfl,rfl,_,rfl,Gh ?_ na⟩⟩;show⟨_,rfl,eV,fun t5 H5 n5=>⟨t5,(["tell", "ask"]:List Str).map V.str,rfl,.inr (aV.of n5.at),rfl,rfl,_,rfl,GC ?_ nc⟩⟩;show{_,rfl,_,rfl,eV,fun p H8 n8 =>?_};have cB:=(eF.cL n4).cL n5;have iy:=cB.cL n8;show q p wd [.sp x] _ _ {?_,fun a ha =>?_} (F4 rfl) n8.at (cB.bx.aM n8.nn).1 (cB.bx.aM n8.nn).2 (iy.more ⋯)
  ·simp only[Jq,Uo,or_false] at hw
   rcases hw with rfl|rfl
   ·show⟨("tell",["spot"]),by simp,rfl,rfl⟩
   ·show⟨("ask",["spot"]),by simp,rfl,rfl⟩
  ·rw[Jt.mp ha];show hx
 ·-- stop
  show{_,rfl,.inl {rfl,_,rfl,gA ?_}};show⟨_,rfl,eV,fun t4 H4 n4=>⟨t4,(["add", "take"]:List Str).map V.str,rfl,.inr (aV.of n4.at),rfl,rfl,_,rfl,Gh ?_⟩⟩;show⟨_,rfl,eV,fun t5 H5 n5=>⟨t5,(["tell", "ask"]:List Str).map V.str,rfl,.inr (aV.of n5.at),rfl,rfl,_,rfl,Gh ?_⟩⟩;show{_,rfl,.inl {rfl,_,rfl,nW ?_}};show{_,rfl,HW,fun p H8 n8 =>?_};have cB:=(eF.cL n4).cL n5;have iy:=cB.cL n8;show q p "stop" [] _ _ ⟨⟨("stop",[]),by simp,rfl,rfl⟩,fun a ha=>nomatch ha⟩ (F4 rfl) n8.at (cB.bx.aM n8.nn).1 (cB.bx.aM n8.nn).2 (iy.more ⋯)
 ·-- skip
  show{_,rfl,.inl {rfl,_,rfl,gA ?_}};show⟨_,rfl,eV,fun t4 H4 n4=>⟨t4,(["add", "take"]:List Str).map V.str,rfl,.inr (aV.of n4.at),rfl,rfl,_,rfl,Gh ?_⟩⟩;show⟨_,rfl,eV,fun t5 H5 n5=>⟨t5,(["tell", "ask"]:List Str).map V.str,rfl,.inr (aV.of n5.at),rfl,rfl,_,rfl,Gh ?_⟩⟩;show{_,rfl,.inl {rfl,_,rfl,gA ?_}};have cB:=(eF.cL n4).cL n5;show{_,rfl,.inl {rfl,_,rfl,nW ?_}};show{_,rfl,_,rfl,b,c,_,8,rfl,cB.bx,⋯,⋯,∅,∅,fun r7 H7 r70 r71 eO =>?_};have eO:=cB.trans eO;show{eV,fun p H8 n8 =>?_};have iy:=eO.cL n8;show q p "skip" [.ma r7.toNat] _ _ ⟨⟨("skip",["many"]),by simp,rfl,rfl⟩,fun a ha =>?_⟩ (F4 rfl) ?_ (eO.bx.aM n8.nn).1 (eO.bx.aM n8.nn).2 (iy.more ⋯)
  ·rw[Jt.mp ha];change r7.toNat<=7;lia
  ·change H8 p=some (.tup [.str "skip",.int (r7.toNat:Nat)]);rw[QcJ r70];show n8.at
 ·-- jumps
  have ns:∀w∈jB,(w == "set")=false/\(["add", "take"]:List Str).contains w=false/\(["tell", "ask"]:List Str).contains w=false/\(w == "stop")=false/\(w == "skip")=false:=∅;obtain⟨k1,k2,k3,k4,k5⟩:=ns _ hw;show{_,rfl,.inl {rfl,_,rfl,gA ?_ k1}};show⟨_,rfl,eV,fun t4 H4 n4=>⟨t4,(["add", "take"]:List Str).map V.str,rfl,.inr (aV.of n4.at),rfl,rfl,_,rfl,Gh ?_ k2⟩⟩;show⟨_,rfl,eV,fun t5 H5 n5=>⟨t5,(["tell", "ask"]:List Str).map V.str,rfl,.inr (aV.of n5.at),rfl,rfl,_,rfl,Gh ?_ k3⟩⟩;show{_,rfl,.inl {rfl,_,rfl,gA ?_ k4}};show{_,rfl,.inl {rfl,_,rfl,gA ?_ k5}};have cB:=(eF.cL n4).cL n5;obtain⟨kk,ekk⟩:∃kk:Nat,kk=if lH wd=true then Fo.eY else Fo.near:=⟨_,rfl⟩
  obtain⟨r1,r2,r3,hl,_⟩:=(hP.same cB.sm).ex;have hl:=MJ.seq hl;show{_,rfl,_,rfl,wd,rfl,fun H6 s6 =>.inr {lH wd,rfl,.inl {_,_,rfl,rfl,.inl {lp,_,_,.int (kk:Nat),rfl,rfl,s6.seq hl,?_,?_}}}}
  ·rw[ekk];cases lH wd<;>rfl
  have iZ:=cB.trans (Step.same cB.bx s6);show{_,_,rfl,rfl,kk-1,?_,⋯,gn ?_}
  ·change[V.int ((kk:Int)-1)]=[V.int ((kk-1:Nat):Int)]
   rw[show(kk:Int)-1=((kk-1:Nat):Int) by lia]
  have Pt:(2:Int)^(kk-1)<=32768:=by
   have:2^(kk-1)<=2^15:=Y3 ∅ ⋯;lia
  have h1:(0:Int)<2^(kk-1):=Int.pow_pos ∅;generalize hhf:(2:Int)^(kk-1)=hf at Pt h1 ⊢;show{_,rfl,_,rfl,.inl {_,_,rfl,rfl,.inl {∅,∅},b,c,_,2*hf,rfl,iZ.bx,⋯,⋯,⋯,⋯,fun r7 H7 r70 r71 eO =>?_}};have eO:=iZ.trans eO;show{_,rfl,_,_,rfl,rfl,_,rfl,_,_,rfl,rfl,_,rfl,_,_,rfl,rfl,_,rfl,_,rfl,_,rfl,.inl {_,_,rfl,rfl,.inl {⋯,⋯},?_}};show{_,rfl,_,_,rfl,rfl,_,_,rfl,rfl,_,rfl,.inl {_,_,rfl,rfl,.inl {⋯,⋯},zl7,fun l H8 n8=>gn ?_}};obtain⟨lb,lc⟩:=eO.bx.aM n8.nn;have iy:=eO.cL n8;show{_,rfl,_,rfl,b,c,_,7,rfl,iy.bx,⋯,⋯,∅,∅,fun r9 H9 r90 r91 lh =>?_};have SR:=lh.old n8.at lb lc;have lh:=iy.trans lh;have hz:z=0\/z=1:=by lia
  obtain⟨d,hd,hdz,ed⟩:∃d:Int,d.natAbs<=1000000/\(z=0 -> -hf<=d/\d<hf)/\([V.int (r7-hf),V.int (0-hf),V.int (hf-1),V.int 0,V.int (-1),V.int (hf*(z:Nat)),V.int ((0-hf-1)*(z:Nat))]:List V)[r9.toNat]? = some (.int d):=by
   have:r9=0\/r9=1\/r9=2\/r9=3\/r9=4\/r9=5\/r9=6:=by lia
   rcases this with rfl|rfl|rfl|rfl|rfl|rfl|rfl
   ·show{_,⋯,fun _=>⋯,rfl}
   ·show{_,⋯,fun _=>⋯,rfl}
   ·show{_,⋯,fun _=>⋯,rfl}
   ·show{_,∅,fun _=>⋯,rfl}
   ·show{_,∅,fun _=>⋯,rfl}
   ·show{_,by rcases hz with rfl|rfl<;>lia,fun z0=>by subst z0;lia,rfl}
   ·show{_,by rcases hz with rfl|rfl<;>lia,fun z0=>by subst z0;lia,rfl}
  show .inl {l,_,r9,.int d,rfl,rfl,aW.of SR,iV r90 ed,gn ?_};have fin:∀{p:KE} {H0 H':Hp} {as:List Arg},Step b c H H0 t (t3+1+1) 8->jI H0 p (.tup (.str wd::as.map Arg.v)) H'->(∃q∈fP,wd=q.1/\as.map Arg.kind=q.2)->(z=0->∀a∈as,(fI Fo a).isSome=true)->(∀a∈as,a.ok)->Q (.ref p) H':=fun s n h1 h3 h2=>q _ wd _ _ _ ⟨h1,h2⟩ h3 n.at (s.bx.aM n.nn).1 (s.bx.aM n.nn).2 ((s.cL n).more ⋯);have lh:=lh.more (M:=8) ⋯;have sn:z=0->(j4 d kk).isSome=true:=fun z0=>by
   obtain⟨a,b⟩:=hdz z0;unfold j4;rw[if_pos]
   ·rfl
   ·unfold inD;rw[hhf,decide_eq_true a,decide_eq_true b];rfl
  show⟨_,rfl,eV,fun t10 H10 n10=>⟨t10,(["jump", "farjump"]:List Str).map V.str,rfl,.inr (aV.of n10.at),rfl,rfl,_,rfl,?_⟩⟩;have jA:=lh.cL n10;simp only[Jq,Uo,or_false] at hw
  rcases hw with rfl|rfl|rfl|rfl
  ·show GC ⟨_,rfl,_,rfl,eV,fun p H11 n11=>fin (as:=[.ne d]) jA n11 ⟨("jump",["near"]),by simp,rfl,rfl⟩ (fun z0 a ha =>?_) fun a ha =>?_⟩
   ·rw[ekk,if_neg ∅] at sn;rw[Jt.mp ha];show sn z0
   rw[Jt.mp ha];show hd
  ·show Gh ⟨_,rfl,_,rfl,_,rfl,Hh,fun p H11 n11=>fin (as:=[.sp x,.ne d]) jA n11 ⟨("zero",["spot", "near"]),by simp,rfl,rfl⟩ (fun z0 a ha =>?_) fun a ha =>?_⟩
   ·rw[ekk,if_neg ∅] at sn;simp only[Jq,Uo,or_false] at ha
    rcases ha with rfl|rfl
    ·rfl
    ·show sn z0
   simp only[Jq,Uo,or_false] at ha
   rcases ha with rfl|rfl
   ·show hx
   ·show hd
  ·show GC ⟨_,rfl,_,rfl,eV,fun p H11 n11=>fin (as:=[.fa d]) jA n11 ⟨("farjump",["far"]),by simp,rfl,rfl⟩ (fun z0 a ha =>?_) fun a ha =>?_⟩
   ·rw[ekk,if_pos ∅] at sn;rw[Jt.mp ha];show sn z0
   rw[Jt.mp ha];show hd
  ·show Gh ⟨_,rfl,_,rfl,_,rfl,Hh,fun p H11 n11=>fin (as:=[.sp x,.fa d]) jA n11 ⟨("farzero",["spot", "far"]),by simp,rfl,rfl⟩ (fun z0 a ha =>?_) fun a ha =>?_⟩
   ·rw[ekk,if_pos ∅] at sn;simp only[Jq,Uo,or_false] at ha
    rcases ha with rfl|rfl
    ·rfl
    ·show sn z0
   simp only[Jq,Uo,or_false] at ha
   rcases ha with rfl|rfl
   ·show hx
   ·show hd
structure lG (bk:List (Str×Str)):Prop where
 le:bk.length<=11
 fr:gB (bk.map (·.2))
 cd:∀q∈bk,1<=q.2.length/\q.2.length<=11
def lZ (bk:List (Str×Str)):List (Key×V):=bk.map fun q=>(.inr q.2,.str q.1)
def lG.SD (g:lG bk){i j:Nat}{q r:Str×Str}(hq:bk[i]? = some q)(hr:bk[j]? = some r){t:List Nat}(h1:sg q.2 <+: t)(h2:sg r.2 <+: t):i=j:=by
 obtain⟨hi,rfl⟩:=Jl.mp hq;obtain⟨hj,rfl⟩:=Jl.mp hr;have pw:=fun a b ha hb uL=>by
  have:=Ut.mp g.fr a b (by rw[Jc];show ha) (by rw[Jc];show hb) uL;rwa[Y0,Y0] at this
 rcases Qcl h1 h2 with z|z
 ·rcases Qez i j with h|h|h
  ·show absurd z (pw i j hi hj h).1
  ·show h
  ·show absurd z (pw j i hj hi h).2
 ·rcases Qez i j with h|h|h
  ·show absurd z (pw i j hi hj h).2
  ·show h
  ·show absurd z (pw j i hj hi h).1
def AE {α:Type}{f: α->Key×V}{k:Key}:∀{l:List α},(∀y∈l,(f y).1≠k)->gH (l.map f) k=none
 | [],_=>rfl
 | y::l,h=>by
  rw[J2,eG (h y Jj)];show AE fun z hz=>h z (Jh _ hz)
def lG.code (g:lG bk){i:Nat}{q:Str×Str}(hq:bk[i]? = some q):gH (lZ bk) (.inr q.2)=some (.str q.1):=by
 have key:∀(l:List (Str×Str)),(∀r∈l,r.2=q.2->r=q)->q∈l->gH (l.map fun q=>((Qbb q.2:Key),V.str q.1)) (.inr q.2)=some (.str q.1):=by
  intro l
  induction l with
  | nil=>show fun _ h=>nomatch h
  | cons y l ih=>
   intro hu hx;rw[J2]
   by_cases e:y.2=q.2
   ·rw[fe (by rw[e]),hu y Jj e]
   ·rw[eG (fun z=>e (QcM z))];show ih (fun r hr=>hu r (Jh _ hr)) ((Jq.mp hx).resolve_left fun z=>e (by rw[z]))
 show key bk (fun r hr e =>?_) (J0 hq);obtain⟨j,hj⟩:=J6.mp hr;have:=g.SD hj hq (by rw[e];show Qdi _) (Qdi _);subst this;rw[hq] at hj;show(Qan hj).symm
def lD (H:Hp)(v:V)(bk:List (Str×Str)):Prop:=nP fun tp d lp (ls:List Int)=>v = .ref tp/\H tp=some (.tup [.ref d,.ref lp])/\H d=some (.dK (lZ bk))/\H lp=some (.lst (ls.map V.int))/\∀n,n∈ls ↔ ∃q∈bk,((q.2.length:Nat):Int)=n
def lD.same {v:V}{bk:List (Str×Str)}(h:lD H v bk)(s:aq H H'):lD H' v bk:=by
 obtain⟨tp,d,lp,ls,e,h1,h2,h3,h4⟩:=h;show{tp,d,lp,ls,e,s _ _ h1,s _ _ h2,s _ _ h3,h4}
def G9 (K:Ja):Sp:=fun vs H Q _=>fX fun w bk=>vs=[w]/\Den K H (OT (aO bk)) w/\lG bk/\∀v H',aq H H'->lD H' v bk->Q v H'
def kN {p q:Nat}(h1:p<=q)(h2:p<=x.length):sg (Qak x (some (p:Int)) (some (q:Int)))=((sg x).drop p).take (q-p):=by
 by_cases hq:q<=x.length
 ·have e:=Qel (x:=x) (i:=p) (j:=q) ⟨⋯,⋯,by rw[<-str_len];lia⟩;rw[eq_of_beq e,QcE,U0,show((q:Int)-p).toNat=q-p by lia]
 ·have e:=Qel (x:=x) (i:=p) (j:=(x.length:Int)) ⟨⋯,⋯,by rw[<-str_len];lia⟩;have ov:QbN (some (p:Int)) (some (q:Int)) 1 x.length=QbN (some (p:Int)) (some ((x.length:Nat):Int)) 1 x.length:=by
   unfold QbN
   congr 1
   lia
  have e2:Qak x (some (p:Int)) (some (q:Int))=Qak x (some (p:Int)) (some ((x.length:Nat):Int)):=by
   unfold Qak;rw[ov]
  rw[e2,eq_of_beq e,QcE,Uz,Uz]
  ·rfl
  ·rw[Ug,<-str_len];lia
  ·rw[Ug,<-str_len];lia
def vC:aD ["book"] ["book"] (ai (top kn)):=fO
def IW (F:eC K "lookup_of" "lookup_of" (top kn) f fd)(T:Nm mg)(gX:mg "sorted" = none):aU P w K mg base dX 1 f fd ["book"] (G9 K):=by
 show F.gw vC fun H vs Q E hr h =>?_;obtain⟨w0,bk,rfl,hB,g,q⟩:=h;show⟨_,(ag (ao (bI (aa (E9 rfl (b9 (Nc:=["name", "code"]) (js:=[])) (jx K (pv 0)) (lV (cq (bC ∅) (cq (bC ∅) jM bL dq) bL (ic bL dq))) (fun _ _ _ _ _=>(tupK K 2 rfl (aI (eX (i:=0) (pK ["name", "code"])) (aI (eX (i:=1) (pK ["name", "code"])) bM)))) (fun _ _ _ _ _=>cE) (fun _ _ _ _ _=>(pv 1)) (fun _ _ _ _ _=>(pv 0))) (aa (aj (zm rfl) rfl gX (by rfl) (aa (xf (Cu P w) rfl (b9 (Nc:=["name", "code"]) (js:=[])) (jx K (pv 0)) (lV (cq (bC ∅) (cq (bC ∅) jM bL dq) bL (ic bL dq))) (fun _ _ _ _ _=>(tupK K 2 rfl (aI (eX (i:=0) (pK ["name", "code"])) (aI (eX (i:=1) (pK ["name", "code"])) bM)))) (fun _ _ _ _ _=>cE) (fun _ _ _ _ _=>(aj (dN K) rfl T.n_len (by rfl) (aa (pv 1) ae)))) ae)) ae))))),?_⟩;obtain⟨l,vs,rfl,hl,hd⟩:=hB;have gle:=g.le;have vl:vs.length=bk.length:=by rw[<-Jc (f:=iA)];show hd.len
 have Kj:∀{i:Nat} hi {Hx:Hp},aq H Hx->∃tp,vs[i]? = some (.ref tp)/\aV K Hx tp [.str bk[i].1,.str bk[i].2]:=fun{i} hi {Hx} s=>by
  obtain⟨v,h1,h2⟩:=hd.get (by rw[Jk,Jd hi];rfl);obtain⟨tp,rfl,h3⟩:=h2.pair;show{tp,h1,s.bF h3}
 show{_,rfl,l,rfl,{_,hl},fun D hD=>{fun i m H'=>m=bk.length-i/\i<=bk.length/\H'=upd H D (.dK ((bk.take i).map fun q=>(.inr q.2,.str q.1))),{_,rfl,Ue _,rfl},?_}};rintro i m H' ⟨rfl,hi,rfl⟩;have sm:aq H (upd H D (.dK ((bk.take i).map fun q=>(.inr q.2,.str q.1)))):=bb hD _
 by_cases jq:i<bk.length
 ·obtain⟨tp,h1,h2⟩:=Kj jq sm;show .inr {{_,_,sm.bF hl,h1},?_};rintro x H2 ⟨rfl,hy⟩;have e:=hy _ (sm.bF hl);rw[h1] at e;cases e;show{tp,_,rfl,h2,rfl,_,_,rfl,_,_,rfl,rfl,{_,rfl,_,rfl,(bk.take i).map fun q=>(.inr q.2,.str q.1),.inr bk[i].2,ax,rfl,?_,bk.length-(i+1),⋯,rfl,jq,?_}}
  ·rw[Jc,J3];show Jy (show min i bk.length<=1000 by lia) ∅
  ·rw[yF _ (AE fun y hy e =>?_),Bd,cM jq,Jx]
   ·rfl
   ·obtain⟨j,hj,rfl⟩:=Yk.mp hy;rw[J3] at hj;rw[List.getElem_take] at e;have e:=QcM e;have:=g.SD (i:=j) (Jd ⋯) (Jd jq) (by rw[e];show Qdi _) (Qdi _);lia
 have ei:i=bk.length:=by lia
 subst ei;show .inl {{_,sm.bF hl,⋯},?_};rw[U5] at sm ⊢;have s1:=sm;show{_,rfl,l,rfl,{_,s1.bF hl},fun S hS=>yu (N:=bk.length) (fun i H'=>∃D',H'=upd (upd H D (.dK (lZ bk))) S (iw (Cu P w) S D')/\D'.Nodup/\D'.length<=i/\∀n,n∈D' ↔ ∃q∈bk.take i,((q.2.length:Nat):Int)=n) {[],rfl,List.nodup_nil,Je _,fun n=>{(nofun),(fun{_,h,_}=>nomatch h)}} ?_ ?_}
 ·rintro i H2 Nx hi ⟨D',rfl,nd,hle,hm⟩ nx;have sm:aq H (upd (upd H D (.dK (lZ bk))) S (iw (Cu P w) S D')):=s1.trans (bb hS _);obtain⟨tp,h1,h2⟩:=Kj hi sm;show{{_,_,sm.bF hl,h1},?_};rintro x H3 ⟨rfl,hy⟩;have e:=hy _ (sm.bF hl);rw[h1] at e;cases e;show{tp,_,rfl,h2,rfl,_,_,rfl,_,_,rfl,rfl,?_};have mm:∀{x:Int},x∈oneMore D' ((bk[i].2.length:Nat):Int)↔x∈D'\/x=((bk[i].2.length:Nat):Int):=fun{x}=>by
   unfold oneMore
   split
   ·rename_i hk;show{.inl,fun h=>h.elim id fun z=>by rw[z];show hk}
   ·rw[Ub,Jt]
  show{_,rfl,_,_,rfl,{Jf (g.cd _ (Uc hi)).2 ∅,rfl},D',((bk[i].2.length:Nat):Int),ax,rfl,⋯,nx _ {oneMore D' ((bk[i].2.length:Nat):Int),Bd,?_,?_,fun n =>?_}}
  ·unfold oneMore
   split
   ·show nd
   ·rename_i hk;show List.nodup_append.mpr {nd,U8.mpr {by simp,List.nodup_nil},fun a ha b hb e=>hk ?_};rw[<-Jt.mp hb,<-e];show ha
  ·unfold oneMore
   split
   ·lia
   ·rw[Jn];change D'.length+1<=i+1;lia
  rw[mm,hm,cM hi];constructor
  ·rintro(⟨q,hq,e⟩|rfl)
   ·show{q,Uv _ hq,e}
   ·show{bk[i],Jr _ (Jt.mpr rfl),rfl}
  ·rintro⟨q,hq,e⟩
   rcases Ub.mp hq with hq|hq
   ·show .inl ⟨q,hq,e⟩
   ·rw[Jt.mp hq] at e;show .inr e.symm
 ·rintro H2 ⟨D',rfl,nd,hle,hm⟩;have sm:aq H (upd (upd H D (.dK (lZ bk))) S (iw (Cu P w) S D')):=s1.trans (bb hS _);show{{_,sm.bF hl,⋯},S,D',rfl,ax,nd,⋯,fun ms lp H3 pm _ n3=>{eV,fun tp H4 n4 =>?_}};rw[U5] at hm;have XV:D≠S:=fun z=>by
   rw[<-z,ax] at hS;cases hS
  show q _ H4 (sm.trans (n3.same.trans n4.same)) {tp,D,lp,ms,rfl,n4.at,n4.same _ _ (n3.same _ _ (by rw[av XV];show ax)),n4.same _ _ n3.at,fun n =>?_};rw[pm.mem_iff];show hm n
def cC (l:List Nat):Nat:=l.foldl (fun n c=>2*n+(c-48)) 0
def fD (l:List Nat)(c:Nat):cC (l++[c])=2*cC l+(c-48):=by
 unfold cC;rw[List.foldl_append];rfl
def mY:∀k n,cC (jk k n)=n%2^k
 | 0,n=>by rw[Nat.pow_zero,Nat.mod_one];rfl
 | k+1,n=>by
  unfold jk;rw[fD,mY k,Qch,QdC (2^k) 2,Nat.mod_mul];lia
def gc:∀k n,∀c∈jk k n,c=48\/c=49
 | 0,_,_,h=>nomatch h
 | k+1,n,c,h=>by
  rcases Ub.mp h with h|h
  ·show gc k _ c h
  ·rw[Jt.mp h];lia
def Go:Sp:=fun vs H Q _=>∃x,vs=[.str x]/\eA x/\x.length<=1000/\Q (.int (cC (sg x):Nat)) H
variable {t3:Tok}
def gK:aD ["figures", "number", "figure"] ["figures"] (ai (top kE)):=fO
def KH (F:eC K "number_of" "number_of" (top kE) f fd)(T:Nm mg):aU P w K mg base dX 1 f fd ["figures"] Go:=by
 show F.gw gK fun H vs Q E hr h =>?_;obtain⟨x,rfl,hb,hx,q⟩:=h;show⟨_,(af (cz (i:=1) gK.nd ah)
  (af (eZ Qay rfl (Bo (pv 0)) (eX (i:=2) gK.nd) (ag (cz (i:=1) gK.nd (au bh (au j3 ah (pv 1)) (aQ Rr rfl T.n_int (by rfl) (aa (pv 2) ae))))))
  (ag (ao (pv 1))))),?_⟩
 show gn ?_;have hs:(sg x).length=x.cps.size:=rfl;show{_,rfl,x,rfl,?_,?_}
 ·rw[Yg];intro c hc
  rcases hb c (by simpa using hc) with rfl|rfl<;>decide
 show jO (N:=x.cps.size) (fun i σ H'=>∃x2,σ=[some (.str x),some (.int (cC ((sg x).take i):Nat)),x2]/\H'=H) {_,rfl,rfl} ?_ ?_
 ·rintro i σ H' hi ⟨x2,rfl,rfl⟩;show{hi,?_};rintro y H2 ⟨rfl,hy⟩;have hc:(sg x)[i]? = some ((sg x)[i]'⋯):=Jd _;have e:=hy _ (by rw[<-U3];show hc);subst e;show gn ?_;have Ey:=hb _ (J0 hc);have yk:=cM (l:=sg x) (i:=i) ⋯;generalize (sg x)[i]'⋯=c at Ey yk;show{_,rfl,.inl {_,_,rfl,rfl,.inl {∅,∅},_,rfl,{#[c]},((c-48:Nat):Int),rfl,?_,by change 1<=640;decide,.inl {_,_,rfl,rfl,gn {some (.str {#[c]}),?_,rfl}}}}
  ·rcases Ey with rfl|rfl<;>decide +kernel
  ·rw[yk,fD]
   push_cast
   rfl
 ·rintro σ H' ⟨x2,rfl,rfl⟩;show{Je _,_,rfl,?_};rw[Uz ⋯];show q
structure GL (K:Ja)(C:KE):Prop where
 c:Bl K C
 n1:dg K C "kinds"
 n2:dg K C "spots"
 n3:dg K C "sizes"
 n4:dg K C "near"
 n5:dg K C "far"
def EI (h:dv ns (aO bk)=true)(hl:bk.length<=11)(hs:∀q∈bk,q.2.length<=11):lG bk:=by
 unfold dv at h;rw[Jw,Jw] at h;obtain⟨h1,_,h3⟩:=h;obtain⟨_,hq⟩:=pR h1;have e:dh (iX (aO bk))=bk:=i9 bk;rw[e] at hq h3;show{hl,@of_decide_eq_true _ (Qby _) h3,fun q m=>{?_,hs q m}};have h4:(!decide (V.str q.2=V.str (Wp ""))&&gm q.2 dB)=true:=(hq q m).2;rw[Jw,qa] at h4;have h5:=h4.1
 by_cases z:q.2.length=0
 ·rw[decide_eq_true z] at h5;cases h5
 ·lia
def iK.GN (h:iK F):lG F.b1/\lG F.b2/\lG F.b3:=by
 obtain⟨h1,h2,h3⟩:=sC h.g.why;have l1:=h.g.l1;have l2:=h.g.l2;have l3:=h.g.l3;show{EI h1 ⋯ fun q m=>(h.g.sz q (.inl m)).2.2.2,EI h2 ⋯ fun q m=>(h.g.sz q (.inr (.inl m))).2.2.2,EI h3 ⋯ fun q m=>(h.g.sz q (.inr (.inr m))).2.2.2}
def km:∀{bk:List (Str×Str)} {x:Str},x∈bk.map (·.1)->(x,a9 bk x)∈bk
 | q::r,x,h=>by
  unfold a9
  by_cases e:q.1=x
  ·rw[if_pos e,<-e];show Jj
  ·rw[if_neg e];show Jh _ (km ((Jq.mp h).resolve_left fun z=>e z.symm))
def lD.put (h:lD H v bk)(hm:H m=some (.ins C dx fs)):lD (upd H m o) v bk:=by
 obtain⟨tp,d,lp,ls,e,h1,h2,h3,h4⟩:=h;show{tp,d,lp,ls,e,by rw[av (rq h1 hm (nofun))];show h1,by rw[av (rq h2 hm (nofun))];show h2,by rw[av (rq h3 hm (nofun))];show h3,h4}
def zZ (CR:KE)(H:Hp)(m:KE)(F:Fb):Prop:=nP fun dx w1 w2 w3=>H m=some (.ins CR dx [("kinds",w1),("spots",w2),("sizes",w3),("near",.int (F.near:Nat)),("far",.int (F.eY:Nat))])/\lD H w1 F.b1/\lD H w2 F.b2/\lD H w3 F.b3
def zZ.same {CR:KE}{H H':Hp}{m:KE}{F:Fb}(h:zZ CR H m F)(s:aq H H'):zZ CR H' m F:=by
 obtain⟨dx,w1,w2,w3,e,h1,h2,h3⟩:=h;show{dx,w1,w2,w3,s _ _ e,h1.same s,h2.same s,h3.same s}
def Fv (K:Ja)(CF CR:KE):Sp:=fun vs H Q _=>uN fun H0 m fm dx F=>vs=[.ref m,.ref fm]/\aq H0 H/\H0 m=none/\H m=some (.ins CR dx [])/\lJ K CF H0 fm F/\iK F/\∀H',aq H0 H'->zZ CR H' m F->Q .non H'
def jf {p:Nat}{y:List Nat}(h:(sg t).drop p=sg x++y)(hp:p<=t.length):p+x.length<=t.length/\(sg t).drop (p+x.length)=y:=by
 have hl:=congrArg Qc4 h;rw[Ug,Jn,<-str_len,<-str_len] at hl;show{⋯,?_};rw[<-List.drop_drop,h,List.drop_left'];show(str_len x).symm
def v9:∀{as:List Arg} {ts:List Str},dj F as=some ts->ts.length=as.length/\∀(i:Nat) a,as[i]? = some a->∃x,ts[i]? = some x/\fI F a=some x
 | [],ts,e=>by cases e;show⟨rfl,fun _ _ h=>nomatch h⟩
 | a::as,ts,e=>by
  have e:(match fI F a with|none=>none|some x=>(dj F as).map (x :: ·))=some ts:=e;cases ea:fI F a with
  | none=>rw[ea] at e;cases e
  | some x=>
   rw[ea] at e;cases er:dj F as with
   | none=>rw[er] at e;cases e
   | some us=>
    rw[er] at e;cases e;obtain⟨h1,h2⟩:=v9 er;show{by rw[Jo,Jo,h1],fun i b hb =>?_};cases i with
    | zero=>cases hb;show⟨x,rfl,ea⟩
    | succ i=>show h2 i b hb
variable {fi fp fn fb CF C aP:KE}{NR R3 RZ Sq:Qal}
def qX:aD ["self", "form"] ["self", "form"] (ai (inClass (top cZ) 0)):=fO
def KR (F:eC K "__init__" "Reader.__init__" (inClass (top cZ) 0) f fd)(T:Nm mg)(MF:Oa K CF)(MR:GL K C)(kL:Fn P w K mg base 1 "lookup_of" ["book"] (G9 K)):aU P w K mg base dX 2 f fd ["self", "form"] (Fv K CF C):=by
 show F.gw qX fun H vs Q E hr h =>?_;obtain⟨H0,m,fm,dx,Fo,rfl,sm,nm,hm,fo,fr,q⟩:=h;obtain⟨dx',w1,w2,w3,w4,w5,ho,g1,g2,g3,g4,g5⟩:=fo;obtain⟨k1,k2,k3⟩:=fr.GN;subst g4 g5;show⟨_,(af (iR (pv 0) (bP kL hr (aa (fR K (pv 1) rfl) ae)) rfl)
  (af (iR (pv 0) (bP kL hr (aa (fR K (pv 1) rfl) ae)) rfl)
  (af (iR (pv 0) (bP kL hr (aa (fR K (pv 1) rfl) ae)) rfl)
  (af (iR (pv 0) (fR K (pv 1) rfl) rfl)
  (ag (iR (pv 0) (fR K (pv 1) rfl) rfl)))))),?_⟩
 show{_,rfl,fm,CF,dx',_,w1,rfl,sm _ _ ho,MF.c,MF.n1,rfl,w1,Fo.b1,rfl,g1.same sm,k1,fun v1 H1 s1 MV =>?_};have m1:=s1 _ _ hm;show{_,rfl,m,C,dx,_,rfl,m1,MR.c,MR.n1,by change 0<1000;decide,?_};have t1:aq H0 (upd H1 m (.ins C dx [("kinds",v1)])):=la (sm.trans s1) nm;have MV:lD (upd H1 m (.ins C dx [("kinds",v1)])) v1 Fo.b1:=MV.put m1;show{_,rfl,fm,CF,dx',_,w2,rfl,t1 _ _ ho,MF.c,MF.n2,rfl,w2,Fo.b2,rfl,g2.same t1,k2,fun v2 H2 s2 RP =>?_};have m2:=s2 _ _ ax;show{_,rfl,m,C,dx,_,rfl,m2,MR.c,MR.n2,by change 1<1000;decide,?_};have t2:aq H0 (upd H2 m (.ins C dx [("kinds",v1),("spots",v2)])):=la (t1.trans s2) nm;have MV:lD (upd H2 m (.ins C dx [("kinds",v1),("spots",v2)])) v1 Fo.b1:=(MV.same s2).put m2;have RP:lD (upd H2 m (.ins C dx [("kinds",v1),("spots",v2)])) v2 Fo.b2:=RP.put m2;show{_,rfl,fm,CF,dx',_,w3,rfl,t2 _ _ ho,MF.c,MF.n3,rfl,w3,Fo.b3,rfl,g3.same t2,k3,fun v3 H3 s3 lk3 =>?_};have m3:=s3 _ _ ax;show{_,rfl,m,C,dx,_,rfl,m3,MR.c,MR.n3,by change 2<1000;decide,?_};have t3:aq H0 (upd H3 m (.ins C dx [("kinds",v1),("spots",v2),("sizes",v3)])):=la (t2.trans s3) nm;have MV:lD (upd H3 m (.ins C dx [("kinds",v1),("spots",v2),("sizes",v3)])) v1 Fo.b1:=(MV.same s3).put m3;have RP:lD (upd H3 m (.ins C dx [("kinds",v1),("spots",v2),("sizes",v3)])) v2 Fo.b2:=(RP.same s3).put m3;show{_,rfl,fm,CF,dx',_,_,rfl,t3 _ _ ho,MF.c,MF.n4,rfl,_,rfl,m,C,dx,_,rfl,ax,MR.c,MR.n4,by change 3<1000;decide,?_};have t4:=la (o := .ins C dx (kC "near" (.int (Fo.near:Nat)) [("kinds",v1),("spots",v2),("sizes",v3)])) t3 nm;show{_,rfl,fm,CF,dx',_,_,rfl,t4 _ _ ho,MF.c,MF.n5,rfl,_,rfl,m,C,dx,_,rfl,ax,MR.c,MR.n5,by change 4<1000;decide,(q _ (la t4 nm) {dx,v1,v2,v3,ax,(MV.put ax).put ax,(RP.put ax).put ax,((lk3.put m3).put ax).put ax})}
def FO:Fk->Str
 | .str x _=>x
 | _ => "?"
end
def ud:∀{l:List QdN},Qdh Pm l->Pairs (QdY P w) l (l.map fun e=>(FO e.key,e.val))
 | [],_ =>.nil
 | e::l,h=>by
  obtain⟨⟨x,t,e1,_⟩,h2⟩:=h;show .cons ?_ rfl (ud h2);change(QdY P w).is (FO e.key) e.key=true;rw[e1];show PySem.strKind_is P w x t
def wY {l:List QdN}:(l.map fun e=>(FO e.key,e.val)).map (·.1)=l.map fun e=>FO e.key:=by rw[Yh];rfl
def tf (bk:List (Str×Str))(t:Str)(p:Nat):Option (Str×Str):=bk.find? fun q=>(sg q.2).isPrefixOf ((sg t).drop p)
def nameA (bk:List (Str×Str))(t:Str)(p:Nat):Option (Str×Nat):=(tf bk t p).map fun q=>(q.1,p+q.2.length)
def ju (a t:Str)(p k:Nat):Option (Nat×Nat):=if (((sg t).drop p).take k).length=k/\(((sg t).drop p).take k).all dB.cps.contains=true then some (cC (sg a++((sg t).drop p).take k),p+k) else none
def gU (t:Str)(p:Nat):Option (Nat×Nat):=(ju "" t p 3).bind fun r=>if ((sg t).drop r.2).take r.1=Jm r.1 48 then some (r.1,r.2+r.1) else none
def oO (t:Str)(p k:Nat):Option (Int×Nat):=(ju "" t p k).map fun r=>(if (2:Int)^(k-1)<=(r.1:Nat) then ((r.1:Nat):Int)-2^k else ((r.1:Nat):Int),r.2)
def sX (x:Str)(t:Str)(e:Nat):Option (Nat×Nat):=if aH.idxOf x=0 then some (0,e) else ju "1" t e (aH.idxOf x-1)
def pO (bk:List (Str×Str))(t:Str)(p:Nat):Option (Nat×Nat):=(nameA bk t p).bind fun r=>sX r.1 t r.2
def bU (F:Fb)(k t:Str)(p:Nat):Option (Arg×Nat):=
 if k = "spot" then (nameA F.b2 t p).map fun r=>(.sp r.1,r.2)
 else if k = "number" then (pO F.b3 t p).map fun r=>(.nu r.1,r.2)
 else if k = "many" then (gU t p).map fun r=>(.ma r.1,r.2)
 else if k = "near" then (oO t p F.near).map fun r=>(.ne r.1,r.2)
 else (oO t p F.eY).map fun r=>(.fa r.1,r.2)
def bz (F:Fb):List Str->Str->Nat->Option (List Arg×Nat)
 | [],_,p=>some ([],p)
 | k::ks,t,p=>(bU F k t p).bind fun r=>(bz F ks t r.2).map fun z=>(r.1::z.1,z.2)
def kQ (w:Str):List Str:=match fP.find? fun q=>q.1==w with
 | some q=>q.2
 | none=>[]
def jV (F:Fb)(t:Str)(p:Nat):Option ((Str×List Arg)×Nat):=(nameA F.b1 t p).bind fun r=>(bz F (kQ r.1) t r.2).map fun z=>((r.1,z.1),z.2)
def Cj (o:Option (V×Nat))(p:Nat):List V:=match o with
 | none=>[.non,.int (p:Nat)]
 | some r=>[r.1,.int (r.2:Nat)]
def di (h:tf bk t p=some q):q∈bk/\sg q.2 <+: (sg t).drop p:=
 ⟨List.mem_of_find?_eq_some h,Ym.mp (List.find?_some (p:=fun q:Str×Str=>(sg q.2).isPrefixOf ((sg t).drop p)) h)⟩
def Bf (h:tf bk t p=none):∀q∈bk,¬sg q.2 <+: (sg t).drop p:=fun q hq hp=>by
 have:=List.find?_eq_none.mp h q hq;show this (Ym.mpr hp)
def GS (g:lG bk){t:Str}{p:Nat}{q:Str×Str}(hq:q∈bk)(hp:sg q.2 <+: (sg t).drop p):tf bk t p=some q:=by
 cases e:tf bk t p with
 | none=>show absurd hp (Bf e q hq)
 | some r=>
  obtain⟨hr,zW⟩:=di e;obtain⟨i,hi⟩:=J6.mp hq;obtain⟨j,hj⟩:=J6.mp hr;have:=g.SD hi hj hp zW;subst this;rw[hi] at hj;show hj.symm
def vB {p:Nat}{q:Str×Str}(hp:p<=t.length)(h:tf bk t p=some q):p+q.2.length<=t.length:=by
 have:=(di h).2.length_le;rw[Ug,<-str_len,<-str_len] at this;lia
def ia {p:Nat}{r:Str×Nat}(hp:p<=t.length)(h:nameA bk t p=some r):r.2<=t.length:=by
 obtain⟨q,e,rfl⟩:=Option.map_eq_some_iff.mp h;show vB hp e
def qo {p k:Nat}{r:Nat×Nat}(hp:p<=t.length)(h:ju a t p k=some r):r.2=p+k/\p+k<=t.length:=by
 unfold ju at h
 split at h
 ·rename_i c;cases h;have:=c.1;rw[J3,Ug,<-str_len] at this;show{rfl,⋯}
 ·cases h
def Lr (K:Ja):Sp:=fun vs H Q _=>Fz fun d lp (ls:List Int) bk (t:Str) (p:Nat)=>vs=[.ref d,.ref lp,.str t,.int (p:Nat)]/\H d=some (.dK (lZ bk))/\aW K H lp (ls.map V.int)/\(∀n,n∈ls ↔ ∃q∈bk,((q.2.length:Nat):Int)=n) /\
 lG bk/\p<=t.length/\t.length<=1000000/\Q (.str (match tf bk t p with|some q=>q.2|none => "")) H
def BE (K:Ja):Sp:=fun vs H Q _=>nP fun v bk (t:Str) (p:Nat)=>vs=[v,.str t,.int (p:Nat)]/\lD H v bk/\lG bk/\p<=t.length/\t.length<=1000000 /\
 ∀tp H',aq H H'->aV K H' tp (Cj ((nameA bk t p).map fun r=>(.str r.1,r.2)) p)->Q (.ref tp) H'
def BM (K:Ja):Sp:=fun vs H Q _=>nP fun a t p k=>vs=[.str a,.str t,.int (p:Nat),.int (k:Nat)]/\eA a/\a.length<=1/\k<=60/\p<=t.length/\t.length<=1000000 /\
 ∀tp H',aq H H'->aV K H' tp (Cj ((ju a t p k).map fun r=>(.int (r.1:Nat),r.2)) p)->Q (.ref tp) H'
def Ln (K:Ja):Sp:=fun vs H Q _=>fX fun t p=>vs=[.str t,.int (p:Nat)]/\p<=t.length/\t.length<=1000000 /\
 ∀tp H',aq H H'->aV K H' tp (Cj ((gU t p).map fun r=>(.int (r.1:Nat),r.2)) p)->Q (.ref tp) H'
def LX (K:Ja):Sp:=fun vs H Q _=>pW fun t p k=>vs=[.str t,.int (p:Nat),.int (k:Nat)]/\1<=k/\k<=60/\p<=t.length/\t.length<=1000000 /\
 ∀tp H',aq H H'->aV K H' tp (Cj ((oO t p k).map fun r=>(.int r.1,r.2)) p)->Q (.ref tp) H'
section
variable {P:Qac}{w:Qag}{K:Ja}{mg:Str->Option Fk}{base:Heap}{f:KE}{fd:Qal}{t3:Tok}
def l8:aD ["names_by_code", "lengths", "text", "place", "length", "code"] ["names_by_code", "lengths", "text", "place"] (ai (top oQ)):=fO
def NO (F:eC K "code_at" "code_at" (top oQ) f fd)(T:Nm mg):aU P w K mg base dX 1 f fd ["names_by_code", "lengths", "text", "place"] (Lr K):=by
 show F.gw l8 fun H vs Q E hr h =>?_;obtain⟨d,lp,ls,bk,t,p,rfl,hd,hl,hm,g,hp,ht,q⟩:=h;show⟨_,(af (eZ Qay rfl (FQ K (pv 1)) (eX (i:=4) l8.nd) (af (cz (i:=5) l8.nd (bt (xW K) (pv 2) (aY (pv 3)) (aY (au bh (pv 3) (pv 4)))))
  (ag (aN (Ob (OH (lP hr) (pv 5) (pv 0))) (ag (ao (pv 5))) ay))))
  (ag (ao ar))),?_⟩
 show cS (fun σ H'=>tf bk t p=none/\H'=H) (fun Nx nx =>?_) ?_
 ·show{_,rfl,lp,rfl,{_,hl},?_};show jO (N:=ls.length) (fun i σ H'=>∃x4 x5,σ=[some (.ref d),some (.ref lp),some (.str t),some (.int (p:Nat)),x4,x5]/\H'=H/\∀q∈bk,((q.2.length:Nat):Int)∈ls.take i->¬sg q.2 <+: (sg t).drop p) {_,_,rfl,rfl,fun _ _ h=>nomatch h} ?_ ?_
  ·rintro i σ H2 hi ⟨x4,x5,rfl,rfl,Ej⟩;have hv:(ls.map V.int)[i]? = some (.int ls[i]):=by rw[Jk,Jd hi];rfl
   show{{_,_,hl,hv},?_};rintro x H3 ⟨rfl,hy⟩;have e:=hy _ hl;rw[hv] at e;cases e;obtain⟨r0,hr0,er⟩:=(hm ls[i]).mp (Uc hi);generalize hL:ls[i]=L at er ⊢;obtain⟨m,rfl⟩:∃m:Nat,L=m:=⟨r0.2.length,er.symm⟩
   show gn {_,rfl,_,rfl,_,rfl,_,rfl,_,rfl,.inl {_,_,rfl,rfl,_,rfl,.inr {t,rfl,(Jf ht ∅),gn ?_}}};have oK:sg (Qak t (some (p:Int)) (some ((p:Int)+(m:Int))))=((sg t).drop p).take m:=by
    rw[show((p:Int)+(m:Int))=((p+m:Nat):Int) by lia,kN (Ua _ _) hp]
    congr 1
    lia
   generalize Qak t (some (p:Int)) (some ((p:Int)+(m:Int)))=c at oK ⊢
   by_cases hc:∃r∈bk,r.2=c
   ·obtain⟨r,hr,rfl⟩:=hc;obtain⟨ir,hir⟩:=J6.mp hr;show{_,rfl,_,rfl,d,_,rfl,.inl {_,.inr r.2,.inl hd,rfl,rfl},?_};rw[g.code hir];show{_,rfl,br {_,rfl,?_}};rw[GS g hr (by rw[oK];show List.take_prefix _ _)] at q;show q
   ·show{_,rfl,_,rfl,d,_,rfl,.inl {_,.inr c,.inl hd,rfl,rfl},?_};have hn:gH (lZ bk) (.inr c)=none:=AE fun y hy e=>hc ⟨y,hy,by injection e⟩;rw[hn];show{_,rfl,bf {_,_,rfl,rfl,fun q0 o jb =>?_}};rw[cM hi,hL] at jb
    rcases Ub.mp jb with h|h
    ·show Ej _ o h
    ·have hlen:q0.2.length=m:=by have:=Jt.mp h;lia
     show fun ve=>hc {q0,o,fQ ?_};change sg q0.2=sg c;rw[oK,<-hlen,str_len];show List.prefix_iff_eq_take.mp ve
  ·rintro σ H2 ⟨x4,x5,rfl,rfl,Ej⟩;rw[U5] at Ej;show{{_,hl,by rw[Jc];show Je _},nx _ _ {?_,rfl}};cases e:tf bk t p with
   | none=>rfl
   | some q0=>
    obtain⟨o,ve⟩:=di e;show absurd ve (Ej _ o ((hm _).mpr ⟨q0,o,rfl⟩))
 ·rintro σ H' ⟨e,rfl⟩;rw[e] at q;show q
def gI:aD ["lookup", "text", "place", "names_by_code", "lengths", "code"] ["lookup", "text", "place"] (ai (top j7)):=fO
def N9 (F:eC K "name_from" "name_from" (top j7) f fd)(T:Nm mg)(CQ:Fn P w K mg base 1 "code_at" ["names_by_code", "lengths", "text", "place"] (Lr K)):aU P w K mg base dX 2 f fd ["lookup", "text", "place"] (BE K):=by
 show F.gw gI fun H vs Q E hr h =>?_;obtain⟨v,bk,t,p,rfl,⟨tp,d,lp,ls,rfl,h1,h2,h3,h4⟩,g,hp,ht,q⟩:=h;show⟨_,(af (iM (pv 0) (tupK K 2 rfl (aI (eX (i:=3) gI.nd) (aI (eX (i:=4) gI.nd) bM))))
  (af (cz (i:=5) gI.nd (bP CQ hr (aa (pv 3) (aa (pv 4) (aa (pv 1) (aa (pv 2) ae))))))
  (af (aN (aw (ka K hr.units) (pv 5) ar (aA _)) (ag (ao (bI (aa aX (aa (pv 2) ae))))) ay)
  (ag (ao (bI (aa (bS (lP hr) (pv 3) (pv 5) (fun _ _=>rfl)) (aa (au bh (pv 2) (aj (dN K) rfl T.n_len (by rfl) (aa (pv 5) ae))) ae)))))))),?_⟩
 show{_,rfl,tp,_,rfl,aV.of h1,rfl,_,_,rfl,_,_,rfl,rfl,{_,rfl,_,rfl,_,rfl,_,rfl,d,lp,ls,bk,t,p,rfl,h2,aW.of h3,h4,g,hp,ht,gn ?_}};unfold nameA at q;cases e:tf bk t p with
 | none=>
  rw[e] at q;show{_,rfl,.inl {rfl,_,rfl,nW {_,rfl,eV,fun tq H5 n5=>q tq H5 n5.same (aV.of n5.at)}}}
 | some q0=>
  rw[e] at q;obtain⟨o,ve⟩:=di e;obtain⟨iq,hiq⟩:=J6.mp o;have c1:=g.cd _ o;show{_,rfl,.inl {rfl,_,rfl,gA ?_ ?_}}
  ·show{_,rfl,_,rfl,d,_,rfl,by rw[<-g.code hiq];show fz.k (k := .inr q0.2) h2,?_};show{_,rfl,_,rfl,_,_,rfl,{Jf c1.2 ∅,rfl},.inl {_,_,rfl,rfl,eV,fun tq H5 n5=>q tq H5 n5.same (aV.of n5.at)}}
  ·show beq_eq_false_iff_ne.mpr fun z =>?_;have z:q0.2 = "":=z;rw[z] at c1;show absurd c1.1 ∅
def jU:aD ["ahead", "text", "place", "many", "figures"] ["ahead", "text", "place", "many"] (ai (top ib)):=fO
def Nz (F:eC K "figures_from" "figures_from" (top ib) f fd)(T:Nm mg)(lA:mg "SIGNS" = some (.str dB t3))(jg:Fn P w K mg base 1 "made_of" ["text", "signs"] vV)(wJ:Fn P w K mg base 1 "number_of" ["figures"] Go):aU P w K mg base dX 2 f fd ["ahead", "text", "place", "many"] (BM K):=by
 show F.gw jU fun H vs Q E hr h =>?_;obtain⟨a,t,p,k,rfl,ha,Ew,hk,hp,ht,q⟩:=h;show⟨_,(af (cz (i:=4) jU.nd (bt (xW K) (pv 1) (aY (pv 2)) (aY (au bh (pv 2) (pv 3)))))
  (af (aN (PW.pt (jW (aw (Cq K hr.units) (aj (dN K) rfl T.n_len (by rfl) (aa (pv 4) ae)) (pv 3) (aA _)) (iQ (dM (bX (bP jg hr (aa (pv 4) (aa (u0 rfl lA) ae)))))))) (ag (ao (bI (aa aX (aa (pv 2) ae))))) ay)
  (ag (ao (bI (aa (bP wJ hr (aa (au bh (pv 0) (pv 4)) ae)) (aa (au bh (pv 2) (pv 3)) ae))))))),?_⟩
 show{_,rfl,_,rfl,_,rfl,_,rfl,_,rfl,.inl {_,_,rfl,rfl,_,rfl,.inr {t,rfl,(Jf ht ∅),gn ?_}}};have oK:sg (Qak t (some (p:Int)) (some ((p:Int)+(k:Int))))=((sg t).drop p).take k:=by
  rw[show((p:Int)+(k:Int))=((p+k:Nat):Int) by lia,kN (Ua _ _) hp]
  congr 1
  lia
 unfold ju at q;rw[<-oK,<-jL,<-str_len] at q;generalize Qak t (some (p:Int)) (some ((p:Int)+(k:Int)))=c at oK q ⊢;have tH:c.length<=k:=by rw[str_len];change(sg c).length<=k;rw[oK];show Qd3 _ _
 show{_,rfl,_,_,rfl,{Jf (Jf tH hk) ∅,rfl},_,rfl,.inl {rfl,_,rfl,?_}}
 by_cases hl:c.length=k
 ·rw[decide_eq_true (show V.int ((c.length:Nat):Int)=V.int (k:Nat) by rw[hl])];show bf {_,rfl,c,dB,rfl,Jf (Jf tH hk) ∅,?_};cases hm:gm c dB with
  | true=>
   rw[if_pos ⟨hl,hm⟩] at q;show{_,rfl,bf {_,rfl,_,rfl,.inr (.inl {_,_,rfl,rfl,?_,?_})}}
   ·show Jf (show a.length+c.length<=61 by lia) ∅
   have hb:eA (a++c):=fun x hx=>by
    rw[aK] at hx
    rcases Ub.mp hx with h|h
    ·show ha x h
    ·rw[jL,U2] at hm;have:=hm x h;rw[show dB.cps = #[48,49] by decide +kernel] at this;simpa using this
   show{a++c,rfl,hb,by rw[Qar];lia,_,rfl,_,rfl,.inl {_,_,rfl,rfl,eV,fun tp H5 n5=>q tp H5 n5.same ?_}};have:=aV.of (K:=K) n5.at;rw[show sg (a++c)=sg a++sg c from aK _ _] at this;show this
  | false=>
   rw[if_neg (fun z=>by rw[hm] at z;show absurd z.2 ∅)] at q;show{_,rfl,br {_,rfl,eV,fun tq H5 n5=>q tq H5 n5.same (aV.of n5.at)}}
 ·rw[decide_eq_false (show ¬V.int ((c.length:Nat):Int)=V.int (k:Nat) from fun z=>hl (by injection z with z;lia))];rw[if_neg (fun z=>hl z.1)] at q;show br {_,rfl,eV,fun tq H5 n5=>q tq H5 n5.same (aV.of n5.at)}
def pQ:∀{l:List Nat},(∀c∈l,c=48\/c=49)->cC l<2^l.length:=by
 intro l
 induction hn:l.length generalizing l with
 | zero=>
  intro _;rw[Ys.mp hn];show Nat.one_pos
 | succ n ih=>
  intro h;obtain⟨m,c,rfl⟩:∃m c,l=m++[c]:=⟨l.dropLast,l.getLast (by rintro rfl;cases hn),(QeZ _).symm⟩
  rw[Jn] at hn;have i1:=ih (Qd1 hn) fun x hx=>h x (Uv _ hx);rw[fD,Qch]
  rcases h c (Jr _ (Jt.mpr rfl)) with rfl|rfl<;>lia
def Nk (h:ju "" t p k=some r):r.1<2^k:=by
 unfold ju at h
 split at h
 ·rename_i c;cases h;have:=pQ fun x hx=>by
   have:=U2.mp c.2 x hx;rw[show dB.cps = #[48,49] by decide +kernel] at this;simpa using this
  rwa[c.1] at this
 ·cases h
def qI (hn:n<8):(c=Qbx (Wp "0") (n:Nat))↔sg c=Jm n 48:=by
 have key:∀n,n<8->sg (Qbx (Wp "0") (n:Nat))=Jm n 48:=∅;rw[<-key n hn];show{fun h=>by rw[h],fun h=>fQ h}
def jK:aD ["text", "place", "many", "end"] ["text", "place"] (ai (top kq)):=fO
def Ml (F:eC K "many_from" "many_from" (top kq) f fd)(T:Nm mg)(gV:mg "SKIP_FIGURES" = some (.int 3 t3))(dS:Fn P w K mg base 2 "figures_from" ["ahead", "text", "place", "many"] (BM K)):aU P w K mg base dX 3 f fd ["text", "place"] (Ln K):=by
 show F.gw jK fun H vs Q E hr h =>?_;obtain⟨t,p,rfl,hp,ht,q⟩:=h;show⟨_,(af (iM (bP dS hr (aa ar (aa (pv 0) (aa (pv 1) (aa (mZ rfl gV) ae))))) (tupK K 2 rfl (aI (eX (i:=2) jK.nd) (aI (eX (i:=3) jK.nd) bM))))
  (af (aN (PW.pt (jW (aw nN (pv 2) aX (aA _)) (iQ (aw (Cq K hr.units) (bt (xW K) (pv 0) (aY (pv 3)) (aY (au bh (pv 3) (pv 2)))) (au Ma ar (pv 2)) (aA _))))) (ag (ao (bI (aa aX (aa (pv 1) ae))))) ay)
  (ag (ao (bI (aa (pv 2) (aa (au bh (pv 3) (pv 2)) ae))))))),?_⟩
 show⟨_,rfl,_,rfl, "",t,p,3,rfl,(fun _ h=>nomatch h),∅,∅,hp,ht,fun tp H1 s1 h1 =>?_⟩;unfold gU at q;cases e:ju "" t p 3 with
 | none=>
  rw[e] at h1 q;show{tp,_,rfl,h1,rfl,_,_,rfl,_,_,rfl,rfl,{_,rfl,.inl {rfl,_,rfl,(br (br {_,rfl,eV,fun tq H5 n5=>q tq H5 (s1.trans n5.same) (aV.of n5.at)}))}}}
 | some r=>
  rw[e] at h1 q;obtain⟨e1,e2⟩:=qo hp e;have Zv:=Nk e;show{tp,_,rfl,h1,rfl,_,_,rfl,_,_,rfl,rfl,{_,rfl,.inl {rfl,_,rfl,(bf {_,rfl,_,rfl,_,rfl,_,rfl,_,rfl,.inl {_,_,rfl,rfl,_,rfl,.inr {t,rfl,(Jf ht ∅),?_}}})}}};have oK:sg (Qak t (some (r.2:Int)) (some ((r.2:Int)+(r.1:Int))))=((sg t).drop r.2).take r.1:=by
   rw[show((r.2:Int)+(r.1:Int))=((r.2+r.1:Nat):Int) by lia,kN (Ua _ _) ⋯]
   congr 1
   lia
  have q:∀tp H',aq H H'->aV K H' tp (Cj ((if ((sg t).drop r.2).take r.1=Jm r.1 48 then some (r.1,r.2+r.1) else none).map fun r=>(V.int (r.1:Nat),r.2)) p)->Q (.ref tp) H':=q;rw[<-oK] at q;generalize Qak t (some (r.2:Int)) (some ((r.2:Int)+(r.1:Int)))=c at q ⊢;show{_,rfl,.inr {_,_,rfl,rfl,pC ∅ ⋯ ⋯,(.inl {rfl,?_})}};have ee:=qI (c:=c) Zv
  by_cases hc:c=Qbx (Wp "0") (r.1:Nat)
  ·rw[if_pos (ee.mp hc)] at q;rw[decide_eq_true (show V.str c=V.str (Qbx (Wp "0") (r.1:Nat)) by rw[hc])];show{_,rfl,bf {_,rfl,_,rfl,_,rfl,.inl {_,_,rfl,rfl,eV,fun tq H5 n5=>q tq H5 (s1.trans n5.same) (aV.of n5.at)}}}
  ·rw[if_neg (fun z=>hc (ee.mpr z))] at q;rw[decide_eq_false (show ¬V.str c=V.str (Qbx (Wp "0") (r.1:Nat)) from fun z=>hc (by injection z))];show{_,rfl,br {_,rfl,eV,fun tq H5 n5=>q tq H5 (s1.trans n5.same) (aV.of n5.at)}}
def d7:aD ["text", "place", "many", "number", "end"] ["text", "place", "many"] (ai (top gD)):=fO
def Mr (F:eC K "distance_from" "distance_from" (top gD) f fd)(T:Nm mg)(xI:Fn P w K mg base 1 "two_to" ["power"] tJ)(dS:Fn P w K mg base 2 "figures_from" ["ahead", "text", "place", "many"] (BM K)):aU P w K mg base dX 3 f fd ["text", "place", "many"] (LX K):=by
 show F.gw d7 fun H vs Q E hr h =>?_;obtain⟨t,p,k,rfl,k1,k2,hp,ht,q⟩:=h;show⟨_,(af (iM (bP dS hr (aa ar (aa (pv 0) (aa (pv 1) (aa (pv 2) ae))))) (tupK K 2 rfl (aI (eX (i:=3) d7.nd) (aI (eX (i:=4) d7.nd) bM))))
  (af (aN (aw nN (pv 3) aX (aA _)) (ag (ao (bI (aa aX (aa (pv 1) ae))))) ay)
  (af (aN (aw Bv (pv 3) (bP xI hr (aa (au dW (pv 2) ah) ae)) (aA _)) (ag (Hy (i:=3) d7.nd rfl (Qd0 rfl) (bP xI hr (aa (pv 2) ae)) MZ)) ay)
  (ag (ao (bI (aa (pv 3) (aa (pv 4) ae)))))))),?_⟩
 show⟨_,rfl,_,rfl,_,rfl, "",t,p,k,rfl,(fun _ h=>nomatch h),∅,⋯,hp,ht,fun tp H1 s1 h1 =>?_⟩;unfold oO at q;cases e:ju "" t p k with
 | none=>
  rw[e] at h1 q;show{tp,_,rfl,h1,rfl,_,_,rfl,_,_,rfl,rfl,{_,rfl,.inl {rfl,_,rfl,(br {_,rfl,eV,fun tq H5 n5=>q tq H5 (s1.trans n5.same) (aV.of n5.at)})}}}
 | some r=>
  rw[e] at h1 q;show{tp,_,rfl,h1,rfl,_,_,rfl,_,_,rfl,rfl,{_,rfl,.inl {rfl,_,rfl,(bf ?_)}}};have q:∀tp H',aq H H'->aV K H' tp [.int (if (2:Int)^(k-1)<=(r.1:Nat) then ((r.1:Nat):Int)-2^k else ((r.1:Nat):Int)),.int (r.2:Nat)]->Q (.ref tp) H':=q;show{_,rfl,_,rfl,_,_,rfl,rfl,k-1,?_,⋯,?_}
  ·change[V.int ((k:Int)-1)]=[V.int ((k-1:Nat):Int)]
   rw[show(k:Int)-1=((k-1:Nat):Int) by lia]
  show{_,_,rfl,rfl,_,rfl,(eU (fun c =>?_) (fun c =>?_))}
  ·have c:=of_decide_eq_true c;rw[if_pos c] at q;show{_,rfl,_,rfl,k,rfl,⋯,_,_,rfl,rfl,{_,rfl,_,rfl,eV,fun tq H5 n5=>q tq H5 (s1.trans n5.same) (aV.of n5.at)}}
  ·have c:=fun z=>c (decide_eq_true z);rw[if_neg c] at q;show{_,rfl,_,rfl,eV,fun tq H5 n5=>q tq H5 (s1.trans n5.same) (aV.of n5.at)}
def Kl (K:Ja)(H:Hp)(tp:KE)(o:Option (V×Nat)):Prop:=match o with
 | none=>∃e,aV K H tp [.non,.int (e:Nat)]
 | some r=>aV K H tp [r.1,.int (r.2:Nat)]
end
def F5 (h:aV K H tp (Cj o p)):Kl K H tp o:=by
 cases o with
 | none=>show⟨p,h⟩
 | some r=>show h
def ZX (h:∀H,aV K H a xs)(H:Hp):Rg K "tuple" (.ref a) H:=by
 have h0:aV K (fun _=>none) a xs:=h _
 rcases h0 with h|⟨o,aF,n,hk,hc,hd,_⟩
 ·rcases h with h|⟨o,h⟩<;>cases h
 ·show .inr (.inl ⟨rfl,o,hk,hc,hd⟩)
def Le (K:Ja)(CR:KE):Sp:=fun vs H Q _=>nP fun m F t p=>vs=[.ref m,.str t,.int (p:Nat)]/\zZ CR H m F/\iK F/\p<=t.length/\t.length<=1000000 /\
 ∀tp H',aq H H'->Kl K H' tp ((pO F.b3 t p).map fun r=>(.int (r.1:Nat),r.2))->Q (.ref tp) H'
def LD (K:Ja)(CR:KE):Sp:=fun vs H Q _=>uN fun m F k t p=>vs=[.ref m,.str k,.str t,.int (p:Nat)]/\k∈[("spot" : Str), "number", "many", "near", "far"]/\zZ CR H m F/\iK F/\p<=t.length/\t.length<=1000000 /\
 ∀tp H',aq H H'->Kl K H' tp ((bU F k t p).map fun r=>(r.1.v,r.2))->Q (.ref tp) H'
def Lg (K:Ja)(H:Hp)(tp:KE)(o:Option ((Str×List Arg)×Nat))(p:Nat):Prop:=match o with
 | none=>aV K H tp [.non,.int (p:Nat)]
 | some r=>∃bp,aV K H tp [.ref bp,.int (r.2:Nat)]/\aV K H bp (.str r.1.1::r.1.2.map Arg.v)
def Lb (K:Ja)(CR:KE):Sp:=fun vs H Q _=>nP fun m F t p=>vs=[.ref m,.str t,.int (p:Nat)]/\zZ CR H m F/\iK F/\p<=t.length/\t.length<=1000000 /\
 ∀tp H',aq H H'->Lg K H' tp (jV F t p) p->Q (.ref tp) H'
def uw {α:Type}[BEq α][LawfulBEq α]{l:List α}{x: α}(hm:x∈l):l[l.idxOf x]? = some x/\(∀m,m<l.idxOf x->l[m]? ≠ some x)/\l.idxOf x<l.length:=by
 have hl:=List.idxOf_lt_length_iff.mpr hm;show{?_,fun m jq z =>?_,hl}
 ·rw[Jd hl,List.getElem_idxOf hl]
 ·obtain⟨h1,h2⟩:=Jl.mp z;have:=Qf2 jq;rw[h2] at this;simp at this
def Pn:aH.length=9:=∅
def BB (h:iK F){t:Str}{p:Nat}{r:Str×Nat}(e:nameA F.b3 t p=some r):aH[aH.idxOf r.1]? = some r.1/\(∀m,m<aH.idxOf r.1->aH[m]? ≠ some r.1)/\aH.idxOf r.1<9:=by
 obtain⟨q,e',e''⟩:=Option.map_eq_some_iff.mp e;have hm:r.1∈aH:=by rw[<-e''];show h.n3.mem_iff.mp (Um (di e').1)
 obtain⟨a,b,c⟩:=uw hm;show{a,b,by rw[<-Pn];show c}
section
variable {P:Qac}{w:Qag}{K:Ja}{mg:Str->Option Fk}{base:Heap}{f fi fp fn fb CF C aP aZ:KE}{fd NR R3 RZ Sq:Qal}{t3:Tok}
def cj:aD ["self", "text", "place", "name", "end", "size"] ["self", "text", "place"] (ai (inClass (top cZ) 3)):=fO
def MO (F:eC K "number_from" "Reader.number_from" (inClass (top cZ) 3) f fd)(T:Nm mg)(MR:GL K C)(jF:mg "SIZE_NAMES" = some (.ref aZ))(hZ:∀H,aV K H aZ (aH.map V.str))(fU:Fn P w K mg base 2 "name_from" ["lookup", "text", "place"] (BE K))(dS:Fn P w K mg base 2 "figures_from" ["ahead", "text", "place", "many"] (BM K)):aU P w K mg base dX 3 f fd ["self", "text", "place"] (Le K C):=by
 show F.gw cj fun H vs Q E hr h =>?_;obtain⟨m,Fo,t,p,rfl,rd,fr,hp,ht,q⟩:=h;obtain⟨k1,k2,k3⟩:=fr.GN;obtain⟨dx,w1,w2,w3,hm,l1,l2,l3⟩:=id rd;show⟨_,(af (iM (bP fU hr (aa (fR K (pv 0) rfl) (aa (pv 1) (aa (pv 2) ae)))) (tupK K 2 rfl (aI (eX (i:=3) cj.nd) (aI (eX (i:=4) cj.nd) bM))))
  (af (aN (aw nN (pv 3) aX (aA _)) (ag (ao (bI (aa aX (aa (pv 2) ae))))) ay)
  (af (cz (i:=5) cj.nd (qd K PySem.F.plainAttrs_tuple PySem.F.slot_tuple_index PySem.F.type_tuple_index (ML K) (cR rfl jF) (aa (pv 3) ae)))
  (af (aN (aw (ka K hr.units) (pv 5) ah (aA _)) (ag (ao (bI (aa ah (aa (pv 4) ae))))) ay)
  (ag (ao (bP dS hr (aa ar (aa (pv 1) (aa (pv 4) (aa (au dW (pv 5) ah) ae))))))))))),?_⟩
 show{_,rfl,m,C,dx,_,w3,rfl,hm,MR.c,MR.n3,rfl,_,rfl,_,rfl,w3,Fo.b3,t,p,rfl,l3,k3,hp,ht,fun tp H1 s1 h1 =>?_};unfold pO at q;cases e:nameA Fo.b3 t p with
 | none=>
  rw[e] at h1 q;show{tp,_,rfl,h1,rfl,_,_,rfl,_,_,rfl,rfl,{_,rfl,.inl {rfl,_,rfl,(br {_,rfl,eV,fun tq H5 n5=>q tq H5 (s1.trans n5.same) {p,aV.of n5.at}})}}}
 | some r=>
  rw[e] at h1 q;obtain⟨z1,z2,z3⟩:=BB fr e;show{tp,_,rfl,h1,rfl,_,_,rfl,_,_,rfl,rfl,{_,rfl,.inl {rfl,_,rfl,(bf {ZX hZ _,_,rfl,aZ,aH,r.1,aH.idxOf r.1,rfl,rfl,hZ _,z1,z2,gn ?_})}}};have q:∀tp H',aq H H'->Kl K H' tp ((sX r.1 t r.2).map fun r=>(V.int (r.1:Nat),r.2))->Q (.ref tp) H':=q;unfold sX at q;show{_,rfl,.inl {rfl,_,rfl,?_}}
  by_cases hz:aH.idxOf r.1=0
  ·rw[if_pos hz] at q;rw[decide_eq_true (show V.int ((aH.idxOf r.1:Nat):Int)=V.int 0 by rw[hz];rfl)];show br {_,rfl,eV,fun tq H5 n5=>q tq H5 (s1.trans n5.same) (aV.of n5.at)}
  ·rw[if_neg hz] at q;rw[decide_eq_false (show ¬V.int ((aH.idxOf r.1:Nat):Int)=V.int 0 from fun z=>hz (by injection z with z;lia))];show bf ⟨_,rfl,_,rfl,_,rfl,_,_,rfl,rfl, "1",t,r.2,aH.idxOf r.1-1,?_,?_,∅,⋯,(ia hp e),ht,fun tq H5 s5 h5=>q tq H5 (s1.trans s5) (F5 h5)⟩
   ·change[_,_,_,V.int (((aH.idxOf r.1:Nat):Int)-1)]=[_,_,_,V.int ((aH.idxOf r.1-1:Nat):Int)]
    rw[show(((aH.idxOf r.1:Nat):Int)-1)=((aH.idxOf r.1-1:Nat):Int) by lia]
   ·show fun c hc =>.inr (Jt.mp hc)
def lE:aD ["self", "part", "text", "place"] ["self", "part", "text", "place"] (ai (inClass (top cZ) 2)):=fO
def Na (F:eC K "part_from" "Reader.part_from" (inClass (top cZ) 2) f fd)(T:Nm mg)(QF:Bl K C)(MR:GL K C)(rE:DU K C "number_from" fn)(qB:aU P w K mg base dX 3 fn RZ ["self", "text", "place"] (Le K C))(rB:Binds K RZ ["self", "text", "place"] [])
  (fU:Fn P w K mg base 2 "name_from" ["lookup", "text", "place"] (BE K)) (xJ:Fn P w K mg base 3 "many_from" ["text", "place"] (Ln K)) (pN:Fn P w K mg base 3 "distance_from" ["text", "place", "many"] (LX K)):aU P w K mg base dX 4 f fd ["self", "part", "text", "place"] (LD K C):=by
 show F.gw lE fun H vs Q E hr h =>?_;obtain⟨m,Fo,k,t,p,rfl,hk,rd,fr,hp,ht,q⟩:=h;have fB:=hr.units;obtain⟨k1,k2,k3⟩:=fr.GN;have nr:=fr.nr;have ff:=fr.fr;obtain⟨dx,w1,w2,w3,hm,l1,l2,l3⟩:=id rd;show⟨_,(af (aN (aw (ka K fB) (pv 1) ar (aA _)) (ag (ao (bP fU hr (aa (fR K (pv 0) rfl) (aa (pv 2) (aa (pv 3) ae)))))) ay)
  (af (aN (aw (ka K fB) (pv 1) ar (aA _)) (ag (ao (v7 (pv 0) QF rE (qB.mono (by first|decide|show Je _)) hr rB .nil tX (aa (pv 2) (aa (pv 3) ae))))) ay)
  (af (aN (aw (ka K fB) (pv 1) ar (aA _)) (ag (ao (bP xJ hr (aa (pv 2) (aa (pv 3) ae))))) ay)
  (ag (ao (bP pN hr (aa (pv 2) (aa (pv 3) (aa (cY (aw (ka K fB) (pv 1) ar (aA _)) (fR K (pv 0) rfl) (fR K (pv 0) rfl)) ae))))))))),?_⟩
 unfold bU at q;simp only[Jq,Uo,or_false] at hk
 rcases hk with rfl|rfl|rfl|rfl|rfl
 ·rw[if_pos rfl] at q;show{_,rfl,.inl {rfl,_,rfl,nW {_,rfl,m,C,dx,_,w2,rfl,hm,MR.c,MR.n2,rfl,_,rfl,_,rfl,w2,Fo.b2,t,p,rfl,l2,k2,hp,ht,fun tp H1 s1 h1=>q tp H1 s1 ?_}}};rw[Qbn];show F5 h1
 ·rw[if_neg ∅,if_pos rfl] at q;show{_,rfl,.inl {rfl,_,rfl,gA {_,rfl,.inl {rfl,_,rfl,nW {_,rfl,m,dx,_,rfl,hm,rfl,_,rfl,_,rfl,m,Fo,t,p,rfl,rd,fr,hp,ht,fun tp H1 s1 h1=>q tp H1 s1 ?_}}}}};rw[Qbn];show h1
 ·rw[if_neg ∅,if_neg ∅,if_pos rfl] at q;show{_,rfl,.inl {rfl,_,rfl,gA {_,rfl,.inl {rfl,_,rfl,gA {_,rfl,.inl {rfl,_,rfl,nW {_,rfl,_,rfl,t,p,rfl,hp,ht,fun tp H1 s1 h1=>q tp H1 s1 ?_}}}}}}};rw[Qbn];show F5 h1
 ·rw[if_neg ∅,if_neg ∅,if_neg ∅,if_pos rfl] at q;show{_,rfl,.inl {rfl,_,rfl,gA {_,rfl,.inl {rfl,_,rfl,gA {_,rfl,.inl {rfl,_,rfl,gA {_,rfl,_,rfl,_,rfl,.inl {rfl,_,rfl,nW {_,rfl,m,C,dx,_,_,rfl,hm,MR.c,MR.n4,rfl,t,p,Fo.near,rfl,⋯,⋯,hp,ht,fun tp H1 s1 h1=>q tp H1 s1 ?_}}}}}}}}};rw[Qbn];show F5 h1
 ·rw[if_neg ∅,if_neg ∅,if_neg ∅,if_neg ∅] at q;show{_,rfl,.inl {rfl,_,rfl,gA {_,rfl,.inl {rfl,_,rfl,gA {_,rfl,.inl {rfl,_,rfl,gA {_,rfl,_,rfl,_,rfl,.inl {rfl,_,rfl,gA {_,rfl,m,C,dx,_,_,rfl,hm,MR.c,MR.n5,rfl,t,p,Fo.eY,rfl,⋯,⋯,hp,ht,fun tp H1 s1 h1=>q tp H1 s1 ?_}}}}}}}}};rw[Qbn];show F5 h1
def FD {p:Nat}{r:Nat×Nat}(hp:p<=t.length)(h:gU t p=some r):r.2<=t.length:=by
 obtain⟨z,h1,h2⟩:=Option.bind_eq_some_iff.mp h;obtain⟨e1,e2⟩:=qo hp h1
 split at h2
 ·rename_i c;cases h2;have:=congrArg Qc4 c;rw[J3,Ug,Ud,<-str_len] at this;lia
 ·cases h2
def BJ {p k:Nat}{r:Int×Nat}(hp:p<=t.length)(h:oO t p k=some r):r.2<=t.length:=by
 obtain⟨z,h1,rfl⟩:=Option.map_eq_some_iff.mp h;have:=qo hp h1;lia
def IJ {p:Nat}{r:Nat×Nat}(hp:p<=t.length)(h:pO bk t p=some r):r.2<=t.length:=by
 obtain⟨z,h1,h2⟩:=Option.bind_eq_some_iff.mp h;have hz:=ia hp h1;unfold sX at h2
 split at h2
 ·cases h2;show hz
 ·have:=qo hz h2;lia
def rX {p:Nat}{r:Arg×Nat}(hp:p<=t.length)(h:bU F k t p=some r):r.2<=t.length:=by
 unfold bU at h
 split at h
 ·obtain⟨z,h1,rfl⟩:=Option.map_eq_some_iff.mp h;show ia hp h1
 split at h
 ·obtain⟨z,h1,rfl⟩:=Option.map_eq_some_iff.mp h;show IJ hp h1
 split at h
 ·obtain⟨z,h1,rfl⟩:=Option.map_eq_some_iff.mp h;show FD hp h1
 split at h
 ·obtain⟨z,h1,rfl⟩:=Option.map_eq_some_iff.mp h;show BJ hp h1
 ·obtain⟨z,h1,rfl⟩:=Option.map_eq_some_iff.mp h;show BJ hp h1
def lB (F:Fb)(t:Str):∀l m p,bz F (l++m) t p=(bz F l t p).bind fun r=>(bz F m t r.2).map fun z=>(r.1++z.1,z.2)
 | [],m,p=>by
  change bz F m t p=(some ([],p)).bind _;cases e:bz F m t p<;>simp[e]
 | k::l,m,p=>by
  change(bU F k t p).bind (fun r=>(bz F (l++m) t r.2).map fun z=>(r.1::z.1,z.2))=((bU F k t p).bind fun r=>(bz F l t r.2).map fun z=>(r.1::z.1,z.2)).bind _;cases bU F k t p with
  | none=>rfl
  | some r=>
   change(bz F (l++m) t r.2).map _=((bz F l t r.2).map _).bind _;rw[lB F t l m r.2];cases bz F l t r.2 with
   | none=>rfl
   | some z=>
    change((bz F m t z.2).map _).map _=(bz F m t z.2).map _;rw[Qbn];rfl
def Az {ks:List Str}{i p:Nat}(hi:i<ks.length){as:List Arg}{e:Nat}(h:bz F (ks.take i) t p=some (as,e)):
  bz F (ks.take (i+1)) t p=(bU F ks[i] t e).map fun z=>(as++[z.1],z.2):=by
 rw[cM hi,lB,h];change((bU F ks[i] t e).bind fun r=>some ([r.1],r.2)).map _=_;cases bU F ks[i] t e<;>rfl
def zo {i p:Nat}(h:bz F (ks.take i) t p=none):bz F ks t p=none:=by
 rw[<-List.take_append_drop i ks,lB,h];rfl
def xU:∀w∈aB,∃q∈fP,q.1=w/\kQ w=q.2:=∅
def pj:∀q∈fP,∀k∈q.2,k∈[("spot" : Str), "number", "many", "near", "far"]:=∅
def bA:aD ["self", "text", "place", "kind", "end", "bare", "part", "value"] ["self", "text", "place"] (ai (inClass (top cZ) 1)):=fO
def Nd (F:eC K "bare_from" "Reader.bare_from" (inClass (top cZ) 1) f fd)(T:Nm mg)(QF:Bl K C)(MR:GL K C)(OV:QJ K w mg aP)(vJ:DU K C "part_from" fp)(u7:aU P w K mg base dX 4 fp R3 ["self", "part", "text", "place"] (LD K C))(vE:Binds K R3 ["self", "part", "text", "place"] [])
  (fU:Fn P w K mg base 2 "name_from" ["lookup", "text", "place"] (BE K)):aU P w K mg base dX 5 f fd ["self", "text", "place"] (Lb K C):=by
 show F.gw bA fun H vs Q E hr h =>?_;obtain⟨m,Fo,t,p,rfl,rd,fr,hp,ht,q⟩:=h;obtain⟨k1,_,_⟩:=fr.GN;show⟨_,(af (iM (bP fU hr (aa (fR K (pv 0) rfl) (aa (pv 1) (aa (pv 2) ae)))) (tupK K 2 rfl (aI (eX (i:=3) bA.nd) (aI (eX (i:=4) bA.nd) bM))))
  (af (aN (aw nN (pv 3) aX (aA _)) (ag (ao (bI (aa aX (aa (pv 2) ae))))) ay)
  (af (cz (i:=5) bA.nd (gq (aa (pv 3) ae)))
  (af (eZ Qay rfl (jx K (KZ K w (cR rfl OV.g) (pv 3) (fun _ _=>rfl))) (eX (i:=6) bA.nd) (af (iM (v7 (pv 0) QF vJ (u7.mono (by first|decide|show Je _)) hr vE .nil tX (aa (pv 6) (aa (pv 1) (aa (pv 4) ae)))) (tupK K 2 rfl (aI (eX (i:=7) bA.nd) (aI (eX (i:=4) bA.nd) bM))))
  (af (aN (aw nN (pv 7) aX (aA _)) (ag (ao (bI (aa aX (aa (pv 2) ae))))) ay)
  (ag (iG (qd K Qaw Qa8 Qa7 lq (pv 5) (aa (pv 7) ae)))))))
  (ag (ao (bI (aa (aQ (oU K) rfl T.n_tuple (by rfl) (aa (pv 5) ae)) (aa (pv 4) ae))))))))),?_⟩
 obtain⟨dx,w1,w2,w3,hm,l1,l2,l3⟩:=id rd;show{_,rfl,m,C,dx,_,w1,rfl,hm,MR.c,MR.n1,rfl,_,rfl,_,rfl,w1,Fo.b1,t,p,rfl,l1,k1,hp,ht,fun tp H1 s1 h1 =>?_};unfold jV at q;cases e:nameA Fo.b1 t p with
 | none=>
  rw[e] at h1 q;show{tp,_,rfl,h1,rfl,_,_,rfl,_,_,rfl,rfl,{_,rfl,.inl {rfl,_,rfl,(br {_,rfl,eV,fun tq H5 n5=>q tq H5 (s1.trans n5.same) (aV.of n5.at)})}}}
 | some r=>
  rw[e] at h1 q;obtain⟨wd,pe0⟩:=r;have NM:wd∈aB:=by
   obtain⟨q',e',e''⟩:=Option.map_eq_some_iff.mp e;cases e'';show fr.g.n1.mem_iff.mp (Um (di e').1)
  obtain⟨qq,hqq,ew,ek⟩:=xU wd NM;obtain⟨pk,pl⟩:=eP qq hqq;obtain⟨qp,hq1,NT⟩:=OV.pt qq hqq;have q:∀tp H',aq H H'->Lg K H' tp ((bz Fo qq.2 t pe0).map fun z=>((wd,z.1),z.2)) p->Q (.ref tp) H':=by rw[<-ek];show q
  show{tp,_,rfl,h1,rfl,_,_,rfl,_,_,rfl,rfl,{_,rfl,.inl {rfl,_,rfl,(bf {_,rfl,HW,fun l H2 n2=>gn ?_})}}};dsimp only;show cS (fun σ H'=>∃x6 x7 as pe,σ=[some (.ref m),some (.str t),some (.int (p:Nat)),some (.str wd),some (.int (pe:Nat)),some (.ref l),x6,x7]/\aq H1 H'/\H' l=some (.lst (.str wd::as.map Arg.v))/\bz Fo qq.2 t pe0=some (as,pe)) (fun Nx nx =>?_) ?_
  ·show{_,rfl,aP,qq.1,.ref qp,.ref qp,rfl,by rw[ew],OV.cd,hq1,rfl,qp,rfl,{_,NT _},?_};show jO (N:=qq.2.length) (fun i σ H'=>∃x6 x7 as pe,σ=[some (.ref m),some (.str t),some (.int (p:Nat)),some (.str wd),some (.int (pe:Nat)),some (.ref l),x6,x7]/\aq H1 H'/\H' l=some (.lst (.str wd::as.map Arg.v))/\bz Fo (qq.2.take i) t pe0=some (as,pe)/\as.length=i/\pe<=t.length) {_,_,[],pe0,rfl,n2.same,n2.at,rfl,rfl,(ia hp e)} ?_ ?_
   ·rintro i σ H3 hi ⟨x6,x7,as,pe,rfl,s3,mQ,hpa,Ew,Pa⟩;have gk:(qq.2.map V.str)[i]? = some (.str qq.2[i]):=by
     rw[Jk,Jd hi];rfl
    show{{_,_,NT _,gk},?_};rintro x' H4 ⟨rfl,hyy⟩;have e:=hyy _ (NT _);rw[gk] at e;cases e;show gn ?_;have AJ:=Az hi hpa;obtain⟨dx',w1',w2',w3',yZ,_⟩:=rd.same (s1.trans s3);show{_,rfl,m,dx',_,rfl,yZ,rfl,_,rfl,_,rfl,_,rfl,m,Fo,qq.2[i],t,pe,rfl,((pj qq hqq) _ (Uc hi)),rd.same (s1.trans s3),fr,Pa,ht,fun tq H5 s5 h5 =>?_};cases ep:bU Fo qq.2[i] t pe with
    | none=>
     rw[ep] at h5 AJ;obtain⟨ee,h5⟩:=h5;show{tq,_,rfl,h5,rfl,_,_,rfl,_,_,rfl,rfl,{_,rfl,.inl {rfl,_,rfl,(br ?_)}}};rw[zo AJ] at q;show{_,rfl,eV,fun tr H6 n6=>q tr H6 (s1.trans (s3.trans (s5.trans n6.same))) (aV.of n6.at)}
    | some z=>
     rw[ep] at h5 AJ;obtain⟨a,pe'⟩:=z;show{tq,_,rfl,h5,rfl,_,_,rfl,_,_,rfl,rfl,{_,rfl,.inl {rfl,_,rfl,?_}}};rw[decide_eq_false (by cases a<;>show nofun)];show bf ?_;have yG:=s5 _ _ mQ;show{_,rfl,.inl {rfl,_,aW.of yG},_,rfl,l,_,_,rfl,rfl,yG,?_,fun H6 c6=>{_,_,as++[a],pe',rfl,fun b o e =>?_,?_,AJ,?_,rX Pa ep}}
     ·rw[Jo,Jc];show Jy (show _<=100 by lia) ∅
     ·rw[c6.ne (aE e n2.nn)];show s5 _ _ (s3 _ _ e)
     ·rw[c6.at,Jx];rfl
     ·rw[Jn,Ew];rfl
   ·rintro σ H3 ⟨x6,x7,as,pe,rfl,s3,mQ,hpa,_,_⟩;rw[U5] at hpa;show{{_,NT _,by rw[Jc];show Je _},nx _ _ ⟨x6,x7,as,pe,rfl,s3,mQ,hpa⟩}
  rintro σ H3 ⟨x6,x7,as,pe,rfl,s3,mQ,hpa⟩;rw[hpa] at q;show{_,rfl,l,_,rfl,.inl {aW.of mQ,fun bp H4 n4=>{_,rfl,eV,fun tq H5 n5=>q tq H5 (s1.trans (s3.trans (n4.same.trans n5.same))) {bp,aV.of n5.at,aV.of (n5.same _ _ n4.at)}}}}
def vO:Arg->Qad
 | .sp x =>.str x | .nu n =>.int (n:Nat) | .ma n =>.int (n:Nat) | .ne d =>.int d | .fa d =>.int d
def oX (w:Str)(as:List Arg):Qad := .tuple (.str w::as.map vO)
end
def gO:∀as:List Arg,a8 K H (as.map vO) (as.map Arg.v)
 | []=>iC
 | .sp x::as=>bN Cg (gO as)
 | .nu n::as=>bN rM (gO as)
 | .ma n::as=>bN rM (gO as)
 | .ne n::as=>bN rM (gO as)
 | .fa n::as=>bN rM (gO as)
def mH (h:aV K H a (.str w::as.map Arg.v)):Den K H (oX w as) (.ref a):=
 ⟨a,_,rfl,h,bN Cg (gO _)⟩
def jJ {i:Int}(h:i.natAbs<=1000000):i.natAbs<10^40:=Jy h ∅
def Fm (ba:lQ w as)(n:Nat)(hn:n<=1000000):Gd 1000 2 (.tuple [oX w as,.int (n:Nat)]):=by
 have hx:∀x∈aB,lN x=true/\x.length<=201:=∅;obtain⟨q,hq,ew,ek⟩:=ba.pt;obtain⟨pk,al⟩:=eP q hq;rw[<-ek,Jc] at al;rw[<-ew] at pk;have ga:∀a∈as,Gd 201 0 (vO a):=fun a ha=>by
  have h:=ba.ok a ha;cases a with
  | sp x=>
   have hx:∀x∈bJ,lN x=true/\x.length<=201:=∅;show Gd.str (hx x h).1 (hx x h).2
  | nu n=>show Gd.int (jJ (show n<=1000000 from Jf h ∅)) (Je _)
  | ma n=>show Gd.int (jJ (show n<=1000000 from Jf h ∅)) (Je _)
  | ne n=>show Gd.int (jJ h) (Je _)
  | fa n=>show Gd.int (jJ h) (Je _)
 have gs:∀as:List Arg,(∀a∈as,Gd 201 0 (vO a))->Gs (202*as.length) 0 (as.map vO):=by
  intro as
  induction as with
  | nil=>show fun _=>Gs.nil.mono (Ue _) (Je _)
  | cons a as ih=>
   show fun h=>(Gs.cons (h a Jj) (ih fun x hx=>h x (Jh _ hx))).mono ?_ (Je _);rw[Jo,QdB];lia
 show((Gs.cons ((Gs.cons (Gd.str (hx _ pk).1 (hx _ pk).2) (gs as ga)).tuple) (Gs.one (Gd.int (i:=((n:Nat):Int)) (jJ (show n<=1000000 from hn)) (Je _)))).tuple).mono ?_ (Je _);lia
def F8 (K:Ja)(C:KE):Sp:=fun vs H Q _=>pW fun e dx p=>vs=[.ref e]/\H e=some (mS e (.ref C) (some dx))/\H dx=some (.xd [("place",.int (p:Nat))])/\∀v H',aq H H'->Den K H' (.tuple [.str "text",.int (p:Nat)]) v->Q v H'
def lJ.same {m:KE}{F:Fb}(h:lJ K CF H m F)(s:aq H H'):lJ K CF H' m F:=kA.same h s
section
variable {P:Qac}{w:Qag}{K:Ja}{mg:Str->Option Fk}{base:Heap}{f C CF cO c1 c2 c3 c4 c5 c6 c7 gi:KE}{fd UZ:Qal}
def fc:aD ["_law_caught", "_law_told_here", "_law_word"] ["_law_caught"] (ai (top kG)):=fO
def IZ (F:eC K "_law_class" "_law_class" (top kG) f fd)(T:Nm mg)(jR:mg "ValueError" = none)(fM:mg "OddError" = some (.ref cO))(gQ:mg "BadText" = some (.ref C))(sf:mg "TooFar" = some (.ref c1))(rR:mg "BadRow" = some (.ref c2))(sF:mg "NoName" = some (.ref c3))(og:mg "NoPlace" = some (.ref c4))(l7:mg "NoTarget" = some (.ref c5))(ja:mg "NoForm" = some (.ref c6))(oE:mg "TooFull" = some (.ref c7))
  (O:kS K C) (S:nh K C "place") (kO:∀D∈[c1,c2,c3,c4,c5,c6,c7],Ui K (.ref C) (.ref D)=some false) (kV:Ui K (.ref C) (.type "ValueError")=some true) (kD:Ui K (.ref C) (.ref cO)=some true) :
  aU P w K mg base dX 1 f fd ["_law_caught"] (F8 K C):=by
 show F.gw fc fun H vs Q E hr h =>?_;obtain⟨e,dx,p0,rfl,h0,HY,q⟩:=h;have fB:=hr.units;have kk:∀{D:KE},D∈[c1,c2,c3,c4,c5,c6,c7]->Ui K (.ref C) (.ref D)=some false:=fun h=>kO _ h;show⟨_,(af (cz (i:=1) fc.nd (gq (aa (aj (sZ K) rfl T.n_isinstance (by rfl) (aa (pv 0) (aa (cR rfl oE) ae))) (aa (aj (sZ K) rfl T.n_isinstance (by rfl) (aa (pv 0) (aa (cR rfl og) ae))) (aa (aj (sZ K) rfl T.n_isinstance (by rfl) (aa (pv 0) (aa (cR rfl sF) ae))) ae)))))
  (af (cz (i:=1) fc.nd (au bh (pv 1) (gq (aa (aj (sZ K) rfl T.n_isinstance (by rfl) (aa (pv 0) (aa (cR rfl gQ) ae))) (aa (aj (sZ K) rfl T.n_isinstance (by rfl) (aa (pv 0) (aa (cR rfl ja) ae))) (aa (aj (sZ K) rfl T.n_isinstance (by rfl) (aa (pv 0) (aa (cR rfl sf) ae))) ae))))))
  (af (cz (i:=1) fc.nd (au bh (pv 1) (gq (aa (aj (sZ K) rfl T.n_isinstance (by rfl) (aa (pv 0) (aa (cR rfl l7) ae))) (aa (aj (sZ K) rfl T.n_isinstance (by rfl) (aa (pv 0) (aa (cR rfl rR) ae))) ae)))))
  (af (aN (PW.pt (jW (aw (Cq K fB) (qd K Qaw PySem.F.slot_list_count PySem.F.type_list_count Nb (pv 1) (aa jX ae)) ah (aA _)) (jW (dM (bX (aj (sZ K) rfl T.n_isinstance (by rfl) (aa (pv 0) (aa (cR rfl fM) ae))))) (iQ (dM (bX (aj (sZ K) rfl T.n_isinstance (by rfl) (aa (pv 0) (aa (bK rfl jR (by rfl) (v := .ty "ValueError") rfl) ae))))))))) (ag (ao (bI (aa ar (aa aX ae))))) ay)
  (af (cz (i:=2) fc.nd (aR (eW K) (qd K Qaz Qde Qdd yS ar (aa ar ae)) (qd K Qaw Qfj Qfi Ng (pv 1) (aa jX ae)) (fun _ _=>rfl)))
  (af (aN (aw (ka K fB) (pv 2) ar (aA _)) (ag (ao (bI (aa (pv 2) (aa (rY K (pv 0)) ae))))) ay)
  (af (aN (aw (ka K fB) (pv 2) ar (aA _)) (ag (ao (bI (aa (pv 2) (aa (rY K (pv 0)) ae))))) ay)
  (ag (ao (bI (aa (pv 2) (aa (cY (aw (ka K fB) (pv 2) ar (aA _)) (rY K (pv 0)) aX) ae)))))))))))),?_⟩
 show{_,rfl,e,C,some dx,_,_,false,rfl,h0,O,rfl,kk (by simp),_,rfl,e,C,some dx,_,_,false,rfl,h0,O,rfl,kk (by simp),_,rfl,e,C,some dx,_,_,false,rfl,h0,O,rfl,kk (by simp),Hh,fun l1 H2 n2=>gn ?_};have h2:=n2.same _ _ h0;show{_,rfl,_,rfl,e,C,some dx,_,_,true,rfl,h2,O,rfl,FF,_,rfl,e,C,some dx,_,_,false,rfl,h2,O,rfl,kk (by simp),_,rfl,e,C,some dx,_,_,false,rfl,h2,O,rfl,kk (by simp),Hh,fun l2 H3 n3 =>?_};have h3:=n3.same _ _ h2;show .inr (.inr {l1,l2,_,_,rfl,rfl,n3.same _ _ n2.at,n3.at,zl6,fun l3 H4 n4=>gn ?_});have h4:=n4.same _ _ h3;show{_,rfl,_,rfl,e,C,some dx,_,_,false,rfl,h4,O,rfl,kk (by simp),_,rfl,e,C,some dx,_,_,false,rfl,h4,O,rfl,kk (by simp),eV,fun l4 H5 n5 =>?_};have h5:=n5.same _ _ h4;show .inr (.inr {l3,l4,_,_,rfl,rfl,n5.same _ _ n4.at,n5.at,zl8,fun l5 H6 n6=>gn ?_});have h6:=n6.same _ _ h5;have s6:aq H H6:=n2.same.trans (n3.same.trans (n4.same.trans (n5.same.trans n6.same)));have Zo:=s6 _ _ HY;show{_,rfl,.inl {rfl,_,aW.of n6.at},l5,[false,false,false,true,false,false,false,false],rfl,rfl,n6.at,.inl {rfl,_,rfl,bf ?_}};show{_,rfl,e,C,some dx,_,_,true,rfl,h6,O,rfl,kD,_,rfl,bf {_,rfl,e,C,some dx,_,_,true,rfl,h6,O,rfl,kV,_,rfl,bf ?_}};have LQ:Qb9 (Wp "full place name text form far target row") (Wp " ")=(["full", "place", "name", "text", "form", "far", "target", "row"]:List Str):=∅;have sl:(Wp " ").length≠0:=∅;show{rfl,_,_,rfl,rfl,sl,∅,by rw[LQ];decide,fun p H7 n7 =>?_};rw[LQ] at n7;show{_,rfl,.inl {rfl,_,aW.of (n7.same _ _ n6.at)},l5,[false,false,false,true,false,false,false,false],3,rfl,rfl,n7.same _ _ n6.at,rfl,fun m hm =>?_,?_}
 ·match m,hm with
  | 0,_=>show nofun
  | 1,_=>show nofun
  | 2,_=>show nofun
 show .inl ⟨p,_,_,.str "text",rfl,rfl,aW.of n7.at,rfl,gn ?_⟩;have h7:=n7.same _ _ h6;have YO:=n7.same _ _ Zo;show{_,rfl,.inl {rfl,_,rfl,nW ?_}};show{_,rfl,_,rfl,e,C,dx,_,.int (p0:Nat),rfl,h7,YO,rfl,O,S,.inl {_,rfl},eV,fun tq H8 n8=>q _ H8 (s6.trans (n7.same.trans n8.same)) ?_};show GJ n8.at (bN Cg (bN rM iC))
def mf (bk:List (Str×Str))(t:Str)(p:Nat):List V:=(bk.filter fun q=>(sg q.2).isPrefixOf ((sg t).drop p)).map fun q=>V.str q.1
def Hk (g:lG bk)(t:Str)(p:Nat):mf bk t p=match tf bk t p with
  | some q=>[.str q.1]
  | none=>[]:=by
 unfold mf;cases e:tf bk t p with
 | none=>
  have:bk.filter (fun q=>(sg q.2).isPrefixOf ((sg t).drop p))=[]:=by
   rw[List.filter_eq_nil_iff];show fun q hq hp=>Bf e q hq (Ym.mp hp)
  rw[this];rfl
 | some q=>
  obtain⟨hq,hp⟩:=di e;obtain⟨i,hi⟩:=J6.mp hq;have key:∀(l:List (Str×Str)) (k:Nat),(∀j r,l[j]? = some r->bk[k+j]? = some r)->l.filter (fun q=>(sg q.2).isPrefixOf ((sg t).drop p))=if k<=i/\i<k+l.length then [q] else []:=by
   intro l
   induction l with
   | nil=>intro k _;rw[if_neg (by simp only[Yo];lia)];rfl
   | cons r l ih=>
    intro k hk;have h0:=hk 0 r rfl;rw[Nat.add_zero] at h0;have XJ:=ih (k+1) fun j r' h=>by have:=hk (j+1) r' h;rwa[Nat.add_comm j 1,<-QcA] at this
    by_cases c:(sg r.2).isPrefixOf ((sg t).drop p)=true
    ·have e1:=g.SD h0 hi (Ym.mp c) hp;subst e1;rw[hi] at h0;cases h0;rw[QeI,if_pos c,XJ,if_neg ⋯,if_pos (by rw[Jo];lia)]
    ·rw[QeI,if_neg c,XJ];have ne:k≠i:=fun z=>by
      subst z;rw[hi] at h0;cases h0;show c (Ym.mpr hp)
     by_cases c2:k+1<=i/\i<k+1+l.length
     ·rw[if_pos c2,if_pos (by rw[Jo];lia)]
     ·rw[if_neg c2,if_neg (by rw[Jo];lia)]
  have:=key bk 0 fun j r h=>by rwa[Qey]
  rw[this,if_pos ⟨Ue _,by rw[Qey];show(Jl.mp hi).1⟩]
  rfl
def AN (K:Ja):Sp:=fun vs H Q _=>nP fun v bk (t:Str) (p:Nat)=>vs=[v,.str t,.int (p:Nat)]/\Den K H (aO bk) v/\lG bk/\p<=t.length/\t.length<=1000000 /\
 ∀lp H',aq H H'->H lp=none->H' lp=some (.lst (match tf bk t p with|some q=>[.str q.1]|none=>[]))->Q (.ref lp) H'
def AQ:Sp:=fun vs H Q _=>∃x,vs=[.str x]/\eA x/\x.length<=1000/\Q (.int (cC (sg x):Nat)) H
def pP:aD ["_law_book", "_law_text", "_law_at_here"] ["_law_book", "_law_text", "_law_at_here"] (ai (top gW)):=fO
def MQ (F:eC K "_law_names_at" "_law_names_at" (top gW) f fd)(T:Nm mg):aU P w K mg base dX 1 f fd ["_law_book", "_law_text", "_law_at_here"] (AN K):=by
 show F.gw pP fun H vs Q E hr h =>?_;obtain⟨v,bk,t,p,rfl,hB,g,hp,ht,q⟩:=h;have fB:=hr.units;have hz:t.length<=W1:=Jf ht ∅;show⟨_,(ag (ao (dQ rfl (b9 (Nc:=["_law_name", "_law_code"]) (Fc:=["_law_text", "_law_at_here"]) (js:=[1,2])) (FQ K (pv 0)) (lV (cq (bC (i:=0) (n:=2) ∅) (cq (bC (i:=1) (n:=2) ∅) jM bL dq) bL (ic bL dq))) (fun _ _ _ _ _=>(tupK K 2 rfl (aI (eX (i:=0) (pK ["_law_name", "_law_code", "_law_text", "_law_at_here"])) (aI (eX (i:=1) (pK ["_law_name", "_law_code", "_law_text", "_law_at_here"])) bM)))) (fun _ _ _ _ _=>(AM (aw (ka K fB) (bt (xW K) (pv 2) (aY (pv 3)) (aY (au bh (pv 3) (aj (dN K) rfl T.n_len (by rfl) (aa (pv 1) ae))))) (pv 1) (aA _)))) (fun _ _ _ _ _=>(pv 0))))),?_⟩;unfold aO Den at hB;obtain⟨lp,vs,rfl,hl,hd⟩:=hB;rw[<-Hk g] at q;show{_,rfl,lp,rfl,{_,hl},?_};show m6 (N:=bk.length) (fun i ys H'=>H'=H/\ys=mf (bk.take i) t p) ⟨rfl,rfl⟩ ?_ ?_
 ·rintro i ys H' Nx hi ⟨rfl,rfl⟩ nx;obtain⟨v,hv,Se⟩:=hd.get (i:=i) (d:=iA bk[i]) (by rw[Jk,Jd hi];rfl);obtain⟨tp,rfl,h3⟩:=Se.pair;show{{_,_,hl,hv},?_,?_}
  ·unfold mf;rw[Jc];show Jy (QdF _ _) ?_;have:=g.le;rw[J3];show Jy (show _<=11 by lia) ∅
  rintro x' H3 ⟨rfl,hy⟩;have e:=hy _ hl;rw[hv] at e;cases e;show{tp,_,rfl,h3,rfl,_,_,rfl,_,_,rfl,rfl,?_};have hc:=(g.cd _ (Uc hi)).2;show{_,rfl,_,rfl,_,rfl,_,rfl,_,rfl,_,_,rfl,{Jf hc ∅,rfl},.inl {_,_,rfl,rfl,_,rfl,.inr {t,rfl,hz,?_}}};have oK:sg (Qak t (some (p:Int)) (some ((p:Int)+(bk[i].2.length:Int))))=((sg t).drop p).take bk[i].2.length:=by
   rw[show((p:Int)+(bk[i].2.length:Int))=((p+bk[i].2.length:Nat):Int) by lia,kN (Ua _ _) hp]
   congr 1
   lia
  generalize Qak t (some (p:Int)) (some ((p:Int)+(bk[i].2.length:Int)))=c at oK ⊢;show{_,rfl,.inl {rfl,_,rfl,?_}};have yk:mf (bk.take (i+1)) t p=mf (bk.take i) t p++(if (sg bk[i].2).isPrefixOf ((sg t).drop p)=true then [V.str bk[i].1] else []):=by
   unfold mf;rw[cM hi,List.filter_append,Jx,QeI,List.filter_nil]
   split<;>rfl
  have Po:c=bk[i].2↔(sg bk[i].2).isPrefixOf ((sg t).drop p)=true:=by
   rw[Ym,List.prefix_iff_eq_take,<-str_len,<-oK];show{fun z=>by rw[z],fun z=>fQ z.symm}
  by_cases hcv:c=bk[i].2
  ·rw[if_pos (Po.mp hcv)] at yk;rw[decide_eq_true (show V.str c=V.str bk[i].2 by rw[hcv])];show br {_,rfl,nx _ _ ⟨rfl,yk.symm⟩}
  ·rw[if_neg (fun z=>hcv (Po.mpr z)),Us] at yk;rw[decide_eq_false (show ¬V.str c=V.str bk[i].2 from fun z=>hcv (by injection z))];show bf (nx _ _ ⟨rfl,yk.symm⟩)
 ·rintro ys H' ⟨rfl,rfl⟩;rw[U5];show{{_,hl,by rw[hd.len,Jc];show Je _},fun p2 H4 n4=>q p2 H4 n4.same n4.nn n4.at}
def dZ:aD ["_law_signs", "_law_found", "_law_sign"] ["_law_signs"] (ai (top gz)):=fO
def Og (F:eC K "_law_number_by" "_law_number_by" (top gz) f fd)(T:Nm mg):aU P w K mg base dX 1 f fd ["_law_signs"] AQ:=by
 show F.gw dZ fun H vs Q E hr h =>?_;obtain⟨x,rfl,hb,hx,q⟩:=h;show⟨_,(af (cz (i:=1) dZ.nd ah)
  (af (eZ Qay rfl (Bo (pv 0)) (eX (i:=2) dZ.nd) (ag (cz (i:=1) dZ.nd (au bh (au j3 ah (pv 1)) (aQ fH rfl T.n_int (by rfl) (aa (cF (ka K hr.units) (pv 2) ar (aA _)) ae))))))
  (ag (ao (pv 1))))),?_⟩
 show gn ?_;have hs:(sg x).length=x.cps.size:=rfl;show{_,rfl,x,rfl,?_,?_}
 ·rw[Yg];intro c hc
  rcases hb c (by simpa using hc) with rfl|rfl<;>decide
 show jO (N:=x.cps.size) (fun i σ H'=>∃x2,σ=[some (.str x),some (.int (cC ((sg x).take i):Nat)),x2]/\H'=H) {_,rfl,rfl} ?_ ?_
 ·rintro i σ H' hi ⟨x2,rfl,rfl⟩;show{hi,?_};rintro y H2 ⟨rfl,hy⟩;have hc:(sg x)[i]? = some ((sg x)[i]'⋯):=Jd _;have e:=hy _ (by rw[<-U3];show hc);subst e;show gn ?_;have Ey:=hb _ (J0 hc);have yk:=cM (l:=sg x) (i:=i) ⋯;generalize (sg x)[i]'⋯=c at Ey yk;rw[yk,fD];show{_,rfl,.inl {_,_,rfl,rfl,.inl {∅,∅},_,rfl,.inl {rfl,.inr {_,rfl,.inl {_,_,rfl,rfl,gn {some (.str {#[c]}),?_,rfl}}}}}};have hd:(if decide (V.str ⟨#[c]⟩=V.str (Wp "1"))=true then (1:Int) else 0)=((c-48:Nat):Int):=by
   rcases Ey with rfl|rfl<;>decide +kernel
  rw[hd]
  push_cast
  rfl
 ·rintro σ H' ⟨x2,rfl,rfl⟩;show{Je _,_,rfl,?_};rw[Uz ⋯];show q
def Rz (F:Fb)(w:Str):Nat:=if lH w=true then F.eY else F.near
def Ce (K:Ja)(H:Hp)(v:V)(o:Option (V×Nat)):Prop:=match o with
 | none=>v = .non
 | some r=>∃tp,v = .ref tp/\aV K H tp [r.1,.int (r.2:Nat)]
def La (K:Ja):Sp:=fun vs H Q _=>uN fun lp F t p wd=>vs=[.ref lp,.str t,.int (p:Nat),.str wd]/\je K H lp F/\iK F/\eA t/\p<=t.length/\t.length<=1000000 /\
 ∀v H',aq H H'->Ce K H' v ((oO t p (Rz F wd)).map fun r=>(.int r.1,r.2))->Q v H'
def mL {a t:Str}{p k:Nat}(hb:eA t)(hp:p<=t.length):ju a t p k=if p+k<=t.length then some (cC (sg a++((sg t).drop p).take k),p+k) else none:=by
 have ha:(((sg t).drop p).take k).all dB.cps.contains=true:=by
  rw[U2];intro c hc;have:=hb c (Yl (Yn hc))
  rcases this with rfl|rfl<;>decide +kernel
 have hl:(((sg t).drop p).take k).length=k↔p+k<=t.length:=by
  rw[J3,Ug,<-str_len];lia
 unfold ju
 by_cases h:p+k<=t.length
 ·rw[if_pos h,if_pos ⟨hl.mpr h,ha⟩]
 ·rw[if_neg h,if_neg fun z=>h (hl.mp z.1)]
def eN:aD ["_law_parts_here", "_law_text", "_law_at_here", "_law_word", "_law_many", "_law_number"] ["_law_parts_here", "_law_text", "_law_at_here", "_law_word"] (ai (top fq)):=fO
def M6 (F:eC K "_law_far_figures" "_law_far_figures" (top fq) f fd)(T:Nm mg)(dE:Fn P w K mg base 1 "_law_far_word" ["_law_word"] vX)(cX:Fn P w K mg base 1 "_law_number_by" ["_law_signs"] AQ)(cQ:Fn P w K mg base 1 "_law_power" ["_law_many"] tJ):aU P w K mg base dX 2 f fd ["_law_parts_here", "_law_text", "_law_at_here", "_law_word"] (La K):=by
 show F.gw eN fun H vs Q E hr h =>?_;obtain⟨lp,Fo,t,p,wd,rfl,hP,fr,hb,hp,ht,q⟩:=h;have fB:=hr.units;have hz:t.length<=W1:=Jf ht ∅;show⟨_,(af (cz (i:=4) eN.nd (aR (eW K) (pv 0) (au bh ah (aQ fH rfl T.n_int (by rfl) (aa (bP dE hr (aa (pv 3) ae)) ae))) (fun _ _=>rfl)))
  (af (aN (aw AI (au bh (pv 2) (pv 4)) (aj (dN K) rfl T.n_len (by rfl) (aa (pv 1) ae)) (aA _)) (ag (ao aX)) ay)
  (af (cz (i:=5) eN.nd (bP cX hr (aa (bt (xW K) (pv 1) (aY (pv 2)) (aY (au bh (pv 2) (pv 4)))) ae)))
  (ag (ao (bI (aa (au dW (pv 5) (au j3 (bP cQ hr (aa (pv 4) ae)) (aQ fH rfl T.n_int (by rfl) (aa (cF Bv (pv 5) (bP cQ hr (aa (au dW (pv 4) ah) ae)) (aA _)) ae)))) (aa (au bh (pv 2) (pv 4)) ae)))))))),?_⟩
 obtain⟨kk,ekk⟩:∃kk:Nat,kk=Rz Fo wd:=⟨_,rfl⟩
 have nr:=fr.nr;have ff:=fr.fr;have kb:2<=kk/\kk<=16:=by rw[ekk];unfold Rz;split<;>lia
 obtain⟨r1,r2,r3,hl,_⟩:=hP.ex;show{_,rfl,_,rfl,wd,rfl,fun H9 s9 =>.inr {lH wd,rfl,.inl {_,_,rfl,rfl,.inl {lp,_,_,.int (kk:Nat),rfl,rfl,s9.seq hl,?_,gn ?_}}}}
 ·rw[ekk];unfold Rz;cases lH wd<;>rfl
 rw[<-ekk] at q;unfold oO at q;rw[mL hb hp] at q;have sq:aq H H9:=s9;dsimp only;show{_,rfl,_,rfl,.inl {_,_,rfl,rfl,_,rfl,_,_,rfl,⟨hz,rfl⟩,_,_,rfl,rfl,_,rfl,?_}};show eU (fun c =>?_) (fun c =>?_)
 ·have c:((t.length:Nat):Int)<(p:Int)+(kk:Int):=of_decide_eq_true c;rw[if_neg (show ¬p+kk<=t.length by lia)] at q;show q _ H9 sq rfl
 have c:¬((t.length:Nat):Int)<(p:Int)+(kk:Int):=fun z=>c (decide_eq_true z);rw[if_pos (show p+kk<=t.length by lia)] at q;dsimp only[ji];show{_,rfl,_,rfl,_,rfl,_,rfl,_,rfl,.inl {_,_,rfl,rfl,_,rfl,.inr {t,rfl,hz,?_}}};have oK:sg (Qak t (some (p:Int)) (some ((p:Int)+(kk:Int))))=((sg t).drop p).take kk:=by
  rw[show((p:Int)+(kk:Int))=((p+kk:Nat):Int) by lia,kN (Ua _ _) hp]
  congr 1
  lia
 rw[<-oK] at q;generalize Qak t (some (p:Int)) (some ((p:Int)+(kk:Int)))=cx at oK q ⊢;have tH:cx.length<=kk:=by rw[str_len];change(sg cx).length<=kk;rw[oK];show Qd3 _ _
 have Ey:eA cx:=fun x hx=>hb x (by
  have hx:x∈sg cx:=hx;rw[oK] at hx;show Yl (Yn hx))
 show{cx,rfl,Ey,⋯,gn ?_};have q:∀v H',aq H H'->(∃tp,v = .ref tp/\aV K H' tp [.int (if (2:Int)^(kk-1)<=(cC (sg cx):Nat) then ((cC (sg cx):Nat):Int)-2^kk else ((cC (sg cx):Nat):Int)),.int ((p+kk:Nat):Int)])->Q v H':=q;show{_,rfl,_,rfl,kk,rfl,⋯,_,rfl,_,rfl,_,_,rfl,rfl,kk-1,?_,⋯,_,_,rfl,rfl,.inr {_,rfl,.inl {_,_,rfl,rfl,?_,_,_,rfl,rfl,_,rfl,_,rfl,.inl {_,_,rfl,rfl,eV,fun tp H' n'=>q _ H' (sq.trans n'.same) {tp,rfl,?_}}}}}
 ·change[V.int ((kk:Int)-1)]=[V.int ((kk-1:Nat):Int)]
  rw[show(kk:Int)-1=((kk-1:Nat):Int) by lia]
 ·show .inr ?_
  split<;>decide
 ·have:=aV.of (K:=K) n'.at;rw[show((p:Int)+(kk:Int))=((p+kk:Nat):Int) by lia] at this
  by_cases cc:(2:Int)^(kk-1)<=(cC (sg cx):Nat)
  ·rw[if_pos cc];rw[if_pos (decide_eq_true cc),Int.mul_one] at this;show this
  ·rw[if_neg cc];rw[if_neg (fun z=>cc (of_decide_eq_true z)),Qgn] at this;have this:aV K H' tp [V.int (((cC (sg cx):Nat):Int)-0),.int ((p+kk:Nat):Int)]:=this;rw[Int.sub_zero] at this;show this
def yA:∀{n:Nat} {l:List Nat},l.length=n->(∀c∈l,c=48\/c=49)->jk n (cC l)=l
 | 0,l,hn,_=>by rw[Ys.mp hn];rfl
 | n+1,l,hn,h=>by
  obtain⟨m,c,rfl⟩:∃m c,l=m++[c]:=⟨l.dropLast,l.getLast (by rintro rfl;cases hn),(QeZ _).symm⟩
  rw[Jn] at hn;unfold jk;rw[fD];have hc:=h c (Jr _ (Jt.mpr rfl));have e1:(2*cC m+(c-48)) / 2=cC m:=by rcases hc with rfl|rfl<;>lia
  have e2:48+(2*cC m+(c-48))%2=c:=by rcases hc with rfl|rfl<;>lia
  rw[e1,e2,(yA (Qd1 hn) fun x hx=>h x (Uv _ hx))]
def NG:∀n,n<8->∀v,v<2^n->Qge ⟨(jk n v).toArray⟩ (Wp "1") = !decide (jk n v=Jm n 48):=∅
def K3 (hb:eA x)(hl:x.length<8):Qge x (Wp "1") = !decide (sg x=Jm x.length 48):=by
 have:=NG x.length hl (cC (sg x)) (pQ hb);rw[(yA (str_len x).symm hb)] at this;show this
def LR (K:Ja):Sp:=fun vs H Q _=>fX fun t p=>vs=[.str t,.int (p:Nat)]/\eA t/\p+3<=t.length/\t.length<=1000000 /\
 ∀v H',aq H H'->Ce K H' v ((gU t p).map fun r=>(.int (r.1:Nat),r.2))->Q v H'
def gY:aD ["_law_text", "_law_at_here", "_law_many", "_law_end"] ["_law_text", "_law_at_here"] (ai (top iH)):=fO
def NC (F:eC K "_law_skip_at" "_law_skip_at" (top iH) f fd)(T:Nm mg)(cX:Fn P w K mg base 1 "_law_number_by" ["_law_signs"] AQ):aU P w K mg base dX 2 f fd ["_law_text", "_law_at_here"] (LR K):=by
 show F.gw gY fun H vs Q E hr h =>?_;obtain⟨t,p,rfl,hb,yK,ht,q⟩:=h;have fB:=hr.units;have hz:t.length<=W1:=Jf ht ∅;show⟨_,(af (cz (i:=2) gY.nd (bP cX hr (aa (bt (xW K) (pv 0) (aY (pv 1)) (aY (au bh (pv 1) ah))) ae)))
  (af (cz (i:=3) gY.nd (au bh (au bh (pv 1) ah) (pv 2)))
  (ag (ao (cY (PW.pt (jW (aw AI (pv 3) (aj (dN K) rfl T.n_len (by rfl) (aa (pv 0) ae)) (aA _)) (iQ (aw Px ar (bt (xW K) (pv 0) (aY (au bh (pv 1) ah)) (aY (pv 3))) (by with_unfolding_all rfl))))) aX (bI (aa (pv 2) (aa (pv 3) ae)))))))),?_⟩
 have hp:p<=t.length:=by lia
 show{_,rfl,_,rfl,_,rfl,_,rfl,.inl {_,_,rfl,rfl,_,rfl,.inr {t,rfl,hz,?_}}};have oK:sg (Qak t (some (p:Int)) (some ((p:Int)+(3:Int))))=((sg t).drop p).take 3:=by
  rw[show((p:Int)+(3:Int))=((p+3:Nat):Int) by lia,kN (Ua _ _) hp]
  congr 1
  lia
 unfold gU at q;rw[mL hb hp,if_pos yK,<-oK] at q;generalize Qak t (some (p:Int)) (some ((p:Int)+(3:Int)))=cx at oK q ⊢;have tH:cx.length=3:=by
  rw[str_len];change(sg cx).length=3;rw[oK,J3,Ug,<-str_len];lia
 have Ey:eA cx:=fun x hx=>hb x (by
  have hx:x∈sg cx:=hx;rw[oK] at hx;show Yl (Yn hx))
 have Xj:=pQ (l:=sg cx) Ey;rw[show(sg cx).length=3 by rw[<-tH,str_len]] at Xj;show{cx,rfl,Ey,⋯,gn ?_};have q:∀v H',aq H H'->Ce K H' v ((if ((sg t).drop (p+3)).take (cC (sg cx))=Jm (cC (sg cx)) 48 then some (cC (sg cx),p+3+cC (sg cx)) else none).map fun r=>(.int (r.1:Nat),r.2))->Q v H':=q;generalize cC (sg cx)=n at q Xj ⊢;dsimp only;show{_,rfl,.inl {_,_,rfl,rfl,_,rfl,.inl {_,_,rfl,rfl,gn ?_}}};show{_,rfl,_,rfl,_,_,rfl,⟨hz,rfl⟩,_,_,rfl,rfl,_,rfl,?_};show eU (fun c =>?_) (fun c =>?_)
 ·have c:((t.length:Nat):Int)<(p:Int)+3+(n:Int):=of_decide_eq_true c;rw[if_neg (fun z=>by
   have:=congrArg Qc4 z;rw[J3,Ug,Ud,<-str_len] at this;lia)] at q
  show q _ H (aq.refl _) rfl
 have c:¬((t.length:Nat):Int)<(p:Int)+3+(n:Int):=fun z=>c (decide_eq_true z);have JS:sg (Qak t (some ((p:Int)+3)) (some ((p:Int)+3+(n:Int))))=((sg t).drop (p+3)).take n:=by
  rw[show((p:Int)+3+(n:Int))=((p+3+n:Nat):Int) by lia,show((p:Int)+3)=((p+3:Nat):Int) by lia,kN (Ua _ _) yK]
  congr 1
  lia
 show{_,rfl,_,rfl,.inl {_,_,rfl,rfl,_,rfl,_,rfl,_,rfl,.inr {t,rfl,hz,?_}}};generalize Qak t (some ((p:Int)+3)) (some ((p:Int)+3+(n:Int)))=cy at JS ⊢;have OQ:cy.length=n:=by
  rw[str_len];change(sg cy).length=n;rw[JS,J3,Ug,<-str_len];lia
 have ZH:eA cy:=fun x hx=>hb x (by
  have hx:x∈sg cy:=hx;rw[JS] at hx;show Yl (Yn hx))
 rw[<-JS] at q;have h1:=K3 ZH ⋯;rw[OQ] at h1;show{_,_,rfl,rfl,?_};rw[h1]
 by_cases hz0:sg cy=Jm n 48
 ·rw[if_pos hz0] at q;rw[decide_eq_true hz0];show{_,rfl,bf ?_};show{_,rfl,_,rfl,eV,fun tp H' n'=>q _ H' n'.same {tp,rfl,?_}};have:=aV.of (K:=K) n'.at;rw[show((p:Int)+3+(n:Int))=((p+3+n:Nat):Int) by lia] at this;show this
 ·rw[if_neg hz0] at q;rw[decide_eq_false hz0];show{_,rfl,br (q _ H (aq.refl _) rfl)}
def cU (bk:List (Str×Str))(t:Str):Nat->Nat->Option (List Str×Nat)
 | 0,p=>some ([],p)
 | n+1,p=>(nameA bk t p).bind fun r=>(cU bk t n r.2).map fun z=>(r.1::z.1,z.2)
def Vi (o:Option (Str×Str)):List V:=match o with
 | some q=>[.str q.1]
 | none=>[]
def NF:∀n∈aB++(bJ++aH),QaE (.list [.str n])=true:=∅
end
def EK {H:Hp}{a e:KE}{o:Option (Str×Str)}{Q:VK}(ha:H a=some (.lst (Vi o)))(he:H e=some (.lst []))(hs:∀q,o=some q->q.1∈aB++(bJ++aH))(q:Q (.bl o.isNone) H):
  SM (.ref a) (.ref e) H Q\/∃d e',Den K H d (.ref a)/\Den K H e' (.ref e)/\QaE d=true/\QaE e'=true/\Q (.bl (d.eqv e')) H:=by
 cases o with
 | none=>
  show .inr {.list [],.list [],Den.list (aW.of ha) (Den.strs []),Den.list (aW.of he) (Den.strs []),∅,∅,?_};rw[FG];show q
 | some z=>
  show .inr {.list [.str z.1],.list [],Den.list (aW.of ha) (Den.strs [z.1]),Den.list (aW.of he) (Den.strs []),NF _ (hs z rfl),∅,?_};rw[FG];show q
def rDp (K:Ja):List V->Hp->VK->Prop:=fun xs H Q=>∃(p:KE) (as:List KE) (kvs:List (Key×V)),xs=[.ref p]/\aW K H p (as.map V.ref)/\as.length=kvs.length/\kvs.length<=100000/\(∀(j:Nat) b kv,as[j]? = some b->kvs[j]? = some kv->aV K H b [kV kv.fst,kv.snd])/\∀d H',jI H d (HO.dK (cN [] kvs)) H'->Q (V.ref d) H'
def XW (K:Ja):List V->Hp->VK->Prop:=fun xs H Q=>∃x n,xs=[x]/\Nj K x H n/\Q (V.int (n:Nat)) H
def MI (hP:je K H lp F)(hi:[F.b1,F.b2,F.b3][i]? = some bk)(g:lG bk)(Sv:(bk.map (·.1)).Nodup)(hx:x∈bk.map (·.1))
  {σ:L2.St} {te:TE} {Q:VK} (h0: σ[0]? = some (some (.ref lp))) (EW:∀H' Qk,aq H H'->Qk (.str x) H'->te σ H' Qk) (q:∀H',aq H H'->Q (.int ((a9 bk x).length:Nat)) H') :
  Q3 (XW K) (Bm (Ll (Q3 (rDp K) (Bm (N1 (Vu K) (K2 0) (tC (.int (i:Nat)))) Cv)) te) Cv) σ H Q:=by
 obtain⟨r1,r2,r3,hl,hD⟩:=hP.ex;have h3:i<3:=(Jl.mp hi).1;have hB:=fk (d:=aO bk) hD (by
  match i,h3,hi with
  | 0,_,e=>cases e;rfl
  | 1,_,e=>cases e;rfl
  | 2,_,e=>cases e;rfl) (Jd h3)
 have Kj:xG [r1,r2,r3,.int (F.near:Nat),.int (F.eY:Nat)] (i:Nat)=some ([r1,r2,r3][i]'h3):=by
  match i,h3 with
  | 0,_=>rfl
  | 1,_=>rfl
  | 2,_=>rfl
 generalize [r1,r2,r3][i]'h3=v at hB Kj;obtain⟨a,as,rfl,sq,al,hT⟩:=pV hB;have hle:=g.le;show{_,h0,.inl {lp,_,_,.ref a,rfl,rfl,hl,Kj,a,as,iE bk,rfl,sq,al,by rw[pX];lia,hT,fun d H1 n1 =>?_}};rw[jd Sv] at n1;show EW H1 _ n1.same {d,_,rfl,by rw[<-jC hx];show fz.k (k := .inr x) n1.at,_,_,rfl,by first|show{Jf ((g.cd _ (km hx)).2) ∅,rfl}|trace_state,q _ n1.same}
def vN (Sv:(bk.map (·.1)).Nodup){t:Str}{p:Nat}{q:Str×Str}(h:tf bk t p=some q):q.1∈bk.map (·.1)/\a9 bk q.1=q.2:=by
 have hm:=(di h).1;show{Um hm,?_};have h2:=km (Um hm);obtain⟨i,hi⟩:=J6.mp hm;obtain⟨j,hj⟩:=J6.mp h2;have e:i=j:=by
  have h1:(bk.map (·.1))[i]? = some q.1:=by rw[Jk,hi];rfl
  have h2:(bk.map (·.1))[j]? = some q.1:=by rw[Jk,hj];rfl
  obtain⟨li,ei⟩:=Jl.mp h1;obtain⟨lj,ej⟩:=Jl.mp h2
  rcases Qez i j with c|c|c
  ·show absurd (ei.trans ej.symm) (Ut.mp Sv i j li lj c)
  ·show c
  ·show absurd (ej.trans ei.symm) (Ut.mp Sv j i lj li c)
 subst e;rw[hi] at hj;show(congrArg Prod.snd (Qan hj)).symm
def Ls (K:Ja):Sp:=fun vs H Q _=>uN fun lp F t p n=>vs=[.ref lp,.str t,.int (p:Nat),.int (n:Nat)]/\je K H lp F/\iK F/\n<=2/\p<=t.length/\t.length<=1000000 /\
 ∀v H',aq H H'->(match cU F.b2 t n p with
  | none=>v = .non
  | some r=>∃tp fp,v = .ref tp/\aV K H' tp [.ref fp,.int (r.2:Nat)]/\aV K H' fp (r.1.map V.str))->Q v H'
def qO:∀{n p:Nat} {xs:List Str} {e:Nat},cU bk t n p=some (xs,e)->cU bk t (n+1) p=(nameA bk t e).map fun r=>(xs++[r.1],r.2)
 | 0,p,xs,e,h=>by
  cases h;change(nameA bk t p).bind (fun r=>(some ([],r.2)).map _)=_;cases nameA bk t p<;>rfl
 | n+1,p,xs,e,h=>by
  obtain⟨r,h1,h2⟩:=Option.bind_eq_some_iff.mp h;obtain⟨z,h3,h4⟩:=Option.map_eq_some_iff.mp h2;cases h4;change(nameA bk t p).bind (fun r=>(cU bk t (n+1) r.2).map fun z=>(r.1::z.1,z.2))=_;rw[h1];change(cU bk t (n+1) r.2).map _=_;rw[qO h3];cases nameA bk t z.2<;>rfl
def zi (h2:nameA bk t e=none):∀{i:Nat} {p:Nat} {xs:List Str},cU bk t i p=some (xs,e)->cU bk t (i+1+k) p=none:=by
 intro i
 induction i with
 | zero=>
  intro p xs h;cases h;rw[show 0+1+k=k+1 by lia];change(nameA bk t e).bind _=none;rw[h2];rfl
 | succ i ih=>
  intro p xs h;obtain⟨r,h1,h3⟩:=Option.bind_eq_some_iff.mp h;obtain⟨z,h4,h5⟩:=Option.map_eq_some_iff.mp h3;cases h5;rw[show i+1+1+k=(i+1+k)+1 by lia];change(nameA bk t p).bind (fun r=>(cU bk t (i+1+k) r.2).map fun z=>(r.1::z.1,z.2))=none;rw[h1];change(cU bk t (i+1+k) r.2).map _=none;rw[ih h4];rfl
section
variable {P:Qac}{w:Qag}{K:Ja}{mg:Str->Option Fk}{base:Heap}{f:KE}{fd:Qal}
def ck:aD ["_law_parts_here", "_law_text", "_law_at_here", "_law_many", "_law_found", "_law_turn", "_law_names"] ["_law_parts_here", "_law_text", "_law_at_here", "_law_many"] (ai (top hV)):=fO
def Mq (F:eC K "_law_spots_at" "_law_spots_at" (top hV) f fd)(T:Nm mg)(cI:mg "dict" = none)(dJ:Fn P w K mg base 1 "_law_names_at" ["_law_book", "_law_text", "_law_at_here"] (AN K)):aU P w K mg base dX 2 f fd ["_law_parts_here", "_law_text", "_law_at_here", "_law_many"] (Ls K):=by
 show F.gw ck fun H vs Q E hr h =>?_;obtain⟨lp,Fo,t,p,n,rfl,hP,fr,hn,hp,ht,q⟩:=h;have fB:=hr.units;have hu:=lP hr;obtain⟨_,k2,_⟩:=fr.GN;have R4:(Fo.b2.map (·.1)).Nodup:=fr.n2.nodup_iff.mpr Ow.nd;show⟨_,(af (cz (i:=4) ck.nd (bI ae))
  (af (eZ Qay rfl (de rfl T.n_range (aa (pv 3) ae)) (eX (i:=5) ck.nd) (af (cz (i:=6) ck.nd (bP dJ hr (aa (aR (eW K) (pv 0) ah (fun _ _=>rfl)) (aa (pv 1) (aa (pv 2) ae)))))
  (af (aN (aw (ka K fB) (pv 6) (gq ae) (aA _)) (ag (ao aX)) ay)
  (af (cz (i:=4) ck.nd (au (Pg K) (pv 4) (bI (aa (aR (eW K) (pv 6) ah (fun _ _=>rfl)) ae))))
  (ag (cz (i:=2) ck.nd (au bh (pv 2) (aj (dN K) rfl T.n_len (by rfl) (aa (bS hu (aQ (sA K rfl) rfl cI (by rfl) (aa (aR (eW K) (pv 0) ah (fun _ _=>rfl)) ae)) (aR (eW K) (pv 6) ah (fun _ _=>rfl)) (fun _ _=>rfl)) ae)))))))))
  (ag (ao (bI (aa (pv 4) (aa (pv 2) ae))))))),?_⟩
 show{HU,fun tp H1 n1=>gn ?_};dsimp only;show cS (t:=CW _ _ _) (fun σ H'=>∃(x5 x6:Option V) (xs:List Str) (e:Nat) (fp:KE),σ=[some (.ref lp),some (.str t),some (.int (e:Nat)),some (.int (n:Nat)),some (.ref fp),x5,x6]/\aq H H'/\aV K H' fp (xs.map V.str)/\cU Fo.b2 t n p=some (xs,e)) (fun Nx nx =>?_) ?_
 ·show{_,rfl,_,rfl,⋯,⋯,?_};show jO (N:=n) (fun i σ H'=>∃(x5 x6:Option V) (xs:List Str) (e:Nat) (fp:KE),σ=[some (.ref lp),some (.str t),some (.int (e:Nat)),some (.int (n:Nat)),some (.ref fp),x5,x6]/\aq H H'/\aV K H' fp (xs.map V.str)/\cU Fo.b2 t i p=some (xs,e)/\e<=t.length/\xs.length=i) {_,_,[],p,tp,rfl,n1.same,aV.of n1.at,rfl,hp,rfl} ?_ ?_
  ·rintro i σ H2 hi ⟨x5,x6,xs,e,fp,rfl,s2,h2,wR,he,OL⟩;show{hi,?_};rintro x' H3 ⟨rfl,rfl⟩;show gn ?_;obtain⟨r1,r2,r3,hl,hD⟩:=(hP.same s2).ex;show{_,rfl,.inl {lp,_,1,r2,rfl,rfl,hl,rfl,_,rfl,_,rfl,r2,Fo.b2,t,e,rfl,fk (j:=1) hD rfl rfl,k2,he,ht,fun np H4 s4 hn0 D0=>gn ?_}};have D0:H4 np=some (.lst (Vi (tf Fo.b2 t e))):=D0;show{_,rfl,HU,fun ep H5 n5=>EK (n5.same _ _ D0) n5.at (fun q hq=>Jr _ (Uv _ (fr.n2.mem_iff.mp (Um (di hq).1)))) ?_};have s5:=s2.trans (s4.trans n5.same);have VF:=n5.same _ _ D0;cases ea:tf Fo.b2 t e with
   | none=>
    have en:nameA Fo.b2 t e=none:=by unfold nameA;rw[ea];rfl
    have:=zi (k:=n-(i+1)) en wR;rw[show i+1+(n-(i+1))=n by lia] at this;rw[this] at q;show{_,rfl,br (q _ _ s5 rfl)}
   | some z=>
    have en:nameA Fo.b2 t e=some (z.1,e+z.2.length):=by unfold nameA;rw[ea];rfl
    obtain⟨hz1,hz2⟩:=vN R4 ea;have XO:=qO wR;rw[en] at XO;rw[ea] at VF;show{_,rfl,bf ?_};dsimp only[ji];have YK:=vB he ea;show ie (te:=N1 _ _ _) (fun v H'=>∃fp',v = .ref fp'/\aq H5 H'/\aV K H' fp' ((xs++[z.1]).map V.str)) (fun Qn qn =>?_) ?_
    ·show{_,rfl,_,rfl,.inl {np,_,0,.str z.1,rfl,rfl,aW.of VF,rfl,HW,fun gp H6 n6 =>?_}};have h6:=n6.same.bF ((s4.trans n5.same).bF h2);cases xs with
     | nil=>show .inr ⟨fp,gp,_,rfl,rfl,h6,aV.of n6.at,qn _ _ ⟨gp,rfl,n6.same,aV.of n6.at⟩⟩
     | cons x xs=>
      show .inl {fp,gp,_,_,rfl,rfl,h6,aV.of n6.at,?_,(nofun),(nofun),fun _ p' H7 n7=>qn _ _ {p',rfl,n6.same.trans n7.same,?_}}
      ·simp only[Jc,Jo,Yo] at OL ⊢;lia
      ·rw[Jx];show aV.of n7.at
    rintro v H6 ⟨fp',rfl,s6,h6⟩;have YJ:=s6;have s6:=s5.trans s6;show{_,rfl,MI (i:=1) (hP.same s6) rfl k2 R4 hz1 rfl (fun H' Qk s' qk=>{_,rfl,.inl {np,_,0,.str z.1,rfl,rfl,aW.of (s' _ _ (YJ _ _ VF)),rfl,qk}}) fun H7 s7 =>.inl {_,_,rfl,rfl,?_}};rw[hz2];show{_,_,_,_,fp',rfl,s6.trans s7,s7.bF h6,XO,YK,by rw[Jn,OL];rfl}
  ·rintro σ H2 ⟨x5,x6,xs,e,fp,rfl,s2,h2,wR,he,OL⟩;show{Je _,nx _ _ ⟨x5,x6,xs,e,fp,rfl,s2,h2,wR⟩}
 rintro σ H2 ⟨x5,x6,xs,e,fp,rfl,s2,h2,wR⟩;rw[wR] at q;show{_,rfl,_,rfl,eV,fun tq H3 n3=>q _ H3 (s2.trans n3.same) {tq,fp,rfl,aV.of n3.at,n3.same.bF h2}}
def LG (K:Ja):Sp:=fun vs H Q _=>nP fun lp F t p=>vs=[.ref lp,.str t,.int (p:Nat)]/\je K H lp F/\iK F/\eA t/\p<=t.length/\t.length<=1000000 /\
 ∀v H',aq H H'->Ce K H' v ((pO F.b3 t p).map fun r=>(.int (r.1:Nat),r.2))->Q v H'
def Pb:∀x∈aH,aH.idxOf x<=8/\(x = "none" ↔ aH.idxOf x=0):=∅
def dH:aD ["_law_parts_here", "_law_text", "_law_at_here", "_law_names", "_law_many", "_law_number"] ["_law_parts_here", "_law_text", "_law_at_here"] (ai (top iL)):=fO
def OE (F:eC K "_law_size_at" "_law_size_at" (top iL) f fd)(T:Nm mg)(cI:mg "dict" = none)(dJ:Fn P w K mg base 1 "_law_names_at" ["_law_book", "_law_text", "_law_at_here"] (AN K))(cX:Fn P w K mg base 1 "_law_number_by" ["_law_signs"] AQ)(fY:Fn P w K mg base 1 "_law_sizes" [] (rA aH)):aU P w K mg base dX 2 f fd ["_law_parts_here", "_law_text", "_law_at_here"] (LG K):=by
 show F.gw dH fun H vs Q E hr h =>?_;obtain⟨lp,Fo,t,p,rfl,hP,fr,hb,hp,ht,q⟩:=h;have fB:=hr.units;have hu:=lP hr;have hz:t.length<=W1:=Jf ht ∅;obtain⟨_,_,k3⟩:=fr.GN;have Sf:(Fo.b3.map (·.1)).Nodup:=fr.n3.nodup_iff.mpr OK.nd;show⟨_,(af (cz (i:=3) dH.nd (bP dJ hr (aa (aR (eW K) (pv 0) ah (fun _ _=>rfl)) (aa (pv 1) (aa (pv 2) ae)))))
  (af (aN (aw (ka K fB) (pv 3) (gq ae) (aA _)) (ag (ao aX)) ay)
  (af (cz (i:=2) dH.nd (au bh (pv 2) (aj (dN K) rfl T.n_len (by rfl) (aa (bS hu (aQ (sA K rfl) rfl cI (by rfl) (aa (aR (eW K) (pv 0) ah (fun _ _=>rfl)) ae)) (aR (eW K) (pv 3) ah (fun _ _=>rfl)) (fun _ _=>rfl)) ae))))
  (af (cz (i:=4) dH.nd (aj (tZ rfl) rfl T.n_max (by rfl) (aa ah (aa (au dW (qd K Qaw Qfj Qfi MN (qQ (fY.mono (by first|decide|show Je _|lia)) hr rfl) (aa (aR (eW K) (pv 3) ah (fun _ _=>rfl)) ae)) ah) ae))))
  (af (aN (aw AI (au bh (pv 2) (pv 4)) (aj (dN K) rfl T.n_len (by rfl) (aa (pv 1) ae)) (aA _)) (ag (ao aX)) ay)
  (af (cz (i:=5) dH.nd (bP cX hr (aa (au bh ar (bt (xW K) (pv 1) (aY (pv 2)) (aY (au bh (pv 2) (pv 4))))) ae)))
  (ag (ao (bI (aa (au j3 (pv 5) (aQ fH rfl T.n_int (by rfl) (aa (cF (Cq K fB) (aR (eW K) (pv 3) ah (fun _ _=>rfl)) ar (aA _)) ae))) (aa (au bh (pv 2) (pv 4)) ae))))))))))),?_⟩
 obtain⟨r1,r2,r3,hl,hD⟩:=hP.ex;show{_,rfl,.inl {lp,_,2,r3,rfl,rfl,hl,rfl,_,rfl,_,rfl,r3,Fo.b3,t,p,rfl,fk (j:=2) hD rfl rfl,k3,hp,ht,fun np H1 s1 hn0 D0=>gn ?_}};have D0:H1 np=some (.lst (Vi (tf Fo.b3 t p))):=D0;have sP:∀q,tf Fo.b3 t p=some q->q.1∈aH:=fun q hq=>fr.n3.mem_iff.mp (Um (di hq).1);show{_,rfl,HU,fun ep H2 n2=>EK (n2.same _ _ D0) n2.at (fun q hq=>Jr _ (Jr _ (sP q hq))) ?_};have s2:=s1.trans n2.same;have yN:=n2.same _ _ D0;cases ea:tf Fo.b3 t p with
 | none=>
  have en:pO Fo.b3 t p=none:=by unfold pO nameA;rw[ea];rfl
  rw[en] at q;show{_,rfl,br (q _ _ s2 rfl)}
 | some z=>
  have en:pO Fo.b3 t p=sX z.1 t (p+z.2.length):=by unfold pO nameA;rw[ea];rfl
  rw[en] at q;rw[ea] at yN;obtain⟨hz1,hz2⟩:=vN Sf ea;have he:=vB hp ea;obtain⟨i8,i0⟩:=Pb _ (sP z ea);obtain⟨ix1,ix2,ix3⟩:=uw (sP z ea);unfold sX at q;have VZ:decide (V.str z.1=V.str "none")=decide (aH.idxOf z.1=0):=by
   rw[decide_eq_decide];show{fun e=>i0.mp (by injection e),fun e=>by rw[i0.mpr e]}
  generalize aH.idxOf z.1=ix at q i8 i0 ix1 ix2 ix3 VZ;show{_,rfl,bf ?_};dsimp only[ji];show{_,rfl,MI (i:=2) (hP.same s2) rfl k3 Sf hz1 rfl (fun H' Qk s' qk=>{_,rfl,.inl {np,_,0,.str z.1,rfl,rfl,aW.of (s' _ _ yN),rfl,qk}}) fun H3 s3 =>.inl {_,_,rfl,rfl,gn ?_}};rw[hz2];generalize hee:p+z.2.length=e at he q;have OX:(p:Int)+(z.2.length:Int)=(e:Nat):=by lia
  rw[OX];have R1:=s2.trans s3;have TR:=s3 _ _ yN;show{rfl,fun l4 H4 n4=>{.inl {rfl,_,aW.of n4.at},_,rfl,.inl {np,_,0,.str z.1,rfl,rfl,aW.of (n4.same _ _ TR),rfl,l4,aH,z.1,ix,rfl,rfl,n4.at,ix1,ix2,?_}}};show{_,_,rfl,rfl,0,_,rfl,gn ?_};have em:(if ((ix:Nat):Int)-1>0 then ((ix:Nat):Int)-1 else 0)=((ix-1:Nat):Int):=by split<;>lia
  rw[em];have s4:=R1.trans n4.same;have YN:=n4.same _ _ TR;clear em n4 TR R1 n2 s2 s1;dsimp only;show{_,rfl,_,rfl,.inl {_,_,rfl,rfl,_,rfl,_,_,rfl,⟨hz,rfl⟩,_,_,rfl,rfl,_,rfl,?_}};show eU (fun c =>?_) (fun c =>?_)
  ·have c:((t.length:Nat):Int)<(e:Int)+((ix-1:Nat):Int):=of_decide_eq_true c;have zw:ix≠0:=by lia
   rw[if_neg zw,mL hb he,if_neg (show ¬e+(ix-1)<=t.length by lia)] at q;show q _ _ s4 rfl
  have c:¬((t.length:Nat):Int)<(e:Int)+((ix-1:Nat):Int):=fun z=>c (decide_eq_true z);dsimp only[ji];show{_,rfl,_,rfl,_,rfl,_,rfl,_,rfl,.inl {_,_,rfl,rfl,_,rfl,.inr {t,rfl,hz,?_}}};have oK:sg (Qak t (some (e:Int)) (some ((e:Int)+((ix-1:Nat):Int))))=((sg t).drop e).take (ix-1):=by
   rw[show((e:Int)+((ix-1:Nat):Int))=((e+(ix-1):Nat):Int) by lia,kN (Ua _ _) he]
   congr 1
   lia
  rw[mL hb he,if_pos (show e+(ix-1)<=t.length by lia),<-oK] at q;generalize Qak t (some (e:Int)) (some ((e:Int)+((ix-1:Nat):Int)))=cx at oK q ⊢;have tH:cx.length<=ix-1:=by rw[str_len];change(sg cx).length<=ix-1;rw[oK];show Qd3 _ _
  have Ey:eA cx:=fun x hx=>hb x (by
   have hx:x∈sg cx:=hx;rw[oK] at hx;show Yl (Yn hx))
  have e1:sg ((Wp "1")++cx)=sg "1" ++ sg cx:=aK _ _;show .inr (.inl ⟨_,_,rfl,rfl,Jf (show _<=100 by rw[show(Wp "1").length=1 from rfl];lia) ∅,Wp "1" ++ cx,rfl,fun x hx =>?_,?_,gn ?_⟩)
  ·have hx:x∈sg (Wp "1" ++ cx):=hx;rw[e1] at hx
   rcases Ub.mp hx with h|h
   ·show .inr (by simpa [show sg (Wp "1")=[49] by decide +kernel] using h)
   ·show Ey x h
  ·rw[Qar,show(Wp "1").length=1 from rfl];lia
  rw[e1];show{_,rfl,_,rfl,.inl {np,_,0,.str z.1,rfl,rfl,aW.of YN,rfl,.inl {rfl,.inr {_,rfl,.inl {_,_,rfl,rfl,?_,_,rfl,_,rfl,.inl {_,_,rfl,rfl,eV,fun tp H' n'=>q _ H' (s4.trans n'.same) ?_}}}}}}
  ·show .inr ?_
   split<;>decide
  ·have:=aV.of (K:=K) n'.at;rw[show((e:Int)+((ix-1:Nat):Int))=((e+(ix-1):Nat):Int) by lia,VZ] at this
   by_cases cc:ix=0
   ·rw[if_pos cc];show{tp,rfl,?_};rw[decide_eq_true cc,show e+(ix-1)=e by lia] at this;have this:aV K H' tp [V.int (((cC (sg "1" ++ sg cx):Nat):Int)*0),.int (e:Nat)]:=this;rw[Qgn] at this;show this
   ·rw[if_neg cc];show{tp,rfl,?_};rw[decide_eq_false cc] at this;have this:aV K H' tp [V.int (((cC (sg "1" ++ sg cx):Nat):Int)*1),.int ((e+(ix-1):Nat):Int)]:=this;rw[Int.mul_one] at this;show this
def Qs (w:Str):Nat:=if w∈(["stop", "jump", "farjump"]:List Str) then 0 else if w∈(["add", "take"]:List Str) then 2 else 1
def O6 (w:Str):List Str:=if w = "set" then ["number"] else if w∈(["jump", "zero"]:List Str) then ["near"] else if w∈(["farjump", "farzero"]:List Str) then ["far"] else []
def yR:∀w∈aB,w ≠ "skip" -> kQ w=Jm (Qs w) (Wp "spot")++O6 w:=∅
def Q4:List (Key×V):=[(.inr "stop",.int 0),(.inr "jump",.int 0),(.inr "farjump",.int 0),(.inr "add",.int 2),(.inr "take",.int 2)]
def M1:∀w∈aB,((gH (cN [] Q4) (.inr w)).getD (.int 1)) = .int (Qs w:Nat):=∅
def Ay:List Str:=["set", "jump", "zero", "farjump", "farzero"]
def Kp:∀w∈aB,(Ay.contains w=false/\O6 w=[])\/(Ay.contains w=true/\((w = "set" /\ O6 w=[Wp "number"])\/(w ≠ "set" /\ O6 w=[if lH w=true then Wp "far" else Wp "near"]))):=∅
def Dn (F:Fb)(k t:Str)(p:Nat):bz F [k] t p=(bU F k t p).map fun r=>([r.1],r.2):=by
 change(bU F k t p).bind (fun r=>some ([r.1],r.2))=_;cases bU F k t p<;>rfl
def Ru:∀w,Qs w<=2:=fun w=>by unfold Qs;split<;>(try split)<;>decide
def oZ (F:Fb)(t:Str):∀n p,bz F (Jm n "spot") t p=(cU F.b2 t n p).map fun r=>(r.1.map Arg.sp,r.2)
 | 0,p=>rfl
 | n+1,p=>by
  change(bU F "spot" t p).bind (fun r=>(bz F (Jm n "spot") t r.2).map fun z=>(r.1::z.1,z.2))=((nameA F.b2 t p).bind fun r=>(cU F.b2 t n r.2).map fun z=>(r.1::z.1,z.2)).map _;have e:bU F "spot" t p=(nameA F.b2 t p).map fun r=>(.sp r.1,r.2):=by unfold bU;rw[if_pos rfl]
  rw[e];cases nameA F.b2 t p with
  | none=>rfl
  | some r=>
   change(bz F (Jm n "spot") t r.2).map _=((cU F.b2 t n r.2).map _).map _;rw[oZ F t n r.2];cases cU F.b2 t n r.2<;>rfl
def oB:∀{n p:Nat} {r:List Str×Nat},cU bk t n p=some r->r.1.length=n
 | 0,p,r,h=>by cases h;rfl
 | n+1,p,r,h=>by
  obtain⟨a,h1,h2⟩:=Option.bind_eq_some_iff.mp h;obtain⟨z,h3,h4⟩:=Option.map_eq_some_iff.mp h2;have:=oB h3;rw[<-h4];show congrArg Nat.succ this
def tM:∀{n p:Nat} {r:List Str×Nat},p<=t.length->cU bk t n p=some r->r.2<=t.length
 | 0,p,r,hp,h=>by cases h;show hp
 | n+1,p,r,hp,h=>by
  obtain⟨a,h1,h2⟩:=Option.bind_eq_some_iff.mp h;obtain⟨z,h3,h4⟩:=Option.map_eq_some_iff.mp h2;have:=tM (ia hp h1) h3;rw[<-h4];show this
def Lh (K:Ja):Sp:=fun vs H Q _=>nP fun lp F t p=>vs=[.ref lp,.str t,.int (p:Nat)]/\je K H lp F/\iK F/\eA t/\p<=t.length/\t.length<=1000000 /\
 ∀v H',aq H H'->(match jV F t p with
  | none=>v = .non
  | some r=>∃tp bp,v = .ref tp/\aV K H' tp [.ref bp,.int (r.2:Nat)]/\aV K H' bp (.str r.1.1::r.1.2.map Arg.v))->Q v H'
def eS:aD ["_law_parts_here", "_law_text", "_law_place", "_law_names", "_law_word", "_law_at_here", "_law_told_here", "_law_spots", "_law_found"] ["_law_parts_here", "_law_text", "_law_place"] (ai (top qE)):=fO
def OA (F:eC K "_law_at" "_law_at" (top qE) f fd)(T:Nm mg)(cI:mg "dict" = none)(dJ:Fn P w K mg base 1 "_law_names_at" ["_law_book", "_law_text", "_law_at_here"] (AN K))(sW:Fn P w K mg base 2 "_law_skip_at" ["_law_text", "_law_at_here"] (LR K))(rS:Fn P w K mg base 2 "_law_spots_at" ["_law_parts_here", "_law_text", "_law_at_here", "_law_many"] (Ls K))(tj:Fn P w K mg base 2 "_law_size_at" ["_law_parts_here", "_law_text", "_law_at_here"] (LG K))(mJ:Fn P w K mg base 2 "_law_far_figures" ["_law_parts_here", "_law_text", "_law_at_here", "_law_word"] (La K)):aU P w K mg base dX 3 f fd ["_law_parts_here", "_law_text", "_law_place"] (Lh K):=by
 show F.gw eS fun H vs Q E hr h =>?_;obtain⟨lp,Fo,t,p,rfl,hP,fr,hb,hp,ht,q⟩:=h;have fB:=hr.units;have hu:=lP hr;obtain⟨k1,_,_⟩:=fr.GN;have SQ:=fr.g.n1.nodup_iff.mpr da;show⟨_,(af (cz (i:=3) eS.nd (bP dJ hr (aa (aR (eW K) (pv 0) ah (fun _ _=>rfl)) (aa (pv 1) (aa (pv 2) ae)))))
  (af (aN (aw (ka K fB) (pv 3) (gq ae) (aA _)) (ag (ao aX)) ay)
  (af (cz (i:=4) eS.nd (aR (eW K) (pv 3) ah (fun _ _=>rfl)))
  (af (cz (i:=5) eS.nd (au bh (pv 2) (aj (dN K) rfl T.n_len (by rfl) (aa (bS hu (aQ (sA K rfl) rfl cI (by rfl) (aa (aR (eW K) (pv 0) ah (fun _ _=>rfl)) ae)) (pv 4) (fun _ _=>rfl)) ae))))
  (af (aN (aw (ka K fB) (pv 4) ar (aA _)) (af (cz (i:=6) eS.nd (cY (aw rL (au bh (pv 5) ah) (aj (dN K) rfl T.n_len (by rfl) (aa (pv 1) ae)) (aA _)) (bP sW hr (aa (pv 1) (aa (pv 5) ae))) aX))
  (ag (ao (cY (aw nN (pv 6) aX (aA _)) aX (bI (aa (bI (aa (pv 4) (aa (aR (eW K) (pv 6) ah (fun _ _=>rfl)) ae))) (aa (aR (eW K) (pv 6) ah (fun _ _=>rfl)) ae))))))) ay)
  (af (cz (i:=7) eS.nd (bP rS hr (aa (pv 0) (aa (pv 1) (aa (pv 5) (aa (Hi hu (K9 (iu ar ah (iu ar ah (iu ar ah (iu ar ah (iu ar ah A0))))) rfl rfl ∅ ∅) (pv 4) ah ⟨rfl,rfl,rfl,rfl⟩) ae))))))
  (af (aN (aw nN (pv 7) aX (aA _)) (ag (ao aX)) ay)
  (af (rD (i:=8) (j:=5) rfl eS.nd rfl rfl ∅ rfl rfl (aa (au (Qd K) (bI (aa (pv 4) ae)) (aR (eW K) (pv 7) ah (fun _ _=>rfl))) (aa (aR (eW K) (pv 7) ah (fun _ _=>rfl)) ae)) rfl)
  (af (aN (aw (N8 K) (pv 4) (bI (aa ar (aa ar (aa ar (aa ar (aa ar ae)))))) (by with_unfolding_all rfl)) (ag (ao (bI (aa (pv 8) (aa (pv 5) ae))))) ay)
  (af (cz (i:=6) eS.nd (cY (aw (ka K fB) (pv 4) ar (aA _)) (bP tj hr (aa (pv 0) (aa (pv 1) (aa (pv 5) ae)))) (bP mJ hr (aa (pv 0) (aa (pv 1) (aa (pv 5) (aa (pv 4) ae)))))))
  (ag (ao (cY (aw nN (pv 6) aX (aA _)) aX (bI (aa (au (Qd K) (pv 8) (bI (aa (aR (eW K) (pv 6) ah (fun _ _=>rfl)) ae))) (aa (aR (eW K) (pv 6) ah (fun _ _=>rfl)) ae)))))))))))))))),?_⟩
 obtain⟨r1,r2,r3,hl,hD⟩:=hP.ex;show{_,rfl,.inl {lp,_,0,r1,rfl,rfl,hl,rfl,_,rfl,_,rfl,r1,Fo.b1,t,p,rfl,fk (j:=0) hD rfl rfl,k1,hp,ht,fun np H1 s1 hn0 D0=>gn ?_}};have sP:∀q,tf Fo.b1 t p=some q->q.1∈aB:=fun q hq=>fr.g.n1.mem_iff.mp (Um (di hq).1);show{_,rfl,HU,fun ep H2 n2=>EK (n2.same _ _ D0) n2.at (fun q hq=>Uv _ (sP q hq)) ?_};have s2:=s1.trans n2.same;have yN:=n2.same _ _ D0;unfold jV nameA at q;cases ea:tf Fo.b1 t p with
 | none=>
  rw[ea] at q;show{_,rfl,br (q _ _ s2 rfl)}
 | some z=>
  rw[ea] at yN q;obtain⟨hz1,hz2⟩:=vN SQ ea;have he:=vB hp ea;have NM:=sP z ea;show{_,rfl,bf {_,rfl,.inl {np,_,0,.str z.1,rfl,rfl,aW.of yN,rfl,gn {_,rfl,MI (hP.same s2) rfl k1 SQ hz1 rfl (fun H' Qk s' qk=>{_,rfl,qk}) fun H3 s3 =>.inl {_,_,rfl,rfl,gn ?_}}}}};rw[hz2];have s3:=s2.trans s3;have q:∀v H',aq H H'->(match ((bz Fo (kQ z.1) t (p+z.2.length)).map fun y=>((z.1,y.1),y.2)) with
   | none=>v = .non
   | some r=>∃tp bp,v = .ref tp/\aV K H' tp [.ref bp,.int (r.2:Nat)]/\aV K H' bp (.str r.1.1::r.1.2.map Arg.v))->Q v H':=q
  generalize hee:p+z.2.length=e at he q;have OX:(p:Int)+(z.2.length:Int)=(e:Nat):=by lia
  rw[OX];obtain⟨wd,zc⟩:=z;have Tf:=hP.same s3
  by_cases hsk:wd = "skip"
  ·subst hsk;show{_,rfl,.inl {rfl,_,rfl,nW ?_}};have ek:bz Fo (kQ "skip") t e=(gU t e).map fun r=>([.ma r.1],r.2):=by
    change(bU Fo "many" t e).bind (fun r=>some ([r.1],r.2))=_;have:bU Fo "many" t e=(gU t e).map fun r=>(.ma r.1,r.2):=by
     unfold bU;rw[if_neg ∅,if_neg ∅,if_pos rfl]
    rw[this];cases gU t e<;>rfl
   rw[ek] at q;show ie (fun v H'=>aq H3 H'/\Ce K H' v ((gU t e).map fun r=>(.int (r.1:Nat),r.2))) (fun Qn qn =>?_) ?_
   ·show{_,rfl,.inl {_,_,rfl,rfl,_,rfl,_,_,rfl,{(Jf ht ∅),rfl},_,_,rfl,rfl,_,rfl,?_}};show eU (fun c =>?_) (fun c =>?_)
    ·have c:=of_decide_eq_true c;show{_,rfl,_,rfl,t,e,rfl,hb,⋯,ht,fun v H' s' h'=>qn _ _ ⟨s',h'⟩}
    ·have c:=fun z=>c (decide_eq_true z);show qn _ _ {aq.refl _,?_};have:gU t e=none:=by
      unfold gU;rw[mL hb he,if_neg ⋯];rfl
     rw[this];rfl
   rintro v H4 ⟨s4,h4⟩;show gn {_,rfl,.inl {rfl,_,rfl,?_}};cases em:gU t e with
   | none=>
    rw[em] at h4 q;subst h4;show br (q _ _ (s3.trans s4) rfl)
   | some r=>
    rw[em] at h4 q;obtain⟨tp,rfl,h4⟩:=h4;show bf {_,rfl,_,rfl,.inr (.inl {tp,_,0,_,rfl,rfl,h4,rfl,eV,fun bp H5 n5=>{_,rfl,.inr (.inl {tp,_,1,_,rfl,rfl,n5.same.bF h4,rfl,eV,fun tq H6 n6=>q _ _ (s3.trans (s4.trans (n5.same.trans n6.same))) {tq,bp,rfl,aV.of n6.at,aV.of (n6.same _ _ n5.at)}})}})}
  rw[yR wd NM hsk,lB,oZ] at q;show{_,rfl,.inl {rfl,_,rfl,gA {_,rfl,_,rfl,_,rfl,fun dp H4 n4=>{n4.at,Q4,rfl,∅,fun H5 c5=>{dp,rfl,.inl {_,.inl c5.at},_,rfl,_,fz.k (k := .inr wd) c5.at,?_}}} (beq_eq_false_iff_ne.mpr hsk)}};rw[M1 wd NM];have s5:aq H3 H5:=fun a o z=>by rw[c5.ne (aE z n4.nn)];show n4.same _ _ z
  have Sk:=Ru wd;generalize Qs wd=n at Sk q ⊢;show{lp,Fo,t,e,n,rfl,Tf.same s5,fr,Sk,he,ht,fun v H6 s6 h6=>gn ?_};have s6:=s5.trans s6;show{_,rfl,.inl {rfl,_,rfl,?_}};cases esp:cU Fo.b2 t n e with
  | none=>
   rw[esp] at h6 q;subst h6;show br (q _ _ (s3.trans s6) rfl)
  | some sr=>
   rw[esp] at h6 q;obtain⟨tp,fp,rfl,h6,h6f⟩:=h6;have Pa:=tM he esp;show bf ?_;dsimp only[ji];show cS (fun σ H'=>∃gp,σ=[some (.ref lp),some (.str t),some (.int (p:Nat)),some (.ref np),some (.str wd),some (.int (sr.2:Nat)),none,some (.ref tp),some (.ref gp)]/\aq H6 H'/\aV K H' gp (.str wd::sr.1.map V.str)) (fun Nx nx =>?_) ?_
   ·show{_,rfl,HW,fun wp H7 n7=>{_,rfl,.inr (.inl {tp,_,0,.ref fp,rfl,rfl,n7.same.bF h6,rfl,?_})}};have sl:=Jf (QdD (oB esp)) Sk;show{wp,fp,_,_,rfl,rfl,aV.of n7.at,n7.same.bF h6f,?_,(nofun),fun z =>?_,fun _ gp H8 n8 =>?_}
    ·rw[Jc];change 1+sr.1.length<=100000;lia
    ·show{_,rfl,.inr (.inl {tp,_,1,_,rfl,rfl,n7.same.bF h6,rfl,_,_,rfl,nx _ _ {wp,rfl,n7.same,?_}})};rw[z];show aV.of n7.at
    ·show{_,rfl,.inr (.inl {tp,_,1,_,rfl,rfl,n8.same.bF (n7.same.bF h6),rfl,_,_,rfl,nx _ _ {gp,rfl,n7.same.trans n8.same,aV.of n8.at}})}
   rintro σ H7 ⟨gp,rfl,s7,h7⟩;show{_,rfl,Vr,fun t4 H8 n8=>{t4,Ay.map V.str,rfl,.inr (aV.of n8.at),rfl,rfl,_,rfl,?_}};rw[if_pos rfl,qi];have s8:=(s6.trans s7).trans n8.same;have h8:=n8.same.bF h7;have q:∀v H',aq H H'->(match ((bz Fo (O6 wd) t sr.2).map fun z=>(sr.1.map Arg.sp++z.1,z.2)).map fun y=>((wd,y.1),y.2) with
    | none=>v = .non
    | some r=>∃tp bp,v = .ref tp/\aV K H' tp [.ref bp,.int (r.2:Nat)]/\aV K H' bp (.str r.1.1::r.1.2.map Arg.v))->Q v H':=q
   generalize hsr:sr.2=e2 at q Pa ⊢
   rcases Kp wd NM with ⟨c1,c2⟩|⟨c1,c2⟩
   ·rw[c1];rw[c2] at q;show br {_,rfl,_,rfl,eV,fun tq H9 n9=>q _ _ (s3.trans (s8.trans n9.same)) {tq,gp,rfl,aV.of n9.at,?_}};change aV K H9 gp (.str wd::(sr.1.map Arg.sp++[]).map Arg.v);rw[Us,Yh];show n9.same.bF h8
   ·rw[c1];show bf ?_;dsimp only[ji];obtain⟨k,ek,kf⟩:∃k,O6 wd=[k]/\((wd = "set" /\ k = "number")\/(wd ≠ "set" /\ k=if lH wd=true then Wp "far" else Wp "near")):=by
     rcases c2 with ⟨a,b⟩|⟨a,b⟩
     ·show{_,b,.inl ⟨a,rfl⟩}
     ·show{_,b,.inr ⟨a,rfl⟩}
    rw[ek,Dn] at q;show ie (fun v H'=>aq H8 H'/\Ce K H' v ((bU Fo k t e2).map fun r=>(r.1.v,r.2))) (fun Qn qn =>?_) ?_
    ·show{_,rfl,.inl {rfl,_,rfl,?_}}
     rcases kf with ⟨rfl,rfl⟩|⟨DN,rfl⟩
     ·show nW {_,rfl,_,rfl,_,rfl,lp,Fo,t,e2,rfl,Tf.same s8,fr,hb,Pa,ht,fun v H' s' h'=>qn _ _ {s',?_}};have:bU Fo "number" t e2=(pO Fo.b3 t e2).map fun r=>(.nu r.1,r.2):=by
       unfold bU;rw[if_neg ∅,if_pos rfl]
      rw[this,Qbn];show h'
     ·show gA ?_ (beq_eq_false_iff_ne.mpr DN);show{_,rfl,_,rfl,_,rfl,_,rfl,lp,Fo,t,e2,wd,rfl,Tf.same s8,fr,hb,Pa,ht,fun v H' s' h'=>qn _ _ {s',?_}};unfold Rz at h';unfold bU
      by_cases hf:lH wd=true
      ·rw[if_pos hf] at h';rw[if_pos hf,if_neg ∅,if_neg ∅,if_neg ∅,if_neg ∅,Qbn];show h'
      ·rw[if_neg hf] at h';rw[if_neg hf,if_neg ∅,if_neg ∅,if_neg ∅,if_pos rfl,Qbn];show h'
    rintro v H9 ⟨s9,h9⟩;show gn ?_;have Ws:=s8.trans s9;show{_,rfl,.inl {rfl,_,rfl,?_}};cases em:bU Fo k t e2 with
    | none=>
     rw[em] at h9 q;subst h9;show br (q _ _ (s3.trans Ws) rfl)
    | some r=>
     rw[em] at h9 q;obtain⟨rp,rfl,h9⟩:=h9;have sl:=Jf (QdD (oB esp)) Sk;show bf {_,rfl,_,rfl,.inr (.inl {rp,_,0,_,rfl,rfl,h9,rfl,HW,fun ap H10 n10=>{gp,ap,_,_,rfl,rfl,n10.same.bF (s9.bF h8),aV.of n10.at,?_,(nofun),(nofun),fun _ bp H11 n11 =>?_}})}
     ·change(List.map V.str sr.1).length+1+1<=100000;rw[Jc];lia
     show{_,rfl,.inr (.inl {rp,_,1,_,rfl,rfl,n11.same.bF (n10.same.bF h9),rfl,eV,fun tq H12 n12=>q _ _ (s3.trans (Ws.trans (n10.same.trans (n11.same.trans n12.same)))) {tq,bp,rfl,aV.of n12.at,?_}})};rw[Jx,Yh];show aV.of (n12.same _ _ n11.at)
def ll (hx:eA x)(hy:eA y):eA (x++y):=fun c hc=>by
 rw[aK] at hc;show(Ub.mp hc).elim (hx c) (hy c)
def kh:∀{xs:List Str},(∀x∈xs,eA x)->eA (QaM "" xs)
 | [],_=>fun c hc=>nomatch hc
 | x::xs,h=>by
  rw[join_cons];show ll (h x Jj) (kh fun y hy=>h y (Jh _ hy))
def B7 (h:gm x dB=true):eA x:=fun c hc=>by
 rw[jL,U2] at h;have:=h c hc;rw[show dB.cps = #[48,49] by decide +kernel] at this;simpa using this
def ze (h:dv ns (aO bk)=true):∀q∈bk,eA q.2:=by
 unfold dv at h;rw[Jw,Jw] at h;obtain⟨_,hq⟩:=pR h.1;rw[show dh (iX (aO bk))=bk from i9 bk] at hq;intro q m;have h4:(!decide (V.str q.2=V.str (Wp ""))&&gm q.2 dB)=true:=(hq q m).2;rw[Jw] at h4;show B7 h4.2
def Im (fr:iK F){a:Arg}(ok:a.ok){x:Str}(e:fI F a=some x):eA x:=by
 obtain⟨h1,h2,h3⟩:=sC fr.g.why;have XR:∀{d k},j4 d k=some x->eA x:=fun{d k} e=>by
  unfold j4 at e
  split at e
  ·cases e;show gc _ _
  ·cases e
 cases a with
 | sp y=>cases e;show ze h2 _ (km (fr.n2.mem_iff.mpr ok))
 | nu n=>
  cases e;have hb:=vR ok;rw[lz];have i2:∀b,b<9->aH.getD b Qau∈aH:=∅;show ll (ze h3 _ (km (fr.n3.mem_iff.mpr (i2 (dz n) ⋯)))) (gc _ _)
 | ma n=>
  cases e;have hn:n<=7:=ok;show ll (gc _ _) fun c hc =>?_;have hc:c∈sg (Qbx (Wp "0") (n:Nat)):=hc;rw[((qI ⋯).mp rfl)] at hc;show .inl (Qc6 hc)
 | ne d=>show XR e
 | fa d=>show XR e
def qx:∀{as:List Arg},(∀a∈as,(fI F a).isSome=true)->∃ts,dj F as=some ts
 | [],_=>⟨[],rfl⟩
 | a::as,h=>by
  obtain⟨x,hx⟩:=Option.isSome_iff_exists.mp (h a Jj);obtain⟨ts,ht⟩:=qx fun b hb=>h b (Jh _ hb);show{x::ts,?_};change(match fI F a with|none=>none|some x=>(dj F as).map (x :: ·))=_;rw[hx,ht];rfl
def Bw (fr:iK F){w:Str}{as:List Arg}(ba:lQ w as)(h:∀a∈as,(fI F a).isSome=true):∃x,kM F w as=some x/\eA x/\1<=x.length/\x.length<=200:=by
 obtain⟨h1,h2,h3⟩:=sC fr.g.why;obtain⟨q,hq,ew,ek⟩:=ba.pt;have OP:w∈F.b1.map (·.1):=fr.g.n1.mem_iff.mpr (by rw[ew];show(eP q hq).1);have cm:=km OP;obtain⟨ts,e⟩:∃ts,dj F as=some ts:=qx h;obtain⟨tl,tsum⟩:=yz fr ba.ok e;have al:=(eP q hq).2;rw[<-ek,Jc] at al;have c1:=fr.c1 w;have c0:=(fr.GN.1.cd _ cm).1;show{_,by unfold kM;rw[e];rfl,kh fun x hx =>?_,?_,?_}
 ·rcases Jq.mp hx with rfl|hx
  ·show ze h1 _ cm
  ·obtain⟨i,hi⟩:=J6.mp hx;obtain⟨l,m⟩:=v9 e;have il:=(Jl.mp hi).1;obtain⟨y,hy,ey⟩:=m i _ (Jd ⋯);rw[hi] at hy;cases hy;show Im fr (ba.ok _ (Uc _)) ey
 ·rw[fV,J2,Yc];lia
 ·rw[fV,J2,Yc];lia
def EM (hx:sg x=[48,49]\/sg x=[49,48]){r:Int}(h0:0<=r)(h1:r<2):∃c,xG x.cps.toList r=some c/\eA (⟨#[c]⟩:Str):=by
 have hr:r=0\/r=1:=by lia
 have b0:eA (⟨#[48]⟩:Str):=by unfold eA;decide +kernel
 have b1:eA (⟨#[49]⟩:Str):=by unfold eA;decide +kernel
 have hx:x.cps.toList=[48,49]\/x.cps.toList=[49,48]:=hx
 rcases hx with hx|hx<;>rw[hx]<;>rcases hr with rfl|rfl
 ·show{48,rfl,b0}
 ·show{49,rfl,b1}
 ·show{49,rfl,b1}
 ·show{48,rfl,b0}
def Ig {p:Nat}(h:p<=x.length):sg (Qak x (some (p:Int)) none)=(sg x).drop p:=by
 rw[Qed ⋯ ⋯ rfl,QcE,Uz]
 ·rfl
 ·rw[Ug,<-str_len];lia
def vc (h:c=48\/c=49):eA (⟨#[c]⟩:Str):=fun ch hc=>by
 have:ch=c:=by simpa using hc
 rw[this];show h
def JW (h:c=48\/c=49):PySem.intText? (⟨#[c]⟩:Str)=some (((c-48:Nat):Int))/\∃d,xG (Wp "10").cps.toList ((c-48:Nat):Int)=some d/\eA (⟨#[d]⟩:Str):=by
 rcases h with rfl|rfl
 ·show{∅,49,∅,vc (.inr rfl)}
 ·show{∅,48,∅,vc (.inl rfl)}
def qm:∀{xs:List Str},(∀x∈xs,x.length<=n)->(xs.map fun x=>x.length).sum<=n*xs.length
 | [],_=>Je _
 | x::xs,h=>by
  have h1:=h x Jj;have h2:=qm fun y hy=>h y (Jh _ hy);rw[J2,Yc,Jo,QdB];lia
def vA (hb:eA a)(h:ju a t p k=some r):r.1<2^(a.length+k):=by
 unfold ju at h
 split at h
 ·rename_i c;cases h;have:=pQ fun x hx=>by
   rcases Ub.mp hx with hx|hx
   ·show hb x hx
   ·have:=U2.mp c.2 x hx;rw[show dB.cps = #[48,49] by decide +kernel] at this;simpa using this
  rw[Jn,c.1,<-str_len] at this;show this
 ·cases h
def Bi {p k:Nat}{r:Int×Nat}(hk:k<=16)(h:oO t p k=some r):r.1.natAbs<=1000000:=by
 obtain⟨z,h1,rfl⟩:=Option.map_eq_some_iff.mp h;have:=vA pZ h1;rw[show(("" : Str).length+k)=k by rw[show(Wp "").length=0 from rfl,Qey]] at this;have p1:2^k<=2^16:=Y3 ∅ hk
 split<;>lia
def Kw (fr:iK F){k t:Str}{p:Nat}{r:Arg×Nat}(hk:k∈[("spot" : Str), "number", "many", "near", "far"])(h:bU F k t p=some r):r.1.kind=k/\r.1.ok:=by
 have ff:=fr.fr;unfold bU at h
 split at h
 ·rename_i e;obtain⟨z,h1,rfl⟩:=Option.map_eq_some_iff.mp h;obtain⟨q,h2,rfl⟩:=Option.map_eq_some_iff.mp h1;show{e.symm,fr.n2.mem_iff.mp (Um (di h2).1)}
 split at h
 ·rename_i e;obtain⟨z,h1,rfl⟩:=Option.map_eq_some_iff.mp h;show{e.symm,?_};change z.1<=255;obtain⟨y,h2,h3⟩:=Option.bind_eq_some_iff.mp h1;have hy:=(BB fr h2).2.2;unfold sX at h3
  split at h3
  ·cases h3;show Ue _
  ·have this:=vA (by unfold eA;decide +kernel) h3;have p1:2^(1+(aH.idxOf y.1-1))<=2^8:=Y3 ∅ ⋯;have this:z.1<2^(1+(aH.idxOf y.1-1)):=this;lia
 split at h
 ·rename_i e;obtain⟨z,h1,rfl⟩:=Option.map_eq_some_iff.mp h;show{e.symm,?_};obtain⟨y,h2,h3⟩:=Option.bind_eq_some_iff.mp h1;have:=vA pZ h2;rw[show(("" : Str).length+3)=3 from rfl] at this
  split at h3
  ·cases h3;change y.1<=7;lia
  ·cases h3
 split at h
 ·rename_i e;obtain⟨z,h1,rfl⟩:=Option.map_eq_some_iff.mp h;show{e.symm,Bi ⋯ h1}
 ·rename_i e1 e2 e3 e4;obtain⟨z,h1,rfl⟩:=Option.map_eq_some_iff.mp h;simp only[Jq,Uo,or_false] at hk
  rcases hk with hk|hk|hk|hk|hk
  ·show absurd hk e1
  ·show absurd hk e2
  ·show absurd hk e3
  ·show absurd hk e4
  ·show{hk.symm,Bi ⋯ h1}
def xq (fr:iK F){t:Str}:∀{ks:List Str} {p:Nat} {r:List Arg×Nat},(∀k∈ks,k∈[("spot" : Str), "number", "many", "near", "far"])->p<=t.length->bz F ks t p=some r->r.1.map Arg.kind=ks/\(∀a∈r.1,a.ok)/\r.2<=t.length
 | [],p,r,_,hp,h=>by cases h;show⟨rfl,(fun _ h=>nomatch h),hp⟩
 | k::ks,p,r,hk,hp,h=>by
  obtain⟨a,h1,h2⟩:=Option.bind_eq_some_iff.mp h;obtain⟨z,h3,h4⟩:=Option.map_eq_some_iff.mp h2;obtain⟨a1,a2⟩:=Kw fr (hk k Jj) h1;obtain⟨b1,b2,b3⟩:=xq fr (fun x hx=>hk x (Jh _ hx)) (rX hp h1) h3;rw[<-h4];show{by rw[J2,a1,b1],fun x hx =>?_,b3}
  rcases Jq.mp hx with rfl|hx
  ·show a2
  ·show b2 x hx
def F2 (fr:iK F){t:Str}{p:Nat}{r:(Str×List Arg)×Nat}(hp:p<=t.length)(h:jV F t p=some r):lQ r.1.1 r.1.2/\r.2<=t.length:=by
 obtain⟨z,h1,h2⟩:=Option.bind_eq_some_iff.mp h;obtain⟨y,h3,h4⟩:=Option.map_eq_some_iff.mp h2;obtain⟨q,h5,h6⟩:=Option.map_eq_some_iff.mp h1;obtain⟨qq,hq,ew,ek⟩:=xU z.1 (by rw[<-h6];show fr.g.n1.mem_iff.mp (Um (di h5).1));rw[ek] at h3;obtain⟨b1,b2,b3⟩:=xq fr (pj qq hq) (ia hp h1) h3;rw[<-h4];show{{⟨qq,hq,ew.symm,b1⟩,b2},b3}
def Bz (K:Ja):Sp:=fun vs H Q _=>∃(a:KE) (ns:List Int),vs=[.ref a]/\aW K H a (ns.map V.int)/\ns.length<=63/\∀H',Q (.bl true) H'
end
def DB {sM we wg:List (Str×Str)}{near eY:Int}{v1 v2 v3 v4 v5:V}(g:Good3 sM we wg near eY)(h:a8 K H [aO sM,aO we,aO wg,.int near,.int eY] [v1,v2,v3,v4,v5]):xC K H v1 v2 v3 v4 v5 (aO sM) (aO we) (aO wg) (.int near) (.int eY):=by
 have at':∀i d v,([aO sM,aO we,aO wg,.int near,.int eY]:List Qad)[i]? = some d->([v1,v2,v3,v4,v5]:List V)[i]? = some v->Den K H d v:=fun i d v e1 e2=>fk h e1 e2;have ft:∀{bk:List (Str×Str)},(∀q∈bk,lN q.1=true/\lN q.2=true/\q.1.length<=8/\q.2.length<=11)->bk.length<=11->Lc (aO bk):=fun{bk} sh hl=>
  Lc.of (w:=243) (((BS (w:=22) fun q hq=>by obtain⟨a,b,c,d⟩:=sh q hq;show⟨a,b,⋯⟩).mono ⋯ (Je _)).list) ∅ ∅ (by change(bk.map iA).length<=60;rw[Jc];lia)
 have h1:=g.l1;have h2:=g.l2;have h3:=g.l3;show{at' 0 _ _ rfl rfl,at' 1 _ _ rfl rfl,at' 2 _ _ rfl rfl,at' 3 _ _ rfl rfl,at' 4 _ _ rfl rfl,ft (fun q hq=>g.sz q (.inl hq)) ⋯,ft (fun q hq=>g.sz q (.inr (.inl hq))) ⋯,ft (fun q hq=>g.sz q (.inr (.inr hq))) ⋯}
def zA (bk:List (Str×Str)):OY (OT (aO bk))=true:=by
 change Ab (bk.map iA)=true
 induction bk with
 | nil=>rfl
 | cons q bk ih=>
  change(OY (iA q)&&Ab (bk.map iA))=true;rw[ih]
  rfl
def Dk {H:Hp}{b c m:KE}{t:Int}{F:Fb}(bx:Bx H b c t)(mb:m≠b)(mc:m≠c)(h:lJ K CF H m F):lJ K CF (gN H b c) m F:=by
 obtain⟨dx,w1,w2,w3,w4,w5,e,h1,h2,h3,h4,h5⟩:=h;show{dx,w1,w2,w3,w4,w5,by rw[dF mb mc];show e,Den.hide bx (zA F.b1) h1,Den.hide bx (zA F.b2) h2,Den.hide bx (zA F.b3) h3,Den.hide bx rfl h4,Den.hide bx rfl h5}
section
variable {P:Qac}{w:Qag}{K:Ja}{mg:Str->Option Fk}{base:Heap}{f C:KE}{fd:Qal}
def rT:aD ["self", "place"] ["self", "place"] (ai (inClass (top oH) 0)):=fO
def qZ (F:eC K "__init__" "BadText.__init__" (inClass (top oH) 0) f fd)(S:nh K C "place"):aU P w K mg base dX 1 f fd ["self", "place"] (Bb C "place"):=by
 show F.gw rT fun H vs Q E hr h =>?_;obtain⟨e,v,rfl,he,q⟩:=h;show{_,(ag (AX (pv 0) (pv 1) rfl)),{_,rfl,_,rfl,e,C,rfl,he,S,fun dx h1 h2=>q dx h1 h2}}
def rZ (F:Fb)(t:Str):Nat->List (Nat×(Str×List Arg))->Prop
 | p,[]=>p=t.length
 | p,r::l=>r.1=p/\∃e,jV F t p=some (r.2,e)/\p<e/\rZ F t e l
def uE:∀{l:List (Nat×(Str×List Arg))} {p:Nat},rZ F t p l->p+l.length<=t.length
 | [],p,h=>by
  rw[h];show Je _
 | r::l,p,h=>by
  obtain⟨_,e,_,he,h⟩:=h;have:=uE h;rw[Jo];lia
def pairD (r:Nat×(Str×List Arg)):Qad := .tuple [.int (r.1:Nat),oX r.2.1 r.2.2]
def oo:aq (jY H a) H:=fun b o e=>by
 rw[bG (fun z=>by rw[z,cW] at e;cases e)] at e;show e
end
def rh {xs ys:List V}(h:aV K H a xs)(hl:H l=some (.lst ys)):aV K (jY H l) a xs:=by
 rcases h with h|h
 ·show .inl ?_
  rcases h with h|⟨o,h⟩
  ·have n:a≠l:=fun z=>by rw[z,hl] at h;cases h
   show .inl (by rw[bG n];show h)
  ·have n:a≠l:=fun z=>by rw[z,hl] at h;cases h
   show .inr {o,by rw[bG n];show h}
 ·show .inr h
def FZ (K:Ja)(CF:KE):Sp:=fun vs H Q _=>nP fun m F t (l:List (Nat×(Str×List Arg)))=>vs=[.ref m,.str t]/\lJ K CF H m F/\iK F/\t.length<=1000000/\rZ F t 0 l /\
 ∀lp vs' H',aq H H'->H lp=none->H' lp=some (.lst vs')->a8 K (jY H' lp) (l.map pairD) vs'->Q (.ref lp) H'
def kr (F:Fb)(t:Str):Nat->List (Nat×(Str×List Arg))->Option Nat->Prop
 | p,[],none=>p=t.length
 | p,[],some q=>q=p/\p<t.length/\jV F t p=none
 | p,r::l,o=>r.1=p/\∃e,jV F t p=some (r.2,e)/\p<e/\e<=t.length/\kr F t e l o
def yD:∀{l:List (Nat×(Str×List Arg))} {p:Nat},rZ F t p l->kr F t p l none
 | [],p,h=>h
 | r::l,p,h=>by
  obtain⟨h1,e,h2,h3,h4⟩:=h;show{h1,e,h2,h3,by have:=uE h4;lia,yD h4}
def k8:∀{l:List (Nat×(Str×List Arg))} {p:Nat} {o:Option Nat},kr F t p l o->p+l.length<=t.length
 | [],p,none,h=>by
  rw[h];show Je _
 | [],p,some q,h=>Yd h.2.1
 | r::l,p,o,h=>by
  obtain⟨_,e,_,he,_,h⟩:=h;have:=k8 h;rw[Jo];lia
def CH (h:bU F k t p=some r):p<=r.2:=by
 have nm:∀{bk:List (Str×Str)} {p:Nat} {r:Str×Nat},nameA bk t p=some r->p<=r.2:=fun{bk p r} h=>by
  obtain⟨q,_,rfl⟩:=Option.map_eq_some_iff.mp h;show Ua _ _
 have fg:∀{a:Str} {p k:Nat} {r:Nat×Nat},ju a t p k=some r->p<=r.2:=fun{a p k r} h=>by
  unfold ju at h
  split at h
  ·cases h;show Ua _ _
  ·cases h
 have ds:∀{k:Nat} {r:Int×Nat},oO t p k=some r->p<=r.2:=fun{k r} h=>by
  obtain⟨z,h1,rfl⟩:=Option.map_eq_some_iff.mp h;show fg h1
 unfold bU at h
 split at h
 ·obtain⟨z,h1,rfl⟩:=Option.map_eq_some_iff.mp h;show nm h1
 split at h
 ·obtain⟨z,h1,rfl⟩:=Option.map_eq_some_iff.mp h;obtain⟨y,h2,h3⟩:=Option.bind_eq_some_iff.mp h1;have:=nm h2;unfold sX at h3
  split at h3
  ·cases h3;show this
  ·show Jf this (fg h3)
 split at h
 ·obtain⟨z,h1,rfl⟩:=Option.map_eq_some_iff.mp h;obtain⟨y,h2,h3⟩:=Option.bind_eq_some_iff.mp h1;have:=fg h2
  split at h3
  ·cases h3;show Jf this (Ua _ _)
  ·cases h3
 split at h
 ·obtain⟨z,h1,rfl⟩:=Option.map_eq_some_iff.mp h;show ds h1
 ·obtain⟨z,h1,rfl⟩:=Option.map_eq_some_iff.mp h;show ds h1
def Ci (fr:iK F){t:Str}{p:Nat}{r:(Str×List Arg)×Nat}(hp:p<=t.length)(h:jV F t p=some r):p<r.2/\r.2<=t.length:=by
 obtain⟨z,h1,h2⟩:=Option.bind_eq_some_iff.mp h;obtain⟨y,h3,h4⟩:=Option.map_eq_some_iff.mp h2;have mono:∀{ks:List Str} {q:Nat} {y:List Arg×Nat},q<=t.length->bz F ks t q=some y->q<=y.2/\y.2<=t.length:=by
  intro ks
  induction ks with
  | nil=>intro q y hq h;cases h;show⟨Je _,hq⟩
  | cons k ks ih=>
   intro q y hq h;obtain⟨a,g1,g2⟩:=Option.bind_eq_some_iff.mp h;obtain⟨b,g3,g4⟩:=Option.map_eq_some_iff.mp g2;obtain⟨i1,i2⟩:=ih (rX hq g1) g3;rw[<-g4];show{Jf (CH g1) i1,i2}
 obtain⟨m1,m2⟩:=mono (ia hp h1) h3;obtain⟨q,h5,h6⟩:=Option.map_eq_some_iff.mp h1;have c:=(fr.GN.1.cd _ (di h5).1).1;rw[<-h4];show{by change p<y.2;lia,m2}
def yg (fr:iK F)(t:Str):∀n p,p<=t.length->t.length-p<=n->∃l o,kr F t p l o
 | 0,p,hp,h=>⟨[],none,by change p=t.length;lia⟩
 | n+1,p,hp,h=>by
  by_cases e:p=t.length
  ·show{[],none,e}
  ·cases eb:jV F t p with
   | none=>show⟨[],some p,rfl,⋯,eb⟩
   | some r=>
    obtain⟨h1,h2⟩:=Ci fr hp eb;obtain⟨l,o,h3⟩:=yg fr t n r.2 h2 ⋯;show{(p,r.1)::l,o,rfl,r.2,eb,h1,h2,h3}
def Fp (K:Ja)(CF C:KE):Sp:=fun vs H Q E=>uN fun m F t (l:List (Nat×(Str×List Arg))) (o:Option Nat)=>vs=[.ref m,.str t]/\lJ K CF H m F/\iK F/\t.length<=1000000/\kr F t 0 l o /\
 (match o with
 | none=>∀lp vs' H',aq H H'->H lp=none->H' lp=some (.lst vs')->a8 K (jY H' lp) (l.map pairD) vs'->Q (.ref lp) H'
 | some p=>∀dx H',aq H H'->H' dx=some (.xd [("place",.int (p:Nat))])->E (.ref C) (some dx) H')
def Nf {vs:List V}{H:Hp}{Q:VK}{E:XK}(h:FZ K CF vs H Q E):Fp K CF C vs H Q (fun _ _ _=>False):=by
 obtain⟨m,F,t,l,e,fo,fr,ht,ra,q⟩:=h;show{m,F,t,l,none,e,fo,fr,ht,yD ra,q}
section
variable {P:Qac}{w:Qag}{K:Ja}{mg:Str->Option Fk}{base:Heap}{f fi fp fn fb fx CF CB C aP aZ:KE}{fd NR R3 RZ Sq W5:Qal}{t3:Tok}
def dU:aD ["form", "text", "reader", "pairs", "place", "bare", "end"] ["form", "text"] (ai (top mz)):=fO
def Ou (F:eC K "bares_of" "bares_of" (top mz) f fd)(T:Nm mg)(QF:Bl K C)(Dc:Mk K C fi)(sx:mg "Reader" = some (.ref C))(vq:aU P w K mg base dX 2 fi NR ["self", "form"] (Fv K CF C))(vW:Binds K NR ["self", "form"] [])
  (u3:DU K C "bare_from" fb) (u6:aU P w K mg base dX 5 fb Sq ["self", "text", "place"] (Lb K C)) (vQ:Binds K Sq ["self", "text", "place"] [])
  (gQ:mg "BadText" = some (.ref CB)) (Ct:O1 K CB fx) (ox:aU P w K mg base dX 1 fx W5 ["self", "place"] (Bb CB "place")) (Di:Binds K W5 ["self", "place"] []):aU P w K mg base (xj P w base) 6 f fd ["form", "text"] (Fp K CF CB):=by
 show F.UE dU (fun vs H Q E h =>?_) (fun gF A outer s H vs Q E hr h =>?_)
 ·obtain⟨m,Fo,t,l,o,rfl,_⟩:=h
  rfl
 obtain⟨m,Fo,t,l,o,rfl,fo,fr,ht,ra,q⟩:=h;have fB:=hr.units;show⟨_,(af (cz (i:=2) dU.nd (B4 Dc (vq.mono (by first|decide|show Je _)) (hr.mono (by first|decide|show Je _)) rfl sx vW .nil tX (aa (pv 0) ae)))
  (af (cz (i:=3) dU.nd (gq ae))
  (af (cz (i:=4) dU.nd ah)
  (af (kz PassesOwn.leaving (aw (Cq K fB) (pv 4) (aj (dN K) rfl T.n_len (by rfl) (aa (pv 1) ae)) (aA _)) (af (iM (v7 (pv 2) QF u3 (u6.mono (by first|decide|show Je _)) hr vQ .nil tX (aa (pv 1) (aa (pv 4) ae))) (tupK K 2 rfl (aI (eX (i:=5) dU.nd) (aI (eX (i:=6) dU.nd) bM))))
  (af (aN (aw nN (pv 5) aX (aA _)) (ag (uP Ct ox (hr.mono ∅) rfl gQ Di (aa (pv 4) ae))) ay)
  (af (iG (qd K Qaw Qa8 Qa7 lq (pv 3) (aa (bI (aa (pv 4) (aa (pv 5) ae))) ae)))
  (ag (cz (i:=4) dU.nd (pv 6)))))))
  (ag (ao (pv 3))))))),?_⟩
 show{_,rfl,fun rd dx hrd hdx zw=>{H,rd,m,dx,Fo,rfl,la (bb hdx _) hrd,hrd,ax,fo,fr,fun H1 s1 r1=>{rfl,?_}}};have hz:t.length<=W1:=Jf ht ∅;show gn ?_;show{HU,fun lp H2 n2=>gn (gn ?_)};have s2:=n2.same;have hl:H lp=none:=by
  cases z:H lp with
  | none=>rfl
  | some o=>have:=n2.nn;rw[s1 _ _ z] at this;cases this
 show gn ?_;show cS (t:=lX _ _) (fun σ H'=>∃(x5 x6:Option V) (p:Nat) (vs:List V),σ=[some (.ref m),some (.str t),some (.ref rd),some (.ref lp),some (.int (p:Nat)),x5,x6]/\o=none/\aq H1 H'/\H' lp=some (.lst vs)/\a8 K (jY H' lp) (l.map pairD) vs) (fun Nx nx =>?_) ?_
 ·show nz (fun k σ H'=>∃(x5 x6:Option V) (p:Nat) (done rest:List (Nat×(Str×List Arg))) (vs:List V),σ=[some (.ref m),some (.str t),some (.ref rd),some (.ref lp),some (.int (p:Nat)),x5,x6]/\l=done++rest/\k=rest.length/\done.length+rest.length<=1000000/\kr Fo t p rest o/\p<=t.length/\aq H1 H'/\H' lp=some (.lst vs)/\a8 K (jY H' lp) (done.map pairD) vs) {_,_,_,0,[],l,[],rfl,rfl,rfl,?_,ra,Ue _,s2,n2.at,iC} ?_
  ·have:=k8 ra;simp only[Yo];lia
  rintro k σ H' ⟨x5,x6,p,done,rest,vs,rfl,el,rfl,hln,ra',hp,s3,mQ,Cp⟩;show{_,rfl,_,rfl,_,_,rfl,⟨hz,rfl⟩,.inl {rfl,_,rfl,?_}};cases rest with
  | nil=>
   cases o with
   | none=>
    have ep:=ra';rw[decide_eq_true (show V.int (p:Nat)=V.int (t.length:Nat) by rw[ep])];show bf (nx _ _ {x5,x6,p,vs,rfl,rfl,s3,mQ,?_});rw[el,Us];show Cp
   | some pq=>
    obtain⟨e0,e1,e2⟩:=ra';subst e0;rw[decide_eq_false (show ¬V.int (pq:Nat)=V.int (t.length:Nat) from fun z=>by injection z with z;lia)];show br {_,fun _ _ h=>h,?_};obtain⟨dx',w1,w2,w3,hm,l1,l2,l3⟩:=id (r1.same s3);show{_,rfl,rd,dx',_,rfl,hm,rfl,_,rfl,_,rfl,rd,Fo,t,pq,rfl,r1.same s3,fr,hp,ht,fun tp H4 s4 h4 =>?_};rw[e2] at h4;show{tp,_,rfl,h4,rfl,_,_,rfl,_,_,rfl,rfl,?_};show{_,rfl,.inl {rfl,_,rfl,?_}};show br {_,rfl,by change 1<=1000;decide,fun e he=>{e,.int (pq:Nat),rfl,ax,fun dx c1 c2=>{rfl,e,dx,rfl,?_,?_,?_}}}
    ·rw[av (QaD c2),ax]
    ·cases z:H e with
     | none=>rfl
     | some o=>rw[s4 _ _ (s3 _ _ (s1 _ _ z))] at he;cases he
    ·show q dx _ (fun a o z =>?_) ?_
     ·have z1:=s4 _ _ (s3 _ _ (s1 _ _ z));have na:=aE z1 he;have nd:a≠dx:=fun y=>by
       rw[av c2,<-y,z1] at c1;cases c1
      rw[bG na,av nd,av na,av na];show z1
     ·rw[bG c2,ax]
  | cons r rest=>
   obtain⟨e1,e,e2,e3,he,e4⟩:=ra';rw[decide_eq_false (show ¬V.int (p:Nat)=V.int (t.length:Nat) from fun z=>by injection z with z;lia)];show br {_,fun _ _ h=>h,?_};obtain⟨dx',w1,w2,w3,hm,l1,l2,l3⟩:=id (r1.same s3);show{_,rfl,rd,dx',_,rfl,hm,rfl,_,rfl,_,rfl,rd,Fo,t,p,rfl,r1.same s3,fr,hp,ht,fun tp H4 s4 h4 =>?_};rw[e2] at h4;obtain⟨bp,h4,h5⟩:=h4;show{tp,_,rfl,h4,rfl,_,_,rfl,_,_,rfl,rfl,?_};show{_,rfl,.inl {rfl,_,rfl,?_}};show bf ?_;have HQ:=s4 _ _ mQ;show{_,rfl,.inl {rfl,_,aW.of HQ},_,rfl,_,rfl,eV,fun tq H5 n5=>{lp,_,_,rfl,rfl,n5.same _ _ HQ,?_,fun H6 c6 =>?_}}
   ·rw[Cp.len,Jc];show Jy (show _<=1000000 by lia) ∅
   have nq:=rq (n5.at) (n5.same _ _ HQ) (nofun);have sd:aq (jY H4 lp) (jY H6 lp):=fun b o z=>by
    have nb:b≠lp:=fun y=>by rw[y,cW] at z;cases z
    rw[bG nb] at z ⊢;rw[c6.ne nb];show n5.same _ _ z
   have Vp:aq (jY H' lp) (jY H6 lp):=fun b o z=>by
    have nb:b≠lp:=fun y=>by rw[y,cW] at z;cases z
    rw[bG nb] at z;show sd _ _ (by rw[bG nb];show s4 _ _ z)
   show{_,rfl,gn {rest.length,Yz _,some (.ref bp),some (.int (e:Nat)),e,done++[r],rest,_,rfl,by rw[el,Ux];rfl,rfl,by rw[Jn];rw[Jo] at hln;simp only[Jo,Yo];lia,e4,he,fun b o z =>?_,c6.at,?_}}
   ·have nb:=aE z n2.nn;rw[c6.ne nb];show n5.same _ _ (s4 _ _ (s3 _ _ z))
   ·rw[Jx];show mO (Cp.same Vp) ?_;show{tq,_,rfl,aV.of (by rw[bG nq,c6.ne nq];show n5.at),bN ?_ (bN (mH (sd.bF (rh h5 HQ))) iC)};rw[e1];show rM
 ·rintro σ H' ⟨x5,x6,p,vs,rfl,rfl,s3,mQ,Cp⟩;show{_,rfl,q lp vs H' (s1.trans s3) hl mQ Cp}
def MH (l:List (Nat×(Str×List Arg)))(o:Option Nat):Qad:=match o with
 | none =>.list (l.map pairD)
 | some p =>.tuple [.str "text",.int (p:Nat)]
def Bj (K:Ja)(H H':Hp)(l:List (Nat×(Str×List Arg)))(o:Option Nat)(v:V):Prop:=match o with
 | none=>∃lp vs,v = .ref lp/\H lp=none/\H' lp=some (.lst vs)/\a8 K (jY H' lp) (l.map pairD) vs
 | some p=>Den K H' (.tuple [.str "text",.int (p:Nat)]) v
end
def Bj.den (h:Bj K H H' l o v):Den K H' (MH l o) v:=by
 cases o with
 | none=>
  obtain⟨lp,vs,rfl,_,h1,h2⟩:=h;show Den.list (aW.of h1) (h2.same oo)
 | some p=>show h
def BI (K:Ja)(CF:KE):Sp:=fun vs H Q _=>uN fun m F t (l:List (Nat×(Str×List Arg))) (o:Option Nat)=>vs=[.ref m,.str t]/\lJ K CF H m F/\iK F/\t.length<=1000000/\kr F t 0 l o/\∀v H',aq H H'->Bj K H H' l o v->Q v H'
section
variable {P:Qac}{w:Qag}{K:Ja}{mg:Str->Option Fk}{base:Heap}{f C CF cO gi:KE}{fd:Qal}
def eR:aD ["_law_form_here", "_law_text", "_law_found", "_law_caught", "error"] ["_law_form_here", "_law_text"] (ai (top mB)):=fO
def G1 (F:eC K "_law_told" "_law_told" (top mB) f fd)(T:Nm mg)(fM:mg "OddError" = some (.ref cO))(Vk:PySem.W.exmOne K (.ref C) (.ref cO)=some true)(jG:HV P w K mg base 6 "bares_of" ["form", "text"] (Fp K CF C))(wF:Fn P w K mg base 1 "_law_class" ["_law_caught"] (F8 K C)):
  aU P w K mg base dX 7 f fd ["_law_form_here", "_law_text"] (BI K CF):=by
 show F.gw eR fun H vs Q E hr h =>?_;obtain⟨m,Fo,t,l,o,rfl,fo,fr,ht,ra,q⟩:=h;show⟨_,(af (iM (bI (aa aX (aa aX ae))) (tupK K 2 rfl (aI (eX (i:=2) eR.nd) (aI (eX (i:=3) eR.nd) bM))))
  (af (Ih (j:=4) rfl rfl eR.nd rfl rfl rfl fM (fun _ _ _=>(ag (cz (i:=2) eR.nd (Oi (jG.mono (by first|decide|show Je _|lia)) hr rfl (aa (pv 0) (aa (pv 1) ae)))))) (fun _=>(ag (cz (i:=3) eR.nd (pv 4)))))
  (ag (ao (cY (aw nN (pv 3) aX (aA _)) (pv 2) (bP wF hr (aa (pv 3) ae))))))),?_⟩
 show{eV,fun t0 H0 n0=>{t0,_,rfl,aV.of n0.at,rfl,_,_,rfl,_,_,rfl,rfl,?_}};dsimp only;show cS (fun σ H'=>(∃r,σ=[some (.ref m),some (.str t),some (.ref r),some .non,none]/\Bj K H0 H' l o (.ref r)/\aq H0 H'/\o=none)\/(∃e dx p,σ=[some (.ref m),some (.str t),some .non,some (.ref e),none]/\o=some p/\aq H0 H'/\H' e=some (mS e (.ref C) (some dx))/\H' dx=some (.xd [("place",.int (p:Nat))]))) (fun Nx nx =>?_) ?_
 ·show⟨fun cls d H'=>∃dx p,cls = .ref C/\d=some dx/\o=some p/\aq H0 H'/\H' dx=some (.xd [("place",.int (p:Nat))]),?_,?_⟩
  ·show{rfl,_,rfl,_,rfl,m,Fo,t,l,o,rfl,(fo.same n0.same),fr,ht,ra,?_};cases o with
   | none=>show fun lp vs' H' s' h1 h2 h3=>gn (nx _ _ (.inl ⟨lp,rfl,⟨lp,vs',rfl,h1,h2,h3⟩,s',rfl⟩))
   | some p=>show fun ex H' s' hx=>⟨ex,p,rfl,rfl,rfl,s',hx⟩
  ·rintro cls d H' ⟨dx,p,rfl,rfl,hb,sm,hx⟩;show{Vk,fun e he =>?_};have HY:upd H' e (mS e (.ref C) (some dx)) dx=some (.xd [("place",.int (p:Nat))]):=by rw[av (aE hx he)];show hx
   show{_,rfl,gn (nx _ _ (.inr {e,dx,p,rfl,hb,sm.trans (bb he _),ax,HY}))}
 ·rintro σ H1 (⟨r,rfl,hb,s1,rfl⟩|⟨e,dx,p,rfl,rfl,s1,h0,HY⟩)
  ·show{_,rfl,.inl {rfl,_,rfl,br ?_}};obtain⟨lp,vs,ev,g1,g2,g3⟩:=hb;show{_,rfl,q _ H1 (n0.same.trans s1) {lp,vs,ev,n0.back g1,g2,g3}}
  ·show{_,rfl,.inl {rfl,_,rfl,bf ?_}};show{_,rfl,e,dx,p,rfl,h0,HY,fun v H' s2 hd=>q _ H' (n0.same.trans (s1.trans s2)) hd}
def jc (h:i.natAbs<=1000000):QaA (.int i)<=21:=by
 simp only[QaA]
 split
 ·lia
 ·rename_i h0;have zw:i.natAbs≠0:=by
   intro z;have:i=0:=Int.natAbs_eq_zero.mp z;subst this;show h0 rfl
  have:=(QeV (k:=20) zw).mpr ⋯;lia
def MP (h:a.ok):(vO a).weight<=21:=by
 cases a with
 | sp x=>
  have:∀x∈bJ,(QbO x).weight<=21:=∅;show this x h
 | nu n=>show jc (show n<=1000000 from Jf h ∅)
 | ma n=>show jc (show n<=1000000 from Jf h ∅)
 | ne d=>show jc h
 | fa d=>show jc h
def Fh:∀{ds:List Qad},(∀d∈ds,d.weight<=n)->Qap ds<=(n+1)*ds.length
 | [],_=>Je _
 | d::ds,h=>by
  have h1:=h d Jj;have h2:=Fh fun y hy=>h y (Jh _ hy);simp only[Qap,Jo,QdB];lia
def uF (ba:lQ r.2.1 r.2.2)(hn:r.1<=1000000):Gd 120 2 (pairD r):=by
 have gp:Gd 1500 2 (pairD r):=((Gs.cons (Gd.int (i:=((r.1:Nat):Int)) (jJ hn) (Je _)) (Gs.one ((Gd.yB (Fm ba 0 ∅)).at Jj))).tuple).mono ⋯ (Je _);show{gp.pz,?_,gp.dp};obtain⟨q,hq,ew,ek⟩:=ba.pt;obtain⟨pk,al⟩:=eP q hq;rw[<-ek,Jc] at al;have kw:∀x∈aB,(QbO x).weight<=8:=∅;have w1:=kw _ pk;have w2:=Fh fun d hd=>by
  obtain⟨a,ha,rfl⟩:=Ul.mp hd;show MP (ba.ok a ha)
 rw[Jc] at w2;have w3:=jc (i:=((r.1:Nat):Int)) ⋯;change(Qca [.int (r.1:Nat),.tuple (.str r.2.1::r.2.2.map vO)]).weight<=120;simp only[QaA,Qap] at w1 w3 ⊢;lia
end
def KB:∀{ds:List Qad},(∀d∈ds,Gd w dp d)->Gs ((w+1)*ds.length) dp ds
 | [],_=>Gs.nil.mono (Ue _) (Je _)
 | d::ds,h=>by
  show(Gs.cons (h d Jj) (KB fun x hx=>h x (Jh _ hx))).mono ?_ (Je _);rw[Jo,QdB];lia
def rN (fr:iK F){t:Str}:∀{l:List (Nat×(Str×List Arg))} {p:Nat} {o:Option Nat},p<=t.length->kr F t p l o->∀r∈l,lQ r.2.1 r.2.2/\r.1<=t.length
 | [],_,_,_,_,_,h=>nomatch h
 | r::l,p,o,hp,h,y,hy=>by
  obtain⟨h1,e,h2,h3,h4,h5⟩:=h
  rcases Jq.mp hy with rfl|hy
  ·show{(F2 fr hp h2).1,⋯}
  ·show rN fr h4 h5 y hy
def Kn (fr:iK F){t:Str}{l:List (Nat×(Str×List Arg))}{o:Option Nat}(ht:t.length<=1000000)(h:kr F t 0 l o):Gs (121*l.length) 2 (l.map pairD):=by
 have:=KB fun d hd=>by
  obtain⟨r,hr,rfl⟩:=Ul.mp hd;obtain⟨b,n⟩:=rN fr (Ue _) h r hr;show uF b ⋯
 rwa[Jc] at this
def BN {d:Int}{k:Nat}{x:Str}(k1:1<=k)(h:j4 d k=some x):d=if (2:Int)^(k-1)<=(cC (sg x):Nat) then ((cC (sg x):Nat):Int)-2^k else (cC (sg x):Nat):=by
 unfold j4 at h;have jb:inD d k=true:=by
  cases c:inD d k with
  | true=>rfl
  | false=>rw[c] at h;cases h
 rw[if_pos jb] at h;cases h;have p2:(2:Int)^k=2*2^(k-1):=by
  rw[show k=(k-1)+1 by lia,QeA,Qgo];rfl
 have ek:((2^k:Nat):Int)=2^k:=by push_cast;rfl
 unfold inD at jb;rw[Jw,decide_eq_true_eq,decide_eq_true_eq] at jb;obtain⟨D0,yN⟩:=jb;obtain⟨v,hv⟩:∃v:Nat,v=(if d<0 then d+2^k else d).toNat:=⟨_,rfl⟩
 have Se:((v:Nat):Int)=if d<0 then d+2^k else d:=by rw[hv];split<;>lia
 rw[<-hv];have jq:v<2^k:=by
  have:((v:Nat):Int)<2^k:=by rw[Se];split<;>lia
  lia
 have nv:cC (sg (gb v k))=v:=(mY k v).trans (QeQ jq);rw[nv,Se]
 split
 ·rw[if_pos ⋯];lia
 ·rw[if_neg ⋯]
def qK (g:lG bk){x:Str}(hx:x∈bk.map (·.1)){t:Str}{p:Nat}{z:List Nat}(h:(sg t).drop p=sg (a9 bk x)++z):nameA bk t p=some (x,p+(a9 bk x).length):=by
 unfold nameA;rw[GS g (km hx) (by rw[h];show Qb4 _ _)]
 rfl
def qc {a x t:Str}{p k:Nat}{z:List Nat}(h:(sg t).drop p=sg x++z)(hb:eA x)(hk:x.length=k):ju a t p k=some (cC (sg a++sg x),p+k):=by
 have e:((sg t).drop p).take k=sg x:=by
  rw[h,<-hk,str_len];show QeW rfl
 unfold ju;rw[e,if_pos];show{by rw[<-hk,str_len],?_};rw[U2];intro c hc
 rcases hb c hc with rfl|rfl<;>decide +kernel
def E7 (l:List Nat):cC (49::l)=2^l.length+cC l:=by
 obtain⟨m,hm⟩:∃m,m=l.reverse:=⟨_,rfl⟩
 have:l=m.reverse:=by rw[hm,List.reverse_reverse]
 subst this;clear hm
 induction m with
 | nil=>rfl
 | cons c m ih=>
  rw[Qce,<-Qdj,fD,ih,fD,Jn,Qco,Qch];lia
def SV:∀b,b<9->aH.idxOf (aH.getD b Qau)=b/\aH.getD b Qau∈aH:=∅
def Fs (hb:dz n=b+1):2^b+n%2^b=n:=by
 have h1:=(vg n b).mpr ⋯;have h2:¬ 2^(b+1)<=n:=fun z=>by have:=(vg n (b+1)).mp z;lia
 have:n%2^b=n-2^b:=by
  rw[Nat.mod_eq_sub_mod h1,QeQ ⋯]
 lia
def EX {F:Fb}(fr:iK F){a:Arg}(ha:a.ok){x t:Str}(e:fI F a=some x){p:Nat}(hp:p<=t.length){z:List Nat}(h:(sg t).drop p=sg x++z):bU F a.kind t p=some (a,p+x.length):=by
 obtain⟨k1,k2,k3⟩:=fr.GN;have nr:=fr.nr;have ff:=fr.fr;cases a with
 | sp y=>
  cases e;change(nameA F.b2 t p).map _=_;rw[qK k2 (fr.n2.mem_iff.mpr ha) h];rfl
 | nu n=>
  cases e;have hb:=vR (n:=n) ha;obtain⟨i1,i2⟩:=SV (dz n) ⋯;rw[lz,nY,Ux] at h;change(pO F.b3 t p).map _=_;unfold pO;rw[qK k3 (fr.n3.mem_iff.mpr i2) h];change(sX _ t _).map _=_;unfold sX;rw[i1,lz,Qar,bZ]
  by_cases hz:dz n=0
  ·rw[if_pos hz,hz];have n0:n=0:=by
    cases n with
    | zero=>rfl
    | succ n=>have:=(vg (n+1) 0).mp (by simp);lia
   subst n0
   rfl
  ·rw[if_neg hz];obtain⟨b,sL⟩:∃b,dz n=b+1:=⟨dz n-1,⋯⟩
   rw[sL,Nat.add_sub_cancel] at h ⊢;obtain⟨_,h2⟩:=jf h hp;rw[qc h2 (gc b n) (bZ n b)];change some (Arg.nu (cC (49::jk b n)),_)=_;rw[E7,mY,rQ,Fs sL,QcA]
 | ma n=>
  cases e;have hn:n<=7:=ha;rw[nY,Ux] at h;change(gU t p).map _=_;unfold gU;rw[qc h (gc 3 n) (bZ n 3)];change(if _ then _ else _:Option (Nat×Nat)).map _=_;have n8:cC (sg ("" : Str)++jk 3 n)=n:=(mY 3 n).trans (QeQ ⋯);have h2:=(jf h hp).2;rw[bZ] at h2;have hz:=(qI (n:=n) (c:=Qbx (Wp "0") (n:Nat)) ⋯).mp rfl;have hl:(Qbx (Wp "0") (n:Nat)).length=n:=by rw[str_len];change(sg _).length=n;rw[hz,Ud]
  rw[show cC (sg ("" : Str)++sg (gb n 3))=n from n8,h2,hz,if_pos (QeW Ud),Qar,bZ,hl];change some (Arg.ma n,_)=_;rw[QcA]
 | ne d=>
  have e:j4 d F.near=some x:=e;have hd:=BN ⋯ e;have hx:x.length=F.near/\eA x:=by
   unfold j4 at e
   split at e
   ·cases e;show⟨bZ _ _,gc _ _⟩
   ·cases e
  change(oO t p F.near).map _=_;unfold oO;rw[qc h hx.2 hx.1];change some (Arg.ne (if _ then _ else _),_)=_;rw[<-hx.1] at hd ⊢;rw[show cC (sg ("" : Str)++sg x)=cC (sg x) from rfl,<-hd]
 | fa d=>
  have e:j4 d F.eY=some x:=e;have hd:=BN ⋯ e;have hx:x.length=F.eY/\eA x:=by
   unfold j4 at e
   split at e
   ·cases e;show⟨bZ _ _,gc _ _⟩
   ·cases e
  change(oO t p F.eY).map _=_;unfold oO;rw[qc h hx.2 hx.1];change some (Arg.fa (if _ then _ else _),_)=_;rw[<-hx.1] at hd ⊢;rw[show cC (sg ("" : Str)++sg x)=cC (sg x) from rfl,<-hd]
def uf (fr:iK F):∀{as:List Arg} {ts:List Str},dj F as=some ts->(∀a∈as,a.ok)->∀{t:Str} {p:Nat} {z:List Nat},p<=t.length->(sg t).drop p=ts.flatMap sg++z ->
  bz F (as.map Arg.kind) t p=some (as,p+(ts.map fun x=>x.length).sum)
 | [],ts,e,_,t,p,z,_,_=>by cases e;rfl
 | a::as,ts,e,ok,t,p,z,hp,h=>by
  have e:(match fI F a with|none=>none|some x=>(dj F as).map (x :: ·))=some ts:=e;cases ea:fI F a with
  | none=>rw[ea] at e;cases e
  | some x=>
   rw[ea] at e;obtain⟨us,er,e⟩:=Option.map_eq_some_iff.mp e;subst e;rw[Qet,Ux] at h;obtain⟨zW,h2⟩:=jf h hp;change(bU F a.kind t p).bind _=_;rw[EX fr (ok a Jj) ea hp h];change(bz F (as.map Arg.kind) t (p+x.length)).map _=_;rw[uf fr er (fun b hb=>ok b (Jh _ hb)) zW h2];change some (a::as,_)=_;rw[J2,Yc,QcA]
def kinds_of (ba:lQ w as):kQ w=as.map Arg.kind/\w∈aB:=by
 obtain⟨q,hq,ew,ek⟩:=ba.pt;have:∀q∈fP,kQ q.1=q.2:=∅;show{by rw[ew,this q hq,ek],by rw[ew];show(eP q hq).1}
def HE (fr:iK F){w:Str}{as:List Arg}(ba:lQ w as){x:Str}(e:kM F w as=some x){t:Str}{p:Nat}(hp:p<=t.length){z:List Nat}(h:(sg t).drop p=sg x++z):
  jV F t p=some ((w,as),p+x.length)/\1<=x.length:=by
 obtain⟨k1,_,_⟩:=fr.GN;obtain⟨ek,hw⟩:=kinds_of ba;have hm:=fr.g.n1.mem_iff.mpr hw;obtain⟨ts,er,e⟩:=Option.map_eq_some_iff.mp e;subst e;have hj:sg (QaM "" (a9 F.b1 w::ts))=sg (a9 F.b1 w)++ts.flatMap sg:=by
  change(QaM "" _).cps.toList=_;rw[dI,Qet]
 have jl:=fV (a9 F.b1 w::ts);rw[J2,Yc] at jl;rw[hj,Ux] at h;obtain⟨zW,h2⟩:=jf h hp;have c1:=(k1.cd _ (km hm)).1;show{?_,by rw[jl];lia};unfold jV;rw[qK k1 hm h];change(bz F (kQ w) t (p+(a9 F.b1 w).length)).map _=_;rw[ek,uf fr er ba.ok zW h2];change some ((w,as),_)=_;rw[jl,QcA]
def placed:Nat->List ((Str×List Arg)×Str)->List (Nat×(Str×List Arg))
 | _,[]=>[]
 | p,r::l=>(p,r.1)::placed (p+r.2.length) l
def sH (fr:iK F){t:Str}:∀{l:List ((Str×List Arg)×Str)} {p:Nat},(∀r∈l,lQ r.1.1 r.1.2/\kM F r.1.1 r.1.2=some r.2)->p<=t.length->(sg t).drop p=l.flatMap (fun r=>sg r.2)->rZ F t p (placed p l)
 | [],p,_,hp,h=>by
  have:=congrArg Qc4 h;rw[Ug,<-str_len] at this;simp only[List.flatMap_nil,Yo] at this;change p=t.length;lia
 | r::l,p,ok,hp,h=>by
  obtain⟨b1,b2⟩:=ok r Jj;obtain⟨h1,h2⟩:=HE fr b1 b2 hp h;obtain⟨h3,h4⟩:=jf h hp;show{rfl,_,h1,⋯,sH fr (fun x hx=>ok x (Jh _ hx)) h3 h4}
def HC (K:Ja):Sp:=fun vs H Q _=>uN fun lp F t (l:List (Nat×(Str×List Arg))) (o:Option Nat)=>vs=[.ref lp,.str t]/\je K H lp F/\iK F/\eA t/\t.length<=100000/\kr F t 0 l o/\∀v H',aq H H'->Den K H' (MH l o) v->Q v H'
section
variable {P:Qac}{w:Qag}{K:Ja}{mg:Str->Option Fk}{base:Heap}{f:KE}{fd:Qal}
def jQ:aD ["_law_parts_here", "_law_text", "_law_found", "_law_place", "_law_told_here"] ["_law_parts_here", "_law_text"] (ai (top oM)):=fO
def Ki (F:eC K "_law_due" "_law_due" (top oM) f fd)(T:Nm mg)(Fx:Fn P w K mg base 3 "_law_at" ["_law_parts_here", "_law_text", "_law_place"] (Lh K)):aU P w K mg base dX 4 f fd ["_law_parts_here", "_law_text"] (HC K):=by
 show F.gw jQ fun H vs Q E hr h =>?_;obtain⟨lp,Fo,t,l,o,rfl,hP,fr,hb,ht4,ra,q⟩:=h;show⟨_,(af (rD (i:=2) (j:=3) rfl jQ.nd rfl rfl ∅ rfl rfl (aa (gq ae) (aa ah ae)) rfl)
  (af (kz Qay (aw qu (pv 3) (aj (dN K) rfl T.n_len (by rfl) (aa (pv 1) ae)) (aA _)) (af (cz (i:=4) jQ.nd (bP Fx hr (aa (pv 0) (aa (pv 1) (aa (pv 3) ae)))))
  (af (aN (aw nN (pv 4) aX (aA _)) (ag (ao (bI (aa ar (aa (pv 3) ae))))) ay)
  (af (iG (qd K Qaw Qa8 Qa7 lq (pv 2) (aa (bI (aa (pv 3) (aa (aR (eW K) (pv 4) ah (fun _ _=>rfl)) ae))) ae)))
  (ag (cz (i:=3) jQ.nd (aR (eW K) (pv 4) ah (fun _ _=>rfl))))))))
  (ag (ao (pv 2))))),?_⟩
 have ht:t.length<=1000000:=by lia
 have hz:t.length<=W1:=Jf ht ∅;have lr:=k8 ra;show{HU,fun rp H2 n2=>{_,_,rfl,?_}};show cS (t:=lX _ _) (fun σ H'=>∃(x4:Option V) (p:Nat) (vs:List V),σ=[some (.ref lp),some (.str t),some (.ref rp),some (.int (p:Nat)),x4]/\o=none/\aq H H'/\H' rp=some (.lst vs)/\a8 K (jY H' rp) (l.map pairD) vs) (fun Nx nx =>?_) ?_
 ·show nz (fun k σ H'=>∃(x4:Option V) (p:Nat) (done rest:List (Nat×(Str×List Arg))) (vs:List V),σ=[some (.ref lp),some (.str t),some (.ref rp),some (.int (p:Nat)),x4]/\l=done++rest/\k=rest.length/\kr Fo t p rest o/\p<=t.length/\aq H H'/\H' rp=some (.lst vs)/\a8 K (jY H' rp) (done.map pairD) vs) {_,_,0,[],l,[],rfl,rfl,rfl,ra,Ue _,n2.same,n2.at,iC} ?_;rintro k σ H' ⟨x4,p,done,rest,vs,rfl,el,rfl,ra',hp,s3,mQ,Cp⟩;show{_,rfl,_,rfl,_,_,rfl,⟨hz,rfl⟩,_,_,rfl,rfl,_,rfl,?_};cases rest with
  | nil=>
   cases o with
   | none=>
    have ep:p=t.length:=ra';rw[decide_eq_false (show ¬((p:Nat):Int)<(t.length:Nat) by lia)];show bf (nx _ _ {x4,p,vs,rfl,rfl,s3,mQ,?_});rw[el,Us];show Cp
   | some pq=>
    obtain⟨e0,e1,e2⟩:=ra';subst e0;rw[decide_eq_true (show((pq:Nat):Int)<(t.length:Nat) by lia)];show br {_,fun _ _ h=>h,?_};show{_,rfl,_,rfl,_,rfl,lp,Fo,t,pq,rfl,hP.same s3,fr,hb,hp,ht,fun v H4 s4 h4=>gn ?_};rw[e2] at h4;subst h4;show{_,rfl,.inl {rfl,_,rfl,?_}};show br {_,rfl,eV,fun tq H5 n5=>q _ _ (s3.trans (s4.trans n5.same)) (GJ n5.at (bN Cg (bN rM iC)))}
  | cons r rest=>
   obtain⟨e1,e,e2,e3,he,e4⟩:=ra';rw[decide_eq_true (show((p:Nat):Int)<(t.length:Nat) by lia)];show br {_,fun _ _ h=>h,?_};show{_,rfl,_,rfl,_,rfl,lp,Fo,t,p,rfl,hP.same s3,fr,hb,hp,ht,fun v H4 s4 h4=>gn ?_};rw[e2] at h4;obtain⟨tp,bp,rfl,h4,h5⟩:=h4;show{_,rfl,.inl {rfl,_,rfl,?_}};show bf ?_;have yG:=s4 _ _ mQ;show{_,rfl,.inl {rfl,_,aW.of yG},_,rfl,_,rfl,.inr (.inl {tp,_,0,_,rfl,rfl,h4,rfl,eV,fun tq H6 n6=>{rp,_,_,rfl,rfl,n6.same _ _ yG,?_,fun H7 c7 =>?_}})}
   ·rw[Cp.len,Jc];rw[el,Jn] at lr;show Jy (show _<=100000 by lia) ∅
   have nq:=rq (n6.at) (n6.same _ _ yG) (nofun);have sd:aq (jY H4 rp) (jY H7 rp):=fun b o z=>by
    have nb:b≠rp:=fun y=>by rw[y,cW] at z;cases z
    rw[bG nb] at z ⊢;rw[c7.ne nb];show n6.same _ _ z
   have Vp:aq (jY H' rp) (jY H7 rp):=fun b o z=>by
    have nb:b≠rp:=fun y=>by rw[y,cW] at z;cases z
    rw[bG nb] at z;show sd _ _ (by rw[bG nb];show s4 _ _ z)
   have YE:=oo.bF (sd.bF (rh h4 yG));show{_,rfl,.inr (.inl {tp,_,1,_,rfl,rfl,YE,rfl,gn {rest.length,Yz _,_,e,done++[r],rest,_,rfl,by rw[el,Ux];rfl,rfl,e4,he,fun b o z =>?_,c7.at,?_}})}
   ·have nb:=aE z n2.nn;rw[c7.ne nb];show n6.same _ _ (s4 _ _ (s3 _ _ z))
   ·rw[Jx];show mO (Cp.same Vp) ?_;show{tq,_,rfl,aV.of (by rw[bG nq,c7.ne nq];show n6.at),bN ?_ (bN (mH (sd.bF (rh h5 yG))) iC)};rw[e1];show rM
 rintro σ H' ⟨x4,p,vs,rfl,rfl,s3,mQ,Cp⟩;show{_,rfl,q _ _ s3 (Den.list (aW.of mQ) (Cp.same oo))}
def mN (xs:List Str)(lo hi:Option Int):∃ys:List Str,kP (xs.map V.str) lo hi=ys.map V.str/\(∀y∈ys,y∈xs)/\ys.length<=xs.length:=by
 unfold kP;show{(xs.drop (HT.eT (xs.map V.str).length 0 lo)).take (HT.eT (xs.map V.str).length (xs.map V.str).length hi-HT.eT (xs.map V.str).length 0 lo),by rw[QfQ,QfR],fun y hy=>Yl (Yn hy),?_};rw[J3,Ug];lia
def Ho (K:Ja):Sp:=fun vs H Q _=>uN fun(b c:KE) (t:Int) (rp:KE) (xs:List Str)=>vs=[.ref b,.ref rp]/\Bx H b c t/\0<=t/\t<90000000/\H rp=some (.lst (xs.map V.str))/\rp≠b/\rp≠c/\(∀x∈xs,eA x/\1<=x.length/\x.length<=200)/\xs.length<=10 /\
 ∀(x:Str) (H':Hp) (t':Int),eA x->x.length<=6100->Step b c H H' t t' 100->Q (.str x) H'
def bO:aD ["_law_state", "_law_rows", "_law_some", "_law_way", "_law_at_here", "_law_text", "_law_turn", "_law_spot", "_law_sign"] ["_law_state", "_law_rows"] (ai (top mx)):=fO
def I0 (F:eC K "_law_bent" "_law_bent" (top mx) f fd)(T:Nm mg)(aG:Fn P w K mg base 1 "_law_take" ["_law_state", "_law_many"] yh):aU P w K mg base dX 2 f fd ["_law_state", "_law_rows"] (Ho K):=by
 show F.gw bO fun H vs Q E hr h =>?_;obtain⟨b,c,t,rp,xs,rfl,bx,t0,t1,hrp,rb,rc,hx,hl,q⟩:=h;have fB:=hr.units;show⟨_,(af (cz (i:=2) bO.nd (aQ (B0 K) rfl T.n_list (by rfl) (aa (pv 1) ae)))
  (af (rD (i:=3) (j:=4) rfl bO.nd rfl rfl ∅ rfl rfl (aa (bP aG hr (aa (pv 0) (aa ah ae))) (aa (bP aG hr (aa (pv 0) (aa (au bh (aj (dN K) rfl T.n_len (by rfl) (aa (pv 1) ae)) ah) ae))) ae)) rfl)
  (af (aN (aw (ka K fB) (pv 3) ah (aA _)) (ag (cz (i:=2) bO.nd (au bh (bt (xW K) (pv 2) eK (aY (pv 4))) (bt (xW K) (pv 2) (aY (au bh (pv 4) ah)) eK)))) ay)
  (af (aN (aw (ka K fB) (pv 3) ah (aA _)) (ag (cz (i:=2) bO.nd (au bh (au bh (bt (xW K) (pv 2) eK (aY (pv 4))) (bt (xW K) (pv 2) (aY (pv 4)) (aY (au bh (pv 4) ah)))) (bt (xW K) (pv 2) (aY (pv 4)) eK)))) ay)
  (af (cz (i:=5) bO.nd (qd K Qaz Qbm Qbl (ux K) ar (aa (pv 2) ae)))
  (af (aN (aw (ka K fB) (pv 3) ah (aA _)) (ag (cz (i:=5) bO.nd (qd K Qaz Qbm Qbl (ux K) ar (aa (dQ rfl (b9 (Nc:=["_law_k"]) (Fc:=["_law_state"]) (js:=[0])) (de rfl T.n_range (aa (au bh ah (bP aG hr (aa (pv 0) (aa ah ae)))) ae)) (bC (i:=0) (n:=1) ∅) (fun _ _ _ _ _=>(eX (i:=0) (pK ["_law_k", "_law_state"]))) (fun _ _ _ _ _=>cE) (fun _ _ _ _ _=>(aR (eW K) ar (bP aG hr (aa (pv 1) (aa ah ae))) (fun _ _=>rfl)))) ae)))) ay)
  (af (eZ Qay rfl (de rfl T.n_range (aa (au j3 (au bh ah (bP aG hr (aa (pv 0) (aa ah ae)))) (aQ fH rfl T.n_int (by rfl) (aa (fL (cF AI (pv 3) ah (aA _)) (ky (cF (Cq K fB) (pv 5) ar (aA _)))) ae))) ae)) (eX (i:=6) bO.nd) (af (rD (i:=7) (j:=8) rfl bO.nd rfl rfl ∅ rfl rfl (aa (bP aG hr (aa (pv 0) (aa (aj (dN K) rfl T.n_len (by rfl) (aa (pv 5) ae)) ae))) (aa (aR (eW K) ar (bP aG hr (aa (pv 0) (aa ah ae))) (fun _ _=>rfl)) ae)) rfl)
  (af (cz (i:=5) bO.nd (au bh (au bh (bt (xW K) (pv 5) eK (aY (pv 7))) (aR (eW K) (gq (aa (aR (eW K) ar (aQ Rr rfl T.n_int (by rfl) (aa (aR (eW K) (pv 5) (pv 7) (fun _ _=>rfl)) ae)) (fun _ _=>rfl)) (aa ar (aa (au bh (pv 8) (aR (eW K) (pv 5) (pv 7) (fun _ _=>rfl))) ae)))) (au dW (pv 3) ah) (fun _ _=>rfl))) (bt (xW K) (pv 5) (aY (au bh (pv 7) ah)) eK)))
  (ag (cz (i:=5) bO.nd (cY (aw (Cq K fB) (pv 5) ar (aA _)) (pv 5) (pv 8)))))))
  (ag (ao (cY (aw (ka K fB) (pv 3) ah (aA _)) (bt (xW K) (pv 5) eK (aY (bP aG hr (aa (pv 0) (aa (au bh (aj (dN K) rfl T.n_len (by rfl) (aa (pv 5) ae)) ah) ae))))) (pv 5))))))))))),?_⟩
 have XL:∀{ys:List Str},(∀y∈ys,y∈xs)->ys.length<=30->eA (QaM "" ys)/\(ys.map fun x=>x.length).sum<=6000:=fun{ys} h l=>by
  have s1:=qm (n:=200) fun x hy=>(hx x (h x hy)).2.2;show{kh fun x hy=>(hx x (h x hy)).1,⋯}
 show{_,rfl,rp,_,rfl,.inl (aW.of hrp),fun l2 H2 n2=>gn ?_};obtain⟨lb,lc⟩:=bx.aM n2.nn;have jz:=Step.same bx n2.same;show{_,rfl,b,c,t,7,rfl,jz.bx,t0,⋯,∅,∅,fun r3 H3 r30 r31 eF =>?_};have Vg:=eF.old (n2.same _ _ hrp) rb rc;show{_,rfl,_,rfl,_,_,rfl,.inl {_,aW.of Vg,rfl},.inl {_,_,rfl,rfl,b,c,_,_,rfl,eF.bx,⋯,⋯,⋯,by rw[Jc];lia,fun r4 H4 r40 r41 gG=>{_,_,rfl,?_}}};have h4:=gG.old (eF.old n2.at lb lc) lb lc;have gG:=jz.trans (eF.trans gG);obtain⟨a,rfl⟩:∃a:Nat,r4=a:=⟨r4.toNat,⋯⟩
 generalize t+1+1=t4 at gG;dsimp only;have small:∀{n:Nat},n<=10000->n<=W1:=fun h=>Jf h ∅;show cS (t:=CN _ _ _) (fun σ H'=>∃(sp:KE) (ys:List Str),σ=[some (.ref b),some (.ref rp),some (.ref sp),some (.int r3),some (.int (a:Nat)),none,none,none,none]/\H' sp=some (.lst (ys.map V.str))/\sp≠b/\sp≠c/\(∀y∈ys,y∈xs)/\(ys.length<=20)/\(r3=1->ys.length<=10)/\Step b c H H' t t4 2) (fun Nx nx =>?_) ?_
 ·show{_,rfl,.inl {rfl,_,rfl,?_}};show eU (fun k0 =>?_) (fun _=>nx _ _ {l2,xs,rfl,h4,lb,lc,fun _ h=>h,⋯,fun _=>hl,gG.more ⋯});show{_,rfl,_,rfl,_,rfl,.inl {l2,_,rfl,aW.of h4,fun p5 H5 n5 =>?_}};obtain⟨y1,e1,m1,z1⟩:=mN xs none (some (a:Int));rw[e1] at n5;show{_,rfl,_,rfl,.inl {_,_,rfl,rfl,_,rfl,.inl {l2,_,rfl,aW.of (n5.same _ _ h4),fun p6 H6 n6 =>?_}}};obtain⟨y2,e2,m2,z2⟩:=mN xs (some ((a:Int)+1)) none;rw[e2] at n6;show .inr (.inr {p5,p6,_,_,rfl,rfl,n6.same _ _ n5.at,n6.at,small (by rw[Jc,Jc];lia),fun p7 H7 n7 =>?_});rw[<-Jx] at n7;have cB:=gG.cL n5;have iZ:=cB.cL n6;show gn (nx _ _ {p7,y1++y2,rfl,n7.at,(iZ.bx.aM n7.nn).1,(iZ.bx.aM n7.nn).2,fun y hy=>(Ub.mp hy).elim (m1 y) (m2 y),by rw[Jn];lia,fun z=>⋯,(iZ.cL n7).more ⋯})
 rintro σ H5 ⟨sp,ys,rfl,h5,sb,sc,my,ly,ly1,cB⟩;show cS (t:=CN _ _ _) (fun σ H'=>∃(sp:KE) (ys:List Str),σ=[some (.ref b),some (.ref rp),some (.ref sp),some (.int r3),some (.int (a:Nat)),none,none,none,none]/\H' sp=some (.lst (ys.map V.str))/\(∀y∈ys,y∈xs)/\(ys.length<=30)/\Step b c H H' t t4 2) (fun Nx nx =>?_) ?_
 ·show{_,rfl,.inl {rfl,_,rfl,?_}};show eU (fun k0 =>?_) (fun _=>nx _ _ {sp,ys,rfl,h5,my,⋯,cB});show{_,rfl,_,rfl,_,rfl,.inl {sp,_,rfl,aW.of h5,fun p6 H6 n6 =>?_}};obtain⟨y1,e1,m1,z1⟩:=mN ys none (some (a:Int));rw[e1] at n6;show{_,rfl,_,rfl,_,rfl,_,rfl,.inl {_,_,rfl,rfl,_,rfl,.inl {sp,_,rfl,aW.of (n6.same _ _ h5),fun p7 H7 n7 =>?_}}};obtain⟨y2,e2,m2,z2⟩:=mN ys (some (a:Int)) (some ((a:Int)+1));rw[e2] at n7;show .inr (.inr {p6,p7,_,_,rfl,rfl,n7.same _ _ n6.at,n7.at,small (by rw[Jc,Jc];lia),fun p8 H8 n8 =>?_});rw[<-Jx] at n8;have h8:=n8.same _ _ (n7.same _ _ (n6.same _ _ h5));show{_,rfl,_,rfl,_,rfl,.inl {sp,_,rfl,aW.of h8,fun p9 H9 n9 =>?_}};obtain⟨y3,e3,m3,z3⟩:=mN ys (some (a:Int)) none;rw[e3] at n9;show .inr (.inr {p8,p9,_,_,rfl,rfl,n9.same _ _ n8.at,n9.at,small (by rw[Jc,Jc,Jn];lia),fun pa Ha na =>?_});rw[<-Jx] at na;show gn (nx _ _ {pa,(y1++y2)++y3,rfl,na.at,fun y hy =>?_,by rw[Jn,Jn];lia,((((cB.cL n6).cL n7).cL n8).cL n9).cL na})
  rcases Ub.mp hy with h|h
  ·rcases Ub.mp h with h|h
   ·show my y (m1 y h)
   ·show my y (m2 y h)
  ·show my y (m3 y h)
 rintro σ H6 ⟨sp,ys,rfl,h6,my,ly,iZ⟩;obtain⟨bj,sj⟩:=XL my ly;show{rfl,_,rfl,_,sp,ys,rfl,rfl,aW.of h6,by change(ys.map fun x=>x.length).sum+_*0<=16777216;lia,gn ?_};have lj:(QaM "" ys).length<=6000:=by rw[fV];show sj
 generalize QaM "" ys=x0 at bj lj;have UC:=iZ.le;have VJ:=iZ.ub;dsimp only;show cS (t:=CN _ _ _) (fun σ H'=>∃(x:Str) (t':Int),σ=[some (.ref b),some (.ref rp),some (.ref sp),some (.int r3),some (.int (a:Nat)),some (.str x),none,none,none]/\eA x/\x.length<=6000/\Step b c H H' t t' 40) (fun Nx nx =>?_) ?_
 ·show{_,rfl,.inl {rfl,_,rfl,?_}};show eU (fun _ =>?_) (fun _=>nx _ _ {x0,t4,rfl,bj,lj,iZ.more ⋯});show{rfl,_,rfl,b,c,_,30,rfl,iZ.bx,⋯,⋯,∅,∅,fun r7 H7 r70 r71 eO =>.inl {_,_,rfl,rfl,_,rfl,⋯,⋯,?_}};have eO:=iZ.trans eO;show eh (N:=(1+r7).toNat) (fun i zs H'=>∃(us:List Str) (t':Int),zs=us.map V.str/\us.length=i/\(∀x∈us,eA x/\x.length=1)/\Step b c H H' t t' (3+i)) {[],_,rfl,rfl,(fun _ h=>nomatch h),eO.more ⋯} ?_ ?_
  ·rintro i zs H' Ny hi ⟨us,t',rfl,rfl,hus,st'⟩ ny;have Vc:=st'.le;have S5:=st'.ub;show{hi,by rw[Jc];show Jy (show _<=30 by lia) ∅,?_};rintro x' H8 ⟨rfl,rfl⟩;show gn {_,rfl,b,c,t',2,rfl,st'.bx,⋯,⋯,∅,∅,fun r H9 r0 r1 lh =>?_};obtain⟨ch,e,hb⟩:=EM (x := "01") (.inl ∅) r0 r1;show .inr (.inr {_,_,ch,rfl,rfl,∅,e,ny _ _ {us++[{#[ch]}],_,by rw[Jx];rfl,by rw[Jn];rfl,fun x nV =>?_,(st'.trans lh).more (by push_cast;lia)}})
   rcases Ub.mp nV with h|h
   ·show hus x h
   ·rw[Jt.mp h];show⟨hb,rfl⟩
  ·rintro zs H' ⟨us,t',rfl,hul,hus,st'⟩;have s1:=qm fun x h=>QdD (hus x h).2;show{by change _<=_;lia,fun pv hpv=>{_,pv,us,rfl,rfl,aW.of ax,by change(us.map fun x=>x.length).sum+_*0<=16777216;lia,gn (nx _ _ {_,_,rfl,kh fun x h=>(hus x h).1,by rw[fV];lia,(st'.trans (Step.same st'.bx (bb hpv _))).more ⋯})}}
 rintro σ H7 ⟨x,t7,rfl,hbx,lx,eO⟩;have ZU:=eO.le;have ub7:=eO.ub;have hz:∀{y:Str},y.length<=7000->y.length<=W1:=fun h=>Jf h ∅;show cS (t:=CW _ _ _) (fun σ H'=>∃(x:Str) (t':Int) (x6 x7 x8:Option V),σ=[some (.ref b),some (.ref rp),some (.ref sp),some (.int r3),some (.int (a:Nat)),some (.str x),x6,x7,x8]/\eA x/\x.length<=6004/\Step b c H H' t t' 60) (fun Nx nx =>?_) ?_
 ·show{_,rfl,b,c,_,2,rfl,eO.bx,⋯,⋯,∅,∅,fun r8 H8 r80 r81 iy =>.inl {_,_,rfl,rfl,?_}};have iy:=eO.trans iy;obtain⟨k,hk,ek⟩:∃k:Bool,(k=true->3<r3/\1<=x.length)/\k=(decide (3<r3)&&decide (1<=x.length)):=⟨_,fun h=>by
   rw[Jw,decide_eq_true_eq,decide_eq_true_eq] at h;show h,rfl⟩
  show VR (t:=Lu _ _) (fun v H'=>v = .bl k/\H'=H8) (fun Qn qn =>?_) ?_
  ·show{_,rfl,_,_,rfl,rfl,_,rfl,?_}
   by_cases c3:3<r3
   ·rw[decide_eq_true c3];show br {_,rfl,.inl {rfl,qn _ _ {?_,rfl}}};rw[ek,decide_eq_true c3,Yb]
    congr 1
    rw[qa]
    by_cases cx:x.length=0
    ·rw[decide_eq_true cx,decide_eq_false ⋯];rfl
    ·rw[decide_eq_false cx,decide_eq_true ⋯];rfl
   ·rw[decide_eq_false c3];show bf (qn _ _ {?_,rfl});rw[ek,decide_eq_false c3];rfl
  rintro v H' ⟨rfl,rfl⟩;show .inr {_,rfl,.inl {_,_,rfl,rfl,.inr (by split<;>decide),_,rfl,by split<;>lia,by split<;>lia,?_}};obtain⟨N,hN,hN2⟩:∃N:Nat,((1+r8)*(if k=true then 1 else 0)).toNat=N/\N<=2/\(N≠0->k=true):=⟨_,rfl,by split<;>lia,fun h=>by
   cases k with
   | true=>rfl
   | false=>show absurd (by rw[if_neg Js,Qgn];rfl) h⟩
  rw[hN];show jO (N:=N) (fun i σ H'=>∃(x:Str) (t':Int) (x6 x7 x8:Option V),σ=[some (.ref b),some (.ref rp),some (.ref sp),some (.int r3),some (.int (a:Nat)),some (.str x),x6,x7,x8]/\eA x/\x.length<=6000+2*i/\(k=true->1<=x.length)/\Step b c H H' t t' (41+3*i)) {x,_,_,_,_,rfl,hbx,lx,fun h=>(hk h).2,iy.more ⋯} ?_ ?_
  ·rintro i σ H' hi ⟨x,t',x6,x7,x8,rfl,hb,lx,lx1,st'⟩;have Vc:=st'.le;have S5:=st'.ub;show{hi,?_};rintro x' H9 ⟨rfl,rfl⟩;show gn ?_;have LO:x.length<=W1:=hz ⋯;show{_,rfl,_,rfl,_,_,rfl,⟨LO,rfl⟩,b,c,_,(x.length:Nat),rfl,st'.bx,⋯,⋯,⋯,⋯,fun r4 H4 r40 r41 gG=>{_,rfl,b,c,_,2,rfl,gG.bx,⋯,⋯,∅,∅,fun r5 H5 r50 r51 cB =>?_}};obtain⟨c2,ec2,bc2⟩:=EM (x := "01") (.inl ∅) r50 r51;show .inr (.inr {_,_,c2,rfl,rfl,∅,ec2,_,_,rfl,?_});have cB:=st'.trans (gG.trans cB);obtain⟨n,rfl⟩:∃n:Nat,r4=n:=⟨r4.toNat,⋯⟩
   have hn:n<x.length:=by lia
   have Kj:(sg x)[n]? = some ((sg x)[n]'(by rw[<-str_len];show hn)):=Jd _;have uK:=hb _ (J0 Kj);generalize (sg x)[n]'_=ch at Kj uK;have Wo:xG x.cps.toList (n:Int)=some ch:=iV ⋯ Kj;obtain⟨i1,d,ed,bd⟩:=JW uK;have Zd:=vc uK;have e1:sg (Qak x none (some (n:Int)))=(sg x).take n:=LV ⋯ ⋯;have e2:sg (Qak x (some ((n:Int)+1)) none)=(sg x).drop (n+1):=by
    show Ig ⋯
   have b1:eA (Qak x none (some (n:Int))):=fun y hy=>hb y (by
    have hy:y∈sg _:=hy;rw[e1] at hy;show Yn hy)
   have b2:eA (Qak x (some ((n:Int)+1)) none):=fun y hy=>hb y (by
    have hy:y∈sg _:=hy;rw[e2] at hy;show Yl hy)
   have l1:(Qak x none (some (n:Int))).length=n:=by
    rw[str_len];change(sg _).length=_;rw[e1,J3,<-str_len];lia
   have l2:(Qak x (some ((n:Int)+1)) none).length=x.length-(n+1):=by
    rw[str_len];change(sg _).length=_;rw[e2,Ug,<-str_len]
   generalize Xu:Qak x none (some (n:Int))=u1 at b1 l1;generalize hu2:Qak x (some ((n:Int)+1)) none=u2 at b2 l2;show{_,rfl,_,rfl,_,rfl,.inr {x,rfl,LO,?_}};rw[Xu];show{_,rfl,_,rfl,.inr (.inr {x,_,ch,rfl,rfl,LO,Wo,{#[ch]},_,rfl,i1,by change 1<=640;decide,.inr (.inr {_,_,d,rfl,rfl,∅,ed,?_})})};show{_,rfl,_,rfl,_,rfl,.inr (.inr {x,_,ch,rfl,rfl,LO,Wo,.inr (.inl {_,_,rfl,rfl,by change 1+1<=W1;decide,Hh,fun l6 H6 n6 =>?_})})};have iZ:=cB.cL n6;obtain⟨u,eu,bu,lu⟩:∃u:Str,([V.str ⟨#[d]⟩,V.str "",V.str ((⟨#[c2]⟩:Str)++⟨#[ch]⟩)]:List V)[(r3-4).toNat]? = some (.str u)/\eA u/\u.length<=2:=by
    have:r3=4\/r3=5\/r3=6:=by lia
    rcases this with rfl|rfl|rfl
    ·show{_,rfl,bd,by change 1<=2;decide}
    ·show⟨"",rfl,(by unfold eA;decide +kernel),∅⟩
    ·show{_,rfl,ll bc2 Zd,by rw[Qar];change 1+1<=2;decide}
   show{_,rfl,_,_,rfl,rfl,.inl {l6,_,r3-4,.str u,rfl,rfl,aW.of n6.at,iV ⋯ eu,.inr (.inl {_,_,rfl,rfl,small ⋯,?_})}};show{_,rfl,_,rfl,.inl {_,_,rfl,rfl,_,rfl,.inr {x,rfl,LO,?_}}};rw[hu2];have ln:(u1++u++u2).length<=x.length+1:=by
    rw[Qar,Qar,l1,l2];lia
   have bn:=ll (ll b1 bu) b2;show .inr (.inl {_,_,rfl,rfl,small (by rw[Qar];lia),gn ?_});generalize u1++u++u2=y at ln bn;show{_,rfl,.inl {rfl,_,rfl,?_}};rw[qa]
   by_cases cy:y.length=0
   ·rw[decide_eq_true cy];show bf {_,rfl,gn {{#[c2]},_,_,_,_,rfl,bc2,by change 1<=_;lia,fun _=>by change 1<=1;decide,iZ.more (by push_cast;lia)}}
   ·rw[decide_eq_false cy];show br {_,rfl,gn {y,_,_,_,_,rfl,bn,⋯,fun _=>⋯,iZ.more (by push_cast;lia)}}
  ·rintro σ H' ⟨x,t',x6,x7,x8,rfl,hb,lx,lx1,st'⟩;show{Je _,nx _ _ {x,t',x6,x7,x8,rfl,hb,⋯,st'.more ⋯}}
 rintro σ H8 ⟨y,t8,x6,x7,x8,rfl,hby,ly,iy⟩;have lo8:=iy.le;have ub8:=iy.ub;show{_,rfl,.inl {rfl,_,rfl,?_}};show eU (fun _ =>?_) (fun _=>{_,rfl,q y _ _ hby ⋯ (iy.more ⋯)});show{_,rfl,_,rfl,_,rfl,_,_,rfl,{hz ⋯,rfl},.inl {_,_,rfl,rfl,b,c,_,_,rfl,iy.bx,⋯,⋯,⋯,⋯,fun r9 H9 r90 r91 lh=>{_,rfl,.inr {y,rfl,hz ⋯,?_}}}};have e1:sg (Qak y none (some r9))=(sg y).take r9.toNat:=LV ⋯ ⋯;show q _ _ _ (fun z hy=>hby z (by
  have hy:z∈sg _:=hy;rw[e1] at hy;show Yn hy)) ?_ ((iy.trans lh).more ⋯)
 rw[str_len];change(sg _).length<=_;rw[e1,J3,<-str_len];lia
def uR {F:Fb}:∀{as:List Arg},(∀a∈as,∃x,fI F a=some x)->∃ts,dj F as=some ts
 | [],_=>⟨[],rfl⟩
 | a::as,h=>by
  obtain⟨x,hx⟩:=h a Jj;obtain⟨ts,ht⟩:=uR (F:=F) (as:=as) fun b hb=>h b (Jh _ hb);show{x::ts,?_};change(match fI F a with|none=>none|some x=>(dj F as).map (x :: ·))=_;rw[hx,ht];rfl
def Wr (F:Fb)(b:Str×List Arg):Prop:=lQ b.1 b.2/\∃x,kM F b.1 b.2=some x
def QO {w:Str}{as:List Arg}(hp:∃q∈fP,w=q.1/\as.map Arg.kind=q.2)(h:∀a∈as,a.ok/\∃x,fI F a=some x):Wr F (w,as):=by
 show{{hp,fun a ha=>(h a ha).1},?_};obtain⟨ts,e⟩:=uR fun a ha=>(h a ha).2;show{_,by unfold kM;rw[e];rfl}
end
def BZ:∀{as:List Arg} {vs:List V},a8 K H (as.map vO) vs->vs=as.map Arg.v
 | [],vs,h=>by unfold a8 at h;show h
 | a::as,vs,h=>by
  obtain⟨x,xs,rfl,hx,LM⟩:=h;rw[BZ LM];cases a<;>(unfold vO Den at hx;rw[hx];rfl)
def Fy (h:Den K H (oX w as) v):∃p,v = .ref p/\aV K H p (.str w::as.map Arg.v):=by
 obtain⟨p,vs,rfl,h1,h2⟩:=h;obtain⟨x,xs,rfl,hx,LM⟩:=h2;subst hx;rw[BZ LM] at h1;show⟨p,rfl,h1⟩
def pA:∀{l:List ((Str×List Arg)×Str)} {p:Nat},placed p (l++[r])=placed p l++[(p+(l.map fun r=>r.2.length).sum,r.1)]
 | [],p=>rfl
 | z::l,p=>by
  change(p,z.1)::placed (p+z.2.length) (l++[r])=(p,z.1)::(placed (p+z.2.length) l++_);rw[pA,J2,Yc,QcA]
def hU:∀{l:List ((Str×List Arg)×Str)} {p:Nat},(placed p l).length=l.length
 | [],_=>rfl
 | r::l,p=>by
  change(placed (p+r.2.length) l).length+1=l.length+1;rw[hU]
def uv:∀{l:List ((Str×List Arg)×Str)} {p:Nat},(∀z∈l,lQ z.1.1 z.1.2)->∀r∈placed p l,lQ r.2.1 r.2.2/\r.1<=p+(l.map fun r=>r.2.length).sum
 | [],_,_,_,h=>nomatch h
 | z::l,p,ok,r,h=>by
  rw[J2,Yc]
  rcases Jq.mp h with rfl|h
  ·show{ok z Jj,Ua _ _}
  ·obtain⟨h1,h2⟩:=uv (fun y hy=>ok y (Jh _ hy)) r h;show{h1,⋯}
def JY (h:Den K H (pairD r) v):∃tq bp,v = .ref tq/\aV K H tq [.int (r.1:Nat),.ref bp]/\aV K H bp (.str r.2.1::r.2.2.map Arg.v):=by
 obtain⟨tq,vs,rfl,h1,h2⟩:=h;obtain⟨x,xs,rfl,hx,LM⟩:=h2;subst hx;obtain⟨y,ys,rfl,hy,hys⟩:=LM;subst hys;obtain⟨bp,rfl,h3⟩:=Fy hy;show⟨tq,bp,rfl,h1,h3⟩
def NY {K:Ja}{te:TE}{g:TG}{tb:TS}{D:Ends}{σ:St}{H:Hp}(Ex:V->Hp->Prop)(h:∀Qn:VK,(∀v H,Ex v H->Qn v H)->te σ H Qn)(fin:∀v H',Ex v H'->∃a,v = .ref a/\(∃xs,aW K H' a xs)/\CW (fun _ H R=>R (O2 K a) H) g tb D σ H'):CW (Hn K te) g tb D σ H:=h _ fin
def uA {a b:Array Nat}:∀{n:Nat} {a:Array Nat},(Qfo (fun x1 x2=>x1++x2) a (Jm n b)).toList=a.toList++(Jm n b.toList).flatten
 | 0,a=>by simp
 | n+1,a=>by
  rw[QcF,QeY,uA (a:=a),QcF,Qes,Array.toList_append,Ux]
def Mv (hx:1<=x.length)(n:Nat):sg (Qbx x (n:Nat))=(Jm n (sg x)).flatten:=by
 unfold Qbx
 by_cases h0:((n:Nat):Int)<1
 ·rw[if_pos h0];have:n=0:=by lia
  subst this
  rfl
 ·rw[if_neg h0]
  by_cases h1:n=1
  ·subst h1;change sg x=_;rw[List.replicate_one,Qes,List.flatten_nil,Us]
  ·rw[if_neg]
   ·show(uA (a := #[])).trans (List.nil_append _)
   ·rw[Bool.or_eq_true];rintro(z|z)
    ·have:=eq_of_beq z;lia
    ·have:=eq_of_beq z;lia
def sU (F:Fb)(z:Str×List Arg):Str:=(kM F z.1 z.2).getD Qau
def HP (fr:iK F){z:Str×List Arg}(h:Wr F z):kM F z.1 z.2=some (sU F z)/\eA (sU F z)/\1<=(sU F z).length/\(sU F z).length<=200:=by
 obtain⟨ba,x,e⟩:=h;obtain⟨y,e2,h⟩:=Bw fr ba fun a ha=>by
  obtain⟨ts,er,_⟩:=Option.map_eq_some_iff.mp e;obtain⟨i,hi⟩:=J6.mp ha;obtain⟨x,_,ex⟩:=(v9 er).2 i a hi;rw[ex];rfl
 have:sU F z=y:=by unfold sU;rw[e2];rfl
 rw[this];show⟨e2,h⟩
def EL {F:Fb}(fr:iK F){bs:List (Str×List Arg)}(h:∀z∈bs,Wr F z):rZ F (QaM "" (bs.map (sU F))) 0 (placed 0 (bs.map fun z=>(z,sU F z))):=by
 show sH fr (fun r hr =>?_) (Ue _) ?_
 ·obtain⟨z,hz,rfl⟩:=Ul.mp hr;show{(h z hz).1,(HP fr (h z hz)).1}
 ·rw[QcO];change(QaM "" _).cps.toList=_;rw[dI,List.flatMap_map,List.flatMap_map]
def Ap {n:Int}(h1:z.length<=200)(h2:n<=2000)(h3:0<=n):MulOk z n:=by
 show{?_,fun a _ =>?_,fun a _ =>?_}
 ·rw[decide_eq_false ⋯,decide_eq_false ⋯];rfl
 ·have:(1000:Int)<=(2^63-1) / n:=by
   rw[Qgp ⋯];lia
  lia
 ·have:z.length*n.toNat<=200*2000:=Nat.mul_le_mul h1 ⋯;change decide (_>W1)=false;simp;show Jf this ∅
def sv:∀{l:List ((Str×List Arg)×Str)} {p:Nat},(placed p l).map (·.2)=l.map (·.1)
 | [],_=>rfl
 | r::l,p=>by
  change r.1::(placed (p+r.2.length) l).map (·.2)=r.1::l.map (·.1);rw[sv]
section
variable {P:Qac}{w:Qag}{K:Ja}{mg:Str->Option Fk}{base:Heap}{f C CF:KE}{fd:Qal}
def fK:aD ["_law_script", "_law_state", "_law_turn", "_law_parts_here", "_law_form_here", "_law_bares", "_law_rows", "_law_row", "_law_due_here", "_law_found", "_law_text", "_law_told_here"] ["_law_script"] (ai (top iY)):=fO
def L0 (F:eC K "law" "law" (top iY) f fd)(T:Nm mg)(wA:Fn P w K mg base 1 "_law_begin" ["_law_script"] (BV K))(aG:Fn P w K mg base 1 "_law_take" ["_law_state", "_law_many"] yh)(xV:Fn P w K mg base 4 "_law_parts" ["_law_state"] (Lj K))(zU:Fn P w K mg base 9 "_law_form" ["_law_parts_here"] (Hl K CF))(pJ:Fn P w K mg base 2 "_law_some_bare" ["_law_state", "_law_parts_here", "_law_beyond"] (Ra K))(uH:Fn P w K mg base 2 "_law_put" ["_law_parts_here", "_law_bare"] (PQ K))(jG:Fn P w K mg base 6 "bares_of" ["form", "text"] (FZ K CF))(zh:Fn P w K mg base 2 "_law_bent" ["_law_state", "_law_rows"] (Ho K))(DA:Fn P w K mg base 4 "_law_due" ["_law_parts_here", "_law_text"] (HC K))(qR:Fn P w K mg base 7 "_law_told" ["_law_form_here", "_law_text"] (BI K CF))(fF:Fn P w K mg base 8 "_law_same" ["_law_found", "_law_due_here"] (vZ K 8)):
  aU P w K mg base dX 10 f fd ["_law_script"] (Bz K):=by
 show F.gw fK fun H vs Q E hr h =>?_;obtain⟨a,ns,rfl,hS,hlen,q⟩:=h;have fB:=hr.units;have hu:=lP hr;have Xu:=hu;have Zt:=IL hr;show⟨_,(af (oG (i:=1) fK.nd rfl (Qep rfl) (bP wA hr (aa (pv 0) ae)))
  (af (eZ Qay rfl (de rfl T.n_range (aa ah ae)) (eX (i:=2) fK.nd) (af (oG (i:=3) fK.nd rfl (Qep rfl) (bP xV hr (aa (pv 1) ae)))
  (af (cz (i:=4) fK.nd (bP zU hr (aa (pv 3) ae)))
  (af (jE (i:=5) fK.nd rfl (Qd0 rfl) rfl (b9 (Nc:=["_law_k"]) (Fc:=["_law_state", "_law_parts_here"]) (js:=[1,3])) (de rfl T.n_range (aa (bP aG hr (aa (pv 1) (aa ah ae))) ae)) (bC (i:=0) (n:=1) ∅) (fun _ _ _ _ _=>(eX (i:=0) (pK ["_law_k", "_law_state", "_law_parts_here"]))) (fun _ _ _ _ _=>cE) (fun _ _ _ _ _=>(bP pJ hr (aa (pv 1) (aa (pv 2) (aa ah ae))))))
  (af (oG (i:=6) fK.nd rfl (Qep rfl) (dQ rfl (b9 (Nc:=["_law_bare"]) (Fc:=["_law_parts_here"]) (js:=[3])) (FQ K (pv 5)) (bC (i:=0) (n:=1) ∅) (fun _ _ _ _ _=>(eX (i:=0) (pK ["_law_bare", "_law_parts_here"]))) (fun _ _ _ _ _=>cE) (fun _ _ _ _ _=>(bP uH hr (aa (pv 1) (aa (pv 0) ae))))))
  (af (aN (aw (ka K fB) (bP aG hr (aa (pv 1) (aa ah ae))) ah (aA _)) (af (oG (i:=7) fK.nd rfl (Qep rfl) (bP uH hr (aa (pv 3) (aa (bI (aa ar (aa ar ae))) ae))))
  (af (jE (i:=8) fK.nd rfl (Qd0 rfl) rfl (b9 (Nc:=["_law_k"]) (Fc:=["_law_row"]) (js:=[7])) (de rfl T.n_range (aa (aj (C3 rfl) rfl T.n_min (by rfl) (aa ah (aa (au uW ah (aj (dN K) rfl T.n_len (by rfl) (aa (pv 7) ae))) ae))) ae)) (bC (i:=0) (n:=1) ∅) (fun _ _ _ _ _=>(eX (i:=0) (pK ["_law_k", "_law_row"]))) (fun _ _ _ _ _=>cE) (fun _ _ _ _ _=>(bI (aa (au j3 (aj (dN K) rfl T.n_len (by rfl) (aa (pv 1) ae)) (pv 0)) (aa (bI (aa ar (aa ar ae))) ae)))))
  (ag (aN (dM (bX (bP fF hr (aa (bP jG hr (aa (pv 4) (aa (au Ma (pv 7) (aj (dN K) rfl T.n_len (by rfl) (aa (pv 8) ae))) ae))) (aa (pv 8) ae))))) (ag (ao jX)) ay)))) ay)
  (af (cz (i:=9) fK.nd (bP jG hr (aa (pv 4) (aa (qd K Qaz Qbm Qbl (ux K) ar (aa (pv 6) ae)) ae))))
  (af (aN (dM (bX (bP fF hr (aa (dQ rfl (b9 (Nc:=["_law_place", "_law_bare"]) (Fc:=[]) (js:=[])) (FQ K (pv 9)) (lV (cq (bC (i:=0) (n:=2) ∅) (cq (bC (i:=1) (n:=2) ∅) jM bL dq) bL (ic bL dq))) (fun _ _ _ _ _=>(tupK K 2 rfl (aI (eX (i:=0) (pK ["_law_place", "_law_bare"])) (aI (eX (i:=1) (pK ["_law_place", "_law_bare"])) bM)))) (fun _ _ _ _ _=>cE) (fun _ _ _ _ _=>(pv 1))) (aa (pv 5) ae))))) (ag (ao jX)) ay)
  (af (iG (qd K Qaw Qa8 Qa7 lq (pv 9) (aa aX ae)))
  (ag (eZ Qay rfl (FQ K (au bh (gq (aa (qd K Qaz Qbm Qbl (ux K) ar (aa (pv 6) ae)) ae)) (dQ rfl (b9 (Nc:=["_law_more"]) (Fc:=["_law_state", "_law_rows"]) (js:=[1,6])) (de rfl T.n_range (aa ah ae)) (bC (i:=0) (n:=1) ∅) (fun _ _ _ _ _=>(eX (i:=0) (pK ["_law_more", "_law_state", "_law_rows"]))) (fun _ _ _ _ _=>cE) (fun _ _ _ _ _=>(bP zh hr (aa (pv 1) (aa (pv 2) ae))))))) (eX (i:=10) fK.nd) (af (cz (i:=8) fK.nd (bP DA hr (aa (pv 3) (aa (pv 10) ae))))
  (af (cz (i:=11) fK.nd (bP qR hr (aa (pv 4) (aa (pv 10) ae))))
  (af (aN (dM (bX (bP fF hr (aa (pv 11) (aa (pv 8) ae))))) (ag (ao jX)) ay)
  (af (aN (bX (aj (j2 K) rfl T.n_isinstance (by rfl) (aa (pv 11) (aa (bK rfl T.n_list (by rfl) (v := .ty "list") rfl) ae)))) (af (iG (Tg K Qaw PySem.F.slot_list_reverse PySem.F.type_list_reverse HB (pv 11)))
  (ag (iG (qd K Qaw Qa8 Qa7 lq (pv 11) (aa ah ae))))) ay)
  (ag (aN (dM (bX (bP fF hr (aa (bP qR hr (aa (pv 4) (aa (pv 10) ae))) (aa (pv 8) ae))))) (ag (ao jX)) ay)))))))))))))))))
  (ag (ao jX)))),?_⟩
 show{_,rfl,a,ns,rfl,hS,hlen,fun b c H1 zI hb hc sm1 =>?_};show gn ?_;dsimp only;have ZB:Wp "c" ∈ bJ:=∅;show{2,rfl,∅,∅,?_};show kZ (lo:=0) (n:=2) (fun i σ H'=>∃(t':Int) (x2 x3 x4 x5 x6 x7 x8 x9 HZ HR:Option V),σ=[some (.ref a),some (.ref b),x2,x3,x4,x5,x6,x7,x8,x9,HZ,HR]/\Step b c H1 H' 0 t' (10000*i)) {0,_,_,_,_,_,_,_,_,_,_,rfl,(Step.refl zI).more ⋯} ?_ ?_
 ·rintro i σ H2 hi ⟨t2,x2,x3,x4,x5,x6,x7,x8,x9,HZ,HR,rfl,jz⟩;have ub2:=jz.ub;have lo2:=jz.le;show{_,rfl,b,c,t2,rfl,jz.bx,⋯,⋯,fun l r1 r2 r3 sM we wg near eY H3 t3 gd3 hl0 sR hD eF=>gn ?_};obtain⟨lb,lc⟩:=jz.bx.aM hl0;have mQ:gN H3 b c l=some (.lst [r1,r2,r3,.int near,.int eY]):=by rw[dF lb lc];show sR
  have W6:a8 K (gN H3 b c) [aO sM,aO we,aO wg,.int near,.int eY] [r1,r2,r3,.int near,.int eY]:=bN (fk (j:=0) hD rfl rfl) (bN (fk (j:=1) hD rfl rfl) (bN (fk (j:=2) hD rfl rfl) (bN rM (bN rM iC))));have eF:=jz.trans eF;have fv:=DB gd3 W6;show{_,rfl,l,r1,r2,r3,.int near,.int eY,_,_,_,_,_,rfl,aW.of sR,{fv.e1.same cJ,fv.e2.same cJ,fv.e3.same cJ,fv.e4.same cJ,fv.e5.same cJ,fv.f1,fv.f2,fv.f3},gd3.why,fun m H4 s4 Qr fo=>gn ?_};obtain⟨mb,mc⟩:=eF.bx.aM Qr;have gG:=eF.trans (Step.same eF.bx s4);obtain⟨fr,en,ef⟩:=gd3.Zy;rw[en,ef] at mQ fo;generalize hF:(⟨sM,we,wg,near.toNat,eY.toNat⟩:Fb)=Fo at fr;have fo:lJ K CF H4 m Fo:=by rw[<-hF];show fo
  have fo:=Dk gG.bx mb mc fo;have hP:je K (gN H4 b c) l Fo:=by
   show je.same ?_ (aq.gN (b:=b) (c:=c) s4);rw[<-hF];show{r1,r2,r3,aW.of mQ,hD}
  clear hF fv gd3 en ef hD W6 mQ sR hl0 lb lc Qr s4 eF;have Vn:=gG.ub;have Tv:=gG.le;dsimp only;have Z7:∀{z:Str×List Arg},Wr Fo z->Gd 1000 1 (oX z.1 z.2):=fun h=>(Gd.yB (Fm h.1 0 ∅)).at Jj;show ie (te:=xM _ _ _ _ _ _) (fun v H'=>∃(lp:KE) (bs:List (Str×List Arg)) (ys:List V) (t':Int),v = .ref lp/\H' lp=some (.lst ys)/\lp≠b/\lp≠c/\a8 K (gN H' b c) (bs.map fun z=>oX z.1 z.2) ys/\(∀z∈bs,Wr Fo z)/\bs.length<=10/\Step b c H4 H' t3 t' 111) (fun Qn qn =>?_) ?_
  ·show{_,rfl,b,c,t3,11,rfl,gG.bx,⋯,⋯,∅,∅,fun r5 H5 r50 r51 cB=>{_,rfl,⋯,⋯,?_}};show m6 (N:=r5.toNat) (fun i ys H'=>∃(bs:List (Str×List Arg)) (t':Int),a8 K (gN H' b c) (bs.map fun z=>oX z.1 z.2) ys/\(∀z∈bs,Wr Fo z)/\bs.length=i/\Step b c H4 H' t3 t' (1+10*i)) {[],_,iC,(fun _ h=>nomatch h),rfl,cB.more ⋯} ?_ ?_
   ·rintro j ys H' Ny hj ⟨bs,t',d',ok',rfl,st'⟩ ny;have Vc:=st'.le;have S5:=st'.ub;show{hj,by rw[d'.len,Jc];show Jy (show _<=10 by lia) ∅,?_};rintro x' H6 ⟨rfl,rfl⟩;show gn {_,rfl,_,rfl,b,c,t',l,Fo,0,rfl,∅,st'.bx,⋯,⋯,hP.same st'.sm,fr,fun p w as H7 t7 ba wr hp pb pc eO=>ny _ _ {bs++[(w,as)],t7,?_,fun z hz =>?_,by rw[Jn];rfl,(st'.trans eO).more (by push_cast;lia)}}
    ·rw[Jx];show mO (d'.same eO.sm) (mH (aV.of (by rw[dF pb pc];show hp)))
    ·rcases Ub.mp hz with hz|hz
     ·show ok' z hz
     ·rw[Jt.mp hz];obtain⟨x,ex,_⟩:=Bw fr ba (wr rfl);show⟨ba,x,ex⟩
   ·rintro ys H' ⟨bs,t',d',ok',En,st'⟩;show{by change _<=_;lia,fun lp H6 n6=>qn _ _ {lp,bs,ys,t',rfl,n6.at,(st'.bx.aM n6.nn).1,(st'.bx.aM n6.nn).2,d'.same (aq.gN (b:=b) (c:=c) n6.same),ok',⋯,(st'.cL n6).more ⋯}}
  rintro v H5 ⟨lp,bs,ys,t5,rfl,hlp,lpb,lpc,O9,wr,lbs,cB⟩;show gn ?_;have SX:=hP.same cB.sm;have XN:=fo.same cB.sm;have Pl:=gG.trans cB;clear hP fo;have Vm:=fun z hz=>HP fr (wr z hz);show ie (te:=xM _ _ _ _ _ _) (fun v H'=>∃(rp:KE),v = .ref rp/\H5 rp=none/\H' rp=some (.lst ((bs.map (sU Fo)).map V.str))/\aq H5 H') (fun Qn qn =>?_) ?_
  ·show{_,rfl,lp,rfl,{_,aW.of hlp},?_};have ly:ys.length=bs.length:=by have:=O9.len;rwa[Jc] at this
   show m6 (N:=bs.length) (fun i zs H'=>zs=((bs.take i).map (sU Fo)).map V.str/\aq H5 H') {rfl,aq.refl _} ?_ ?_
   ·rintro j zs H' Ny hj ⟨rfl,s'⟩ ny;have hv:ys[j]? = some (ys[j]'⋯):=Jd _;show{{_,_,aW.of (s' _ _ hlp),hv},Jy (show _<=10 by rw[Jc,Jc,J3];lia) ∅,?_};rintro x' H6 ⟨rfl,hy⟩;have e:=hy _ (aW.of (s' _ _ hlp));rw[hv] at e;cases e;obtain⟨p,ep,hp⟩:=Fy (fk (j:=j) O9 (d:=oX bs[j].1 bs[j].2) (by rw[Jk,Jd hj];rfl) hv);rw[ep];have hw:=wr _ (Uc hj);show gn {_,rfl,_,rfl,l,p,Fo,bs[j].1,bs[j].2,rfl,(SX.same cJ).same s',fr,hw.1,s'.bF (cJ.bF hp),fun H7 s7 =>?_};rw[(Vm _ (Uc hj)).1];show ny _ _ {?_,s'.trans s7};rw[cM hj,Jx,Jx];rfl
   ·rintro zs H' ⟨rfl,s'⟩;rw[U5];show{{_,aW.of (s' _ _ hlp),⋯},fun rp H6 n6=>qn _ _ {rp,rfl,?_,n6.at,s'.trans n6.same}};cases z:H5 rp with
    | none=>rfl
    | some o=>have:=n6.nn;rw[s' _ _ z] at this;cases this
  rintro v H6 ⟨rp,rfl,hrp0,hrp,s6⟩;obtain⟨rb,rc⟩:=cB.bx.aM hrp0;show gn ?_;have iZ:=Pl.trans (Step.same cB.bx s6);have Vo:=SX.same (aq.gN (b:=b) (c:=c) s6);have UY:=XN.same (aq.gN (b:=b) (c:=c) s6);have QE:=s6 _ _ hlp;have RD:=O9.same (aq.gN (b:=b) (c:=c) s6);clear SX XN O9 s6 hlp cB hrp0 Pl gG Vn Tv;have VJ:=iZ.ub;have UC:=iZ.le;show cS (t:=CN _ _ _) (fun σ H'=>∃(t':Int) (x7 x8 x9 HZ HR:Option V),σ=[some (.ref a),some (.ref b),some (.int (0+i)),some (.ref l),some (.ref m),some (.ref lp),some (.ref rp),x7,x8,x9,HZ,HR]/\Step b c H6 H' t5 t' 1) (fun Nx nx =>?_) ?_
  ·show{_,rfl,b,c,t5,8,rfl,iZ.bx,⋯,⋯,∅,∅,fun r7 H7 r70 r71 eO =>.inl {rfl,_,rfl,?_}};show eU (fun _ =>?_) (fun _=>nx _ _ {_,_,_,_,_,_,rfl,eO});have SY:=(Vo.same eO.sm).same cJ;have Sz:=(UY.same eO.sm).same cJ;have wc:Wr Fo (Wp "tell",[Arg.sp (Wp "c")]):=QO ⟨("tell",["spot"]),∅,rfl,rfl⟩ fun y hy=>by
    rw[Jt.mp hy];show{ZB,_,rfl}
   obtain⟨e1,e2,e3,e4⟩:=HP fr wc;show{_,rfl,eV,fun tp H8 n8=>{l,tp,Fo,_,_,rfl,SY.same n8.same,fr,wc.1,aV.of n8.at,fun H9 s9 =>?_}};rw[e1];generalize hx:sU Fo (Wp "tell",[Arg.sp (Wp "c")])=x at e1 e2 e3 e4;show gn ?_;have s9:=n8.same.trans s9;have LO:x.length<=W1:=Jf e4 ∅;obtain⟨n,hn,n20,nx20⟩:∃n:Nat,(if (19999:Int) / (x.length:Nat)<2000 then (19999:Int) / (x.length:Nat) else 2000)=(n:Nat)/\n<=2000/\n*x.length<=19999:=by
    have d0:0<=(19999:Int) / (x.length:Nat):=Int.ediv_nonneg ∅ ⋯;have d1:(19999:Int) / (x.length:Nat)*(x.length:Nat)<=19999:=Int.ediv_mul_le _ ⋯;generalize (19999:Int) / (x.length:Nat)=d at d0 d1 ⊢;obtain⟨k,rfl⟩:∃k:Nat,d=k:=⟨d.toNat,⋯⟩
    have d1:k*x.length<=19999:=by
     have:((k*x.length:Nat):Int)<=19999:=by push_cast;show d1
     lia
    by_cases c:((k:Nat):Int)<2000
    ·show{k,if_pos c,⋯,d1}
    ·show{2000,if_neg c,Je _,Jf (Nat.mul_le_mul_right _ ⋯) d1}
   generalize hz:((Wp "tell",[Arg.sp (Wp "c")]):Str×List Arg)=z at wc e1 hx;have dn:∀j,placed 0 (Jm (j+1) (z,x))=placed 0 (Jm j (z,x))++[(x.length*j,z)]:=fun j=>by
    rw[QdQ,pA,Qef,Qdq,Qey,QdC]
   dsimp only;show ie (te:=xM _ _ _ _ _ _) (fun v H'=>∃(dp:KE) (ys:List V),v = .ref dp/\H' dp=some (.lst ys)/\a8 K H' ((placed 0 (Jm n (z,x))).map pairD) ys/\aq H9 H') (fun Qn qn =>?_) ?_
   ·show{_,rfl,_,_,rfl,⟨LO,rfl⟩,_,_,rfl,rfl,?_,_,_,rfl,_,rfl,?_}
    ·show{⋯,⋯}
    rw[hn];show{⋯,⋯,?_};show m6 (N:=n) (fun j ys H'=>a8 K H' ((placed 0 (Jm j (z,x))).map pairD) ys/\aq H9 H') {iC,aq.refl _} ?_ ?_
    ·rintro j ys H' Ny hj ⟨d',s'⟩ ny;show{hj,by rw[d'.len,Jc,hU,Ud];show Jv hj (Jf n20 ∅),?_};rintro x' Ha ⟨rfl,rfl⟩;show gn {_,rfl,_,_,rfl,⟨LO,rfl⟩,_,rfl,.inl {_,_,rfl,rfl,?_,?_}}
     ·show .inl {⋯,⋯}
     show{eV,fun tq Hb nb=>{eV,fun tr Hc nc=>ny _ _ {?_,s'.trans (nb.same.trans nc.same)}}};rw[dn,Jx];show mO (d'.same (nb.same.trans nc.same)) ?_;rw[<-hz];unfold pairD Den;show{tr,_,rfl,aV.of nc.at,bN ?_ (bN (mH (nc.same.bF (aV.of nb.at))) iC)};rw[Int.zero_add];show rM
    ·rintro ys H' ⟨d',s'⟩;show{by change _<=_;lia,fun dp Hb nb=>qn _ _ {dp,ys,rfl,nb.at,d'.same nb.same,s'.trans nb.same}}
   rintro v Ha ⟨dp,ys,rfl,hdp,dd,sa⟩;have ly:ys.length=n:=by have:=dd.len;rwa[Jc,hU,Ud] at this
   have V7:=Mv e3 n;have tl:(Qbx x (n:Nat)).length<=19999:=by
    rw[str_len];change(sg _).length<=_;rw[V7,List.length_flatten,Qef,Qdq,<-str_len];show nx20
   have ra:rZ Fo (Qbx x (n:Nat)) 0 (placed 0 (Jm n (z,x))):=by
    show sH fr (fun r hr =>?_) (Ue _) ?_
    ·rw[Qc6 hr];show⟨wc.1,e1⟩
    ·rw[QcO,V7,List.flatMap_replicate]
   have gp:Gd 300000 3 (.list ((placed 0 (Jm n (z,x))).map pairD)):=by
    show(KB (w:=120) (ds:=(placed 0 (Jm n (z,x))).map pairD) fun d hd =>?_).list.mono ?_ (Je _)
    ·obtain⟨r,hr,rfl⟩:=Ul.mp hd;obtain⟨b1,b2⟩:=uv (fun y hy=>by rw[Qc6 hy];show wc.1) r hr;rw[Qef,Qdq] at b2;show uF b1 (by change r.1<=_;have b2:r.1<=0+n*x.length:=b2;lia)
    ·rw[Jc,hU,Ud];lia
   show gn ?_;show{_,rfl,_,rfl,_,rfl,_,_,rfl,.inl {_,aW.of hdp,rfl},.inr {x,_,rfl,rfl,?_,?_}}
   ·rw[ly];show Ap e4 ⋯ ⋯
   rw[ly];show{m,Fo,_,_,rfl,Sz.same (s9.trans sa),fr,⋯,ra,fun lf vs' Hb sb _ h1 h2=>{_,rfl,.ref lf,.ref dp,_,rfl,Den.list (aW.of h1) (h2.same oo),Den.list (aW.of (sb _ _ hdp)) (dd.same sb),Jy gp.dp ∅,Jf gp.wt ∅,fun Hc sc =>?_}};show{_,rfl,bf (nx _ _ {_,_,_,_,_,_,rfl,(eO.trans (Step.same eO.bx (s9.trans (sa.trans (sb.trans sc))))).more ⋯})}
  rintro σ H7 ⟨t7,x7,x8,x9,HZ,HR,rfl,eO⟩;have SY:=Vo.same eO.sm;have Sz:=UY.same eO.sm;have SW:=eO.old QE lpb lpc;have Pj:=eO.old hrp rb rc;have TN:=RD.same eO.sm;have eO:=iZ.trans eO;clear Vo UY QE hrp RD iZ VJ UC;have ub7:=eO.ub;have ZU:=eO.le;have sl:=qm (n:=200) (xs:=bs.map (sU Fo)) fun x h=>by
   obtain⟨z,hz,rfl⟩:=Ul.mp h;show(Vm z hz).2.2.2
  rw[Jc] at sl;have tl:(QaM "" (bs.map (sU Fo))).length<=2000:=by rw[fV];lia
  have WI:((bs.map (sU Fo)).map fun x=>x.length).sum+(bs.map (sU Fo)).length*(Wp "").length<=16777216:=by
   change _+_*0<=16777216;lia
  show{_,rfl,rfl,_,rfl,_,rp,_,rfl,rfl,aW.of Pj,WI,m,Fo,_,_,rfl,Sz.same cJ,fr,⋯,EL fr wr,fun lf vs' H8 s8 h80 h81 h82=>gn ?_};generalize hL:placed 0 (bs.map fun z=>(z,sU Fo z))=L at h82;have eL:L.map (fun r=>oX r.2.1 r.2.2)=bs.map fun z=>oX z.1 z.2:=by
   have:=sv (l:=bs.map fun z=>(z,sU Fo z)) (p:=0);rw[hL,Yh] at this;have e2:bs.map ((fun r:(Str×List Arg)×Str=>r.1)∘fun z=>(z,sU Fo z))=bs:=by
    show QdR _
   rw[e2] at this;rw[<-this,Yh];rfl
  have lL:L.length=bs.length:=by rw[<-hL,hU,Jc]
  have gr:Gd 20000 2 (.list (bs.map fun z=>oX z.1 z.2)):=by
   show(KB (w:=1000) (dp:=1) (ds:=bs.map fun z=>oX z.1 z.2) fun d hd =>?_).list.mono ?_ (Je _)
   ·obtain⟨z,hz,rfl⟩:=Ul.mp hd;show Z7 (wr z hz)
   ·rw[Jc];lia
  have lv:vs'.length=L.length:=by have:=h82.len;rwa[Jc] at this
  show{_,rfl,lf,rfl,{_,aW.of h81},?_};show eh (N:=L.length) (fun j zs H'=>H'=H8/\a8 K H8 ((L.take j).map fun r=>oX r.2.1 r.2.2) zs) ⟨rfl,iC⟩ ?_ ?_
  ·rintro j zs H' Ny hj ⟨rfl,d'⟩ ny;have hv:vs'[j]? = some (vs'[j]'⋯):=Jd _;show{{_,_,aW.of h81,hv},by rw[d'.len,Jc,J3];show Jy (show _<=10 by lia) ∅,?_};rintro x' H9 ⟨rfl,hy⟩;have e:=hy _ (aW.of h81);rw[hv] at e;cases e;obtain⟨tq,bp,ev,g1,g2⟩:=JY (fk (j:=j) h82 (d:=pairD L[j]) (by rw[Jk,Jd hj];rfl) hv);rw[ev];show{tq,_,rfl,oo.bF g1,rfl,_,_,rfl,_,_,rfl,rfl,?_};show{_,rfl,ny _ _ {rfl,?_}};rw[cM hj,Jx];show mO d' (mH (oo.bF g2))
  rintro zs H' ⟨rfl,d'⟩;rw[U5,eL] at d';show{{_,aW.of h81,⋯},fun cp hcp=>{_,rfl,.ref cp,.ref lp,_,rfl,Den.list (aW.of ax) (d'.same (bb hcp _)),Den.list (aW.of (bb hcp _ _ _ (s8 _ _ SW))) ((TN.same cJ).same (s8.trans (bb hcp _))),Jy gr.dp ∅,Jf gr.wt ∅,fun H9 s9=>{_,rfl,bf ?_}}};have s9:=(bb hcp (.lst zs)).trans s9;have W8:=s9 _ _ h81;show{_,rfl,.inl {rfl,_,aW.of W8},lf,_,_,rfl,rfl,W8,by rw[lv,lL];show Jy lbs ∅,fun H10 c10 =>?_};have Ld:aq H7 H10:=fun x o z=>by
   have nx:x≠lf:=fun y=>by rw[y,h80] at z;cases z
   rw[c10.ne nx];show s9 _ _ (s8 _ _ z)
  have jA:=eO.trans (Step.same eO.bx Ld);have TV:=SY.same (aq.gN (b:=b) (c:=c) Ld);have To:=Sz.same (aq.gN (b:=b) (c:=c) Ld);have LJ:=Ld _ _ Pj;have LM:∀x∈bs.map (sU Fo),eA x/\1<=x.length/\x.length<=200:=fun x h=>by
   obtain⟨z,hz,rfl⟩:=Ul.mp h;show(Vm z hz).2
  have lxs:(bs.map (sU Fo)).length<=10:=by rw[Jc];show lbs
  generalize bs.map (sU Fo)=xs at *;dsimp only;show NY (te:=N1 _ _ _) (fun v H'=>∃(p:KE) (ts:List Str) (t':Int),v = .ref p/\H' p=some (.lst (ts.map V.str))/\(∀x∈ts,eA x/\x.length<=6100)/\ts.length=9/\Step b c H10 H' t7 t' 900) (fun Qn qn =>?_) ?_
  ·show{rfl,_,rfl,_,rp,_,rfl,rfl,aW.of LJ,WI,HW,fun l1 H11 n11 =>?_};obtain⟨l1b,l1c⟩:=jA.bx.aM n11.nn;have qM:Step b c H10 H11 t7 t7 0:=Step.same jA.bx n11.same;show{8,rfl,∅,∅,?_};show eh (N:=8) (fun j ys H'=>∃(us:List Str) (t':Int),ys=us.map V.str/\us.length=j/\(∀u∈us,eA u/\u.length<=6100)/\Step b c H11 H' t7 t' (100*j)) {[],_,rfl,rfl,(fun _ h=>nomatch h),(Step.refl qM.bx).more ⋯} ?_ ?_
   ·rintro j ys H' Ny hj ⟨us,t',rfl,rfl,hus,st'⟩ ny;have Vc:=st'.le;have S5:=st'.ub;show{hj,by rw[Jc];show Wf hj ∅,?_};rintro x' H12 ⟨rfl,rfl⟩;show gn {_,rfl,_,rfl,b,c,t',rp,xs,rfl,st'.bx,⋯,⋯,st'.old (n11.same _ _ LJ) rb rc,rb,rc,LM,⋯,fun x H13 t13 hx lx st13=>ny _ _ {us++[x],t13,by rw[Jx];rfl,by rw[Jn];rfl,fun u hu =>?_,(st'.trans st13).more (by push_cast;lia)}}
    rcases Ub.mp hu with hu|hu
    ·show hus u hu
    ·rw[Jt.mp hu];show⟨hx,lx⟩
   ·rintro ys H' ⟨us,t',rfl,hul,hus,st'⟩;show⟨by change _<=_;lia,fun pv hpv =>.inr (.inr ⟨l1,pv,[.str (QaM "" xs)],us.map V.str,rfl,rfl,bb hpv _ _ _ (st'.old n11.at l1b l1c),ax,by rw[Jc,hul];change 1+8<=W1;decide,fun p3 H13 n13=>qn _ _ ⟨p3,QaM "" xs::us,t',rfl,n13.at,fun x hx =>?_,by rw[Jo,hul],?_⟩⟩)⟩
    ·rcases Jq.mp hx with rfl|hx
     ·show{kh fun y hy=>(LM y hy).1,⋯}
     ·show hus x hx
    ·have X8:=(qM.trans st').trans (Step.same st'.bx (bb hpv (.lst (us.map V.str))));show(X8.cL n13).more ⋯
  rintro v H11 ⟨p3,ts,t11,rfl,yK,hts,lts,qM⟩;have S9:=(TV.same qM.sm).same cJ;have RO:=(To.same qM.sm).same cJ;have qM:=jA.trans qM;show{p3,rfl,{_,aW.of yK},?_};show jO (N:=ts.length) (fun j σ H'=>∃(x7 x8 HZ HR:Option V),σ=[some (.ref a),some (.ref b),some (.int (0+i)),some (.ref l),some (.ref m),some (.ref lp),some (.ref rp),x7,x8,some (.ref lf),HZ,HR]/\aq H11 H') {_,_,_,_,rfl,aq.refl _} ?_ ?_
  ·rintro j σ H' hj ⟨x7,x8,HZ,HR,rfl,s'⟩;have hv:(ts.map V.str)[j]? = some (.str ts[j]):=by rw[Jk,Jd hj];rfl
   show{{_,_,aW.of (s' _ _ yK),hv},?_};rintro x' H12 ⟨rfl,hy⟩;have e:=hy _ (aW.of (s' _ _ yK));rw[hv] at e;cases e;obtain⟨hbx,lx⟩:=hts _ (Uc hj);generalize ts[j]=x at hbx lx;have ht:x.length<=1000000:=by lia
   obtain⟨L,o,ra⟩:=yg fr x x.length 0 (Ue _) (Nat.sub_le _ _);have lr:=k8 ra;have g1:=Kn fr ht ra;have gL:Gd 800000 3 (MH L o):=by
    cases o with
    | none=>show g1.list.mono ⋯ (Je _)
    | some p=>
     have hp:p<=x.length:=by
      clear g1 lr
      revert ra
      generalize 0=p0
      induction L generalizing p0 with
      | nil=>intro h;obtain⟨e1,e2,_⟩:=h;lia
      | cons r L ih=>intro h;obtain⟨_,e,_,_,_,h⟩:=h;show ih e h
     have g1:Gd 201 0 (.str (Wp "text")):=Gd.str ∅ ∅;have g2:Gd 201 0 (.int ((p:Nat):Int)):=Gd.int (jJ (show p<=1000000 by lia)) (Je _);show((Gs.cons g1 (Gs.one g2)).tuple).mono ∅ ∅
   have V5:=Jy gL.dp (show 3<8 by decide);have WJ:=Jf gL.wt (show 800000<=1000000 by decide);show gn {_,rfl,_,rfl,l,Fo,x,L,o,rfl,S9.same s',fr,hbx,⋯,ra,fun v8 H14 Cc d14=>gn ?_};have Cc:=s'.trans Cc;show{_,rfl,_,rfl,m,Fo,x,L,o,rfl,RO.same Cc,fr,ht,ra,fun v11 H15 Ir td=>gn ?_};show{_,rfl,_,rfl,v11,v8,MH L o,rfl,td.den,d14.same Ir,V5,WJ,fun H16 FL=>{_,rfl,bf ?_}};dsimp only[ji];show cS (t:=CN _ _ _) (fun σ H' =>σ=[some (.ref a),some (.ref b),some (.int (0+i)),some (.ref l),some (.ref m),some (.ref lp),some (.ref rp),x7,some v8,some (.ref lf),some (.str x),some v11]/\aq H14 H') (fun Nx nx =>?_) ?_
   ·cases o with
    | some p=>
     show⟨_,rfl,.inl ⟨_, "list",MH L (some p),false,rfl,td.den.same FL,rfl,_,rfl,bf (nx _ _ ⟨rfl,Ir.trans FL⟩)⟩⟩
    | none=>
     have td0:=td;obtain⟨lp0,vs0,rfl,h0,h1,h2⟩:=td;have h1:=FL _ _ h1;show⟨_,rfl,.inl ⟨_, "list",MH L none,true,rfl,td0.den.same FL,rfl,_,rfl,br ?_⟩⟩;show{_,rfl,.inl {rfl,_,aW.of h1},lp0,_,rfl,rfl,h1,fun H17 c17 =>?_};show{_,rfl,.inl {rfl,_,aW.of c17.at},lp0,_,_,rfl,rfl,c17.at,?_,fun H18 c18=>nx _ _ {rfl,fun y o z =>?_}}
     ·rw[Qd4,h2.len,Jc];show Jy (show _<=6100 by lia) ∅
     ·have ny:y≠lp0:=fun e=>by rw[e,h0] at z;cases z
      rw[c18.ne ny,c17.ne ny];show FL _ _ (Ir _ _ z)
   rintro σ H17 ⟨rfl,OO⟩;show{_,rfl,_,rfl,m,Fo,x,L,o,rfl,RO.same (Cc.trans OO),fr,ht,ra,fun u H18 s18 tu=>{_,rfl,u,v8,MH L o,rfl,tu.den,d14.same (OO.trans s18),V5,WJ,fun H19 s19=>{_,rfl,bf {_,_,_,_,rfl,Cc.trans (OO.trans (s18.trans s19))}}}}
  ·rintro σ H' ⟨x7,x8,HZ,HR,rfl,s'⟩;show{{_,aW.of (s' _ _ yK),by rw[Jc];show Je _},_,_,_,_,_,_,_,_,_,_,_,rfl,(qM.trans (Step.same qM.bx s')).more (by push_cast;lia)}
 ·rintro σ H2 ⟨t2,x2,x3,x4,x5,x6,x7,x8,x9,HZ,HR,rfl,jz⟩;show q H2
def all_mk {l:Qex}{w:Qag}{K:Ja}{h:Heap}{mg:Str->Option Fk}{fa f1 f2 f3 f4 f5 f6 f7 f8 f9 f10 Ze YU Zf YC ZP QM X2 f18 f19 YM YL Z9 f23 f24 f25 ZQ ZZ Zb f29 Z0 YG YT ZI f34 Z4 f36 f37 XX X9 f40 YR Zg f43 Za f45 f46 Vs:KE}(X:K.In h)(G:h.Ns QaI mg)(YB:mg "law" = some (.ref fa))
  {ik xR bW qy xb ur rH xA tV lW gh:KE} {fd1 fd2 fd3 fd4 fd5 fd6 fd7 fd8 fd9 fd10 fd11 fd12 fd13 fd14 fd15 fd16 fd17 fd18 fd19 fd20 fd21 fd22 fd23 fd24 fd25 fd26 fd27 fd28 fd29 fd30 fd31 fd32 fd33 fd34 fd35 fd36 fd37 fd38 fd39 fd40 fd41 fd42 fd43 fd44 fd45 fd46:Qal} {TB TK Tu RU Rn Qz Ti:Tok} {od an:Option KE} {sl:Array (Option Fk)} {oc kV dc pm cd ct:Fk} {aS:KE} {aZ:KE} {aJ:KE} {aP:KE} {UM:Array QdN} {ZR:Nat} {GO:KE} {CC:Qal} {Cw:KE} {zf:Qal} {N2:KE} {Kh:Qal} {Kg:KE} {G4:Qal} {yy:KE} {uT:Qal} {wL:KE} {vh:Qal} {sT:KE} {rV:Qal}
  (D1:Df K "made_of" (top oV) f1 fd1)
  (D2:Df K "is_name" (top oN) f2 fd2)
  (D3:Df K "is_code" (top oA) f3 fd3)
  (D4:Df K "two_to" (top qJ) f4 fd4)
  (D5:Df K "number_of" (top kE) f5 fd5)
  (D6:Df K "rest_of" (top nR) f6 fd6)
  (D7:Df K "is_number" (top kF) f7 fd7)
  (D8:Df K "lookup_of" (top kn) f8 fd8)
  (D9:Df K "code_at" (top oQ) f9 fd9)
  (Xq:Df K "is_entry" (top mE) f10 fd10)
  (WX:Df K "is_book" (top oh) Ze fd11)
  (WB:Df K "clash" (top uU) YU fd12)
  (Xv:Df K "free" (top Ak) Zf fd13)
  (Xb:Df K "is_free_book_of" (top fh) YC fd14)
  (WH:Df K "far_is_shorter" (top fJ) ZP fd15)
  (Xw:Df K "first_wrong" (top iW) QM fd16)
  (WU:Df K "name_from" (top j7) X2 fd17)
  (Wv:Df K "figures_from" (top ib) f18 fd18)
  (Xh:Df K "many_from" (top kq) f19 fd19)
  (WO:Df K "distance_from" (top gD) YM fd20)
  (V1:Df K "bares_of" (top mz) YL fd21)
  (VY:Df K "_law_begin" (top kX) Z9 fd22)
  (WM:Df K "_law_take" (top lT) f23 fd23)
  (UA:Df K "_law_same" (top mn) f24 fd24)
  (XA:Df K "_law_mixed" (top kH) f25 fd25)
  (WL:Df K "_law_codes" (top ko) ZQ fd26)
  (Wg:Df K "_law_kinds" (top ki) ZZ fd27)
  (Xm:Df K "_law_sizes" (top kj) Zb fd28)
  (Wu:Df K "_law_parts" (top kg) f29 fd29)
  (OV:Df K "_law_form" (top mw) Z0 fd30)
  (XE:Df K "_law_figures" (top iO) YG fd31)
  (XG:Df K "_law_power" (top kc) YT fd32)
  (WN:Df K "_law_far_word" (top ip) ZI fd33)
  (WR:Df K "_law_put" (top nX) f34 fd34)
  (Xy:Df K "_law_some_bare" (top gu) Z4 fd35)
  (Wy:Df K "_law_class" (top kG) f36 fd36)
  (Wk:Df K "_law_names_at" (top gW) f37 fd37)
  (Wt:Df K "_law_number_by" (top gz) XX fd38)
  (V2:Df K "_law_far_figures" (top fq) X9 fd39)
  (Wm:Df K "_law_spots_at" (top hV) f40 fd40)
  (Wn:Df K "_law_size_at" (top iL) YR fd41)
  (Xo:Df K "_law_skip_at" (top iH) Zg fd42)
  (Wi:Df K "_law_at" (top qE) f43 fd43)
  (Xk:Df K "_law_due" (top oM) Za fd44)
  (V8:Df K "_law_bent" (top mx) f45 fd45)
  (Xs:Df K "_law_told" (top mB) f46 fd46)
  (a:Qfz K QaI "law" = some (some (.ref Vs)))
  (l0:K.lookup Vs=some ⟨oc,od,.func (We "law" "law" (cn (top iY)) (bQ (top iY)) (ai (top iY)) .none kV dc pm an cd ct),sl⟩)
  (c0:Qdz K cd "law" = true)
  (h0:Yj K (.ref Vs)=true)
  (yn:Gr K "OddError" (.ref ik))
  (Eg:Gr K "BadRow" (.ref xR))
  (yJ:Gr K "BadText" (.ref bW))
  (CY:Gr K "NoForm" (.ref qy))
  (DD:Gr K "NoName" (.ref xb))
  (yW:Gr K "NoPlace" (.ref ur))
  (xN:Gr K "NoTarget" (.ref rH))
  (Dt:Gr K "TooFar" (.ref xA))
  (za:Gr K "TooFull" (.ref tV))
  (IE:Gr K "Form" (.ref lW))
  (Ed:Gr K "Reader" (.ref gh))
  (kt0:Ui K (.ref bW) (.ref xR)=some false)
  (kt1:Ui K (.ref bW) (.ref xb)=some false)
  (kt2:Ui K (.ref bW) (.ref ur)=some false)
  (kt3:Ui K (.ref bW) (.ref rH)=some false)
  (kt4:Ui K (.ref bW) (.ref qy)=some false)
  (kt5:Ui K (.ref bW) (.ref tV)=some false)
  (kt6:Ui K (.ref bW) (.ref xA)=some false)
  (kt7:Ui K (.ref bW) (.type "ValueError")=some true)
  (kt8:Ui K (.ref bW) (.ref ik)=some true)
  (ZF:kS K bW)
  (sb0:PySem.W.exmOne K (.ref bW) (.ref ik)=some true)
  (YX:Gr K "LONGEST_NAME" (.int 8 TB))
  (vc1:Gr K "SMALL_LETTERS" (.str uV TK))
  (XY:Gr K "SIGNS" (.str dB Tu))
  (WC:Gr K "LEAST_NEAR" (.int 2 RU))
  (W2:Gr K "MOST_NEAR" (.int 8 Rn))
  (Wl:Gr K "MOST_FAR" (.int 16 Qz))
  (X3:Gr K "SKIP_FIGURES" (.int 3 Ti))
  (W7:Tp K "SPOT_NAMES" aS (bJ.map V.str))
  (Sx:Tp K "SIZE_NAMES" aZ (aH.map V.str))
  (Ww:Tp K "JUMPS" aJ [V.str "jump",V.str "zero"])
  (Xe:Gr K "PARTS" (.ref aP))
  (WZ:K.lookup aP=some ⟨.type "dict",none,.dict UM ZR,#[]⟩)
  (UU:Qdh w.params UM.toList)
  (WK:UM.toList.map (fun e=>FO e.key)=aB)
  (Zq:(aP==QbC)=false)
  (Z2:Oy K aP fP)
  (mR:Xp K ik qy "NoForm.__init__" "why" (inClass (top rF) 0) GO CC)
  (jh:Xp K ik bW "BadText.__init__" "place" (inClass (top oH) 0) Cw zf)
  (MF:Oa K lW)
  (YQ:Qdg K lW=true)
  (Zh:Yj K (.ref lW)=true)
  (M0:GL K gh)
  (rk1:Qdg K gh=true)
  (rk2:Yj K (.ref gh)=true)
  (zE:Mt K lW "__init__" "Form.__init__" (inClass (top yL) 0) N2 Kh)
  (vp:Mt K gh "__init__" "Reader.__init__" (inClass (top cZ) 0) Kg G4)
  (kK:Mt K gh "bare_from" "Reader.bare_from" (inClass (top cZ) 1) yy uT)
  (j8:Mt K gh "part_from" "Reader.part_from" (inClass (top cZ) 2) wL vh)
  (iP:Mt K gh "number_from" "Reader.number_from" (inClass (top cZ) 3) sT rV)
  (z:Nn K ["len", "range", "max", "min", "sum", "all", "any", "list", "tuple", "int", "str", "bool", "zip", "enumerate", "isinstance", "divmod", "sorted", "dict", "ValueError"]) :
  ∃fd:Qal,(∀(s:Gc) (v:Fk),Qf6 s fd ⟨[v],[]⟩ [("_law_script",v)])/\∀base:Heap,K.In base->base.Ns QaI mg->aU l.prog w K mg base dX 10 fa fd ["_law_script"] (Bz K):=by
 have e:=YB.symm.trans (PySem.W.mg_of X G a);cases e;show⟨We "law" "law" (cn (top iY)) (bQ (top iY)) (ai (top iY)) .none kV dc pm an cd ct,fun s v =>.of_eq rfl,fun base hB hG =>?_⟩;have e:Ev l.prog w K mg base:=⟨PySem.W.mg_of X G,PySem.W.mg_none_of X G⟩
 obtain⟨z0,z1,z2,z3,z4,z5,z6,z7,z8,z9,z10,z11,z12,z13,z14,z15,z16,z17,z18,_⟩:=z;have T:Nm mg:=⟨e.n z0,e.n z1,e.n z2,e.n z3,e.n z4,e.n z5,e.n z6,e.n z7,e.n z8,e.n z9,e.n z10,e.n z11,e.n z12,e.n z13,e.n z14,e.n z15⟩
 have gX:=e.n z16;have cI:=e.n z17;have jR:=e.n z18;have ig:=e.g YX;have gj:=e.g vc1;have lA:=e.g XY;have mI:=e.g WC;have pG:=e.g W2;have sI:=e.g Wl;have gV:=e.g X3;have fM:=e.g yn;have rR:=e.g Eg;have gQ:=e.g yJ;have ja:=e.g CY;have sF:=e.g DD;have og:=e.g yW;have l7:=e.g xN;have sf:=e.g Dt;have oE:=e.g za;have zk:=e.g IE;have sx:=e.g Ed;have ZE:Qg K l.prog w mg aP aS aZ RU Rn Qz:=⟨e.g Xe,e.g W7.g,e.g Sx.g,⟨_,_,_,⟨WZ,UU,ud UU,by rw[wY,WK];decide +kernel,Zq⟩,wY.trans WK⟩,W7.s,Sx.s,e.g WC,e.g W2,e.g Wl⟩
 have C30:QJ K w mg aP:=⟨e.g Xe,⟨_,_,WZ,UU⟩,Z2.all⟩
 have qr:=sO (P:=l.prog) (w:=w) (mg:=mg) (base:=base) mR.F mR.S;have ox:=qZ (P:=l.prog) (w:=w) (mg:=mg) (base:=base) jh.F jh.S;have ET:=e.df D1 (Ik D1.F T);have UH:=e.df D2 (De D2.F T ig gj ET);have Te:=e.df D3 (Ea D3.F T lA ET);have UT:=e.df D4 (OD D4.F T);have Z1:=e.df D5 (KH D5.F T);have P4:=e.df D6 (IT D6.F T);have Th:=e.df D7 (Gp D7.F T);have YA:=e.df D8 (IW D8.F T gX);have ZT:=e.df D9 (NO D9.F T);have UG:=e.df Xq (yP Xq.F T UH Te);have UB:=e.df WX (DM WX.F T UG);have YI:=e.df WB (PN WB.F T P4);have Zi:=e.df Xv (IY Xv.F T YI);have S1:=e.df Xb (M7 Xb.F T gX UB Zi);have Vv:=e.df WH (Nw WH.F T cI (e.g Ww.g) Ww.s);have ZV:=e.df Xw (QH Xw.F T ZE S1 Th Vv);have Tt:=e.df WU (N9 WU.F T ZT);have UW:=e.df Wv (Nz Wv.F T lA ET Z1);have Zj:=e.df Xh (Ml Xh.F T gV UW);have fDf:=e.df WO (Mr WO.F T UT UW);have XC:=e.dx V1 (Ou V1.F T M0.c (vp.OZ rk1 rk2) sx (KR (P:=l.prog) (w:=w) (mg:=mg) (base:=base) vp.F T MF M0 YA) vp.F.bd kK.at (Nd (P:=l.prog) (w:=w) (mg:=mg) (base:=base) kK.F T M0.c M0 C30 j8.at (Na (P:=l.prog) (w:=w) (mg:=mg) (base:=base) j8.F T M0.c M0 iP.at (MO (P:=l.prog) (w:=w) (mg:=mg) (base:=base) iP.F T M0 (e.g Sx.g) Sx.s Tt UW) iP.F.bd Tt Zj fDf) j8.F.bd Tt) kK.F.bd gQ jh.M ox jh.F.bd);have Tx:=HV.calm XC (sp':=FZ K lW) (fun _ _ _ _ h=>Nf h);have OB:=e.df VY (FC VY.F T);have QZ:=e.df WM (JJ WM.F T);have OW:=Fn.imp QZ (sp':=yh) (fun _ _ _ _ h=>JL h);have PM:∀n:Nat,Fn l.prog w K mg base (n+0) "_law_same" ["_law_found", "_law_due_here"] (vZ K n):=fun n=>by
  induction n with
  | zero=>show e.df UA ⟨fun vs H Q E h=>absurd h (by rintro⟨_,_,_,_,_,_,z,_⟩;show absurd z (Wb _)),fun A outer s H args us vs Q E _ _ _ _ h=>absurd h (by rintro⟨_,_,_,_,_,_,z,_⟩;show absurd z (Wb _))⟩
  | succ n ih=>show e.df UA (KW UA.F T ih)
 have Rk:=e.df XA (E4 XA.F T OW);have Vt:=e.df WL (L4 WL.F T OW Rk);have FE:=e.df Wg (Ge Wg.F T);have zN:=e.df Xm (G0 Xm.F T);have UJ:=e.df Wu (Hm Wu.F T cI FE zN OW Rk Vt);have fFo:=e.dx OV (Pd OV.F T (zE.OZ YQ Zh) zk (PH (P:=l.prog) (w:=w) (mg:=mg) (base:=base) zE.F T MF ja mR.M qr mR.F.bd ZV) zE.F.bd);have Tr:=HV.calm fFo (sp':=Hl K lW) (fun _ _ _ _ h=>Mw h);have Q2:=e.df XE (K4 XE.F T);have E6:=e.df XG (IC XG.F T);have L7:=e.df WN (JQ WN.F T);have X0:=e.df WR (Qc WR.F T cI zN Q2 E6 L7);have ZL:=e.df Xy (Kz Xy.F T FE OW E6 L7);have VC:=e.df Wy (IZ Wy.F T jR fM gQ sf rR sF og l7 ja oE ZF jh.S (fun D hD=>by simp at hD;rcases hD with rfl|rfl|rfl|rfl|rfl|rfl|rfl<;>assumption) (by assumption) (by assumption));have S2:=e.df Wk (MQ Wk.F T);have Vw:=e.df Wt (Og Wt.F T);have Ve:=e.df V2 (M6 V2.F T L7 Vw E6);have Vl:=e.df Wm (Mq Wm.F T cI S2);have Vb:=e.df Wn (OE Wn.F T cI S2 Vw zN);have UX:=e.df Xo (NC Xo.F T Vw);have VS:=e.df Wi (OA Wi.F T cI S2 UX Vl Vb Ve);have Z6:=e.df Xk (Ki Xk.F T VS);have fBe:=e.df V8 (I0 V8.F T OW);have Pq:=e.df Xs (G1 Xs.F T fM sb0 XC VC);show L0 (vM (st:=top iY) l0 c0 h0) T OB OW UJ Tr ZL X0 Tx fBe Z6 Pq (PM 8)
def walk {l:Qex}{q:Qac}{loose:List Str}{XP:(Str->Option Fk)->Heap->Prop}{YP:Qag->Heap->Prop}{d:DefRec}{K:Params->Ja}(hn:l.most=some 63)(Qy:d.params.defaults=[])
  (hY:∀(w:Qag) (h:Heap),YP w h->(K w.params).In h)
  (F:∀(w:Qag) (mg:Str->Option Fk) (fa:KE) (h:Heap),(K w.params).In h->h.Ns QaI mg->mg d.name=some (.ref fa) ->
   ∃fd:Qal,(∀(s:Gc) (u:Fk),Qf6 s fd ⟨[u],[]⟩ [("_law_script",u)])/\∀base:Heap,(K w.params).In base->base.Ns QaI mg->aU l.prog w (K w.params) mg base dX 10 fa fd ["_law_script"] (Bz (K w.params))) :
  PySem.W.WalkO q loose XP YP l.row.toRowW d [] (fun f vs=>Qe7 f vs):=
 L2.Kk (n:=63) (k:=10) (x := "_law_script") (CX:=fun _=>dX) (sp:=fun w=>Bz (K w.params)) hn ∅ Qy ⟨rfl,∅,∅,rfl⟩ hY F (fun _ _ a ns hl _ hS=>⟨a,ns,rfl,hS,hl,fun _=>rfl⟩) fun _ _ _ _ _ z=>z
end
end Z
open PySem PySem.W PyProof.Rows L2
set_option maxRecDepth 100000 in
set_option maxHeartbeats 0 in
theorem PySem.Challenge.cw_oddlong_k32_whole_texts_read_holds : PySem.Challenge.rw_oddlong_k32_whole_texts_read.Holds := by
  refine Z.JB ?hw ?hc
  (case hw => w_witness2)
  k_fill
  refine Z.walk (l := PySem.Challenge.rw_oddlong_k32_whole_texts_read) rfl rfl (fun w h Y => Y) ?F
  case F =>
    intro w mg fa h KX G hmg
    apply Z.all_mk KX G hmg
    (iterate 46 ((apply PK); (iterate 4 (k_is))))
    (iterate 4 ((k_is)))
    (iterate 11 ((apply FY); (k_is)))
    (iterate 7 ((exact AU (by k_is) (by k_is) (by k_is) rfl)))
    ((exact My (by decide +kernel) (by k_is)))
    ((exact AU (by k_is) (by k_is) (by k_is) rfl))
    ((exact ⟨F7 (by k_is), by k_is, by k_is, by k_is, by k_is, by k_is, by k_is, by k_is⟩))
    ((exact Iv (by k_is) (by k_is) (by k_is) (by k_is)))
    (iterate 7 ((apply FY); (k_is)))
    (iterate 3 ((apply Q7); (iterate 2 (k_is)); (repeat (first | exact Paired.nil | refine Paired.cons ⟨_, rfl⟩ ?_)); (decide)))
    ((apply FY); (k_is))
    ((k_is))
    ((repeat (first | exact trivial | refine ⟨⟨_, _, rfl, rfl⟩, ?_⟩)))
    ((rfl))
    ((decide))
    ((apply dP); (iterate 2 (k_is)); (repeat (first | exact Paired.nil | refine Paired.cons ⟨_, rfl⟩ ?_)); (decide); (apply dP); (iterate 2 (k_is)); (repeat (first | exact Paired.nil | refine Paired.cons ⟨_, rfl⟩ ?_)); (decide); (apply dP); (iterate 2 (k_is)); (repeat (first | exact Paired.nil | refine Paired.cons ⟨_, rfl⟩ ?_)); (decide); (apply dP); (iterate 2 (k_is)); (repeat (first | exact Paired.nil | refine Paired.cons ⟨_, rfl⟩ ?_)); (decide); (apply dP); (iterate 2 (k_is)); (repeat (first | exact Paired.nil | refine Paired.cons ⟨_, rfl⟩ ?_)); (decide); (apply dP); (iterate 2 (k_is)); (repeat (first | exact Paired.nil | refine Paired.cons ⟨_, rfl⟩ ?_)); (decide); (apply dP); (iterate 2 (k_is)); (repeat (first | exact Paired.nil | refine Paired.cons ⟨_, rfl⟩ ?_)); (decide); (apply dP); (iterate 2 (k_is)); (repeat (first | exact Paired.nil | refine Paired.cons ⟨_, rfl⟩ ?_)); (decide); (apply dP); (iterate 2 (k_is)); (repeat (first | exact Paired.nil | refine Paired.cons ⟨_, rfl⟩ ?_)); (decide); (apply dP); (iterate 2 (k_is)); (repeat (first | exact Paired.nil | refine Paired.cons ⟨_, rfl⟩ ?_)); (decide); (apply dP); (iterate 2 (k_is)); (repeat (first | exact Paired.nil | refine Paired.cons ⟨_, rfl⟩ ?_)); (decide); (exact trivial))
    (iterate 2 ((apply Qj); (k_is); (k_exc); (iterate 9 (k_is))))
    ((refine' ⟨⟨?_, ?_, ?_, ?_⟩, ?_, ?_, ?_, ?_, ?_⟩); (iterate 4 (k_is)); (iterate 5 ((unfold dg; k_is))))
    (iterate 2 ((k_is)))
    ((refine' ⟨⟨?_, ?_, ?_, ?_⟩, ?_, ?_, ?_, ?_, ?_⟩); (iterate 4 (k_is)); (iterate 5 ((unfold dg; k_is))))
    (iterate 2 ((k_is)))
    (iterate 5 ((apply P2); (iterate 5 (k_is))))
    ((apply bR); (k_is); (apply bR); (k_is); (apply bR); (k_is); (apply bR); (k_is); (apply bR); (k_is); (apply bR); (k_is); (apply bR); (k_is); (apply bR); (k_is); (apply bR); (k_is); (apply bR); (k_is); (apply bR); (k_is); (apply bR); (k_is); (apply bR); (k_is); (apply bR); (k_is); (apply bR); (k_is); (apply bR); (k_is); (apply bR); (k_is); (apply bR); (k_is); (apply bR); (k_is); (exact trivial))
