import PyProof.Rows.All
import Wide.All
import OpenK.AllK
import Wide.FinOn
import Lean
import PyProof.EqAt
import PyProof.EqKinds
import PyProof.TupleCall
import PyProof.ReprRoads
import PyProof.ReprBulk
import PyProof.ZipIter
import KE.KItemsList
import PyProof.P3Eq
import KE.KEqDict
import PyProof.Rows.Range3
import KE.KLam
import PyProof.Rows.SetFrom
import KE.KDictList
import PyProof.FactsAll.list_4
import PySem.Challenge.RW_patchbough_k45_one_thing_more
set_option compiler.extract_closed false
set_option bootstrap.genMatcherCode false
noncomputable section
set_option Elab.async false
set_option linter.all false
set_option maxRecDepth 100000
set_option maxHeartbeats 40000000
open Option renaming some->ι,none->ν
open Array renaming length_toList->j6,getElem?_toList->q4,getElem?_eq_getElem->ut,toArray_toList->B7,getElem_mem->Rs,getD_eq_getD_getElem?->U6,mem_toList_iff->aa6,forIn_toList->abM,toList_push->ach,toList_inj->acH,toList->adU,getD->aej
open Bool renaming false_ne_true->i8,and_eq_true->kt,eq_iff_iff->F9,false_eq_true->K3,or_eq_true->aaA,not_eq_true'->acf,eq_false_iff->acg,and_false->adu
open Classical renaming propDecidable->P4
open False renaming elim->wv
open ForInStep renaming yield->L6
open Int renaming toNat_natCast->pc,emod_lt_of_pos->E7,emod_nonneg->F8,eq_ofNat_of_zero_le->J4,zero_add->N3,toNat->U9,ofNat_le->aaf,min_eq_left->aaz,toNat_of_nonneg->abh,natCast_nonneg->abK,ediv_one->ab0,toNat_eq_max->acC,min_eq_right->acD,not_lt->aei
open List renaming length_map->ap,mem_singleton->bi,getElem?_map->bv,length_append->b8,mem_cons_of_mem->b9,mem_cons->ca,getD_eq_getElem?_getD->ci,size_toArray->cr,mem_append->db,mem_cons_self->dL,mem_append_left->e9,map_cons->ge,mem_append_right->gl,length_cons->g6,getElem?_append_left->g9,append_assoc->ii,take_length->im,map_append->io,nodup_append->i3,length_singleton->i5,replicate->i9,getElem?_append_right->jc,cons_append->jp,nodup_cons->j0,take_add_one->j2,drop_eq_getElem_cons->j3,lookup_cons->j7,append_nil->j9,mem_map->m7,take_succ_cons->n5,range->oo,map_map->o0,length->pp,eq_nil_of_length_eq_zero->q8,length_take->re,all_eq_true->r4,zip_cons_cons->tz,flatten_cons->v0,perm_append_comm->ww,length_drop->w4,filter_cons->w8,getElem?_set_self->xg,getElem?_eq_none_iff->xz,take_append_drop->x5,take_zero->A3,map_congr_left->A4,getElem?_zip_eq_some->A9,getElem_mem->B0,map_nil->B2,lookup->B5,getElem?_set_ne->B6,drop_append_of_le_length->B8,flatMap_cons->Ch,mem_filter->C5,replicate_succ->C6,mem_range->E3,lookup_append->E5,filter_append->E6,getElem?_eq_none->Fk,of_mem_zip->F5,nil_append->F6,length_nil->F7,mem_iff_getElem->G1,getElem?_of_mem->G2,any_cons->G6,eraseIdxIfInBounds_toArray->G9,not_mem_nil->I9,drop_length->J0,getElem?_cons_succ->J2,filter_cons_of_neg->J3,take_append_of_le_length->J7,drop_of_length_le->K5,length_set->L4,find?_cons->L5,length_range->M4,getElem?_inj->M5,drop_zero->M8,all_map->N2,ext_getElem->N6,flatMap_append->Os,eq_of_mem_replicate->O4,mem_filterMap->PP,pairwise_map->Q8,ext_getElem?->Q9,take_of_length_le->R1,filter_eq_nil_iff->R3,length_filter_le->R7,flatMap_nil->SL,any_eq_true->SZ,all_cons->S8,forIn_cons->T3,dropLast_concat_getLast->T5,toList_toArray->T7,mem_map_of_mem->T8,getElem_of_mem->T9,getElem?_range->Uf,filterMap_cons->UF,map->V3,nodup_nil->WF,length_eraseIdx_of_lt->W0,findIdx?_eq_none_iff->W7,getElem?_nil->X3,map_snd_zip->Z0,map_fst_zip->Z1,flatten_nil->Z2,getElem?_replicate->Z6,drop_eq_nil_of_le->aao,range_succ->aaw,length_zip->aax,foldl_cons->aay,take_eq_take_min->aaH,mem_iff_getElem?->aaI,length_replicate->aaJ,filterMap_append->aaK,length_dropLast->aa4,filter_eq_self->abg,map_take->abr,pairwise_cons->abG,map_inj_right->abH,getElem?_tail->abI,filterMap_map->abJ,reverse_cons->acb,any_eq_false->acc,perm_middle->acy,mem_toArray->acz,getElem_map->acA,getElem_inj->acB,zip_append->acR,all_append->acS,foldl->adh,forIn_nil->ads,sum_cons->adH,range'->ad4
open List.Perm renaming append_left->R8,cons_inv->aek,trans->aem,swap->aen,cons->aeo
open List.cons renaming injEq->u3
open Nat renaming le_refl->bn,zero_le->d9,ne_of_lt->i4,lt_of_lt_of_le->i6,le_trans->j5,le_of_lt->t8,lt_of_le_of_lt->w1,lt_irrefl->x8,lt_succ_self->y9,not_lt_zero->F1,sub_self->Gc,lt_succ_of_lt->G0,le_add_right->I0,lt_or_ge->KM,min_eq_left->L3,zero_add->N0,ne_of_gt->N1,sub_zero->Q0,le_of_not_le->SC,div_le_self->T1,lt_trans->U3,mod_lt->V6,le_succ->XV,add_assoc->X5,min_eq_right->Y9,le_of_not_lt->ZB,add_comm->aae,not_succ_le_self->aa3,succ_le_succ->acx,le_of_eq->adT,not_lt->aeh
open Ne renaming symm->k8
open Option renaming map_some->A7,isSome_iff_exists->B4,toList->G5,map_eq_some_iff->K4,isSome_some->Ps,isSome_map->X2,isSome_none->abF,getD_some->acv,getD_none->acw,isNone->adG,none->ad3
open Or renaming inr->Op,inl->X4
open Prod renaming fst->V2,snd->abR,ext->adZ
open PyProof.Rows renaming slot_tuple_getitem->u6,callWith_type1->wE,sortedS->A8,StrsAre->E9,envOfC->V0,sortedHeap->V4,AllBare->W9,subscriptTail_builtinR->aak,list_sort_treeK->aar,entry_list_sort->aas,arrOf->aaL,sorted_out_str->aaR,sortedHeap_old->aaS,slot_list_sort->aaT,args_list_sort->aaY,entry_tuple_getitem->abc,subscriptTail->abm,strKind_oneLt->abn,sortedHeap_at->abo,args_tuple_getitem->aby,IsTup->abN,plain_sorted->abU,keyKind_strs->abV,entry_sorted->abW,args_sorted1->abY,callWith_builtin1->acI,kind_sorted->acL,IntsAre->acY,size_push'->ac9,boot_range->adc,Subscript_->ade,slicePart_none->adm,tupleItemsOf_->adw,sortedS->ad8
open PyProof.Rows.F renaming plain_set_update_loop->C7,entry_set_update_loop->O0
open PySem renaming wpAny_bind->am,Value->b7,wpAny_pure->ce,Shared->d8,wpAny->g5,model->i7,starEach->jL,FuncData->j4,wpAny_holding->j8,Program->om,mem_of_lookup->pi,strKind->q0,bootBuiltins->rc,rawInt->sn,mainGlobals->ul,codeAny_builtin->uy,wpAny_call_entry->u4,compareOp->u5,Expr->u7,World->u8,wpAny_truthy_bool->u9,wpAny_setField_rec->wr,eval->wP,wpAny_Call_Name_kw->wT,wpAny_newObj_type->xL,plainId_quiet->x6,Around->AT,wpAny_mono->A0,sysModules->A2,foldedSetIterable->B9,wpAny_callSpecial?_slot->C1,wpAny_typeOf->C8,wpAny_richCompare_same_room->Do,attributeBase->D0,backTo->D6,boot_len->EQ,codeAny->E8,builtinLookup_eq_fast->Fa,wpAny_passesOwn->FS,wpAny_setState_of->GM,binaryOp->Is,wpAny_getItem_str_slice->J1,wpAny_field->J6,call_meets->J8,codeAny_mono->KB,tupleKind_room_in1->K1,wpAny_ite_split->K8,wpAny_pyIter_list->M3,sizeLine_eq->M7,cellsFrom->No,pyNext->On,behindInMarks->O1,typeLookup_type->O6,getattributeRaised->O7,sliceBounds->P0,valueAt->P6,holding->P7,SetTable->P8,wpAny_dictEntries->Q3,wpAny_notOrdered_dict->R5,wpAny_rule->R9,typeLookup->Sc,wpAny_isInstance->SB,Keyword->S0,keywordEach->S9,merged->Tk,wpAny_execs_nil->Tl,post_val_or_str->TD,letOwnedTupleGo->TW,getItem->UV,setAddHashed->U0,swapsWith->U7,pushCells->U8,wpAny_seqItems->V7,wpAny_dictSetHashed_pairs->W6,wpAny_comprehension_free->X6,setField->Y3,relayAll->Y4,tupleKind->Y5,wpAny_forIn_list->Y6,wpAny_askSetting->Y7,noFill_tuple_add->Y8,wpAny_Call_method0_late->Z3,IsPart->Z7,relabel->Z8,callerA->Z9,wpAny_call->aaa,builtinsNs->aab,call_meetsIn->aad,wpAny_pyNext_range_end->aah,wpAny_pyIter_rangeiter->aai,wpAny_nextOf_list_item->aaj,wpAny_updateSeq->aaq,wpAny_isTrue_Compare1->aaB,PyData->aaM,entryFor->aaN,backToKw->aaO,subscripted->aaP,IsRangeIter->aaQ,setAddHashedIn->aaU,newFunctionEnv->aaV,isSubtype_type->aaW,entryFor_alias->aaX,lookup_relabel_local->aa0,codeAny_call_builtin->aa1,setNext->aa8,seqItems?->aa9,pickOrder->aba,wpAny_setEntries_of->abb,evalArgs_none->abe,wpAny_standAt->abj,wpAny_newList->abk,wpAny_attempt->abl,seq_tuple_add->abp,Result->abt,wpAny_load->abu,wpAny_pyIter_range->abv,sub_AttributeError->abw,findBy_of_findIdx?->abx,BindsTo->abO,raiseNew->abP,ZipApart->abQ,setNextDrawn->abS,seqIndex_neg->abT,concat_meets->abX,Within->abZ,wpAny_storeSet_of->ab1,wpAny_sequenceKey->ab2,wpAny_pyIter_slot->ab3,wpAny_assign_Name->ab4,wpAny_Call_method->ab5,slot_list_getitem->ab6,fits_of_scanBound->ab7,pyIter->aci,assign->acj,wpAny_setScan_of->ack,wpAny_execs_cons->acl,merged_take_succ->acm,merged_length_le->acn,kt_code_dict_new->aco,entryFor_of_tree->acp,atKey->acJ,seqIndex_of->acK,wpAny_specialOf->acN,wpAny_dictEpoch->acO,codeAny_of_tree->acP,bindL->ac0,bindC->ac1,isTrue->ac2,argsOk->ac3,IsPair->ac4,getAttr?->ac5,wpAny_Name->ac6,typeIs_str->ac7,typeIs_int->ac8,closureFor->ada,checkCount->adb,call->adf,PlainAttrs->adg,wpAny_tryCatch->adi,wpAny_runValue->adj,wpAny_newTuple->adk,wpAny_Compare1->adl,isSubtype_stop->adn,fitsIndex_both->ado,firstArgMember->adp,callType_codes->adq,signature?_of->adx,rangeSize_one->ady,intBits_le_64->adz,evalPart_none->adA,call_list_seq->adB,KeyKind->adF,seqIndex?->adJ,getMethod->adK,drawOrder->adL,PassesOwn->adM,stored->adN,newExc->adO,Params->adP,standAt->adQ,dictSet->adR,Builtin->adS,table->adX,bindArgs->adY
open PySem.Around renaming under_plainId->p9,under->aag,frames_deeper->aa7
open PySem.Builtin.Dict renaming updateFrom->J5,dictSlotArgs->W8,selfAndRest->Y1,addKeywords->Y2,pairItems->aap,samePairs->adV,showsAll->adW
open PySem.Builtin.List renaming listTooLong->G8,listLengthHint->U4,listExtendWith->U5,listFitsIndex->W5,listSameRef->Y0
open PySem.Builtin.Range renaming rangeSize->P5,small->abi,rangeFitsLong->acZ
open PySem.Builtin.Slice renaming slicePlaces->FB,sliceAdjust->N9,sliceApplied->W4,slicePartIndex->acX,sliceFields->adv
open PySem.Builtin.SmallTypes renaming ownedTupleIsFree->y0,nextOf->N8
open PySem.Builtin.Tuple renaming tupleExact->G7,tupleCompareSizes->R4,tupleItemsOf->W2,tupleIsExact->W3
open PySem.Calls renaming callWith_builtin->Db,spliced_cons->K2,evalArgs_plain->M9,call_function_entry->N7,spliced_nil->Re,Name_function_global->W1
open PySem.F renaming called_set->y8,plainAttrs_list->AC,args_tuple_add_2->O3,slot_list_getattribute->O5,plainAttrs_dict->P1,entry_tuple_add->P2,slot_zip_getattribute->P3,slot_tuple_add->R0,slot_dict_get->R6,slot_zip_next->T4,slot_list_remove->X7,slot_list_insert->X8,slot_dict_values->X9,plain_list_iadd->Z4,args_dict_get_3->Z5,entry_dict_get->aan,type_list_pop->aaC,slot_set_iter->aaD,slot_list_pop->aaE,slot_dict_pop->aaF,plain_set_new->aaG,slot_dict_eq->aa2,kt_typeCall_dict_1->aa5,args_dict_init_2->abL,entry_dict_init->acd,args_zip_next_1->ace,kt_called_dict->acE,entry_zip_next->acF,entry_list_pop->acG,slot_tuple_ne->acT,slot_tuple_eq->acU,slot_list_pop->acV,slot_int_rmul->acW,slot_list_eq->adt
open PySem.Heap renaming get?_push_of_some->be,lt_size->g7,get?_push_size->g8,SameBut->C9,size_push->E4,get?_update_other->K7,get?_update_self->M0,NewExcOf->adI
open PySem.NameKind renaming free->B3,cell->O2
open PySem.Obj renaming mapSeq->G4,putSet->aac
open PySem.Paired renaming length->L8,snoc->ad2
open PySem.PassesOwn renaming never->L0
open PySem.SeqAt renaming EqAt->J9,notIn_listAt->abz
open PySem.SeqAt.EqAt renaming same->K9,str_str->abA,str_int->abB,of_refs->abC,int_str->abD,int_int->abE,none_bool->ad5,bool_none->ad6,bool_bool->ad7,str_none->ad9,str_bool->aea,none_str->aeb,none_int->aec,int_none->aed,int_bool->aee,bool_str->aef,bool_int->aeg
open PySem.SetTable renaming grown->IR,below->V8
open PySem.SetTable.below renaming go->Q4
open PySem.Spec renaming ltCps->M6
open PySem.Str renaming ofString->U1,length_append->ab8,empty->ael
open PySem.Txt renaming slice->FM,slice_le->NE
open PySem.Value renaming ref->jM,none->Ev,bool->G3,str->Ix,int->IN,isStrOf->L7,type->V5,isStrOf_shape->abd,float->acM,builtin->adC,isInt->ad0,bytes->ad1
open PySem.W renaming keepIn->n8,findIn->q7,kia_one->u0,emptyDict->x4,codeIn->x9,fnOf->y6,kla_obj->A6,nsIn->B1,kia_tup->C3,instObj->C4,codeHdIn->D4,tabObj->E1,plainGet->N4,kitx_tuple->O8,callWith_K->O9,envX->P9,kitx_list->Q5,kitx_dict->Q6,hasDictIn->Q7,mg_of->S2,plainGet_of->T6,isFn->U2,lookIn->V9,kitAny->Wp,mg_none_of->WP,plainOver->X0,methodObj->X1,mem_of_lookupK->aal,cellsFrom_some->aam,takerIn->aat,makesIn->aau,alongIn->aav,kitOne->aaZ,codeHd_of_K->abf,ownIn->abq,kitx_none->ab9,kitx_bool->aca,kitx_str->acq,kitx_int->acr,kdl_dict->acs,kdl_call->act,handedIn->acu,OpenLaw->acQ,kla_fn->adr,WalkX->adD,Looks->adE
open Sum renaming inr->d0,inl->v8
open Sum.inr renaming inj->A5
open True renaming intro->wS
theorem ACu{α:Type _}{l:List α}{i:Nat}(h:i<l.length):l[i]?=ι l[i]:=List.getElem?_eq_getElem h
theorem ACv{α:Type _}{l:List α}{i:Nat}{a:α}(h:l[i]?=ι a):∃h:i<l.length,l[i]=a:=List.getElem?_eq_some_iff.mp h
theorem ACw{α:Type _}{a b:α}(h:ι a=ι b):a=b:=Option.some.inj h
theorem ACx{α:Type _}{l:List α}{i:Nat}{a:α}(h:l[i]?=ι a):a∈l:=List.mem_of_getElem? h
abbrev ACy:=PySem.W.Frag
namespace L2
open PySem PySem.Spec PyProof.Rows
abbrev Key:=Sum Int Str
abbrev lqa:List Str:=["_law_asks_here","_law_doc_here"]
abbrev lqb:List Str:=["_law_doc_here"]
abbrev lqc:List Str:=["_law_asks_here"]
abbrev lqd:List Str:=["_law_asks_here","_law_doc_here","_law_path","_law_known_here"]
abbrev lqe:List Str:=["_law_asks_here","_law_path","_law_names_here"]
abbrev lqf:List Str:=["_law_cells","_law_deep","_law_names_here"]
abbrev lqg:List Str:=["_law_cell_here","_law_k"]
abbrev lqh:List Str:=["_law_cell_here","_law_k","_law_names_here"]
abbrev lqi:List Str:=["_law_thing","_law_least_here","_law_most"]
abbrev lqj:List Str:=["_law_thing"]
abbrev lqk:List Str:=["root","inner"]
abbrev lql:List Str:=["doc"]
abbrev lqm:List Str:=["_law_asks_here","_law_cell_here","_law_names_here"]
abbrev lqn:List Str:=["_law_asks_here","_law_avoid","_law_names_here"]
abbrev lqo:List Str:=["_law_asks_here","_law_doc_here","_law_avoid"]
abbrev lqp:List Str:=["_law_asks_here","_law_found","_law_one","_law_name"]
abbrev lqq:List Str:=["asks"]
abbrev lqr:List Str:=["asks","leaves"]
abbrev lqs:List Str:=["doc","path"]
abbrev lqt:List Str:=["asks","told","leaves"]
abbrev lqu:List Str:=["_law_script","_law_k"]
abbrev lqv:List Str:=["row","table"]
abbrev lqw:List Str:=["node"]
abbrev lqx:List Str:=["holder","told"]
abbrev lqy:List Str:=["self","docs"]
abbrev lqz:List Str:=["asks","avoid","names"]
abbrev lqA:List Str:=["_law_cell_here"]
abbrev lqB:List Str:=["root","inner","join"]
abbrev lqC:List Str:=["holder","step"]
abbrev lqD:List Str:=["asks","wanted"]
abbrev lqE:List Str:=["doc","path","value"]
abbrev lqF:List Str:=["_law_script"]
noncomputable def Ko:Key->b7->Bool
 | .inl k,v=>ad0 k v
 | .inr x,v=>L7 x v
noncomputable def ou(w:u8):Key->Int
 | .inl k=>hashInt k
 | .inr x=>hashStr w x
theorem Bf:∀{k:Key}{v:b7},Ko k v=true->(∃i t,k=v8 i/\v=IN i t)∨(∃x t,k=d0 x/\v=Ix x t)
 | .inl i,v,h=>by
  obtain⟨t,e⟩:=Value.isInt_shape (k:=i) (v:=v) h;exact .inl ⟨i,t,rfl,e⟩
 | .inr x,v,h=>by
  obtain⟨t,e⟩:=abd (x:=x) (v:=v) h;exact .inr ⟨x,t,rfl,e⟩
theorem VM(i:Int)(t:Tok):Ko (.inl i) (.int i t)=true:=by simp[Ko,ad0]
theorem VN(x:Str)(t:Tok):Ko (.inr x) (.str x t)=true:=by simp[Ko,L7]
theorem eW(a b:Int):decide ((v8 a:Key)=v8 b)=(a==b):=by
 by_cases e:a=b
 ·subst e;simp
 ·have h:¬(v8 a:Key)=v8 b:=λq=>e<|Sum.inl.inj q;rw[decide_eq_false h];exact(beq_eq_false_iff_ne.mpr e).symm
theorem eX(a b:Str):decide ((d0 a:Key)=d0 b)=decide (a=b):=by
 by_cases e:a=b
 ·subst e;simp
 ·have h:¬(d0 a:Key)=d0 b:=λq=>e<|A5 q;rw[decide_eq_false h,decide_eq_false e]
theorem eY(a:Int)(b:Str):decide ((v8 a:Key)=d0 b)=false:=decide_eq_false λq=>nomatch q
theorem eZ(a:Str)(b:Int):decide ((d0 a:Key)=v8 b)=false:=decide_eq_false λq=>nomatch q
def Ah(prog:om)(w:u8):adF prog w Key where
 is:=Ko
 hash:=ou w
 inj:=λv a b ha hb=>by
  rcases Bf ha with⟨i,t,rfl,rfl⟩|⟨x,t,rfl,rfl⟩
  ·rcases Bf hb with⟨j,u,rfl,e⟩|⟨y,u,rfl,e⟩
   ·injection e with e1 _;rw[e1]
   ·exact nomatch e
  ·rcases Bf hb with⟨j,u,rfl,e⟩|⟨y,u,rfl,e⟩
   ·exact nomatch e
   ·injection e with e1 _;rw[e1]
 byValue:=λk v h=>by
  rcases Bf h with⟨i,t,rfl,rfl⟩|⟨x,t,rfl,rfl⟩<;>rfl
 pyHash:=λhv h=>by
  rcases Bf hv with⟨i,t,rfl,rfl⟩|⟨x,t,rfl,rfl⟩
  ·exact wpAny_pyHash_int h
  ·exact wpAny_pyHash_str h
 eqBool:=λhu hv h=>by
  rcases Bf hu with⟨i,t,rfl,rfl⟩|⟨x,t,rfl,rfl⟩
  ·rcases Bf hv with⟨j,u,rfl,rfl⟩|⟨y,u,rfl,rfl⟩
   ·rw[eW]at h;exact wpAny_eqBool_int h
   ·rw[eY]at h;exact abD i t y u _ _ _ _ h
  ·rcases Bf hv with⟨j,u,rfl,rfl⟩|⟨y,u,rfl,rfl⟩
   ·rw[eZ]at h;exact abB x t j u _ _ _ _ h
   ·rw[eX]at h;exact wpAny_eqBool_str h
 «strs»:=λk x t v h=>by
  rcases Bf h with⟨i,u,rfl,e⟩|⟨y,u,rfl,e⟩
  ·exact nomatch e
  ·injection e with e1 _;subst e1;cases v<;>rfl
theorem PZ(prog:om)(w:u8)(i:Int)(t:Tok):(Ah prog w).is (.inl i) (.int i t)=true:=VM i t
theorem Pa(prog:om)(w:u8)(x:Str)(t:Tok):(Ah prog w).is (.inr x) (.str x t)=true:=VN x t
inductive V where
 |BB|bl (b:Bool)|int (i:Int)|str (x:Str)|To (b:Array UInt8)|eo (b:UInt64)|ref (a:Addr)|ty (n:String)
 deriving DecidableEq
def RelV:V->b7->Prop
 | .BB,u=>u=Ev
 | .bl b,u=>u=G3 b
 | .int i,u=>∃t,u=IN i t
 | .str x,u=>∃t,u=Ix x t
 | .To b,u=>∃t,u=ad1 b t
 | .eo b,u=>∃t,u=acM b t
 | .ref a,u=>u=jM a
 | .ty n,u=>u=V5 n
abbrev Vals:List V->List b7->Prop:=Paired RelV
theorem Vals.length{xs:List V}{us:List b7}(r:Vals xs us):xs.length=us.length:=L8 r
variable{us:List b7}{xs:List V}
theorem Vals.inv{x:V}(r:Vals (x::xs) us):∃u c,us=u::c/\RelV x u/\Vals xs c:=by
 cases r with
 |cons a b=>exact⟨_,_,rfl,a,b⟩
theorem Vals.get{i:Nat}{x:V}(r:Vals xs us)(e:xs[i]?=ι x):∃u,us[i]?=ι u/\RelV x u:=by
 induction r generalizing i with
 |nil=>rw[X3]at e;exact nomatch e
 |cons a b c=>
  cases i with
  |zero=>exact⟨_,rfl,ACw e▸a⟩
  |succ j=>exact c (i:=j) e
theorem Vals.set{x:V}{u:b7}(r:RelV x u):∀{xs:List V}{us:List b7}(i:Nat),Vals xs us->Vals (xs.set i x) (us.set i u)
 |_,_,_,.nil=>.nil
 |_,_,0,.cons _ t=>.cons r t
 |_,_,i+1,.cons q t=>.cons q (Vals.set r i t)
theorem Vals.append{ys:List V}{ws:List b7}(r:Vals xs us)(s:Vals ys ws):Vals (xs++ys) (us++ws):=by
 induction r with
 |nil=>exact s
 |cons a _ b=>exact .cons a b
theorem Vals.take:∀{xs:List V}{us:List b7}(n:Nat),Vals xs us->Vals (xs.take n) (us.take n)
 |_,_,0,_=>.nil
 |_,_,_+1,.nil=>.nil
 |_,_,n+1,.cons r t=>.cons r (Vals.take n t)
theorem Vals.drop:∀{xs:List V}{us:List b7}(n:Nat),Vals xs us->Vals (xs.drop n) (us.drop n)
 |_,_,0,r=>r
 |_,_,_+1,.nil=>.nil
 |_,_,n+1,.cons _ t=>Vals.drop n t
def FH:Option V->Option b7->Prop
 |some v,ι u=>RelV v u
 |none,ν=>True
 |_,_=>False
def KV{a:Type}:List (a×V)->List (a×b7)->Prop:=Paired λ(p:a×V)(q:a×b7)=>p.1=q.1/\RelV p.2 q.2
noncomputable def kV:Key->V
 | .inl i=>.int i
 | .inr x=>.str x
inductive HO where
 |lst (xs:List V)
 |tup (xs:List V)
 |dK (kvs:List (Key×V))|dT (kvs:List (List Key×V))
 |set (S:Int->Bool) (n:Nat)
 |ins (C a:Addr) (fs:List (Str×V))
 |own (x:Addr)
 |xd (fs:List (Str×V))
 |met (f x:Addr)
 |eu (lo b:Int)
 |BK (o:Obj) (u:HO)
 |Ju (ps:Array b7)
 |ext (c:Heap->Prop)
abbrev Hp:=Addr->Option HO
def upd(H:Hp)(a:Addr)(o:HO):Hp:=λb=>if b=a then ι o else H b
def Rp(H:Hp)(o:HO)(Q:V->Hp->Prop):Prop:=∀p,H p=ν->Q (.ref p) (upd H p o)
variable{H:Hp}{a:Addr}{o:HO}
theorem AA:upd H a o a=ι o:=by unfold upd;rw[if_pos rfl]
variable{b:Addr}
theorem AH(h:b≠a):upd H a o b=H b:=by unfold upd;rw[if_neg h]
theorem aS{u:HO}:upd (upd H a o) a u=upd H a u:=by
 funext b;unfold upd;split<;>rfl
theorem je{u:HO}(h:H a=ι o)(h':H b=ι u)(d:o≠u):a≠b:=by
 intro e;subst e;rw[h]at h';exact d<|ACw h'
theorem AW(h:H a=ι o)(h':H b=ν):a≠b:=by
 intro e;subst e;rw[h]at h';cases h'
section
variable(P:om) (w:u8)
def Ay(H:Hp)(h:Heap)(a:Addr):HO->Prop
 | .lst xs=>xs.length<=sizeLine/\∃(its:List b7)(n:Nat),Vals xs its/\h.get? a=ι {cls:=.type "list",data:=.seq its.toArray n}
 | .tup xs=>xs.length<=sizeLine/\∃its:List b7,Vals xs its/\abN h a its.toArray
 | .dK kvs=>kvs.length<=sizeLine/\(a==A2)=false/\∃e,KV kvs e/\h.DictOf (Ah P w) a e
 | .dT kvs=>kvs.length<=sizeLine/\(a==A2)=false/\∃xs:List (List Key×Addr×b7),
   Paired (λ(p:List Key×V)(q:List Key×Addr×b7)=>p.1=q.1/\H q.2.1=ι (.tup (p.1.map kV))/\RelV p.2 q.2.2) kvs xs/\
   ∃o g k,h.get? a=ι o/\o.ExactDict/\o.data=.dict g k/\g.toList=xs.map (entryOfKey (Y5 (Ah P w)))/\(xs.map (·.1)).Nodup
 | .set S n=>h.SetOf (intKind P w) a S n
 | .ins C c fs=>H c=ι (.own a)/\fs.length<=1000/\c≠a/\h.get? a=ι (C4 C c)/\
   ∃b,h.Ns1 c b/\(∀f,FH (fs.lookup f) (b f))/\abZ b (fs.map (·.1))
 | .own _=>∃o,h.get? a=ι o
 | .xd fs=>∃b,h.Ns1 a b/\∀f,FH (fs.lookup f) (b f)
 | .eu lo l=>∃t u v,h.get? a=ι {cls:=.type "range",data:=.fields #[.int lo t,.int l u,.int 1 v]}
 | .BK o u=>h.get? a=ι o/\Ay H h a u
 | .Ju m=>h.get? a=ι {cls:=.none,data:=.fields m}
 | .met f x=>h.get? a=ι (X1 (.ref f) (.ref x))
 | .ext d=>d h/\(∃o,h.get? a=ι o)/\∀i j:Heap,d i->(∀o,i.get? a=ι o->j.get? a=ι o)->d j
def Ee(H:Hp)(h:Heap):Prop:=∀a o,H a=ι o->Ay P w H h a o
end
variable{P:om}{w:u8}{h h':Heap}{H':Hp}
section
theorem Ay.lt(x:Ay P w H h a o):a<h.objs.size:=by
 cases o with
 |lst b=>obtain⟨_,_,_,_,e⟩:=x;exact g7 e
 |tup b=>obtain⟨_,_,_,p⟩:=x;exact p.lt
 |dK kvs=>obtain⟨_,_,_,_,o,_,_,e,_⟩:=x;exact g7 e
 |dT kvs=>obtain⟨_,_,_,_,o,_,_,e,_⟩:=x;exact g7 e
 |set S n=>obtain⟨o,_,_,_,e,_⟩:=x;exact g7 e
 |ins C c fs=>obtain⟨_,_,_,e,_⟩:=x;exact g7 e
 |own y=>obtain⟨_,e⟩:=x;exact g7 e
 |xd fs=>obtain⟨_,⟨_,_,_,e,_⟩,_⟩:=x;exact g7 e
 |eu lo d=>obtain⟨_,_,_,e⟩:=x;exact g7 e
 |BK g u=>obtain⟨e,_⟩:=x;exact g7 e
 |Ju i=>exact g7 (show h.get? a=ι _ from x)
 |met f y=>exact g7 (show h.get? a=ι _ from x)
 |ext j=>obtain⟨_,⟨_,e⟩,_⟩:=x;exact g7 e
theorem Paired.jf{d e:Type}{F G:d->e->Prop}{c:List d}{l₂:List e}(r:Paired F c l₂)(f:∀a b,F a b->G a b):Paired G c l₂:=by
 induction r with
 |nil=>exact .nil
 |cons a _ g=>exact .cons (f _ _ a) g
theorem Ay.MN(x:Ay P w H h a o)(k:∀b u,(b=a∨H b=ι (.own a))->h.get? b=ι u->h'.get? b=ι u)(B:∀b,H b=ι (.own a)->H' b=ι (.own a))(D:∀b xs,H b=ι (.tup xs)->H' b=ι (.tup xs)):Ay P w H' h' a o:=by
 induction o with
 |lst xs=>obtain⟨z,l,n,r,e⟩:=x;exact⟨z,l,n,r,k _ _ (.inl rfl) e⟩
 |tup xs=>obtain⟨z,l,r,g,e,c⟩:=x;exact⟨z,l,r,g,k _ _ (.inl rfl) e,c⟩
 |dK kvs=>obtain⟨z,y,E,r,g,i,j,e,c⟩:=x;exact⟨z,y,E,r,g,i,j,k _ _ (.inl rfl) e,c⟩
 |dT kvs=>
  obtain⟨z,y,xs,r,g,i,j,e,c⟩:=x;exact⟨z,y,xs,Paired.jf r λp q z=>⟨z.1,D _ _ z.2.1,z.2.2⟩,g,i,j,k _ _ (.inl rfl) e,c⟩
 |set S n=>obtain⟨g,i,j,t,e,c⟩:=x;exact⟨g,i,j,t,k _ _ (.inl rfl) e,c⟩
 |ins C I fs=>
  obtain⟨d,z,ne,e,m,⟨s,i,j,F,c⟩,r⟩:=x;exact⟨B _ d,z,ne,k _ _ (.inl rfl) e,m,⟨s,i,j,k _ _ (.inr d) F,c⟩,r⟩
 |own y=>obtain⟨g,e⟩:=x;exact⟨g,k _ _ (.inl rfl) e⟩
 |xd fs=>obtain⟨m,⟨s,i,j,e,c⟩,r⟩:=x;exact⟨m,⟨s,i,j,k _ _ (.inl rfl) e,c⟩,r⟩
 |eu lo J=>obtain⟨t,u,v,e⟩:=x;exact⟨t,u,v,k _ _ (.inl rfl) e⟩
 |BK g u G=>obtain⟨e,q⟩:=x;exact⟨k _ _ (.inl rfl) e,G q⟩
 |Ju A=>
  have e:h.get? a=ι {cls:=.none,data:=.fields A}:=x;show h'.get? a=ι {cls:=.none,data:=.fields A};exact k a _ (.inl rfl) e
 |met f y=>
  have e:h.get? a=ι (X1 (.ref f)<|.ref y):=x;show h'.get? a=ι (X1 (.ref f)<|.ref y);exact k a _ (.inl rfl) e
 |ext K=>obtain⟨p,⟨o,e⟩,st⟩:=x;exact⟨st _ _ p λo q=>k _ _ (.inl rfl) q,⟨o,k _ _ (.inl rfl) e⟩,st⟩
theorem Ee.lt(x:Ee P w H h)(e:H a=ι o):a<h.objs.size:=(x a o e).lt
theorem Ee.fresh(x:Ee P w H h)(e:h.objs.size<=a):H a=none:=by
 cases q:H a with
 |none=>rfl
 |some u=>exact absurd (i6 (x.lt q) e) (x8 _)
theorem Ee.kept(x:Ee P w H h)(k:∀b u,h.get? b=ι u->h'.get? b=ι u):Ee P w H h':=λa o e=>
 (x a o e).MN (λb u _ q=>k b u q) (λ_ q=>q) λ_ _ q=>q
theorem Ee.laid(x:Ee P w H h)(k:∀b u,h.get? b=ι u->h'.get? b=ι u)(g:h.objs.size<=a)(new:Ay P w (upd H a o) h' a o):Ee P w (upd H a o) h':=λb u e=>by
 have d:=x.fresh g;by_cases f:b=a
 ·subst f;rw[AA]at e;cases e;exact new
 ·rw[AH f]at e;exact(x b u e).MN (λc v _ q=>k c v q) (λc q=>by rw[AH<|AW q d];exact q) λc i q=>by rw[AH<|AW q d];exact q
end
def Rd(H:Hp)(a:Addr)(u:HO):Prop:=H a=ι u∨∃o,H a=ι (.BK o u)
theorem Rd.ok{u:HO}(r:Rd H a u)(x:Ee P w H h):Ay P w H h a u:=by
 rcases r with r|⟨o,r⟩
 ·exact x a u r
 ·obtain⟨_,q⟩:=x a _ r;exact q
def jg:Option HO->Prop
 |some (.lst _)=>True
 |some (.dK _)=>True
 |some (.dT _)=>True
 |some (.set _ _)=>True
 |some (.ins _ _ _)=>True
 |some (.ext _)=>True
 |_=>False
section
variable {x e:Addr} {o':HO}
theorem Ee.write(ok:Ee P w H h)(g:jg (H x))(n:e=x∨H e=ι (.own x))(k:∀b u,b≠e->h.get? b=ι u->h'.get? b=ι u)(m:∃u,h'.get? e=ι u)(new:Ay P w (upd H x o') h' x o'):Ee P w (upd H x o') h':=λb u q=>by
 have d:∀c y,H c=ι (.own y)->c≠x:=λc y r z=>by subst z;rw[r]at g;exact g
 have f:∀c i,H c=ι (.tup i)->c≠x:=λc i r z=>by subst z;rw[r]at g;exact g
 by_cases j:b=x
 ·subst j;rw[AA]at q;cases q;exact new
 ·rw[AH j]at q;by_cases a:b=e
  ·have o:H b=ι (.own x):=by
    rcases n with z|z
    ·exact absurd (a.trans z) j
    ·rw[a];exact z
   rw[q]at o;cases o;obtain⟨v,p⟩:=m;exact⟨v,by rw[a];exact p⟩
  ·refine(ok b u q).MN (λc v l r=>k c v ?_ r) (λc r=>by rw[AH<|d c b r];exact r) λc i r=>by rw[AH<|f c i r];exact r
   rcases l with rfl|l
   ·exact a
   ·rintro rfl;rcases n with z|z
    ·exact d c b l z
    ·rw[l]at z;cases z;exact j rfl
end
structure Un(fs ex:List Addr)(H H':Hp)(h h':Heap):Prop where
 keep:∀b o,h.get? b=ι o->H b=ν->b∉fs->b∉ex->h'.get? b=ι o
 slot:∀b o,h.get? b=ι o->H b=ν->b∈fs->b∉ex->∃sl,h'.get? b=ι {o with slots:=sl}
 free:∀b o,h.get? b=ι o->H b=ν->b∉ex->H' b=ν
 there:∀b o,h.get? b=ι o->b∉ex->∃o',h'.get? b=ι o'
 HS:∀b xs,H b=ι (.tup xs)->H' b=ι (.tup xs)
 Ef:∀b o u,H b=ι (.BK o u)->H' b=ι (.BK o u)
 HU:∀b ps,H b=ι (.Ju ps)->∃more,H' b=ι (.Ju (ps++more))
section
variable{fs ow ex ex':List Addr} {H1 H2:Hp} {h1 h2:Heap} {x e:Addr} 
theorem Un.any(u:Un fs ex H H1 h h1){c:Obj}(q:h.get? b=ι c)(n:H b=ν)(d:b∉ex):∃sl,h1.get? b=ι {c with slots:=sl}:=by
 by_cases f:b∈fs
 ·exact u.slot b c q n f d
 ·exact⟨c.slots,u.keep b c q n f d⟩
theorem Un.kept(k:∀b u,h.get? b=ι u->h'.get? b=ι u):Un fs ex H H h h':=
 ⟨λb c q _ _ _=>k b c q,λb c q _ _ _=>⟨c.slots,k b c q⟩,λ_ _ _ n _=>n,λb c q _=>⟨c,k b c q⟩,λ_ _ q=>q,λ_ _ _ q=>q,λ_ d q=>⟨#[],by rw[q];simp⟩⟩
theorem Un.refl:Un fs ex H H h h:=Un.kept λ_ _ q=>q
theorem Un.laid(k:∀b u,h.get? b=ι u->h'.get? b=ι u)(hp:h.objs.size<=a)(hn:H a=ν):Un fs ex H (upd H a o) h h' where
 keep:=λb u q _ _ _=>k b u q
 slot:=λb u q _ _ _=>⟨u.slots,k b u q⟩
 free:=λb u q n _=>by rw[AH (i4 (i6 (g7 q) hp))];exact n
 there:=λb u q _=>⟨u,k b u q⟩
 HS:=λb xs q=>by rw[AH (AW q hn)];exact q
 Ef:=λb u xs q=>by rw[AH (AW q hn)];exact q
 HU:=λb ps q=>⟨#[],by rw[AH (AW q hn),q];simp⟩
theorem Un.write(d:jg (H x))(l:e=x∨H e=ι (.own x))(k:∀b u,b≠e->h.get? b=ι u->h'.get? b=ι u)(f:∃u,h'.get? e=ι u):Un fs ex H (upd H x o) h h':=by
 have i:∀b,H b=ν->b≠x:=λb n z=>by subst z;rw[n]at d;exact d
 have j:∀b,H b=ν->b≠e:=λb n z=>by
  subst z;rcases l with r|r
  ·exact i b n r
  ·rw[n]at r;cases r
 have g:∀b u,H b=ι u->¬jg (ι u)->b≠x:=λb u q m z=>by subst z;rw[q]at d;exact m d
 refine⟨λb u q n _ _=>k b u (j b n) q,λb u q n _ _=>⟨u.slots,k b u (j b n) q⟩,λb u q n _=>by rw[AH (i b n)];exact n,λb u q _=>?_,
  λb p q=>by rw[AH (g b _ q λz=>z)];exact q,λb u p q=>by rw[AH (g b _ q λz=>z)];exact q,λb s q=>⟨#[],by rw[AH (g b _ q λz=>z),q];simp⟩⟩
 by_cases c:b=e
 ·subst c;exact f
 ·exact⟨u,k b u c q⟩
end
def nO(h:Heap)(H:Hp):List Addr:=(oo h.objs.size).filter λa=>(H a).isSome
def MO(h:Heap)(H:Hp):Heap:=PySem.W.hideAll h<|nO h H
theorem VO(h:Heap)(H:Hp):(MO h H).objs.size=h.objs.size:=PySem.W.hideAll_size _ _
theorem Wz{o:Obj}(e:h.get? b=ι o)(n:H b=ν):(MO h H).get? b=ι o:=
 PySem.W.hideAll_get _ e λa=>by
  have q:(H b).isSome=true:=(C5.mp a).2;rw[n]at q;simp at q
theorem aV{o:Obj}(e:(MO h H).get? b=ι o):h.get? b=ι o/\H b=none:=by
 have a:h.get? b=ι o:=PySem.W.of_hideAll (nO h H) e;refine⟨a,?_⟩;cases q:H b with
 |none=>rfl
 |some x=>
  have c:b∈nO h H:=C5.mpr ⟨E3.mpr<|g7 a,by simp[q]⟩;have z:(MO h H).get? b=none:=PySem.W.hideAll_none (nO h H) c;rw[z]at e;cases e
def aW(g h:Heap)(L:Addr):List (Addr×Obj):=(oo h.objs.size).filterMap λa=>if a=L∨(g.get? a).isSome=true then ν else(h.get? a).map λo=>(a,o)
def rest(g h:Heap)(L d:Addr):List (Addr×Obj):=(aW g h L).filter λp=>decide<|p.1≠d
structure Mod(K:ACy)(mg:Str->Option b7)(base:Heap):Prop where
 e_:K.In base
 glob:base.Ns ul mg
 blt:∃mb,base.Ns aab mb/\∀x:Str,x≠"__name__"->mb x=rc x
 nolimit:base.NoLimit
structure Cx where
 prog:om
 w:u8
 K:ACy
 mg:Str->Option b7
 base:Heap
 A:AT
 N:List Str
 s₀:d8
 H₀:Hp
 env:Env
 outer:List Env
 stack:List Env
 ex:List Addr
 fn:Str->Bool
 calm:Bool
 pn:List (Addr×Obj)
 xe:b7->d8->Prop
def Tp(l:List Env):List Addr:=l.filterMap (·.frame)
abbrev Cx.fs(X:Cx):List Addr:=Tp X.outer
def nP(a:Scope)(x:Str):Prop:=a.names.lookup x=ι .local∨a.names.lookup x=ι .cell∨a.names.lookup x=ι .free
def Loc(a:Scope)(x:Str):Prop:=a.names.lookup x=ι .local∨a.names.lookup x=ι .cell
def Look(env:Env)(h:Heap)(m:Str->Option b7)(x:Str)(u:b7):Prop:= (env.kindOf x=ι .local/\m x=ι u)∨((env.kindOf x=ι .cell∨env.kindOf x=ι .free)/\∃c,env.cells.lookup x=ι c/\h.IsCell c (ι u))
structure Cx.Ok(X:Cx):Prop where
 mod:Mod X.K X.mg X.base
 kind:X.env.scope.kind=.function
 glob:X.env.globals=ul
 blt:X.env.builtins=aab
 above:X.s₀.heap.objs.size<=X.env.locals
 inj:∀x y c,X.env.cells.lookup x=ι c->X.env.cells.lookup y=ι c->x=y
 has:∀x,(X.env.kindOf x=ι .cell∨X.env.kindOf x=ι .free)->∃c,X.env.cells.lookup x=ι c
 fH:∀x c,X.fn x=true->X.env.cells.lookup x=ι c->X.s₀.heap.objs.size<=c
 hd:X.calm=true->X.A.handled=ν
 frames:X.A.frames=ι X.stack
 nQ:X.stack=X.outer∨(X.stack=X.env::X.outer/\X.env.frame=ι X.env.locals)
 nR:∀b∈X.ex,b≠X.env.locals/\∀x c,X.env.cells.lookup x=ι c->c≠b
 bs:∀b o,X.base.get? b=ι o->X.s₀.heap.get? b=ι o/\X.H₀ b=ν
 Ws:X.base.objs.size<=X.s₀.heap.objs.size
 W_:∀b o,X.base.get? b=ι o->b∉X.ex
 W':∀b∈X.ex,b∉X.fs
 HV:X.s₀.heap.FunFrames X.base X.outer
 aI:∀b∈X.fs,X.H₀ b=ν
structure Inv(X:Cx)(pins:List (Addr×Obj))(σ:List (Option V))(H:Hp)(s:d8):Prop where
 ok:X.Ok
 os:s.os=X.s₀.os
 bare:W9 s.gens
 base:Un X.fs X.ex X.H₀ H X.s₀.heap s.heap
 loc:∃m,s.heap.Ns X.env.locals m/\∀(i:Nat)(x:Str)(v:V),X.N[i]?=ι x->σ[i]?=ι (ι v)->nP X.env.scope x->∃u,RelV v u/\Look X.env s.heap m x u
 cell:∀x c,X.env.cells.lookup x=ι c->∃v,s.heap.IsCell c v
 free:H X.env.locals=ν
 Dn:∀x c,X.env.cells.lookup x=ι c->H c=ν
 pin:∀p∈X.pn++pins,s.heap.get? p.1=ι p.2/\H p.1=ν/\p.1≠X.env.locals/\p.1∉X.fs/\∀v,p.2.data≠.cell v
 Ax:Ee X.prog X.w H s.heap
 len:σ.length=X.N.length
variable{pins:List (Addr×Obj)}{E:b7->d8->Prop}{s:d8}{A:AT}{X:Cx}{u:b7}{x:Str}{ch:List Addr}{v:V}{g':Array GenState}{M:Model}{t':Nat}{N:List Str}{d':Drawn}
section
variable {σ:List (Option V)} 
theorem Cx.Ok.oy(ok:X.Ok){o:Obj}(e:X.base.get? b=ι o):b∉X.fs:=λa=>by
 have:=(ok.HV.mem a).1;rw[e]at this;cases this
theorem Inv.bs(I:Inv X pins σ H s):∀b o,X.base.get? b=ι o->s.heap.get? b=ι o/\H b=none:=λb o e=>
 ⟨I.base.keep b o (I.ok.bs b o e).1 (I.ok.bs b o e).2 (I.ok.oy e) (I.ok.W_ b o e),I.base.free b o (I.ok.bs b o e).1 (I.ok.bs b o e).2 (I.ok.W_ b o e)⟩
theorem Inv.bk(I:Inv X pins σ H s):∀b o,X.base.get? b=ι o->s.heap.get? b=ι o:=λb o e=>(I.bs b o e).1
theorem Inv.mod(I:Inv X pins σ H s):Mod X.K X.mg X.base:=I.ok.mod
theorem Inv.FG(I:Inv X pins σ H s):X.K.In s.heap:=I.ok.mod.e_.keeps I.bk
theorem Inv.lt(I:Inv X pins σ H s):X.env.locals<s.heap.objs.size:=let⟨_,a,_⟩:=I.loc;a.lt
theorem Inv.sz(I:Inv X pins σ H s):X.s₀.heap.objs.size<=s.heap.objs.size:=j5 I.ok.above<|t8 I.lt
theorem Inv.oz(I:Inv X pins σ H s)(h:s.heap.objs.size<=a):a∉X.fs:=λb=>by
 obtain⟨_,o,c,_⟩:=I.ok.HV.mem b;exact absurd (i6 (g7 c)<|j5 I.sz h)<|x8 _
theorem Inv.dI(I:Inv X pins σ H s):∀x c,X.env.cells.lookup x=ι c->c≠X.env.locals:=λx c e z=>by
 obtain⟨v,o,d,f⟩:=I.cell x c e;obtain⟨m,⟨g,h,i,a,b,_⟩,_⟩:=I.loc;rw[z,a]at d;cases d;rw[b]at f;cases f
theorem Inv.HV(I:Inv X pins σ H s):s.heap.FunFrames X.base X.outer:=by
 have all:∀(l:List Env),(∀b∈Tp l,b∈X.fs)->X.s₀.heap.FunFrames X.base l->s.heap.FunFrames X.base l:=by
  intro l
  induction l with
  |nil=>intro _ _;trivial
  |cons env r g=>
   intro f h;obtain⟨i,⟨L,o,a,j,k,m⟩,n⟩:=h;have c:L∈X.fs:=f L (by unfold Tp;rw[UF,a];exact dL);obtain⟨p,e⟩:=I.base.slot L o k (I.ok.aI L c) c λz=>I.ok.W' L z c;exact⟨i,⟨L,_,a,j,e,m⟩,g (λb d=>f b<|by unfold Tp;rw[UF,a];exact b9 _ d) n⟩
 exact all X.outer (λ_ d=>d) I.ok.HV
theorem Inv.stack(I:Inv X pins σ H s):s.heap.FunFrames X.base X.stack:=by
 rcases I.ok.nQ with e|⟨e,a⟩
 ·rw[e];exact I.HV
 ·rw[e];obtain⟨m,b,_⟩:=I.loc;refine .cons (by rw[I.ok.kind];decide) a b ?_ I.HV;exact Heap.get?_none_of_le<|j5 I.ok.Ws I.ok.above
theorem Inv.Nu(I:Inv X pins σ H s):∀b∈Tp X.stack,b∈X.env.locals::X.fs:=λb a=>by
 rcases I.ok.nQ with e|⟨e,c⟩
 ·rw[e]at a;exact b9 _ a
 ·rw[e]at a;unfold Tp at a;rw[UF,c]at a;exact a
theorem Inv.Tq(I:Inv X pins σ H s):∀b∈Tp X.stack,H b=none:=λb a=>by
 rcases ca.mp (I.Nu b a)with e|a
 ·rw[e];exact I.free
 ·obtain⟨_,o,c,_⟩:=I.ok.HV.mem a;exact I.base.free b o c (I.ok.aI b a) λz=>I.ok.W' b z a
theorem Inv.step(I:Inv X pins σ H s)(f:∀b∈ch,(b∈X.ex∨X.s₀.heap.objs.size<=b)/\b≠X.env.locals/\(∀x c,X.env.cells.lookup x=ι c->c≠b)/\∀p∈X.pn++pins,p.1≠b)(keep:∀b o,b≠X.env.locals->b∉X.fs->b∉ch->s.heap.get? b=ι o->H b=ν->h'.get? b=ι o)(slot:∀b o,b≠X.env.locals->b∈X.fs->b∉ch->s.heap.get? b=ι o->H b=ν->∃sl,h'.get? b=ι {o with slots:=sl})(free:∀b o,b∉ch->s.heap.get? b=ι o->H b=ν->H' b=ν)(there:∀b o,b∉ch->s.heap.get? b=ι o->∃A,h'.get? b=ι A)(HS:∀b j,H b=ι (.tup j)->H' b=ι (.tup j))(Ef:∀b o u,H b=ι (.BK o u)->H' b=ι (.BK o u))(HU:∀b D,H b=ι (.Ju D)->∃more,H' b=ι (.Ju (D++more)))(L:∀m,s.heap.Ns X.env.locals m->h'.Ns X.env.locals m)(E:Ee X.prog X.w H' h')(M:W9 g'):
  Inv X pins σ H' {s with heap:=h',gens:=g',drawn:=d',toks:=t'}:=by
 have B:∀b o,X.s₀.heap.get? b=ι o->b≠X.env.locals:=λb o e=>i4<|i6 (g7 e) I.ok.above;have h:∀b o,X.s₀.heap.get? b=ι o->b∉X.ex->b∉ch:=λb o e a t=>by
  rcases(f b t).1 with z|z
  ·exact a z
  ·exact absurd (i6 (g7 e) z)<|x8 _
 have cellK:∀x c,X.env.cells.lookup x=ι c->∀v,s.heap.IsCell c v->h'.IsCell c v:=λx c e v ⟨o,y,F⟩=>by
  have g:c∉ch:=λz=>(f c z).2.2.1 x c e rfl;by_cases J:c∈X.fs
  ·obtain⟨sl,q⟩:=slot c o (I.dI x c e) J g y<|I.Dn x c e;exact⟨_,q,F⟩
  ·exact⟨o,keep c o (I.dI x c e) J g y<|I.Dn x c e,F⟩
 refine⟨I.ok,I.os,M,⟨λb o e n t a=>?_,λb o e n t a=>?_,λb o e n a=>?_,λb o e a=>?_,λb j e=>HS b j<|I.base.HS b j e,λb o j e=>Ef b o j<|I.base.Ef b o j e,λb D e=>?_⟩,?_,λx c e=>?_,?_,λx c e=>?_,λp K=>?_,E,I.len⟩
 ·exact keep b o (B b o e) t (h b o e a) (I.base.keep b o e n t a)<|I.base.free b o e n a
 ·obtain⟨sl,e1⟩:=I.base.slot b o e n t a;obtain⟨G,C⟩:=slot b _ (B b o e) t (h b o e a) e1<|I.base.free b o e n a;exact⟨G,C⟩
 ·obtain⟨A,e1⟩:=I.base.there b o e a;exact free b A (h b o e a) e1<|I.base.free b o e n a
 ·obtain⟨A,e1⟩:=I.base.there b o e a;exact there b A (h b o e a) e1
 ·obtain⟨N,e1⟩:=I.base.HU b D e;obtain⟨O,C⟩:=HU b _ e1;exact⟨N++O,by rw[C,Array.append_assoc]⟩
 ·obtain⟨m,P,Q⟩:=I.loc;refine⟨m,L m P,λi x v e1 C R=>?_⟩;obtain⟨u,r,l⟩:=Q i x v e1 C R;refine⟨u,r,?_⟩;rcases l with l|⟨k,c,e,z⟩
  ·exact .inl l
  ·exact .inr ⟨k,c,e,cellK x c e _ z⟩
 ·obtain⟨v,z⟩:=I.cell x c e;exact⟨v,cellK x c e v z⟩
 ·obtain⟨m,⟨o,_,_,y,_⟩,_⟩:=I.loc;exact free _ o (λz=>(f _ z).2.1 rfl) y I.free
 ·obtain⟨v,o,y,F⟩:=I.cell x c e;exact free c o (λz=>(f c z).2.2.1 x c e rfl) y<|I.Dn x c e
 ·obtain⟨e,n,ne,nf,d⟩:=I.pin p K;have g:p.1∉ch:=λz=>(f p.1 z).2.2.2 p K rfl;exact⟨keep p.1 p.2 ne nf g e n,free p.1 p.2 g e n,ne,nf,d⟩
theorem Inv.un(I:Inv X pins σ H s)(u:Un X.fs [] H H' s.heap h')(c:Ee X.prog X.w H' h'):Inv X pins σ H' {s with heap:=h',toks:=t'}:=by
 obtain⟨m,⟨o,l,p,h,r⟩,_⟩:=id I.loc;obtain⟨q,i⟩:=u.any h I.free (by simp);exact I.step (g':=s.gens) (d':=s.drawn) (ch:=[]) (λ_ z=>nomatch z) (λb o _ d _ e n=>u.keep b o e n d (by simp)) (λb o _ d _ e n=>u.slot b o e n d (by simp)) (λb o _ e n=>u.free b o e n (by simp)) (λb o _ e=>u.there b o e (by simp)) u.HS u.Ef u.HU (λt j=>by
  obtain⟨v,f,g,a,k⟩:=j;rw[h]at a;cases a;exact⟨_,f,g,i,k⟩) c I.bare
theorem Inv.call(I:Inv X pins σ H s)(u:Un (Tp X.stack) ch H H' s.heap h')(g:Ee X.prog X.w H' h')(l:W9 g')(d:∀b∈ch,(b∈X.ex∨X.s₀.heap.objs.size<=b)/\b≠X.env.locals/\(∀x c,X.env.cells.lookup x=ι c->c≠b)/\∀p∈X.pn++pins,p.1≠b):
  Inv X pins σ H' {s with heap:=h',gens:=g',drawn:=d',toks:=t'}:=by
 obtain⟨m,⟨o,y,A,k,r⟩,_⟩:=id I.loc;obtain⟨B,h⟩:=u.any k I.free λz=>(d _ z).2.1 rfl;exact I.step (ch:=ch) d (λb o h q a e n=>u.keep b o e n (λz=>(ca.mp (I.Nu b z)).elim h q) a) (λb o _ _ a e n=>u.any e n a) (λb o a e n=>u.free b o e n a) (λb o a e=>u.there b o e a) u.HS u.Ef u.HU (λC t=>by
  obtain⟨D,i,j,f,v⟩:=t;rw[k]at f;cases f;exact⟨_,i,j,h,v⟩) g l
theorem Inv.turned(I:Inv X pins σ H s)(k:∀b o,b≠a->s.heap.get? b=ι o->h'.get? b=ι o)(h:H a=ν)(g:a≠X.env.locals)(i:a∈X.ex∨X.s₀.heap.objs.size<=a)(j:∀x c,X.env.cells.lookup x=ι c->c≠a)(l:∀p∈X.pn++pins,p.1≠a):Inv X pins σ H {s with heap:=h',toks:=t'}:=by
 have f:∀b u,H b=ι u->b≠a:=λb u e z=>by rw[z,h]at e;cases e
 refine I.step (g':=s.gens) (d':=s.drawn) (ch:=[a]) (λb t=>?_) (λb o _ _ d e _=>k b o (λz=>d<|by simp[z]) e) (λb o _ _ d e _=>⟨o.slots,k b o (λz=>d<|by simp[z]) e⟩) (λ_ _ _ _ n=>n) (λb o d e=>⟨o,k b o (λz=>d<|by simp[z]) e⟩) (λ_ _ e=>e) (λ_ _ _ e=>e) (λb C e=>⟨#[],by rw[e];simp⟩) (λm w=>?_) (λb u e=>?_) I.bare
 ·have e:b=a:=by simpa using t
  subst e;exact⟨i,g,j,l⟩
 ·obtain⟨o,y,A,B,r⟩:=w;exact⟨o,y,A,k _ o (k8 g) B,r⟩
 ·refine(I.Ax b u e).MN (λc v d q=>k c v ?_ q) (λ_ q=>q) λ_ _ q=>q;rcases d with z|z
  ·rw[z];exact f b u e
  ·exact f c _ z
theorem Inv.tok(I:Inv X pins σ H s)(t:Nat):Inv X pins σ H {s with toks:=t}:=I.un (h':=s.heap) (t':=t) Un.refl I.Ax
theorem Inv.kept{t':Nat}(I:Inv X pins σ H s)(k:∀b u,s.heap.get? b=ι u->h'.get? b=ι u):Inv X pins σ H {s with heap:=h',toks:=t'}:=I.un (Un.kept k)<|I.Ax.kept k
theorem Inv.laid{a:Addr}{o:HO}{t':Nat}(I:Inv X pins σ H s)(k:∀b u,s.heap.get? b=ι u->h'.get? b=ι u)(c:s.heap.objs.size<=a)(new:Ay X.prog X.w (upd H a o) h' a o):
  Inv X pins σ (upd H a o) {s with heap:=h',toks:=t'}:=I.un (Un.laid k c (I.Ax.fresh c)) (I.Ax.laid k c new)
theorem Inv.write{x e:Addr}{o:HO}{t':Nat}(I:Inv X pins σ H s)(c:jg (H x))(d:e=x∨H e=ι (.own x))(k:∀b u,b≠e->s.heap.get? b=ι u->h'.get? b=ι u)(a:∃u,h'.get? e=ι u)(new:Ay X.prog X.w (upd H x o) h' x o):Inv X pins σ (upd H x o) {s with heap:=h',toks:=t'}:=I.un (Un.write c d k a)<|I.Ax.write c d k a new
theorem Inv.Tr{a:List (Addr×Obj)}(I:Inv X pins σ H s)(h:∀p∈a,s.heap.get? p.1=ι p.2/\H p.1=ν/\p.1≠X.env.locals/\p.1∉X.fs/\∀v,p.2.data≠.cell v):Inv X a σ H s:=
 ⟨I.ok,I.os,I.bare,I.base,I.loc,I.cell,I.free,I.Dn,λp b=>(db.mp b).elim (λz=>I.pin p (e9 _ z)) (h p),I.Ax,I.len⟩
theorem Pb(c:N.Nodup){i j:Nat}(a:N[i]?=ι x)(b:N[j]?=ι x):i=j:=by
 obtain⟨e,e1⟩:=ACv a;obtain⟨f,d⟩:=ACv b;exact(acB c).mp<|e1.trans d.symm
theorem Mp{i:Nat}{Q:Unit->d8->Prop}(I:Inv X pins σ H s)(hN:X.N.Nodup)(K:X.N[i]?=ι x)(l:Loc X.env.scope x)(r:RelV v u)(h:∀W,Inv X pins (σ.set i (ι v)) H W->(∃a,C9 a s.heap W.heap/\(a=X.env.locals∨X.env.cells.lookup x=ι a))->Q () W)(hf:X.fn x=true∨X.env.scope.names.lookup x=ι .local:=by first|exact .inl rfl|exact .inr rfl|assumption):g5 M A (storeName X.env x u) Q E s:=by
 obtain⟨m,Y,hl⟩:=id I.loc;have L:(X.env.scope.kind==.class||(X.env.scope.kind==.module&&X.env.locals !=X.env.globals))=false:=by rw[I.ok.kind];rfl
 have C:i<σ.length:=by rw[I.len];exact(ACv K).1
 have dI:=I.dI;have tracked:∀{a:Addr}{h':Heap},(∃o,s.heap.get? a=ι o/\H a=ν)->C9 a s.heap h'->Ee X.prog X.w H h':=λ{a h'} ha f b ob e=>by
  obtain⟨_,_,t⟩:=ha;refine(I.Ax b ob e).MN (λc T g q=>(f.2 c ?_).trans q) (λ_ q=>q) λ_ _ q=>q;rintro rfl;rcases g with rfl|g
  ·rw[t]at e;cases e
  ·rw[t]at g;cases g
 rcases l with D|D
 ·refine wpAny_storeName_local D Y (λh' Z f=>?_) L;obtain⟨oL,_,_,xh,_⟩:=id Y;refine h _ ⟨I.ok,I.os,I.bare,⟨λb o e n F l=>?_,λb o e n F l=>?_,I.base.free,λb o e l=>?_,I.base.HS,I.base.Ef,I.base.HU⟩,⟨_,Z,λj y v' e1 B e3=>?_⟩,λy c e=>?_,I.free,I.Dn,λp hp=>?_,tracked ⟨oL,xh,I.free⟩ f,by simpa using I.len⟩ ⟨_,f,.inl rfl⟩
  ·exact(f.2 b<|i4<|i6 (g7 e) I.ok.above).trans<|I.base.keep b o e n F l
  ·obtain⟨sl,e1⟩:=I.base.slot b o e n F l;exact⟨sl,(f.2 b<|i4<|i6 (g7 e) I.ok.above).trans e1⟩
  ·obtain⟨o',e1⟩:=I.base.there b o e l;exact⟨o',(f.2 b<|i4<|i6 (g7 e) I.ok.above).trans e1⟩
  ·by_cases G:j=i
   ·subst G;rw[K]at e1;cases e1;rw[xg C]at B;cases B;exact⟨u,r,.inl ⟨D,by simp⟩⟩
   ·rw[B6<|k8 G]at B;obtain⟨u',r',q⟩:=hl j y v' e1 B e3;refine⟨u',r',?_⟩;rcases q with⟨k,e⟩|⟨k,c,e,z⟩
    ·refine .inl ⟨k,?_⟩;have:y≠x:=λe=>G<|Pb hN e1<|e▸K;simp[this,e]
    ·exact .inr ⟨k,c,e,z.sameBut f<|dI y c e⟩
  ·obtain⟨T,z⟩:=I.cell y c e;exact⟨T,z.sameBut f<|dI y c e⟩
  ·obtain⟨e,n,ne,nf,d⟩:=I.pin p hp;exact⟨(f.2 p.1 ne).trans e,n,ne,nf,d⟩
 ·have J:X.fn x=true:=by
   rcases hf with z|z
   ·exact z
   ·rw[z]at D;cases D
  obtain⟨c,g⟩:=I.ok.has x<|.inl D;obtain⟨T,z⟩:=I.cell x c g;refine wpAny_storeName_cell I.ok.kind D g z (λh' O f=>?_);obtain⟨oc,P,R⟩:=id z;refine h {s with heap:=h'} ⟨I.ok,I.os,I.bare,⟨λb o e n F l=>?_,λb o e n F l=>?_,I.base.free,λb o e l=>?_,I.base.HS,I.base.Ef,I.base.HU⟩,⟨m,Y.sameBut f<|k8<|dI x c g,λj y v' e1 B e3=>?_⟩,λy U e=>?_,I.free,I.Dn,λp hp=>?_,tracked ⟨oc,P,I.Dn x c g⟩ f,by simpa using I.len⟩ ⟨c,f,.inr g⟩
  ·exact(f.2 b<|i4<|i6 (g7 e)<|I.ok.fH x c J g).trans<|I.base.keep b o e n F l
  ·obtain⟨sl,e1⟩:=I.base.slot b o e n F l;exact⟨sl,(f.2 b<|i4<|i6 (g7 e)<|I.ok.fH x c J g).trans e1⟩
  ·obtain⟨o',e1⟩:=I.base.there b o e l;exact⟨o',(f.2 b<|i4<|i6 (g7 e)<|I.ok.fH x c J g).trans e1⟩
  ·by_cases G:j=i
   ·subst G;rw[K]at e1;cases e1;rw[xg C]at B;cases B;exact⟨u,r,.inr ⟨.inl D,c,g,O⟩⟩
   ·rw[B6<|k8 G]at B;obtain⟨u',r',q⟩:=hl j y v' e1 B e3;refine⟨u',r',?_⟩;rcases q with q|⟨k,U,e,z'⟩
    ·exact .inl q
    ·refine .inr ⟨k,U,e,z'.sameBut f ?_⟩;rintro rfl;exact G<|Pb hN e1<|I.ok.inj _ _ _ e g▸K
  ·by_cases S:U=c
   ·subst S;exact⟨_,O⟩
   ·obtain⟨w2,z2⟩:=I.cell y U e;exact⟨w2,z2.sameBut f S⟩
  ·obtain⟨e,n,ne,nf,d⟩:=I.pin p hp;refine⟨(f.2 p.1 ?_).trans e,n,ne,nf,d⟩;intro q;rw[q,P]at e;have q':oc=p.2:=ACw e;exact d T<|by rw[<-q'];exact R
theorem Pc{i:Nat}{Q:Unit->d8->Prop}(I:Inv X pins σ H s)(b:X.N.Nodup)(c:X.N[i]?=ι x)(d:Loc X.env.scope x)(r:RelV v u)(h:∀a,Inv X pins (σ.set i (ι v)) H a->Q () a)(e:X.fn x=true∨X.env.scope.names.lookup x=ι .local:=by first|exact .inl rfl|exact .inr rfl|assumption):g5 M A (storeName X.env x u) Q E s:=
 Mp I b c d r (λa f _=>h a f) e
theorem Inv.jh{a:d8}(I:Inv X pins σ H s)(g:a.os=s.os)(u:Un (Tp X.stack) ch H H' s.heap a.heap)(d:Ee X.prog X.w H' a.heap)(h:W9 a.gens)(f:∀b∈ch,(b∈X.ex∨X.s₀.heap.objs.size<=b)/\b≠X.env.locals/\(∀x c,X.env.cells.lookup x=ι c->c≠b)/\∀p∈X.pn++pins,p.1≠b):Inv X pins σ H' a:=by
 obtain⟨h',g',d',t',i⟩:=a;have e:i=s.os:=g;subst e;exact I.call (g':=g') (t':=t') (d':=d') u d h f
end
abbrev XK:=b7->Option Addr->Hp->Prop
abbrev St:=List<|Option V
abbrev VK:=V->Hp->Prop
abbrev TE:=St->Hp->VK->Prop
abbrev TT:=St->Hp->(Bool->Hp->Prop)->Prop
abbrev TA:=St->Hp->(List V->Hp->Prop)->Prop
structure Ends where
 nx:St->Hp->Prop
 rt:VK
 bk:St->Hp->Prop:=λ_ _=>False
 ct:St->Hp->Prop:=λ_ _=>False
abbrev TS:=Ends->St->Hp->Prop
inductive uz(x:V)(H:Hp)(Q:Bool->Hp->Prop):Prop
 |mk(c:Bool)(e:x=.bl c)(q:Q c H)
inductive o_(a:TE)(σ:St)(x:V)(H:Hp)(Q:VK):Prop
 |mk(c:Bool)(e:x=.bl c)(q:if c=true then a σ H Q else Q (.bl false) H)
inductive pA(x:V)(H:Hp)(Q:VK):Prop
 |mk(c:Bool)(e:x=.bl c)(q:Q (.bl (!c)) H)
inductive xi(x:V)(H:Hp)(Q:Option Int->Hp->Prop):Prop
 |mk(i:Int)(e:x=.int i)(q:Q (ι i) H)
inductive EP(X:Cx)(pins:List (Addr×Obj))(σ:St)(Q:VK)(u:b7)(a:d8):Prop
 |mk(v:V)(H':Hp)(I:Inv X pins σ H' a)(r:RelV v u)(q:Q v H')
inductive TP(X:Cx)(pins:List (Addr×Obj))(σ:St)(Q:Bool->Hp->Prop)(b:Bool)(a:d8):Prop
 |mk(H':Hp)(I:Inv X pins σ H' a)(q:Q b H')
inductive AP(X:Cx)(pins:List (Addr×Obj))(σ:St)(Q:List V->Hp->Prop)(us:List b7)(a:d8):Prop
 |mk(vs:List V)(H':Hp)(I:Inv X pins σ H' a)(r:Vals vs us)(q:Q vs H')
variable{σ:St}{G:Prop}
theorem EP.elim{Q:VK}{a:d8}(h:EP X pins σ Q u a)(k:∀(v:V) (H':Hp),Inv X pins σ H' a->RelV v u->Q v H'->G):G:=by
 cases h with
 |mk v H' I r q=>exact k v H' I r q
theorem AP.elim{Q:List V->Hp->Prop}{a:d8}(h:AP X pins σ Q us a)(k:∀(vs:List V) (H':Hp),Inv X pins σ H' a->Vals vs us->Q vs H'->G):G:=by
 cases h with
 |mk v H' I r q=>exact k v H' I r q
theorem TP.elim{Q:Bool->Hp->Prop}{b:Bool}{a:d8}(h:TP X pins σ Q b a)(k:∀H':Hp,Inv X pins σ H' a->Q b H'->G):G:=by
 cases h with
 |mk H' I q=>exact k H' I q
inductive pH(X:Cx)(pins:List (Addr×Obj))(N:St->Hp->Prop)(a:d8):Prop
 |mk(σ:St)(H':Hp)(I:Inv X pins σ H' a)(q:N σ H')
inductive xj(X:Cx)(pins:List (Addr×Obj))(Q:VK)(u:b7)(a:d8):Prop
 |mk(v:V)(σ:St)(H':Hp)(I:Inv X pins σ H' a)(r:RelV v u)(q:Q v H')
def SP(X:Cx)(pins:List (Addr×Obj))(D:Ends)(f:Flow)(a:d8):Prop:=
 match f with
 | .next=>pH X pins D.nx a
 | .brk=>pH X pins D.bk a
 | .cont=>pH X pins D.ct a
 | .ret u=>xj X pins D.rt u a
def PE(X:Cx)(e:u7)(t:TE):Prop:=
 ∀(pins:List (Addr×Obj))(s:d8)(a:St)(H:Hp)(Q:VK),Inv X pins a H s->t a H Q->g5 (i7 X.prog X.w) X.A (wP e X.env) (EP X pins a Q) X.xe s
def PT(X:Cx)(e:u7)(t:TT):Prop:=
 ∀(pins:List (Addr×Obj))(s:d8)(a:St)(H:Hp)(Q:Bool->Hp->Prop),Inv X pins a H s->t a H Q->g5 (i7 X.prog X.w) X.A (ac2 e X.env (wP e X.env)) (TP X pins a Q) X.xe s
def PW(X:Cx)(e:u7)(t:TT):Prop:=
 ∀(whole:Sem b7)(pins:List (Addr×Obj))(s:d8)(a:St)(H:Hp)(Q:Bool->Hp->Prop),Inv X pins a H s->t a H Q->g5 (i7 X.prog X.w) X.A (ac2 e X.env whole) (TP X pins a Q) X.xe s
variable{e:u7}
theorem PW.pt{t:TT}(h:PW X e t):PT X e t:=h _
def PA(X:Cx)(es:List u7)(t:TA):Prop:=
 ∀(pos:Pos)(pins:List (Addr×Obj))(s:d8)(a:St)(H:Hp)(Q:List V->Hp->Prop),Inv X pins a H s->t a H Q->g5 (i7 X.prog X.w) X.A (spliced (D6 pos (jL es X.env))) (AP X pins a Q) X.xe s
def PS(X:Cx)(st:Stmt)(t:TS):Prop:=
 ∀(pins:List (Addr×Obj))(s:d8)(a:St)(H:Hp)(D:Ends),Inv X pins a H s->t D a H->g5 (i7 X.prog X.w) X.A (exec st X.env) (SP X pins D) X.xe s
def PM(X:Cx)(st:List Stmt)(t:TS):Prop:=
 ∀(pins:List (Addr×Obj))(s:d8)(a:St)(H:Hp)(D:Ends),Inv X pins a H s->t D a H->g5 (i7 X.prog X.w) X.A (execs st X.env) (SP X pins D) X.xe s
theorem BQ{b:Type}{t:Sem b}{Q c:b->d8->Prop}(h:g5 M A t Q E s)(d:∀a s,Q a s->c a s):g5 M A t c E s:=A0 h d λ_ _ x=>x
variable{Q:b7->d8->Prop}{op:CmpOp}{ta t tb:TE}
section
inductive ji(i:Nat)(σ:St)(H:Hp)(Q:VK):Prop
 |mk(v:_)(a:σ[i]?=ι (ι v))(b:Q v H)
def IA(i:Nat):TE:=λa H Q=>ji i a H Q
def tC(v:V):TE:=λ_ H Q=>Q v H
theorem fR{i:Nat}{pos:Pos}(j:X.N[i]?=ι x)(k:nP X.env.scope x)(d:(x==("__debug__":Str))=false:=by decide)(f:(x==("__classdict__":Str))=false:=by decide):PE X (.Name x pos) (IA i):=by
 intro pins s n H Q I h;obtain⟨v,e,h⟩:=h;obtain⟨m,o,p⟩:=I.loc;obtain⟨u,r,l⟩:=p i x v j e k;have fin:EP X pins n Q u s:=⟨v,H,I,r,h⟩;rcases l with⟨b,q⟩|⟨b,c,g,a⟩
 ·exact ac6 (wpAny_loadName_local I.ok.kind b o q fin) d
 ·rcases b with b|b
  ·exact ac6 (wpAny_loadName_cell I.ok.kind b g a fin) d
  ·exact ac6 (wpAny_loadName_free I.ok.kind b g a fin f) d
theorem AG{i j pos}:PE X (.Constant (.int i) j pos) (tC (.int i)):=λ_ _ _ H _ I h=>wpAny_Constant_int ⟨.int i,H,I.tok _,⟨_,rfl⟩,h⟩
theorem Dp{c j pos}:PE X (.Constant (.bool c) j pos) (tC (.bl c)):=λ_ _ _ H _ I h=>Constant_bool ⟨.bl c,H,I,rfl,h⟩
theorem fY{j pos}:PE X (.Constant .none j pos) (tC .BB):=λ_ _ _ H _ I h=>Constant_none ⟨.BB,H,I,rfl,h⟩
theorem AZ{x j pos}:PE X (.Constant (.str x) j pos) (tC (.str x)):=λ_ _ _ H _ I h=>Calls.Constant_str ⟨.str x,H,I.tok _,⟨_,rfl⟩,h⟩
def Gl(X:Cx)(x:Str):Prop:=X.env.kindOf x=ι .globalImplicit
theorem KN{pos:Pos}(I:Inv X pins σ H s)(a:Gl X x)(b:X.mg x=ι u)(h:Q u s)(c:(x==("__debug__":Str))=false:=by decide):g5 (i7 X.prog X.w) X.A (wP (.Name x pos) X.env) Q E s:=
 W1 I.ok.kind a (Calls.loadGlobal_global (by rw[I.ok.glob];exact I.mod.glob.keeps I.bk) b h) c
theorem Fs{pos:Pos}(I:Inv X pins σ H s)(a:Gl X x)(b:X.mg x=ν)(c:rc x=ι u)(h:Q u s)(d:x≠"__name__":=by decide)(e:(x==("__debug__":Str))=false:=by decide):g5 (i7 X.prog X.w) X.A (wP (.Name x pos) X.env) Q E s:=by
 obtain⟨i,f,g⟩:=I.mod.blt;exact W1 I.ok.kind a (Calls.loadGlobal_builtin (by rw[I.ok.glob];exact I.mod.glob.keeps I.bk) b (by rw[I.ok.blt];exact f.keeps I.bk) ((g x d).trans c) h) e
theorem Co{pos:Pos}(a:Gl X x)(b:X.mg x=ι u)(r:RelV v u)(c:(x==("__debug__":Str))=false:=by decide):PE X (.Name x pos) (tC v):=
 λ_ _ _ H _ I h=>KN I a b ⟨v,H,I,r,h⟩ c
theorem Cp{pos:Pos}(a:Gl X x)(b:X.mg x=ν)(c:rc x=ι u)(r:RelV v u)(d:x≠"__name__":=by decide)(e:(x==("__debug__":Str))=false:=by decide):PE X (.Name x pos) (tC v):=
 λ_ _ _ H _ I h=>Fs I a b c ⟨v,H,I,r,h⟩ d e
variable{a b:u7} {pos:Pos}
def PC(X:Cx)(op:CmpOp)(a b:u7)(t:TE):Prop:=
 ∀(pins:List (Addr×Obj))(s:d8)(e:St)(H:Hp)(Q:VK),Inv X pins e H s->t e H Q->
  g5 (i7 X.prog X.w) X.A (wP a X.env) (λv c=>g5 (i7 X.prog X.w) X.A (wP b X.env) (λu d=>g5 (i7 X.prog X.w) X.A (u5 op v u) (EP X pins e Q) X.xe d) X.xe c) X.xe s
def tB(t:TE):TT:=λc H Q=>t c H λx d=>uz x d Q
theorem XA(h:PC X op a b t)(d:O1 op b=false:=by first|exact c _ (by decide) (by decide)|rfl):PE X (.Compare a [op] [b] pos) t:=λpins s e H Q I hw=>adl (h pins s e H Q I hw) d
theorem Kp(h:PC X op a b t)(f:O1 op b=false:=by first|exact e _ (by decide) (by decide)|rfl):PT X (.Compare a [op] [b] pos) (tB t):=by
 intro pins s g H Q I hw;refine aaB (BQ (h pins s g H _ I hw) λv o f=>BQ f λu p i=>BQ i λc r j=>j.elim λx k l m n=>?_) f;obtain⟨d,rfl,q⟩:=n;cases m;exact u9 ⟨k,l,q⟩
theorem As(h:PE X e t)(c:∀whole,ac2 e X.env whole=(do let v<-whole;adQ e.pos;P7 [v] (truthy v)):=by intro _;rfl):PT X e (tB t):=by
 intro pins s f H Q I hw;refine isTrue_plain (BQ (h pins s f H _ I hw) λv m g=>g.elim λx i j k l=>?_)<|c _;obtain⟨d,rfl,q⟩:=l;cases k;exact u9 ⟨i,j,q⟩
variable{tA nU:TT} {rest:List u7}
def pM(t u:TT):TT:=λd H Q=>t d H λc e=>if c=true then u d e Q else Q false e
def xk(t u:TT):TT:=λd H Q=>t d H λc e=>if c=true then Q true e else u d e Q
def pb(t:TT):TT:=λd H Q=>t d H λc e=>Q (!c) e
theorem pw_and1(d:PT X a tA):PW X (.BoolOp .And [a] pos) tA:=by
 intro g pins s f H Q I h;refine isTrue_and (BQ (d pins s f H Q I h) λc i e=>?_);cases c with
 |true=>exact isTrue_and_nil e
 |false=>exact e
theorem pw_or1(d:PT X a tA):PW X (.BoolOp .Or [a] pos) tA:=by
 intro g pins s f H Q I h;refine isTrue_or (BQ (d pins s f H Q I h) λc i e=>?_);cases c with
 |false=>exact isTrue_or_nil e
 |true=>exact e
theorem pw_and(i:PT X a tA)(j:PW X (.BoolOp .And (b::rest) pos) nU):PW X (.BoolOp .And (a::b::rest) pos) (pM tA nU):=by
 intro k pins s d H Q I h;refine isTrue_and (BQ (i pins s d H _ I h) λc l m=>m.elim λe f g=>?_);cases c with
 |true=>exact j k pins l d e Q f g
 |false=>exact⟨e,f,g⟩
theorem pw_or(i:PT X a tA)(j:PW X (.BoolOp .Or (b::rest) pos) nU):PW X (.BoolOp .Or (a::b::rest) pos) (xk tA nU):=by
 intro k pins s d H Q I h;refine isTrue_or (BQ (i pins s d H _ I h) λc l m=>m.elim λe f g=>?_);cases c with
 |true=>exact⟨e,f,g⟩
 |false=>exact j k pins l d e Q f g
theorem CV(e:PT X a tA):PT X (.UnaryOp .Not a pos) (pb tA):=by
 intro pins s f H Q I h;exact isTrue_not<|BQ (e pins s f H (λc d=>Q (!c) d) I h) λc k g=>g.elim λd i j=>⟨d,i,j⟩
def jk(ta tb:TE):TE:=λc H Q=>ta c H λx d=>o_ tb c x d Q
def jl(ta:TE):TE:=λc H Q=>ta c H λx d=>pA x d Q
theorem Ft{d}(h:PE X a t):PE X (.BoolOp d [a] pos) t:=λpins s c H Q I hw=>BoolOp_one<|h pins s c H Q I hw
theorem Fu(i:PE X a ta)(j:PE X (.BoolOp .And (b::rest) pos) tb):PE X (.BoolOp .And (a::b::rest) pos) (jk ta tb):=by
 intro pins s e H Q I h;refine BoolOp_and (BQ (i pins s e H _ I h) λv k l=>l.elim λx f g m d=>?_);obtain⟨c,rfl,d⟩:=d;cases m;refine u9 ?_;cases c with
 |true=>exact j pins k e f Q g d
 |false=>exact⟨.bl false,f,g,rfl,d⟩
theorem fZ(e:PE X a ta):PE X (.UnaryOp .Not a pos) (jl ta):=by
 intro pins s f H Q I h;refine UnaryOp_ (BQ (e pins s f H _ I h) λv l g=>g.elim λx i j k d=>?_);obtain⟨c,rfl,d⟩:=d;cases k;exact not_of<|u9 ⟨.bl<|!c,i,j,rfl,d⟩
end
def Ag(K:ACy)(H:Hp)(a:Addr)(xs:List V):Prop:=
 Rd H a (.lst xs)∨
  ∃(o:Obj)(b:Array b7)(n:Nat),K.lookup a=ι o/\o.cls=.type "list"/\o.dict=ν/\o.data=.seq b n/\b.size<=sizeLine/\Vals xs b.toList
def BP(K:ACy)(H:Hp)(a:Addr)(xs:List V):Prop:=
 Rd H a (.tup xs)∨
  ∃(o:Obj)(b:Array b7)(n:Nat),K.lookup a=ι o/\o.cls=.type "tuple"/\o.data=.seq b n/\b.size<=sizeLine/\Vals xs b.toList
noncomputable def pd:b7->Option V
 | .none=>ι .BB
 | .bool b=>ι (.bl b)
 | .int i _=>ι (.int i)
 | .str x _=>ι (.str x)
 | .bytes b _=>ι (.To b)
 | .float b _=>ι (.eo b)
 | .ref a=>ι (.ref a)
 | .type n=>ι (.ty n)
 |_=>ν
theorem RelV.abs{x:V}(r:RelV x u):pd u=ι x:=by
 cases x with
 |BB=>cases r;rfl
 |bl _=>cases r;rfl
 |int _=>obtain⟨t,rfl⟩:=r;rfl
 |str _=>obtain⟨t,rfl⟩:=r;rfl
 |To _=>obtain⟨t,rfl⟩:=r;rfl
 |eo _=>obtain⟨t,rfl⟩:=r;rfl
 |ref _=>cases r;rfl
 |ty _=>cases r;rfl
theorem RelV.inj{x y:V}(r:RelV x u)(q:RelV y u):x=y:=ACw<|r.abs.symm.trans q.abs
theorem Vals.inj{xs ys:List V}{us:List b7}(r:Vals xs us)(s:Vals ys us):xs=ys:=by
 induction r generalizing ys with
 |nil=>exact(q8 (L8 s)).symm
 |cons a _ b=>
  cases ys with
  |nil=>exact absurd (L8 s) (Nat.succ_ne_zero _).symm
  |cons y d=>
   obtain⟨u,f,e,h,t⟩:=Vals.inv s;injection e with e1 c;subst e1 c;rw[a.inj h,b t]
variable{K:ACy}
section
variable {ys:List V}
theorem Ag.of(h:H a=ι (.lst xs)):Ag K H a xs:=.inl<|.inl h
theorem BP.of(h:H a=ι (.tup xs)):BP K H a xs:=.inl<|.inl h
theorem Inv.list(I:Inv X pins σ H s)(h:Ag X.K H a xs):∃its:List b7,Vals xs its/\PlainL s.heap a its.toArray/\xs.length<=sizeLine:=by
 rcases h with h|⟨o,its,n,b,c,d,f,g,r⟩
 ·obtain⟨z,its,n,r,e⟩:=h.ok I.Ax;exact⟨its,r,⟨_,n,e,rfl,rfl,rfl⟩,z⟩
 ·refine⟨its.toList,r,⟨o,n,I.FG a o b,c,d,by simpa using f⟩,?_⟩;have e:=r.length;simp only[j6]at e;lia
theorem Inv.tuple(I:Inv X pins σ H s)(h:BP X.K H a xs):∃its:List b7,Vals xs its/\abN s.heap a its.toArray/\xs.length<=sizeLine:=by
 rcases h with h|⟨o,its,n,b,c,d,f,r⟩
 ·obtain⟨z,its,r,p⟩:=h.ok I.Ax;exact⟨its,r,p,z⟩
 ·refine⟨its.toList,r,⟨o,I.FG a o b,c,n,by simpa using d⟩,?_⟩;have e:=r.length;simp only[j6]at e;lia
theorem Inv.XB(I:Inv X pins σ H s)(h:Ag X.K H a xs)(h':Ag X.K H a ys):xs=ys:=by
 obtain⟨c,r,⟨o,n,e,_,_,d⟩,_⟩:=I.list h;obtain⟨b,i,⟨k,l,f,_,_,g⟩,_⟩:=I.list h';rw[e]at f;cases f;rw[d]at g;injection g with j _;have:c=b:=by simpa using congrArg adU j
 subst this;exact r.inj i
theorem Inv.VP(I:Inv X pins σ H s)(h:BP X.K H a xs)(h':BP X.K H a ys):xs=ys:=by
 obtain⟨c,r,⟨o,e,_,n,d⟩,_⟩:=I.tuple h;obtain⟨b,i,⟨k,f,_,l,g⟩,_⟩:=I.tuple h';rw[e]at f;cases f;rw[d]at g;injection g with j _;have:c=b:=by simpa using congrArg adU j
 subst this;exact r.inj i
end
abbrev Cx.MP(X:Cx)(E:b7->d8->Prop):Cx:={X with xe:=E}
abbrev Cx.dM(X:Cx):Cx:=X.MP λ_ _=>False
theorem Cx.Ok.MP(ok:X.Ok)(E:b7->d8->Prop):(X.MP E).Ok:=
 ⟨ok.mod,ok.kind,ok.glob,ok.blt,ok.above,ok.inj,ok.has,ok.fH,ok.hd,ok.frames,ok.nQ,ok.nR,ok.bs,ok.Ws,ok.W_,ok.W',ok.HV,ok.aI⟩
theorem Cx.Ok.Fv(ok:(X.MP E).Ok):X.Ok:=
 ⟨ok.mod,ok.kind,ok.glob,ok.blt,ok.above,ok.inj,ok.has,ok.fH,ok.hd,ok.frames,ok.nQ,ok.nR,ok.bs,ok.Ws,ok.W_,ok.W',ok.HV,ok.aI⟩
section
theorem Inv.MP(I:Inv X pins σ H s)(E:b7->d8->Prop):Inv (X.MP E) pins σ H s:=⟨I.ok.MP E,I.os,I.bare,I.base,I.loc,I.cell,I.free,I.Dn,I.pin,I.Ax,I.len⟩
theorem Inv.Fv(I:Inv (X.MP E) pins σ H s):Inv X pins σ H s:=⟨I.ok.Fv,I.os,I.bare,I.base,I.loc,I.cell,I.free,I.Dn,I.pin,I.Ax,I.len⟩
theorem SP.Fv{D:Ends}{f:Flow}{c:d8}(h:SP (X.MP E) pins D f c):SP X pins D f c:=by
 cases f with
 |next=>obtain⟨a,b,I,q⟩:=h;exact⟨a,b,I.Fv,q⟩
 |brk=>obtain⟨a,b,I,q⟩:=h;exact⟨a,b,I.Fv,q⟩
 |cont=>obtain⟨a,b,I,q⟩:=h;exact⟨a,b,I.Fv,q⟩
 |ret u=>obtain⟨v,a,b,I,r,q⟩:=h;exact⟨v,a,b,I.Fv,r,q⟩
theorem PM.dM{st:List Stmt}{t:TS}(h:PM X.dM st t):PM X st t:=λpins s σ H D I hw=>
 A0 (h pins s σ H D (I.MP _) hw) (λ_ _ q=>q.Fv) λ_ _ z=>wv z
end
variable{c:u7}{te:TE}
section
variable {st:Stmt} {rest:List Stmt} {t u:TS} {pos:Pos}
def jm:TS:=λD a H=>D.nx a H
def Kq(t u:TS):TS:=λD a H=>t {D with nx:=u D} a H
theorem AL:PM X [] jm:=λ_ _ a H _ I h=>Tl ⟨a,H,I,h⟩
theorem AB(b:PS X st t)(c:PM X rest u):PM X (st::rest) (Kq t u):=by
 intro pins s d H D I h;refine acl (BQ (b pins s d H {D with nx:=u D} I h) λf g q=>?_);cases f with
 |next=>
  obtain⟨a,i,j,q⟩:=q;exact c pins g a i D j q
 |ret v=>exact q
 |brk=>exact q
 |cont=>exact q
theorem AD(a:PS X st t):PM X [st] t:=by
 intro pins s b H D I h;refine acl (BQ (a pins s b H D I h) λf c q=>?_);cases f with
 |next=>exact Tl q
 |ret v=>exact q
 |brk=>exact q
 |cont=>exact q
theorem Inv.quiet(I:Inv X pins σ H s):interactive X.env=false:=by simp[interactive,I.ok.kind]
def dN(te:TE):TS:=λD a H=>te a H λ_ b=>D.nx a b
theorem Ai(b:PE X e te)(c:U7 e ν pos.line X.env=pure false:=by rfl):PS X (.Expr e pos) (dN te):=by
 intro pins s a H D I h;exact wpAny_Expr_any (BQ (b pins s a H _ I h) λv j d=>d.elim λx f g k i=>⟨a,f,g,i⟩) I.quiet c
def jo(te:TE):TS:=λD a H=>te a H D.rt
theorem AM(b:PE X e te):PS X (.Return (ι e) pos) (jo te):=by
 intro pins s a H D I h;exact wpAny_Return_some<|BQ (b pins s a H _ I h) λv j c=>c.elim λx d f g i=>⟨x,a,d,f,g,i⟩
def Rr(c:TT)(t u:TS):TS:=λD a H=>c a H λb d=>if b=true then t D a d else u D a d
theorem AV{a b:List Stmt}{g:TT}(m:PT X c g)(n:PM X a t)(o:PM X b u):PS X (.If c a b pos) (Rr g t u):=by
 intro pins s f H D I h;refine wpAny_If (BQ (m pins s f H _ I h) λd i p=>p.elim λj k l=>?_);cases d with
 |true=>exact n pins i f j D k l
 |false=>exact o pins i f j D k l
def fe:TS:=λ_ _ _=>False
theorem Kr:PS X st fe:=λ_ _ _ _ _ _ h=>h.elim
end
abbrev TG:=V->St->Hp->(St->Hp->Prop)->Prop
def PG(X:Cx)(target:u7)(t:TG):Prop:=
 ∀(pins:List (Addr×Obj))(s:d8)(b:St)(H:Hp)(v:V)(u:b7)(Q:St->Hp->Prop),Inv X pins b H s->RelV v u->t v b H Q->
  g5 (i7 X.prog X.w) X.A (acj target X.env u) (λ_ d=>∃a c,Inv X pins a c d/\Q a c) X.xe s
abbrev ff:=V->V->V->Hp->(Hp->Prop)->Prop
def jq(X:Cx)(t:ff):Prop:=
 ∀(pins:List (Addr×Obj))(s:d8)(a:St)(H:Hp)(o i v:V)(ov b u:b7)(Q:Hp->Prop),Inv X pins a H s->RelV o ov->RelV i b->RelV v u->t o i v H Q->
  g5 (i7 X.prog X.w) X.A (setItem ov b u) (λ_ d=>∃c,Inv X pins a c d/\Q c) X.xe s
variable{pos':Pos}
section
variable {pos:Pos}
def Aj(i:Nat):TG:=λv a H Q=>Q (a.set i<|some v) H
theorem Nv{i:Nat}(a:X.N.Nodup)(b:X.N[i]?=ι x)(c:Loc X.env.scope x)(d:X.fn x=true∨X.env.scope.names.lookup x=ι .local:=by first|exact .inl rfl|exact .inr rfl|assumption):PG X (.Name x pos) (Aj i):=by
 intro pins s f H v u Q I r h;exact ab4<|Pc I a b c r (λg e=>⟨_,H,e,h⟩) d
def pf(b c:TE)(t:ff):TG:=λv a H Q=>b a H λo d=>c a d λi e=>t o i v e λf=>Q a f
theorem XC{o i:u7}{d e:TE}{t:ff}(f:PE X o d)(g:PE X i e)(j:jq X t)(k:∀v,acj (.Subscript o i pos) X.env v=(do
   let ov<-P7 [v] (wP o X.env)
   let a<-P7 [v,ov] (wP i X.env)
   adQ pos
   P7 [v,ov,a] (setItem ov a v)
   release [v,ov,a] []):=by intro _;rfl):PG X (.Subscript o i pos) (pf d e t):=by
 intro pins s b H v u Q I r h;rw[k];refine am (j8<|BQ (f pins s b H _ I h) λov l c=>c.elim λx m n p q=>?_);refine am (j8<|BQ (g pins l b m _ n q) λa w c=>c.elim λy z A B C=>?_);refine am (abj<|am<|j8<|BQ (j pins w b z x y v ov a u _ A p B r C) λ_ G ⟨D,E,F⟩=>?_);exact wpAny_release ⟨b,D,E,F⟩
def aX(b:TE)(g:TG):TS:=λD a H=>b a H λx c=>g x a c D.nx
theorem XE{a:u7}{c:TE}{g:TG}(f:PE X e c)(i:PG X a g)(j:swapsWithSole [a] e pos.line X.env=pure false:=by rfl)(hw:swappedStores [a] e X.env=pure none:=by rfl)(k:(assignEach [a] X.env).map (·.2)=[acj a X.env]:=by rfl):PS X (.Assign [a] e pos) (aX c g):=by
 intro pins s d H D I h;refine wpAny_Assign_stores (BQ (f pins s d H _ I h) λv l m=>m.elim λx n o p q=>?_) j hw;rw[k];exact BQ (i pins l d n x v _ o p q) λ_ w ⟨b,r,t,u⟩=>⟨b,r,t,u⟩
theorem Dy{i:Nat}{a:TE}(b:X.N.Nodup)(c:X.N[i]?=ι x)(d:Loc X.env.scope x)(f:PE X e a)(g:U7 e (ι (.Name x pos')) pos.line X.env=pure false:=by rfl)(j:X.fn x=true∨X.env.scope.names.lookup x=ι .local:=by first|exact .inl rfl|exact .inr rfl|assumption):
  PS X (.Assign [.Name x pos'] e pos) (aX a (Aj i)):=by
 intro pins s k H D I h;refine wpAny_Assign_Name (BQ (f pins s k H _ I h) λv r l=>l.elim λy m n o p=>?_) g;exact Pc n b c d o (λt q=>⟨_,m,q,p⟩) j
end
variable{body:List Stmt}
section
variable {pos:Pos}
inductive aY(c:TT)(f:TS)(D:Ends)(σ:St)(H:Hp):Prop
 |mk(W:Nat->St->Hp->Prop)(g:(∃m,W m σ H))(h:∀m σ H,W m σ H->c σ H λb d=>if b=true then∃N:St->Hp->Prop,(∀a H',N a H'->∃e,e<m/\W e a H')/\f {D with nx:=N,ct:=N,bk:=D.nx} σ d else D.nx σ d)
def XF(c:TT)(a:TS):TS:=λD b H=>aY c a D b H
theorem Fw{q:TT}{r:TS}(t:adM (i7 X.prog X.w) X.A X.env X.xe)(C:PT X c q)(E:PM X body r):PS X (.While c body [] pos) (XF q r):=by
 intro pins s F H D I h;obtain⟨W,⟨G,J⟩,turn⟩:=h;refine wpAny_While<|codeAny_whileLoop (λn K=>∃e u,Inv X pins e u K/\W n e u) ?_ G ⟨F,H,I,J⟩;rintro n L ⟨d,x,M,O⟩;refine FS t (BQ (C pins L d x _ M<|turn n d x O) λb P Q=>Q.elim λy z i=>?_);cases b with
 |true=>
  obtain⟨N,B,i⟩:=i;rw[if_pos rfl];refine FS t (BQ (E pins P d y _ z i) λf R j=>?_);cases f with
  |next=>
   obtain⟨a,g,k,l⟩:=j;obtain⟨m,o,p⟩:=B a g l;exact⟨m,o,a,g,k,p⟩
  |cont=>
   obtain⟨a,g,k,l⟩:=j;obtain⟨m,o,p⟩:=B a g l;exact⟨m,o,a,g,k,p⟩
  |brk=>exact j
  |ret v=>exact j
 |false=>
  rw[if_neg i8];exact Tl ⟨d,y,z,i⟩
end
structure It where
 go:Nat->Hp->Prop
 aJ:Nat->Hp->V->Hp->Prop
 stop:Nat->Hp->Prop
def IB(X:Cx)(pins:List (Addr×Obj))(H:Hp)(b:Addr):Prop:=
 H b=ν/\b≠X.env.locals/\b∉X.fs/\(b∈X.ex∨X.s₀.heap.objs.size<=b)/\(∀x c,X.env.cells.lookup x=ι c->c≠b)/\∀p∈X.pn++pins,p.1≠b
theorem Inv.Rt(I:Inv X pins σ H s)(a:s.heap.objs.size<=b)(d:H' b=ν):IB X pins H' b:=by
 refine⟨d,N1<|i6 I.lt a,I.oz a,.inr<|j5 I.sz a,λx c e z=>?_,λp f z=>?_⟩
 ·obtain⟨v,q⟩:=I.cell x c e;exact absurd (i6 q.lt<|by rw[z];exact a)<|x8 _
 ·exact absurd (i6 (g7 (I.pin p f).1)<|by rw[z];exact a)<|x8 _
structure Turn(P:om)(w:u8)(K:ACy)(tg:u7)(J:It)(fp:List Addr)(it:Addr)(tn:Nat->Heap->Prop):Prop where
 mem:it∈fp
 obj:∀i h,tn i h->∀b∈fp,∃o,h.get? b=ι o/\∀v,o.data≠.cell v
 keep:∀i h h',tn i h->(∀b∈fp,∀o,h.get? b=ι o->h'.get? b=ι o)->tn i h'
 item:∀(X:Cx),X.prog=P->X.w=w->X.K=K->X.calm=true->∀(i:Nat)(pins:List (Addr×Obj))(s:d8)(σ:St)(H:Hp)(E:b7->d8->Prop),Inv X pins σ H s->(∀b∈fp,IB X pins H b)->tn i s.heap->J.go i H->
  g5 (i7 P w) X.A (On (.ref it)) (λr s1=>∃u,r=ι u/\
   g5 (i7 P w) X.A (TW tg (.ref it) u) (λ_ s2=>∃x H',Inv X pins σ H' s2/\RelV x u/\J.aJ i H x H'/\tn (i+1) s2.heap/\∀b∈fp,H' b=ν) E s1) E s
 done:∀(X:Cx),X.prog=P->X.w=w->X.K=K->X.calm=true->∀(i:Nat)(pins:List (Addr×Obj))(s:d8)(σ:St)(H:Hp)(E:b7->d8->Prop),Inv X pins σ H s->(∀b∈fp,IB X pins H b)->tn i s.heap->J.stop i H->
  g5 (i7 P w) X.A (On (.ref it)) (λr s1=>r=ν/\Inv X pins σ H s1) E s
 self:∀(A:AT)(i:Nat)(s:d8)(Q:b7->d8->Prop)(E:b7->d8->Prop),tn i s.heap->Q (.ref it) s->g5 (i7 P w) A (aci (.ref it)) Q E s
abbrev TI:=St->Hp->(It->Hp->Prop)->Prop
inductive ph(X:Cx)(pins:List (Addr×Obj))(σ:St)(i:u7)(R:It->Hp->Prop)(a:b7)(c:d8):Prop
 |mk(d:Addr)(g:List Addr)(h:Nat->Heap->Prop)(J:It)(H':Hp)(e:a=.ref d)(I:Inv X pins σ H' c)(t:Turn X.prog X.w X.K i J g d h)(z:h 0 c.heap)(f:∀b∈g,IB X pins H' b)(q:R J H')
def PI(X:Cx)(b iter:u7)(c:TI):Prop:=
 ∀(pins:List (Addr×Obj))(s:d8)(a:St)(H:Hp)(R:It->Hp->Prop),Inv X pins a H s->c a H R->
  g5 (i7 X.prog X.w) X.A (wP iter X.env) (λv d=>g5 (i7 X.prog X.w) X.A (aci v) (ph X pins a b R) X.xe d) X.xe s
theorem Mq{b:u7}{c:Addr}{o:Obj}{n:String}{vs:Array b7}{Q:Unit->d8->Prop}(d:s.heap.get? c=ι o)(e:o.cls=.type n)(f:o.data=.fields vs)(g:["enumerate","zip","dict_itemiterator","dict_reverseitemiterator","odict_iterator","itertools.zip_longest","itertools.pairwise"].contains n=false)(a:Q () s):g5 M A (TW b (.ref c) u) Q E s:=by
 unfold TW;cases b<;>first
  |exact ce a
  |(cases u<;>first
    |exact ce a
    |(refine am (abu d ?_)
      rw[e,f];show g5 M A (if(["enumerate","zip","dict_itemiterator","dict_reverseitemiterator","odict_iterator","itertools.zip_longest","itertools.pairwise"].contains n&&vs[0]?==ι (sn _))=true then _ else _) Q E s;rw[if_neg (by intro h;rw[g,Bool.false_and]at h;cases h)];exact ce a))
def jN(K:ACy)(a:Addr):It:=
 ⟨λi H=>∃b x,Ag K H a b/\b[i]?=ι x,λi H x c=>c=H/\∀b,Ag K H a b->b[i]?=ι x,λi H=>∃b,Ag K H a b/\b.length<=i⟩
def pk(K:ACy)(a:Addr):It:=
 ⟨λi H=>∃b x,BP K H a b/\b[i]?=ι x,λi H x c=>c=H/\∀b,BP K H a b->b[i]?=ι x,λi H=>∃b,BP K H a b/\b.length<=i⟩
def nV(lo:Int)(n:Nat):It:=⟨λi _=>i<n,λi H x a=>a=H/\x=.int (lo+i),λi _=>n<=i⟩
variable{tg:u7}
theorem VQ(a it:Addr):Turn P w K tg (jN K a) [it] it (λi h=>h.IsListIter it a i)where
 mem:=by simp
 obj:=λi h st b hb=>by
  have e:b=it:=by simpa using hb
  subst e;obtain⟨o,e,c,d⟩:=st;exact⟨o,e,λv z=>by rw[d]at z;cases z⟩
 keep:=λi h h' st k=>st.at λo e=>k it (by simp) o e
 item:=by
  intro X hP hw hK hc i pins s σ H E I hf st hg;subst hP hw hK;obtain⟨xs,x,hq,hx⟩:=hg;obtain⟨its,rv,p,hz⟩:=I.list hq;obtain⟨u,hu,ru⟩:=rv.get hx;obtain⟨f0,f1,f2,f3,f4,f5⟩:=hf it (by simp);refine wpAny_pyNext_list_item st p.isList (x:=u) (by simpa using hu) λh' Pd sb=>?_;have I1:Inv X pins σ H {s with heap:=h'}:=I.turned (t':=s.toks) (λb o hb e=>(sb.2 b hb).trans e) f0 f1 f3 f4 f5;obtain⟨o,e,c,d⟩:=id Pd;exact⟨u,rfl,Mq (s:={s with heap:=h'}) e c d (by decide) ⟨x,H,I1,ru,⟨rfl,λys hy=>by rw[I.XB hy hq];exact hx⟩,Pd,λb hb=>(hf b hb).1⟩⟩
 done:=by
  intro X hP hw hK hc i pins s σ H E I hf st hg;subst hP hw hK;obtain⟨xs,hq,hx⟩:=hg;obtain⟨its,rv,p,hz⟩:=I.list hq;obtain⟨f0,f1,f2,f3,f4,f5⟩:=hf it (by simp);have hl:=rv.length;exact wpAny_pyNext_list_end (I.ok.hd hc) st p.isList (by simp;lia) λh' eb=>⟨rfl,I.turned (t':=s.toks) (λb o hb e=>eb b o hb e) f0 f1 f3 f4 f5⟩
 self:=λ_ _ _ _ _ st h=>wpAny_pyIter_listiter st h
theorem Ru(a it:Addr):Turn P w K tg (pk K a) [it] it (λi h=>h.IsTupleIter it a i)where
 mem:=by simp
 obj:=λi h st b hb=>by
  have e:b=it:=by simpa using hb
  subst e;obtain⟨o,e,c,d⟩:=st;exact⟨o,e,λv z=>by rw[d]at z;cases z⟩
 keep:=λi h h' st k=>st.at λo e=>k it (by simp) o e
 item:=by
  intro X hP hw hK hc i pins s σ H E I hf st hg;subst hP hw hK;obtain⟨xs,x,hq,hx⟩:=hg;obtain⟨its,rv,p,hz⟩:=I.tuple hq;obtain⟨u,hu,ru⟩:=rv.get hx;obtain⟨f0,f1,f2,f3,f4,f5⟩:=hf it (by simp);refine wpAny_pyNext_tuple_item st (show s.heap.IsTuple a its.toArray from p) (x:=u) (by simpa using hu) λh' Pd sb=>?_;have I1:Inv X pins σ H {s with heap:=h'}:=I.turned (t':=s.toks) (λb o hb e=>(sb.2 b hb).trans e) f0 f1 f3 f4 f5;obtain⟨o,e,c,d⟩:=id Pd;exact⟨u,rfl,Mq (s:={s with heap:=h'}) e c d (by decide) ⟨x,H,I1,ru,⟨rfl,λys hy=>by rw[I.VP hy hq];exact hx⟩,Pd,λb hb=>(hf b hb).1⟩⟩
 done:=by
  intro X hP hw hK hc i pins s σ H E I hf st hg;subst hP hw hK;obtain⟨xs,hq,hx⟩:=hg;obtain⟨its,rv,p,hz⟩:=I.tuple hq;obtain⟨f0,f1,f2,f3,f4,f5⟩:=hf it (by simp);have hl:=rv.length;exact wpAny_pyNext_tuple_end (I.ok.hd hc) st (show s.heap.IsTuple a its.toArray from p) (by simp;lia) λh' eb=>⟨rfl,I.turned (t':=s.toks) (λb o hb e=>eb b o hb e) f0 f1 f3 f4 f5⟩
 self:=λ_ _ _ _ _ st h=>wpAny_pyIter_tupleiter st h
theorem Rv(it:Addr)(lo:Int)(n:Nat):Turn P w K tg (nV lo n) [it] it (λi h=>aaQ h it (lo+(i:Nat)*1) ((n:Int)-(i:Nat)) 1)where
 mem:=by simp
 obj:=λi h st b hb=>by
  have e:b=it:=by simpa using hb
  subst e;exact⟨_,st,λv z=>by
   have z':Data.fields _=Data.cell v:=z;cases z'⟩
 keep:=λi h h' st k=>k it (by simp) _ st
 item:=by
  intro X hP hw hK hc i pins s σ H E I hf st hg;subst hP hw hK;obtain⟨f0,f1,f2,f3,f4,f5⟩:=hf it (by simp);have W:=Walks.range (prog:=X.prog) (w:=X.w) (I.ok.hd hc) it lo 1 n;refine W.item i s _ _ hg st λv h' tk hv Pd kk=>?_;obtain⟨t,rfl⟩:=hv;have I1:Inv X pins σ H {s with heap:=h',toks:=tk}:=I.turned (λb o hb e=>kk b o (by simpa using hb) e) f0 f1 f3 f4 f5;refine⟨_,rfl,Mq (s:={s with heap:=h',toks:=tk}) (n:="range_iterator") Pd rfl rfl (by decide) ⟨.int<|lo+i,H,I1,⟨t,?_⟩,⟨rfl,rfl⟩,Pd,λb hb=>(hf b hb).1⟩⟩;rw[Int.mul_one]
 done:=by
  intro X hP hw hK hc i pins s σ H E I hf st hg;subst hP hw hK;obtain⟨f0,f1,f2,f3,f4,f5⟩:=hf it (by simp);exact aah (I.ok.hd hc) st (by have:n<=i:=hg;lia) λh' eb=>⟨rfl,I.turned (t':=s.toks) (λb o hb e=>eb b o hb e) f0 f1 f3 f4 f5⟩
 self:=λ_ _ _ _ _ st h=>aai st h
variable{p:Pos}
section
def dO(K:ACy)(c:TE):TI:=λd H R=>c d H λx b=>∃a,x=.ref a/\(∃e,Ag K b a e)/\R (jN K a) b
def pw(K:ACy)(c:TE):TI:=λd H R=>c d H λx b=>∃a,x=.ref a/\(∃e,BP K b a e)/\R (pk K a) b
theorem BL{l:u7}{f:TE}(hl:PE X l f):PI X tg l (dO X.K f):=by
 intro pins s g H R I h;refine BQ (hl pins s g H _ I h) λv c i=>i.elim λx j d k m=>?_;obtain⟨a,e,⟨u,n⟩,q⟩:=m;subst e;cases k;obtain⟨r,w,p,y⟩:=d.list n;refine M3 p.isList ?_;refine⟨c.heap.objs.size,[c.heap.objs.size],_,_,j,rfl,d.kept (t':=c.toks) λb o e=>be _ e,VQ a _,⟨_,g8 _ rfl,rfl,rfl⟩,λb t=>?_,q⟩;have e:b=c.heap.objs.size:=by simpa using t
 subst e;exact d.Rt (bn _)<|d.Ax.fresh<|bn _
theorem Rw{l:u7}{g:TE}(hl:PE X l g):PI X tg l (pw X.K g):=by
 intro pins s i H R I h;refine BQ (hl pins s i H _ I h) λv c j=>j.elim λx k d m n=>?_;obtain⟨a,e,⟨u,r⟩,q⟩:=n;subst e;cases m;obtain⟨f,w,p,y⟩:=d.tuple r;refine wpAny_pyIter_tuple (show c.heap.IsTuple a f.toArray from p) ?_;refine⟨c.heap.objs.size,[c.heap.objs.size],_,_,k,rfl,d.kept (t':=c.toks) λb o e=>be _ e,Ru a _,⟨_,g8 _ rfl,rfl,rfl⟩,λb t=>?_,q⟩;have e:b=c.heap.objs.size:=by simpa using t
 subst e;exact d.Rt (bn _)<|d.Ax.fresh<|bn _
theorem XG{R:It->Hp->Prop}{lo a:Int}{t u v:Tok}{tk:Nat}(I:Inv X pins σ H s)(d: -(2 ^ 62)<=lo)(f:lo<2 ^ 62)(g: -(2 ^ 62)<=a)(h4:a<2 ^ 62)(q:R (nV lo (a-lo).toNat) H):g5 (i7 X.prog X.w) X.A (aci (.ref s.heap.objs.size)) (ph X pins σ tg R) E {s with heap:=s.heap.push {cls:=.type "range",data:=.fields #[.int lo t,.int a u,.int 1 v]},toks:=tk}:=by
 refine abv (IsRange.new ..) (small_one d f g h4) ?_;have c:Inv X pins σ H {s with heap:=s.heap.push {cls:=.type "range",data:=.fields #[.int lo t,.int a u,.int 1 v]},toks:=tk}:=I.kept λb o e=>be _ e;refine⟨(s.heap.push {cls:=.type "range",data:=.fields #[.int lo t,.int a u,.int 1 v]}).objs.size,[(s.heap.push {cls:=.type "range",data:=.fields #[.int lo t,.int a u,.int 1 v]}).objs.size],_,_,H,rfl,
  c.kept (t':=tk) λb o e=>be _ e,Rv _ lo (a-lo).toNat,?_,λb h=>?_,q⟩
 ·have e1:lo+((0:Nat):Int)*1=lo:=by simp
  have i:(((a-lo).toNat:Nat):Int)-((0:Nat):Int)=P5 lo a 1:=by rw[ady];split<;>lia
  show aaQ _ _ (lo+((0:Nat):Int)*1) ((((a-lo).toNat:Nat):Int)-((0:Nat):Int)) 1;rw[e1,i];exact g8 _ rfl
 ·have e:b=(s.heap.push {cls:=.type "range",data:=.fields #[.int lo t,.int a u,.int 1 v]}).objs.size:=by simpa using h
  subst e;exact c.Rt (bn _)<|c.Ax.fresh<|bn _
def jr(a:TA):TI:=λb H R=>a b H λc d=>∃j:Int,c=[.int j]/\ -(2 ^ 62)<=j/\j<2 ^ 62/\R (nV 0 j.toNat) d
theorem BI{a:u7}{c:TA}{pos:Pos}(d:Gl X "range")(f:X.mg "range"=ν)(g:PA X [a] c)(i:jL [a] X.env=[(false,wP a X.env)]:=by rfl):PI X tg (.Call (.Name "range" p) [a] [] pos) (jr c):=by
 intro pins s k H R I h;refine Call_<|Fs I d f adc<|wE (BQ (g pos pins s k H _ I h) λv w l=>l.elim λx y m n b=>?_) i rfl;obtain⟨j,e,b,o,q⟩:=b;subst e;cases n with
 |cons r u=>
  cases u;obtain⟨t,rfl⟩:=r;exact call_range_1<|XG m (by lia) (by lia) b o<|by simpa using q
structure Go(D:Ends)(P:St->Hp->Prop)(e:Ends):Prop where
 n:∀{σ H},P σ H->e.nx σ H
 r:∀{v H},D.rt v H->e.rt v H
def VR(J:It)(g:TG)(e:TS)(D:Ends)(σ:St)(f:Hp):Prop:=∃W:Nat->Nat->St->Hp->Prop,(∃m,W 0 m σ f)/\∀i m σ H,W i m σ H-> (J.stop i H/\D.nx σ H)∨(J.go i H/\∃N:St->Hp->Prop,(∀a b,N a b->∃d,d<m/\W (i+1) d a b)/\∀x b,J.aJ i H x b->g x σ b λc h=>e {D with nx:=N,ct:=N,bk:=D.nx} c h)
def fg(b:TI)(g:TG)(c:TS):TS:=λD a H=>b a H λJ d=>VR J g c D a d
def Ks(a:List Addr)(h:Heap):List (Addr×Obj):=a.filterMap λb=>(h.get? b).map λo=>(b,o)
theorem FI{a:List Addr}{o:Obj}(c:b∈a)(e:h.get? b=ι o):(b,o)∈Ks a h:=PP.mpr ⟨b,c,by rw[e];rfl⟩
theorem VS{a:List Addr}{p:Addr×Obj}(c:p∈Ks a h):p.1∈a/\h.get? p.1=ι p.2:=by
 obtain⟨b,d,e⟩:=PP.mp c;cases q:h.get? b with
 |none=>rw[q]at e;cases e
 |some o=>
  rw[q]at e;have f:(b,o)=p:=ACw e;subst f;exact⟨d,q⟩
theorem Inv.pinned{a:List Addr}(I:Inv X pins σ H s)(g:∀b∈a,IB X pins H b)(h:∀b∈a,∃o,s.heap.get? b=ι o/\∀v,o.data≠.cell v):Inv X (pins++Ks a s.heap) σ H s:=
 I.Tr λp i=>(db.mp i).elim (λz=>I.pin p (gl _ z)) λz=>by
  obtain⟨c,e⟩:=VS z;obtain⟨j,k,l,_⟩:=g p.1 c;obtain⟨o,f,d⟩:=h p.1 c;rw[e]at f;cases f;exact⟨e,j,k,l,d⟩
theorem Inv.Fx{pl:List (Addr×Obj)}(I:Inv X (pins++pl) σ H s):Inv X pins σ H s:=I.Tr λp a=>I.pin p<|gl _<|e9 _ a
theorem fh{iter:u7}{S:TI}{g:TG}{U:TS}{pos:Pos}(B:adM (i7 X.prog X.w) X.A X.env X.xe)(V:X.calm=true)(hi:PI X tg iter S)(hg:PG X tg g)(c:PM X body U)(hs:∀x,B9 iter X.env x=pure x:=by intro _;rfl):PS X (.For tg iter body [] pos) (fg S g U):=by
 intro pins s Y H D I h;refine wpAny_For (BQ (hi pins s Y H _ I h) λv s1 h1=>BQ h1 λitv s2 h2=>?_) hs;obtain⟨it,C,Z,J,H2,e,I2,T,L,f2,W,⟨m0,w0⟩,turn⟩:=h2;subst e;have j:∀{t:Hp},(∀b∈C,t b=ν)->∀b∈C,IB X pins t b:=λhn b c=>⟨hn b c,(f2 b c).2⟩;refine codeAny_forLoop_any (λn s'=>∃i k t,Inv X pins k t s'/\Z i s'.heap/\(∀b∈C,t b=ν)/\W i n k t) ?_ m0 ⟨0,Y,H2,I2,L,λb c=>(f2 b c).1,w0⟩;rintro n s3 ⟨i,l,K,I3,E,F,w3⟩;rcases turn i n l K w3 with⟨stop,qn⟩|⟨go,N,hN,step⟩
 ·refine FS B (BQ (T.done X rfl rfl rfl V i pins s3 l K X.xe I3 (j F) E stop) λr s4 ⟨M,I4⟩=>?_);subst M;exact Tl ⟨l,K,I4,qn⟩
 ·refine FS B (BQ (T.item X rfl rfl rfl V i pins s3 l K X.xe I3 (j F) E go) λr s4 ⟨u,M,h4⟩=>?_);subst M;refine FS B (BQ h4 λ_ s5 ⟨x,H5,I5,r5,y5,z,O⟩=>?_);have P:=I5.pinned (j O)<|T.obj _ _ z;refine FS B (BQ (hg _ s5 l H5 x u _ P r5<|step x H5 y5) λ_ s6 ⟨Q,H6,I6,q6⟩=>?_);refine FS B (BQ (c _ s6 Q H6 _ I6 q6) λf R y=>?_);have again:∀{a:St}{p:Hp},Inv X (pins++Ks C s5.heap) a p R->N a p->∃m,m<n/\∃i k t,Inv X pins k t R/\Z i R.heap/\(∀b∈C,t b=ν)/\W i m k t:=λ{a p} q G=>by
   obtain⟨m',hm,w7⟩:=hN a p G;refine⟨m',hm,i+1,a,p,q.Fx,T.keep _ _ _ z λb c o e=>(q.pin (b,o)<|gl _<|gl _<|FI c e).1,λb c=>?_,w7⟩;obtain⟨o,e,d⟩:=T.obj _ _ z b c;exact(q.pin (b,o)<|gl _<|gl _<|FI c e).2.1
  cases f with
  |next=>obtain⟨a,p,q,G⟩:=y;exact again q G
  |cont=>obtain⟨a,p,q,G⟩:=y;exact again q G
  |brk=>obtain⟨a,p,q,y⟩:=y;exact⟨a,p,q.Fx,y⟩
  |ret v=>obtain⟨x7,a,p,q,r7,y⟩:=y;exact⟨x7,a,p,q.Fx,r7,y⟩
end
variable{D:Ends}
theorem Br{g:TG}{c:TS}(Pv:Nat->St->Hp->Prop)(d:Pv 0 σ H)(hl:∀i σ H,i<=xs.length->Pv i σ H->Ag K H a xs)(f:∀i x σ H e,Go D (Pv (i+1)) e->xs[i]?=ι x->Pv i σ H->g x σ H (c e))(h:∀σ H,Pv xs.length σ H->D.nx σ H):
  VR (jN K a) g c D σ H:=by
 refine⟨λi m σ H=>m=xs.length-i/\i<=xs.length/\Pv i σ H,⟨xs.length,by simp,d9 _,d⟩,?_⟩;rintro i m σ H ⟨rfl,j,p⟩;have q:=hl i σ H j p;by_cases b:i<xs.length
 ·refine .inr ⟨⟨xs,xs[i],q,by simp[b]⟩,Pv<|i+1,λk l n=>⟨xs.length-(i+1),by lia,rfl,b,n⟩,λx l y=>?_⟩;obtain⟨e,y⟩:=y;subst e;exact f i x σ _ _ ⟨id,id⟩ (y xs q) p
 ·have e:i=xs.length:=by lia
  subst e;exact .inl ⟨⟨xs,q,bn _⟩,h σ H p⟩
theorem Ts{g:TG}{c:TS}(Pv:Nat->St->Hp->Prop)(d:Pv 0 σ H)(hl:∀i σ H,i<=xs.length->Pv i σ H->BP K H a xs)(f:∀i x σ H e,Go D (Pv (i+1)) e->xs[i]?=ι x->Pv i σ H->g x σ H (c e))(h:∀σ H,Pv xs.length σ H->D.nx σ H):
  VR (pk K a) g c D σ H:=by
 refine⟨λi m σ H=>m=xs.length-i/\i<=xs.length/\Pv i σ H,⟨xs.length,by simp,d9 _,d⟩,?_⟩;rintro i m σ H ⟨rfl,j,p⟩;have q:=hl i σ H j p;by_cases b:i<xs.length
 ·refine .inr ⟨⟨xs,xs[i],q,by simp[b]⟩,Pv<|i+1,λk l n=>⟨xs.length-(i+1),by lia,rfl,b,n⟩,λx l y=>?_⟩;obtain⟨e,y⟩:=y;subst e;exact f i x σ _ _ ⟨id,id⟩ (y xs q) p
 ·have e:i=xs.length:=by lia
  subst e;exact .inl ⟨⟨xs,q,bn _⟩,h σ H p⟩
theorem Ce{lo:Int}{n:Nat}{g:TG}{b:TS}(Pv:Nat->St->Hp->Prop)(c:Pv 0 σ H)(d:∀i σ H e,Go D (Pv (i+1)) e->i<n->Pv i σ H->g (.int (lo+i)) σ H (b e))(f:∀σ H,Pv n σ H->D.nx σ H):
  VR (nV lo n) g b D σ H:=by
 refine⟨λi m σ H=>m=n-i/\i<=n/\Pv i σ H,⟨n,by simp,d9 _,c⟩,?_⟩;rintro i m σ H ⟨rfl,l,p⟩;by_cases a:i<n
 ·refine .inr ⟨a,Pv<|i+1,λh j k=>⟨n-(i+1),by lia,rfl,a,k⟩,λx j y=>?_⟩;obtain⟨e,y⟩:=y;subst e y;exact d i σ _ _ ⟨id,id⟩ a p
 ·have e:i=n:=by lia
  subst e;exact .inl ⟨bn _,f σ H p⟩
abbrev R2:=V->V->Hp->VK->Prop
def Dr(X:Cx)(f:b7->b7->Sem b7)(r:R2):Prop:=
 ∀(pins:List (Addr×Obj))(s:d8)(a:St)(H:Hp)(x y:V)(v u:b7)(Q:VK),Inv X pins a H s->RelV x v->RelV y u->r x y H Q->
  g5 (i7 X.prog X.w) X.A (f v u) (EP X pins a Q) X.xe s
def pz(X:Cx)(f:b7->Sem b7)(r:V->Hp->VK->Prop):Prop:=
 ∀(pins:List (Addr×Obj))(s:d8)(a:St)(H:Hp)(x:V)(v:b7)(Q:VK),Inv X pins a H s->RelV x v->r x H Q->
  g5 (i7 X.prog X.w) X.A (f v) (EP X pins a Q) X.xe s
def Bo(X:Cx)(f:b7)(r:List V->Hp->VK->Prop):Prop:=
 ∀(pins:List (Addr×Obj))(s:d8)(a:St)(H:Hp)(b:List V)(c:List b7)(Q:VK),Inv X pins a H s->Vals b c->r b H Q->
  g5 (i7 X.prog X.w) X.A (call f c) (EP X pins a Q) X.xe s
def p_(X:Cx)(r:V->Hp->(Bool->Hp->Prop)->Prop):Prop:=
 ∀(pins:List (Addr×Obj))(s:d8)(a:St)(H:Hp)(x:V)(v:b7)(Q:Bool->Hp->Prop),Inv X pins a H s->RelV x v->r x H Q->
  g5 (i7 X.prog X.w) X.A (truthy v) (TP X pins a Q) X.xe s
def Wu(r:R2)(b c:TE):TE:=λa H Q=>b a H λx d=>c a d λy e=>r x y e Q
def xl(r:V->Hp->VK->Prop)(a:TE):TE:=λb H Q=>a b H λx c=>r x c Q
inductive xn(C:Int->Int->Prop)(g:Int->Int->V)(x y:V)(H:Hp)(Q:VK):Prop
 |mk(i j:_)(a:x=.int i)(b:y=.int j)(c:C i j)(d:Q (g i j) H)
def rI(C:Int->Int->Prop)(g:Int->Int->V):R2:=λx y H Q=>xn C g x y H Q
inductive qA(g:Int->Int->V)(x y:V)(H:Hp)(Q:VK):Prop
 |mk(i j:_)(a:x=.int i)(b:y=.int j)(c:Q (g i j) H)
def dP(g:Int->Int->V):R2:=λx y H Q=>qA g x y H Q
inductive xo(g:Int->V)(x:V)(H:Hp)(Q:VK):Prop
 |mk(i:_)(a:x=.int i)(b:Q (g i) H)
def rU(g:Int->V):V->Hp->VK->Prop:=λx H Q=>xo g x H Q
variable{f:b7->b7->Sem b7}{g:Int->Int->Int}
section
variable {a b:u7} {tc:TE} {pos:Pos}
theorem fj(k:PE X a ta)(l:PE X b tb){R:V->V->Hp->Prop}(I:Inv X pins σ H s)(h:ta σ H λx i=>tb σ i λy H2=>R x y H2)(m:∀v u g x y H2,Inv X pins σ H2 g->RelV x v->RelV y u->R x y H2->g5 (i7 X.prog X.w) X.A (f v u) Q X.xe g):
  g5 (i7 X.prog X.w) X.A (wP a X.env) (λv d=>g5 (i7 X.prog X.w) X.A (wP b X.env) (λu e=>g5 (i7 X.prog X.w) X.A (f v u) Q X.xe e) X.xe d) X.xe s:=by
 refine BQ (k pins s σ H _ I h) λv n j=>j.elim λx i o p q=>?_;refine BQ (l pins n σ i _ o q) λu g j=>j.elim λy H2 r t z=>?_;exact m v u g x y H2 r p t z
theorem AN{op:Operator}{r:R2}(d:Dr X (Is op) r)(e:PE X a ta)(f:PE X b tb):PE X (.BinOp a op b pos) (Wu r ta tb):=by
 intro pins s g H Q I h;exact wpAny_BinOp<|fj e f I h λv u i x y j k l m q=>d pins i g j x y v u Q k l m q
theorem Pe{op:UnaryOp}{r:V->Hp->VK->Prop}(e:pz X (unaryOp op) r)(f:PE X a ta):PE X (.UnaryOp op a pos) (xl r ta):=by
 intro pins s d H Q I h;exact UnaryOp_<|BQ (f pins s d H _ I h) λv g i=>i.elim λx j k l m=>e pins g d j x v Q k l m
theorem nW{C:Int->Int->Prop}(rule:∀(i j:Int) (t u:Tok) (s:d8) (Q:b7->d8->Prop) (E:b7->d8->Prop),C i j->Q (.int (g i j) s.toks) {s with toks:=s.toks+1}->g5 (i7 X.prog X.w) X.A (f (.int i t) (.int j u)) Q E s):
  Dr X f (rI C λi j=>.int (g i j)):=by
 intro pins s m H x y v u Q I d e h;obtain⟨i,j,rfl,rfl,k,q⟩:=h;obtain⟨t,rfl⟩:=d;obtain⟨l,rfl⟩:=e;exact rule i j t l s _ _ k ⟨.int<|g i j,H,I.tok _,⟨_,rfl⟩,q⟩
theorem jt  (rule:∀(i j:Int)(t u:Tok)(s:d8)(Q:b7->d8->Prop)(E:b7->d8->Prop),Q (.int (g i j) s.toks) {s with toks:=s.toks+1}->g5 (i7 X.prog X.w) X.A (f (.int i t) (.int j u)) Q E s):
  Dr X f (dP λi j=>.int (g i j)):=by
 intro pins s l H x y v u Q I d e h;obtain⟨i,j,rfl,rfl,q⟩:=h;obtain⟨t,rfl⟩:=d;obtain⟨k,rfl⟩:=e;exact rule i j t k s _ _ ⟨.int<|g i j,H,I.tok _,⟨_,rfl⟩,q⟩
theorem aZ{g:Int->Int->Bool}(rule:∀(i j:Int) (t u:Tok) (s:d8) (Q:b7->d8->Prop) (E:b7->d8->Prop),Q (.bool (g i j)) s->g5 (i7 X.prog X.w) X.A (f (.int i t) (.int j u)) Q E s):
  Dr X f (dP λi j=>.bl (g i j)):=by
 intro pins s l H x y v u Q I d e h;obtain⟨i,j,rfl,rfl,q⟩:=h;obtain⟨t,rfl⟩:=d;obtain⟨k,rfl⟩:=e;exact rule i j t k s _ _ ⟨.bl<|g i j,H,I,rfl,q⟩
def ju(i j:Int):Prop:=0<j/\j<1073741824
def qB(i j:Int):Prop:=0<=j/\j<=1000000/\i.natAbs<2 ^ 64
def fq(i j:Int):Prop:=(-(2 ^ 64)<i/\i<2 ^ 64)∨(-(2 ^ 64)<j/\j<2 ^ 64)
theorem fq.ok{i j:Int}(h:fq i j):IntMulOk i j:=by
 rcases h with⟨d,e⟩|⟨d,e⟩
 ·exact .of_left<|adz d e
 ·exact .of_right<|adz d e
theorem Bi:Dr X (Is .Add) (dP λi j=>.int (i+j)):=jt λ_ _ _ _ _ _ _ q=>add_int q
theorem Fy:Dr X (Is .Sub) (dP λi j=>.int (i-j)):=jt λ_ _ _ _ _ _ _ q=>sub_int q
theorem HW:Dr X (Is .Mult) (rI fq λi j=>.int (i*j)):=nW λ_ _ _ _ _ _ _ d q=>mul_int q d.ok
theorem CG:Dr X (Is .FloorDiv) (rI ju λi j=>.int (i/j)):=nW λi j _ _ _ _ _ d q=>by
 have e:(0:Int)<j:=d.1;have f:j<1073741824:=d.2;exact floordiv_int (by lia) (by rw[Int.fdiv_eq_ediv_of_nonneg i<|by lia];exact q)<|.inl<|PyProof.noPylong_small<|by lia
theorem BE:Dr X (Is .Mod) (rI (λ_ j=>0<j) λi j=>.int (i % j)):=nW λi j _ _ _ _ _ d q=>by
 have e:(0:Int)<j:=d;exact mod_int' (by lia)<|by rw[Int.fmod_eq_emod_of_nonneg i<|by lia];exact q
theorem Rx:Dr X (Is .Pow) (rI qB λi j=>.int (i ^ j.toNat)):=nW λ_ _ _ _ _ _ _ d q=>pow_int_small d.1 d.2.1 d.2.2 q
theorem xp{f:b7->Sem b7}{g:Int->Int}(rule:∀(i:Int) (t:Tok) (s:d8) (Q:b7->d8->Prop) (E:b7->d8->Prop),Q (.int (g i) s.toks) {s with toks:=s.toks+1}->g5 (i7 X.prog X.w) X.A (f (.int i t)) Q E s):
  pz X f (rU λi=>.int (g i)):=by
 intro pins s e H x v Q I d h;obtain⟨i,rfl,q⟩:=h;obtain⟨t,rfl⟩:=d;exact rule i t s _ _ ⟨.int<|g i,H,I.tok _,⟨_,rfl⟩,q⟩
theorem Kt:pz X (unaryOp .USub) (rU λi=>.int (-i)):=xp λ_ _ _ _ _ q=>neg_int q
end
noncomputable def jv:V->V->Bool
 | .BB,.BB=>true| .BB,.int _=>true| .int _,.BB=>true| .BB,.bl _=>true| .bl _,.BB=>true| .BB,.str _=>true| .str _,.BB=>true
 | .int _,.int _=>true| .bl _,.bl _=>true| .str _,.str _=>true| .To _,.To _=>true
 | .int _,.str _=>true| .str _,.int _=>true| .bl _,.str _=>true| .str _,.bl _=>true
 |_,_=>false
def u_:R2:=λx y H Q=>jv x y=true/\Q (.bl<|decide<|x=y) H
def xq:R2:=λx y H Q=>jv x y=true/\Q (.bl<|!decide (x=y)) H
theorem Tt{i j:Int}:decide (V.int i=V.int j)=(i==j):=by
 rw[F9];simp
theorem XH{i j:Bool}:decide (V.bl i=V.bl j)=(i==j):=by
 rw[F9];simp
theorem Tu{i j:Str}:decide (V.str i=V.str j)=(i==j):=by
 rw[F9];simp
theorem Tv{i j:Array UInt8}:decide (V.To i=V.To j)=(i.toList==j.toList):=by
 rw[F9];cases i;cases j;simp
section
variable {a b:u7} {tc:TE} {pos:Pos}
theorem BH{Q:VK}{k d:Bool}(I:Inv X pins σ H s)(q:Q (.bl k) H)(e:k=d):EP X pins σ Q (.bool d) s:=by
 subst e;exact⟨.bl k,H,I,rfl,q⟩
theorem BR:Dr X (u5 .Eq) u_:=by
 intro pins s k H x y v u Q I g d h;obtain⟨f,q⟩:=h;cases x with
 |BB=>
  cases g;cases y with
  |BB=>cases d;exact PySem.EqNone.eq_none_none (BH I q (by simp))
  |bl j=>cases d;exact PySem.EqNone.eq_none_bool (BH I q (by simp))
  |int j=>obtain⟨e,rfl⟩:=d;exact PySem.EqNone.eq_none_int (BH I q (by simp))
  |str j=>obtain⟨e,rfl⟩:=d;exact PySem.EqNone.eq_none_str (BH I q (by simp))
  |_=>exact absurd (show false=true from f) i8
 |bl i=>
  cases g;cases y with
  |BB=>cases d;exact PySem.EqNone.eq_bool_none (BH I q (by simp))
  |bl j=>cases d;exact eq_bool (BH I q XH)
  |str j=>obtain⟨e,rfl⟩:=d;exact PySem.EqMixed.eq_bool_str (BH I q (by simp))
  |_=>exact absurd (show false=true from f) i8
 |int i=>
  obtain⟨t,rfl⟩:=g;cases y with
  |BB=>cases d;exact PySem.EqNone.eq_int_none (BH I q (by simp))
  |int j=>obtain⟨e,rfl⟩:=d;exact eq_int (BH I q Tt)
  |str j=>obtain⟨e,rfl⟩:=d;exact PySem.EqMixed.eq_int_str (BH I q (by simp))
  |_=>exact absurd (show false=true from f) i8
 |str i=>
  obtain⟨t,rfl⟩:=g;cases y with
  |BB=>cases d;exact PySem.EqNone.eq_str_none (BH I q (by simp))
  |bl j=>cases d;exact PySem.EqMixed.eq_str_bool (BH I q (by simp))
  |int j=>obtain⟨e,rfl⟩:=d;exact PySem.EqMixed.eq_str_int (BH I q (by simp))
  |str j=>obtain⟨e,rfl⟩:=d;exact eq_str (BH I q Tu)
  |_=>exact absurd (show false=true from f) i8
 |To i=>
  obtain⟨t,rfl⟩:=g;cases y with
  |To j=>obtain⟨e,rfl⟩:=d;exact PySem.W.eq_bytes (BH I q Tv)
  |_=>exact absurd (show false=true from f) i8
 |_=>cases y<;>exact absurd (show false=true from f) i8
theorem dQ:Dr X (u5 .NotEq) xq:=by
 intro pins s k H x y v u Q I g d h;obtain⟨f,q⟩:=h;cases x with
 |BB=>
  cases g;cases y with
  |BB=>cases d;exact PySem.EqNone.ne_none_none (BH I q (by simp))
  |bl j=>cases d;exact PySem.EqNone.ne_none_bool (BH I q (by simp))
  |int j=>obtain⟨e,rfl⟩:=d;exact PySem.EqNone.ne_none_int (BH I q (by simp))
  |str j=>obtain⟨e,rfl⟩:=d;exact PySem.EqNone.ne_none_str (BH I q (by simp))
  |_=>exact absurd (show false=true from f) i8
 |bl i=>
  cases g;cases y with
  |BB=>cases d;exact PySem.EqNone.ne_bool_none (BH I q (by simp))
  |bl j=>cases d;exact ne_bool (BH I q (congrArg not XH))
  |str j=>obtain⟨e,rfl⟩:=d;exact PySem.EqMixed.ne_bool_str (BH I q (by simp))
  |_=>exact absurd (show false=true from f) i8
 |int i=>
  obtain⟨t,rfl⟩:=g;cases y with
  |BB=>cases d;exact PySem.EqNone.ne_int_none (BH I q (by simp))
  |int j=>obtain⟨e,rfl⟩:=d;exact ne_int (BH I q (congrArg not Tt))
  |str j=>obtain⟨e,rfl⟩:=d;exact PySem.EqMixed.ne_int_str (BH I q (by simp))
  |_=>exact absurd (show false=true from f) i8
 |str i=>
  obtain⟨t,rfl⟩:=g;cases y with
  |BB=>cases d;exact PySem.EqNone.ne_str_none (BH I q (by simp))
  |bl j=>cases d;exact PySem.EqMixed.ne_str_bool (BH I q (by simp))
  |int j=>obtain⟨e,rfl⟩:=d;exact PySem.EqMixed.ne_str_int (BH I q (by simp))
  |str j=>obtain⟨e,rfl⟩:=d;exact ne_str (BH I q (congrArg not Tu))
  |_=>exact absurd (show false=true from f) i8
 |To i=>
  obtain⟨t,rfl⟩:=g;cases y with
  |To j=>obtain⟨e,rfl⟩:=d;exact PySem.W.ne_bytes (BH I q (congrArg not Tv))
  |_=>exact absurd (show false=true from f) i8
 |_=>cases y<;>exact absurd (show false=true from f) i8
theorem Jh:Dr X (u5 .Lt) (dP λi j=>.bl (decide (i<j))):=aZ λ_ _ _ _ _ _ _ q=>lt_int q
theorem Pf:Dr X (u5 .LtE) (dP λi j=>.bl (decide (i<=j))):=aZ λ_ _ _ _ _ _ _ q=>le_int q
theorem Tw:Dr X (u5 .Gt) (dP λi j=>.bl (decide (j<i))):=aZ λ_ _ _ _ _ _ _ q=>gt_int q
theorem jx:Dr X (u5 .GtE) (dP λi j=>.bl (decide (j<=i))):=aZ λ_ _ _ _ _ _ _ q=>ge_int q
inductive Jv(x y:V)(H:Hp)(Q:VK):Prop
 |mk(i j:_)(d:x=.str i)(e:y=.str j)(f:Q (.bl (!(!(Builtin.Str.occurrences j i 0 j.length 1).isEmpty))) H)
def Ku:V->V->Hp->VK->Prop:=λx y H Q=>Jv x y H Q
theorem Nw:Dr X (u5 .NotIn) Ku:=by
 intro pins s f H x y v u Q I d e h;obtain⟨i,j,rfl,rfl,q⟩:=h;obtain⟨t,rfl⟩:=d;obtain⟨g,rfl⟩:=e;exact notIn_str<|BH I q rfl
theorem Aa(b:u7)(h:op≠.In:=by decide)(d:op≠.NotIn:=by decide):O1 op b=false:=by
 have e1:(op==CmpOp.In)=false:=by cases op<;>first|rfl|exact absurd rfl h
 have e:(op==CmpOp.NotIn)=false:=by cases op<;>first|rfl|exact absurd rfl d
 cases b<;>simp[O1,e1,e]
theorem FJ{r:R2}(d:Dr X (u5 op) r)(e:PE X a ta)(f:PE X b tb)(g:O1 op b=false):PE X (.Compare a [op] [b] pos) (Wu r ta tb):=by
 intro pins s i H Q I h;exact adl (fj e f I h λv u j x y k l m n q=>d pins j i k x y v u Q l m n q) g
def XI(t:TE):TT:=λd H Q=>t d H λx e=>uz x e Q
theorem AO{r:R2}(f:Dr X (u5 op) r)(g:PE X a ta)(i:PE X b tb)(j:O1 op b=false):PT X (.Compare a [op] [b] pos) (XI (Wu r ta tb)):=by
 intro pins s d H Q I h;refine aaB (BQ (g pins s d H _ I h) λv l m=>m.elim λx n o p q=>BQ (i pins l d n _ o q) λu t ⟨y,w,A,B,C⟩=>
  BQ (f pins t d w x y v u _ A p B C) λc J ⟨z,D,E,F,k,e,G⟩=>?_) j
 subst e;cases F;exact u9 ⟨D,E,G⟩
def XJ(r f:R2)(ta tb tc:TE):TE:=λd H Q=>ta d H λx g=>tb d g λy h=>r x y h λz e=>∃k,z=.bl k/\ (if k=true then tc d e λi j=>f y i j Q else Q (.bl false) e)
theorem Pg{f:CmpOp}{r l:R2}(q:Dr X (u5 op) r)(i:Dr X (u5 f) l)(t:PE X a ta)(w:PE X b tb)(A:PE X c tc)(B:lastMarks [op,f] [b,c]=false:=by with_unfolding_all rfl):PE X (.Compare a [op,f] [b,c] pos) (XJ r l ta tb tc):=by
 intro pins s g H Q I h;refine Compare_chain (BQ (t pins s g H _ I h) λv C j=>j.elim λx D E F G=>chain_link (BQ (w pins C g D _ E G) λu J ⟨y,K,L,m,M⟩=>
  BQ (q pins J g K x y v u _ L F m M) λd N ⟨z,n,o,O,k,e,p⟩=>?_)) B
 subst e;cases O;refine u9 ?_;cases k with
 |false=>exact ite_ff ⟨.bl false,n,o,rfl,p⟩
 |true=>exact ite_tt (chain_last (BQ (A pins N g n _ o p) λP R j=>j.elim λS T U V W=>i pins R g T y S u P Q U m V W))
theorem XM{f:CmpOp}{r l:R2}(q:Dr X (u5 op) r)(i:Dr X (u5 f) l)(t:PE X a ta)(w:PE X b tb)(A:PE X c tc)(B:lastMarks [op,f] [b,c]=false:=by with_unfolding_all rfl):PT X (.Compare a [op,f] [b,c] pos) (XI (XJ r l ta tb tc)):=by
 intro pins s g H Q I h;refine isTrue_chain (BQ (t pins s g H _ I h) λv C j=>j.elim λx D E F G=>test_link (BQ (w pins C g D _ E G) λu J ⟨y,K,L,m,M⟩=>
  BQ (q pins J g K x y v u _ L F m M) λd N ⟨z,n,o,O,k,e,p⟩=>?_)) B
 subst e;cases O;refine u9 ?_;cases k with
 |false=>
  obtain⟨k',P,R⟩:=p;cases P;exact ite_ff ⟨n,o,R⟩
 |true=>
  refine ite_tt (test_last<|BQ (A pins N g n _ o p) λS T j=>j.elim λU V W Y Z=>BQ (i pins T g V y U u S _ W m Y Z) λd' s5 ⟨z2,H5,I5,r5,k2,e2,q5⟩=>?_);subst e2;cases r5;exact u9 ⟨H5,I5,q5⟩
def jy(K:ACy)(x:V)(H:Hp)(k:Bool):Prop:=
 match x with
 | .BB=>k=false
 | .bl b=>k=b
 | .int i=>k=(i !=0)
 | .str y=>y.length<=sizeLine/\k=((y.length:Int) !=0)
 | .To y=>y.size<=sizeLine/\k=((y.size:Int) !=0)
 | .ref p=>(∃d,Ag K H p d/\k= !d.isEmpty)∨(∃d,BP K H p d/\k= !d.isEmpty)∨∃kvs,H p=ι (.dK kvs)/\k= !kvs.isEmpty
 |_=>False
theorem Ry{d:Type}{kvs:List (d×V)}{vs:List (d×b7)}(r:KV kvs vs):(!vs.isEmpty)= !kvs.isEmpty:=by
 cases r<;>rfl
theorem Kv{its:List b7}(r:Vals xs its):(!its.toArray.isEmpty)= !xs.isEmpty:=by
 cases r<;>simp
theorem Fz:(sizeLine:Nat)<2 ^ 63:=by rw[M7];decide
theorem ft:p_ X (λx H Q=>∃k,jy X.K x H k/\Q k H):=by
 intro pins s B H x v Q I g h;obtain⟨k,e,q⟩:=h;have C:=Fz;have D:sizeLine=16777216:=M7;cases x with
 |BB=>
  cases g;have d:k=false:=e;subst d;exact truthy_none ⟨H,I,q⟩
 |bl b=>
  cases g;have d:k=b:=e;subst d;exact u9 ⟨H,I,q⟩
 |int i=>
  obtain⟨t,rfl⟩:=g;have d:k=(i !=0):=e;subst d;exact PySem.P.truthy_int ⟨H,I,q⟩
 |str y=>
  obtain⟨t,rfl⟩:=g;obtain⟨z,d⟩:y.length<=sizeLine/\k=((y.length:Int) !=0):=e;subst d;exact PySem.P.truthy_str (by lia) ⟨H,I.tok _,q⟩
 |To y=>
  obtain⟨t,rfl⟩:=g;obtain⟨z,d⟩:y.size<=sizeLine/\k=((y.size:Int) !=0):=e;subst d;exact PySem.W.truthy_bytes (by lia) ⟨H,I.tok _,q⟩
 |ref p=>
  cases g;have d:(∃f,Ag X.K H p f/\k= !f.isEmpty)∨(∃f,BP X.K H p f/\k= !f.isEmpty)∨∃kvs,H p=ι (.dK kvs)/\k= !kvs.isEmpty:=e;rcases d with⟨f,j,d⟩|⟨f,j,d⟩|⟨kvs,j,d⟩
  ·subst d;obtain⟨n,r,o,u⟩:=I.list j;have hlen:=r.length;exact wpAny_truthy_list o.isList (by simp only[cr];lia) ⟨H,I.tok _,by rw[Kv r];exact q⟩
  ·subst d;obtain⟨n,r,o,u⟩:=I.tuple j;have hlen:=r.length;exact truthy_tuple o (by simp only[cr];lia) ⟨H,I.tok _,by rw[Kv r];exact q⟩
  ·subst d;obtain⟨u,A,l,r,m⟩:kvs.length<=sizeLine/\(p==A2)=false/\∃l,KV kvs l/\s.heap.DictOf (Ah X.prog X.w) p l:=I.Ax p _ j;have hlen:kvs.length=l.length:=L8 r;exact wpAny_truthy_dict A m (by lia) ⟨H,I.tok _,by rw[Ry r];exact q⟩
 |_=>exact(show False from e).elim
theorem XN(d:PE X a ta)(e:∀whole,ac2 a X.env whole=(do let v<-whole;adQ a.pos;P7 [v] (truthy v))):
  PT X a (fun σ H Q=>ta σ H λx H'=>∃k,jy X.K x H' k/\Q k H'):=by
 intro pins s σ H Q I h;exact isTrue_plain (BQ (d pins s σ H _ I h) λv f g=>g.elim λx i j l m=>ft pins f σ i x v Q j l m)<|e _
inductive MQ(x y:V)(H:Hp)(Q:VK):Prop
 |mk(i j:_)(d:x=.str i)(e:y=.str j)(f:i.length+j.length<=sizeLine)(g:Q (.str (i++j)) H)
def Nx:V->V->Hp->VK->Prop:=λx y H Q=>MQ x y H Q
theorem Dz:Dr X (Is .Add) Nx:=by
 intro pins s k H x y v u Q I d e h;obtain⟨i,j,rfl,rfl,f,q⟩:=h;obtain⟨t,rfl⟩:=d;obtain⟨g,rfl⟩:=e;exact add_str (λg l=>⟨.str<|i++j,H,I.tok _,⟨_,rfl⟩,q⟩) f
theorem vals1{x:V}(r:Vals [x] us):∃u,us=[u]/\RelV x u:=by
 cases r with
 |cons d e=>cases e;exact⟨_,rfl,d⟩
theorem vals2{x y:V}(r:Vals [x,y] us):∃u d,us=[u,d]/\RelV x u/\RelV y d:=by
 cases r with
 |cons e f=>
  cases f with
  |cons g h=>cases h;exact⟨_,_,rfl,e,g⟩
end
structure Rz(h:Heap)(x dx C:Addr)(mA:Str->Option b7):Prop where
 obj:h.get? x=ι (C4 C dx)
 ns:h.Ns1 dx mA
 ne:dx≠x
theorem VT{c:Addr}{d:Str->Option b7}(n:h.Ns1 c d):∃f,h.get? c=ι f/\∀name,V9 name f=ι (d name):=by
 obtain⟨o,g,r,i,j,k,_,l⟩:=n;refine⟨o,i,λname=>?_⟩;have e:=l name;unfold nsFind findBy at e;rw[<-Array.find?_toList]at e;unfold V9;rw[j];dsimp only;split
 ·rename_i y q
  rw[q]at e;exact congrArg ι e
 ·rename_i q
  rw[q]at e;have a:g.toList.any (·.refKey)=false:=by
   rw[acc];intro y m;obtain⟨z,t,b⟩:=k y<|aa6.mp m;simp[DictEntry.refKey,b]
  have p:¬g.toList.any (·.refKey)=true:=by rw[a];exact i8
  rw[if_neg p];exact congrArg ι e
variable{C:Addr}
theorem Rz.look{x:Addr}{c:Str->Option b7}(I:Rz h x b C c):∃a,PySem.W.InstAt h x (C4 C b) C (ι a)/\∀name,V9 name a=ι (c name):=
 let⟨a,d,e⟩:=VT I.ns
 ⟨a,⟨I.obj,rfl,rfl,d⟩,e⟩
variable{pl:Sem Bool}{prog:om}{dx:Addr}
section
variable {x f:Addr} {mA:Str->Option b7} {name:Str} {v:b7}
theorem get_map{expr:Bool}(X:K.In s.heap)(I:Rz s.heap x dx C mA)(b:N4 K C name=true)(c:Q7 K C=true)(d:q7 K (.ref C) name=ι ν)(e:mA name=ι v)(a:acu v=true)(h:Q v {s with toks:=s.toks+1}):
  g5 (i7 prog w) A (getAttr (.ref x) name expr) Q E s:=by
 obtain⟨i,J,g⟩:=I.look;exact PySem.W.get_value X J (T6 b).1 (PySem.W.findObj_own c d rfl<|by rw[g,e]) a h
theorem XO{Q:b7×List b7->d8->Prop}(X:K.In s.heap)(I:Rz s.heap x dx C mA)(a:N4 K C name=true)(b:q7 K (.ref C) name=ι (ι (.ref f)))(c:U2 K (.ref f)=true)(d:mA name=ν)(h:Q (.ref f,[.ref x]) s):
  g5 (i7 prog w) A (adK (.ref x) name pl) Q E s:=by
 obtain⟨e,J,g⟩:=I.look;exact PySem.W.method_fn X J (T6 a).1 (T6 a).2 b (beq_iff_eq.mp c) (by show(V9 name e).map (·.isSome)=ι false;rw[g,d];rfl) h
theorem aa{ns:List Str}{Q:Unit->d8->Prop}(X:K.In s.heap)(I:Rz s.heap x dx C mA)(k:q7 K (.ref C) "__setattr__"=ι (ι (.builtin "object.__setattr__")))(l:X0 K C=true)(m:aat K C name=ι ν)(n:Q7 K C=true)(hw:abZ mA ns)(hsz:ns.length<=sizeLine)(h:∀h',Rz h' x dx C (λy=>if y=name then ι v else mA y)->C9 dx s.heap h'->Q () {s with heap:=h',toks:=s.toks+2}):
  g5 (i7 prog w) A (setAttr (.ref x) name v) Q E s:=by
 obtain⟨u,J,z⟩:=I.look;refine PySem.W.set_plain X J k (PySem.W.osa_open (s:={s with toks:=s.toks+1}) (r:=ν) X J l m λb=>?_);obtain⟨B,o,e⟩:=PySem.W.any_some n;have p:s.heap.get? x=ι ⟨.ref C,ι dx,.plain, #[]⟩:=I.obj;refine am<|ce<|am<|am<|wpAny_loadPart p<|am<|PySem.W.Looks.here (s:={s with toks:=s.toks+1}) (PySem.W.looks_clsIn X o) ?_;rw[e];refine ce (a:=ι dx)<|am<|ce<|am ?_;refine wpAny_nsSet1 (s:={s with toks:=s.toks+1}) I.ns λh' c d=>?_;obtain⟨D,q,t,g,i,j⟩:=c.count<|PySem.Within.cons name v hw;refine am<|wpAny_lookBehind g (by rw[i];exact pastItsLine_dict<|j5 j<|by rw[g6];lia) ?_;exact ce<|h _ ⟨(d.2 _<|k8 I.ne).trans I.obj,c,I.ne⟩ d
theorem XP{R:abt->d8->Prop}{vs:List b7}{a:List (Str×b7)}(X:K.In s.heap)(b:aau K C=true)(c:q7 K (.ref C) "__init__"=ι (ι (.ref f)))(e:PySem.W.typeIn K (.ref f)=ι (.type "function"))(h:E8 (i7 prog w) (A.under (.builtin "type.__call__" ⟨.ref C::vs,a⟩)) (.call (.ref f) ⟨.ref (s.heap.objs.size+1)::vs,a⟩) (PySem.W.InitBack (s.heap.objs.size+1) R)
   {s with heap:=(s.heap.push x4).push (C4 C s.heap.objs.size)}):
  E8 (i7 prog w) A (.call (.ref C) ⟨vs,a⟩) R s:=by
 obtain⟨i,g,d,t,os⟩:=s;exact PySem.W.make_core (PySem.W.makes_of X b) (PySem.W.looks_findIn X c) (λself=>PySem.W.bind_fn X self e) (.inl rfl) h
end
noncomputable def Fh(f:Str)(v:V):List (Str×V)->List (Str×V)
 |[]=>[(f,v)]
 |(g,x)::r=>if g=f then(g,v)::r else(g,x)::Fh f v r
theorem De(f g:Str)(v:V):∀fs:List (Str×V),(Fh f v fs).lookup g=if g=f then ι v else fs.lookup g
 |[]=>by
  show B5 g [(f,v)]=_;by_cases h:g=f
  ·have a:(g==f)=true:=beq_iff_eq.mpr h;simp only[B5,a,if_pos h]
  ·have a:(g==f)=false:=beq_eq_false_iff_ne.mpr h;simp only[B5,a,if_neg h]
 |(k,x)::r=>by
  have c:=De f g v r;rw[show Fh f v ((k,x)::r)=(if k=f then(k,v)::r else(k,x)::Fh f v r)from rfl];by_cases b:k=f
  ·rw[if_pos b];by_cases h:g=k
   ·have a:(g==k)=true:=beq_iff_eq.mpr h;simp only[B5,a,if_pos<|h.trans b]
   ·have a:(g==k)=false:=beq_eq_false_iff_ne.mpr h;simp only[B5,a,if_neg λe:g=f=>h<|e.trans b.symm]
  ·rw[if_neg b];by_cases h:g=k
   ·have a:(g==k)=true:=beq_iff_eq.mpr h;simp only[B5,a,if_neg λe:g=f=>b<|h.symm.trans e]
   ·have a:(g==k)=false:=beq_eq_false_iff_ne.mpr h;simp only[B5,a];exact c
theorem JE(f:Str)(v:V):∀fs:List (Str×V),f∈(Fh f v fs).map (·.1)/\∀g,g∈fs.map (·.1)->g∈(Fh f v fs).map (·.1)
 |[]=>⟨by simp[Fh],λg h=>by simp at h⟩
 |(k,x)::r=>by
  obtain⟨b,c⟩:=JE f v r;rw[show Fh f v ((k,x)::r)=(if k=f then(k,v)::r else(k,x)::Fh f v r)from rfl];by_cases a:k=f
  ·rw[if_pos a];subst a;exact⟨by simp,λg h=>by simpa using h⟩
  ·rw[if_neg a];refine⟨?_,λg h=>?_⟩
   ·rw[ge];exact b9 _ b
   ·rw[ge]at h⊢;rcases ca.mp h with e|e
    ·exact ca.mpr<|.inl e
    ·exact b9 _<|c g e
theorem Dg(f:Str)(v:V):∀fs:List (Str×V),(Fh f v fs).length<=fs.length+1
 |[]=>by simp[Fh]
 |(k,x)::r=>by
  have b:=Dg f v r;rw[show Fh f v ((k,x)::r)=(if k=f then(k,v)::r else(k,x)::Fh f v r)from rfl];by_cases a:k=f
  ·rw[if_pos a,g6,g6];lia
  ·rw[if_neg a,g6,g6];lia
theorem FH.some_of{o:Option b7}(r:FH (ι v) o):∃u,o=ι u/\RelV v u:=by
 cases o with
 |none=>exact(show False from r).elim
 |some u=>exact⟨u,rfl,r⟩
theorem FH.none_of{o:Option b7}(r:FH ν o):o=none:=by
 cases o with
 |none=>rfl
 |some u=>exact(show False from r).elim
theorem VU(r:RelV v u):acu u=true:=by
 cases v with
 |BB=>cases(show u=Ev from r);rfl
 |bl b=>cases(show u=G3 b from r);rfl
 |int i=>obtain⟨t,e⟩:=(show∃t,u=IN i t from r);cases e;rfl
 |str x=>obtain⟨t,e⟩:=(show∃t,u=Ix x t from r);cases e;rfl
 |To b=>obtain⟨t,e⟩:=(show∃t,u=ad1 b t from r);cases e;rfl
 |eo b=>obtain⟨t,e⟩:=(show∃t,u=acM b t from r);cases e;rfl
 |ref a=>cases(show u=jM a from r);rfl
 |ty n=>cases(show u=V5 n from r);rfl
section
variable {fs ow:List (Str×V)}
theorem KO(c:Ee P w H h)(e:H a=ι (.ins C dx fs)):∃b,Rz h a dx C b/\(∀f,FH (fs.lookup f) (b f))/\abZ b (fs.map (·.1))/\fs.length<=1000/\H dx=ι (.own a):=by
 obtain⟨d,z,ne,g,b,n,r,q⟩:=(show Ay P w H h a (.ins C dx fs)from c a _ e);exact⟨b,⟨g,n,ne⟩,r,q,z,d⟩
end
structure Tx(K:ACy)(C:Addr):Prop where
 pg:N4 K C ael=true
 hd:Q7 K C=true
 po:X0 K C=true
 sa:q7 K (.ref C) "__setattr__"=ι (ι (.builtin "object.__setattr__"))
theorem Tx.get(c:Tx K C)(f:Str):N4 K C f=true:=c.pg
def Eb(K:ACy)(C:Addr)(f:Str):Prop:=q7 K (.ref C) f=ι ν
theorem Eb.jz{f:Str}(n:Eb K C f):aat K C f=ι none:=by
 unfold aat;rw[show q7 K (.ref C) f=ι ν from n];rfl
structure Meth(K:ACy)(C:Addr)(m:Str)(f:Addr):Prop where
 at_:q7 K (.ref C) m=ι (ι (.ref f))
 fn:U2 K (.ref f)=true
 kp:n8 K (.ref f)=true
variable{m:Str}
section
variable {fs:List (Str×V)} {f:Str} 
theorem R_{b:Bool}(I:Inv X pins σ H s)(e:H a=ι (.ins C dx fs))(c:Tx X.K C)(n:Eb X.K C f)(l:fs.lookup f=ι v)(h:∀u d,Inv X pins σ H d->RelV v u->Q u d):g5 (i7 X.prog X.w) A (getAttr (.ref a) f b) Q E s:=by
 obtain⟨i,O,r,_,_,_⟩:=KO I.Ax e;obtain⟨u,j,g⟩:=FH.some_of (v:=v) (o:=i f) (by rw[<-l];exact r f);exact get_map I.FG O (c.get f) c.hd n j (VU g)<|h u _ (I.tok _) g
theorem R'{g:Addr}{Q:b7×List b7->d8->Prop}(I:Inv X pins σ H s)(e:H a=ι (.ins C dx fs))(c:Tx X.K C)(k:Meth X.K C m g)(l:fs.lookup m=ν)(h:Q (.ref g,[.ref a]) s):g5 (i7 X.prog X.w) A (adK (.ref a) m pl) Q E s:=by
 obtain⟨b,O,r,_,_,_⟩:=KO I.Ax e;have d:b m=none:=FH.none_of (by rw[<-l];exact r m);exact XO I.FG O (c.get m) k.at_ k.fn d h
theorem SA{y:V}{Q:Unit->d8->Prop}(I:Inv X pins σ H s)(e:H a=ι (.ins C dx fs))(c:Tx X.K C)(n:Eb X.K C f)(hl:fs.length<1000)(m:RelV y u)(h:∀i,Inv X pins σ (upd H a (.ins C dx (Fh f y fs))) i->Q () i):g5 (i7 X.prog X.w) A (setAttr (.ref a) f u) Q E s:=by
 obtain⟨j,O,r,k,_,l⟩:=KO I.Ax e;have p:(fs.map (·.1)).length<=sizeLine:=by rw[ap,M7];lia
 refine aa I.FG O c.sa c.po n.jz c.hd k p λt d B=>h _ ?_;have hd:∃o,t.get? dx=ι o:=let⟨o,_,_,D,_⟩:=d.ns;⟨o,D⟩;refine I.write (x:=a) (e:=dx) (by rw[e];exact wS) (.inr l) (λb q F z=>(B.2 b F).trans z) hd ?_;refine⟨by rw[AH O.ne];exact l,?_,O.ne,d.obj,_,d.ns,λg=>?_,λg G=>?_⟩
 ·have:=Dg f y fs;lia
 ·show FH ((Fh f y fs).lookup g) (if g=f then ι u else j g);rw[De];by_cases q:g=f
  ·rw[if_pos q,if_pos q];exact m
  ·rw[if_neg q,if_neg q];exact r g
 ·by_cases q:g=f
  ·rw[q];exact(JE f y fs).1
  ·refine(JE f y fs).2 g (k g λz=>G ?_);show(if g=f then ι u else j g)=ν;rw[if_neg q];exact z
theorem Inv.made(I:Inv X pins σ H s):Inv X pins σ (upd (upd H s.heap.objs.size (.own (s.heap.objs.size+1))) (s.heap.objs.size+1) (.ins C s.heap.objs.size []))
  {s with heap:=(s.heap.push x4).push (C4 C s.heap.objs.size)}:=by
 have e1:(s.heap.push x4).get? s.heap.objs.size=ι x4:=g8 s.heap rfl;have c:((s.heap.push x4).push<|C4 C s.heap.objs.size).get? (s.heap.objs.size+1)=ι (C4 C s.heap.objs.size):=by
  have:=g8 (s.heap.push x4) (o:=C4 C s.heap.objs.size) rfl;rwa [E4]at this
 have d:(s.heap.push x4).Ns s.heap.objs.size (λ_=>ν):=⟨x4, #[],_,e1,rfl,(λe g=>absurd g<|by simp),λ_=>rfl⟩;have h:=I.laid (a:=s.heap.objs.size) (o:=.own<|s.heap.objs.size+1) (h':=s.heap.push x4) (t':=s.toks) (λb u q=>be _ q) (bn _) ⟨_,e1⟩;refine h.laid (a:=s.heap.objs.size+1) (o:=.ins C s.heap.objs.size []) (t':=s.toks) (λb u q=>be _ q) (adT<|E4 _ _) ?_;have ne:s.heap.objs.size≠s.heap.objs.size+1:=i4<|y9 _;refine⟨by rw[AH ne,AA],d9 _,ne,c,λ_=>ν,(Heap.Ns1.of_empty d).at λo q=>be _ q,λ_=>wS,λy i=>absurd rfl i⟩
theorem ab{env:Env}{pos:Pos}(c:D0 e f env (wP e env)=wP e env)(h:g5 (i7 prog w) A (wP e env) (λo b=>g5 (i7 prog w) A (getAttr o f true) Q E b) E s):g5 (i7 prog w) A (wP (.Attribute e f pos) env) Q E s:=
 Attribute_any_ h (by rw[arm_eval_Attribute,c])
end
def qC(K:ACy)(c:TE)(f:Str):TE:=λd H Q=>c d H λx b=>∃a C e fs v,x=.ref a/\b a=ι (.ins C e fs)/\Tx K C/\Eb K C f/\fs.lookup f=ι v/\Q v b
def qD(K:ACy)(e g:TE)(f:Str):TS:=λD b H=>g b H λy h=>e b h λx c=>∃a C d fs,x=.ref a/\c a=ι (.ins C d fs)/\Tx K C/\Eb K C f/\fs.length<1000/\
 D.nx b (upd c a (.ins C d (Fh f y fs)))
section
variable {o value:u7} {f:Str} {pos qE:Pos} {tv:TE}
theorem JF(b:PE X e ta)(d:D0 e f X.env (wP e X.env)=wP e X.env):PE X (.Attribute e f pos) (qC X.K ta f):=by
 intro pins s g H Q I h;refine ab d (BQ (b pins s g H _ I h) λu w ⟨x,i,j,k,a,C,y,fs,v,m,p,c,n,l,q⟩=>?_);subst m;obtain rfl:u=jM a:=k;exact R_ j p c n l λz A r t=>⟨v,i,r,t,q⟩
theorem SD(d:PE X o ta)(g:PE X value tv)(i:U7 value (ι (.Attribute o f pos')) pos.line X.env=pure false):PS X (.Assign [.Attribute o f pos'] value pos) (qD X.K ta tv f):=by
 intro pins s b H D I h;refine plainObj_wpAny_Assign_Attribute (BQ (g pins s b H _ I h) λu j k=>k.elim λy m p r q=>BQ (d pins j b m _ p q) λov E ⟨x,F,t,v,a,C,G,fs,w,z,c,n,l,A⟩=>?_) i;subst w;obtain rfl:ov=jM a:=v;exact SA t z c n l r λJ B=>⟨b,_,B,A⟩
end
section
variable {c:b7} {b:Bool}
inductive Jw(K:ACy)(H:Hp):V->b7->Prop where
 |BB:Jw K H .BB (.type "NoneType")
 |bl (x:Bool):Jw K H (.bl x) (.type "bool")
 |int (i:Int):Jw K H (.int i) (.type "int")
 |str (x:Str):Jw K H (.str x) (.type "str")
 |eo (x:UInt64):Jw K H (.eo x) (.type "float")
 |lst {a:Addr} {xs:List V} (e:H a=ι (.lst xs)):Jw K H (.ref a) (.type "list")
 |BK {a:Addr} {o:Obj} {xs:List V} (e:H a=ι (.BK o (.lst xs))):Jw K H (.ref a) (.type "list")
 |tup {a:Addr} {xs:List V} (e:H a=ι (.tup xs)):Jw K H (.ref a) (.type "tuple")
 |dK {a:Addr} {kvs:List (Key×V)} (e:H a=ι (.dK kvs)):Jw K H (.ref a) (.type "dict")
 |dT {a:Addr} {kvs:List (List Key×V)} (e:H a=ι (.dT kvs)):Jw K H (.ref a) (.type "dict")
 |ins {a C d:Addr} {fs:List (Str×V)} (e:H a=ι (.ins C d fs)) (cl:Tx K C) (g:q7 K (.ref C) "__class__"=ι (ι (.builtin "object.__class__"))) (h:PySem.W.specialIn K (.builtin "object.__class__") "__get__"=ι (ι (.builtin "getset_descriptor.__get__"))) (f:PySem.W.takesIn K (.builtin "object.__class__")=ι true) (j:PySem.W.mroIn K C (.type "object")=ι true):Jw K H (.ref a) (.ref C)
theorem Eg{x:V}{t:b7}(I:Inv X pins σ H s)(d:RelV x u)(ty:Jw X.K H x t)(e:aaZ X.K t c=ι b)(h:∀tk,Q (.bool b) {s with toks:=tk}):
  g5 (i7 X.prog X.w) A (call (.builtin "isinstance") [u,c]) Q E s:=by
 cases ty with
 |BB=>cases(show u=Ev from d);exact u0 ab9 I.FG wS e (λz=>nomatch z) h
 |bl y=>cases(show u=G3 y from d);exact u0 aca I.FG wS e (λz=>nomatch z) h
 |int i=>obtain⟨t,q⟩:=(show∃t,u=IN i t from d);cases q;exact u0 acr I.FG wS e (λz=>nomatch z) h
 |str y=>obtain⟨t,q⟩:=(show∃t,u=Ix y t from d);cases q;exact u0 acq I.FG wS e (λz=>nomatch z) h
 |eo y=>obtain⟨t,q⟩:=(show∃t,u=acM y t from d);cases q;exact u0 PySem.W.kitx_float I.FG wS e (λz=>nomatch z) h
 |@lst a j f=>
  cases(show u=jM a from d);obtain⟨_,_,n,_,g⟩:=(show Ay X.prog X.w H s.heap a (.lst j)from I.Ax a _ f);exact u0 Q5 I.FG ⟨_,g,rfl⟩ e (λz=>nomatch z) h
 |@BK a r j f=>
  cases(show u=jM a from d);obtain⟨_,_,_,n,_,g⟩:=(show Ay X.prog X.w H s.heap a (.BK r<|.lst j)from I.Ax a _ f);exact u0 Q5 I.FG ⟨_,g,rfl⟩ e (λz=>nomatch z) h
 |@tup a j f=>
  cases(show u=jM a from d);obtain⟨_,_,_,p⟩:=(show Ay X.prog X.w H s.heap a (.tup j)from I.Ax a _ f);obtain⟨o,g,k,_⟩:=p;exact u0 O8 I.FG ⟨o,g,k⟩ e (λz=>nomatch z) h
 |@dK a kvs f=>
  cases(show u=jM a from d);obtain⟨_,_,L,_,p⟩:=(show Ay X.prog X.w H s.heap a (.dK kvs)from I.Ax a _ f);obtain⟨o,v,B,g,k,_⟩:=p;exact u0 Q6 I.FG ⟨o,g,k.1⟩ e (λz=>nomatch z) h
 |@dT a kvs f=>
  cases(show u=jM a from d);obtain⟨_,_,j,_,o,v,B,g,k,_⟩:=(show Ay X.prog X.w H s.heap a (.dT kvs)from I.Ax a _ f);exact u0 Q6 I.FG ⟨o,g,k.1⟩ e (λz=>nomatch z) h
 |@ins a C M fs f m D F l G=>
  cases(show u=jM a from d);obtain⟨N,O,_⟩:=KO I.Ax f;obtain⟨P,J,_⟩:=O.look;exact u0 (PySem.W.kitx_own (m.get _) m.hd D F l G) I.FG J e (λz=>nomatch z) h
end
structure BX(k:Nat)(A:AT):Prop where
 hd:A.handled=ν
 dp:A.depth+3*k+5<recursionLimit
 un:A.units+16*k+200<cLine
 gd:A.guards=ι []
theorem BX.mono{j k:Nat}(r:BX k A)(h:j<=k):BX j A:=⟨r.hd,by have:=r.dp;lia,by have:=r.un;lia,r.gd⟩
theorem BX.deeper{k:Nat}(r:BX (k+1) A)(env:Env):BX k (A.deeper env):=
 ⟨r.hd,by have:=r.dp;show A.depth+1+3*k+5<_;lia,by have:=r.un;show A.units+3+16*k+200<_;lia,r.gd⟩
theorem SE{a:List (Str×b7)}:(A.under (.builtin "type.__call__" ⟨.ref C::us,a⟩)).depth=A.depth+1:=by
 first|rfl|simp[aag,Code.weight,Code.isCreation,Code.isGuard,Code.isCaller,Code.frames,Code.isFrame,guardIds]
theorem SG{a:List (Str×b7)}:(A.under (.builtin "type.__call__" ⟨.ref C::us,a⟩)).units=A.units+1:=by
 first|rfl|simp[aag,Code.cUnits,Code.frames,Code.isFrame]
theorem Ph{f:List (Str×b7)}:(A.under (.builtin "type.__call__" ⟨.ref C::us,f⟩)).guards=A.guards:=by
 have e:(Code.builtin "type.__call__" ⟨.ref C::us,f⟩).isGuard=false:=by show guardIds.contains "type.__call__"=false;decide+kernel
 obtain⟨a,b,c,g,d⟩:=A;cases g<;>simp[aag,Code.guards,e,pushGuards]
theorem BX.make{k:Nat}(r:BX (k+1) A)(C:Addr)(us:List b7)(a:List (Str×b7)):BX k (A.under (.builtin "type.__call__" ⟨.ref C::us,a⟩)):=
 ⟨r.hd,by have:=r.dp;rw[SE];lia,by have:=r.un;rw[SG];lia,by rw[Ph];exact r.gd⟩
theorem BX.depth{k:Nat}(r:BX k A):A.depth<recursionLimit:=by have:=r.dp;lia
theorem BX.units{k:Nat}(r:BX k A):A.units+64<cLine:=by have:=r.un;lia
theorem BX.JG{k:Nat}(r:BX k A):A.units<cLine:=by have:=r.un;lia
def JH:TA:=λ_ H Q=>Q [] H
def D_(b:TE)(tr:TA):TA:=λa H Q=>b a H λx c=>tr a c λd e=>Q (x::d) e
variable{es:List u7}
section
variable {t:TA} {pos:Pos}
theorem A':PA X [] JH:=λ_ _ _ _ H Q I h=>Re ⟨[],H,I,.nil,h⟩
theorem AE(c:PE X e te)(d:PA X es t)(f:jL (e::es) X.env=(false,wP e X.env)::jL es X.env:=by rfl):PA X (e::es) (D_ te t):=by
 intro pos pins s b H Q I h;rw[f];show g5 _ _ (spliced ((false,wP e X.env)::D6 pos (jL es X.env))) _ _ s;refine K2 (BQ (c pins s b H _ I h) λu g a=>a.elim λx i j k l=>?_);exact BQ (d pos pins g b i _ j l) λr v a=>a.elim λm n o p q=>⟨x::m,n,o,.cons k p,q⟩
def fx(t:TA):TE:=λb H Q=>t b H λa c=>a.length<=sizeLine/\Rp c (.tup a) Q
def j_(t:TA):TE:=λb H Q=>t b H λa c=>a.length<=sizeLine/\Rp c (.lst a) Q
theorem Al{n}(h:PA X es t):PE X (.Tuple es n pos) (fx t):=by
 intro pins s g H Q I i;refine wpAny_Tuple_spliced (BQ (h pos pins s g H _ I i) λj a ⟨k,c,d,r,z,q⟩=>⟨by rw[<-r.length];exact z,?_⟩);have l:c a.heap.objs.size=none:=d.Ax.fresh<|bn _;refine⟨.ref a.heap.objs.size,upd c a.heap.objs.size<|.tup k,d.laid (t':=a.toks) (λb u e=>be _ e) (bn _) ?_,rfl,q _ l⟩;exact⟨z,j,r,⟨_,g8 _ rfl,rfl,_,rfl⟩⟩
theorem Af(h:PA X es t):PE X (.List es pos) (j_ t):=by
 intro pins s f H Q I g;refine wpAny_List_spliced (BQ (h pos pins s f H _ I g) λi a ⟨j,c,d,r,z,q⟩=>⟨by rw[<-r.length];exact z,?_⟩);have k:c a.heap.objs.size=none:=d.Ax.fresh<|bn _;refine⟨.ref a.heap.objs.size,upd c a.heap.objs.size<|.lst j,d.laid (t':=a.toks) (λb u e=>be _ e) (bn _) ?_,rfl,q _ k⟩;exact⟨z,i,0,r,g8 _ rfl⟩
end
abbrev Sp:=List V->Hp->VK->XK->Prop
abbrev VW:=List Env->Hp->d8->XK->b7->d8->Prop
structure Pj(P:om)(w:u8)(K:ACy)(mg:Str->Option b7)(base:Heap)(A:AT)(outer:List Env)(s:d8)(H:Hp):Prop where
 frames:A.frames=ι outer
 mod:Mod K mg base
 bs:∀b o,base.get? b=ι o->s.heap.get? b=ι o/\H b=ν
 Ws:base.objs.size<=s.heap.objs.size
 HV:s.heap.FunFrames base outer
 aI:∀b∈Tp outer,H b=ν
 Ax:Ee P w H s.heap
 bare:W9 s.gens
inductive CE(outer:List Env)(P:om)(w:u8)(H:Hp)(s:d8)(Q:VK)(u:b7)(a:d8):Prop
 |mk(v:V)(H':Hp)(os:a.os=s.os)(bare:W9 a.gens)(un:Un (Tp outer) [] H H' s.heap a.heap)(b:Ee P w H' a.heap)(r:RelV v u)(q:Q v H')
def CR(b:VW)(outer:List Env)(P:om)(w:u8)(H:Hp)(s:d8)(Q:VK)(E:XK)(r:abt)(a:d8):Prop:=
 match r with
 | .ok (.ret u)=>CE outer P w H s Q u a
 | .ok _=>False
 | .error e=>b outer H s E e a
structure Ab(P:om)(w:u8)(K:ACy)(mg:Str->Option b7)(base:Heap)(CX:VW)(k:Nat)(f:Addr)(fd:j4)(ps:List Str)(sp:Sp):Prop where
 len:∀vs H Q E,sp vs H Q E->vs.length=ps.length
 run:∀(A:AT)(outer:List Env)(s:d8)(H:Hp)(args:Args)(us:List b7)(vs:List V)(Q:VK)(E:XK),BX k A->Pj P w K mg base A outer s H->abO s fd args (ps.zip us)->Vals vs us->sp vs H Q E->
  E8 (i7 P w) A (.call (.ref f) args) (CR CX outer P w H s Q E) s
theorem Ab.mono{P:om}{w:u8}{K:ACy}{mg:Str->Option b7}{base:Heap}{a:VW}{j k:Nat}{f:Addr}{b:j4}{ps:List Str}{sp:Sp}(F:Ab P w K mg base a j f b ps sp)(h:j<=k):
  Ab P w K mg base a k f b ps sp:=⟨F.len,λA outer s H args c d Q E e=>F.run A outer s H args c d Q E (e.mono h)⟩
variable{mg:Str->Option b7}{ps:List Str}{base:Heap}{sp:Sp}
theorem Ab.imp{b:VW}{k:Nat}{f:Addr}{c:j4}{a:Sp}(F:Ab P w K mg base b k f c ps sp)(h:∀vs H Q E,a vs H Q E->sp vs H Q E):Ab P w K mg base b k f c ps a:=
 ⟨λvs H Q E q=>F.len vs H Q E (h _ _ _ _ q),λA outer s H args d vs Q E e g i j l=>F.run A outer s H args d vs Q E e g i j (h _ _ _ _ l)⟩
variable{outer:List Env}
theorem Pj.make(e:Pj P w K mg base A outer s H)(C:Addr)(us:List b7)(a:List (Str×b7)):
  Pj P w K mg base (A.under (.builtin "type.__call__" ⟨.ref C::us,a⟩)) outer s H:=⟨by first|exact e.frames|(simpa[aag,Code.envs,Code.isFrame,pushEnvs]using e.frames),e.mod,e.bs,e.Ws,e.HV,e.aI,e.Ax,e.bare⟩
section
variable {s':d8}
theorem Inv.fy(I:Inv X pins σ H s):Pj X.prog X.w X.K X.mg X.base X.A X.stack s H:=
 ⟨I.ok.frames,I.ok.mod,I.bs,j5 I.ok.Ws I.sz,I.stack,I.Tq,I.Ax,I.bare⟩
theorem Inv.after{Q:VK}(I:Inv X pins σ H s)(h:CE X.stack X.prog X.w H s Q u s'):EP X pins σ Q u s':=by
 obtain⟨v,e,os,bare,un,a,r,q⟩:=h;obtain⟨f,g,d,t,c⟩:=s';obtain rfl:c=s.os:=os;exact⟨v,e,I.call (h':=f) (g':=g) (d':=d) (t':=t) (ch:=[]) un a bare λb z=>absurd z<|by simp,r,q⟩
end
def Pk(sp:Sp)(a:List V)(E:XK)(t:TA):TE:=λb H Q=>t b H λc d=>sp (c++a) d Q E
def kA(C:Addr)(m:Str)(sp:Sp)(b:List V)(E:XK)(e:TE)(t:TA):TE:=λc H Q=>e c H λx d=>∃a f fs,x=.ref a/\d a=ι (.ins C f fs)/\fs.lookup m=ν/\
 t c d λg h=>sp (x::(g++b)) h Q E
def kB(C:Addr)(sp:Sp)(b:List V)(E:XK)(t:TA):TE:=λd H Q=>t d H λe c=>∀x a,c x=ν->c a=ν->a≠x->
 sp (.ref x::(e++b)) (upd (upd c a (.own x)) x (.ins C a [])) (λv f=>v=.BB/\Q (.ref x) f) E
def Binds(K:ACy)(c:j4)(ps:List Str)(b:List b7):Prop:=
 ∀(s:d8)(a:List b7),K.In s.heap->(a++b).length=ps.length->abO s c ⟨a,[]⟩ (ps.zip (a++b))
theorem Binds.all{a:j4}(h:∀us:List b7,us.length=ps.length->adY a ⟨us,[]⟩=pure (ps.zip us)):Binds K a ps []:=λs us _ b=>by
 rw[j9]at b⊢;exact .of_eq<|h us b
def Passes(b:VW)(X:Cx)(E:XK):Prop:=∀(pins:List (Addr×Obj))(c:St)(H:Hp)(s:d8)(e:b7)(a:d8),Inv X pins c H s->b X.stack H s E e a->X.xe e a
variable{vs:List V}{fd:j4}
section
variable {CX:VW} {k:Nat} {f:Addr} {Kw:List V} {ds:List b7} {E:XK} {pos apos:Pos} {o:u7} {t:TA}
theorem Ny{Q:VK}(F:Ab X.prog X.w X.K X.mg X.base CX k f fd ps sp)(c:BX k X.A)(d:Binds X.K fd ps ds)(g:Vals Kw ds)(i:Passes CX X E)(I:Inv X pins σ H s)(r:Vals vs us)(h:sp (vs++Kw) H Q E):g5 (i7 X.prog X.w) X.A (call (.ref f) us) (EP X pins σ Q) X.xe s:=by
 have b:Vals (vs++Kw) (us++ds):=r.append g;have j:(us++ds).length=ps.length:=by rw[<-b.length];exact F.len _ _ _ _ h
 refine aaa (KB (F.run X.A X.stack s H ⟨us,[]⟩ (us++ds) (vs++Kw) Q E c I.fy (d s us I.FG j) b h) λr l a=>?_);cases r with
 |error e=>exact i pins σ H s e l I a
 |ok n=>
  cases n with
  |ret u=>exact I.after a
  |next=>exact wv a
  |brk=>exact wv a
  |cont=>exact wv a
theorem Tz(F:Ab X.prog X.w X.K X.mg X.base CX k f fd ps sp)(d:BX k X.A)(g:Gl X x)(i:X.mg x=ι (.ref f))(j:n8 X.K (.ref f)=true)(l:Binds X.K fd ps ds)(n:Vals Kw ds)(u:Passes CX X E)(v:PA X (e::es) t)(a:(x==("__debug__":Str))=false:=by decide)(y:jL (e::es) X.env=(false,wP e X.env)::jL es X.env:=by rfl)(b:(D6 pos (jL es X.env)).any (·.1)=false:=by rfl):
  PE X (.Call (.Name x p) (e::es) [] pos) (Pk sp Kw E t):=by
 intro pins s z H Q I h;refine wT<|KN I g i ?_ a;refine O9 (h₀:=X.base) I.ok.mod.e_ j (BQ (v pos pins s z H _ I h) λD G B=>B.elim λJ L c r q=>⟨c.FG,?_⟩) y b;exact Ny F d l n u c r q
theorem Pl(g:PE X o ta)(c:Tx X.K C)(d:Meth X.K C m f)(F:Ab X.prog X.w X.K X.mg X.base CX k f fd ps sp)(i:BX k X.A)(j:Binds X.K fd ps ds)(n:Vals Kw ds)(r:Passes CX X E)(v:wP (.Call (.Attribute o m apos) [] [] pos) X.env=(do
   let ov<-wP o X.env
   adQ apos.atName
   let(f,first)<-P7 [ov] (adK ov m pl)
   callWith pos f first (D6 pos (jL [] X.env)) (aaO pos (S9 [] X.env))):=by rfl):
  PE X (.Call (.Attribute o m apos) [] [] pos) (kA C m sp Kw E ta JH):=by
 intro pins s y H Q I h;refine PySem.W.methodCall_KW (pl:=pl) (BQ (g pins s y H _ I h) λu G ⟨x,J,b,z,a,L,fs,B,D,l,q⟩=>?_) v;subst B;obtain rfl:u=jM a:=z;refine R' b D c d l ?_;exact PySem.W.callWith_K0 (first:=[.ref a]) b.FG d.kp<|Ny (us:=[.ref a]) (vs:=[.ref a]) F i j n r b (.cons rfl .nil) q
structure Mk(K:ACy)(C f:Addr):Prop where
 makes:aau K C=true
 init:q7 K (.ref C) "__init__"=ι (ι (.ref f))
 fn:U2 K (.ref f)=true
 kp:n8 K (.ref C)=true
theorem XQ{Q:VK}(M:Mk X.K C f)(F:Ab X.prog X.w X.K X.mg X.base CX k f fd ps sp)(i:BX (k+1) X.A)(j:Binds X.K fd ps ds)(l:Vals Kw ds)(n:Passes CX X E)(I:Inv X pins σ H s)(r:Vals vs us)(h:∀x b,H x=ν->H b=ν->b≠x->sp (.ref x::(vs++Kw)) (upd (upd H b (.own x)) x (.ins C b [])) (λv H2=>v=.BB/\Q (.ref x) H2) E):
  g5 (i7 X.prog X.w) X.A (call (.ref C) us) (EP X pins σ Q) X.xe s:=by
 have d:=h (s.heap.objs.size+1) s.heap.objs.size (I.Ax.fresh<|XV _) (I.Ax.fresh<|bn _)<|i4<|y9 _;have c:=Inv.made (C:=C) I;have g:Vals (V.ref (s.heap.objs.size+1)::(vs++Kw)) (jM (s.heap.objs.size+1)::(us++ds)):=.cons rfl<|r.append l;have q:(jM (s.heap.objs.size+1)::us++ds).length=ps.length:=by
  have e:=g.length;rw[F.len _ _ _ _ d]at e;exact e.symm
 refine aaa (XP (f:=f) I.FG M.makes M.init (beq_iff_eq.mp M.fn)<|KB (F.run _ X.stack _ _ ⟨jM (s.heap.objs.size+1)::us,[]⟩ (jM (s.heap.objs.size+1)::(us++ds)) _ _ E (i.make C us []) (c.fy.make C us []) (j _ (jM (s.heap.objs.size+1)::us) c.FG q) g d) λr y a=>?_);cases r with
 |error e=>exact n pins σ _ _ e y c a
 |ok z=>
  cases z with
  |ret u=>
   obtain⟨v,B,D,G,J,L⟩:=c.after a;subst J;exact⟨G,⟨V.ref<|s.heap.objs.size+1,B,D,rfl,L⟩⟩
  |next=>exact wv a
  |brk=>exact wv a
  |cont=>exact wv a
theorem ae(M:Mk X.K C f)(F:Ab X.prog X.w X.K X.mg X.base CX k f fd ps sp)(d:BX (k+1) X.A)(g:Gl X x)(i:X.mg x=ι (.ref C))(j:Binds X.K fd ps ds)(l:Vals Kw ds)(n:Passes CX X E)(u:PA X (e::es) t)(a:(x==("__debug__":Str))=false:=by decide)(v:jL (e::es) X.env=(false,wP e X.env)::jL es X.env:=by rfl)(b:(D6 pos (jL es X.env)).any (·.1)=false:=by rfl):
  PE X (.Call (.Name x p) (e::es) [] pos) (kB C sp Kw E t):=by
 intro pins s y H Q I h;refine wT<|KN I g i ?_ a;refine O9 (h₀:=X.base) I.ok.mod.e_ M.kp (BQ (u pos pins s y H _ I h) λB D z=>z.elim λG J c r q=>⟨c.FG,?_⟩) v b;exact XQ M F d j l n c r q
end
section
variable {CX:VW} {k:Nat} {f:Addr} {ks:List Str} {E:XK} {pos apos xr:Pos} {o:u7} {kC:List S0} {t tk:TA} {nm:Option Str}
variable{g:List b7->List b7->List b7} {gV:List V->List V->List V}
end
structure FK(N P:List Str)(sc:Scope):Prop where
 kind:sc.kind=.function:=by rfl
 co:sc.isCoroutine=false:=by rfl
 gen:sc.isGenerator=false:=by rfl
 nd:N.Nodup:=by decide+kernel
 pre:N.take P.length=P:=by rfl
 par:∀x∈P,sc.names.lookup x=ι .local∨sc.names.lookup x=ι .cell:=by decide+kernel
 f_:∀y∈sc.names,y.2≠.free:=by decide+kernel
theorem Mr{kindOf:Str->Option NameKind}{x:Str}:∀{binds:List (Str×b7)}{d:Str->Option b7},(∀v,(x,v)∉binds)->ac0 kindOf binds d x=d x
 |[],_,_=>rfl
 |(n,v)::r,d,h=>by
  unfold ac0;rw[Mr λw hw=>h w<|b9 _ hw];split
  ·have:x≠n:=by rintro rfl;exact h v dL
   simp[this]
  ·rfl
theorem Ms{kindOf:Str->Option NameKind}{x:Str}:∀{binds:List (Str×b7)}{d:Str->Option b7},(∀v,(x,v)∉binds)->ac1 kindOf binds d x=d x
 |[],_,_=>rfl
 |(n,v)::r,d,h=>by
  unfold ac1;rw[Ms λw hw=>h w<|b9 _ hw];split
  ·rfl
  ·have:x≠n:=by rintro rfl;exact h v dL
   simp[this]
theorem Mt{kindOf:Str->Option NameKind}{x:Str}{v:b7}:∀{j:List Str}{l:List b7}{i:Nat}{n:Str->Option b7},j.Nodup->j[i]?=ι x->l[i]?=ι v->kindOf x=ι .local->
  ac0 kindOf (j.zip l) n x=ι v
 |[],_,_,_,_,h,_,_=>by simp at h
 |_::_,[],_,_,_,_,h,_=>by simp at h
 |p::j,w::l,0,n,nd,a,b,c=>by
  simp at a b;subst a;subst b;show ac0 kindOf ((p,w)::j.zip l) n p=_;unfold ac0;rw[Mr λv d=>(j0.mp nd).1 (F5 d).1,if_pos c];simp
 |p::j,w::l,i+1,n,nd,a,b,c=>by
  show ac0 kindOf ((p,w)::j.zip l) n x=_;unfold ac0;exact Mt (i:=i) (j0.mp nd).2 (by simpa using a) (by simpa using b) c
theorem Mu{kindOf:Str->Option NameKind}{x:Str}{v:b7}:∀{j:List Str}{l:List b7}{i:Nat}{n:Str->Option b7},j.Nodup->j[i]?=ι x->l[i]?=ι v->kindOf x≠ι .local->
  ac1 kindOf (j.zip l) n x=ι v
 |[],_,_,_,_,h,_,_=>by simp at h
 |_::_,[],_,_,_,_,h,_=>by simp at h
 |p::j,w::l,0,n,nd,a,b,c=>by
  simp at a b;subst a;subst b;show ac1 kindOf ((p,w)::j.zip l) n p=_;unfold ac1;rw[Ms λv d=>(j0.mp nd).1 (F5 d).1,if_neg c];simp
 |p::j,w::l,i+1,n,nd,a,b,c=>by
  show ac1 kindOf ((p,w)::j.zip l) n x=_;unfold ac1;exact Mu (i:=i) (j0.mp nd).2 (by simpa using a) (by simpa using b) c
def start(N:List Str)(vs:List V):St:=vs.map ι++i9 (N.length-vs.length) ν
def Nz(CX:VW)(P:om)(w:u8)(K:ACy)(mg:Str->Option b7)(base:Heap)(N:List Str)(qual:Str)(scope:Scope)(f:Addr)(cd:b7)(A:AT)(outer:List Env)(s:d8)(H:Hp)(E:XK):Cx where
 prog:=P
 w:=w
 K:=K
 mg:=mg
 base:=base
 A:=A.deeper (V0 qual scope s.heap.objs.size f cd)
 N:=N
 s₀:=s
 H₀:=H
 env:=V0 qual scope s.heap.objs.size f cd
 outer:=outer
 stack:=V0 qual scope s.heap.objs.size f cd::outer
 ex:=[]
 calm:=true
 fn:=λ_=>true
 pn:=[]
 xe:=λe s'=>g5 (i7 P w) (A.deeper (V0 qual scope s.heap.objs.size f cd)) (leaving (V0 qual scope s.heap.objs.size f cd) e) (λ_ nX=>CX outer H s E e nX) (λe' nX=>CX outer H s E e' nX) s'
theorem Pm{a:Scope}{n:Nat}(h:a.names.lookup x=ι .cell):∃c,(No n a.names []).lookup x=ι c:=by
 have q:=aam a.names n []<|.inl h;exact B4.mp q
variable{scope:Scope}
theorem VX{D:VW}{qual:Str}{f:Addr}{t:b7}{F:d8}{E:XK}(S:FK N ps scope)(J:A.handled=ν)(g:Pj P w K mg base A outer s H)(hl:vs.length=ps.length)(r:Vals vs us)(x:InCallC s s.heap.objs.size (ac0 (V0 qual scope s.heap.objs.size f t).kindOf (ps.zip us) λ_=>ν) (No (s.heap.objs.size+1) scope.names []) (ac1 (V0 qual scope s.heap.objs.size f t).kindOf (ps.zip us) λ_=>ν) F):
  Inv (Nz D P w K mg base N qual scope f t A outer s H E) [] (start N vs) H F:=by
 have L:ps.length<=N.length:=by have:=congrArg pp S.pre;rw[re]at this;lia
 obtain⟨B,Q,rfl,G⟩:=x.done;have j:∀b:Addr,b∉(Nz D P w K mg base N qual scope f t A outer s H E).ex:=λb z=>absurd (show b∈([]:List Addr)from z) (by simp);refine⟨⟨g.mod,S.kind,rfl,rfl,bn _,λy z c B d=>?_,λy l=>?_,λy c _ h=>?_,λ_=>J,aa7 g.frames,.inr ⟨rfl,rfl⟩,λb z=>absurd z (j b),g.bs,g.Ws,λb _ _=>j b,λb z=>absurd z (j b),g.HV,g.aI⟩,
  rfl,g.bare,Un.kept G,⟨_,x.toInCall.ns,λi y v B d R=>?_⟩,λy c h=>⟨_,x.cell y c h⟩,g.Ax.fresh (bn _),λy c h=>?_,λp m=>absurd (show p∈([]:List (Addr×Obj))from m) (by simp),g.Ax.kept G,?_⟩
 ·exact name_of_addr x.apart (pi B)<|pi d
 ·have l:scope.names.lookup y=ι .cell∨scope.names.lookup y=ι .free:=l;rcases l with l|l
  ·exact Pm l
  ·exact absurd rfl<|S.f_ _<|pi l
 ·exact t8<|x.above y c<|pi h
 ·have C:i<vs.length:=by
   unfold start at d;by_cases C:i<vs.length
   ·exact C
   ·rw[jc<|by simpa using C]at d;rw[Z6]at d;split at d<;>cases d
  have M:vs[i]?=ι v:=by
   unfold start at d;rw[g9<|by simpa using C,bv]at d;cases e:vs[i]? with
   |none=>rw[e]at d;cases d
   |some a=>rw[e]at d;cases d;rfl
  obtain⟨u,I,O⟩:=r.get M;have m:ps[i]?=ι y:=by
   rw[<-S.pre,List.getElem?_take_of_lt<|by lia];exact B
  have o:ps.Nodup:=by rw[<-S.pre];exact S.nd.sublist<|List.take_sublist _ _
  refine⟨u,O,?_⟩;rcases S.par y (ACx m)with k|k
  ·exact .inl ⟨k,Mt o m I k⟩
  ·obtain⟨c,e⟩:=Pm (n:=s.heap.objs.size+1) k;refine .inr ⟨.inl k,c,e,?_⟩;have q:=x.cell y c e;rw[Mu o m I<|by show scope.names.lookup y≠_;rw[k];decide]at q;exact q
 ·exact g.Ax.fresh<|t8<|x.above y c<|pi h
 ·unfold start;show _=N.length;rw[b8,ap,aaJ];lia
theorem dR{m:VW}{k:Nat}{f:Addr}{name qual:Str}{params:Arguments}{G kV doc pm a ct O:b7}{an R:Option Addr}{p:Array (Option b7)}(lk:K.lookup f=ι ⟨O,R,.func (y6 name qual params body scope G kV doc pm an a ct),p⟩)(z:x9 K a qual=true)(S:FK N ps scope)(len:∀vs H Q E,sp vs H Q E->vs.length=ps.length)(g:∀(A:AT) (outer:List Env) (s:d8) (H:Hp) (vs:List V) (Q:VK) (E:XK),BX k (A.deeper (V0 qual scope s.heap.objs.size f a))->sp vs H Q E->
   ∃t,PM (Nz m P w K mg base N qual scope f a A outer s H E) body t/\t {nx:=λ_ d=>Q .BB d,rt:=Q} (start N vs) H):
  Ab P w K mg base m (k+1) f (y6 name qual params body scope G kV doc pm an a ct) ps sp:=by
 refine⟨len,λA outer s H args T vs Q E B j U r l=>?_⟩;have X:=len _ _ _ _ l;have L:K.In s.heap:=j.mod.e_.keeps λb o e=>(j.bs b o e).1;have C:s.heap.NoLimit:=j.mod.nolimit.keeps λb o e=>(j.bs b o e).1;have h:∀y∈ps.zip T,scope.names.lookup y.1=ι .local∨(scope.names.lookup y.1=ι .cell/\((No (s.heap.objs.size+1) scope.names []).lookup y.1).isSome=true):=λ⟨n,v⟩ Y=>by
  rcases S.par n (F5 Y).1 with q|q
  ·exact .inl q
  ·exact .inr ⟨q,aam _ _ _<|.inl q⟩
 refine codeAny_call_function B.depth (L _ _ lk) rfl S.co S.gen rfl (PySem.W.codeRec_of L z)<|U _ _ _ _ ?_;refine wpAny_newFunctionEnv_cells S.kind h λenv Z M x=>?_;subst Z;refine⟨C.keeps x.toInCall.keep,codeAny_func ?_⟩;obtain⟨t,ht,hq⟩:=g A outer s H vs Q E (B.deeper _) l;have I:Inv (Nz m P w K mg base N qual scope f a A outer s H E) [] (start N vs) H M:=VX S B.hd j X r x;refine A0 (ht [] M (start N vs) H _ I hq) (λfl D i=>?_) λe D i=>i;have fin:∀{c:St}{d:Hp}{v:V}{u:b7},Inv (Nz m P w K mg base N qual scope f a A outer s H E) [] c d D->RelV v u->Q v d->CE outer P w H s Q u D:=
  λ{c d v u} J F q=>⟨v,d,J.os,J.bare,J.base,J.Ax,F,q⟩
 cases fl with
 |ret u=>
  obtain⟨v,c,d,J,F,q⟩:=i;exact fin J F q
 |next=>
  obtain⟨c,d,J,q⟩:=i;exact fin (v:=V.BB) (u:=Ev) J rfl q
 |brk=>
  obtain⟨_,_,_,q⟩:=i;exact wv q
 |cont=>
  obtain⟨_,_,_,q⟩:=i;exact wv q
section
variable {pos:Pos} {t:TA} {id T:String} {r:List V->Hp->VK->Prop}
def kD(r:List V->Hp->VK->Prop)(t:TA):TE:=λa H Q=>t a H λb c=>r b c Q
theorem Av(d:Bo X (.builtin id) r)(f:Gl X x)(g:X.mg x=ν)(i:rc x=ι (.builtin id))(j:PA X (e::es) t)(k:x≠"__name__":=by decide)(a:(x==("__debug__":Str))=false:=by decide)(l:jL (e::es) X.env=(false,wP e X.env)::jL es X.env:=by rfl)(b:(D6 pos (jL es X.env)).any (·.1)=false:=by rfl):PE X (.Call (.Name x p) (e::es) [] pos) (kD r t):=by
 intro pins s c H Q I h;refine wT<|Fs I f g i ?_ k a;exact acI (BQ (j pos pins s c H _ I h) λm n o=>o.elim λq u v w y=>d pins n c u q m Q v w y) l b
theorem BJ(d:Bo X (.type T) r)(f:Gl X x)(g:X.mg x=ν)(i:rc x=ι (.type T))(j:PA X (e::es) t)(k:x≠"__name__":=by decide)(a:(x==("__debug__":Str))=false:=by decide)(l:jL (e::es) X.env=(false,wP e X.env)::jL es X.env:=by rfl)(b:(D6 pos (jL es X.env)).any (·.1)=false:=by rfl):PE X (.Call (.Name x p) (e::es) [] pos) (kD r t):=by
 intro pins s c H Q I h;refine wT<|Fs I f g i ?_ k a;exact wE (BQ (j pos pins s c H _ I h) λm n o=>o.elim λq u v w y=>d pins n c u q m Q v w y) l b
end
end L2
namespace HT
open PySem PyProof.Rows
section
open PySem.SeqAt
open PySem.AutoSeq1 (wpAny_loadPart')
open PySem.MeetsSeq PySem.MeetsSeq2 PySem.MeetsSeq3
end
variable{Q:b7->d8->Prop}
section
variable{prog:om} {w:u8} {A:AT} {E:b7->d8->Prop} {s:d8}
theorem ag{t b:Addr}{vs ws:List b7}(r:abN s.heap t vs.toArray)(u:abN s.heap b ws.toArray)(j:vs≠[])(v:ws=[]->Q (.ref t) s)(x:ws≠[]->Q (.ref s.heap.objs.size) {s with heap:=s.heap.push {cls:=.type "tuple",data:=.seq (vs++ws).toArray}})(i:vs.length+ws.length<=sizeLine):g5 (i7 prog w) A (Is .Add (.ref t) (.ref b)) Q E s:=by
 obtain⟨⟨cls,k,data,l⟩,h,m,n,o⟩:=id r;obtain⟨⟨p,c,data2,d⟩,a,f,q,g⟩:=id u;simp only at m o f g;subst m o f g;have e:vs.toArray++ws.toArray=(vs++ws).toArray:=by simp
 by_cases hw:ws=[]
 ·exact abX ⟨_,h,rfl⟩ ⟨_,a,rfl⟩ Y8 abp R0 P2 (O3 _ _) (tuple_addW1 t b vs.toArray ws.toArray n q k c l d (by simpa using j)<|by simp[hw]) ⟨h,a,v hw⟩
 ·refine abX ⟨_,h,rfl⟩ ⟨_,a,rfl⟩ Y8 abp R0 P2 (O3 _ _) (tuple_addW2 t b vs.toArray ws.toArray n q k c l d (by simpa using j) (by simpa using hw)<|by rw[cr,cr];exact i) ⟨h,a,?_⟩;rw[e];exact x hw
noncomputable def CN(n d:Nat):Option Int->Nat
 |none=>d
 |some v=>if v<0 then(v+(n:Int)).toNat else min v.toNat n
theorem XR(n d:Nat):CN n d ν=d:=rfl
theorem N_(n d k:Nat):CN n d (ι (k:Int))=min k n:=by
 show(if(k:Int)<0 then((k:Int)+(n:Int)).toNat else min (k:Int).toNat n)=min k n;rw[if_neg<|by lia,pc]
theorem gA(n d:Nat)(b:d<=n)(o:Option Int):CN n d o<=n:=by
 cases o with
 |none=>exact b
 |some v=>
  show(if v<0 then(v+(n:Int)).toNat else min v.toNat n)<=n;by_cases a:v<0
  ·rw[if_pos a];lia
  ·rw[if_neg a];exact Nat.min_le_right _ _
theorem T_(v:Int)(n d:Nat):(if v<0 then max (v+(n:Int)) 0 else min v (n:Int))=((CN n d (ι v):Nat):Int):=by
 show(if v<0 then max (v+(n:Int)) 0 else min v (n:Int))=(((if v<0 then(v+(n:Int)).toNat else min v.toNat n):Nat):Int);by_cases a:v<0
 ·simp only[if_pos a];exact(acC _).symm
 ·simp only[if_neg a];obtain⟨m,rfl⟩:=J4<|aei.mp a;show min (m:Int) (n:Int)=((min m n:Nat):Int);by_cases h:m<=n
  ·rw[L3 h,aaz<|aaf.mpr h]
  ·rw[Y9<|SC h,acD<|aaf.mpr<|SC h]
theorem SH(lo a:Option Int)(n:Nat):N9 lo a 1 (n:Int)=(((CN n 0 lo:Nat):Int),((CN n n a:Nat):Int)):=by
 have b:¬((1:Int)<0):=by lia
 unfold N9;simp only[b,if_false];refine adZ ?_ ?_
 ·cases lo with
  |none=>rfl
  |some v=>exact T_ v n 0
 ·cases a with
  |none=>rfl
  |some v=>exact T_ v n n
theorem SJ(i j:Nat):FB (i:Int) (j:Int) 1=j-i:=by
 unfold FB;have a:(1:Int)>0:=by lia
 simp only[a,if_true,ab0];split<;>lia
theorem Kx{v:b7}{o:Option Int}{Q:Option Int->d8->Prop}(p:Z7 v o)(h:Q o s):g5 (i7 prog w) A (acX v) Q E s:=by
 cases p with
 |none=>exact adm h
 |int i t=>exact slicePart_int h
theorem Eh{sl:Addr}{vl d:b7}{lo a:Option Int}{n:Nat}{Q:Int×Int×Nat->d8->Prop}(e:s.heap.IsSliceOf sl vl d .none)(pl:Z7 vl lo)(f:Z7 d a)(h:Q (((CN n 0 lo:Nat):Int),1,CN n n a-CN n 0 lo) s):g5 (i7 prog w) A (W4 (.ref sl) (pure (n:Int))) Q E s:=by
 obtain⟨os,b,g,c⟩:=id e;unfold W4 adv;refine am<|am<|J6 b c (x:=vl) rfl<|am<|J6 b c (x:=d) rfl<|am<|J6 b c (x:=.none) rfl<|ce ?_;refine am<|adm ?_;show g5 _ _ (if((1:Int)==0)=true then _ else _) _ _ s;rw[if_neg<|by decide];refine am<|Kx pl<|am<|Kx f<|am<|ce ?_;show g5 _ _ (match N9 lo a 1 (n:Int)with|(lo,a)=>pure (lo,(1:Int),FB lo a 1)) _ _ s;rw[SH lo a n];show g5 _ _ (pure (((CN n 0 lo:Nat):Int),(1:Int),FB ((CN n 0 lo:Nat):Int) ((CN n n a:Nat):Int) 1)) _ _ s;rw[SJ];exact ce h
theorem XS(xs:Array b7)(i k:Nat):((oo k).filterMap λ(m:Nat)=>xs[((i:Int)+(m:Int)*1).toNat]?).toArray=((xs.toList.drop i).take k).toArray:=by
 have e:(λ(m:Nat)=>xs[((i:Int)+(m:Int)*1).toNat]?)=λm=>xs[i+m]?:=by
  funext m;have:((i:Int)+(m:Int)*1).toNat=i+m:=by lia
  rw[this]
 rw[e];have:=pick_run xs i k;rw[abJ]at this;have a:((λx=>xs[x]?)∘λx=>i+x)=λm=>xs[i+m]?:=rfl;rw[a]at this;rw[this]
theorem IC{t sl:Addr}{items:Array b7}{vl i:b7}{lo b:Option Int}(c:abN s.heap t items)(j:s.heap.IsSliceOf sl vl i .none)(pl:Z7 vl lo)(k:Z7 i b)(hw:¬(CN items.size 0 lo=0/\CN items.size items.size b=items.size))(h:Q (.ref s.heap.objs.size) {s with heap:=s.heap.push {cls:=.type "tuple",data:=.seq ((items.toList.drop (CN items.size 0 lo)).take (CN items.size items.size b-CN items.size 0 lo)).toArray}})(l:items.size<=sizeLine):g5 (i7 prog w) A (UV (.ref t) (.ref sl)) Q E s:=by
 have a:sizeOk (.seq ((items.toList.drop<|CN items.size 0 lo).take<|CN items.size items.size b-CN items.size 0 lo).toArray):=by
  show((items.toList.drop<|CN items.size 0 lo).take<|CN items.size items.size b-CN items.size 0 lo).toArray.size<=sizeLine;rw[cr,re,w4,j6];lia
 have o:CN items.size items.size b<=items.size:=gA _ _ (bn _) b;obtain⟨os,d,e,n⟩:=id j;have f:s.TypeIs (.ref sl) "slice":=⟨os,d,e⟩;unfold UV
 try with_reducible refine j8 ?_
 first|refine am (ce ?_)|skip
 refine am<|ab2 c.typeIs (by decide) ?_;refine am<|C1 (name:=U1 "__getitem__") c.typeIs u6<|u4 u6 c.typeIs abc ?_<|aby _ _;show g5 _ _ (W2 (.ref t)>>=_) _ _ s;refine am<|adw c ?_;refine am<|C8 f ?_;rw[if_pos<|by decide];refine am<|Eh j pl k ?_;have g:¬((((CN items.size 0 lo:Nat):Int)==0&&(1:Int)==1&&(CN items.size items.size b-CN items.size 0 lo)==items.size)=true):=by
  intro q;rw[kt,kt]at q;have p:((CN items.size 0 lo:Nat):Int)=0:=eq_of_beq q.1.1;have r:CN items.size items.size b-CN items.size 0 lo=items.size:=eq_of_beq q.2;exact hw ⟨by lia,by lia⟩
 show g5 _ _ (if(((CN items.size 0 lo:Nat):Int)==0&&(1:Int)==1&&(CN items.size items.size b-CN items.size 0 lo)==items.size)=true then _ else _) _ _ s;rw[if_neg g,XS]
 first
  |exact am (m:=G7 _) (xL (ce ⟨_,rfl,ce h⟩) a)
  |exact am (m:=G7 _) (xL (am (ce (ce ⟨_,rfl,ce h⟩))) a)
  |exact am (am (m:=G7 _) (xL (ce (ce ⟨_,rfl,ce h⟩)) a))
  |exact am (am (m:=G7 _) (xL (ce ⟨_,rfl,ce h⟩) a))
end
end HT
namespace L2
open PySem PySem.Spec PyProof.Rows
abbrev TO:=St->Hp->(Option Int->Hp->Prop)->Prop
def PO(X:Cx)(e:Option u7)(t:TO):Prop:=
 ∀(pins:List (Addr×Obj))(s:d8)(a:St)(H:Hp)(Q:Option Int->Hp->Prop),Inv X pins a H s->t a H Q->
  g5 (i7 X.prog X.w) X.A (evalPart e X.env) (λu c=>∃o b,Inv X pins a b c/\Z7 u o/\Q o b) X.xe s
def ah:TO:=λ_ H Q=>Q ν H
def kE(t:TE):TO:=λa H Q=>t a H λx b=>xi x b Q
variable{X:Cx}{us:List b7}{e:u7}
section
variable {te:TE} {lo hi:Option u7} {tl th:TO} {pos p2:Pos}
theorem GY:PO X ν ah:=by
 intro pins s a H Q I h;rw[adA];exact ce ⟨ν,H,I,.none,h⟩
theorem EN(h:PE X e te):PO X (ι e) (kE te):=by
 intro pins s a H Q I hw;rw[evalPart_some];refine BQ (h pins s a H _ I hw) λu j b=>b.elim λx c d f g=>?_;obtain⟨i,rfl,q⟩:=g;obtain⟨t,rfl⟩:=f;exact⟨ι i,c,d,.int i t,q⟩
def kF(X:Cx)(r:V->Option Int->Option Int->Hp->VK->Prop):Prop:=
 ∀(pins:List (Addr×Obj))(s:d8)(a:St)(H:Hp)(x:V)(v b c:b7)(lo hi:Option Int)(d:Addr)(Q:VK),Inv X pins a H s->RelV x v->s.heap.IsSliceOf d b c .none->Z7 b lo->Z7 c hi->r x lo hi H Q->
  ∃T id,Sc (.type T) "__getitem__"=pure (ι (.builtin id))/\s.TypeIs v T/\g5 (i7 X.prog X.w) X.A (UV v (.ref d)) (EP X pins a Q) X.xe s
def xt(r:V->Option Int->Option Int->Hp->VK->Prop)(te:TE)(tl th:TO):TE:=λa H Q=>te a H λx b=>tl a b λl c=>th a c λu d=>r x l u d Q
theorem D'{r:V->Option Int->Option Int->Hp->VK->Prop}(i:kF X r)(j:PE X e te)(hl:PO X lo tl)(k:PO X hi th):PE X (.Subscript e (.Slice lo hi ν p2) pos) (xt r te tl th):=by
 intro pins s c H Q I h;refine ade (BQ (j pins s c H _ I h) λv m n=>n.elim λx o p t y=>?_);refine wpAny_Slice (BQ (hl pins m c o _ p y) λd z ⟨l,B,C,D,E⟩=>BQ (k pins z c B _ C E) λf a ⟨u,g,F,G,J⟩=>?_);rw[adA];refine ce ?_;have K:Inv X pins c g {a with heap:=a.heap.push {cls:=.type "slice",data:=.fields #[d,f,.none]}}:=F.kept (t':=a.toks) λb O q=>be _ q;obtain⟨T,id,L,M,N⟩:=i pins {a with heap:=a.heap.push {cls:=.type "slice",data:=.fields #[d,f,.none]}} c g x v d f l u a.heap.objs.size Q K t (Heap.IsSliceOf.new ..) D G J;show g5 (i7 X.prog X.w) X.A (abm e (.Slice lo hi ν p2) v<|.ref a.heap.objs.size) (EP X pins c Q) X.xe {a with heap:=a.heap.push {cls:=.type "slice",data:=.fields #[d,f,.none]}};exact tail_any (ops:=[.ref a.heap.objs.size,v]) M L N<|by with_unfolding_all rfl
def HY(xs:List V)(lo hi:Option Int):List V:=(xs.drop<|HT.CN xs.length 0 lo).take<|HT.CN xs.length xs.length hi-HT.CN xs.length 0 lo
theorem Ji(xs:List V)(lo hi:Option Int):(HY xs lo hi).length<=xs.length:=by
 unfold HY;rw[re,w4];lia
inductive kH(K:ACy)(x:V)(lo hi:Option Int)(H:Hp)(Q:VK):Prop
 |mk(a xs:_)(b:x=.ref a)(c:BP K H a xs)(d:¬(HT.CN xs.length 0 lo=0/\HT.CN xs.length xs.length hi=xs.length))(f:∀p,H p=ν->Q (.ref p) (upd H p (.tup (HY xs lo hi))))
def qF(K:ACy):V->Option Int->Option Int->Hp->VK->Prop:=λx lo hi H Q=>kH K x lo hi H Q
theorem gB:kF X (qF X.K):=by
 intro pins s n H x v p t lo hi u Q I i j k l h;obtain⟨a,c,rfl,m,hw,q⟩:=h;cases i;obtain⟨d,r,f,g⟩:=I.tuple m;have hlen:d.toArray.size=c.length:=by rw[cr];exact r.length.symm
 refine⟨"tuple",_,u6.lookup,f.typeIs,?_⟩;refine HT.IC f j k l (by rw[hlen];exact hw) ?_ (by rw[hlen];exact g);rw[hlen];refine⟨.ref s.heap.objs.size,_,I.laid (t':=s.toks) (o:=.tup<|HY c lo hi) (λb w q=>be _ q) (bn _) ?_,rfl,q _<|I.Ax.fresh<|bn _⟩;exact⟨j5 (Ji c lo hi) g,_,(r.drop<|HT.CN c.length 0 lo).take<|HT.CN c.length c.length hi-HT.CN c.length 0 lo,IsTup.new _ _⟩
inductive gC(K:ACy)(x y:V)(H:Hp)(Q:VK):Prop
 |mk(a b xs ys:_)(c:x=.ref a)(d:y=.ref b)(f:BP K H a xs)(g:BP K H b ys)(h:xs≠[])(i:xs.length+ys.length<=sizeLine)(j:(ys=[]->Q (.ref a) H))(k:(ys≠[]->∀p,H p=ν->Q (.ref p) (upd H p (.tup (xs++ys)))))
def kK(K:ACy):R2:=λx y H Q=>gC K x y H Q
theorem Vals.KP{xs:List V}(r:Vals xs us):us=[]↔xs=[]:=by
 cases r with
 |nil=>simp
 |cons _ _=>simp
theorem ai:Dr X (Is .Add) (kK X.K):=by
 intro pins s C H x y v u Q I i j h;obtain⟨a,b,k,l,rfl,rfl,m,n,p,f,r,t⟩:=h;cases i;cases j;obtain⟨A,d,B,_⟩:=I.tuple m;obtain⟨g,c,p2,_⟩:=I.tuple n;refine HT.ag B p2 (λz=>p<|d.KP.mp z) (λz=>⟨.ref a,H,I,rfl,r<|c.KP.mp z⟩) (λz=>?_) (by rw[<-d.length,<-c.length];exact f);refine⟨.ref s.heap.objs.size,_,I.laid (t':=s.toks) (o:=.tup<|k++l) (λb D q=>be _ q) (bn _) ?_,rfl,t (λw=>z<|c.KP.mpr w) _<|I.Ax.fresh<|bn _⟩;exact⟨by rw[b8];exact f,_,d.append c,IsTup.new _ _⟩
end
def T'(n:Nat)(i:Int):Option Nat:=if 0<=i then(if i<n then ι i.toNat else ν)else if-(n:Int)<=i then ι (i+n).toNat else ν
def OA{a:Type}(xs:List a)(i:Int):Option a:=(T' xs.length i).bind λj=>xs[j]?
variable{n:Nat}
theorem KQ{i:Int}{j:Nat}(h:T' n i=ι j):adJ i n=ι j/\j<n/\ -(n:Int)<=i/\i<n:=by
 unfold T' at h;by_cases b:0<=i
 ·rw[if_pos b]at h;by_cases a:i<n
  ·rw[if_pos a]at h;have e:i.toNat=j:=ACw h;exact⟨by rw[acK b a,e],by lia,by lia,a⟩
  ·rw[if_neg a]at h;cases h
 ·rw[if_neg b]at h;by_cases a: -(n:Int)<=i
  ·rw[if_pos a]at h;have e:(i+n).toNat=j:=ACw h;exact⟨by rw[abT (by lia) a,e],by lia,a,by lia⟩
  ·rw[if_neg a]at h;cases h
theorem KR{a:Type}{xs:List a}{i:Int}{v:a}(h:OA xs i=ι v):∃j,adJ i xs.length=ι j/\xs[j]?=ι v/\j<xs.length/\ -(xs.length:Int)<=i/\i<xs.length:=by
 unfold OA at h;cases e:T' xs.length i with
 |none=>rw[e]at h;cases h
 |some j=>
  rw[e]at h;obtain⟨b,c,d,f⟩:=KQ e;exact⟨j,b,h,c,d,f⟩
theorem Am{a:Type}{xs:List a}{j:Nat}{v:a}(h:xs[j]?=ι v):OA xs (j:Int)=ι v:=by
 have b:j<xs.length:=(ACv h).1;have e:T' xs.length (j:Int)=ι j:=by
  unfold T';rw[if_pos<|by lia,if_pos<|by lia];simp
 unfold OA;rw[e];exact h
theorem Ky{a:Type}(xs:List a)(v:a):OA (xs++[v]) (-1)=ι v:=by
 have b:(xs++[v]).length=xs.length+1:=by simp
 have e:T' (xs++[v]).length (-1)=ι xs.length:=by
  unfold T';rw[b,if_neg<|by decide,if_pos<|by lia];congr 1;lia
 unfold OA;rw[e];show(xs++[v])[xs.length]?=ι v;simp
def UA(b:u7):Prop:=∀o i,aaP b false o i=operate [o,i] (UV o i)
def nY(X:Cx)(r:R2):Prop:=
 ∀(value slice:u7)(pins:List (Addr×Obj))(s:d8)(a:St)(H:Hp)(x y:V)(v u:b7)(Q:VK),Inv X pins a H s->RelV x v->RelV y u->r x y H Q->
  aaP slice false v u=operate [v,u] (UV v u)->g5 (i7 X.prog X.w) X.A (abm value slice v u) (EP X pins a Q) X.xe s
def qG(X:Cx)(id:String)(r:V->List V->Hp->VK->Prop):Prop:=
 ∀(pins:List (Addr×Obj))(s:d8)(a:St)(H:Hp)(x:V)(b:List V)(v:b7)(c:List b7)(Q:VK),Inv X pins a H s->RelV x v->Vals b c->r x b H Q->
  g5 (i7 X.prog X.w) X.A (call (.builtin id) (v::c)) (EP X pins a Q) X.xe s
variable{pins:List (Addr×Obj)}{s:d8}{H:Hp}{u:b7}{A:AT}{σ:St}{y x:V}{its:List b7}{T:String}
section
variable {a b:u7} {ta tb:TE} {pos:Pos}
theorem ID{r:R2}(c:nY X r)(d:PE X a ta)(e:PE X b tb)(f:UA b):PE X (.Subscript a b pos) (Wu r ta tb):=by
 intro pins s g H Q I h;exact ade<|fj d e I h λv u i x y j k l m q=>c a b pins i g j x y v u Q k l m q<|f _ _
inductive kL(K:ACy)(x y:V)(H:Hp)(Q:VK):Prop
 |mk(p xs i v:_)(c:x=.ref p)(d:y=.int i)(e:Ag K H p xs)(f:OA xs i=ι v)(g:Q v H)
def gD(K:ACy):R2:=λx y H Q=>kL K x y H Q
inductive kM(K:ACy)(x y:V)(H:Hp)(Q:VK):Prop
 |mk(p xs i v:_)(c:x=.ref p)(d:y=.int i)(e:BP K H p xs)(f:OA xs i=ι v)(g:Q v H)
def SK(K:ACy):R2:=λx y H Q=>kM K x y H Q
inductive kO(x y:V)(H:Hp)(Q:VK):Prop
 |mk(z i c:_)(d:x=.str z)(e:y=.int i)(f:z.length<=sizeLine)(g:OA z.cps.toList i=ι c)(h:Q (.str ⟨#[c]⟩) H)
def qH:R2:=λx y H Q=>kO x y H Q
theorem ao:nY X (gD X.K):=by
 intro value slice pins s k H x y v u Q I o A h l;obtain⟨p,L,i,z,rfl,rfl,B,C,q⟩:=h;cases o;obtain⟨t,rfl⟩:=A;obtain⟨d,r,e,M⟩:=I.list B;obtain⟨j,c,D,N,E,F⟩:=KR C;obtain⟨w,m,f⟩:=r.get D;have G:=r.length;have O:=Fz;have fin:EP X pins k Q w s:=⟨z,H,I,f,q⟩;by_cases n:0<=i
 ·have g:i.toNat=j:=by
   rw[acK n F]at c;exact ACw c
  exact item_listR e.isList n (by lia) (by rw[g];simpa using m) fin l
 ·have g:(i+(d.toArray.size:Int)).toNat=j:=by
   rw[abT (by lia) E]at c;rw[cr,<-G];exact ACw c
  exact aak (x:=w) e.isList.typeIs ab6.lookup (wpAny_getItem_list_neg (Q:=λr J=>r=w/\EP X pins k Q r J) e.isList (by lia) (by rw[cr]<;>lia) (by lia) (by rw[g];simpa using m) ⟨rfl,fin⟩) l
theorem SM:nY X (SK X.K):=by
 intro value slice pins s d H x y v u Q I f g h k;obtain⟨p,E,i,z,rfl,rfl,l,m,q⟩:=h;cases f;obtain⟨t,rfl⟩:=g;obtain⟨n,r,e,F⟩:=I.tuple l;obtain⟨j,o,A,G,J,L⟩:=KR m;obtain⟨w,B,c⟩:=r.get A;have C:=r.length;have M:=Fz;have fin:EP X pins d Q w s:=⟨z,H,I,c,q⟩;exact aak (x:=w) e.typeIs slot_tuple_getitem.lookup (getItem_tuple (j:=j) (Q:=λr D=>r=w/\EP X pins d Q r D) e (by lia) (by lia) (by rw[cr,<-C];exact o) (by simpa using B) ⟨rfl,fin⟩) k
theorem Kz:nY X qH:=by
 intro value slice pins s r H x y v u Q I e f h g;obtain⟨z,i,c,rfl,rfl,w,k,q⟩:=h;obtain⟨t,rfl⟩:=e;obtain⟨A,rfl⟩:=f;obtain⟨j,d,l,B,m,n⟩:=KR k;have o:z.cps.toList.length=z.length:=by simp[Str.length]
 rw[o]at d m n;have C:=Fz;exact tail_any (ac7 s z t) slot_str_getitem.lookup (getItem_str (c:=c) (by
  have e1:decide (i< -(2 ^ 63:Int))=false:=decide_eq_false (by lia);have p:decide (i≥2 ^ 63)=false:=decide_eq_false (by lia);rw[e1,p,Bool.or_false]) (by rw[d];simpa using l) ⟨.str ⟨#[c]⟩,H,I.tok _,⟨_,rfl⟩,q⟩) g
theorem SN(its:List b7)(n j:Nat)(u:b7):G4 (·.setIfInBounds j u) {cls:=.type "list",data:=.seq its.toArray n}={cls:=.type "list",data:=.seq (its.set j u).toArray n}:=by
 simp[G4]
theorem Inv.lst{pins:List (Addr×Obj)}{σ:St}{H:Hp}{s:d8}{p:Addr}{xs:List V}(I:Inv X pins σ H s)(h:H p=ι (.lst xs)):
  ∃(its:List b7)(n:Nat),Vals xs its/\s.heap.get? p=ι {cls:=.type "list",data:=.seq its.toArray n}/\xs.length<=sizeLine:=by
 obtain⟨z,its,n,r,e⟩:=I.Ax p _ h;exact⟨its,n,r,e,z⟩
theorem Inv.gE{p:Addr}{xs ys:List V}{its':List b7}{c:Nat}{f:Obj->Obj}(I:Inv X pins σ H s)(h:H p=ι (.lst xs))(g:s.heap.get? p=ι {cls:=.type "list",data:=.seq its.toArray n})(d:f {cls:=.type "list",data:=.seq its.toArray n}={cls:=.type "list",data:=.seq its'.toArray c})(r:Vals ys its')(i:ys.length<=sizeLine)(t:Nat):
  Inv X pins σ (upd H p (.lst ys)) {s with heap:=s.heap.update p f,toks:=t}:=by
 have e:(s.heap.update p f).get? p=ι {cls:=.type "list",data:=.seq its'.toArray c}:=by
  rw[M0 f g<|by rw[d]<;>rfl,d]
 refine I.write (x:=p) (e:=p) (by rw[h];trivial) (.inl rfl) (λb u j q=>(K7 _ _<|k8 j).trans q) ⟨_,e⟩ ?_;exact⟨i,its',c,r,e⟩
inductive gG(o i v:V)(H:Hp)(Q:(Hp->Prop)):Prop
 |mk(p xs k j:_)(c:o=.ref p)(d:i=.int k)(e:H p=ι (.lst xs))(f:T' xs.length k=ι j)(g:Q (upd H p (.lst (xs.set j v))))
def kP:V->V->V->Hp->(Hp->Prop)->Prop:=λo i v H Q=>gG o i v H Q
theorem set_list:jq X kP:=by
 intro pins s z H o i v ov G u Q I A B C h;obtain⟨p,D,k,j,rfl,rfl,l,E,q⟩:=h;cases A;obtain⟨t,rfl⟩:=B;obtain⟨c,n,r,e,F⟩:=I.lst l;obtain⟨d,J,m,w⟩:=KQ E;have f:=r.length;have K:=Fz;have x:Inv X pins z (upd H p<|.lst<|D.set j v) {s with heap:=s.heap.update p (G4 (·.setIfInBounds j u))}:=
  I.gE l e (SN c n j u) (r.set C j) (by rw[L4];exact F) s.toks
 by_cases y:0<=k
 ·have g:k.toNat=j:=by
   rw[acK y w]at d;exact ACw d
  exact PySem.W.ki_setAt e y (by lia) (by rw[cr,<-f];exact w)<|by rw[g];exact⟨_,x,q⟩
 ·have g:(k+(c.toArray.size:Int)).toNat=j:=by
   rw[abT (by lia) m]at d;rw[cr,<-f];exact ACw d
  exact PySem.W.ki_setBack e (by lia) (by rw[cr,<-f];exact m) (by lia)<|by rw[g];exact⟨_,x,q⟩
theorem OB(lo c:Option Int)(n:Nat):(P0 lo c ν n).1=((HT.CN n 0 lo:Nat):Int)/\(P0 lo c ν n).2.1=((HT.CN n n c:Nat):Int)/\(P0 lo c ν n).2.2=1:=by
 refine⟨?_,?_,rfl⟩
 ·cases lo with
  |none=>simp[P0,HT.CN]
  |some i=>
   simp only[P0,HT.CN,acw,show(1:Int)>0 by decide,if_true];by_cases h:i<0
   ·simp only[h,if_true]<;>lia
   ·simp only[h,if_false]<;>lia
 ·cases c with
  |none=>simp[P0,HT.CN]
  |some i=>
   simp only[P0,HT.CN,acw,show(1:Int)>0 by decide,if_true];by_cases h:i<0
   ·simp only[h,if_true]<;>lia
   ·simp only[h,if_false]<;>lia
theorem MR(its:List b7)(lo c:Option Int):slicePick its.toArray lo c ν=((its.drop (HT.CN its.length 0 lo)).take (HT.CN its.length its.length c-HT.CN its.length 0 lo)).toArray:=by
 obtain⟨d,e,f⟩:=OB lo c its.toArray.size;unfold slicePick;rw[d,e,f];simp only[sliceRange_one,pick_run,cr]<;>rfl
inductive kQ(K:ACy)(x:V)(lo c:Option Int)(H:Hp)(Q:VK):Prop
 |mk(a xs:_)(d:x=.ref a)(e:Ag K H a xs)(f:Rp H (.lst (HY xs lo c)) Q)
def gH(K:ACy):V->Option Int->Option Int->Hp->VK->Prop:=λx lo c H Q=>kQ K x lo c H Q
theorem UB:kF X (gH X.K):=by
 intro pins s n H x v p t lo d u Q I f g i j h;obtain⟨a,c,rfl,k,q⟩:=h;cases f;obtain⟨l,r,e,m⟩:=I.list k;have hlen:=r.length;refine⟨"list",_,ab6.lookup,e.isList.typeIs,?_⟩;refine wpAny_getItem_list_slice e.isList g i j .none (by simp) ?_ (by rw[cr]<;>lia);rw[MR,<-hlen];refine⟨.ref s.heap.objs.size,_,I.laid (t':=s.toks) (o:=.lst<|HY c lo d) (λb w q=>be _ q) (bn _) ?_,rfl,q _<|I.Ax.fresh<|bn _⟩;exact⟨j5 (Ji c lo d) m,_,0,(r.drop<|HT.CN c.length 0 lo).take<|HT.CN c.length c.length d-HT.CN c.length 0 lo,g8 _ rfl⟩
noncomputable def DS:V->Bool
 | .BB=>true
 | .bl _=>true
 | .int _=>true
 | .str _=>true
 |_=>false
noncomputable def MS:V->V->Bool
 | .BB,.BB=>true
 | .bl a,.bl b=>a==b
 | .bl a,.int b=>(if a then 1 else 0)==b
 | .int a,.bl b=>a==(if b then 1 else 0)
 | .int a,.int b=>a==b
 | .str a,.str b=>a==b
 |_,_=>false
theorem OC{v:b7}(e:RelV y u)(c:RelV x v)(g:DS y=true)(f:DS x=true):J9 A s u v (MS y x):=by
 cases y with
 |BB=>
  cases e;cases x with
  |BB=>cases c;exact K9 _
  |bl b=>cases c;exact ad5 b
  |int b=>obtain⟨t,rfl⟩:=c;exact aec b t
  |str b=>obtain⟨t,rfl⟩:=c;exact aeb b t
  |_=>exact absurd (show false=true from f) i8
 |bl a=>
  cases e;cases x with
  |BB=>cases c;exact ad6 a
  |bl b=>cases c;exact ad7 a b
  |int b=>obtain⟨t,rfl⟩:=c;exact aeg a b t
  |str b=>obtain⟨t,rfl⟩:=c;exact aef a b t
  |_=>exact absurd (show false=true from f) i8
 |int a=>
  obtain⟨d,rfl⟩:=e;cases x with
  |BB=>cases c;exact aed a d
  |bl b=>cases c;exact aee a d b
  |int b=>obtain⟨t,rfl⟩:=c;exact abE a d b t
  |str b=>obtain⟨t,rfl⟩:=c;exact abD a d b t
  |_=>exact absurd (show false=true from f) i8
 |str a=>
  obtain⟨d,rfl⟩:=e;cases x with
  |BB=>cases c;exact ad9 a d
  |bl b=>cases c;exact aea a d b
  |int b=>obtain⟨t,rfl⟩:=c;exact abB a d b t
  |str b=>obtain⟨t,rfl⟩:=c;exact abA a d b t
  |_=>exact absurd (show false=true from f) i8
 |_=>exact absurd (show false=true from g) i8
def SO(x:V)(u:b7):Bool:=match u with
 | .none=>MS .BB x
 | .bool b=>MS (.bl b) x
 | .int i _=>MS (.int i) x
 | .str z _=>MS (.str z) x
 |_=>false
theorem XT(r:RelV y u)(f:DS y=true):SO x u=MS y x:=by
 cases y with
 |BB=>cases r;rfl
 |bl b=>cases r;rfl
 |int i=>obtain⟨t,rfl⟩:=r;rfl
 |str z=>obtain⟨t,rfl⟩:=r;rfl
 |_=>exact absurd (show false=true from f) i8
theorem IE{x:V}:∀{xs:List V}{us:List b7},Vals xs us->xs.all DS=true->us.any (SO x)=xs.any λy=>MS y x
 |_,_,.nil,_=>rfl
 |y::xs,u::us,.cons r t,f=>by
  rw[S8,kt]at f;rw[G6,G6,XT r f.1,IE t f.2]
theorem F_{A:AT}{s:d8}{x:V}{v:b7}(d:RelV x v)(e:DS x=true):∀{xs:List V}{us:List b7},Vals xs us->xs.all DS=true->∀u∈us,J9 A s u v (SO x u)
 |_,_,.nil,_=>λu c=>by cases c
 |y::xs,u::us,.cons r t,f=>λu' c=>by
  rw[S8,kt]at f;rcases ca.mp c with rfl|c
  ·rw[XT r f.1];exact OC r d f.1 e
  ·exact F_ d e t f.2 u' c
def OD(x:V)(xs:List V):Bool:=xs.any λy=>MS y x
inductive qI(K:ACy)(c:Bool)(x y:V)(H:Hp)(Q:VK):Prop
 |mk(p xs:_)(d:y=.ref p)(e:(Ag K H p xs∨BP K H p xs))(f:DS x=true)(g:xs.all DS=true)(h:Q (.bl (if c then !OD x xs else OD x xs)) H)
def Wv(K:ACy)(c:Bool):R2:=λx y H Q=>qI K c x y H Q
theorem DV:Dr X (u5 .In) (Wv X.K false):=by
 intro pins s k H x y v u Q I f i h;obtain⟨p,l,rfl,d,g,fs,q⟩:=h;cases i;rcases d with d|d
 ·obtain⟨c,r,e,j⟩:=I.list d;refine SeqAt.in_listAt (SO x) e.isList (λw hw=>F_ f g r fs w<|by simpa using hw) ⟨.bl _,H,I,rfl,?_⟩;rw[show c.toArray.any (SO x)=c.any (SO x)by simp,IE r fs];exact q
 ·obtain⟨c,r,e,j⟩:=I.tuple d;refine SeqAt.in_tupleAt (SO x) e (λw hw=>F_ f g r fs w<|by simpa using hw) ⟨.bl _,H,I,rfl,?_⟩;rw[show c.toArray.any (SO x)=c.any (SO x)by simp,IE r fs];exact q
theorem FL:Dr X (u5 .NotIn) (Wv X.K true):=by
 intro pins s k H x y v u Q I f i h;obtain⟨p,l,rfl,d,g,fs,q⟩:=h;cases i;rcases d with d|d
 ·obtain⟨c,r,e,j⟩:=I.list d;refine abz (SO x) e.isList (λw hw=>F_ f g r fs w<|by simpa using hw) ⟨.bl _,H,I,rfl,?_⟩;rw[show c.toArray.any (SO x)=c.any (SO x)by simp,IE r fs];exact q
 ·obtain⟨c,r,e,j⟩:=I.tuple d;refine SeqAt.notIn_tupleAt (SO x) e (λw hw=>F_ f g r fs w<|by simpa using hw) ⟨.bl _,H,I,rfl,?_⟩;rw[show c.toArray.any (SO x)=c.any (SO x)by simp,IE r fs];exact q
inductive Jx(K:ACy)(xs:List V)(H:Hp)(Q:VK):Prop
 |mk(p ys:_)(c:xs=[.ref p])(d:(Ag K H p ys∨BP K H p ys))(e:Q (.int ys.length) H)
def F'(K:ACy):List V->Hp->VK->Prop:=λc H Q=>Jx K c H Q
theorem OE:Bo X (.builtin "len") (F' X.K):=by
 intro pins s k H l m Q I r h;obtain⟨p,g,rfl,c,q⟩:=h;obtain⟨u,rfl,i⟩:=vals1 r;cases i;have n:=Fz;rcases c with c|c
 ·obtain⟨d,e,f,j⟩:=I.list c;have hlen:=e.length;exact Calls.call_len_list f.isList (by simp only[cr]<;>lia) ⟨.int g.length,H,I.tok _,⟨s.toks+1,by rw[cr,hlen]⟩,q⟩
 ·obtain⟨d,e,f,j⟩:=I.tuple c;have hlen:=e.length;exact len_tuple f (by simp only[cr]<;>lia) ⟨.int g.length,H,I.tok _,⟨s.toks+1,by rw[cr,hlen]⟩,q⟩
inductive Jy(xs:List V)(H:Hp)(Q:VK):Prop
 |mk(z:_)(c:xs=[.str z])(d:z.length<=sizeLine)(e:Q (.int z.length) H)
def K_:List V->Hp->VK->Prop:=λc H Q=>Jy c H Q
theorem DE:Bo X (.builtin "len") K_:=by
 intro pins s c H d e Q I r h;obtain⟨z,rfl,f,q⟩:=h;obtain⟨u,rfl,t,rfl⟩:=vals1 r;have g:=Fz;exact len_str (by lia) ⟨.int z.length,H,I.tok _,⟨_,rfl⟩,q⟩
inductive Jz(K:ACy)(xs:List V)(H:Hp)(Q:VK):Prop
 |mk(p ys:_)(c:xs=[.ref p])(d:(Ag K H p ys∨BP K H p ys))(e:Rp H (.lst ys) Q)
def K'(K:ACy):List V->Hp->VK->Prop:=λc H Q=>Jz K c H Q
theorem Cf:Bo X (.type "list") (K' X.K):=by
 intro pins s z H B C Q I r h;obtain⟨p,l,rfl,i,q⟩:=h;obtain⟨u,rfl,A⟩:=vals1 r;cases A;have fin:∀(c:List b7),Vals l c->l.length<=sizeLine->∀(d:Heap)(f:Nat),(∀b y,s.heap.get? b=ι y->d.get? b=ι y)->
   d.get? s.heap.objs.size=ι {cls:=.type "list",dict:=ν,data:=.seq c.toArray f,slots:= #[]}->EP X pins z Q (.ref s.heap.objs.size) {s with heap:=d}:=λc g j d f k e=>
  ⟨.ref s.heap.objs.size,_,I.laid (t':=s.toks) k (bn _) (show Ay X.prog X.w _ d _ (.lst l)from⟨j,c,f,g,e⟩),rfl,q _ (I.Ax.fresh (bn _))⟩
 rcases i with i|i
 ·obtain⟨c,g,m,j⟩:=I.list i;have hlen:=g.length;obtain⟨o,t,v,n,x⟩:=m.isList;exact adB p (.inl rfl) t v x (λd f k e=>fin c g j d f k e)<|by simp only[cr]<;>lia
 ·obtain⟨c,g,m,j⟩:=I.tuple i;have hlen:=g.length;obtain⟨o,t,v,n,x⟩:=m;exact adB p (.inr rfl) t v x (λd f k e=>fin c g j d f k e)<|by simp only[cr]<;>lia
inductive JI(K:ACy)(xs:List V)(H:Hp)(Q:VK):Prop
 |mk(p ys:_)(c:xs=[.ref p])(d:((Ag K H p ys/\∀l,H l=ν->Q (.ref l) (upd H l (.tup ys)))∨(BP K H p ys/\Q (.ref p) H)))
def J_(K:ACy):List V->Hp->VK->Prop:=λc H Q=>JI K c H Q
theorem MT:Bo X (.type "tuple") (J_ X.K):=by
 intro pins s j H x y Q I r h;obtain⟨p,k,rfl,h⟩:=h;obtain⟨u,rfl,n⟩:=vals1 r;cases n;rcases h with⟨f,q⟩|⟨f,q⟩
 ·obtain⟨c,g,i,l⟩:=I.list f;have hlen:=g.length;refine call_tuple_list i.isList (λd t=>?_) (by simp only[cr]<;>lia);have m:Inv X pins j H {s with heap:=d}:=I.kept (t':=s.toks) t;have v:Inv X pins j (upd H d.objs.size<|.tup k) {s with heap:=d.push {cls:=.type "tuple",data:=.seq c.toArray}}:=
   m.laid (t':=s.toks) (λb o e=>be _ e) (bn _) (show Ay X.prog X.w _ _ _ (.tup k)from⟨l,c,g,IsTup.new _ _⟩)
  exact⟨.ref d.objs.size,_,v,rfl,q _<|m.Ax.fresh<|bn _⟩
 ·obtain⟨c,g,i,l⟩:=I.tuple f;exact call_tuple_same i ⟨.ref p,H,I,rfl,q⟩
def qJ(K:ACy)(T:String)(x:V)(H:Hp):Prop:=match x with
 | .str _=>T="str"
 | .int _=>T="int"
 | .ref p=>(T="list"/\∃c,Ag K H p c)∨(T="tuple"/\∃o,K.lookup p=ι o/\o.cls=.type "tuple"/\o.dict=ν)∨ (T="dict"/\((∃kvs,H p=ι (.dK kvs))∨∃kvs,H p=ι (.dT kvs)))∨(T="set"/\∃S n,H p=ι (.set S n))
 |_=>False
theorem XU{v:b7}(I:Inv X pins σ H s)(r:RelV x v)(ty:qJ X.K T x H):
  s.TypeIs v T/\∀a,v=.ref a->∃j,s.heap.get? a=ι j/\j.dict=none:=by
 cases x with
 |str z=>
  obtain⟨t,rfl⟩:=r;cases(show T="str"from ty);exact⟨ac7 s z t,λ_ e=>nomatch e⟩
 |int i=>
  obtain⟨t,rfl⟩:=r;cases(show T="int"from ty);exact⟨ac8 s i t,λ_ e=>nomatch e⟩
 |ref p=>
  cases r;rcases ty with⟨rfl,u,l⟩|⟨rfl,o,d,m,g⟩|⟨rfl,d⟩|⟨rfl,S,n,d⟩
  ·obtain⟨q,_,k,_⟩:=I.list l;refine⟨k.isList.typeIs,λa e=>?_⟩;cases e;obtain⟨o,n,e,c,g,_⟩:=k;exact⟨o,e,g⟩
  ·refine⟨⟨o,I.FG p o d,m⟩,λa e=>?_⟩;cases e;exact⟨o,I.FG _ o d,g⟩
  ·have z:∃o,s.heap.get? p=ι o/\o.ExactDict:=by
    rcases d with⟨kvs,d⟩|⟨kvs,d⟩
    ·obtain⟨_,_,_,_,o,_,_,e,f,_⟩:=I.Ax p _ d;exact⟨o,e,f⟩
    ·obtain⟨_,_,_,_,o,_,_,e,f,_⟩:=I.Ax p _ d;exact⟨o,e,f⟩
   obtain⟨o,e,f⟩:=z;refine⟨⟨o,e,f.1⟩,λa h=>?_⟩;cases h;exact⟨o,e,f.2.1⟩
  ·obtain⟨o,_,_,_,e,f,_⟩:=I.Ax p _ d;refine⟨⟨o,e,f.1⟩,λa h=>?_⟩;cases h;exact⟨o,e,f.2.1⟩
 |_=>exact wv ty
def qK(K:ACy)(T:String)(r:V->List V->Hp->VK->Prop)(d:TE):TE:=λe H Q=>d e H λx c=>qJ K T x c/\r x [] c Q
def kR(K:ACy)(T:String)(r:V->List V->Hp->VK->Prop)(e:TE)(t:TA):TE:=λc H Q=>e c H λx d=>qJ K T x d/\t c d λf g=>r x f g Q
variable{o:u7} {es:List u7} {to:TE} {t:TA} {name:Str} {apos CU:Pos} {id:String} {r:V->List V->Hp->VK->Prop}
theorem gJ(k:adg T)(slot:Slot T name id)(f:typeOf (.builtin id)=pure (.type "method_descriptor"))(l:qG X id r)(m:PE X o to)(c:D0 o name X.env (wP o X.env)=wP o X.env:=by rfl)(d:(apos.endLine==CU.line)=true:=by rfl):PE X (.Call (.Attribute o name apos) [] [] CU) (qK X.K T r to):=by
 intro pins s g H Q I h;refine Z3 c d (BQ (m pins s g H _ I h) λv n ⟨x,p,i,j,ty,q⟩=>?_);obtain⟨u,w⟩:=XU i j ty;exact⟨T,id,k,slot,f,u,w,Db rfl<|abe<|l pins n g p x [] v [] Q i j .nil q⟩
theorem Pn(n:adg T)(slot:Slot T name id)(i:typeOf (.builtin id)=pure (.type "method_descriptor"))(p:qG X id r)(q:PE X o to)(u:PA X (e::es) t)(d:D0 o name X.env (wP o X.env)=wP o X.env:=by rfl)(g:((D6 CU (jL (e::es) X.env)).all (λx=> !x.1)&&(aaO CU (S9 [] X.env)).all (λx=>x.1.isSome)
   &&decide ((e::es).length+([]:List S0).length+(if([]:List S0).isEmpty then 0 else 1)<30))=true:=by rfl)(f:(apos.endLine==CU.line)=true:=by rfl)(w:jL (e::es) X.env=(false,wP e X.env)::jL es X.env:=by rfl)(c:(D6 CU (jL es X.env)).any (·.1)=false:=by rfl):
  PE X (.Call (.Attribute o name apos) (e::es) [] CU) (kR X.K T r to t):=by
 intro pins s j H Q I h;refine wpAny_Call_method_late d g f rfl (BQ (q pins s j H _ I h) λv y ⟨x,z,k,l,ty,A⟩=>?_);obtain⟨B,C⟩:=XU k l ty;refine⟨T,id,n,slot,i,B,C,?_⟩;have m:=u CU pins y j z _ k A;rw[w]at m⊢;refine Db (by show(false||(D6 CU<|jL es X.env).any (·.1))=false;rw[c]<;>rfl) (M9 ?_);exact BQ m λD E F=>F.elim λG J L M N=>p pins E j J x G v D Q L l M N
end
def gK(X:Cx)(id:String)(r:V->List V->Hp->VK->Prop):Prop:=
 ∀(pins:List (Addr×Obj))(s:d8)(a:St)(H:Hp)(x:V)(b:List V)(v:b7)(c:List b7)(Q:VK),Inv X pins a H s->RelV x v->Vals b c->r x b H Q->
  g5 (i7 X.prog X.w) X.A (call (.builtin id) (v::c)) (EP X pins a Q) X.xe s
theorem Vals.zero(r:Vals [] us):us=[]:=q8 (L8 r).symm
theorem Vals.one(r:Vals [x] us):∃u,us=[u]/\RelV x u:=by
 obtain⟨u,a,rfl,h,t⟩:=r.inv;rw[t.zero];exact⟨u,rfl,h⟩
theorem Vals.two(r:Vals [x,y] us):∃u v,us=[u,v]/\RelV x u/\RelV y v:=by
 obtain⟨u,b,rfl,h,t⟩:=r.inv;obtain⟨v,rfl,a⟩:=t.one;exact⟨u,v,rfl,h,a⟩
theorem Vals.dropLast{xs:List V}(h:Vals xs us):Vals xs.dropLast us.dropLast:=by
 induction h with
 |nil=>exact .nil
 |cons r t a=>
  cases t with
  |nil=>exact .nil
  |cons q b=>exact .cons r a
theorem Vals.eraseIdx:∀{xs:List V}{us:List b7}(i:Nat),Vals xs us->Vals (xs.eraseIdx i) (us.eraseIdx i)
 |_,_,_,.nil=>.nil
 |_,_,0,.cons _ t=>t
 |_,_,i+1,.cons r t=>.cons r (Vals.eraseIdx i t)
theorem Vals.rep{xs:List V}{us:List b7}(h:Vals xs us):∀k:Nat,Vals (i9 k xs).flatten (i9 k us).flatten
 |0=>.nil
 |k+1=>by
  rw[C6,C6,v0,v0];exact Vals.append h<|Vals.rep h k
theorem SQ{a:Type}(l:List a):l.eraseIdx (l.length-1)=l.dropLast:=List.eraseIdx_length_sub_one
theorem JJ{a:Type}:∀(l:List a)(i:Nat),(l.eraseIdx i).length<=l.length
 |[],_=>bn _
 |_::_,0=>XV _
 |_::r,i+1=>acx (JJ r i)
theorem foldl_rep(its:List b7):∀(k:Nat)(a:List b7),
  adh (λb c=>b++c) a.toArray (i9 k its.toArray)=(a++(i9 k its).flatten).toArray
 |0,a=>by simp
 |k+1,a=>by
  have e:a.toArray++its.toArray=(a++its).toArray:=by simp
  have d:(a++its)++(i9 k its).flatten=a++(i9 (k+1) its).flatten:=by
   rw[C6,v0,ii]
  rw[<-d,<-foldl_rep its k (a++its),<-e,C6,aay]
variable{t':Nat}
section
variable {l b:Addr} {xs ys zs:List V}
theorem Inv.VY{its':List b7}{f:Array b7->Array b7}(I:Inv X pins σ H s)(a:H l=ι (.lst xs))(e:s.heap.get? l=ι {cls:=.type "list",data:=.seq its.toArray n})(c:f its.toArray=its'.toArray)(d:Vals ys its')(g:ys.length<=sizeLine):
  Inv X pins σ (upd H l (.lst ys)) {s with heap:=s.heap.update l (G4 f),toks:=t'}:=by
 have q:=PySem.IsL.update e f;rw[c]at q;refine I.write (x:=l) (e:=l) (by rw[a];exact trivial) (.inl rfl) (λj u h i=>(K7 s.heap (G4 f)<|k8 h).trans i) ⟨_,q⟩ ?_;exact⟨g,its',_,d,q⟩
theorem Inv.aq(I:Inv X pins σ H s)(a:Vals ys its)(hz:ys.length<=sizeLine):
  Inv X pins σ (upd H s.heap.objs.size (.lst ys)) {s with heap:=s.heap.push {cls:=.type "list",data:=.seq its.toArray},toks:=t'}:=
 I.laid (λ_ _ q=>be _ q) (bn _) ⟨hz,its,0,a,g8 _ rfl⟩
theorem Inv.fresh(I:Inv X pins σ H s):H s.heap.objs.size=none:=I.Ax.fresh<|bn _
theorem Inv.MU(I:Inv X pins σ H s)(a:H l=ι (.lst xs)):xs.length<=sizeLine/\∃(its:List b7)(n:Nat),Vals xs its/\xs.length=its.length/\s.heap.get? l=ι {cls:=.type "list",data:=.seq its.toArray n}:=by
 obtain⟨z,its,n,r,e⟩:=I.Ax l _ a;exact⟨z,its,n,r,r.length,e⟩
theorem Po(h:n<=sizeLine):G8 n=false:=by
 unfold G8;exact decide_eq_false<|by lia
end
section
inductive XW(x:V)(vs:List V)(H:Hp)(Q:VK):Prop
 |mk(l xs y:_)(a:x=.ref l)(b:vs=[y])(c:H l=ι (.lst xs))(d:xs.length<sizeLine)(e:Q .BB (upd H l (.lst (xs++[y]))))
def UC:V->List V->Hp->VK->Prop:=λx a H Q=>XW x a H Q
theorem Mv:gK X "list.append" UC:=by
 intro pins s g H x i v j Q I c d h;obtain⟨l,k,y,rfl,rfl,b,m,q⟩:=h;cases c;obtain⟨u,rfl,f⟩:=d.one;obtain⟨z,a,n,r,o,e⟩:=I.MU b;refine J8 F.slot_list_append ⟨_,e,rfl⟩ F.entry_list_append (F.args_list_append_2 _ _) (PySem.list_append l a.toArray n u<|by rw[cr];lia) ⟨e,?_⟩;refine⟨.BB,_,I.VY (its':=a++[u]) b e (by simp) (r.append<|.cons f .nil) ?_,rfl,q⟩;rw[b8,i5];lia
inductive XX(x:V)(vs:List V)(H:Hp)(Q:VK):Prop
 |mk(l b xs zs:_)(a:x=.ref l)(c:vs=[.ref b])(d:H l=ι (.lst xs))(e:H b=ι (.lst zs))(f:xs.length+zs.length<=sizeLine)(g:Q .BB (upd H l (.lst (xs++zs))))
def OF:V->List V->Hp->VK->Prop:=λx a H Q=>XX x a H Q
theorem VZ:gK X "list.extend" OF:=by
 intro pins s y H x A v B Q I i j h;obtain⟨l,b,C,D,rfl,rfl,g,k,E,q⟩:=h;cases i;obtain⟨u,rfl,m⟩:=j.one;cases m;obtain⟨z,c,n,r,G,e⟩:=I.MU g;obtain⟨z2,a,o,p,t,w⟩:=I.MU k;have f:c.toArray.size+a.toArray.size<=sizeLine:=by rw[cr,cr];lia
 have d:¬(!c.toArray.isEmpty&&G8 (c.toArray.size+a.toArray.size))=true:=by
  rw[Po f,adu];exact i8
 refine J8 F.slot_list_extend ⟨_,e,rfl⟩ F.entry_list_extend (F.args_list_extend_2 _ _) (AutoSeq1.list_extend_list_list_0 l c.toArray n b a.toArray o d (by rw[cr];lia)<|by lia) ⟨e,w,?_⟩;refine⟨.BB,_,I.VY (its':=c++a) g e (by simp) (r.append p) ?_,rfl,q⟩;rw[b8];lia
inductive kS(x:V)(vs:List V)(H:Hp)(Q:VK):Prop
 |mk(l xs y:_)(a:x=.ref l)(b:vs=[])(c:H l=ι (.lst xs))(d:xs[xs.length-1]?=ι y)(e:Q y (upd H l (.lst xs.dropLast)))
def qL:V->List V->Hp->VK->Prop:=λx a H Q=>kS x a H Q
theorem gL:gK X "list.pop" qL:=by
 intro pins s o H x p v t Q I f g h;obtain⟨l,w,y,rfl,rfl,d,i,q⟩:=h;cases f;have b:=g.zero;subst b;obtain⟨z,a,n,r,j,e⟩:=I.MU d;obtain⟨u,k,m⟩:=r.get i;have c:a.toArray[a.toArray.size-1]?=ι u:=by
  show a.toArray[a.length-1]?=ι u;rw[<-q4,<-j];exact k
 refine J8 acV ⟨_,e,rfl⟩ acG (F.args_list_pop_1 _) (MeetsSeq.list_pop_last l a.toArray n u c<|by rw[cr];lia) ⟨e,?_⟩;refine⟨y,_,I.VY (its':=a.dropLast) d e ?_ r.dropLast ?_,m,q⟩
 ·show a.toArray.eraseIdxIfInBounds (a.toArray.size-1)=a.dropLast.toArray;rw[cr,G9,SQ]
 ·rw[aa4];lia
inductive ar(x:V)(vs:List V)(H:Hp)(Q:VK):Prop
 |mk(l xs i k y:_)(a:x=.ref l)(b:vs=[.int i])(c:H l=ι (.lst xs))(d: -(2 ^ 63)<=i)(e:i<2 ^ 63)(f:adJ i xs.length=ι k)(g:xs[k]?=ι y)(h:Q y (upd H l (.lst (xs.eraseIdx k))))
def gM:V->List V->Hp->VK->Prop:=λx a H Q=>ar x a H Q
theorem XY:gK X "list.pop" gM:=by
 intro pins s C H x D v E Q I d f h;obtain⟨l,g,i,k,y,rfl,rfl,c,j,m,o,p,q⟩:=h;cases d;obtain⟨u,rfl,A⟩:=f.one;obtain⟨t,rfl⟩:=A;obtain⟨z,a,n,r,B,e⟩:=I.MU c;obtain⟨w,hw,b⟩:=r.get p;refine J8 acV ⟨_,e,rfl⟩ acG (F.args_list_pop_2 _ _) (MeetsSeq.list_pop_at l a.toArray n i t k w (ado j m) (by rw[cr,<-B];exact o) (by rw[<-q4];exact hw)<|by rw[cr];lia) ⟨e,?_⟩;refine⟨y,_,I.VY (its':=a.eraseIdx k) c e ?_ (r.eraseIdx k) ?_,b,q⟩
 ·show a.toArray.eraseIdxIfInBounds k=(a.eraseIdx k).toArray;rw[G9]
 ·have:=JJ g k;lia
inductive kT(x y:V)(H:Hp)(Q:VK):Prop
 |mk(l b xs zs:_)(a:x=.ref l)(c:y=.ref b)(d:H l=ι (.lst xs))(e:H b=ι (.lst zs))(f:xs.length+zs.length<=sizeLine)(g:Rp H (.lst (xs++zs)) Q)
def qM:R2:=λx y H Q=>kT x y H Q
theorem Hd:Dr X (Is .Add) qM:=by
 intro pins s p H x y v u Q I d f h;obtain⟨l,b,t,w,rfl,rfl,g,i,A,q⟩:=h;cases d;cases f;obtain⟨z,c,n,r,B,e⟩:=I.MU g;obtain⟨z2,a,C,j,k,m⟩:=I.MU i;refine PySem.P.add_list e m ?_ (by rw[cr,cr];lia);have o:c.toArray++a.toArray=(c++a).toArray:=by simp
 rw[o];exact⟨.ref _,_,I.aq (t':=s.toks) (r.append j)<|by rw[b8];lia,rfl,q _ I.fresh⟩
inductive kU(x y:V)(H:Hp)(Q:VK):Prop
 |mk(l k xs:_)(a:x=.ref l)(b:y=.int k)(c:H l=ι (.lst xs))(d: -(2 ^ 63)<=k)(e:k<2 ^ 63)(f:xs.length*k.toNat<=sizeLine)(g:Rp H (.lst (i9 k.toNat xs).flatten) Q)
def qN:R2:=λx y H Q=>kU x y H Q
theorem len_rep{a:Type}(xs:List a)(k:Nat):(i9 k xs).flatten.length=k*xs.length:=by
 induction k with
 |zero=>simp
 |succ k b=>rw[C6,v0,b8,b,Nat.succ_mul,aae]
theorem XZ:Dr X (Is .Mult) qN:=by
 intro pins s J H x y v u Q I p w h;obtain⟨l,k,K,rfl,rfl,A,B,C,o,q⟩:=h;cases p;obtain⟨t,rfl⟩:=w;obtain⟨z,b,n,r,D,e⟩:=I.MU A;have hlen:b.toArray.size*k.toNat<=sizeLine:=by rw[cr,<-D];exact o
 have d:¬b.toArray.size*k.toNat>(2 ^ 63-1)/8:=by
  have:(sizeLine:Nat)<=(2 ^ 63-1)/8:=by decide
  lia
 have f:¬(!Builtin.List.listFitsIndex k)=true:=by
  rw[ado B C];exact i8
 have c:¬G8 (b.toArray.size*k.toNat)=true:=by
  rw[Po hlen];exact i8
 have g:adh (λi j=>i++j) #[] (i9 (if b.toArray.isEmpty=true then 0 else k.toNat) b.toArray)=(i9 k.toNat b).flatten.toArray:=by
  have E:∀m:Nat,adh (λi j=>i++j) #[] (i9 m b.toArray)=(i9 m b).flatten.toArray:=λm=>by
   have:=foldl_rep b m [];rw[F6]at this;exact this
  rw[E];cases b with
  |nil=>simp
  |cons a L=>rw[if_neg (by simp)]
 refine wpAny_binaryOp_repeat_ref (T:="list") (U:="int") (by decide) ⟨_,e,rfl⟩ (λG=>ac8 G k t) noFill_list_mul F.fills_int_mul acW repeat_list F.slot_int_index.lookup (J8 acW (ac8 s k t) F.entry_int_rmul (F.args_int_rmul_2 _ _) (int___rmul___int_list k t l b.toArray n)
   ⟨e,rfl,⟨_,e,rfl⟩,J8 F.slot_list_mul ⟨_,e,rfl⟩ F.entry_list_mul (F.args_list_mul_2 _ _) (AutoListH.list___mul___list_int_3 l b.toArray n k t f d c) ⟨e,?_⟩⟩)
 rw[g];exact⟨.ref _,_,I.aq (t':=s.toks) (r.rep k.toNat)<|by rw[len_rep,Nat.mul_comm];exact o,rfl,q _ I.fresh⟩
end
variable{E:b7->d8->Prop}{w:u8}{prog:om}
section
end
section
end
variable{o:Option V}
section
variable{κ:Type} [DecidableEq κ]
def BF(kvs:List (κ×V))(k:κ):Option V:=(kvs.find? λa=>decide<|a.1=k).map (·.2)
def putK(kvs:List (κ×V))(k:κ)(v:V):List (κ×V):=
 if(kvs.any λa=>decide (a.1=k))=true then kvs.map (λa=>if a.1=k then(a.1,v)else a)else kvs++[(k,v)]
def Pp(kvs:List (κ×V))(k:κ):List (κ×V):=kvs.filter λa=>decide<|a.1≠k
theorem Xa{k:κ}:BF ([]:List (κ×V)) k=none:=rfl
theorem Bl{p:κ×V}{r:List (κ×V)}{k:κ}(e:p.1=k):BF (p::r) k=ι p.2:=by simp[BF,L5,e]
theorem Bg{p:κ×V}{r:List (κ×V)}{k:κ}(e:¬p.1=k):BF (p::r) k=BF r k:=by simp[BF,L5,e]
theorem Dh(k:κ):∀kvs:List (κ×V),(kvs.any λa=>decide (a.1=k))=(BF kvs k).isSome
 |[]=>rfl
 |p::r=>by
  rw[G6];by_cases e:p.1=k
  ·simp only[Bl e,decide_eq_true e,Bool.true_or,Ps]
  ·rw[Bg e,decide_eq_false e,Bool.false_or];exact Dh k r
theorem Pq(k j:κ)(y:V):∀kvs:List (κ×V),BF (kvs.map λa=>if a.1=k then(a.1,y)else a) j=(BF kvs j).map λx=>if j=k then y else x
 |[]=>rfl
 |p::r=>by
  have b:=Pq k j y r;rw[ge];by_cases h:p.1=k
  ·rw[if_pos h];by_cases e:p.1=j
   ·rw[Bl (p:=(p.1,y)) e,Bl e,A7,if_pos<|e.symm.trans h]
   ·rw[Bg (p:=(p.1,y)) e,Bg e,b]
  ·rw[if_neg h];by_cases e:p.1=j
   ·rw[Bl (p:=p) e,Bl e,A7,if_neg λz=>h<|e.trans z]
   ·rw[Bg (p:=p) e,Bg e,b]
theorem Mw(k j:κ)(y:V):∀kvs:List (κ×V),BF kvs k=ν->BF (kvs++[(k,y)]) j=if j=k then ι y else BF kvs j
 |[],_=>by
  by_cases e:k=j
  ·rw[if_pos e.symm];exact Bl (p:=(k,y)) e
  ·rw[if_neg λz=>e z.symm];exact Bg (p:=(k,y)) e
 |p::r,a=>by
  rw[jp];have b:¬p.1=k:=λz=>by rw[Bl z]at a;cases a
  rw[Bg b]at a;have c:=Mw k j y r a;by_cases e:p.1=j
  ·rw[Bl e,Bl e,if_neg λz=>b<|e.trans z]
  ·rw[Bg e,Bg e,c]
theorem IF(kvs:List (κ×V))(k j:κ)(y:V):BF (putK kvs k y) j=if j=k then ι y else BF kvs j:=by
 unfold putK;by_cases a:(kvs.any λb=>decide<|b.1=k)=true
 ·rw[if_pos a,Pq];rw[Dh]at a;by_cases e:j=k
  ·obtain⟨x,c⟩:=B4.mp a;rw[if_pos e,e,c,A7,if_pos rfl]
  ·rw[if_neg e];cases BF kvs j with
   |none=>rfl
   |some x=>rw[A7,if_neg e]
 ·rw[if_neg a];refine Mw k j y kvs ?_;rw[Dh]at a;cases q:BF kvs k with
  |none=>rfl
  |some x=>rw[q]at a;exact(a rfl).elim
theorem Cw(kvs:List (κ×V))(k:κ)(v:V):(putK kvs k v).length<=kvs.length+1:=by
 unfold putK;split
 ·rw[ap];lia
 ·rw[b8,g6,F7];lia
theorem LA{kvs:List (κ×V)}{k:κ}(v:V)(h:BF kvs k=ν):putK kvs k v=kvs++[(k,v)]:=by
 unfold putK;rw[Dh,h];exact if_neg<|by decide
theorem FH.Ei{u:Option b7}(r:FH o u):o.isSome=u.isSome:=by
 cases o with
 |none=>cases u with
  |none=>rfl
  |some _=>exact(show False from r).elim
 |some _=>cases u with
  |none=>exact(show False from r).elim
  |some _=>rfl
theorem FH.getD{u:Option b7}{d:V}{d':b7}(r:FH o u)(rd:RelV d d'):RelV (o.getD d) (u.getD d'):=by
 cases o with
 |none=>cases u with
  |none=>exact rd
  |some _=>exact(show False from r).elim
 |some _=>cases u with
  |none=>exact(show False from r).elim
  |some _=>exact r
theorem KV.val{kvs:List (κ×V)}{vs:List (κ×b7)}(r:KV kvs vs)(k:κ):FH (BF kvs k) (P6 vs k):=by
 unfold KV at r
 induction r with
 |nil=>exact wS
 |@cons p q i a h t f=>
  obtain⟨d,g⟩:=h;by_cases e:p.1=k
  ·have c:q.1=k:=d.symm.trans e;have b:P6 (q::a) k=ι q.2:=by simp[P6,L5,c]
   rw[Bl e,b];exact g
  ·have c:¬q.1=k:=λz=>e<|d.trans z;have b:P6 (q::a) k=P6 a k:=by simp[P6,L5,c]
   rw[Bg e,b];exact f
theorem KV.any{kvs:List (κ×V)}{vs:List (κ×b7)}(r:KV kvs vs)(k:κ):(kvs.any λa=>decide (a.1=k))=vs.any λa=>decide (a.1=k):=by
 unfold KV at r
 induction r with
 |nil=>rfl
 |cons h t b=>rw[G6,G6,b,h.1]
theorem KV.gN{kvs:List (κ×V)}{vs:List (κ×b7)}(r:KV kvs vs)(k:κ)(c:RelV y u):
  KV (kvs.map λa=>if a.1=k then(a.1,y)else a) (vs.map λa=>if a.1=k then(a.1,u)else a):=by
 unfold KV at r⊢
 induction r with
 |nil=>exact .nil
 |@cons p q g i h t d=>
  rw[ge,ge];refine .cons ?_ d;obtain⟨b,f⟩:=h;by_cases e:p.1=k
  ·rw[if_pos e,if_pos<|b.symm.trans e];exact⟨b,c⟩
  ·rw[if_neg e,if_neg λz=>e<|b.trans z];exact⟨b,f⟩
theorem KV.put{kvs:List (κ×V)}{vs:List (κ×b7)}(r:KV kvs vs)(k:κ)(a:RelV y u):KV (putK kvs k y) (adN vs k u):=by
 unfold putK adN;rw[r.any k];by_cases e:(vs.any λb=>decide<|b.1=k)=true
 ·rw[if_pos e,if_pos e];exact r.gN k a
 ·rw[if_neg e,if_neg e];exact ad2 r ⟨rfl,a⟩
theorem KV.drop{kvs:List (κ×V)}{vs:List (κ×b7)}(r:KV kvs vs)(k:κ):KV (Pp kvs k) (without vs k):=by
 unfold KV at r⊢;unfold Pp without
 induction r with
 |nil=>exact .nil
 |@cons p q i j h t d=>
  obtain⟨c,f⟩:=h;rw[w8,w8];by_cases e:p.1=k
  ·have a:¬decide (p.1≠k)=true:=by simp[e]
   have b:¬decide (q.1≠k)=true:=by simp[c.symm.trans e]
   rw[if_neg a,if_neg b];exact d
  ·have g:¬q.1=k:=λz=>e<|c.trans z;have a:decide (p.1≠k)=true:=by simp[e]
   have b:decide (q.1≠k)=true:=by simp[g]
   rw[if_pos a,if_pos b];exact .cons ⟨c,f⟩ d
theorem KV.keys{kvs:List (κ×V)}{vs:List (κ×b7)}(r:KV kvs vs):kvs.map (·.1)=vs.map (·.1):=by
 unfold KV at r
 induction r with
 |nil=>rfl
 |cons h t a=>rw[ge,ge,a,h.1]
theorem KV.length{kvs:List (κ×V)}{vs:List (κ×b7)}(r:KV kvs vs):kvs.length=vs.length:=L8 r
theorem Xb(kvs:List (κ×V))(k:κ):(Pp kvs k).length<=kvs.length:=R7 _ _
end
variable{P:om}
theorem HI{k:Key}(r:RelV (kV k) u):(Ah P w).is k u=true:=by
 cases k with
 |inl i=>obtain⟨t,e⟩:=(show∃t,u=IN i t from r);subst e;exact PZ P w i t
 |inr x=>obtain⟨t,e⟩:=(show∃t,u=Ix x t from r);subst e;exact Pa P w x t
theorem Xc{a b:Key}(e:kV a=kV b):a=b:=by
 cases a with
 |inl i=>cases b with
  |inl j=>have c:V.int i=V.int j:=e;injection c with c;rw[c]
  |inr y=>exact nomatch(show V.int i=V.str y from e)
 |inr x=>cases b with
  |inl j=>exact nomatch(show V.str x=V.int j from e)
  |inr y=>have c:V.str x=V.str y:=e;injection c with c;rw[c]
theorem OG:∀{a b:List Key},a.map kV=b.map kV->a=b
 |[],[],_=>rfl
 |[],_::_,e=>by simp at e
 |_::_,[],e=>by simp at e
 |x::xs,y::ys,e=>by
  rw[ge,ge]at e;injection e with e1 c;rw[Xc e1,OG c]
theorem Mx{P:om}{w:u8}:∀{ks:List Key}{us:List b7},Vals (ks.map kV) us->ItemsAre (Ah P w) ks us
 |[],_,r=>by rw[B2]at r;cases r;exact .nil
 |k::ks,_,r=>by
  rw[ge]at r;cases r with
  |cons h t=>exact .cons (HI h) (Mx t)
abbrev KT(H:Hp):List (List Key×V)->List (List Key×Addr×b7)->Prop:=Paired λp q=>p.1=q.1/\H q.2.1=ι (.tup<|p.1.map kV)/\RelV p.2 q.2.2
variable{xs:List (List Key×Addr×b7)}
theorem KT.val{kvs:List (List Key×V)}(r:KT H kvs xs)(k:List Key):FH (BF kvs k) ((acJ xs k).map (·.2)):=by
 induction r with
 |nil=>exact wS
 |@cons p q i a h t f=>
  obtain⟨d,_,g⟩:=h;by_cases e:p.1=k
  ·have c:q.1=k:=d.symm.trans e;have b:acJ (q::a) k=ι q.2:=by simp[acJ,L5,c]
   rw[Bl e,b];exact g
  ·have c:¬q.1=k:=λz=>e<|d.trans z;have b:acJ (q::a) k=acJ a k:=by simp[acJ,L5,c]
   rw[Bg e,b];exact f
theorem KT.gN{kvs:List (List Key×V)}(r:KT H kvs xs)(k:List Key)(d:RelV y u):
  KT H (kvs.map λb=>if b.1=k then(b.1,y)else b) (xs.map (putAt k u)):=by
 induction r with
 |nil=>exact .nil
 |@cons p q i j h t f=>
  rw[ge,ge];refine .cons ?_ f;obtain⟨a,c,g⟩:=h;unfold putAt;by_cases e:p.1=k
  ·rw[if_pos e,if_pos<|a.symm.trans e];exact⟨a,c,d⟩
  ·rw[if_neg e,if_neg λz=>e<|a.trans z];exact⟨a,c,g⟩
theorem KT.put{kvs:List (List Key×V)}(r:KT H kvs xs)(k:List Key){b:Addr}(c:H b=ι (.tup (k.map kV)))(a:RelV y u):
  KT H (putK kvs k y) (storedH xs k b u):=by
 have e:(kvs.any λd=>decide<|d.1=k)=(acJ xs k).isSome:=by
  rw[Dh,(r.val k).Ei,X2]
 unfold putK storedH;rw[e];by_cases q:(acJ xs k).isSome=true
 ·rw[if_pos q,if_pos q];exact r.gN k a
 ·rw[if_neg q,if_neg q];exact ad2 r ⟨rfl,c,a⟩
variable{H':Hp}
theorem KT.keeps{kvs:List (List Key×V)}(r:KT H kvs xs)(a:∀b ys,H b=ι (.tup ys)->H' b=ι (.tup ys)):KT H' kvs xs:=
 Paired.jf r λ_ _ z=>⟨z.1,a _ _ z.2.1,z.2.2⟩
variable{a:Addr}
section
variable {h:Heap} 
theorem dS{u:HO}(ok:Ee P w H h)(e:Rd H a u):Ay P w H h a u:=e.ok ok
theorem EO{kvs:List (Key×V)}(ok:Ee P w H h)(e:Rd H a (.dK kvs)):kvs.length<=sizeLine/\(a==A2)=false/\∃vs,KV kvs vs/\h.DictOf (Ah P w) a vs:=
 show Ay P w H h a (.dK kvs)from dS ok e
theorem Xd{kvs:List (Key×V)}(ok:Ee P w H h)(e:H a=ι (.dK kvs)):kvs.length<=sizeLine/\(a==A2)=false/\∃vs,KV kvs vs/\h.DictOf (Ah P w) a vs:=EO ok<|.inl e
theorem JK{ks:List Key}(ok:Ee P w H h)(e:H a=ι (.tup (ks.map kV))):(Y5 (Ah P w)).is h ks a:=by
 obtain⟨_,b,r,o,c,d,n,f⟩:=(show Ay P w H h a (.tup<|ks.map kV)from ok a _ e);exact⟨o,b.toArray,n,c,d,f,by simpa using Mx r⟩
theorem LB{kvs:List (List Key×V)}(ok:Ee P w H h)(e:Rd H a (.dT kvs)):kvs.length<=sizeLine/\(a==A2)=false/\
  ∃xs,KT H kvs xs/\h.DictOfH (Y5 (Ah P w)) a xs:=by
 obtain⟨z,y,xs,r,o,d,f,g,i,j,k,n⟩:=(show Ay P w H h a (.dT kvs)from dS ok e);refine⟨z,y,xs,r,o,d,f,g,i,j,k,λx b=>?_,n⟩;have all:∀{l:List (List Key×V)}{m:List (List Key×Addr×b7)},KT H l m->∀x∈m,(Y5<|Ah P w).is h x.1 x.2.1:=by
  intro l m q
  induction q with
  |nil=>intro x b;exact nomatch b
  |@cons p q u v c t s=>
   intro x b;rcases ca.mp b with e|b
   ·subst e;exact JK ok<|by rw[<-c.1];exact c.2.1
   ·exact s x b
 exact all r x b
theorem kW{kvs:List (List Key×V)}(ok:Ee P w H h)(e:H a=ι (.dT kvs)):kvs.length<=sizeLine/\(a==A2)=false/\
  ∃xs,KT H kvs xs/\h.DictOfH (Y5 (Ah P w)) a xs:=LB ok (.inl e)
end
def MV(H:Hp)(a:Addr)(y:V)(r:Option V):Prop:= (∃kvs k,Rd H a (.dK kvs)/\y=kV k/\r=BF kvs k)∨∃kvs k b,Rd H a (.dT kvs)/\y=.ref b/\H b=ι (.tup<|k.map kV)/\r=BF kvs k
def MW(H:Hp)(a:Addr)(y v:V)(H':Hp):Prop:= (∃kvs k,H a=ι (.dK kvs)/\y=kV k/\kvs.length<sizeLine/\H'=upd H a (.dK<|putK kvs k v))∨
 ∃kvs k b,H a=ι (.dT kvs)/\y=.ref b/\H b=ι (.tup (k.map kV))/\kvs.length<sizeLine/\H'=upd H a (.dT (putK kvs k v))
theorem MW.k{H:Hp}{a:Addr}{kvs:List (Key×V)}{k:Key}{v:V}(e:H a=ι (.dK kvs))(hl:kvs.length<sizeLine):MW H a (kV k) v (upd H a (.dK (putK kvs k v))):=.inl ⟨kvs,k,e,rfl,hl,rfl⟩
variable{Q:b7->d8->Prop}{h':Heap}
section
variable {v:V} {r:b7} 
theorem Inv.big(I:Inv X pins σ H s):A2<s.heap.objs.size:=by
 have h:ul<s.heap.objs.size:=(I.mod.glob.keeps I.bk).lt;exact U3 (by decide) h
theorem Va(t:A.units+1<cLine)(I:Inv X pins σ H s)(g:MV H a y (ι v))(n:RelV y u)(h:∀f q,Inv X pins σ H q->RelV v f->Q f q):
  g5 (i7 X.prog X.w) A (UV (.ref a) u) Q E s:=by
 rcases g with⟨kvs,k,e,i,l⟩|⟨kvs,k,b,e,i,x,l⟩
 ·subst i;obtain⟨z,B,C,c,j⟩:=EO I.Ax e;obtain⟨f,hw,d⟩:=FH.some_of (v:=v) (o:=P6 C k) (by rw[l];exact c.val k);exact wpAny_getItem_of (HI n) j.mapOf hw<|h f _ (I.tok _) d
 ·subst i;cases(show u=jM b from n);obtain⟨z,B,D,c,j⟩:=LB I.Ax e;obtain⟨f,hw,d⟩:=FH.some_of (v:=v) (o:=(acJ D k).map (·.2)) (by rw[l];exact c.val k);obtain⟨p,F,m⟩:=K4.mp hw;refine wpAny_getItem_heap (K1 t) (JK I.Ax x) j F ?_;rw[m];exact h f _ (I.tok _) d
theorem qO(n:A.units+1<cLine)(I:Inv X pins σ H s)(g:MV H a y o)(j:RelV y u)(h:∀m,Inv X pins σ H m->Q (.bool o.isSome) m):
  g5 (i7 X.prog X.w) A (u5 .In u (.ref a)) Q E s:=by
 rcases g with⟨kvs,k,e,d,l⟩|⟨kvs,k,b,e,d,p,l⟩
 ·subst d;obtain⟨z,f,t,c,i⟩:=EO I.Ax e;refine wpAny_in_of (HI j) f i.mapOf ?_;rw[<-(c.val k).Ei,<-l];exact h _<|I.tok _
 ·subst d;cases(show u=jM b from j);obtain⟨z,f,x,c,i⟩:=LB I.Ax e;refine wpAny_in_heap (K1 n) (JK I.Ax p) f i ?_;have q:=(c.val k).Ei;rw[X2]at q;rw[<-q,<-l];exact h _<|I.tok _
theorem au(n:A.units+1<cLine)(I:Inv X pins σ H s)(g:MV H a y o)(j:RelV y u)(h:∀m,Inv X pins σ H m->Q (.bool (!o.isSome)) m):
  g5 (i7 X.prog X.w) A (u5 .NotIn u (.ref a)) Q E s:=by
 rcases g with⟨kvs,k,e,d,l⟩|⟨kvs,k,b,e,d,p,l⟩
 ·subst d;obtain⟨z,f,t,c,i⟩:=EO I.Ax e;refine wpAny_notIn_of (HI j) f i.mapOf ?_;rw[<-(c.val k).Ei,<-l];exact h _<|I.tok _
 ·subst d;cases(show u=jM b from j);obtain⟨z,f,x,c,i⟩:=LB I.Ax e;refine wpAny_notIn_heap (K1 n) (JK I.Ax p) f i ?_;have q:=(c.val k).Ei;rw[X2]at q;rw[<-q,<-l];exact h _<|I.tok _
theorem KS{c:HO}(I:Inv X pins σ H s)(d:jg (H a))(f:C9 a s.heap h')(g:∃q,h'.get? a=ι q)(new:Ay X.prog X.w (upd H a c) h' a c):
  Inv X pins σ (upd H a c) {s with heap:=h',toks:=t'}:=
 I.write (x:=a) (e:=a) d (.inl rfl) (λb q h z=>(f.2 b h).trans z) g new
theorem JL{kvs:List (Key×V)}{vs:List (Key×b7)}(z:kvs.length<=sizeLine)(c:(a==A2)=false)(b:KV kvs vs)(d:h'.DictOf (Ah P w) a vs):
  Ay P w H' h' a (.dK kvs):=⟨z,c,vs,b,d⟩
theorem Vb{Q:Unit->d8->Prop}(L:A.units+1<cLine)(I:Inv X pins σ H s)(g:MW H a y v H')(C:RelV y u)(D:RelV v r)(h:∀F,Inv X pins σ H' F->Q () F):
  g5 (i7 X.prog X.w) A (setItem (.ref a) u r) Q E s:=by
 rcases g with⟨kvs,k,e,j,l,m⟩|⟨kvs,k,b,e,j,G,l,m⟩
 ·subst j m;obtain⟨z,n,M,d,p⟩:=Xd I.Ax e;have t:M.length<=sizeLine:=by rw[<-d.length];exact z
  have x:(putK kvs k v).length<=sizeLine:=by have:=Cw kvs k v;lia
  refine wpAny_setItem_pairs (hsz:=t) (HI C) p λJ f B=>h _ ?_;have N:∃q,J.get? a=ι q:=let⟨q,_,_,i,_⟩:=f;⟨q,i⟩;exact KS I (by rw[e];exact wS) B N<|JL x n (d.put k D) f
 ·subst j m;cases(show u=jM b from C);obtain⟨z,n,O,d,p⟩:=kW I.Ax e;have t:O.length<=sizeLine:=by rw[<-L8 d];exact z
  have x:(putK kvs k v).length<=sizeLine:=by have:=Cw kvs k v;lia
  refine wpAny_setItem_heap (hsz:=t) (K1 L) (JK I.Ax G) p λJ f B=>h _ ?_;obtain⟨q,P,R,i,S,T,U,_,W⟩:=f;refine KS I (by rw[e];exact wS) B ⟨q,i⟩ ⟨x,n,_,(d.put k G D).keeps λc Y K=>?_,q,P,R,i,S,T,U,W⟩;rw[AH<|je K e λz=>nomatch z];exact K
end
section
variable {kvs:List (Key×V)} {k:Key} 
theorem kX{v:V}{more:List b7}(I:Inv X pins σ H s)(e:H a=ι (.dK kvs))(f:RelV (kV k) u)(l:BF kvs k=ι v)(j:more=[]∨∃x,more=[x])(h:∀c m,Inv X pins σ (upd H a (.dK (Pp kvs k))) m->RelV v c->Q c m):g5 (i7 X.prog X.w) A (call (.builtin "dict.pop") (.ref a::u::more)) Q E s:=by
 obtain⟨z,r,n,b,p⟩:=Xd I.Ax e;obtain⟨c,hw,g⟩:=FH.some_of (v:=v) (o:=P6 n k) (by rw[<-l];exact b.val k);have y:(keyPart u).isSome=true:=by
  cases k with
  |inl i=>obtain⟨t,q⟩:=(show∃t,u=IN i t from f);subst q;rfl
  |inr x=>obtain⟨t,q⟩:=(show∃t,u=Ix x t from f);subst q;rfl
 have B:ac3 "dict.pop" ⟨.ref a::u::more,[]⟩:=by
  rcases j with q|⟨x,q⟩
  ·subst q;exact PySem.F.args_dict_pop_2 _ _
  ·subst q;exact PySem.F.args_dict_pop_3 _ _ _
 refine aad aaF p.typeIs PySem.F.entry_dict_pop B (meets_dict_pop_there (Ah X.prog X.w) a (HI f) more j y)
  ⟨n,c,p,by rw[<-b.length];exact z,hw,λC d D=>h c _ ?_ g⟩
 have G:∃q,C.get? a=ι q:=let⟨q,_,_,J,_⟩:=d;⟨q,J⟩;exact KS I (by rw[e];exact wS) D G<|JL (j5 (Xb kvs k) z) r (b.drop k) d
theorem kY(I:Inv X pins σ H s)(e:Rd H a (.dK kvs))(h:∀t c,Inv X pins σ H c->Q (.int kvs.length t) c):g5 (i7 X.prog X.w) A (call (.builtin "len") [.ref a]) Q E s:=by
 obtain⟨z,d,g,b,f⟩:=EO I.Ax e;refine call_len_dict d f (by rw[<-b.length];rw[M7]at z;lia) ?_;rw[<-b.length];exact h _ _<|I.tok _
end
def gO(i:u7):Prop:=∀ov a,aaP i false ov a=operate [ov,a] (UV ov a)
variable{value:u7}
theorem av{env:Env}{slice:u7}{pos:Pos}{id:String}(hl:Sc (.type T) "__getitem__"=pure (ι (.builtin id)))(j:gO slice)(h:g5 (i7 prog w) A (wP value env) (λo c=>g5 (i7 prog w) A (wP slice env) (λi a=>a.TypeIs o T/\g5 (i7 prog w) A (UV o i) Q E a) E c) E s):
  g5 (i7 prog w) A (wP (.Subscript value slice pos) env) Q E s:=by
 refine ade (A0 h (λo c e=>A0 e (λi a b=>?_) λ_ _ x=>x) λ_ _ x=>x);obtain⟨g,b⟩:=b;unfold abm;refine am ?_;rw[getitemInPython_of_ne g.not_modules];refine am<|acN g hl ?_;have fin:g5 (i7 prog w) A (aaP slice false o i) (λr d=>g5 (i7 prog w) A (letTemporaryGo value o r>>=λ_=>pure r) Q E d) E a:=by
  rw[j o i];exact wpAny_operating<|A0 b (λr d f=>am<|wpAny_letTemporaryGo<|ce f) λ_ _ x=>x
 first
  |exact ce (am fin)
  |exact am (ce (am fin))
  |exact am fin
theorem Pr(I:Inv X pins σ H s)(g:MV H a y o):s.TypeIs (.ref a) "dict":=by
 rcases g with⟨kvs,k,e,_,_⟩|⟨kvs,k,b,e,_,_,_⟩
 ·obtain⟨_,_,d,_,c⟩:=EO I.Ax e;exact c.typeIs
 ·obtain⟨_,_,f,_,c⟩:=LB I.Ax e;exact c.typeIs
inductive xu(x y:V)(H:Hp)(Q:VK):Prop
 |mk(a:Addr)(v:V)(e:x=.ref a)(g:MV H a y (ι v))(q:Q v H)
inductive xw(x y:V)(H:Hp)(Q:VK):Prop
 |mk(a:Addr)(o:Option V)(e:x=.ref a)(g:MV H a y o)(q:Q (.bl o.isSome) H)
inductive xx(x y:V)(H:Hp)(Q:VK):Prop
 |mk(a:Addr)(o:Option V)(e:x=.ref a)(g:MV H a y o)(q:Q (.bl (!o.isSome)) H)
def Xe(b ty:TE):TE:=λa H Q=>b a H λx c=>ty a c λy d=>xu x y d Q
def qP(ty b:TE):TE:=λa H Q=>ty a H λy c=>b a c λx d=>xw x y d Q
def aw(ty b:TE):TE:=λa H Q=>ty a H λy c=>b a c λx d=>xx x y d Q
def ka(d ty e:TE):TS:=λD b H=>e b H λv f=>d b f λx g=>ty b g λy h=>∃a c,x=.ref a/\MW h a y v c/\D.nx b c
section
variable {o i:u7} {pos pos' qE:Pos} {td ty tv:TE}
theorem a_(f:X.A.units+1<cLine)(j:PE X o td)(k:PE X i ty)(l:gO i):PE X (.Subscript o i pos) (Xe td ty):=by
 intro pins s c H Q I h;refine av PySem.F.slot_dict_getitem.lookup l (BQ (j pins s c H _ I h) λu m n=>n.elim λx p q r t=>BQ (k pins m c p _ q t) λE G ⟨y,w,d,z,a,v,B,g,C⟩=>?_);subst B;obtain rfl:u=jM a:=r;exact⟨Pr d g,Va f d g z λJ K D b=>⟨v,w,D,b,C⟩⟩
theorem SR(c:X.A.units+1<cLine)(d:PE X i ty)(f:PE X o td):PC X .In i o (qP ty td):=by
 intro pins s b H Q I h;refine BQ (d pins s b H _ I h) λB j k=>k.elim λy l m n p=>BQ (f pins j b l _ m p) λu C ⟨x,q,r,t,a,ov,v,g,w⟩=>?_;subst v;obtain rfl:u=jM a:=t;exact qO c r g n λD z=>⟨.bl ov.isSome,q,z,rfl,w⟩
theorem GZ(c:X.A.units+1<cLine)(d:PE X i ty)(f:PE X o td):PC X .NotIn i o (aw ty td):=by
 intro pins s b H Q I h;refine BQ (d pins s b H _ I h) λB j k=>k.elim λy l m n p=>BQ (f pins j b l _ m p) λu C ⟨x,q,r,t,a,ov,v,g,w⟩=>?_;subst v;obtain rfl:u=jM a:=t;exact au c r g n λD z=>⟨.bl<|!ov.isSome,q,z,rfl,w⟩
theorem Ga(d:X.A.units+1<cLine)(f:PE X o td)(j:PE X i ty)(k:PE X value tv)(l:U7 value (ι (.Subscript o i pos')) pos.line X.env=pure false):
  PS X (.Assign [.Subscript o i pos'] value pos) (ka td ty tv):=by
 intro pins s b H D I h;refine wpAny_Assign_Subscript (BQ (k pins s b H _ I h) λr m c=>c.elim λv n p q t=>BQ (f pins m b n _ p t) λu w c=>c.elim λx z B C E=>BQ (j pins w b z _ B E) λN O ⟨y,P,F,G,a,J,K,g,L⟩=>?_) l;subst K;obtain rfl:u=jM a:=C;exact Vb d F g G q λQ M=>⟨b,J,M,L⟩
end
theorem Pu(h:Heap)(a:A2<h.objs.size):Ay P w H (h.push {cls:=.type "dict",data:=.dict #[]}) h.objs.size (.dK []):=
 ⟨d9 _,beq_eq_false_iff_ne.mpr (k8 (i4 a)),[],.nil,Heap.DictOf.new h⟩
def gP:TE:=λ_ H Q=>Rp H (.dK []) Q
section
variable {pos:Pos}
theorem IG:PE X (.Dict [] [] pos) gP:=λpins s b H Q I h=>
 wpAny_Dict_empty ⟨.ref s.heap.objs.size,_,I.laid (a:=s.heap.objs.size) (o:=.dK []) (t':=s.toks) (λ_ _ q=>be _ q) (bn _) (Pu s.heap I.big),rfl,h _ (I.Ax.fresh (bn _))⟩
end
def SU:List (TE×TE)->St->Hp->(List (V×V)->Hp->Prop)->Prop
 |[],_,H,Q=>Q [] H
 |(tk,a)::r,σ,H,Q=>tk σ H λx b=>a σ b λy H2=>SU r σ H2 λps c=>Q ((x,y)::ps) c
abbrev VV:List (V×V)->List (b7×b7)->Prop:=Paired λp q=>RelV p.1 q.1/\RelV p.2 q.2
def nh(X:Cx)(pos:Pos)(keys:List (Option u7))(values:List u7)(a:List (TE×TE)):Prop:=
 ∀(pins:List (Addr×Obj))(s:d8)(b:St)(H:Hp)(Q:List (V×V)->Hp->Prop),Inv X pins b H s->SU a b H Q->
  g5 (i7 X.prog X.w) X.A (evalPairs (pairTrees keys values X.env pos)) (λe f=>∃c d,Inv X pins b d f/\VV c e/\Q c d) X.xe s
theorem KU{pos:Pos}:nh X pos [] [] []:=λpins s a H Q I h=>pairTrees_nil_walk ⟨[],H,I,.nil,h⟩
theorem GA{pos:Pos}{k v:u7}{ks:List (Option u7)}{vs:List u7}{tk d:TE}{a:List (TE×TE)}(e:PE X k tk)(f:PE X v d)(g:nh X pos ks vs a):
  nh X pos (ι k::ks) (v::vs) ((tk,d)::a):=λpins s b H Q I h=>
 pairTrees_cons_walk (BQ (e pins s b H _ I h) λu i j=>j.elim λx l m n o=>BQ (f pins i b l _ m o) λD p ⟨y,q,r,t,w⟩=>
  BQ (g pins p b q _ r w) λE F ⟨z,A,B,c,C⟩=>⟨(x,y)::z,A,B,.cons ⟨n,t⟩ c,C⟩)
def CW(kvs more:List (Key×V)):List (Key×V):=more.foldl (λa b=>putK a b.1 b.2) kvs
theorem KV.merge:∀{more:List (Key×V)}{g:List (Key×b7)}{kvs:List (Key×V)}{vs:List (Key×b7)},KV more g->KV kvs vs->KV (CW kvs more) (Tk vs g):=by
 intro more g kvs vs r;unfold KV at r
 induction r generalizing kvs vs with
 |nil=>intro q;exact q
 |@cons p q d f h t b=>
  intro c;have e:KV (putK kvs p.1 p.2) (adN vs q.1 q.2):=by
   have:=c.put p.1 h.2;rw[<-h.1];exact this
  exact b e
theorem DY:∀(more kvs:List (Key×V)),(CW kvs more).length<=kvs.length+more.length
 |[],kvs=>by show kvs.length<=kvs.length+0;lia
 |p::r,kvs=>by
  have a:=DY r<|putK kvs p.1 p.2;have b:=Cw kvs p.1 p.2;show(CW (putK kvs p.1 p.2) r).length<=_;rw[g6];lia
theorem LC{P:om}{w:u8}:∀{kvs:List (Key×V)}{ws:List (b7×b7)},VV (kvs.map λe=>(kV e.1,e.2)) ws->∃d,Carries (Ah P w) ws d/\KV kvs d
 |[],_,r=>by rw[B2]at r;cases r;exact⟨[],wS,.nil⟩
 |p::kvs,_,r=>by
  rw[ge]at r;cases r with
  |@cons a b as bs h t=>
   obtain⟨d,c,q⟩:=LC (P:=P) (w:=w) t;obtain⟨g,f⟩:=b;exact⟨(p.1,f)::d,⟨HI h.1,rfl,c⟩,.cons ⟨rfl,h.2⟩ q⟩
def kb(a:List (TE×TE)):TE:=λd H Q=>∀p,H p=ν->SU a d (upd H p<|.dK []) λe b=>b p=ι (.dK [])/\∃kvs:List (Key×V),e=kvs.map (λc=>(kV c.1,c.2))/\kvs.length<=15/\Q (.ref p) (upd b p<|.dK<|CW [] kvs)
theorem KW{pos:Pos}{keys:List (Option u7)}{values:List u7}{b:List (TE×TE)}(h:nh X pos keys values b)(d:keys.all (·.isSome)=true)(hl:keys.length=values.length)(k:keys≠[])(g:keys.length<=15):PE X (.Dict keys values pos) (kb b):=by
 intro pins s l H Q I q;have m:=I.Ax.fresh<|bn s.heap.objs.size;have n:=I.laid (a:=s.heap.objs.size) (o:=.dK []) (h':=s.heap.push {cls:=.type "dict",data:=.dict #[]}) (t':=s.toks) (λ_ _ q=>be _ q) (bn _)<|Pu s.heap I.big;refine wpAny_Dict_walk (knd:=Ah X.prog X.w) d hl k g (BQ (h pins _ l _ _ n<|q _ m) λG J ⟨K,L,j,i,e,kvs,p,lk,r⟩=>?_);subst p;obtain⟨t,c,u⟩:=LC (P:=X.prog) (w:=X.w) i;obtain⟨z,v,x,y,A⟩:=Xd j.Ax e;cases y;refine⟨t,c,A,λh' f B=>⟨.ref s.heap.objs.size,_,?_,rfl,r⟩⟩;have C:(CW [] kvs).length<=sizeLine:=by
  have D:=DY kvs [];rw[F7]at D;rw[M7];lia
 have E:∃q,h'.get? s.heap.objs.size=ι q:=let⟨q,_,_,F,_⟩:=f;⟨q,F⟩;exact KS j (by rw[e];exact wS) B E<|JL C v (u.merge .nil) f
structure M1(X:Cx)(o:u7)(m:Str)(apos:Pos)(e:u7)(CU:Pos):Prop where
 base:D0 o m X.env (wP o X.env)=wP o X.env
 ER:((D6 CU (jL [e] X.env)).all (λx=> !x.1)&&(aaO CU (S9 [] X.env)).all (λx=>x.1.isSome)
  &&decide (([e]:List u7).length+([]:List S0).length+(if([]:List S0).isEmpty then 0 else 1)<30))=true
 line:(apos.endLine==CU.line)=true
 trees:D6 CU (jL [e] X.env)=[(false,wP e X.env)]
structure M2(X:Cx)(o:u7)(m:Str)(apos:Pos)(e f:u7)(CU:Pos):Prop where
 base:D0 o m X.env (wP o X.env)=wP o X.env
 ER:((D6 CU (jL [e,f] X.env)).all (λx=> !x.1)&&(aaO CU (S9 [] X.env)).all (λx=>x.1.isSome)
  &&decide (([e,f]:List u7).length+([]:List S0).length+(if([]:List S0).isEmpty then 0 else 1)<30))=true
 line:(apos.endLine==CU.line)=true
 trees:D6 CU (jL [e,f] X.env)=[(false,wP e X.env),(false,wP f X.env)]
def qQ(H:Hp)(a:Addr):Prop:=(∃kvs,Rd H a<|.dK kvs)∨∃kvs,Rd H a<|.dT kvs
theorem Xf(I:Inv X pins σ H s)(d:qQ H a):
  s.TypeIs (.ref a) "dict"/\(∀b,jM a=.ref b->∃c,s.heap.get? b=ι c/\c.dict=ν)/\(a==A2)=false:=by
 rcases d with⟨kvs,e⟩|⟨kvs,e⟩
 ·obtain⟨_,g,j,_,f⟩:=EO I.Ax e;refine⟨f.typeIs,λb q=>?_,g⟩;cases q;obtain⟨c,_,_,h,i,_⟩:=f;exact⟨c,h,i.2.1⟩
 ·obtain⟨_,g,k,_,f⟩:=LB I.Ax e;refine⟨f.typeIs,λb q=>?_,g⟩;cases q;obtain⟨c,_,_,h,i,_⟩:=f;exact⟨c,h,i.2.1⟩
section
variable {d:V} {r:b7} 
theorem gQ(q:A.units+1<cLine)(I:Inv X pins σ H s)(g:MV H a y o)(m:RelV y u)(rd:RelV d r)(h:∀n p,Inv X pins σ H p->RelV (o.getD d) n->Q n p):
  g5 (i7 X.prog X.w) A (call (.builtin "dict.get") [.ref a,u,r]) Q E s:=by
 rcases g with⟨kvs,k,e,i,l⟩|⟨kvs,k,b,e,i,t,l⟩
 ·subst i;obtain⟨z,j,x,c,f⟩:=EO I.Ax e;refine aad R6 f.typeIs aan (Z5 _ _ _) (meets_dict_get_default (Ah X.prog X.w) a (HI m) j r) ⟨_,f.mapOf,h _ _ (I.tok _) ?_⟩;rw[l];exact(c.val k).getD rd
 ·subst i;cases(show u=jM b from m);obtain⟨z,j,v,c,f⟩:=LB I.Ax e;refine aad R6 f.typeIs aan (Z5 _ _ _) (meetsH_dict_get_default (Y5<|Ah X.prog X.w) a b j r) ⟨K1 q,k,v,JK I.Ax t,f,h _ _ (I.tok _) ?_⟩;rw[l];exact(c.val k).getD rd
end
def gR(e ty f:TE):TE:=λb H Q=>e b H λx c=>∃a,x=.ref a/\qQ c a/\ty b c λy g=>f b g λz d=>∃o,MV d a y o/\Q (o.getD z) d
def gS(e ty:TE):TE:=λb H Q=>e b H λx c=>∃a,x=.ref a/\qQ c a/\ty b c λy d=>∃kvs k v,d a=ι (.dK kvs)/\y=kV k/\BF kvs k=ι v/\Q v (upd d a<|.dK<|Pp kvs k)
section
variable {o f:u7} {apos CU:Pos} {td ty tx:TE}
theorem Xg(j:X.A.units+1<cLine)(k:PE X o td)(l:PE X e ty)(n:PE X f tx)(m:M2 X o "get" apos e f CU):PE X (.Call (.Attribute o "get" apos) [e,f] [] CU) (gR td ty tx):=by
 intro pins s b H Q I h;refine ab5 m.base m.ER m.line P1 R6 PySem.F.type_dict_get (BQ (k pins s b H _ I h) λu p ⟨x,q,i,r,a,t,d,v⟩=>?_);subst t;obtain rfl:u=jM a:=r;obtain⟨t1,t2,_⟩:=Xf i d;refine⟨t1,t2,?_⟩;rw[m.trees];refine Db rfl (M9 (K2 (BQ (l pins p b q _ i v) λN w ⟨y,B,C,D,E⟩=>
  K2 (BQ (n pins w b B _ C E) λO P ⟨z,G,J,K,ov,g,L⟩=>Re ?_))))
 exact gQ j J g D K λR S M c=>⟨_,G,M,c,L⟩
theorem Xh(i:PE X o td)(j:PE X e ty)(m:M1 X o "pop" apos e CU):PE X (.Call (.Attribute o "pop" apos) [e] [] CU) (gS td ty):=by
 intro pins s c H Q I h;refine ab5 m.base m.ER m.line P1 aaF PySem.F.type_dict_pop (BQ (i pins s c H _ I h) λu n ⟨x,p,g,q,a,r,d,t⟩=>?_);subst r;obtain rfl:u=jM a:=q;obtain⟨t1,t2,_⟩:=Xf g d;refine⟨t1,t2,?_⟩;rw[m.trees];refine Db rfl (M9<|K2<|BQ (j pins n c p _ g t) λE G ⟨y,J,w,z,kvs,k,v,A,B,l,C⟩=>Re ?_);subst B;exact kX w A z l (.inl rfl) λK L D b=>⟨v,_,D,b,C⟩
end
section
variable {kvs:List (Key×V)} 
theorem Xi(I:Inv X pins σ H s)(e:Rd H a (.dK kvs))(h:∀p f,H p=ν->Inv X pins σ (upd H p (.dK kvs)) f->Q (.ref p) f):g5 (i7 X.prog X.w) A (call (.type "dict") [.ref a]) Q E s:=by
 obtain⟨z,i,l,c,j⟩:=EO I.Ax e;refine kt_call_dict i j (by rw[<-c.length];exact z) λm d k=>?_;refine h _ _ (I.Ax.fresh<|bn _)<|I.laid (a:=s.heap.objs.size) (o:=.dK kvs) (t':=s.toks) (λb q g=>?_) (bn _)<|JL z (beq_eq_false_iff_ne.mpr<|k8<|i4 I.big) c d;exact(k.2 b<|i4<|g7 g).trans<|be _ g
end
section
end
end L2
namespace vE
open PySem PySem.W PySem.Calls PyProof.Rows
variable{P:adP}
theorem J'{h:Heap}:∀(ns:List Int)(vs:List b7),WellAll P h vs (ns.map WData.int)->acY vs ns:=by
 intro ns
 induction ns with
 |nil=>
  intro vs w;rw[B2]at w;cases w;exact .nil
 |cons n ns c=>
  intro vs w;rw[ge]at w;cases w with
  |cons a b=>
   cases a;exact .cons _ _<|c _ b
variable{l:OpenLaw}
theorem Vc{n:Nat}(k:l.most=ι n){h:Heap}{args:List WData}{vals:List b7}(b:l.row.toRowW.claim.pre args=true)(g:WellAll P h vals args):
  ∃a vs ns,vals=[jM a]/\args=[WData.list (ns.map WData.int)]/\h.get? a=ι {cls:=.type "list",data:=.seq vs.toArray}/\acY vs ns/\ns.length<=n:=by
 have i:WShape.hasAll [] args [.list .int]=true:=(pre_splitW b).1;have j:l.pre.holds [] {args:=args}=true:=(pre_splitW b).2;obtain⟨d,r,rfl,m,o⟩:=hasAllW_cons i;obtain rfl:=hasAllW_nil o;obtain⟨w,rfl,p⟩:=hasW_list m;obtain⟨ns,rfl⟩:=items_int p;have hlen:ns.length<=n:=by
  unfold OpenLaw.pre at j;have e:(WTm.not<|.lt (.lit<|.int (n:Int))<|.len<|.arg 0).holds [] {args:=[.list<|ns.map .int]}=true:=by
   have e:=(holds_andW j).1;rw[k]at e;exact e
  have f:=condW_of e<|w_not<|w_lt w_lit<|w_len_list<|w_arg rfl;rw[ap]at f;refine ZB λq=>?_;have s:(n:Int)<((ns.length:Nat):Int):=by lia
  first
   |(rw[decide_eq_true s]at f;exact absurd f (by decide))
   |(simp at f;lia)
 cases g with
 |cons t u=>
  cases u;cases t with
  |list v c=>exact⟨_,_,ns,rfl,rfl,v,J' ns _ c,hlen⟩
theorem Vd(l:OpenLaw)(args:List WData):l.row.toRowW.claim.post args (.bool true) args=true:=
 postW_of (r:=l.row.toRowW) (X:=(true==true)) (show WShape.has [] (.bool true) .bool=true by first|rfl|decide|simp[WShape.has,WShape.arms,WShape.armsAll]) (show(WTm.eq .res (.lit (.bool true))).value [] {args:=args,res:=ι (.bool true),after:=args}=ι (.bool (true==true))from w_eq_bool (w_res rfl) w_lit) rfl
theorem Pw{n:Nat}{q:om}{loose:List Str}{s:(Str->Option b7)->Heap->Prop}{YP:u8->Heap->Prop}{d:DefRec}(v:l.most=ι n)(i:d.params.defaults=[])(call:∀(w:u8) (s₀ b:d8) (mg j:Str->Option b7) (fa:Addr) (o:Obj) (pm g doc:b7) (a:Addr) (vs:List b7) (ns:List Int),
   Ground q loose [] s w s₀ mg j b.heap->YP w b.heap->
   b.heap.get? fa=ι o->o.data=.func (docDef d.name d.params d.body d.scope pm g doc)->b.heap.CodeRec g d.name->mg d.name=ι (.ref fa)->
   b.heap.get? a=ι {cls:=.type "list",data:=.seq vs.toArray}->acY vs ns->ns.length<=n->b.gens= #[]->
   E8 (i7 l.prog w) Z9 (.call (.ref fa) ⟨[.ref a],[]⟩) (λr h=>r=.ok (.ret (.bool true))/\OldK b.heap h.heap/\h.os=b.os/\W9 h.gens) b):
  WalkO q loose s YP l.row.toRowW d [] (λf vs=>adf f vs):=by
 intro w s₀ b mg j G Y fa o pm g doc x kV y z k t m A args vals J c u B p C;obtain rfl:x=.none:=Dflts.none t i;obtain rfl:kV=.none:=Dflts.noKw t;obtain⟨a,vs,ns,rfl,rfl,e,hints,hlen⟩:=Vc v c p;refine enter_call (KB (call w s₀ b mg j fa o pm g doc a vs ns G Y y (fd_plain z) k m e hints hlen A) λr h D=>?_);obtain⟨rfl,E,F,H⟩:=D;exact⟨.inl ⟨.bool true,.bool true,[],rfl,λ_=>rfl,.bool true,Vd l _,λ_=>⟨List.Pairwise.nil,λ_ I=>(nomatch I)⟩⟩,E,F,H⟩
section
variable{prog:om} {w:u8} {A:AT} {E:b7->d8->Prop} {s:d8} {K:Frag}
end
end vE
namespace L2
open PySem PySem.Spec PyProof.Rows
theorem Ve{vs:List b7}{ns:List Int}(h:acY vs ns):Vals (ns.map V.int) vs:=by
 induction h with
 |nil=>exact .nil
 |cons n t _ a=>exact .cons ⟨t,rfl⟩ a
def inClass(s:Stmt)(j:Nat):Stmt:=match s with
 | .ClassDef _ _ _ body _ _ _ _ _ _ _=>body.getD j (.Pass ⟨0,0,0,0⟩)
 |_=>.Pass ⟨0,0,0,0⟩
def DF(s:Stmt):Arguments:=match s with
 | .FunctionDef _ a _ _ _ _ _ _ _ _=>a
 |_=>{posonlyargs:=[],args:=[],vararg:=ν,kwonlyargs:=[],kw_defaults:=[],kwarg:=ν,defaults:=[]}
def CQ(s:Stmt):List Stmt:=match s with
 | .FunctionDef _ _ b _ _ _ _ _ _ _=>b
 |_=>[]
def BA(s:Stmt):Scope:=match s with
 | .FunctionDef _ _ _ _ _ _ a _ _ _=>a
 |_=>{kind:=.function,names:=[],isGenerator:=false,isCoroutine:=false}
abbrev Bs:VW:=λ_ _ _ _ _ _=>False
abbrev E0:XK:=λ_ _ _=>False
variable{X:Cx}
theorem Jj:Passes Bs X E0:=λ_ _ _ _ _ _ _ h=>h.elim
structure Px(K:ACy)(x qual:Str)(st:Stmt)(f:Addr)(fd:j4):Prop where
 ex:∃(oc:b7)(od:Option Addr)(kV doc pm:b7)(an:Option Addr)(vG ct:b7)(xy:Array (Option b7)),
  fd=y6 x qual (DF st) (CQ st) (BA st) .none kV doc pm an vG ct/\K.lookup f=ι ⟨oc,od,.func fd,xy⟩/\x9 K vG qual=true
 kp:n8 K (.ref f)=true
variable{x qual:Str}{f:Addr}{K:ACy}
section
variable{P:om} {w:u8} {mg:Str->Option b7} {base:Heap}
theorem Px.ok{st:Stmt}{g:j4}{N ps:List Str}{k:Nat}{sp:Sp}(F:Px K x qual st f g)(S:FK N ps (BA st))(len:∀vs H Q E,sp vs H Q E->vs.length=ps.length)(b:∀(a:b7) (A:AT) (outer:List Env) (s:d8) (H:Hp) (vs:List V) (e:Ends) (E:XK),(∀{σ H},e.rt .BB H->e.nx σ H)->BX k (A.deeper (V0 qual (BA st) s.heap.objs.size f a))->sp vs H e.rt E->
   ∃t,PM (Nz Bs P w K mg base N qual (BA st) f a A outer s H E).dM (CQ st) t/\t e (start N vs) H):Ab P w K mg base Bs (k+1) f g ps sp:=by
 obtain⟨m,n,kV,doc,o,an,a,p,i,rfl,lk,c⟩:=F.ex;refine dR lk c S len λA outer s H vs Q E j d=>?_;obtain⟨t,h,q⟩:=b a A outer s H vs {nx:=λ_ l=>Q .BB l,rt:=Q} E id j d;exact⟨t,h.dM,q⟩
theorem Px.binds{st:Stmt}{b:j4}{ps:List Str}(F:Px K x qual st f b)(h:∀(kV doc pm:b7) (an:Option Addr) (a ct:b7) (us:List b7),us.length=ps.length->adY (y6 x qual (DF st) (CQ st) (BA st) .none kV doc pm an a ct) ⟨us,[]⟩=pure (ps.zip us)):Binds K b ps []:=by
 obtain⟨e,g,kV,doc,pm,an,a,ct,c,rfl,lk,d⟩:=F.ex;exact .all<|h kV doc pm an a ct
theorem LD{st:Stmt}{d:b7}{e an:Option Addr}{b:Array (Option b7)}{kV doc pm a ct:b7}(l:K.lookup f=ι ⟨d,e,.func (y6 x qual (DF st) (CQ st) (BA st) .none kV doc pm an a ct),b⟩)(c:x9 K a qual=true)(k:n8 K (.ref f)=true):Px K x qual st f (y6 x qual (DF st) (CQ st) (BA st) .none kV doc pm an a ct):=⟨⟨d,e,kV,doc,pm,an,a,ct,b,rfl,l,c⟩,k⟩
end
variable{A:AT}
theorem Xj{k:Nat}(a:BX k A):A.units+1<cLine:=w1 (Nat.add_le_add_left (by decide:1<=64) _) a.units
theorem Ac{n:Nat}(h:n<=1000):n<sizeLine:=w1 h<|by decide
section
theorem pv(i:Nat){pos:Pos}(b:X.N[i]?=ι x:=by rfl)(c:nP X.env.scope x:=by first|exact X4 rfl|exact Op (X4 rfl)|exact Op (Op rfl))(d:(x==("__debug__":Str))=false:=by decide)(a:(x==("__classdict__":Str))=false:=by decide):PE X (.Name x pos) (IA i):=fR b c d a
end
theorem Ar{A B:Prop}(h:B):if false=true then A else B:=by
 rw[if_neg i8];exact h
theorem CP{A B:Prop}(h:A):if true=true then A else B:=by
 rw[if_pos rfl];exact h
theorem Vf{c A B:Prop}[Decidable c](a:c->A)(b:¬c->B):if c then A else B:=by
 by_cases h:c
 ·rw[if_pos h];exact a h
 ·rw[if_neg h];exact b h
def AF(H H':Hp):Prop:=∀b o,H b=ι o->H' b=ι o
theorem AF.refl(H:Hp):AF H H:=λ_ _ h=>h
variable{H:Hp}
theorem AF.trans{d H2:Hp}(a:AF H d)(b:AF d H2):AF H H2:=λc o h=>b c o<|a c o h
variable{H':Hp}
theorem AF.free(e:AF H H'){l:Addr}(h:H' l=ad3):H l=ad3:=by
 cases q:H l with
 |none=>rfl
 |some o=>
  rw[e l o q]at h;cases h
theorem AF.seq{a:Addr}{xs:List V}(e:AF H H')(h:Ag K H a xs):Ag K H' a xs:=by
 rcases h with(h|⟨o,h⟩)|h
 ·exact .inl<|.inl<|e _ _ h
 ·exact .inl<|.inr ⟨o,e _ _ h⟩
 ·exact .inr h
section
variable{κ:Type} [DecidableEq κ]
theorem Xk{kvs:List (κ×V)}{k:κ}(h:BF kvs k=ν):¬k∈kvs.map (·.1):=by
 intro m;obtain⟨p,a,e⟩:=m7.mp m;have q:(kvs.any λb=>decide<|b.1=k)=true:=SZ.mpr ⟨p,a,decide_eq_true e⟩;rw[Dh,h]at q;exact absurd q<|by simp
theorem UD{kvs:List (κ×V)}{k:κ}{v:V}(h:BF kvs k=ι v):k∈kvs.map (·.1):=by
 have q:(kvs.any λa=>decide<|a.1=k)=true:=by
  rw[Dh,h]
  all_goals rfl
 obtain⟨p,b,e⟩:=SZ.mp q;exact m7.mpr ⟨p,b,of_decide_eq_true e⟩
theorem OH:∀{l:List κ}{k:κ},l.Nodup->¬k∈l->(l++[k]).Nodup
 |[],k,_,_=>by simp
 |a::r,k,h,b=>by
  obtain⟨c,d⟩:=j0.mp h;show(a::(r++[k])).Nodup;refine j0.mpr ⟨λm=>?_,OH d λm=>b<|ca.mpr<|Op m⟩;rcases db.mp m with q|q
  ·exact c q
  ·exact b<|ca.mpr<|X4 (bi.mp q).symm
end
variable{s:d8}{scope:Scope}
theorem SV{prog:om}{w:u8}{R:abt->d8->Prop}{a f iter:u7}{d:List u7}{pos:Pos}{g b:b7}{env:Env}(e:Nat->d8->Prop)(step:∀n s,e n s->g5 (i7 prog w) A (On g) (λr p=>match r with
   |none=>R (.ok .next) p
   |some v=>g5 (i7 prog w) A (TW f g v) (λ_ u=>g5 (i7 prog w) A (acj f env v) (λ_ B=>
     g5 (i7 prog w) A (forIn d true λc r=>if r=true then do let ok<-ac2 c env (wP c env);pure (L6 ok)else pure (L6 r)) (λok i=>
      if ok=true then g5 (i7 prog w) A (wP a env) (λy j=>g5 (i7 prog w) A (call (.builtin "list.append") [b,y]) (λ_ l=>∃m,m<n/\e m l) (λ_ _=>False) j) (λ_ _=>False) i
      else∃m,m<n/\e m i) (λ_ _=>False) B) (λ_ _=>False) u) (λ_ _=>False) p) (λ_ _=>False) s)(n:Nat)(h:e n s):E8 (i7 prog w) A (.compLoop (.ListComp a [⟨f,iter,d,0⟩] scope pos) 0 g b env) R s:=by
 have up:∀{C:Type}{t:Sem C}{Q:C->d8->Prop}{E:b7->d8->Prop}{s:d8},g5 (i7 prog w) A t Q (λ_ _=>False) s->g5 (i7 prog w) A t Q E s:=
  λh=>A0 h (λ_ _ q=>q) λ_ _ z=>z.elim
 refine codeAny_loop rfl e (λk s F=>?_) n h;show g5 _ A ((compTurn (.ListComp a [⟨f,iter,d,0⟩] scope pos) 0 g b env).onRaise λx=>do noteFrame x env;theTreesLotGoes x) _ _ s;refine wpAny_noted ?_;rw[compTurn_list];refine am (abj<|am<|A0 (up<|step k s F) (λr p D=>?_) λ_ _ z=>z);cases r with
 |none=>exact ce D
 |some v=>
  refine am (A0 (up D) (λ_ u G=>?_) λ_ _ z=>z);refine am (A0 (up G) (λ_ B H=>?_) λ_ _ z=>z);refine am (A0 (up H) (λok i o=>?_) λ_ _ z=>z);cases ok with
  |false=>exact ce ⟨rfl,o⟩
  |true=>
   have o:g5 (i7 prog w) A (wP a env) (λy j=>g5 (i7 prog w) A (call (.builtin "list.append") [b,y]) (λ_ l=>∃m,m<k/\e m l) (λ_ _=>False) j) (λ_ _=>False) i:=o;exact am<|am<|A0 (up o) (λy j I=>am<|A0 (up I) (λ_ l J=>ce<|ce ⟨rfl,J⟩) λ_ _ z=>z) λ_ _ z=>z
noncomputable def Di(cells:List (Str×Addr)):List (Str×NameKind)->List (Str×Addr)->List (Str×Addr)
 |[],a=>a
 |(n,k)::r,a=>if k==.free then Di cells r ((n,(cells.lookup n).getD 0)::a)else Di cells r a
theorem FN{x:Str}:∀(names:List (Str×NameKind))(a:List (Str×Addr)),(∀p∈names,p.2=.free->∃c,cells.lookup p.1=ι c)-> (∀y d,a.lookup y=ι d->cells.lookup y=ι d)->(Di cells names a).lookup x=ι c->cells.lookup x=ι c
 |[],a=>λ_ g h=>g x c h
 |(n,k)::r,a=>λi g h=>by
  unfold Di at h;by_cases j:(k==B3)=true
  ·rw[if_pos j]at h;have o:k=.free:=by simpa using j
   obtain⟨d,q⟩:=i (n,k) dL o;refine FN r _ (λp l=>i p<|b9 _ l) (λy e f=>?_) h;rw[j7]at f;cases b:y==n with
   |true=>
    rw[b]at f;have:y=n:=by simpa using b
    subst this;have m:B5 y cells=ι d:=q;rw[m]at f⊢;exact f
   |false=>
    rw[b]at f;exact g y e f
  ·rw[if_neg j]at h;exact FN r a (λp l=>i p<|b9 _ l) g h
theorem Gb:∀(names:List (Str×NameKind))(a:List (Str×Addr)),((a.lookup x).isSome=true∨(x,B3)∈names)->((Di cells names a).lookup x).isSome=true
 |[],a,h=>h.elim (λz=>z) λz=>nomatch z
 |(n,k)::r,a,h=>by
  unfold Di;by_cases b:(k==B3)=true
  ·rw[if_pos b];refine Gb r _ ?_;rcases h with h|h
   ·refine .inl ?_;rw[j7];cases x==n<;>simp[h]
   ·rcases ca.mp h with e|e
    ·refine .inl ?_;have:x=n:=congrArg V2 e;subst this;rw[j7];simp
    ·exact .inr e
  ·rw[if_neg b];refine Gb r _ ?_;rcases h with h|h
   ·exact .inl h
   ·rcases ca.mp h with e|e
    ·have:B3=k:=congrArg abR e;subst this;exact absurd rfl b
    ·exact .inr e
theorem Ej(h:∀p∈scope.names,p.2=.free->∃c,env.cells.lookup p.1=ι c):ada scope env=pure (Di env.cells scope.names []):=by
 have go:∀(names:List (Str×NameKind))(b:List (Str×Addr)),(∀p∈names,p.2=.free->∃c,env.cells.lookup p.1=ι c)-> (forIn names b (λ(x:Str×NameKind) r=>if(x.2==B3)=true then do let a<-cellOf env x.1;pure (L6 ((x.1,a)::r))else pure (L6 r)):Sem (List<|Str×Addr))=pure (Di env.cells names b):=by
  intro names
  induction names with
  |nil=>intro b _;rfl
  |cons p r j=>
   intro b f;obtain⟨n,k⟩:=p;rw[T3];unfold Di;by_cases g:(k==B3)=true
   ·have l:k=.free:=by simpa using g
    obtain⟨c,d⟩:=f (n,k) dL l;have d:B5 n env.cells=ι c:=d;have e:cellOf env n=pure c:=by unfold cellOf;rw[d]
    simp only[g,if_true,e,d,acv];exact j _ λp i=>f p<|b9 _ i
   ·simp only[g,if_false];exact j _ λp i=>f p<|b9 _ i
 unfold ada;exact Eq.trans (congrArg (λt:Sem (List<|Str×Addr)=>t>>=λm=>pure m)<|go scope.names [] h) rfl
def Py(env:Env)(n:Str)(k:NameKind):NameKind:=if(k==.free&&env.scope.kind==.function&&env.kindOf n==ι .cell)=true then .cell else k
theorem IH{g:Str->NameKind->NameKind}(y:Str):∀names:List (Str×NameKind),(names.map λp=>(p.1,g p.1 p.2)).lookup y=(names.lookup y).map (g y)
 |[]=>rfl
 |(n,k)::r=>by
  rw[ge,j7,j7];cases e:y==n with
  |true=>
   have:y=n:=by simpa using e
   subst this;rfl
  |false=>exact IH y r
theorem EA(scope:Scope)(env:Env)(y:Str):(Z8 scope env).names.lookup y=(scope.names.lookup y).map (Py env y):=by
 have e:(Z8 scope env).names=scope.names.map λp=>(p.1,Py env p.1 p.2):=by
  unfold Z8;refine A4 λp _=>?_;obtain⟨n,k⟩:=p;show(if(k==B3&&env.scope.kind==.function&&env.kindOf n==ι .cell)=true then(n,O2)else(n,k))=(n,if(k==B3&&env.scope.kind==.function&&env.kindOf n==ι .cell)=true then O2 else k);by_cases h:(k==B3&&env.scope.kind==.function&&env.kindOf n==ι .cell)=true
  ·rw[if_pos h,if_pos h]
  ·rw[if_neg h,if_neg h]
 rw[e];exact IH y _
def CY(σ:St)(fs:List Nat):St:=fs.map λi=>(σ[i]?).join
variable{σ:St}
theorem Vg{fs:List Nat}{j:Nat}{v:V}(h:(CY σ fs)[j]?=ι (ι v)):∃i,fs[j]?=ι i/\σ[i]?=ι (ι v):=by
 unfold CY at h;rw[bv]at h;cases e:fs[j]? with
 |none=>rw[e]at h;cases h
 |some i=>
  rw[e]at h;refine⟨i,rfl,?_⟩;have a:(σ[i]?).join=ι v:=ACw h;cases b:σ[i]? with
  |none=>rw[b]at a;cases a
  |some o=>
   rw[b]at a;have a:o=ι v:=a;rw[a]
noncomputable def kindB:Bool->NameKind
 |true=>.cell
 |false=>.local
noncomputable def gU:Bool->Str->List (Str×NameKind)
 |true,x=>[(x,.cell)]
 |false,_=>[]
noncomputable def KA:Bool->Str->Addr->List (Str×Addr)
 |true,x,C=>[(x,C+1)]
 |false,_,_=>[]
theorem He:∀(names:List (Str×NameKind))(n:Nat)(a:List (Str×Addr))(h:Heap),names.filter (λp=>p.2==.cell)=[]->No n names a=a/\U8 h names=h
 |[],_,_,_,_=>⟨rfl,rfl⟩
 |(y,k)::r,n,a,h,e=>by
  rw[w8]at e;cases b:k==O2 with
  |true=>rw[b]at e;simp at e
  |false=>
   rw[b]at e;unfold No U8;rw[b];exact He r n a h<|by simpa using e
theorem My:∀(names:List (Str×NameKind))(n:Nat)(a:List (Str×Addr))(h:Heap),names.filter (λp=>p.2==.cell)=[(x,.cell)]->No n names a=(x,n)::a/\U8 h names=h.push {cls:=.type "cell",data:=.cell ν}
 |[],_,_,_,e=>by simp at e
 |(y,k)::r,n,a,h,e=>by
  rw[w8]at e;cases b:k==O2 with
  |true=>
   rw[b]at e;simp only[if_true,u3,Prod.mk.injEq]at e;unfold No U8;rw[b];simp only[if_true];obtain⟨e1,c⟩:=He r (n+1) ((y,n)::a) (h.push {cls:=.type "cell",data:=.cell ν}) e.2;rw[e1,c,e.1.1];exact⟨rfl,rfl⟩
  |false=>
   rw[b]at e;unfold No U8;rw[b];exact My r n a h<|by simpa using e
variable{E:b7->d8->Prop}
theorem LF{M:Model}{globals:Addr}{cl:List (Str×Addr)}{outer:Env}{Q:Env->d8->Prop}(f:scope.names.filter (λp=>p.2==.cell)=gU b x)(g:∀h':Heap,h'.Ns s.heap.objs.size (λ_=>ν)->(∀a o,s.heap.get? a=ι o->h'.get? a=ι o)->(b=true->h'.IsCell (s.heap.objs.size+1) ν)->
   Q {scope,locals:=s.heap.objs.size,globals,cells:=KA b x s.heap.objs.size++cl,qual,func:=ν,code:=outer.code,frame:=outer.frame,builtins:=outer.builtins} {s with heap:=h'}):
  g5 M A (aaV scope globals cl [] qual ν .none (ι outer)) Q E s:=by
 simp only[aaV,Ps,if_true];refine am<|wpAny_alloc ?_;refine am<|wpAny_layCells _ (λname kind cells=>by cases c:kind==O2<;>simp[c]) _ _ _ _ ?_;rw[ads];refine am<|ce<|ce ?_;have sz:(s.heap.push {cls:=.type "dict",data:=.dict #[]}).objs.size=s.heap.objs.size+1:=E4 ..;cases b with
 |false=>
  obtain⟨e1,d⟩:=He scope.names (s.heap.push {cls:=.type "dict",data:=.dict #[]}).objs.size cl (s.heap.push {cls:=.type "dict",data:=.dict #[]}) f;show Q {scope:=_,locals:=_,globals:=_,cells:=No (s.heap.push {cls:=.type "dict",data:=.dict #[]}).objs.size scope.names cl,qual:=_,func:=_,code:=_,frame:=_,builtins:=_} {s with heap:=U8 (s.heap.push {cls:=.type "dict",data:=.dict #[]}) scope.names};rw[e1,d];exact g _ (Heap.Ns.new s.heap<|.type "dict") (λa o e=>be _ e) (λz=>nomatch z)
 |true=>
  obtain⟨e1,d⟩:=My scope.names (s.heap.push {cls:=.type "dict",data:=.dict #[]}).objs.size cl (s.heap.push {cls:=.type "dict",data:=.dict #[]}) f;show Q {scope:=_,locals:=_,globals:=_,cells:=No (s.heap.push {cls:=.type "dict",data:=.dict #[]}).objs.size scope.names cl,qual:=_,func:=_,code:=_,frame:=_,builtins:=_} {s with heap:=U8 (s.heap.push {cls:=.type "dict",data:=.dict #[]}) scope.names};rw[e1,d,sz];exact g _ ((Heap.Ns.new s.heap<|.type "dict").push _) (λa o e=>be _<|be _ e) λ_=>⟨_,by rw[<-sz];exact g8 _ rfl,rfl⟩
structure DW(X:Cx)(scope:Scope)(x:Str)(fv:List Str)(fs:List Nat)(b:Bool:=false):Prop where
 kind:scope.kind=.function
 ni:scope.names.filter (λp=>p.2==.cell)=gU b x
 names:∀p∈scope.names,p.2=.local->scope.names.lookup p.1=ι .local
 tg:scope.names.lookup x=ι (kindB b)
 free:∀p∈scope.names,p.2=.free->X.env.scope.names.lookup p.1=ι .cell
 nd:(x::fv).Nodup
 x_:∀(j:Nat) y,fv[j]?=ι y->∃i,fs[j]?=ι i/\X.N[i]?=ι y/\scope.names.lookup y=ι .free
 len:fv.length=fs.length
def UE(a:Scope)(N:List Str)(scope:Scope)(x:Str)(fv:List Str)(fs:List Nat)(b:Bool:=false):Bool:=
 scope.kind==.function&&scope.names.filter (λp=>p.2==.cell)==gU b x&&(scope.names.all λp=>p.2 !=.local||scope.names.lookup p.1==ι .local)&&scope.names.lookup x==ι (kindB b)&&
 (scope.names.all λp=>p.2 !=.free||a.names.lookup p.1==ι .cell)&&decide (x::fv).Nodup&&fs.map (N[·]?)==fv.map ι&&(fv.all λy=>scope.names.lookup y==ι .free)
theorem DW.of(h:UE X.env.scope X.N scope x fv fs b=true):DW X scope x fv fs b:=by
 unfold UE at h;simp only[kt,r4,aaA,bne_iff_ne,beq_iff_eq,decide_eq_true_eq]at h;obtain⟨⟨⟨⟨⟨⟨⟨i,k⟩,m⟩,n⟩,o⟩,q⟩,g⟩,r⟩:=h;have hlen:fs.length=fv.length:=by
  have:=congrArg pp g;simpa using this
 refine⟨i,k,λp c d=>(m p c).resolve_left λz=>z d,n,λp c d=>(o p c).resolve_left λz=>z d,q,λj y e=>?_,hlen.symm⟩;have s:j<fv.length:=(ACv e).1;have f:=congrArg (λl=>l[j]?) g;simp only[bv,e]at f;have a:j<fs.length:=by lia
 rw[ACu a]at f;refine⟨fs[j],ACu a,?_,r y<|ACx e⟩;simpa using f
abbrev Cs(X:Cx)(ex:List (Str×Addr))(N':List Str)(scope:Scope)(C:Addr)(s0:d8)(H0:Hp)(fp:List Addr):Cx where
 prog:=X.prog
 w:=X.w
 K:=X.K
 mg:=X.mg
 base:=X.base
 A:=X.A
 N:=N'
 s₀:=s0
 H₀:=H0
 env:=compEnvC scope (ex++Di X.env.cells scope.names []) C X.env
 outer:=X.stack
 stack:=X.stack
 ex:=fp
 fn:=λy=>(ex.lookup y).isSome
 calm:=X.calm
 pn:=[]
 xe:=λ_ _=>False
abbrev Pz(X:Cx)(a:List Str)(scope:Scope)(C:Addr)(b:d8)(c:Hp)(d:List Addr):Cx:=Cs X [] a scope C b c d
variable{pins:List (Addr×Obj)}{fv:List Str}
section
variable {s':d8} {fs:List Nat} {fp:List Addr} {b:Bool}
theorem DW.cells(ok:DW X scope x fv fs b)(I:Inv X pins σ H s):∀p∈scope.names,p.2=.free->∃c,X.env.cells.lookup p.1=ι c:=λp a d=>I.ok.has p.1<|.inl<|ok.free p a d
theorem DW.look(ok:DW X scope x fv fs b)(I:Inv X pins σ H s)(h:(Di X.env.cells scope.names []).lookup y=ι c):X.env.cells.lookup y=ι c:=
 FN scope.names [] (ok.cells I) (λ_ _ z=>by cases z) h
theorem LG(h:(KA b x C).lookup y=ι c):b=true/\y=x/\c=C+1:=by
 cases b with
 |false=>cases h
 |true=>
  have h:(B5 y [(x,C+1)])=ι c:=h;rw[j7]at h;cases e:y==x with
  |true=>rw[e]at h;cases h;exact⟨rfl,eq_of_beq e,rfl⟩
  |false=>rw[e]at h;cases h
theorem SW(ok:DW X scope x fv fs b)(I:Inv X pins σ H s)(E:∀b∈fp,IB X pins H b)(A:∀b∈fp,∃o,s.heap.get? b=ι o){w:Heap}{m:Str->Option b7}{tk:Nat}(Q:w.Ns s.heap.objs.size m)(kept:∀b o,s.heap.get? b=ι o->w.get? b=ι o)(B:b=true->w.IsCell (s.heap.objs.size+1) ν):Inv (Cs X (KA b x s.heap.objs.size) (x::fv) scope s.heap.objs.size s H fp) [] (ν::CY σ fs) H {s with heap:=w,toks:=tk}:=by
 have C:∀{y c},(KA b x s.heap.objs.size++Di X.env.cells scope.names []).lookup y=ι c->X.env.cells.lookup y=ι c∨(b=true/\y=x/\c=s.heap.objs.size+1):=λ{y c} h=>by
  rw[E5]at h;cases e:(KA b x s.heap.objs.size).lookup y with
  |some d=>rw[e]at h;cases h;exact .inr (LG e)
  |none=>rw[e]at h;exact .inl (ok.look I (by simpa using h))
 have lt:∀{y c},X.env.cells.lookup y=ι c->c<s.heap.objs.size:=λh=>by obtain⟨_,o,n,_⟩:=I.cell _ _ h;exact g7 n
 have F:X.env.scope.kind=.function:=I.ok.kind;refine⟨⟨I.ok.mod,ok.kind,I.ok.glob,I.ok.blt,bn _,λy z c w R=>?_,λy f=>?_,λy c t h=>?_,I.ok.hd,I.ok.frames,.inl rfl,λb g=>⟨?_,λy c e z=>?_⟩,I.bs,
  j5 I.ok.Ws I.sz,λb o e g=>?_,λb g G=>?_,I.stack,I.Tq⟩,rfl,I.bare,Un.kept kept,⟨m,Q,λi y v e1 q e3=>?_⟩,λy c e=>?_,I.fresh,λy c e=>?_,λp S=>absurd (show p∈([]:List (Addr×Obj))from S) (by simp),I.Ax.kept kept,?_⟩
 ·rcases C w with a|⟨_,a1,a2⟩<;>rcases C R with d|⟨_,T,d2⟩
  ·exact I.ok.inj y z c a d
  ·have:=lt a;lia
  ·have:=lt d;lia
  ·rw[a1,T]
 ·have f:(Z8 scope X.env).names.lookup y=ι .cell∨(Z8 scope X.env).names.lookup y=ι .free:=f;rw[EA]at f;cases e:scope.names.lookup y with
  |none=>rw[e]at f;rcases f with z|z<;>cases z
  |some k=>
   show∃c,(KA b x s.heap.objs.size++Di X.env.cells scope.names []).lookup y=ι c;rw[E5];rw[e]at f;have f:Py X.env y k=.cell∨Py X.env y k=.free:=f.elim (λz=>.inl<|ACw z) λz=>.inr<|ACw z;by_cases J:k=.free
   ·subst J;have:=Gb (cells:=X.env.cells) scope.names []<|.inr<|pi e;obtain⟨c,U⟩:=B4.mp this;rw[U];cases(KA b x s.heap.objs.size).lookup y<;>exact⟨_,rfl⟩
   ·have q:Py X.env y k=k:=by
     unfold Py;have:(k==B3)=false:=by simpa using J
     rw[this];rfl
    rw[q]at f;rcases f with z|z
    ·subst z;have K:(y,O2)∈scope.names.filter (λp=>p.2==.cell):=C5.mpr ⟨pi e,rfl⟩;rw[ok.ni]at K;cases b with
     |false=>cases K
     |true=>
      have:y=x:=congrArg V2<|bi.mp K;subst this;exact⟨s.heap.objs.size+1,by show(B5 y [(y,s.heap.objs.size+1)]).or _=_;rw[j7];simp⟩
    ·exact absurd z J
 ·have t:((KA b x s.heap.objs.size).lookup y).isSome=true:=t;obtain⟨d,hd⟩:=B4.mp t;have h:(KA b x s.heap.objs.size++Di X.env.cells scope.names []).lookup y=ι c:=h;rw[E5,hd]at h;cases h;obtain⟨_,_,rfl⟩:=LG hd;exact XV _
 ·obtain⟨o,n⟩:=A b g;exact i4<|g7 n
 ·rcases C e with a|⟨_,_,a2⟩
  ·exact(E b g).2.2.2.2.1 y c a z
  ·obtain⟨o,n⟩:=A b g;have:=g7 n;lia
 ·rcases(E b g).2.2.2.1 with z|z
  ·exact I.ok.W_ b o e z
  ·exact absurd (i6 (g7 e)<|j5 I.ok.Ws z)<|x8 _
 ·rcases ca.mp (I.Nu b G)with z|z
  ·exact(E b g).2.1 z
  ·exact(E b g).2.2.1 z
 ·cases i with
  |zero=>
   have q:(ι ν:Option (Option V))=ι (ι v):=q;cases q
  |succ j=>
   have e1:fv[j]?=ι y:=e1;have q:(CY σ fs)[j]?=ι (ι v):=q;obtain⟨i,W,Y⟩:=Vg q;obtain⟨i',P,Z,L⟩:=ok.x_ j y e1;rw[W]at P;cases P;have M:X.env.scope.names.lookup y=ι .cell:=ok.free (y,.free) (pi L) rfl;obtain⟨m0,_,N⟩:=I.loc;obtain⟨u,r,l⟩:=N i y v Z Y<|.inr<|.inl M;refine⟨u,r,?_⟩;rcases l with⟨k,_⟩|⟨_,c,e,o,n,hd⟩
   ·have k:X.env.scope.names.lookup y=ι .local:=k;rw[M]at k;cases k
   ·obtain⟨c',D⟩:=B4.mp<|Gb (cells:=X.env.cells) scope.names []<|.inr<|pi L;have:=ok.look I D;rw[e]at this;cases this;have ny:(KA b x s.heap.objs.size).lookup y=none:=by
     cases ey:(KA b x s.heap.objs.size).lookup y with
     |none=>rfl
     |some d=>
      obtain⟨_,z,_⟩:=LG ey;exact absurd (show x∈fv from z▸ACx (l:=fv) (show fv[j]?=ι y from e1)) (j0.mp ok.nd).1
    refine .inr ⟨.inl ?_,c,by show(KA b x s.heap.objs.size++Di X.env.cells scope.names []).lookup y=ι c;rw[E5,ny];exact D,o,kept _ _ n,hd⟩;show(Z8 scope X.env).names.lookup y=ι .cell;rw[EA,L];show ι (Py X.env y .free)=_;have O:X.env.kindOf y=ι .cell:=M;unfold Py;rw[F,O];rfl
 ·rcases C e with a|⟨g,_,rfl⟩
  ·obtain⟨v,o,n,hd⟩:=I.cell y c a;exact⟨v,o,kept _ _ n,hd⟩
  ·exact⟨ν,B g⟩
 ·rcases C e with a|⟨_,_,rfl⟩
  ·exact I.Dn y c a
  ·exact I.Ax.fresh<|XV _
 ·show(ν::CY σ fs).length=(x::fv).length;simp[CY,ok.len]
theorem SX(I:Inv X pins σ H s)(a:∀b∈fp,IB X pins H b)(c:Inv (Cs X ex g scope C s H fp) [] e H' s'):Inv X pins σ H' s':=
 I.jh (ch:=fp) c.os c.base c.Ax c.bare λb d=>⟨(a b d).2.2.2.1,(a b d).2.1,(a b d).2.2.2.2.1,(a b d).2.2.2.2.2⟩
theorem Inv.off(I:Inv X pins σ H s)(f:IB X pins H C)(a:C9 C s.heap h'):Inv X pins σ H {s with heap:=h'}:=
 I.turned (t':=s.toks) (λb o c e=>a.extBut b o c e) f.1 (λz=>f.2.1 z) f.2.2.2.1 f.2.2.2.2.1 f.2.2.2.2.2
end
def gW(X:Cx)(a:List u7)(t:TT):Prop:=
 ∀(pins:List (Addr×Obj))(s:d8)(b:St)(H:Hp)(Q:Bool->Hp->Prop),Inv X pins b H s->t b H Q->
  g5 (i7 X.prog X.w) X.A (forIn a true λc r=>if r=true then do let ok<-ac2 c X.env (wP c X.env);pure (L6 ok)else pure (L6 r)) (TP X pins b Q) X.xe s
def JM:TT:=λ_ H Q=>Q true H
theorem KX:gW X [] JM:=λ_ _ _ H _ I h=>wpAny_tests_nil ⟨H,I,h⟩
theorem Gd(h:PT X c t):gW X [c] t:=λpins s a H Q I q=>wpAny_tests_one<|h pins s a H Q I q
def DG(J:It)(g:TT)(h:TE)(fs:List Nat)(σ:St)(H:Hp)(Q:VK):Prop:=∀D,H D=ν->∃W:Nat->Nat->Hp->Prop,(∃m,W 0 m (upd H D (.lst [])))/\∀i m a,W i m a-> (J.stop i a/\Q (.ref D) a)∨(J.go i a/\∀v d,J.aJ i a v d->g (ι v::CY σ fs) d λok e=>
  if ok=true then h (ι v::CY σ fs) e λy f=>∃c,f D=ι (.lst c)/\c.length<sizeLine/\∃b,b<m/\W (i+1) b (upd f D (.lst (c++[y])))else∃b,b<m/\W (i+1) b e)
def P_(b:TI)(c:TT)(d:TE)(fs:List Nat):TE:=λa H Q=>b a H λJ e=>DG J c d fs a e Q
variable{Q:VK}{J:It}
section
variable {elt iter:u7} {px pos:Pos} {ifs:List u7} {fs:List Nat} {wi:TI} {te:TE} {tc:TT}
theorem P'(hc:X.calm=true)(ok:DW X scope x fv fs b)(yA:∀C s0 H0 f,gW (Cs X (KA b x C) (x::fv) scope C s0 H0 f) ifs tc)(he:∀C s0 H0 f,PE (Cs X (KA b x C) (x::fv) scope C s0 H0 f) elt te){it:Addr}{f:List Addr}{F:Nat->Heap->Prop}(I:Inv X pins σ H s)(T:Turn X.prog X.w X.K (.Name x px) J f it F)(st:F 0 s.heap)(hf:∀b∈f,IB X pins H b)(rd:DG J tc te fs σ H Q){RR:b7->Addr->abt->d8->Prop}(yB:∀D C t H',Inv X pins σ H' t->IB X pins H' C->(∃m,t.heap.Ns C m)->Q (.ref D) H'->RR (.ref D) C (.ok .next) t):
  g5 (i7 X.prog X.w) X.A (newList []) (λG c=>g5 (i7 X.prog X.w) X.A (aaV scope X.env.globals (Di X.env.cells scope.names []) [] X.env.qual ν .none (ι X.env)) (λh s4=>
   E8 (i7 X.prog X.w) X.A (.compStart (.ListComp elt [⟨.Name x px,iter,ifs,0⟩] scope pos) 0 (.ref it) G {h with scope:=Z8 scope X.env}) (RR G h.locals) s4) E c) E s:=by
 obtain⟨W,⟨m0,w0⟩,turn⟩:=rd s.heap.objs.size I.fresh;have Y:Inv X pins σ (upd H s.heap.objs.size<|.lst []) {s with heap:=s.heap.push {cls:=.type "list",dict:=ν,data:=.seq ([]:List b7).toArray}}:=I.aq (its:=[]) (ys:=[]) (t':=s.toks) .nil<|d9 _;refine xL ?_;show g5 _ _ _ _ _ ({s with heap:=s.heap.push {cls:=.type "list",dict:=ν,data:=.seq ([]:List b7).toArray}}:d8);generalize yC:({s with heap:=s.heap.push {cls:=.type "list",dict:=ν,data:=.seq ([]:List b7).toArray}}:d8)=c at Y⊢;refine LF ok.ni λh1 yD kept L=>?_;have eh:c.heap=s.heap.push {cls:=.type "list",dict:=ν,data:=.seq ([]:List b7).toArray}:=by rw[<-yC]
 have M:∀b o,s.heap.get? b=ι o->c.heap.get? b=ι o:=λb o e=>by rw[eh];exact be _ e
 have yE:∀b∈f,∃o,c.heap.get? b=ι o:=λb d=>let⟨o,ho,_⟩:=T.obj 0 _ st b d;⟨o,M b o ho⟩;have yF:∀b∈f,b≠s.heap.objs.size:=λb d=>let⟨o,ho,_⟩:=T.obj 0 _ st b d;i4<|g7 ho;have j:∀b∈f,IB X pins (upd H s.heap.objs.size<|.lst []) b:=λb d=>⟨by rw[AH<|yF b d];exact(hf b d).1,(hf b d).2⟩;have Z:=SW (tk:=c.toks) ok Y j yE yD kept L;have N:F 0 h1:=T.keep 0 _ _ st λb d o e=>kept b o<|M b o e;have g:∀{H':Hp},(∀b∈f,H' b=ν)->∀a∈f,IB (Cs X (KA b x c.heap.objs.size) (x::fv) scope c.heap.objs.size c (upd H s.heap.objs.size<|.lst []) f) [] H' a:=λhn b d=>
  ⟨hn b d,(Z.ok.nR b d).1,Z.ok.W' b d,.inl d,(Z.ok.nR b d).2,λp hp=>absurd hp (by simp)⟩
 have hg:PG (Cs X (KA b x c.heap.objs.size) (x::fv) scope c.heap.objs.size c (upd H s.heap.objs.size<|.lst []) f) (.Name x px) (Aj 0):=by
  have tg:=ok.tg;cases b with
  |false=>exact Nv ok.nd rfl (.inl (aa0 tg)) (.inr (aa0 tg))
  |true=>exact Nv ok.nd rfl (.inr (show(Z8 scope X.env).names.lookup x=_ from by rw[EA,tg];rfl)) (.inl (show(B5 x [(x,c.heap.objs.size+1)]).isSome=true from by rw[j7];simp))
 have loop:E8 (i7 X.prog X.w) X.A (.compLoop (.ListComp elt [⟨.Name x px,iter,ifs,0⟩] scope pos) 0 (.ref it) (.ref s.heap.objs.size)<|compEnvC scope (KA b x c.heap.objs.size++Di X.env.cells scope.names []) c.heap.objs.size X.env) (RR (.ref s.heap.objs.size) c.heap.objs.size)
   {c with heap:=h1}:=by
  refine SV (λn t=>∃i o H',Inv (Cs X (KA b x c.heap.objs.size) (x::fv) scope c.heap.objs.size c (upd H s.heap.objs.size<|.lst []) f) [] (o::CY σ fs) H' t/\F i t.heap/\(∀b∈f,H' b=ν)/\W i n H') ?_ m0
   ⟨0,ν,_,Z,N,λb d=>(j b d).1,w0⟩
  rintro n s5 ⟨i,o,H5,I5,O,P,w5⟩;rcases turn i n H5 w5 with⟨stop,q⟩|⟨go,step⟩
  ·refine BQ (T.done (Cs X (KA b x c.heap.objs.size) (x::fv) scope c.heap.objs.size c (upd H s.heap.objs.size<|.lst []) f) rfl rfl rfl hc i [] s5 _ H5 _ I5 (g P) O stop) λr s6 ⟨hr,I6⟩=>?_;subst hr;obtain⟨m,hm,_⟩:=I6.loc;exact yB _ _ s6 H5 (SX Y j I6) (Y.Rt (bn _) I6.free) ⟨m,hm⟩ q
  ·refine BQ (T.item (Cs X (KA b x c.heap.objs.size) (x::fv) scope c.heap.objs.size c (upd H s.heap.objs.size<|.lst []) f) rfl rfl rfl hc i [] s5 _ H5 _ I5 (g P) O go) λr s6 ⟨u,hr,h6⟩=>?_;subst hr;refine BQ h6 λ_ s7 ⟨v,H7,I7,r7,y7,k,yG⟩=>?_;have yH:=I7.pinned (g yG)<|T.obj _ _ k;have back:∀{R:St}{z:Hp}{S:d8},Inv (Cs X (KA b x c.heap.objs.size) (x::fv) scope c.heap.objs.size c (upd H s.heap.objs.size<|.lst []) f) ([]++Ks f s7.heap) R z S->F (i+1) S.heap/\∀b∈f,z b=none:=λ{R z S} B=>
    ⟨T.keep _ _ _ k λb d o e=>(B.pin (b,o) (FI d e)).1,λb d=>by
     obtain⟨o,e,_⟩:=T.obj _ _ k b d;exact(B.pin (b,o) (FI d e)).2.1⟩
   refine BQ (hg _ s7 _ H7 v u (fun σ2 H2=>σ2=ι v::CY σ fs/\H2=H7) yH r7 ⟨rfl,rfl⟩) λ_ s8 ⟨σ8,H8,I8,e8,yI⟩=>?_;subst e8 yI;refine BQ (yA _ _ _ _ _ s8 _ H8 _ I8<|step v H8 y7) λok S ⟨z,B,q9⟩=>?_;cases ok with
   |false=>
    obtain⟨m',l,w9⟩:=q9;obtain⟨b1,b2⟩:=back B;exact⟨m',l,i+1,ι v,z,B.Fx,b1,b2,w9⟩
   |true=>
    refine BQ (he _ _ _ _ _ S _ z _ B q9) λy s10 ⟨yv,U,yJ,r10,ys,hD,hz,m',l,w10⟩=>?_;refine BQ (Mv _ s10 _ U (.ref s.heap.objs.size) [yv] (.ref s.heap.objs.size) [y] (λ_ H'=>H'=upd U s.heap.objs.size (.lst<|ys++[yv])) yJ rfl (.cons r10 .nil) ⟨_,ys,yv,rfl,rfl,hD,hz,rfl⟩) λ_ s11 ⟨_,kc,V,_,e11⟩=>?_;subst e11;obtain⟨b1,b2⟩:=back V;exact⟨m',l,i+1,ι v,_,V.Fx,b1,b2,w10⟩
 exact codeAny_compStart_list loop<|T.self _ 0 _ _ _ N loop
theorem Xl(b:Bool)(i:X.calm=true)(ok:DW X scope x fv fs b)(j:PI X (.Name x px) iter wi)(c:∀C d e a,gW (Cs X (KA b x C) (x::fv) scope C d e a) ifs tc)(k:∀C d e a,PE (Cs X (KA b x C) (x::fv) scope C d e a) elt te)(l:∀x,B9 iter X.env x=pure x:=by intro _;rfl):PE X (.ListComp elt [⟨.Name x px,iter,ifs,0⟩] scope pos) (P_ wi tc te fs):=by
 intro pins s n H Q I h;rw[eval_ListComp];refine X6 (use:=ν) rfl l (Ej<|ok.cells I) ok.kind ok.names (BQ (j pins s n H _ I h) λB E o=>BQ o λp F r=>?_);obtain⟨G,a,K,J,L,rfl,t,T,f,u,v⟩:=r;exact P' i ok c k t T f u v λD C M w y z ⟨m,A⟩ q=>⟨m,A,λN g=>⟨.ref D,w,y.off z g,rfl,q⟩⟩
theorem Ge(e:X.calm=true)(ok:DW X scope x fv fs)(f:PI X (.Name x px) iter wi)(a:∀C b c d,gW (Pz X (x::fv) scope C b c d) ifs tc)(g:∀C b c d,PE (Pz X (x::fv) scope C b c d) elt te)(h:∀x,B9 iter X.env x=pure x:=by intro _;rfl):PE X (.ListComp elt [⟨.Name x px,iter,ifs,0⟩] scope pos) (P_ wi tc te fs):=Xl false e ok f a g h
theorem QA(b:Bool){d c:Pos}(L:X.calm=true)(ok:DW X scope x fv fs b)(M:X.N.Nodup)(l:X.N[i]?=ι y)(O:Loc X.env.scope y)(P:PI X (.Name x px) iter wi)(n:∀C o p j,gW (Cs X (KA b x C) (x::fv) scope C o p j) ifs tc)(R:∀C o p j,PE (Cs X (KA b x C) (x::fv) scope C o p j) elt te)(r:U7 (.ListComp elt [⟨.Name x px,iter,ifs,0⟩] scope pos) (ι (.Name y d)) c.line X.env=pure true:=by rfl)(t:X.fn y=true∨X.env.scope.names.lookup y=ι .local:=by first|exact .inl rfl|exact .inr rfl|assumption)(S:∀x,B9 iter X.env x=pure x:=by intro _;rfl):PS X (.Assign [.Name y d] (.ListComp elt [⟨.Name x px,iter,ifs,0⟩] scope pos) c) (λD f H=>P_ wi tc te fs f H λv g=>D.nx (f.set i (ι v)) g):=by
 intro pins s f H D I h;rw[exec_Assign_Name_used _ _ _ _ r];refine am<|abj<|am ?_;show g5 _ X.A (comprehension (.ListComp elt [⟨.Name x px,iter,ifs,0⟩] scope pos) scope X.env _ (newList []) false (wP iter X.env) (ι<|acj (.Name y d) X.env)>>=λ_=>pure ()) _ _ s;refine am (BQ (X6 (use:=ι<|acj (.Name y d) X.env) (Q:=λ_ k=>SP X pins D .next k) rfl S (Ej<|ok.cells I) ok.kind ok.names<|BQ (P pins s f H _ I h) λxv s1 U=>BQ U λV s2 W=>?_) λ_ k Y=>ce<|ce Y);obtain⟨it,j,tn,J,H2,rfl,Z,T,u,f2,rd⟩:=W;refine P' (Q:=λv g=>D.nx (f.set i<|some v) g) L ok n R Z T u f2 rd λK C k g I' w ⟨m,hm⟩ q=>?_;show g5 _ X.A (acj (.Name y d) X.env<|.ref K) _ _ k;refine ab4<|Mp I' M l O (v:=.ref K) rfl (λnX B ⟨a,E,ha⟩=>?_) t;have F:C≠a:=by
  rcases ha with z|z
  ·rw[z];exact w.2.1
  ·exact λe=>w.2.2.2.2.1 y a z e.symm
 exact⟨m,hm.sameBut E F,λh' G=>⟨_,g,B.off w G,q⟩⟩
theorem FO{j a:Pos}(l:X.calm=true)(ok:DW X scope x fv fs)(m:X.N.Nodup)(b:X.N[i]?=ι y)(n:Loc X.env.scope y)(o:PI X (.Name x px) iter wi)(c:∀C d e f,gW (Pz X (x::fv) scope C d e f) ifs tc)(p:∀C d e f,PE (Pz X (x::fv) scope C d e f) elt te)(g:U7 (.ListComp elt [⟨.Name x px,iter,ifs,0⟩] scope pos) (ι (.Name y j)) a.line X.env=pure true:=by rfl)(h:X.fn y=true∨X.env.scope.names.lookup y=ι .local:=by first|exact .inl rfl|exact .inr rfl|assumption)(q:∀x,B9 iter X.env x=pure x:=by intro _;rfl):PS X (.Assign [.Name y j] (.ListComp elt [⟨.Name x px,iter,ifs,0⟩] scope pos) a) (λD k H=>P_ wi tc te fs k H λv r=>D.nx (k.set i (ι v)) r):=QA false l ok m b n o c p g h q
end
theorem Ek{k:TT}{f:TE}{fs:List Nat}(item g:Nat->V)(p:Nat->Bool)(y:n<=sizeLine)(h:∀i D ys,i<n->H D=ν->J.go i (upd H D (.lst ys)))(q:∀i D ys v H',i<n->H D=ν->J.aJ i (upd H D (.lst ys)) v H'->v=item i/\H'=upd H D (.lst ys))(j:∀D ys,H D=ν->J.stop n (upd H D (.lst ys)))(r:∀i D ys (R:Bool->Hp->Prop),i<n->H D=ν->R (p i) (upd H D (.lst ys))->k (ι (item i)::CY σ fs) (upd H D (.lst ys)) R)(s:∀i D ys (R:VK),i<n->H D=ν->p i=true->R (g i) (upd H D (.lst ys))->f (ι (item i)::CY σ fs) (upd H D (.lst ys)) R)(t:∀D,H D=ν->Q (.ref D) (upd H D (.lst (((oo n).filter p).map g)))):
  DG J k f fs σ H Q:=by
 intro D c;refine⟨λi m l=>m=n-i/\i<=n/\l=upd H D (.lst<|((oo i).filter p).map g),⟨n,by simp⟩,?_⟩;rintro i m l ⟨rfl,z,rfl⟩;by_cases a:i<n
 ·refine .inr ⟨h i D _ a c,λv u w=>?_⟩;obtain⟨rfl,rfl⟩:=q i D _ v u a c w;refine r i D _ _ a c ?_;have o:∀b,p i=b->((oo<|i+1).filter p).map g=((oo i).filter p).map g++(if b=true then[g i]else[]):=λb d=>by
   rw[aaw,E6,io];cases b with
   |true=>simp[d]
   |false=>simp[d]
  cases d:p i with
  |false=>
   show∃x,x<n-i/\_;refine⟨n-(i+1),by lia,rfl,a,?_⟩;rw[o false d];simp
  |true=>
   show f _ _ _;refine s i D _ _ a c d ⟨_,AA,?_,n-(i+1),by lia,rfl,a,?_⟩
   ·rw[ap];have:=R7 p<|oo i;rw[M4]at this;lia
   ·rw[aS,o true d];simp
 ·have e:i=n:=by lia
  subst e;exact .inl ⟨j D _ c,t D c⟩
theorem AF.put(s:AF H H')(h:H D=ν):AF H (upd H' D o):=λb u e=>by
 rw[AH<|AW e h];exact s b u e
theorem AF.new(h:H D=ν):AF H (upd H D o):=(AF.refl H).put h
variable{a:Type _}
theorem B'(l:List a)(i:Nat)(h:i<l.length):∃x,l[i]?=ι x:=⟨_,ACu h⟩
theorem DR{l:List a}{i:Nat}{x:a}(h:l[i]?=ι x):i<l.length:=(ACv h).1
theorem Bw{a b:Addr}{r c:Option HO}(h:H a=r)(h':H b=c)(n:r≠c:=by first|exact Option.some_ne_none _|nofun):a≠b:=λz=>n<|by rw[<-h,<-h',z]
theorem Rp.mk{o:HO}(k:∀p H',H p=ν->AF H H'->H' p=ι o->Q (.ref p) H'):Rp H o Q:=λp a=>k p _ a (AF.new a) AA
theorem DH{f:TE}{fs:List Nat}(item:Nat->V)(Ok:Nat->V->Prop)(B:n<=sizeLine)(g:∀i H2,i<n->AF H H2->J.go i H2)(t:∀i H2 v H',i<n->AF H H2->J.aJ i H2 v H'->v=item i/\H'=H2)(h:∀H2,AF H H2->J.stop n H2)(u:∀i H2 (R:VK),i<n->AF H H2->(∀y d,AF H2 d->Ok i y->R y d)->f (ι (item i)::CY σ fs) H2 R)(w:∀D H2 ys,H D=ν->AF H H2->H2 D=ι (.lst ys)->ys.length=n->(∀(i:Nat) y,ys[i]?=ι y->Ok i y)->Q (.ref D) H2):
  DG J JM f fs σ H Q:=by
 intro D k;refine⟨λi m H2=>m=n-i/\i<=n/\AF H H2/\∃ys,H2 D=ι (.lst ys)/\ys.length=i/\∀(j:Nat) y,ys[j]?=ι y->Ok j y,⟨n,by simp,d9 _,AF.new k,[],AA,rfl,λj y z=>by simp at z⟩,?_⟩;rintro i m H2 ⟨rfl,C,c,ys,o,p,r⟩;by_cases a:i<n
 ·refine .inr ⟨g i H2 a c,λv d x=>?_⟩;obtain⟨rfl,rfl⟩:=t i H2 v d a c x;show f _ _ _;refine u i _ _ a c λy E s l=>⟨ys,s _ _ o,by lia,n-(i+1),by lia,rfl,a,(c.trans s).put k,ys++[y],AA,by simp[p],λj z b=>?_⟩;by_cases A:j<ys.length
  ·rw[g9 A]at b;exact r j z b
  ·rw[jc<|by lia]at b;have e:j-ys.length=0:=by
    cases q:j-ys.length with
    |zero=>rfl
    |succ F=>rw[q]at b;simp at b
   rw[e]at b;have:y=z:=by simpa using b
   subst this;have:j=i:=by lia
   subst this;exact l
 ·have e:i=n:=by lia
  subst e;exact .inl ⟨h H2 c,w D H2 ys k c o p r⟩
open Builtin Builtin.Str
theorem bA(n m:Nat):max 0 (min (m:Int) (n:Int))=((min m n:Nat):Int):=by
 rw[Int.max_eq_right<|Int.le_min.mpr ⟨abK _,abK _⟩];by_cases h:m<=n
 ·rw[L3 h,aaz<|aaf.mpr h]
 ·rw[Y9<|SC h,acD<|aaf.mpr<|SC h]
theorem Xm(n:Nat)(h:i<0):max 0 (min (i+(n:Int)) (n:Int))=(((i+(n:Int)).toNat:Nat):Int):=by
 rw[aaz<|by lia,acC,Int.max_comm]
theorem Xn(l u:Option Int)(n:Nat):strSliceIndices l u 1 n=(oo (HT.CN n n u-HT.CN n 0 l)).map (HT.CN n 0 l+·):=by
 have clip:∀(v:Option Int)(d:Nat),(match v with|none=>(d:Int)|some i=>max 0<|min (if i<0 then i+(n:Int)else i) (n:Int))=((HT.CN n d v:Nat):Int):=by
  intro v d;cases v with
  |none=>rfl
  |some i=>
   show max 0 (min (if i<0 then i+(n:Int)else i) (n:Int))=(((if i<0 then(i+(n:Int)).toNat else min i.toNat n):Nat):Int);by_cases h:i<0
   ·simp only[if_pos h];exact Xm n h
   ·simp only[if_neg h];obtain⟨m,rfl⟩:=J4<|aei.mp h;exact bA n m
 have c:=clip l 0;have e:=clip u n;unfold strSliceIndices sliceRange;simp only[show(1:Int)>0 by decide,if_true,Int.one_mul,ab0];have f:((0:Nat):Int)=0:=rfl;rw[f]at c;have gen:∀(A B:Int)(a b:Nat),A=(a:Int)->B=(b:Int)->V3 (λk:Nat=>(A+(k:Int)).toNat) (oo (if A<B then B-A+1-1 else 0).toNat)=V3 (λx=>a+x) (oo<|b-a):=by
  intro A B a b g j;subst g j;have o:(if(a:Int)<(b:Int)then(b:Int)-(a:Int)+1-1 else 0).toNat=b-a:=by
   split<;>lia
  rw[o];refine A4 λk _=>?_;lia
 exact gen _ _ _ _ c e
def SY(xs:List Nat)(l u:Option Int):List Nat:=(xs.drop<|HT.CN xs.length 0 l).take<|HT.CN xs.length xs.length u-HT.CN xs.length 0 l
theorem Sa{c:Type}(xs:List c)(a k:Nat)(h:a+k<=xs.length):((oo k).map (a+·)).filterMap (xs[·]?)=(xs.drop a).take k:=by
 rw[abJ]
 induction k with
 |zero=>simp
 |succ k d=>
  rw[aaw,aaK,d<|by lia];have b:a+k<xs.length:=by lia
  have e:(xs.drop a)[k]?=ι (xs[a+k]):=by
   rw[List.getElem?_drop];exact ACu b
  rw[j2,e];simp[b]
theorem QB(x:Str)(l u:Option Int):(FM x l u).cps.toList=SY x.cps.toList l u:=by
 have hlen:x.cps.toList.length=x.length:=by rw[j6];rfl
 have c:HT.CN x.length x.length u<=x.length:=by
  cases u with
  |none=>exact bn _
  |some v=>
   show(if v<0 then(v+(x.length:Int)).toNat else min v.toNat x.length)<=x.length;split<;>lia
 unfold FM SY;rw[hlen,Xn];generalize k:HT.CN x.length 0 l=a;generalize d:HT.CN x.length x.length u=b at c;by_cases f:a<=b
 ·split
  ·rename_i h
   simp at h;have:b-a=x.length:=h;have g:a=0:=by lia
   have j:b=x.length:=by lia
   subst g;rw[j,<-hlen,M8,Q0,im]
  ·show(List.filterMap (λi=>x.cps[i]?) _).toArray.toList=_;rw[T7];have e:(λi:Nat=>x.cps[i]?)=λi:Nat=>x.cps.toList[i]?:=by
    funext i;exact(q4).symm
   rw[e];exact Sa _ a (b-a)<|by lia
 ·have z:b-a=0:=by lia
  rw[z];simp only[List.range_zero,B2,A3];split
  ·rename_i h
   simp at h;have:x.cps.toList=[]:=q8 (by rw[hlen];exact h.symm);exact this
  ·rfl
section
inductive ke(x:V)(lo a:Option Int)(H:Hp)(Q:VK):Prop
 |mk(z:_)(b:x=.str z)(c:z.length<=sizeLine)(d:Q (.str (FM z lo a)) H)
def qR:V->Option Int->Option Int->Hp->VK->Prop:=λx lo a H Q=>ke x lo a H Q
theorem OI:kF X qR:=by
 intro pins s g H x v p r lo m w Q I n a o e h;obtain⟨z,rfl,b,q⟩:=h;obtain⟨t,rfl⟩:=n;refine⟨"str",_,F.slot_str_getitem.lookup,ac7 _ _ _,?_⟩;have fin:∀c k,EP X pins g Q (.str (FM z lo m) c) {s with toks:=k}:=λc k=>⟨.str _,H,I.tok k,⟨c,rfl⟩,q⟩;cases o with
 |none=>
  cases e with
  |none=>exact J1 (l:=ν) (u:=ν) (st:=ν) a rfl (TD ⟨j5 (NE z _ _) b,fin⟩)
  |int j d=>exact J1 (l:=ν) (u:=ι (j,d)) (st:=ν) a rfl (TD ⟨j5 (NE z _ _) b,fin⟩)
 |int i f=>
  cases e with
  |none=>exact J1 (l:=ι (i,f)) (u:=ν) (st:=ν) a rfl (TD ⟨j5 (NE z _ _) b,fin⟩)
  |int j d=>exact J1 (l:=ι (i,f)) (u:=ι (j,d)) (st:=ν) a rfl (TD ⟨j5 (NE z _ _) b,fin⟩)
end
theorem LI{tg:u7}{Pv:Nat->b7->Prop}{St:Nat->Heap->Prop}{item:Nat->V->Prop}(hW:∀A:AT,A.handled=ν->Walks P w A it [it] [it] n Pv St)(kg:∀i h,St i h->∃(o:Obj) (T:String) (vs:Array b7),h.get? it=ι o/\o.cls=.type T/\o.data=.fields vs/\
   ["enumerate","zip","dict_itemiterator","dict_reverseitemiterator","odict_iterator","itertools.zip_longest","itertools.pairwise"].contains T=false)(kh:∀(A:AT) (i:Nat) (s:d8) (Q:b7->d8->Prop) (E:b7->d8->Prop),St i s.heap->Q (.ref it) s->g5 (i7 P w) A (aci (.ref it)) Q E s)(rel:∀i u,Pv i u->∃x,RelV x u/\item i x):Turn P w K tg ⟨λi _=>i<n,λi H x H'=>H'=H/\item i x,λi _=>i=n⟩ [it] it St where
 mem:=by simp
 obj:=λi h st b hb=>by
  have e:b=it:=by simpa using hb
  subst e;obtain⟨o,T,vs,h1,_,h3,_⟩:=kg i h st;exact⟨o,h1,λv z=>by rw[h3]at z;cases z⟩
 keep:=λi h h' st k=>(hW Z9 rfl).frame i h h' st λb hb o e=>k b hb o e
 item:=λX hp hw _ hc i pins s σ H E I hf st go=>by
  subst hp hw;have f:=hf it (by simp);refine(hW X.A<|I.ok.hd hc).item i s _ E go st λv h' tk hP Pd kept=>?_;obtain⟨x,rx,hx⟩:=rel i v hP;obtain⟨o,T,vs,h1,h2,h3,h4⟩:=kg _ _ Pd;refine⟨v,rfl,Mq (o:=o) h1 h2 h3 h4 ⟨x,H,I.turned (λb ob hb e=>kept b ob (by simp[hb]) e) f.1 f.2.1 f.2.2.2.1 f.2.2.2.2.1 f.2.2.2.2.2,rx,⟨rfl,hx⟩,Pd,λb hb=>?_⟩⟩;have e:b=it:=by simpa using hb
  subst e;exact f.1
 done:=λX hp hw _ hc i pins s σ H E I hf st stop=>by
  subst hp hw;have f:=hf it (by simp);have stop:i=n:=stop;subst stop;refine(hW X.A<|I.ok.hd hc).done s _ E st λh' tk kept=>?_;exact⟨rfl,I.turned (λb ob hb e=>kept b ob (by simp[hb]) e) f.1 f.2.1 f.2.2.2.1 f.2.2.2.2.1 f.2.2.2.2.2⟩
 self:=kh
def qS(z:Str):It:=⟨λi _=>i<z.cps.size,λi H x a=>a=H/\∃c,z.cps[i]?=ι c/\x=.str ⟨#[c]⟩,λi _=>i=z.cps.size⟩
def qT(a:TE):TI:=λb H R=>a b H λx c=>∃z,x=.str z/\R (qS z) c
section
variable {tg:u7}
theorem gX(hl:PE X l y):PI X tg l (qT y):=by
 intro pins s B H R I h;refine BQ (hl pins s B H _ I h) λv a C=>C.elim λx g f D F=>?_;obtain⟨z,rfl,q⟩:=F;obtain⟨t,rfl⟩:=D;have d:∀i u,SignAt z i u->∃x,RelV x u/\∃c,z.cps[i]?=ι c/\x=.str ⟨#[c]⟩:=λi u ⟨c,G,J,e⟩=>⟨.str ⟨#[c]⟩,⟨G,e⟩,c,J,rfl⟩;have r:∀o:Obj,∀b∈[a.heap.objs.size],IB X pins g b:=λo b K=>by
  have e:b=a.heap.objs.size:=by simpa using K
  subst e;exact f.Rt (bn _) f.fresh
 cases w:z.cps.all (·<128)with
 |false=>
  refine wpAny_pyIter_wide w ⟨a.heap.objs.size,[a.heap.objs.size],λi h=>h.IsStrIter a.heap.objs.size "str_iterator" z t i,qS z,g,rfl,f.kept (t':=a.toks) λb o e=>be _ e,
   LI (Pv:=SignAt z) (λA j=>Walks.strWide j _ z t) (λi h st=>?_) (λA i s Q E st k=>wpAny_pyIter_striter_wide st k) d,⟨_,g8 _ rfl,rfl,rfl⟩,r default,q⟩
  obtain⟨o,m,n,p⟩:=st;exact⟨o,_,_,m,n,p,by decide⟩
 |true=>
  refine wpAny_pyIter_ascii w ⟨a.heap.objs.size,[a.heap.objs.size],λi h=>h.IsStrIter a.heap.objs.size "str_ascii_iterator" z t i,qS z,g,rfl,f.kept (t':=a.toks) λb o e=>be _ e,
   LI (Pv:=SignAt z) (λA j=>Walks.strAscii j _ z t) (λi h st=>?_) (λA i s Q E st k=>wpAny_pyIter_striter_ascii st k) d,⟨_,g8 _ rfl,rfl,rfl⟩,r default,q⟩
  obtain⟨o,m,n,p⟩:=st;exact⟨o,_,_,m,n,p,by decide⟩
inductive QC(K:ACy)(xs:List V)(H:Hp)(Q:VK):Prop
 |mk(p:Addr)(bs:List Bool)(a:xs=[.ref p])(b:Ag K H p (bs.map V.bl))(c:Q (.bl (bs.all id)) H)
def Sb(K:ACy):List V->Hp->VK->Prop:=λa H Q=>QC K a H Q
theorem II(y:X.calm=true):Bo X (.builtin "all") (Sb X.K):=by
 intro pins s M H N O Q I r h;obtain⟨p,bs,rfl,B,q⟩:=h;obtain⟨u,rfl,l⟩:=vals1 r;cases l;obtain⟨d,m,w,P⟩:=I.list B;obtain⟨C,f,g⟩:=id w.isList;have n:p<s.heap.objs.size:=g7 f;have t:X.A.in1.handled=none:=I.ok.hd y;have hlen:d.toArray.size=bs.length:=by rw[cr,<-m.length,ap]
 refine call_all_walk<|M3 w.isList ⟨s.heap.objs.size,_,_,_,_,_,λi=>bs.getD i true,rfl,Walks.list t s.heap.objs.size p (i4 n) d.toArray,⟨⟨_,g8 _ rfl,rfl,rfl⟩,⟨C,be _ f,g⟩⟩,?_,λR D kept=>?_⟩
 ·intro i v E F S j k;have j:d[i]?=ι v:=by simpa using j
  have c:i<bs.length:=by
   have:=DR j;rw[<-m.length,ap]at this;exact this
  have e:(bs.map V.bl)[i]?=ι (V.bl bs[i]):=by rw[bv,ACu c];rfl
  obtain⟨u,x,l⟩:=m.get e;rw[j]at x;cases x;cases l;have G:bs.getD i true=bs[i]:=by rw[ci,ACu c];rfl
  have k:F (bs.getD i true) E:=k;rw[G]at k;exact u9 k
 ·refine⟨.bl<|bs.all id,H,I.kept (t':=D) λb o e=>kept b o (λz=>?_)<|be _ e,?_,q⟩
  ·have J:b=s.heap.objs.size:=by simpa using z
   exact i4 (g7 e) J
  ·show G3 _=G3 _;congr 1;rw[hlen,F9,r4,r4];constructor
   ·intro a b L;obtain⟨i,c,rfl⟩:=G1.mp L;have:=a i<|E3.mpr c;rw[ci,ACu c]at this;exact this
   ·intro a i c;have c:=E3.mp c;rw[ci,ACu c];exact a _<|B0 c
inductive Xo(x:V)(vs:List V)(H:Hp)(Q:VK):Prop
 |mk(l xs i y:_)(a:x=.ref l)(b:vs=[.int ((i:Nat):Int),y])(c:H l=ι (.lst xs))(d:i<=xs.length)(e:xs.length<sizeLine)(f:Q .BB (upd H l (.lst (xs.take i++y::xs.drop i))))
def bB:V->List V->Hp->VK->Prop:=λx a H Q=>Xo x a H Q
theorem Vh:gK X "list.insert" bB:=by
 intro pins s D H x E v G Q I o p h;obtain⟨l,J,i,y,rfl,rfl,f,g,j,q⟩:=h;cases o;obtain⟨K,c,rfl,⟨t,e1⟩,u⟩:=p.two;subst e1;obtain⟨z,a,n,r,k,e⟩:=I.MU f;have d:a.toArray.size<=sizeLine:=by rw[cr,<-k];exact t8 j
 have w:i<2 ^ 63:=w1 (j5 g<|t8 j) Fz;have A:i<=a.length:=by rw[<-k];exact g
 obtain⟨x,B⟩:∃x:Int,x=(i:Int):=⟨_,rfl⟩;rw[<-B];have b:¬(!Builtin.List.listFitsIndex x)=true:=by
  have:W5 x=true:=by
   unfold W5;simp only[kt,decide_eq_true_eq];constructor<;>lia
  simp[this]
 have C:∀m:Nat,a.length=m->(if x<0 then(x+(m:Int)).toNat else min x.toNat m)=i:=λm L=>by
  rw[if_neg<|by lia];lia
 refine J8 X8 ⟨_,e,rfl⟩ PySem.F.entry_list_insert (PySem.F.args_list_insert_3 _ _ _) (PySem.AutoSeq1.list_insert_list_int_val_1 l a.toArray n x t c b d) ⟨e,?_⟩;refine⟨.BB,_,I.VY (its':=a.take i++c::a.drop i) f e ?_ ((r.take i).append<|.cons u<|r.drop i) ?_,rfl,q⟩
 ·show(a.toArray.extract 0<|if x<0 then(x+(a.toArray.size:Int)).toNat else min x.toNat a.toArray.size).push c++a.toArray.extract (if x<0 then(x+(a.toArray.size:Int)).toNat else min x.toNat a.toArray.size)=_;rw[C a.toArray.size (cr ..).symm];apply acH.mp;simp[R1]
 ·simp only[b8,re,g6,w4];lia
end
section
end
end L2
namespace HT
open PySem PyProof.Rows
section
variable{prog:om} {w:u8} {A:AT} {E:b7->d8->Prop} {s:d8}
theorem IJ{t sl:Addr}{items:Array b7}{vl g:b7}{lo c:Option Int}{Q:b7->d8->Prop}(a:abN s.heap t items)(i:s.heap.IsSliceOf sl vl g .none)(pl:Z7 vl lo)(j:Z7 g c)(hw:CN items.size 0 lo=0/\CN items.size items.size c=items.size)(h:Q (.ref t) s):g5 (i7 prog w) A (UV (.ref t) (.ref sl)) Q E s:=by
 obtain⟨os,d,e,k⟩:=id i;have f:s.TypeIs (.ref sl) "slice":=⟨os,d,e⟩;unfold UV
 try with_reducible refine j8 ?_
 first|refine am (ce ?_)|skip
 refine am<|ab2 a.typeIs (by decide) ?_;refine am<|C1 (name:=U1 "__getitem__") a.typeIs u6<|u4 u6 a.typeIs abc ?_<|aby _ _;show g5 _ _ (W2 (.ref t)>>=_) _ _ s;refine am<|adw a ?_;refine am<|C8 f ?_;rw[if_pos<|by decide];refine am<|Eh i pl j ?_;have b:(((CN items.size 0 lo:Nat):Int)==0&&(1:Int)==1&&(CN items.size items.size c-CN items.size 0 lo)==items.size)=true:=by
  rw[hw.1,hw.2];simp
 show g5 _ _ (if(((CN items.size 0 lo:Nat):Int)==0&&(1:Int)==1&&(CN items.size items.size c-CN items.size 0 lo)==items.size)=true then _ else _) _ _ s;rw[if_pos b];refine am (m:=W3 _) ?_;unfold W3
 first
  |refine am (C8 a.typeIs (ce ?_))
  |refine C8 a.typeIs ?_
 rw[if_pos<|by decide];exact am<|R9<|ce ⟨_,rfl,ce h⟩
end
end HT
namespace L2
open PySem PySem.Spec PyProof.Rows
variable{X:Cx}
section
inductive ki(x:V)(lo b:Option Int)(H:Hp)(Q:VK):Prop
 |mk(a xs:_)(c:x=.ref a)(d:H a=ι (.tup xs))(e:∀p H',AF H H'->H' p=ι (.tup (HY xs lo b))->Q (.ref p) H')
def qU:V->Option Int->Option Int->Hp->VK->Prop:=λx lo a H Q=>ki x lo a H Q
theorem bC:kF X qU:=by
 intro pins s l H x v m n lo e o Q I f g i j h;obtain⟨a,b,rfl,c,q⟩:=h;by_cases hw:HT.CN b.length 0 lo=0/\HT.CN b.length b.length e=b.length
 ·cases f;obtain⟨d,r,k,u⟩:=I.tuple<|BP.of c;have hlen:d.toArray.size=b.length:=by rw[cr];exact r.length.symm
  refine⟨"tuple",_,u6.lookup,k.typeIs,?_⟩;refine HT.IJ k g i j (by rw[hlen];exact hw) ⟨.ref a,H,I,rfl,q a H (AF.refl H) ?_⟩;unfold HY;rw[hw.1,hw.2,M8,Q0,im];exact c
 ·exact gB pins s l H (.ref a) v m n lo e o Q I f g i j ⟨a,b,rfl,BP.of c,hw,λp t=>q p _ (AF.new t) AA⟩
theorem UG(l:List V)(k:Nat):HY l ν (ι (k:Int))=l.take k:=by
 unfold HY;rw[HT.N_];show(l.drop 0).take (min k l.length-0)=_;rw[M8,Q0,aaH];simp
end
inductive PN(H:Hp):V->String->Prop where
 |BB:PN H .BB "NoneType"
 |bl (b:Bool):PN H (.bl b) "bool"
 |int (i:Int):PN H (.int i) "int"
 |str (x:Str):PN H (.str x) "str"
 |lst {a:Addr} {xs:List V} (e:Rd H a (.lst xs)):PN H (.ref a) "list"
 |tup {a:Addr} {xs:List V} (e:H a=ι (.tup xs)):PN H (.ref a) "tuple"
 |dK {a:Addr} {kvs:List (Key×V)} (e:Rd H a (.dK kvs)):PN H (.ref a) "dict"
theorem Rd.up(h:Rd H a u)(s:∀o,H a=ι o->H' a=ι o):Rd H' a u:=by
 rcases h with h|⟨o,h⟩
 ·exact .inl<|s _ h
 ·exact .inr ⟨o,s _ h⟩
def Xp(T c:String):Bool:=T==c||(T=="bool"&&c=="int")
def bD(c:String):Bool:=["int","bool","str","list","tuple","dict"].contains c
variable{H:Hp}{K:ACy}{T:String}
theorem UH{v:V}{c:String}(h:PN H v T)(a:bD c=true):aaZ K (.type T) (.type c)=ι (Xp T c):=by
 have a:c="int"∨c="bool"∨c="str"∨c="list"∨c="tuple"∨c="dict":=by
  unfold bD at a;simpa using a
 cases h<;>rcases a with rfl|rfl|rfl|rfl|rfl|rfl<;>kernel_rfl
variable{E Q:b7->d8->Prop}{A:AT}
section
inductive kj(xs:List V)(H:Hp)(Q:VK):Prop
 |mk(x c T:_)(a:xs=[x,.ty c])(b:bD c=true)(d:PN H x T)(e:Q (.bl (Xp T c)) H)
def qV:List V->Hp->VK->Prop:=λa H Q=>kj a H Q
theorem QD(I:Inv X pins σ H s)(d:RelV x u)(ty:PN H x T)(e:aaZ X.K (.type T) (.type c)=ι b)(h:∀tk,Q (.bool b) {s with toks:=tk}):
  g5 (i7 X.prog X.w) A (call (.builtin "isinstance") [u,.type c]) Q E s:=by
 cases ty with
 |BB=>exact Eg I d .BB e h
 |bl y=>exact Eg I d (.bl y) e h
 |int i=>exact Eg I d (.int i) e h
 |str y=>exact Eg I d (.str y) e h
 |tup f=>exact Eg I d (.tup f) e h
 |@lst a j f=>
  cases(show u=jM a from d);obtain⟨_,_,n,_,g⟩:=(show Ay X.prog X.w H s.heap a (.lst j)from f.ok I.Ax);exact u0 Q5 I.FG ⟨_,g,rfl⟩ e (λz=>nomatch z) h
 |@dK a kvs f=>
  cases(show u=jM a from d);obtain⟨_,_,l,_,p⟩:=(show Ay X.prog X.w H s.heap a (.dK kvs)from f.ok I.Ax);obtain⟨o,m,q,g,k,_⟩:=p;exact u0 Q6 I.FG ⟨o,g,k.1⟩ e (λz=>nomatch z) h
theorem BY:Bo X (.builtin "isinstance") qV:=by
 intro pins s f H g i Q I r h;obtain⟨x,c,T,rfl,b,ty,q⟩:=h;obtain⟨u,j,rfl,d,a⟩:=vals2 r;cases a;exact QD I d ty (UH ty b) λe=>⟨.bl _,H,I.tok e,rfl,q⟩
end
open Builtin Builtin.Str
abbrev sgn(x:Str):List Nat:=x.cps.toList
def Xq:List Nat:=sgn "abcdefghijklmnopqrstuvwxyz"
def UI(c:Nat):Bool:=decide<|c∈Xq
theorem EB(x:Str):(sgn x).length=x.length:=by
 show x.cps.toList.length=x.cps.size;exact j6
theorem CL(x y:Str):sgn (x++y)=sgn x++sgn y:=by
 show(x.cps++y.cps).toList=_;exact Array.toList_append
theorem El(x:Str)(l u:Option Int):sgn (FM x l u)=SY (sgn x) l u:=QB x l u
def LJ(l:List Nat):Bool:=decide (1<=l.length)&&decide (l.length<=8)&&l.all UI
def CS(x:Str):Bool:=LJ<|sgn x
theorem dU(n d k:Nat):HT.CN n d (ι (k:Int))=min k n:=by
 show(if(k:Int)<0 then((k:Int)+(n:Int)).toNat else min (k:Int).toNat n)=min k n;rw[if_neg<|by lia,pc]
theorem OJ(l:List Nat)(k:Nat):SY l ν (ι (k:Int))=l.take k:=by
 unfold SY;have e:=dU l.length l.length k;rw[e];show(l.drop 0).take (min k l.length-0)=_;rw[M8,Q0,aaH];simp
theorem Xr(l:List Nat)(k:Nat):SY l (ι (k:Int)) ν=l.drop k:=by
 unfold SY;have e:=dU l.length 0 k;rw[e];show(l.drop<|min k l.length).take (l.length-min k l.length)=_;have:(l.drop<|min k l.length).length=l.length-min k l.length:=w4;rw[<-this,im];by_cases h:k<=l.length
 ·rw[L3 h]
 ·rw[Y9<|by lia,aao<|by lia,aao<|by lia]
variable{p:Nat->Bool}{l:List Nat}
theorem QE(h:l.all p=true)(k:Nat):(l.take k).all p=true:=by
 rw[r4]at h⊢;exact λx a=>h x<|List.mem_of_mem_take a
theorem Xs(h:l.all p=true)(k:Nat):(l.drop k).all p=true:=by
 rw[r4]at h⊢;exact λx a=>h x<|List.mem_of_mem_drop a
theorem Sd(h:c∈Xq):UI c=true:=decide_eq_true h
theorem Mz(h:LJ l=true):1<=l.length/\l.length<=8/\l.all UI=true:=by
 unfold LJ at h;simp only[kt,decide_eq_true_eq]at h;exact⟨h.1.1,h.1.2,h.2⟩
theorem LK(a:1<=l.length)(b:l.length<=8)(c:l.all UI=true):LJ l=true:=by
 unfold LJ;simp only[kt,decide_eq_true_eq];exact⟨⟨a,b⟩,c⟩
inductive Dc where
 |leaf (v:V)
 |row (a:Addr) (xs:List Dc)
 |tab (a:Addr) (ks:List Str) (xs:List Dc)
variable{d:Dc}
namespace Dc
noncomputable def val:Dc->V
 |leaf v=>v
 |row a _=>.ref a
 |tab a _ _=>.ref a
mutual
noncomputable def addrs:Dc->List Addr
 |leaf _=>[]
 |row a xs=>a::AJ xs
 |tab a _ xs=>a::AJ xs
noncomputable def AJ:List Dc->List Addr
 |[]=>[]
 |x::r=>addrs x++AJ r
end
mutual
noncomputable def size:Dc->Nat
 |leaf _=>1
 |row _ xs=>1+AI xs
 |tab _ _ xs=>1+AI xs
noncomputable def AI:List Dc->Nat
 |[]=>0
 |x::r=>size x+AI r
end
def Lf(v:V):Prop:=(∃i,v=.int i)∨∃x:Str,v=.str x/\x.length<=100
def kvs(ks:List Str)(xs:List Dc):List (Key×V):=(ks.zip<|xs.map val).map λp=>(d0 p.1,p.2)
mutual
def At(H:Hp):Dc->Prop
 |leaf v=>Lf v
 |row a xs=>Rd H a (.lst (xs.map val))/\EC H xs
 |tab a ks xs=>Rd H a (.dK (kvs ks xs))/\ks.length=xs.length/\ks.Nodup/\EC H xs
def EC(H:Hp):List Dc->Prop
 |[]=>True
 |x::r=>At H x/\EC H r
end
mutual
noncomputable def put(b:Addr)(i:Nat)(k:Str)(p:Dc):Dc->Dc
 |leaf v=>leaf v
 |row a xs=>if a=b then row a (xs.take i++p::xs.drop i)else row a (putL b i k p xs)
 |tab a ks xs=>if a=b then tab a (ks++[k]) (xs++[p])else tab a ks (putL b i k p xs)
noncomputable def putL(b:Addr)(i:Nat)(k:Str)(p:Dc):List Dc->List Dc
 |[]=>[]
 |x::r=>put b i k p x::putL b i k p r
end
theorem size_pos(d:Dc):1<=d.size:=by
 cases d<;>simp only[size]<;>lia
theorem AQ:∀xs ys:List Dc,AJ (xs++ys)=AJ xs++AJ ys
 |[],_=>rfl
 |x::r,ys=>by simp only[jp,AJ,AQ r ys,ii]
theorem Bd:∀xs ys:List Dc,AI (xs++ys)=AI xs+AI ys
 |[],ys=>by simp[AI]
 |x::r,ys=>by simp only[jp,AI,Bd r ys];lia
theorem Bj:∀xs ys:List Dc,EC H (xs++ys)↔EC H xs/\EC H ys
 |[],ys=>by simp[EC]
 |x::r,ys=>by simp only[jp,EC,Bj r ys,and_assoc]
theorem Cq:∀{xs:List Dc},EC H xs->∀x∈xs,At H x
 |[],_,x,a=>nomatch a
 |y::r,h,x,a=>by
  simp only[EC]at h;rcases ca.mp a with rfl|a
  ·exact h.1
  ·exact Cq h.2 x a
theorem BD:∀{xs:List Dc}{x:Dc},x∈xs->x.size<=AI xs
 |[],_,h=>nomatch h
 |y::r,x,h=>by
  simp only[AI];rcases ca.mp h with rfl|h
  ·lia
  ·have:=BD h;lia
theorem Hg:∀{xs:List Dc}{x:Dc}{a:Addr},x∈xs->a∈x.addrs->a∈AJ xs
 |[],_,_=>λh _=>nomatch h
 |y::r,x,a=>λh b=>by
  simp only[AJ];rcases ca.mp h with rfl|h
  ·exact e9 _ b
  ·exact gl _<|Hg h b
mutual
theorem Em:∀d:Dc,(∀a∈d.addrs,∀o,e a=ι o->H' a=ι o)->d.At e->d.At H'
 |leaf v=>λ_ h=>h
 |row a xs=>λf h=>by
  simp only[At]at h⊢;exact⟨h.1.up<|f a<|by simp[addrs],Bh xs (λc b=>f c<|by simp only[addrs];exact b9 _ b) h.2⟩
 |tab a ks xs=>λf h=>by
  simp only[At]at h⊢;exact⟨h.1.up<|f a<|by simp[addrs],h.2.1,h.2.2.1,Bh xs (λc b=>f c<|by simp only[addrs];exact b9 _ b) h.2.2.2⟩
theorem Bh:∀xs:List Dc,(∀a∈AJ xs,∀o,e a=ι o->H' a=ι o)->EC e xs->EC H' xs
 |[]=>λ_ h=>h
 |x::r=>λf h=>by
  simp only[EC]at h⊢;exact⟨Em x (λc b=>f c<|by simp only[AJ];exact e9 _ b) h.1,Bh r (λc b=>f c<|by simp only[AJ];exact gl _ b) h.2⟩
end
theorem KY{H':Hp}(s:AF H H')(h:d.At H):d.At H':=Em d (λa _ o e=>s a o e) h
theorem Xt(k:Str)(p:Dc)(h:ks.length=xs.length):kvs (ks++[k]) (xs++[p])=kvs ks xs++[(d0 k,p.val)]:=by
 unfold kvs;rw[io,acR<|by rw[ap];exact h,io];rfl
theorem IK(h:ks.length=xs.length):(kvs ks xs).map (·.1)=ks.map d0:=by
 unfold kvs;rw[o0];have:(λp:Str×V=>(d0 p.1:Key))=(d0:Str->Key)∘V2:=rfl;show V3 ((λp:Key×V=>p.1)∘λp:Str×V=>(d0 p.1,p.2)) (ks.zip<|xs.map val)=_;have e:((λp:Key×V=>p.1)∘λp:Str×V=>((d0 p.1:Key),p.2))=(d0:Str->Key)∘V2:=rfl;rw[e,<-o0,Z1<|by rw[ap];lia]
mutual
theorem M_:∀d:Dc,d.At g->b∈d.addrs->(∃vs,Rd g b (.lst vs)/\vs.length<d.size)∨∃ks:List Str,∃f,Rd g b (.dK f)/\f.map (·.1)=ks.map d0/\f.length<d.size
 |leaf v=>λ_ h=>by simp[addrs]at h
 |row a xs=>λh c=>by
  simp only[At]at h;simp only[addrs,ca]at c;simp only[size];rcases c with rfl|c
  ·refine .inl ⟨_,h.1,?_⟩;rw[ap];have:=CH xs;lia
  ·rcases Hh xs h.2 c with⟨vs,e,l⟩|⟨ks,f,e,z,l⟩
   ·exact .inl ⟨vs,e,by lia⟩
   ·exact .inr ⟨ks,f,e,z,by lia⟩
 |tab a ks xs=>λh c=>by
  simp only[At]at h;simp only[addrs,ca]at c;simp only[size];rcases c with rfl|c
  ·refine .inr ⟨ks,_,h.1,IK h.2.1,?_⟩;have e:(kvs ks xs).length=ks.length:=by
    have:=congrArg pp<|IK (ks:=ks) (xs:=xs) h.2.1;simpa using this
   rw[e,h.2.1];have:=CH xs;lia
  ·rcases Hh xs h.2.2.2 c with⟨vs,e,l⟩|⟨ks,f,e,z,l⟩
   ·exact .inl ⟨vs,e,by lia⟩
   ·exact .inr ⟨ks,f,e,z,by lia⟩
theorem Hh:∀xs:List Dc,EC f xs->b∈AJ xs->(∃vs,Rd f b (.lst vs)/\vs.length<AI xs)∨∃ks:List Str,∃a,Rd f b (.dK a)/\a.map (·.1)=ks.map d0/\a.length<AI xs
 |[]=>λ_ h=>by simp[AJ]at h
 |x::r=>λh c=>by
  simp only[EC]at h;simp only[AJ,db]at c;simp only[AI];rcases c with c|c
  ·rcases M_ x h.1 c with⟨vs,e,l⟩|⟨ks,a,e,z,l⟩
   ·exact .inl ⟨vs,e,by lia⟩
   ·exact .inr ⟨ks,a,e,z,by lia⟩
  ·rcases Hh r h.2 c with⟨vs,e,l⟩|⟨ks,a,e,z,l⟩
   ·exact .inl ⟨vs,e,by lia⟩
   ·exact .inr ⟨ks,a,e,z,by lia⟩
theorem CH:∀xs:List Dc,xs.length<=AI xs
 |[]=>bn _
 |x::r=>by
  have:=CH r;have:=size_pos x;simp only[AI,g6];lia
end
end Dc
variable{pins:List (Addr×Obj)}{P:om}{s:d8}{w:u8}
section
inductive Vi(K:ACy)(x y:V)(H:Hp)(Q:VK):Prop
 |mk(a b:Addr)(xs:List V)(c:x=.ref a)(d:y=.ref b)(e:Ag K H a xs)(f:Ag K H b [])(g:Q (.bl xs.isEmpty) H)
def Xu(K:ACy):V->V->Hp->VK->Prop:=λx y H Q=>Vi K x y H Q
theorem Se(c:X.A.units<cLine):Dr X (u5 .Eq) (Xu X.K):=by
 intro pins s w H x y v u Q I k l h;obtain⟨a,b,m,rfl,rfl,n,o,q⟩:=h;cases k;cases l;obtain⟨p,d,f,_⟩:=I.list n;obtain⟨g,r,i,_⟩:=I.list o;cases r;have l1:=d.length;cases m with
 |nil=>
  cases d;exact SeqAt.eq_listAt (e:=λ_=>true) f.isList i.isList rfl c (λj t _=>absurd t<|by simp) ⟨.bl true,H,I,rfl,q⟩
 |cons z B=>
  refine SeqAt.eq_list_lengthsAt f.isList i.isList ?_ c ⟨.bl false,H,I,rfl,q⟩;rw[cr,<-l1];simp
inductive Vj(K:ACy)(x y:V)(H:Hp)(Q:VK):Prop
 |mk(a b:Addr)(xs:List V)(c:x=.ref a)(d:y=.ref b)(e:Ag K H a xs)(f:Ag K H b [])(g:Q (.bl (!xs.isEmpty)) H)
def Xv(K:ACy):V->V->Hp->VK->Prop:=λx y H Q=>Vj K x y H Q
theorem Xw(c:X.A.units<cLine):Dr X (u5 .NotEq) (Xv X.K):=by
 intro pins s w H x y v u Q I k l h;obtain⟨a,b,m,rfl,rfl,n,o,q⟩:=h;cases k;cases l;obtain⟨p,d,f,_⟩:=I.list n;obtain⟨g,r,i,_⟩:=I.list o;cases r;have l1:=d.length;cases m with
 |nil=>
  cases d;exact SeqAt.RcNeAt.lists (e:=λ_=>true) f.isList i.isList rfl c (λj t _=>absurd t<|by simp) _ _ _ _ ⟨.bl false,H,I,rfl,q⟩
 |cons z B=>
  refine SeqAt.RcNeAt.lists_lengths f.isList i.isList ?_ c _ _ _ _ ⟨.bl true,H,I,rfl,q⟩;rw[cr,<-l1];simp
def QF(xs ys:List V):Bool:=((oo<|min xs.length ys.length).all λj=>MS (xs.getD j .BB)<|ys.getD j .BB)&&xs.length==ys.length
inductive Vk(K:ACy)(x y:V)(H:Hp)(Q:VK):Prop
 |mk(a b:Addr)(xs ys:List V)(c:x=.ref a)(d:y=.ref b)(e:BP K H a xs)(f:BP K H b ys)(g:(∀z∈xs,DS z=true))(h:(∀z∈ys,DS z=true))(i:Q (.bl (QF xs ys)) H)
def Xx(K:ACy):V->V->Hp->VK->Prop:=λx y H Q=>Vk K x y H Q
theorem gY(r:X.A.units<cLine):Dr X (u5 .Eq) (Xx X.K):=by
 intro pins s U H x y v u Q I t w h;obtain⟨a,b,d,f,rfl,rfl,z,B,C,D,q⟩:=h;cases t;cases w;obtain⟨k,l,E,_⟩:=I.tuple z;obtain⟨c,m,F,_⟩:=I.tuple B;have e1:k.toArray.size=d.length:=by rw[cr];exact l.length.symm
 have n:c.toArray.size=f.length:=by rw[cr];exact m.length.symm
 refine SeqAt.eq_tupleAt (e:=λj=>MS (d.getD j .BB)<|f.getD j .BB) E F r (λj G J=>?_) ?_
 ·have g:j<d.length:=by rw[<-e1];exact G
  have i:j<f.length:=by rw[<-n];exact J
  obtain⟨o,L,M⟩:=l.get<|ACu g;obtain⟨p,N,O⟩:=m.get<|ACu i;have P:k.toArray[j]=o:=by
   have:=(ACv L).2;simpa using this
  have R:c.toArray[j]=p:=by
   have:=(ACv N).2;simpa using this
  rw[P,R];have S:d.getD j .BB=d[j]:=by rw[ci,ACu g];rfl
  have T:f.getD j .BB=f[j]:=by rw[ci,ACu i];rfl
  show J9 _ _ o p (MS (d.getD j .BB)<|f.getD j .BB);rw[S,T];exact OC M O (C _<|B0 g)<|D _<|B0 i
 ·rw[e1,n];exact⟨.bl<|QF d f,H,I,rfl,q⟩
theorem Hl{σ:St}{x:V}{u:b7}{tp:Addr}{l:Option Addr}{its:List b7}{n:Nat}{sl:Array (Option b7)}{b:Bool}(I:Inv X pins σ H s)(d:RelV x u)(ty:PN H x T)(c:s.heap.get? tp=ι ⟨.type "tuple",l,.seq its.toArray n,sl⟩)(e:Wp X.K (.type T) its=ι b)(h:∀tk,Q (.bool b) {s with toks:=tk}):
  g5 (i7 X.prog X.w) A (call (.builtin "isinstance") [u,.ref tp]) Q E s:=by
 cases ty with
 |BB=>cases(show u=Ev from d);exact C3 ab9 I.FG wS c e (λz=>nomatch z) h
 |bl y=>cases(show u=G3 y from d);exact C3 aca I.FG wS c e (λz=>nomatch z) h
 |int i=>obtain⟨t,q⟩:=(show∃t,u=IN i t from d);cases q;exact C3 acr I.FG wS c e (λz=>nomatch z) h
 |str y=>obtain⟨t,q⟩:=(show∃t,u=Ix y t from d);cases q;exact C3 acq I.FG wS c e (λz=>nomatch z) h
 |@lst a j f=>
  cases(show u=jM a from d);obtain⟨_,_,n,_,g⟩:=(show Ay X.prog X.w H s.heap a (.lst j)from f.ok I.Ax);exact C3 Q5 I.FG ⟨_,g,rfl⟩ c e (λz=>nomatch z) h
 |@tup a j f=>
  cases(show u=jM a from d);obtain⟨_,_,_,p⟩:=(show Ay X.prog X.w H s.heap a (.tup j)from I.Ax a _ f);obtain⟨o,g,k,_⟩:=p;exact C3 O8 I.FG ⟨o,g,k⟩ c e (λz=>nomatch z) h
 |@dK a kvs f=>
  cases(show u=jM a from d);obtain⟨_,_,m,_,p⟩:=(show Ay X.prog X.w H s.heap a (.dK kvs)from f.ok I.Ax);obtain⟨o,r,v,g,k,_⟩:=p;exact C3 Q6 I.FG ⟨o,g,k.1⟩ c e (λz=>nomatch z) h
def dV(T:String):Bool:=T=="list"||T=="dict"
theorem gZ{v:V}(h:PN H v T):Wp K (.type T) [.type "list",.type "dict"]=ι (dV T):=by
 cases h<;>kernel_rfl
inductive MX(xs:List V)(H:Hp)(Q:VK):Prop
 |mk(x:V)(p:Addr)(T:String)(a:xs=[x,.ref p])(b:H p=ι (.tup [.ty "list",.ty "dict"]))(c:PN H x T)(d:Q (.bl (dV T)) H)
def OK:List V->Hp->VK->Prop:=λa H Q=>MX a H Q
theorem LL:Bo X (.builtin "isinstance") OK:=by
 intro pins s v H w y Q I r h;obtain⟨x,p,T,rfl,e,ty,q⟩:=h;obtain⟨u,z,rfl,f,a⟩:=vals2 r;cases a;obtain⟨g,i,j,_⟩:=I.tuple<|BP.of e;obtain⟨⟨k,A,data,B⟩,l,c,n,d⟩:=id j;simp only at c d;subst c d;cases i with
 |cons m b=>
  cases b with
  |cons o b=>
   cases b;cases m;cases o;exact Hl I f ty l (gZ ty) λt=>⟨.bl _,H,I.tok t,rfl,q⟩
theorem M'{vs:List (Key×b7)}{ss:List Str}(b:vs.map (·.1)=ss.map d0){ws:List b7}(hl:ws.length=vs.length)(f:∀(j:Nat) (v:b7),ws[j]?=ι v->∃k x,vs[j]?=ι (k,x)/\(Ah P w).is k v=true):E9 ws ss:=by
 induction ss generalizing vs ws with
 |nil=>
  have:vs=[]:=by cases vs with|nil=>rfl|cons a r=>simp at b
  subst this;have:ws=[]:=q8 hl;subst this;exact .nil
 |cons x r g=>
  cases vs with
  |nil=>simp at b
  |cons a vs=>
   simp only[ge,u3]at b;cases ws with
   |nil=>simp at hl
   |cons u ws=>
    obtain⟨k,y,e,c⟩:=f 0 u rfl;have e:a=(k,y):=by simpa using e
    subst e;have d:k=d0 x:=b.1;subst d;have c:Ko (d0 x) u=true:=c;rcases Bf c with⟨i,t,e1,_⟩|⟨z,t,e1,h⟩
    ·cases e1
    ·cases e1;subst h;exact .cons _ t<|g b.2 (by simpa using hl) λj v l=>f (j+1) v<|by simpa using l
theorem Gf(h:E9 us ys):Vals (ys.map V.str) us:=by
 induction h with
 |nil=>exact .nil
 |cons n t _ a=>exact .cons ⟨t,rfl⟩ a
inductive KC(xs:List V)(H:Hp)(Q:VK):Prop
 |mk(d:Addr)(b:List (Key×V))(ss:List Str)(c:xs=[.ref d])(e:Rd H d (.dK b))(f:b.map (·.1)=ss.map d0)(g:b.length<64)(h:∀(p:Addr) (a:List Str) (H':Hp),H p=ν->AF H H'->H' p=ι (.lst (a.map V.str))->a.Perm ss->A8 a=true->Q (.ref p) H')
def LM:List V->Hp->VK->Prop:=λa H Q=>KC a H Q
theorem OL(T:X.calm=true):Bo X (.builtin "sorted") LM:=by
 intro pins s σ H xs us Q I r h;obtain⟨d,U,F,rfl,hd,G,p,q⟩:=h;obtain⟨u,rfl,Y⟩:=vals1 r;cases Y;obtain⟨z,Z,k,l,dd⟩:=EO I.Ax hd;have t:X.A.in1.handled=none:=I.ok.hd T;have n:k.length=U.length:=l.length.symm;have x:k.map (·.1)=F.map d0:=by rw[<-G];exact(KV.keys l).symm
 obtain⟨ep,y⟩:=dd.dictAt;have J:k.length<=sizeLine:=by rw[n];exact z
 refine N7 acL abU abW (abY _) ?_;unfold adS.«sorted»;refine am (m:=adb "sorted" 1 1 _) (ce<|am<|PySem.W.kdu_collect (acs (knd:=Ah X.prog X.w) (kvs:=k) (ep:=ep) Z) t y J λc K a keep items=>?_);have B:a.toList.length=k.length:=by rw[j6];exact items.1
 have C:E9 a.toList F:=M' (P:=X.prog) (w:=X.w) x B λj v e=>items.2 j v (by rw[<-q4];exact e);refine am (abk ?_<|by rw[B];exact J);have f:(c.push {cls:=.type "list",data:=.seq a.toList.toArray}).get? c.objs.size=ι (seqObj "list" a.toList.toArray 0):=g8 _ rfl;refine am<|j8<|u4 aaT ⟨_,f,rfl⟩ aas (aar abn f C.keysOf (λL M rest e=>abV<|by rw[<-e];exact C) (by rw[B,n];exact p) λg a1 a2=>⟨_,rfl,?_⟩)<|aaY _;obtain⟨i,b1,N,b3⟩:=aaR C a1 a2;obtain⟨ee,he⟩:=abo (out:=(aaL g).map (·.2)) f;refine ce ⟨_,rfl,?_⟩;have D:(c.push {cls:=.type "list",data:=.seq a.toList.toArray}).objs.size=c.objs.size+1:=ac9 ..;have O:=I.kept (t':=K) keep;have k2:∀b o,c.get? b=ι o->(V4 (c.push {cls:=.type "list",data:=.seq a.toList.toArray}) c.objs.size a.toList ((aaL g).map (·.2))).get? b=ι o:=λb o e=>by
  have R:b<c.objs.size:=g7 e;rw[aaS (i4 R)<|by rw[D];exact G0 R];exact be _ e
 have E:i.length<=sizeLine:=by
  rw[N.length_eq];have:=congrArg pp G;rw[ap,ap]at this;rw[<-this];exact z
 have new:Ay X.prog X.w (upd H c.objs.size<|.lst<|i.map V.str) (V4 (c.push {cls:=.type "list",data:=.seq a.toList.toArray}) c.objs.size a.toList ((aaL g).map (·.2))) c.objs.size (.lst<|i.map V.str):=
  ⟨by rw[ap];exact E,((aaL g).map (·.2)).toList,ee,Gf b1,by rw[B7];exact he⟩
 have S:H c.objs.size=none:=O.fresh;exact⟨.ref c.objs.size,_,O.laid (t':=K) k2 (bn _) new,rfl,q _ i _ S (AF.new S) AA N b3⟩
end
structure Txt(mg:Str->Option b7):Prop where
 isinstance:mg "isinstance"=ν
 int:mg "int"=ν
 bool:mg "bool"=ν
 str:mg "str"=ν
 list:mg "list"=ν
 dict:mg "dict"=ν
 tuple:mg "tuple"=ν
 len:mg "len"=ν
 range:mg "range"=ν
 max:mg "max"=ν
 min:mg "min"=ν
 sorted:mg "sorted"=ν
 all:mg "all"=ν
 any:mg "any"=ν
 reversed:mg "reversed"=ν
 ValueError:mg "ValueError"=ν
 sum:mg "sum"=ν
theorem Cg:rc "isinstance"=ι (.builtin "isinstance"):=by decide+kernel
theorem dW:rc "int"=ι (.type "int"):=by decide+kernel
theorem Xy:rc "bool"=ι (.type "bool"):=by decide+kernel
theorem NA:rc "str"=ι (.type "str"):=by decide+kernel
theorem BU:rc "list"=ι (.type "list"):=by decide+kernel
theorem CZ:rc "dict"=ι (.type "dict"):=by decide+kernel
theorem OM:rc "tuple"=ι (.type "tuple"):=by decide+kernel
theorem IL:rc "sorted"=ι (.builtin "sorted"):=by decide+kernel
theorem UJ:rc "all"=ι (.builtin "all"):=by decide+kernel
theorem UK:rc "sum"=ι (.builtin "sum"):=by decide+kernel
theorem BN{c:Bool}{A B:Prop}(a:c=false)(h:B):if c=true then A else B:=by
 rw[a];exact Ar h
theorem Ck{c:Bool}{A B:Prop}(a:c=true)(h:A):if c=true then A else B:=by
 rw[a];exact CP h
theorem IM{xs:List c}(b:0<=i)(d:i<(xs.length:Int)):∃v,OA xs i=ι v/\v∈xs:=by
 obtain⟨n,rfl⟩:=J4 b;have a:n<xs.length:=by lia
 exact⟨xs[n],Am<|ACu a,B0 a⟩
inductive yK(P:om)(w:u8)(K:ACy)(mg:Str->Option b7)(base:Heap)(x:Str)(ps:List Str)(n:Nat)(sp:Sp):Prop
 |mk(f:Addr)(a:j4)(k:n8 K (.ref f)=true)(b:Binds K a ps [])(m:mg x=ι (.ref f))(G:Ab P w K mg base Bs n f a ps sp)
structure Df(P:om)(w:u8)(K:ACy)(mg:Str->Option b7)(base:Heap)(x:Str)(ps:List Str)(n:Nat)(sp:Sp):Prop where
 ex:yK P w K mg base x ps n sp
theorem Df.mk'{P:om}{w:u8}{K:ACy}{mg:Str->Option b7}{base:Heap}{x q:Str}{st:Stmt}{ps:List Str}{n:Nat}{sp:Sp}{f:Addr}{a:j4}(F:Px K x q st f a)(b:Binds K a ps [])(m:mg x=ι (.ref f))(G:Ab P w K mg base Bs n f a ps sp):Df P w K mg base x ps n sp:=⟨⟨f,a,F.kp,b,m,G⟩⟩
theorem HJ(r:Int)(h:0<n):0<=r % n/\r % n<n:=⟨F8 _<|by lia,E7 _ h⟩
def MY(x:Str):Bool:=decide (x.length<=12)&&(sgn x).all UI
def kq(v:V):Prop:=(∃i:Int,v=.int i/\i.natAbs<2 ^ 400)∨∃x:Str,v=.str x/\MY x=true
theorem Xz(h:MY x=true):x.length<=12:=by
 unfold MY at h;simp only[kt,decide_eq_true_eq]at h;exact h.1
theorem Vl(h:CS x=true):1<=x.length/\x.length<=8:=by
 have:=Mz h;rw[EB]at this;exact⟨this.1,this.2.1⟩
variable{ks:List Str}{xs:List Dc}
namespace Dc
mutual
def ok:Dc->Prop
 |leaf v=>kq v
 |row _ xs=>JC xs
 |tab _ ks xs=>(∀k∈ks,CS k=true)/\JC xs
def JC:List Dc->Prop
 |[]=>True
 |x::r=>ok x/\JC r
end
theorem ON:∀{xs:List Dc},JC xs↔∀x∈xs,ok x
 |[]=>by simp[JC]
 |x::r=>by simp only[JC,List.forall_mem_cons,ON (xs:=r)]
mutual
def named(N:List Str):Dc->Prop
 |leaf _=>True
 |row _ xs=>Sf N xs
 |tab _ ks xs=>(∀k∈ks,k∈N)/\Sf N xs
def Sf(N:List Str):List Dc->Prop
 |[]=>True
 |x::r=>named N x/\Sf N r
end
noncomputable def dX:Dc->String
 |leaf (.int _)=>"int"
 |leaf _=>"str"
 |row _ _=>"list"
 |tab _ _ _=>"dict"
theorem NB(h:d.At H):PN H d.val d.dX:=by
 cases d with
 |leaf v=>
  rcases(show Lf v from h)with⟨i,rfl⟩|⟨x,rfl,_⟩
  ·exact .int i
  ·exact .str x
 |row a b=>simp only[At]at h;exact .lst h.1
 |tab a c b=>simp only[At]at h;exact .dK h.1
noncomputable def sub:Dc->List V->Option Dc
 |d,[]=>ι d
 |row _ xs,.int i::r=>if 0<=i then(xs[i.toNat]?).bind λx=>sub x r else ν
 |tab _ ks xs,.str k::r=>((ks.zip xs).lookup k).bind λx=>sub x r
 |_,_=>ν
def Dq(v:V):Prop:=(∃k:Nat,v=.int (k:Int))∨∃x:Str,v=.str x/\CS x=true
theorem Dq.flat(h:Dq v):DS v=true:=by
 rcases h with⟨k,rfl⟩|⟨x,rfl,_⟩<;>rfl
theorem Ca{k:Str}{x:Dc}(h:(ks.zip xs).lookup k=ι x):k∈ks/\x∈xs:=by
 induction ks generalizing xs with
 |nil=>simp at h
 |cons y r a=>
  cases xs with
  |nil=>simp at h
  |cons z b=>
   simp only[tz,j7]at h;by_cases e:k=y
   ·subst e;simp at h;subst h;exact⟨dL,dL⟩
   ·have:(k==y)=false:=by simpa using e
    rw[this]at h;have:=a h;exact⟨b9 _ this.1,b9 _ this.2⟩
theorem IP(h:ks.length=xs.length)(k:Str):BF (kvs ks xs) (d0 k)=((ks.zip xs).lookup k).map val:=by
 induction ks generalizing xs with
 |nil=>simp[kvs,Xa]
 |cons y r c=>
  cases xs with
  |nil=>simp at h
  |cons z b=>
   have e:kvs (y::r) (z::b)=(d0 y,z.val)::kvs r b:=rfl;rw[e];by_cases a:k=y
   ·subst a;rw[Bl rfl];simp
   ·rw[Bg (by intro z;exact a (A5 z).symm),c<|by simpa using h];have:(k==y)=false:=by simpa using a
    simp[tz,j7,this]
theorem HK(h:ks.length=xs.length){k:Str}(a:k∈ks):∃x,(ks.zip xs).lookup k=ι x/\x∈xs:=by
 induction ks generalizing xs with
 |nil=>cases a
 |cons y r b=>
  cases xs with
  |nil=>simp at h
  |cons z c=>
   by_cases e:k=y
   ·subst e;exact⟨z,by simp,dL⟩
   ·obtain⟨x,d,f⟩:=b (xs:=c) (by simpa using h)<|(ca.mp a).resolve_left e;refine⟨x,?_,b9 _ f⟩;have:(k==y)=false:=by simpa using e
    simp[tz,j7,this,d]
end Dc
abbrev MZ:Str:="abcdefghijklmnopqrstuvwxyz"
theorem ES:MZ.length=26:=by decide+kernel
theorem OO:Xq.length=26:=by decide+kernel
theorem Sg(i:Int)(b:0<=i)(d:i<26):∃c,OA (sgn MZ) i=ι c/\UI c=true:=by
 obtain⟨n,rfl⟩:=J4 b;have a:n<Xq.length:=by rw[OO];lia
 exact⟨Xq[n],Am<|ACu a,Sd<|B0 a⟩
theorem IQ(r:Int):0<=r % 26/\r % 26<26:=⟨F8 _<|by decide,E7 _<|by decide⟩
def QG(v:V):Prop:=∃c,v=.str ⟨#[c]⟩/\UI c=true
inductive bE(K:ACy)(vs:List V)(H:Hp)(Q:VK)(b:XK):Prop
 |mk(a:Addr)(ns:List Int)(k:Nat)(c:vs=[.ref a,.int (k:Int)])(d:Ag K H a (ns.map V.int))(e:∀r:Int,0<=r->Q (.int r) H)
def X_(K:ACy):Sp:=λb H Q a=>bE K b H Q a
inductive gb(vs:List V)(H:Hp)(Q:VK)(a:XK):Prop
 |mk(c:Int)(k:Nat)(b:vs=[.int c,.int (k:Int)])(d:k<=1000)(e:∀r:Int,0<=r->r<2305843009213693951->Q (.int r) H)
def Jk:Sp:=λb H Q a=>gb b H Q a
noncomputable def X':Nat->Int->Int
 |0,n=>n
 |k+1,n=>X' k n/1000000
def QH(c:Int)(k:Nat):Int:=(((c+3)*1181783497276652981 % 2305843009213693951+((k:Int)+1)*614889782588491411) % 2305843009213693951)*(((c+3)*1181783497276652981 % 2305843009213693951+((k:Int)+1)*614889782588491411) % 2305843009213693951) % 999999999999999989
def Vm(c:Int)(k:Nat):Int:=if c % 4=0/\4*10 ^ 60<=c then X' k (c/4) % 1000000 else(QH c k+1)*(QH c k/1000003+7) % 2305843009213693951/7919
theorem YA(c:Int)(k:Nat):0<=Vm c k/\Vm c k<2305843009213693951:=by
 unfold Vm;split
 ·have a:=F8 (X' k<|c/4) (show(1000000:Int)≠0 by decide);have b:=E7 (X' k<|c/4) (show(0:Int)<1000000 by decide);lia
 ·have a:=F8 ((QH c k+1)*(QH c k/1000003+7)) (show(2305843009213693951:Int)≠0 by decide);have b:=E7 ((QH c k+1)*(QH c k/1000003+7)) (show(0:Int)<2305843009213693951 by decide);lia
inductive bH(vs:List V)(H:Hp)(Q:VK)(a:XK):Prop
 |mk(c:Int)(k:Nat)(b:vs=[.int c,.int (k:Int)])(d:k<=1000)(e:Q (.int (Vm c k)) H)
def YB:Sp:=λb H Q a=>bH b H Q a
theorem YC(h:Jk vs H b f):YB vs H b f:=by
 obtain⟨c,k,e,a,q⟩:=h;exact⟨c,k,e,a,q _ (YA c k).1 (YA c k).2⟩
theorem QI{ys:List Str}(P:Nat->Str->Prop)(h:∀(j:Nat) y,ys[j]?=ι y->P j y)(inj:∀(i j:Nat) y,i<j->j<ys.length->P i y->P j y->False):ys.Nodup:=by
 refine List.pairwise_iff_getElem.mpr λi j d b a e=>?_;have f:=h i _<|ACu d;have c:=h j _<|ACu b;rw[<-e]at c;exact inj i j _ a b f c
theorem Au(h:n<=1000):n<=sizeLine:=t8<|Ac h
theorem An:[x,y].length<=sizeLine:=Au<|show 2<=1000 by decide
theorem Aw:[x].length<=sizeLine:=Au<|show 1<=1000 by decide
theorem Vn(us:List V)(a:V):HY (us++[a]) ν (ι (-1))=us:=by
 have e1:HT.CN (us++[a]).length (us++[a]).length (ι<|-1)=us.length:=by
  simp only[HT.CN,b8,i5];rw[if_pos<|by decide];lia
 unfold HY;rw[e1,HT.XR,M8,Q0];exact List.take_left
theorem Eo{mg:Str->Option b7}{base:Heap}{f:Addr}{b:j4}{ps:List Str}{sp:Sp}(a:∀vs H Q E,¬sp vs H Q E):Ab P w K mg base Bs 0 f b ps sp:=
 ⟨λvs H Q E h=>absurd h (a vs H Q E),λA outer s H args c vs Q E _ _ _ _ h=>absurd h (a vs H Q E)⟩
theorem Sh(R:Hp->Prop)(k:∀H',R H'->u D σ H')(h:(∀H',R H'->u D σ H')->t {D with nx:=u D} σ H):Kq t u D σ H:=h k
theorem Dc.there{b:Addr}(h:d.At H)(a:b∈d.addrs):H b≠none:=by
 have f:∀u,Rd H b u->H b≠none:=λu r z=>by
  rcases r with r|⟨o,r⟩<;>rw[r]at z<;>cases z
 rcases Dc.M_ d h a with⟨c,e,_⟩|⟨g,i,e,_⟩
 ·exact f _ e
 ·exact f _ e
theorem Rd.exact(r:Rd H b u)(a:∀o u,H b≠ι (.BK o u)):H b=ι u:=r.elim id λ⟨o,e⟩=>absurd e<|a o u
theorem Ho{H':Hp}{a:Addr}(h:H a≠ν)(b:∀o u,H a≠ι (.BK o u))(s:∀o,H a=ι o->H' a=ι o):∀o u,H' a≠ι (.BK o u):=λo u e=>by
 cases q:H a with
 |none=>exact h q
 |some x=>
  rw[s x q]at e;cases e;exact b o u q
namespace Dc
mutual
def slim:Dc->Prop
 |leaf _=>True
 |row _ xs=>LN xs
 |tab _ _ xs=>xs.length<64/\LN xs
def LN:List Dc->Prop
 |[]=>True
 |x::r=>slim x/\LN r
end
theorem Ep:∀{xs:List Dc},LN xs->∀x∈xs,slim x
 |[],_,x,a=>nomatch a
 |y::r,h,x,a=>by
  simp only[LN]at h;rcases ca.mp a with rfl|a
  ·exact h.1
  ·exact Ep h.2 x a
end Dc
section
variable {σ:St} {a:Addr} {kvs:List (Key×V)}
theorem Inv.freeze(I:Inv X pins σ H s)(e:H a=ι (.dK kvs)):∃o,s.heap.get? a=ι o/\Inv X pins σ (upd H a (.BK o (.dK kvs))) s:=by
 have ok:=(show Ay X.prog X.w H s.heap a (.dK kvs)from I.Ax a _ e);obtain⟨z,g,h,i,o,j,k,f,r⟩:=id ok;refine⟨o,f,?_⟩;have c:∀b u,H b=ι u->u≠.dK kvs->b≠a:=λb u q n w=>by
  subst w;rw[e]at q;exact n (ACw q).symm
 have un:Un X.fs [] H (upd H a<|.BK o<|.dK kvs) s.heap s.heap:=
  ⟨λb d q _ _ _=>q,λb d q _ _ _=>⟨d.slots,q⟩,λb d q n _=>by rw[AH (λw=>by subst w;rw[e]at n;cases n)];exact n,λb d q _=>⟨d,q⟩,
   λb l q=>by rw[AH (c b _ q (by intro z;cases z))];exact q,λb d u q=>by rw[AH (c b _ q (by intro z;cases z))];exact q,λb m q=>⟨#[],by rw[AH (c b _ q (by intro z;cases z)),q];simp⟩⟩
 have Ax:Ee X.prog X.w (upd H a<|.BK o<|.dK kvs) s.heap:=I.Ax.write (by rw[e];trivial) (.inl rfl) (λb u _ q=>q) ⟨o,f⟩ ⟨f,ok⟩;exact I.un (h':=s.heap) (t':=s.toks) un Ax
theorem Inv.YD(I:Inv X pins σ H s)(e:H a=ι (.BK o (.dK kvs)))(nf:∀o u,X.H₀ a≠ι (.BK o u)):Inv X pins σ (upd H a (.dK kvs)) s:=by
 have ok:=(show Ay X.prog X.w H s.heap a (.BK o<|.dK kvs)from I.Ax a _ e);have d:∀b u,H b=ι u->u≠.BK o (.dK kvs)->b≠a:=λb u q n w=>by
  subst w;rw[e]at q;exact n (ACw q).symm
 have f:∀b,H b=ν->b≠a:=λb n w=>by subst w;rw[e]at n;cases n
 have B:=I.base;refine⟨I.ok,I.os,I.bare,⟨B.keep,B.slot,λb g q n i=>by rw[AH (f b (B.free b g q n i))];exact B.free b g q n i,B.there,λb h q=>by rw[AH (d b _ (B.HS b h q) (by intro z;cases z))];exact B.HS b h q,
  λb g u q=>by rw[AH (λw=>nf g u (by rw[<-w];exact q))];exact B.Ef b g u q,λb m q=>?_⟩,I.loc,I.cell,by rw[AH (f _ I.free)];exact I.free,λx c q=>by rw[AH (f _ (I.Dn x c q))];exact I.Dn x c q,
  λp t=>let⟨y,j,A⟩:=I.pin p t;⟨y,by rw[AH (f _ j)];exact j,A⟩,λb u q=>?_,I.len⟩
 ·obtain⟨more,k⟩:=B.HU b m q;exact⟨more,by rw[AH<|d b _ k<|by intro z;cases z];exact k⟩
 ·by_cases l:b=a
  ·subst l;rw[AA]at q;cases q;exact ok.2
  ·rw[AH l]at q;exact(I.Ax b u q).MN (λc v _ r=>r) (λc r=>by rw[AH<|d c _ r<|by intro z;cases z];exact r) λc h r=>by rw[AH<|d c _ r<|by intro z;cases z];exact r
theorem Inv.nf(I:Inv X pins σ H s)(e:H a=ι (.dK kvs)):∀o u,X.H₀ a≠ι (.BK o u):=λo u q=>by
 have:=I.base.Ef a o u q;rw[e]at this;cases this
end
def OP(a:Addr)(o:Obj)(kvs:List (Key×V))(k:Hp->Prop):Hp->Prop:=λH=>H a=ι (.BK o<|.dK kvs)/\k (upd H a<|.dK kvs)
inductive gg(t:TE)(σ:St)(H:Hp)(Q:VK):Prop
 |mk(a kvs:_)(b:H a=ι (.dK kvs))(c:∀o,t σ (upd H a (.BK o (.dK kvs))) λv=>OP a o kvs (Q v))
def ku(t:TE):TE:=λa H Q=>gg t a H Q
inductive gh(t:TS)(D:Ends)(σ:St)(H:Hp):Prop
 |mk(a kvs:_)(b:H a=ι (.dK kvs))(c:∀o,t ⟨fun σ=>OP a o kvs (D.nx σ),λv=>OP a o kvs (D.rt v),fun σ=>OP a o kvs (D.bk σ),fun σ=>OP a o kvs (D.ct σ)⟩ σ (upd H a (.BK o (.dK kvs))))
def kv(t:TS):TS:=λD a H=>gh t D a H
section
theorem gj(h:PE X e t):PE X e (ku t):=by
 rintro pins s c H Q I ⟨a,kvs,b,d⟩;obtain⟨o,k,f⟩:=I.freeze b;exact BQ (h pins s c _ _ f<|d o) λu l ⟨v,m,g,i,e1,j⟩=>⟨v,_,g.YD e1<|I.nf b,i,j⟩
theorem gk{st:Stmt}{t:TS}(h:PS X st t):PS X st (kv t):=by
 rintro pins s j H D I ⟨a,kvs,e,k⟩;obtain⟨o,n,l⟩:=I.freeze e;refine BQ (h pins s j _ _ l<|k o) λf p g=>?_;cases f with
 |next=>obtain⟨b,i,c,e1,d⟩:=g;exact⟨b,_,c.YD e1 (I.nf e),d⟩
 |brk=>obtain⟨b,i,c,e1,d⟩:=g;exact⟨b,_,c.YD e1 (I.nf e),d⟩
 |cont=>obtain⟨b,i,c,e1,d⟩:=g;exact⟨b,_,c.YD e1 (I.nf e),d⟩
 |ret u=>obtain⟨v,b,i,c,m,e1,d⟩:=g;exact⟨v,b,_,c.YD e1 (I.nf e),m,d⟩
theorem ED(h:PE X e t)(h':PE X e u):PE X e (fun σ H Q=>t σ H Q∨u σ H Q):=by
 rintro pins s σ H Q I (q|q)
 ·exact h pins s σ H Q I q
 ·exact h' pins s σ H Q I q
theorem YE(h:PS X e t)(h':PS X e u):PS X e (λD σ H=>t D σ H∨u D σ H):=by
 rintro pins s σ H D I (q|q)
 ·exact h pins s σ H D I q
 ·exact h' pins s σ H D I q
end
def jO(a:Addr)(o:Obj)(kvs:List (Key×V)):It:=
 ⟨λi H=>H a=ι (.BK o (.dK kvs))/\i<kvs.length,λi H x b=>b=H/\∃k v,kvs[i]?=ι (k,v)/\x=kV k,λi H=>H a=ι (.BK o (.dK kvs))/\i=kvs.length⟩
def kx(c:TE):TI:=λd H R=>c d H λx b=>∃a o kvs,x=.ref a/\b a=ι (.BK o<|.dK kvs)/\R (jO a o kvs) b
theorem bK(h:(Ah P w).is k u=true):RelV (kV k) u:=by
 rcases Bf (k:=k) (v:=u) h with⟨i,t,rfl,rfl⟩|⟨x,t,rfl,rfl⟩
 ·exact⟨t,rfl⟩
 ·exact⟨t,rfl⟩
theorem Vo{tg:u7}(bL:a≠it)(rel:KV kvs vs)(hD:∀h:Heap,h.get? a=ι o->h.DictAt (Ah P w) a vs ep):
  Turn P w K tg (jO a o kvs) [it] it (λi h=>h.IsKeyIter it a i vs.length ep)where
 mem:=by simp
 obj:=λi h st b hb=>by
  have e:b=it:=by simpa using hb
  subst e;obtain⟨ob,h1,_,h3⟩:=st;exact⟨ob,h1,λv z=>by rw[h3]at z;cases z⟩
 keep:=λi h h' st k=>st.at λob e=>k it (by simp) ob e
 item:=λX hp hw _ hc i pins s σ H E I hf st go=>by
  subst hp hw;have f:=hf it (by simp);obtain⟨ga,gi⟩:=go;have qW:=hD s.heap (show Ay X.prog X.w H s.heap a (.BK o<|.dK kvs)from I.Ax a _ ga).1;refine(Walks.dictKeys (knd:=Ah X.prog X.w) (I.ok.hd hc) it a bL vs ep).item i s _ E (by rw[<-rel.length];exact gi) ⟨st,qW⟩ λv h' tk hP Pd kept=>?_;obtain⟨k,x,yL,hk⟩:=hP;obtain⟨ob,h1,h2,h3⟩:=Pd.1;have yM:∃y,kvs[i]?=ι (k,y):=by
   have e:=congrArg (λl=>l[i]?)<|KV.keys rel;simp only[bv,yL,ACu gi]at e;have e:kvs[i].1=k:=by simpa using e
   exact⟨kvs[i].2,by rw[ACu gi,<-e]⟩
  obtain⟨y,hy⟩:=yM;refine⟨v,rfl,Mq (o:=ob) h1 h2 h3 (by decide) ⟨kV k,H,I.turned (λb yN hb e=>kept b yN (by simp[hb]) e) f.1 f.2.1 f.2.2.2.1 f.2.2.2.2.1 f.2.2.2.2.2,bK hk,⟨rfl,k,y,hy,rfl⟩,Pd.1,λb hb=>?_⟩⟩;have e:b=it:=by simpa using hb
  subst e;exact f.1
 done:=λX hp hw _ hc i pins s σ H E I hf st stop=>by
  subst hp hw;have f:=hf it (by simp);obtain⟨ga,gi⟩:=stop;have gi:i=vs.length:=by rw[gi];exact rel.length
  subst gi;have qW:=hD s.heap (show Ay X.prog X.w H s.heap a (.BK o<|.dK kvs)from I.Ax a _ ga).1;refine(Walks.dictKeys (knd:=Ah X.prog X.w) (I.ok.hd hc) it a bL vs ep).done s _ E ⟨st,qW⟩ λh' tk kept=>?_;exact⟨rfl,I.turned (λb ob hb e=>kept b ob (by simp[hb]) e) f.1 f.2.1 f.2.2.2.1 f.2.2.2.2.1 f.2.2.2.2.2⟩
 self:=λA i s Q E st hQ=>wpAny_pyIter_keyiter st hQ
section
variable {tg:u7}
theorem Ci(hl:PE X L n):PI X tg L (kx n):=by
 intro pins s p H R I h;refine BQ (hl pins s p H _ I h) λv c r=>r.elim λx k g t u=>?_;obtain⟨a,o,kvs,rfl,y,q⟩:=u;cases t;have ok:=(show Ay X.prog X.w k c.heap a (.BK o (.dK kvs))from g.Ax a _ y);obtain⟨m,z,A,F,i,B⟩:=ok;obtain⟨G,d⟩:=B.dictAt;obtain⟨J,C,f,D⟩:=id d;rw[m]at f;cases f;have j:a<c.heap.objs.size:=g7 m;refine wpAny_pyIter_dict A d ⟨c.heap.objs.size,[c.heap.objs.size],_,jO a o kvs,k,rfl,g.kept (t':=c.toks) λb K e=>be _ e,
  Vo (i4 j) i (λh e=>⟨o,C,e,D⟩),⟨_,g8 _ rfl,rfl,rfl⟩,λb E=>?_,q⟩
 have e:b=c.heap.objs.size:=by simpa using E
 subst e;exact g.Rt (bn _) g.fresh
end
theorem EE{g:TG}{d:TS}{D:Ends}(Pv:Nat->St->Hp->Prop)(f:Pv 0 σ H)(hl:∀i σ H,i<=kvs.length->Pv i σ H->H a=ι (.BK o (.dK kvs)))(h:∀i k v σ H e,Go D (Pv (i+1)) e->kvs[i]?=ι (k,v)->Pv i σ H->g (kV k) σ H (d e))(j:∀σ H,Pv kvs.length σ H->D.nx σ H):
  VR (jO a o kvs) g d D σ H:=by
 refine⟨λi m σ H=>m=kvs.length-i/\i<=kvs.length/\Pv i σ H,⟨kvs.length,by simp,d9 _,f⟩,?_⟩;rintro i m σ H ⟨rfl,l,p⟩;have q:=hl i σ H l p;by_cases b:i<kvs.length
 ·refine .inr ⟨⟨q,b⟩,Pv<|i+1,λn r s=>⟨kvs.length-(i+1),by lia,rfl,b,s⟩,λx r y=>?_⟩;obtain⟨e,k,v,c,rfl⟩:=y;subst e;exact h i k v σ _ _ ⟨id,id⟩ c p
 ·have e:i=kvs.length:=by lia
  subst e;exact .inl ⟨⟨q,rfl⟩,j σ H p⟩
def GB(H H':Hp):Prop:=∀b u,Rd H b u->Rd H' b u
theorem AF.r(s:AF H H'):GB H H':=λb u r=>r.up λo=>s b o
theorem GB.trans(s:GB H a)(t:GB a H2):GB H H2:=λb u r=>t b u<|s b u r
theorem GB.BK{H:Hp}{a:Addr}{o:Obj}{kvs:List (Key×V)}(e:H a=ι (.dK kvs)):GB H (upd H a (.BK o (.dK kvs))):=λb u r=>by
 by_cases c:b=a
 ·subst c;rcases r with r|⟨d,r⟩
  ·rw[e]at r;cases r;exact .inr ⟨o,AA⟩
  ·rw[e]at r;cases r
 ·exact r.up λd q=>by rw[AH c];exact q
end L2
namespace PySem
open PyProof.Rows PySem.F PySem.Spec
theorem LO:Sc (.type "list") "keys"=pure none:=by rw[O6,Fa];kernel_rfl
variable{prog:om}{A:AT}
theorem LP{w:u8}{E:b7->d8->Prop}{s:d8}{a:Addr}{o:Obj}{xs:Array b7}{k:Nat}{Q:Option b7->d8->Prop}(j:s.heap.get? a=ι o)(l:o.cls=.type "list")(b:o.data=.seq xs k)(m:o.dict=ν)(p:A.handled=ν)(h:∀h' tk e,adI s.heap h' e "AttributeError"->Q ν {s with heap:=h',toks:=tk}):
  g5 (i7 prog w) A (ac5 (.ref a) "keys") Q E s:=by
 obtain⟨c,BV,q,r⟩:=o;simp only at l b m;subst l b m;obtain⟨t,g,d,tk,os⟩:=s;have n:∀f,(⟨t,g,d,f,os⟩:d8).TypeIs (.ref a) "list":=λ_=>⟨_,j,rfl⟩;have u:=abw;have v:=O5.lookup;have x:=O5.bind<|.ref a;have y:=am_list_getattr_none;unfold ac5 getAttrBy? getAttrBy
 repeat (any_goals (first|assumption|exact n _|((with_reducible show g5 _ _ (call (adC "list.__getattribute__") _ _) _ _ _);refine J8 O5 (n _) am_entry_list_getattribute (F.args_list_getattribute_2 _ _) (meets_getattribute_miss_list a xs k r "keys" _ LO (by decide+kernel) (by decide+kernel)) ⟨j,p,λh' f e i=>?_⟩)|wp_step))
 obtain⟨z,B,C⟩:=i.there;show g5 _ _ (O7 _ _ _ _ _ _ _) _ _ _;unfold O7
 repeat (any_goals (first|assumption|wp_step))
 exact h _ _ _ i.of
theorem Cr:aaN adX "dict.update.loop"=ι Builtin.«dict.update.loop»:=acp<|by kernel_rfl
theorem BS:plainId "dict.update.loop"=true:=by decide+kernel
section
variable {w:u8} {K:Type} [DecidableEq K] {knd:KeyKind prog w K} {R:abt->d8->Prop}
theorem Vp(hh:A.handled=ν)(F:l≠I)(h:d≠I)(G:d≠l)(hlen:items.size=more.length)(hsz:more.length<=100000):
  ∀(k i:Nat)(s:d8),more.length-i=k->i<=more.length->s.heap.IsListIter I l i->s.heap.IsList l items->s.heap.DictOf knd d (Tk [] (more.take i))-> (∀(j:Nat) x c,more[j]?=ι (x,c)->∃t a,items[j]?=ι (.ref t)/\t≠d/\t≠I/\abN s.heap t #[a,c]/\knd.is x a=true)-> (∀h' tk,h'.DictOf knd d (Tk [] more)->(∀b o,b≠d->b≠I->s.heap.get? b=ι o->h'.get? b=ι o)->R (.ok (.ret .none)) {s with heap:=h',toks:=tk})->
   E8 (i7 prog w) A (.builtin "dict.update.loop" ⟨[.ref d,.ref I,sn (i:Int),.none],[]⟩) R s:=by
 have W:=Walks.list (prog:=prog) (w:=w) (A:=A.in1) hh I l F items;intro k
 induction k with
 |zero=>
  intro i s hk hi m H D J L;have M:i=more.length:=by lia
  subst M;refine uy Cr ?_;rw[p9 BS _];show g5 _ A.in1 (On (.ref I)>>=_) _ _ s;refine am (W.done s _ _ (by rw[hlen];exact⟨m,H⟩) λh' tk kept=>?_);rw[im]at D;obtain⟨o,N,O,P,r⟩:=D;show g5 _ A.in1 (Y2 d []>>=_) _ _ _;exact am (ce<|ce<|L h' tk ⟨o,N,O,kept _ _ (by simp[h]) P,r⟩ λb o _ hb e=>kept b o (by simp[hb]) e)
 |succ k ih=>
  intro i s hk hi m H D J L;have n:i<more.length:=by lia
  obtain⟨⟨x,c⟩,hm⟩:∃p,more[i]?=ι p:=⟨_,ACu n⟩;obtain⟨t,a,ht,td,tI,tup,f⟩:=J i x c hm;refine uy Cr ?_;rw[p9 BS _];show g5 _ A.in1 (On (.ref I)>>=_) _ _ s;refine am (W.item i s _ _ (by rw[hlen];exact n) ⟨m,H⟩ λv h' tk hv y kept=>?_);rw[ht]at hv;cases hv;obtain⟨ot,Q,q,nt,z⟩:=tup;have g:h'.get? t=ι ot:=kept _ _ (by simp[tI]) Q;have hT:({s with heap:=h',toks:=tk}:d8).TypeIs (.ref t) "tuple":=⟨_,g,q⟩;obtain⟨ct,dt,dat,slt⟩:=ot;simp only at q z;subst q z;obtain⟨o,N,O,P,r⟩:=id D;have S:h'.DictOf knd d (Tk []<|more.take i):=⟨o,N,O,kept _ _ (by simp[h]) P,r⟩;have T:(Tk []<|more.take i).length<=sizeLine:=by
   have:=acn ([]:List (K×b7))<|more.take i;rw[re,F7]at this;have e:sizeLine=16777216:=M7;lia
  show g5 _ A.in1 (P7 [jM t] _>>=_) _ _ _;refine am<|j8<|am<|adi ?_;unfold aap;refine am<|C8 hT ?_;rw[if_pos<|by decide];unfold aa9;refine am ?_;refine am<|abu g ?_;refine ce<|ce ?_;show g5 _ A.in1 (P7 [a,c]<|adR d a c) _ _ _;refine j8 ?_;unfold adR
  try with_reducible refine j8 ?_
  refine am<|knd.pyHash f ?_;refine W6 (hsz:=T) f S λh2 B u=>?_;have e1:adN (Tk []<|more.take i) x c=Tk [] (more.take<|i+1):=(acm [] more i (x,c) hm).symm;rw[e1]at B;have kp:∀b o,b≠d->b≠I->s.heap.get? b=ι o->h2.get? b=ι o:=λb o E U e=>by
   rw[u.2 b E];exact kept b o (by simp[U]) e
  have ic:((i:Int)+1)=((i+1:Nat):Int):=by simp
  refine ce ⟨x6 BS _,?_⟩;rw[ic];refine ih (i+1) _ (by lia) n (y.1.at λo e=>by rw[u.2 I<|k8 h];exact e) (y.2.at λo e=>by rw[u.2 l<|k8 G];exact e) B (λj k2 v2 hj=>?_) (λU V X Y=>L U V X λb o E h4 e=>Y b o E h4<|kp b o E h4 e);obtain⟨t2,C,a1,a2,a3,⟨Z,b1,b2⟩,a5⟩:=J j k2 v2 hj;exact⟨t2,C,a1,a2,a3,⟨Z,kp _ _ a2 a3 b1,b2⟩,a5⟩
end
end PySem
namespace L2
open PySem PySem.Spec PyProof.Rows
variable{X:Cx}
section
inductive bM(K:ACy)(xs:List V)(H:Hp)(Q:VK):Prop
 |mk(l:Addr)(ts:List Addr)(kvs:List (Key×V))(a:xs=[.ref l])(b:Ag K H l (ts.map V.ref))(c:ts.length=kvs.length)(d:(∀(j:Nat) k v,kvs[j]?=ι (k,v)->∃t,ts[j]?=ι t/\H t=ι (.tup [kV k,v])))(e:kvs.length<=1000)(f:Rp H (.dK (CW [] kvs)) Q)
def gp(K:ACy):List V->Hp->VK->Prop:=λa H Q=>bM K a H Q
theorem KD(hc:X.calm=true):Bo X (.type "dict") (gp X.K):=by
 intro pins s σ H xs us Q I r h;obtain⟨l,f,kvs,rfl,hl,hlen,hp,hz,q⟩:=h;obtain⟨u,rfl,ru⟩:=vals1 r;cases ru;obtain⟨n,rv,pl,_⟩:=I.list hl;obtain⟨W,nl,L,x,Y,C⟩:=id pl;have M:X.A.in1.handled=none:=I.ok.hd hc;refine adq (Q₁:=λN B=>N=.ref s.heap.objs.size/\B={s with heap:=s.heap.push {cls:=.type "dict",data:=.dict #[]}}) acE (aa5 _) acd (aco _ ⟨rfl,rfl⟩) ?_;rintro N B ⟨rfl,rfl⟩;have g:(s.heap.push {cls:=.type "dict",data:=.dict #[]}).DictOf (Ah X.prog X.w) s.heap.objs.size []:=Heap.DictOf.new s.heap;refine⟨g.typeIs,abL _ _,?_⟩;unfold Builtin.«dict.__init__»;refine am ?_;unfold Y1;refine am<|R5 g.typeIs ?_;show g5 _ _ (pure (s.heap.objs.size,[jM l])) _ _ _;refine ce ?_;show g5 _ _ (J5 "dict.__init__" s.heap.objs.size (.ref l) [] .none) _ _ _;unfold J5;have c:(s.heap.push {cls:=.type "dict",data:=.dict #[]}).get? l=ι W:=be _ L;have Z:({s with heap:=s.heap.push {cls:=.type "dict",data:=.dict #[]}}:d8).TypeIs (.ref l) "list":=⟨_,c,x⟩;refine am<|C8 Z ?_;rw[if_pos<|by decide];refine am (LP c x C Y M λD qX e1 ne1=>?_);rw[if_pos<|show(adG (ν:Option b7))=true from rfl];have i:∀b o,(s.heap.push {cls:=.type "dict",data:=.dict #[]}).get? b=ι o->D.get? b=ι o:=ne1.keeps;have O:∀b o,s.heap.get? b=ι o->D.get? b=ι o:=λb o e=>i b o<|be _ e;have yO:D.IsList l n.toArray:=⟨W,i _ _ c,x,nl,C⟩;refine am<|R9 ?_;refine am<|M3 yO ?_;refine ce ⟨x6 BS _,?_⟩;obtain⟨od,es,ep,P,rd⟩:=id g;have y:s.heap.objs.size<D.objs.size:=g7<|i _ _ P;have R:l<s.heap.objs.size:=g7 L;have yP:∀kvs:List (Key×V),(∀p∈kvs,∃(t:Addr),H t=ι (.tup [kV p.1,p.2]))->True:=λ_ _=>trivial;have E:∀(t:Addr) k v,H t=ι (.tup [kV k,v])->∃a d,abN s.heap t #[a,d]/\(Ah X.prog X.w).is k a=true/\RelV v d:=λt k v e=>by
  obtain⟨z,r2,tp,_⟩:=I.tuple<|BP.of e;cases r2 with
  |cons ra rr=>
   cases rr with
   |cons rb rr=>
    cases rr;exact⟨_,_,tp,HI ra,rb⟩
 obtain⟨more,G⟩:∃more:List (Key×b7),KV kvs more/\∀(j:Nat) m d,more[j]?=ι (m,d)->∃t a,f[j]?=ι t/\abN s.heap t #[a,d]/\(Ah X.prog X.w).is m a=true:=by
  have gen:∀(kvs:List (Key×V))(f:List Addr),(∀(j:Nat) k v,kvs[j]?=ι (k,v)->∃t,f[j]?=ι t/\H t=ι (.tup [kV k,v]))->
    ∃more:List (Key×b7),KV kvs more/\∀(j:Nat) m d,more[j]?=ι (m,d)->∃t a,f[j]?=ι t/\abN s.heap t #[a,d]/\(Ah X.prog X.w).is m a=true:=by
   intro kvs
   induction kvs with
   |nil=>exact λf _=>⟨[],.nil,λj m d e=>by simp at e⟩
   |cons p r ih=>
    intro f h;obtain⟨k,v⟩:=p;obtain⟨t,e1,e2⟩:=h 0 k v rfl;obtain⟨a,d,a1,a2,a3⟩:=E t k v e2;obtain⟨more,b1,b2⟩:=ih f.tail (λj k v e=>by
     obtain⟨t,c1,c2⟩:=h (j+1) k v (by simpa using e);exact⟨t,by rw[abI];exact c1,c2⟩)
    refine⟨(k,d)::more,.cons ⟨rfl,a3⟩ b1,λj m S e=>?_⟩;cases j with
    |zero=>
     have e:(k,d)=(m,S):=by simpa using e
     cases e;exact⟨t,a,e1,a1,a2⟩
    |succ j=>
     obtain⟨t,a,c1,c2,c3⟩:=b2 j m S (by simpa using e);exact⟨t,a,by rw[abI]at c1;exact c1,c2,c3⟩
  exact gen kvs f hp
 obtain⟨J,hm⟩:=G;have T:n.length=f.length:=by rw[<-rv.length,ap]
 have U:∀(j:Nat) t,f[j]?=ι t->n.toArray[j]?=ι (.ref t):=λj t e=>by
  obtain⟨u,D,h2⟩:=rv.get (show(f.map V.ref)[j]?=ι (.ref t)by rw[bv,e];rfl);cases h2;simpa using D
 show E8 _ _ (.builtin "dict.update.loop" ⟨[.ref s.heap.objs.size,.ref D.objs.size,sn ((0:Nat):Int),.none],[]⟩) _ _;refine Vp (knd:=Ah X.prog X.w) (l:=l) (items:=n.toArray) (more:=more) M (i4<|U3 R y) (i4 y) (N1 R) (by rw[cr,T,hlen];exact J.length) (by rw[<-J.length];lia) more.length 0 _ (by simp) (d9 _)
  ⟨_,g8 _ rfl,rfl,rfl⟩ ⟨W,be _ (i _ _ c),x,nl,C⟩ ⟨od,es,ep,be _ (i _ _ P),rd⟩ (λj m d e=>?_) (λh2 qY hd2 qZ=>⟨rfl,?_⟩)
 ·obtain⟨t,a,c1,⟨ot,c2,yQ⟩,c3⟩:=hm j m d e;have:t<s.heap.objs.size:=g7 c2;exact⟨t,a,U j t c1,i4 this,i4<|U3 this y,⟨ot,be _<|O _ _ c2,yQ⟩,c3⟩
 ·have qa:(CW [] kvs).length<=sizeLine:=by
   have:=DY kvs [];exact Au<|by simp at this;lia
  refine⟨.ref s.heap.objs.size,_,I.laid (t':=qY) (λb o e=>?_) (bn _)<|JL qa (beq_eq_false_iff_ne.mpr<|k8<|i4 I.big) (KV.merge J .nil) hd2,rfl,q _ I.fresh⟩;have:=g7 e;exact qZ b o (i4 this) (i4<|U3 this y)<|be _<|O _ _ e
end
theorem YF(h:DS x=true):MS x x=true:=by
 cases x<;>simp_all [DS,MS]
theorem Vq(h:∀z∈xs,DS z=true):QF xs xs=true:=by
 unfold QF;rw[Nat.min_self,kt];refine⟨r4.mpr λj a=>?_,beq_self_eq_true _⟩;have a:=E3.mp a;rw[ci,ACu a];exact YF<|h _<|B0 a
section
theorem YG{p pos:Pos}(k:Gl X "range")(l:X.mg "range"=ν)(m:PA X [a] n)(u:jL [a] X.env=[(false,wP a X.env)]:=by rfl):
  PE X (.Call (.Name "range" p) [a] [] pos) (λd H Q=>n d H λf c=>∃j:Int,f=[.int j]/\∀r,c r=ν->Q (.ref r) (upd c r (.eu 0 j))):=by
 intro pins s d H Q I h;refine Call_<|Fs I k l adc<|wE (BQ (m pos pins s d H _ I h) λz g v=>v.elim λf c i w x=>?_) u rfl;obtain⟨j,e,q⟩:=x;subst e;cases w with
 |cons r y=>
  cases y;obtain⟨t,rfl⟩:=r;exact call_range_1 ⟨.ref g.heap.objs.size,upd c g.heap.objs.size<|.eu 0 j,i.laid (λb o e=>be _ e) (bn _) ⟨_,_,_,g8 _ rfl⟩,rfl,q _ i.fresh⟩
inductive JN(xs:List V)(H:Hp)(Q:VK):Prop
 |mk(r:Addr)(n:Nat)(a:xs=[.ref r])(b:H r=ι (.eu 0 (n:Int)))(c:n<=1000)(d:Rp H (.lst ((oo n).map λ(i:Nat)=>V.int (i:Int))) Q)
def KG:List V->Hp->VK->Prop:=λa H Q=>JN a H Q
theorem Ma(m:X.calm=true):Bo X (.type "list") KG:=by
 intro pins s J H K L Q I r h;obtain⟨g,n,rfl,o,p,q⟩:=h;obtain⟨u,rfl,x⟩:=vals1 r;cases x;obtain⟨t,u,v,e⟩:=(show Ay X.prog X.w H s.heap g (.eu 0 (n:Int))from I.Ax g _ o);have f:X.A.handled=none:=I.ok.hd m;refine call_list_range (n:=n) f e (small_one (by lia) (by lia) (by lia)<|by lia) (by rw[ady];split<;>lia) (by lia) λy B b C D E j=>?_;have F:((oo n).map λ(i:Nat)=>V.int (i:Int)).length<=sizeLine:=by rw[ap,M4];exact Au p
 refine⟨.ref s.heap.objs.size,_,I.laid (t':=B) D (bn _)<|show Ay X.prog X.w _ y _ (.lst _)from⟨F,b.toList,C,?_,by rw[B7];exact E⟩,rfl,q _ I.fresh⟩;have gen:∀(n:Nat)(l:List b7),l.length=n->(∀(i:Nat) v,l[i]?=ι v->∃t,v=IN (0+(i:Int)*1) t)->Vals ((oo n).map λ(i:Nat)=>V.int (i:Int)) l:=by
  intro n
  induction n with
  |zero=>intro l c _;rw[q8 c];exact .nil
  |succ n G=>
   intro l c k;have a:l≠[]:=λz=>by rw[z]at c;cases c
   have e1:l=l.dropLast++[l.getLast a]:=(T5 a).symm;rw[aaw,io,e1];refine(G l.dropLast (by rw[aa4,c];rfl) λi v d=>?_).append<|.cons ?_ .nil
   ·refine k i v ?_;rw[e1,g9<|(DR d)];exact d
   ·have:l[n]?=ι (l.getLast a):=by
     rw[List.getLast_eq_getElem];have:l.length-1=n:=by lia
     rw[ACu<|by lia];congr 1;simp[this]
    obtain⟨t,e⟩:=k n _ this;exact⟨t,by rw[e];congr 1;lia⟩
 exact gen n b.toList (by rw[j6];exact j.1) λi v d=>j.2 i v<|by rw[<-q4];exact d
inductive IS(xs:List V)(H:Hp)(Q:VK):Prop
 |mk(a kvs:_)(b:xs=[.ref a])(c:Rd H a (.dK kvs))(d:Rp H (.dK kvs) Q)
def JO:List V->Hp->VK->Prop:=λa H Q=>IS a H Q
theorem LQ:Bo X (.type "dict") JO:=by
 intro pins s f H g i Q I r h;obtain⟨a,kvs,rfl,b,q⟩:=h;obtain⟨u,rfl,c⟩:=vals1 r;cases c;exact Xi I b λp j d e=>⟨.ref p,_,e,rfl,q p d⟩
inductive OQ(xs:List V)(H:Hp)(Q:VK):Prop
 |mk(a kvs:_)(b:xs=[V.ref a])(c:Rd H a (.dK kvs))(d:Q (.int kvs.length) H)
def QJ:List V->Hp->VK->Prop:=λa H Q=>OQ a H Q
theorem NC:Bo X (.builtin "len") QJ:=by
 intro pins s e H f g Q I r h;obtain⟨a,kvs,rfl,b,q⟩:=h;obtain⟨u,rfl,c⟩:=vals1 r;cases c;exact kY I b λt i d=>⟨.int kvs.length,H,d,⟨t,rfl⟩,q⟩
end
theorem Si:∀a b:List Nat,M6 a b=false->M6 b a=false->a=b
 |[],[]=>λ_ _=>rfl
 |[],y::t=>λh _=>by simp[M6]at h
 |x::r,[]=>λ_ h=>by simp[M6]at h
 |x::r,y::t=>λc d=>by
  simp only[M6,Bool.or_eq_false_iff,decide_eq_false_iff_not,Bool.and_eq_false_iff]at c d;have e:x=y:=by lia
  subst e;simp at c d;rw[Si r t c d]
theorem dY:∀a b c:List Nat,M6 a b=true->M6 b c=true->M6 a c=true
 |[],[],c=>λh _=>by simp[M6]at h
 |[],y::t,[]=>λ_ h=>by simp[M6]at h
 |[],y::t,z::u=>λ_ _=>by simp[M6]
 |x::r,[],c=>λh _=>by simp[M6]at h
 |x::r,y::t,[]=>λ_ h=>by simp[M6]at h
 |x::r,y::t,z::u=>λd e=>by
  simp only[M6,aaA,decide_eq_true_eq,kt,beq_iff_eq]at d e⊢;rcases d with d|⟨d,f⟩<;>rcases e with e|⟨e,g⟩
  ·left;lia
  ·left;lia
  ·left;lia
  ·right;exact⟨by lia,dY r t u f g⟩
theorem ky(a b c:List Nat)(g:M6 b a=false)(d:M6 c b=false):M6 c a=false:=by
 cases e:M6 c a with
 |false=>rfl
 |true=>
  cases f:M6 a b with
  |true=>rw[dY c a b e f]at d;cases d
  |false=>rw[Si a b f g]at e;rw[e]at d;cases d
theorem ND:∀(p:Str)(l:List Str),risingS p l=true->(∀x∈l,M6 x.cps.toList p.cps.toList=false)/\l.Pairwise λa b=>M6 b.cps.toList a.cps.toList=false
 |_,[],_=>⟨λx c=>(nomatch c),.nil⟩
 |p,y::r,h=>by
  simp only[risingS,kt,acf]at h;obtain⟨d,e⟩:=ND y r h.2;refine⟨λx c=>?_,.cons d e⟩;rcases ca.mp c with rfl|c
  ·exact h.1
  ·exact ky _ _ _ h.1<|d x c
theorem LR(h:A8 l=true):l.Pairwise λa b=>M6 b.cps.toList a.cps.toList=false:=by
 cases l with
 |nil=>exact .nil
 |cons x r=>obtain⟨c,d⟩:=ND x r h;exact .cons c d
theorem UL{x y:Str}(h:x.cps.toList=y.cps.toList):x=y:=by
 cases x;cases y;simp only at h;congr 1;exact acH.mp h
theorem LS:∀{a b:List Str},(a.Pairwise λa b=>M6 b.cps.toList a.cps.toList=false)->(b.Pairwise λa b=>M6 b.cps.toList a.cps.toList=false)->a.Perm b->a=b
 |[],b=>λ_ _ p=>(List.nil_perm.mp p).symm
 |x::r,[]=>λ_ _ p=>by have:=p.length_eq;simp at this
 |x::r,y::t=>λf g p=>by
  obtain⟨a1,a2⟩:=abG.mp f;obtain⟨h,i⟩:=abG.mp g;have e:x=y:=by
   have c:x∈y::t:=p.mem_iff.mp dL;have d:y∈x::r:=p.mem_iff.mpr dL;rcases ca.mp c with c|c
   ·exact c
   ·rcases ca.mp d with d|d
    ·exact d.symm
    ·exact UL<|Si _ _ (h x c)<|a1 y d
  subst e;rw[LS a2 i<|aek p]
theorem GC(c:A8 a=true)(d:A8 b=true)(p:a.Perm b):a=b:=LS (LR c) (LR d) p
namespace Dc
mutual
noncomputable def deep:Dc->Nat
 |leaf _=>1
 |row _ xs=>1+AR xs
 |tab _ _ xs=>1+AR xs
noncomputable def AR:List Dc->Nat
 |[]=>0
 |x::r=>max (deep x) (AR r)
end
theorem AU:∀{xs:List Dc}{x:Dc},x∈xs->x.deep<=AR xs
 |[],_,h=>nomatch h
 |y::r,x,h=>by
  simp only[AR];rcases ca.mp h with rfl|h
  ·lia
  ·have:=AU h;lia
mutual
noncomputable def parts:Dc->List Dc
 |leaf v=>[leaf v]
 |row a xs=>row a xs::Sj xs
 |tab a ks xs=>tab a ks xs::Sj xs
noncomputable def Sj:List Dc->List Dc
 |[]=>[]
 |x::r=>parts x++Sj r
end
structure Cb(e d:Dc):Prop where
 at_:∀{H:Hp},d.At H->e.At H
 ok:d.ok->e.ok
 slim:d.slim->e.slim
 deep:e.deep<=d.deep
 size:e.size<=d.size
 addrs:∀a∈e.addrs,a∈d.addrs
theorem Cb.refl(d:Dc):Cb d d:=⟨id,id,id,bn _,bn _,λ_ h=>h⟩
theorem Cb.trans(p:Cb e d)(q:Cb d c):Cb e c:=⟨λh=>p.at_<|q.at_ h,λh=>p.ok<|q.ok h,λh=>p.slim<|q.slim h,j5 p.deep q.deep,j5 p.size q.size,λa h=>q.addrs a<|p.addrs a h⟩
theorem Cb.row{x:Dc}{a:Addr}{xs:List Dc}(h:x∈xs):Cb x (row a xs):=
 ⟨λq=>by simp only[At]at q;exact Cq q.2 x h,λq=>by simp only[Dc.ok]at q;exact ON.mp q x h,λq=>by simp only[Dc.slim]at q;exact Ep q x h,
  by simp only[Dc.deep];have:=AU h;lia,by simp only[Dc.size];have:=BD h;lia,λc b=>by simp only[Dc.addrs];exact b9 _ (Hg h b)⟩
theorem Cb.tab{x:Dc}{a:Addr}{ks:List Str}{xs:List Dc}(h:x∈xs):Cb x (tab a ks xs):=
 ⟨λq=>by simp only[At]at q;exact Cq q.2.2.2 x h,λq=>by simp only[Dc.ok]at q;exact ON.mp q.2 x h,λq=>by simp only[Dc.slim]at q;exact Ep q.2 x h,
  by simp only[Dc.deep];have:=AU h;lia,by simp only[Dc.size];have:=BD h;lia,λc b=>by simp only[Dc.addrs];exact b9 _ (Hg h b)⟩
mutual
def C':Dc->Dc->Prop
 |leaf v,leaf w=>v=w
 |row _ xs,row _ ys=>Cm xs ys
 |tab _ ks xs,tab _ ls ys=>ks=ls/\Cm xs ys
 |_,_=>False
def Cm:List Dc->List Dc->Prop
 |[],[]=>True
 |x::r,y::t=>C' x y/\Cm r t
 |_,_=>False
end
theorem NF:∀{xs ys:List Dc},Cm xs ys->∀(i:Nat) x,xs[i]?=ι x->∃y,ys[i]?=ι y/\C' x y
 |[],_,_,i,x,e=>by simp at e
 |x::r,[],h,_,_,_=>by simp[Cm]at h
 |x::r,y::t,h,0,z,e=>by simp only[Cm]at h;simp at e;subst e;exact⟨y,rfl,h.1⟩
 |x::r,y::t,h,i+1,z,e=>by simp only[Cm]at h;simp at e;obtain⟨w,a,b⟩:=NF h.2 i z e;exact⟨w,by simpa using a,b⟩
mutual
theorem JP:∀d e:Dc,C' d e->d.size=e.size
 |leaf v,e,h=>by cases e<;>simp_all [C',size]
 |row a xs,e,h=>by
  cases e with
  |row b ys=>simp only[C']at h;simp only[size,Hq xs ys h]
  |_=>simp[C']at h
 |tab a ks xs,e,h=>by
  cases e with
  |tab b ls ys=>simp only[C']at h;simp only[size,Hq xs ys h.2]
  |_=>simp[C']at h
theorem Hq:∀xs ys:List Dc,Cm xs ys->AI xs=AI ys
 |[],[],_=>rfl
 |[],_::_,h=>by simp[Cm]at h
 |_::_,[],h=>by simp[Cm]at h
 |x::r,y::t,h=>by simp only[Cm]at h;simp only[AI,JP x y h.1,Hq r t h.2]
end
noncomputable def kids:Dc->List Dc
 |leaf _=>[]
 |row _ xs=>xs
 |tab _ _ xs=>xs
theorem Sk(p:xs.Perm ys):AI xs=AI ys:=by
 induction p with
 |nil=>rfl
 |cons x _ a=>simp only[AI,a]
 |swap x y l=>simp only[AI];lia
 |trans _ _ b c=>exact b.trans c
def bN:Dc->List V->Prop
 |leaf _,l=>l=[]
 |row _ xs,l=>l=(oo xs.length).map λ(i:Nat)=>V.int (i:Int)
 |tab _ ks _,l=>∃ss:List Str,l=ss.map V.str/\ss.Perm ks/\A8 ss=true
end Dc
structure ET(H H':Hp)(d:Dc):Prop where
 same:AF H H'
 at_:d.At H'
 nd:d.addrs.Nodup
 own:∀a∈d.addrs,∀o u,H' a≠ι (.BK o u)
 new:∀a∈d.addrs,H a=ν
theorem ET.up(D:ET H c d)(s:AF c H2):ET H H2 d:=⟨D.same.trans s,Dc.KY s D.at_,D.nd,λa b=>Ho (Dc.there D.at_ b) (D.own a b)<|s a,D.new⟩
theorem IT{c:TT}{g:TS}{D:Ends}(W:Nat->St->Hp->Prop)(h:Nat)(j:W h σ H)(k:∀m σ H e,Go D (λa H'=>∃d,d<m/\W d a H') e->W m σ H->c σ H λb f=>if b=true then g e σ f else D.nx σ f)(mono:∀σ H Q i,(∀b f,Q b f->i b f)->c σ H Q->c σ H i):XF c g D σ H:=by
 refine⟨W,⟨h,j⟩,λm σ H p=>?_⟩;refine mono σ H _ _ (λb f q=>?_)<|k m σ H {D with nx:=λa H'=>∃d,d<m/\W d a H',ct:=λa H'=>∃d,d<m/\W d a H',bk:=D.nx} ⟨id,id⟩ p;cases b with
 |true=>exact⟨_,λa H' z=>z,q⟩
 |false=>exact q
inductive YH(vs:List V)(H:Hp)(Q:VK)(a:XK):Prop
 |mk(d:Dc)(b:vs=[d.val])(c:d.At H)(e:d.slim)(f:d.size<=900)(g:∀(p:Addr) (l:List V) (H':Hp),AF H H'->H p=ν->H' p=ι (.lst l)->d.bN l->Q (.ref p) H')
def OR:Sp:=λb H Q a=>YH b H Q a
def back(a:Addr)(H H':Hp):Hp:=λb=>if b=a then H a else H' b
theorem CA(h:b≠a):back a H H' b=H' b:=if_neg h
theorem IU:back a H H' a=H a:=if_pos rfl
theorem QK(e:H a=ι u):back a H H'=upd H' a u:=by
 funext b;unfold back upd;split
 ·exact e
 ·rfl
theorem Er(e:H a=H' a):back a H H'=H':=by
 funext b;unfold back;split
 ·rename_i h;rw[h,e]
 ·rfl
structure PQ(a:Addr)(o:Obj)(kvs:List (Key×V))(H Hf:Hp):Prop where
 at_:Hf a=ι (.BK o (.dK kvs))
 rd:GB H Hf
 ne:∀b,b≠a->Hf b=H b
 qb:Rd H a (.dK kvs)
theorem PQ.free(F:PQ a o kvs H d)(h:d b=ν):H b=ν/\b≠a:=by
 have c:b≠a:=λz=>by rw[z,F.at_]at h;cases h
 rw[F.ne b c]at h;exact⟨h,c⟩
theorem PQ.back(F:PQ a o kvs H d)(s:AF d f):AF H (back a H f):=λb u e=>by
 by_cases c:b=a
 ·subst c;rw[IU];exact e
 ·rw[CA c];exact s b u<|by rw[F.ne b c];exact e
inductive bO(t:TE)(σ:St)(H:Hp)(Q:VK):Prop
 |mk(a kvs:_)(c:Rd H a (.dK kvs))(d:∀o b,PQ a o kvs H b->t σ b λv H'=>H' a=ι (.BK o (.dK kvs))/\Q v (back a H H'))
def gq(t:TE):TE:=λa H Q=>bO t a H Q
inductive bP(t:TS)(D:Ends)(σ:St)(H:Hp):Prop
 |mk(a kvs:_)(c:Rd H a (.dK kvs))(d:∀o b,PQ a o kvs H b->t ⟨fun σ H'=>H' a=ι (.BK o (.dK kvs))/\D.nx σ (back a H H'),λv H'=>H' a=ι (.BK o (.dK kvs))/\D.rt v (back a H H'),fun σ H'=>H' a=ι (.BK o (.dK kvs))/\D.bk σ (back a H H'),fun σ H'=>H' a=ι (.BK o (.dK kvs))/\D.ct σ (back a H H')⟩ σ b)
def gr(t:TS):TS:=λD a H=>bP t D a H
theorem PQ.of(e:H a=ι (.dK kvs)):PQ a o kvs H (upd H a (.BK o (.dK kvs))):=⟨AA,GB.BK e,λb c=>AH c,.inl e⟩
theorem PQ.same(e:H a=ι (.BK o (.dK kvs))):PQ a o kvs H H:=⟨e,λ_ _ r=>r,λ_ _=>rfl,.inr ⟨o,e⟩⟩
variable{t:TS}
section
theorem IV(h:PE X e l):PE X e (gq l):=by
 rintro pins s c H Q I ⟨a,kvs,r,d⟩;rcases r with r|⟨o,r⟩
 ·refine gj h pins s c H Q I ⟨a,kvs,r,λo=>?_⟩;have:=d o _<|PQ.of r;have e:(λv b=>b a=ι (.BK o<|.dK kvs)/\Q v (back a H b))=λv=>OP a o kvs (Q v):=by
   funext v b;unfold OP;rw[QK r]
  rw[e]at this;exact this
 ·refine BQ (h pins s c H _ I<|d o H<|PQ.same r) λu k ⟨v,g,i,j,e1,f⟩=>⟨v,g,i,j,?_⟩;rw[Er<|r.trans e1.symm]at f;exact f
theorem EU{st:Stmt}(h:PS X st t):PS X st (gr t):=by
 rintro pins s l H D I ⟨a,kvs,r,m⟩;rcases r with r|⟨o,r⟩
 ·refine gk h pins s l H D I ⟨a,kvs,r,λo=>?_⟩;have:=m o _<|PQ.of r;have e:∀k:Hp->Prop,(λi=>i a=ι (.BK o<|.dK kvs)/\k (back a H i))=OP a o kvs k:=λk=>by
   funext i;unfold OP;rw[QK r]
  simp only[<-e];exact this
 ·refine BQ (h pins s l H _ I<|m o H<|PQ.same r) λf p g=>?_;cases f with
  |next=>obtain⟨b,j,d,e1,c⟩:=g;rw[Er (r.trans e1.symm)]at c;exact⟨b,_,d,c⟩
  |brk=>obtain⟨b,j,d,e1,c⟩:=g;rw[Er (r.trans e1.symm)]at c;exact⟨b,_,d,c⟩
  |cont=>obtain⟨b,j,d,e1,c⟩:=g;rw[Er (r.trans e1.symm)]at c;exact⟨b,_,d,c⟩
  |ret u=>obtain⟨v,b,j,d,n,e1,c⟩:=g;rw[Er (r.trans e1.symm)]at c;exact⟨v,b,_,d,n,c⟩
end
variable{σ:St}
theorem IW{J:It}{o:TE}{fs:List Nat}{Q:VK}(n:Nat)(item:Nat->V)(P:Addr->Nat->Hp->Prop)(r:∀D,H D=ν->P D 0 (upd H D (.lst [])))(h:∀D i H2,i<n->P D i H2->J.go i H2)(s:∀D i H2 v H',i<n->P D i H2->J.aJ i H2 v H'->v=item i/\H'=H2)(j:∀D H2,P D n H2->J.stop n H2)(t:∀D i H2,H D=ν->i<n->P D i H2->o (ι (item i)::CY σ fs) H2 λy d=>∃ys,d D=ι (.lst ys)/\ys.length<sizeLine/\P D (i+1) (upd d D (.lst (ys++[y]))))(u:∀D H2,H D=ν->P D n H2->Q (.ref D) H2):DG J JM o fs σ H Q:=by
 intro D k;refine⟨λi m H2=>m=n-i/\i<=n/\P D i H2,⟨n,rfl,d9 _,r D k⟩,?_⟩;rintro i m H2 ⟨rfl,w,p⟩;by_cases f:i<n
 ·refine .inr ⟨h D i H2 f p,λv q y=>?_⟩;obtain⟨rfl,rfl⟩:=s D i H2 v q f p y;unfold JM;dsimp only;rw[if_pos rfl];have g:=t D i q k f p;have e:(λ(y:V)(d:Hp)=>∃ys,d D=ι (.lst ys)/\ys.length<sizeLine/\∃l,l<n-i/\l=n-(i+1)/\i+1<=n/\P D (i+1) (upd d D<|.lst<|ys++[y]))=λy d=>∃ys,d D=ι (.lst ys)/\ys.length<sizeLine/\P D (i+1) (upd d D<|.lst<|ys++[y]):=by
   funext y d;refine propext ⟨λ⟨ys,a,b,l,_,_,_,c⟩=>⟨ys,a,b,c⟩,λ⟨ys,a,b,c⟩=>⟨ys,a,b,n-(i+1),by lia,rfl,f,c⟩⟩
  rw[<-e]at g;exact g
 ·have e:i=n:=by lia
  subst e;exact .inl ⟨j D H2 p,u D H2 k p⟩
structure Ct(H H':Hp)(es:List Dc):Prop where
 same:AF H H'
 at_:Dc.EC H' es
 nd:(Dc.AJ es).Nodup
 own:∀a∈Dc.AJ es,∀o u,H' a≠ι (.BK o u)
 new:∀a∈Dc.AJ es,H a=ν
theorem Ct.nil(s:AF H H'):Ct H H' []:=⟨s,trivial,.nil,λa h=>(nomatch h),λa h=>(nomatch h)⟩
theorem Dc.JQ(h:Dc.EC H es)(a:b∈Dc.AJ es):H b≠none:=by
 induction es with
 |nil=>cases a
 |cons x r c=>
  simp only[Dc.EC]at h;simp only[Dc.AJ,db]at a;rcases a with a|a
  ·exact Dc.there h.1 a
  ·exact c h.2 a
theorem Ct.frame(F:Ct H c es)(s:AF H H2)(f:∀a∈Dc.AJ es,∀o,c a=ι o->H2 a=ι o):Ct H H2 es:=
 ⟨s,Dc.Bh es f F.at_,F.nd,λa b=>Ho (Dc.JQ F.at_ b) (F.own a b) (f a b),F.new⟩
theorem Ct.up(F:Ct H b es)(s:AF b H2):Ct H H2 es:=F.frame (F.same.trans s) λa _=>s a
theorem Ct.snoc(F:Ct H H2 es)(f:ET H2 i d):Ct H i (es++[d]):=by
 have g:=F.up f.same;have h:Dc.AJ (es++[d])=Dc.AJ es++d.addrs:=by rw[Dc.AQ];simp[Dc.AJ]
 refine⟨g.same,(Dc.Bj _ _).mpr ⟨g.at_,by simp only[Dc.EC];exact⟨f.at_,trivial⟩⟩,?_,λa c=>?_,λa c=>?_⟩
 ·rw[h];refine i3.mpr ⟨F.nd,f.nd,λa c b j e=>?_⟩;subst e;exact Dc.JQ F.at_ c<|f.new a j
 ·rw[h]at c;rcases db.mp c with c|c
  ·exact g.own a c
  ·exact f.own a c
 ·rw[h]at c;rcases db.mp c with c|c
  ·exact F.new a c
  ·exact F.same.free<|f.new a c
theorem FP:∀(more kvs:List (Key×V)),((kvs++more).map (·.1)).Nodup->CW kvs more=kvs++more
 |[],kvs,_=>by simp[CW]
 |p::r,kvs,h=>by
  have a:BF kvs p.1=none:=by
   cases e:BF kvs p.1 with
   |none=>rfl
   |some v=>
    have:=UD e;rw[io,ge]at h;obtain⟨_,_,b⟩:=i3.mp h;exact absurd rfl<|b p.1 this p.1 dL
  show CW (putK kvs p.1 p.2) r=_;rw[LA p.2 a,FP r (kvs++[(p.1,p.2)])<|by simpa using h];simp
namespace Dc
theorem OS:∀(ks:List Str)(xs:List Dc)(i:Nat),ks.Nodup->ks[i]?=ι b->xs[i]?=ι x->(ks.zip xs).lookup b=ι x
 |[],_,_=>λ_ h _=>by simp at h
 |y::r,[],_=>λ_ _ h=>by simp at h
 |y::r,z::t,0=>λ_ c d=>by simp at c d;subst c d;simp
 |y::r,z::t,i+1=>λnd c d=>by
  obtain⟨e,f⟩:=j0.mp nd;have a:r[i]?=ι b:=by simpa using c
  have ne:b≠y:=λz=>e<|z▸ACx a;have:(b==y)=false:=by simpa using ne
  simp only[tz,j7,this];exact OS r t i f a<|by simpa using d
theorem bQ(h:ks.length=xs.length):(kvs ks xs).length=xs.length:=by
 have:=congrArg pp<|IK (ks:=ks) (xs:=xs) h;rw[ap,ap]at this;rw[this,h]
end Dc
def Hr(H b:Hp)(c:V):Dc->Prop
 | .leaf v=>c=v/\Dc.Lf v
 | .row _ xs=>∃a,c=.ref a/\b a=ι (.lst (xs.map Dc.val))/\H a=ν
 | .tab _ ks xs=>∃a,c=.ref a/\b a=ι (.dK (Dc.kvs ks xs))/\H a=ν
def rootOf(p:V×Dc):Option Addr:=match p.1 with
 | .ref a=>ι a
 |_=>ν
abbrev roots(ps:List (V×Dc)):List Addr:=ps.filterMap rootOf
variable{ps:List (V×Dc)}
theorem CO{c:Addr}:c∈roots ps↔∃p∈ps,p.1=.ref c:=by
 rw[PP];constructor
 ·rintro⟨p,b,e⟩;refine⟨p,b,?_⟩;unfold rootOf at e;split at e
  ·rename_i a h;cases e;exact h
  ·cases e
 ·rintro⟨p,b,e⟩;exact⟨p,b,by unfold rootOf;rw[e]⟩
theorem Bm(ps qs:List (V×Dc)):roots (ps++qs)=roots ps++roots qs:=aaK ..
def Ba:List (V×Dc)->List Dc->Prop
 |[],[]=>True
 |p::ps,e::es=>e.val=p.1/\Dc.C' p.2 e/\Ba ps es
 |_,_=>False
theorem Ba.split:∀{ps qs:List (V×Dc)}{es:List Dc},Ba (ps++qs) es->∃a ec,es=a++ec/\Ba ps a/\Ba qs ec
 |[],qs,es,h=>⟨[],es,rfl,trivial,h⟩
 |p::ps,qs,[],h=>by simp[Ba]at h
 |p::ps,qs,e::es,h=>by
  simp only[jp,Ba]at h;obtain⟨a,ec,rfl,b,c⟩:=Ba.split h.2.2;exact⟨e::a,ec,rfl,by simp only[Ba];exact⟨h.1,h.2.1,b⟩,c⟩
theorem Ba.app:∀{ps qs:List (V×Dc)}{a ec:List Dc},Ba ps a->Ba qs ec->Ba (ps++qs) (a++ec)
 |[],qs,[],ec=>λ_ h=>h
 |[],_,_::_,_=>λh _=>by simp[Ba]at h
 |_::_,_,[],_=>λh _=>by simp[Ba]at h
 |p::ps,qs,e::a,ec=>λh h'=>by
  simp only[Ba,jp]at h⊢;exact⟨h.1,h.2.1,Ba.app h.2.2 h'⟩
theorem Ba.vals:∀{ps:List (V×Dc)}{es:List Dc},Ba ps es->es.map Dc.val=ps.map (·.1)
 |[],[],_=>rfl
 |[],_::_,h=>by simp[Ba]at h
 |_::_,[],h=>by simp[Ba]at h
 |p::ps,e::es,h=>by
  simp only[Ba]at h;simp only[ge,h.1,Ba.vals h.2.2]
theorem Ba.dZ:∀{ps:List (V×Dc)}{es:List Dc},Ba ps es->Dc.Cm (ps.map (·.2)) es
 |[],[],_=>by simp[Dc.Cm]
 |[],_::_,h=>by simp[Ba]at h
 |_::_,[],h=>by simp[Ba]at h
 |p::ps,e::es,h=>by
  simp only[Ba]at h;simp only[ge,Dc.Cm];exact⟨h.2.1,Ba.dZ h.2.2⟩
structure EF(H Hi:Hp)(L:Addr)(tv:V)(d:Dc)(ps:List (V×Dc)):Prop where
 same:AF H Hi
 nL:H L=ν
 eL:Hi L=ι (.lst (ps.map (·.1)))
 out:∀p∈ps,Hr H Hi p.1 p.2
 src:∀p∈ps,p.2.At H/\p.2.slim
 nd:(roots ps).Nodup
 Vr:L∉roots ps
 gs:∀(es:List Dc)(H':Hp),Ba ps es->Ct H H' es->(∀c∈Dc.AJ es,Hi c=ν∨c∈roots ps)->(∀b o,b≠L->b∉roots ps->Hi b=ι o->H' b=ι o)->∃e:Dc,e.val=tv/\Dc.C' d e/\ET H H' e
variable{H:Hp}
theorem Hr.root{f:Hp}{p:V×Dc}{c:Addr}(o:Hr H f p.1 p.2)(e:p.1=.ref c):f c≠ν/\H c=ν/\∀j u,f c≠ι (.BK j u):=by
 obtain⟨v,d⟩:=p;simp only at e;subst e;cases d with
 |leaf v=>
  obtain⟨rfl,h⟩:=(show V.ref c=v/\Dc.Lf v from o);rcases h with⟨i,h⟩|⟨x,h,_⟩<;>cases h
 |row b k=>
  obtain⟨a,e,g,l⟩:=(show∃a,V.ref c=.ref a/\f a=ι (.lst<|k.map Dc.val)/\H a=ν from o);cases e;exact⟨by rw[g];simp,l,λj u z=>by rw[g]at z;cases z⟩
 |tab b m k=>
  obtain⟨a,e,g,l⟩:=(show∃a,V.ref c=.ref a/\f a=ι (.dK<|Dc.kvs m k)/\H a=ν from o);cases e;exact⟨by rw[g];simp,l,λj u z=>by rw[g]at z;cases z⟩
variable{d:Dc}{H2:Hp}
theorem Hr.up{h:Hp}{c:V}(o:Hr H h c d)(k:∀a,c=.ref a->∀u,h a=ι u->H2 a=ι u):Hr H H2 c d:=by
 cases d with
 |leaf v=>exact o
 |row b i=>obtain⟨a,e,f,g⟩:=o;exact⟨a,e,k a e _ f,g⟩
 |tab b j i=>obtain⟨a,e,f,g⟩:=o;exact⟨a,e,k a e _ f,g⟩
variable{a L:Addr}
theorem EF.step{r:Hp}{Q:V}{node:Dc}(C:EF H r L Q d (ps++[(.ref a,node)]))(j:List (V×Dc))(keep:∀b o,b≠a->b≠L->r b=ι o->H2 b=ι o)(eL:H2 L=ι (.lst ((ps++j).map (·.1))))(out:∀p∈j,Hr H H2 p.1 p.2)(src:∀p∈j,p.2.At H/\p.2.slim)(Y:(roots j).Nodup)(s:∀c∈roots j,r c=ν)(m:H2 a≠ν)(own:∀E u,H2 a≠ι (.BK E u))(build:∀(ec:List Dc) (H':Hp),Ba j ec->Dc.EC H' ec->H' a=H2 a->∃e:Dc,e.val=.ref a/\Dc.C' node e/\e.At H'/\e.addrs.Perm (a::Dc.AJ ec)):EF H H2 L Q d (ps++j):=by
 have B:roots (ps++[(V.ref a,node)])=roots ps++[a]:=by rw[Bm];rfl
 have nd:=C.nd;rw[B]at nd;obtain⟨F,_,G⟩:=i3.mp nd;have Vr:=C.Vr;rw[B]at Vr;have Z:a≠L:=λz=>Vr (by rw[<-z];simp);have t:a∉roots ps:=λz=>G a z a (by simp) rfl;have I:=(C.out (.ref a,node)<|by simp).root rfl;have R:∀c∈roots ps,c≠a/\c≠L/\r c≠none:=λc f=>by
  obtain⟨p,g,e⟩:=CO.mp f;refine⟨λz=>t<|by rw[<-z];exact f,λz=>Vr<|by rw[<-z];simp[f],?_⟩;exact((C.out p<|by simp[g]).root e).1
 refine⟨λb o e=>?_,C.nL,eL,λp g=>?_,λp g=>?_,?_,?_,λes H' dn v z S=>?_⟩
 ·exact keep b o (AW e I.2.1) (AW e C.nL)<|C.same b o e
 ·rcases db.mp g with g|g
  ·refine(C.out p<|by simp[g]).up λc e u h=>?_;have:=R c<|CO.mpr ⟨p,g,e⟩;exact keep c u this.1 this.2.1 h
  ·exact out p g
 ·rcases db.mp g with g|g
  ·exact C.src p<|by simp[g]
  ·exact src p g
 ·rw[Bm];refine i3.mpr ⟨F,Y,λx D y n e=>?_⟩;subst e;exact(R x D).2.2<|s x n
 ·rw[Bm];intro h;rcases db.mp h with h|h
  ·exact Vr<|by simp[h]
  ·have:=s L h;rw[C.eL]at this;cases this
 ·obtain⟨k,ec,rfl,d1,d2⟩:=dn.split;have T:a∉roots (ps++j):=by
   rw[Bm];intro h;rcases db.mp h with h|h
   ·exact t h
   ·exact I.1<|s a h
  have A:H' a=H2 a:=by
   cases e:H2 a with
   |none=>exact absurd e m
   |some o=>exact S a o Z T e
  obtain⟨CK,at2⟩:=(Dc.Bj _ _).mp v.at_;obtain⟨e,ev,el,ea,U⟩:=build ec H' d2 at2 A;have i:a∉Dc.AJ (k++ec):=λh=>by
   rcases z a h with h|h
   ·exact m h
   ·exact T h
  have l:Dc.AJ (k++[e])=Dc.AJ k++e.addrs:=by rw[Dc.AQ];simp[Dc.AJ]
  have mem:∀c,c∈Dc.AJ (k++[e])->c=a∨c∈Dc.AJ (k++ec):=λc f=>by
   rw[l]at f;rw[Dc.AQ];rcases db.mp f with f|f
   ·exact .inr<|e9 _ f
   ·rcases ca.mp (U.mem_iff.mp f)with f|f
    ·exact .inl f
    ·exact .inr<|gl _ f
  have J:Ct H H' (k++[e]):=by
   refine⟨v.same,(Dc.Bj _ _).mpr ⟨CK,by simp only[Dc.EC];exact⟨ea,trivial⟩⟩,?_,λc f=>?_,λc f=>?_⟩
   ·have W:=v.nd;rw[Dc.AQ]at W i;have:(Dc.AJ k++(a::Dc.AJ ec)).Nodup:=by
     obtain⟨x1,x2,x3⟩:=i3.mp W;refine i3.mpr ⟨x1,j0.mpr ⟨λh=>i<|gl _ h,x2⟩,λx D y n K=>?_⟩;subst K;rcases ca.mp n with n|n
     ·exact i<|e9 _<|by rw[<-n];exact D
     ·exact x3 x D x n rfl
    rw[l];exact((R8 _ U).nodup_iff).mpr this
   ·rcases mem c f with rfl|f
    ·intro E u h;rw[A]at h;exact own E u h
    ·exact v.own c f
   ·rcases mem c f with rfl|f
    ·exact I.2.1
    ·exact v.new c f
  refine C.gs (k++[e]) H' (d1.app<|by simp only[Ba];exact⟨ev,el,trivial⟩) J (λc f=>?_) λb o X M h=>?_
  ·rw[B];rcases mem c f with rfl|f
   ·exact .inr<|by simp
   ·rcases z c f with h|h
    ·left
     cases q:r c with
     |none=>rfl
     |some o=>
      have N:c≠a:=λw=>m (by rw[<-w];exact h);have O:c≠L:=λw=>by rw[w,eL]at h;cases h
      rw[keep c o N O q]at h;cases h
    ·rw[Bm]at h;rcases db.mp h with h|h
     ·exact .inr<|by simp[h]
     ·exact .inl<|s c h
  ·rw[B]at M;have P:b≠a:=λw=>M (by simp[w]);refine S b o X ?_<|keep b o P X h;rw[Bm];intro w;rcases db.mp w with w|w
   ·exact M<|by simp[w]
   ·rw[s b w]at h;cases h
theorem EF.start{i:Hp}{b:V}(s:AF H i)(l:H L=ν)(m:i L=ι (.lst [b]))(o:Hr H i b d)(h:d.At H)(sl:d.slim)(ne:b≠.ref L):EF H i L b d [(b,d)]:=by
 refine⟨s,l,m,λp c=>by rw[bi.mp c];exact o,λp c=>by rw[bi.mp c];exact⟨h,sl⟩,?_,?_,λn t f g z u=>?_⟩
 ·cases b<;>first|exact WF|exact j0.mpr ⟨(λh=>nomatch h),WF⟩
 ·intro q;obtain⟨p,c,e⟩:=CO.mp q;rw[bi.mp c]at e;exact ne e
 ·cases n with
  |nil=>simp[Ba]at f
  |cons e r=>
   cases r with
   |cons _ _=>simp[Ba]at f
   |nil=>
    simp only[Ba]at f;have j:Dc.AJ [e]=e.addrs:=by simp[Dc.AJ]
    have fa:=g.at_;simp only[Dc.EC]at fa;have fn:=g.nd;rw[j]at fn;exact⟨e,f.1,f.2.1,g.same,fa.1,fn,λa k=>g.own a<|by rw[j];exact k,λa k=>g.new a<|by rw[j];exact k⟩
theorem EF.done{a:Hp}{f:V}(C:EF H a L f d []):∃e:Dc,e.val=f/\Dc.C' d e/\ET H a e:=
 C.gs [] a trivial (.nil C.same) (λc g=>(nomatch g)) λb o _ _ h=>h
theorem EF.leaf{H j H2:Hp}{L:Addr}{d:Dc}{n v:V}{ps:List (V×Dc)}(C:EF H j L n d (ps++[(v,.leaf v)]))(keep:∀b o,b≠L->j b=ι o->H2 b=ι o)(r:H2 L=ι (.lst (ps.map (·.1)))):EF H H2 L n d ps:=by
 have s:Dc.Lf v:=(show v=v/\Dc.Lf v from C.out (v,.leaf v) (by simp)).2;have k:roots (ps++[(v,Dc.leaf v)])=roots ps:=by
  rw[Bm];rcases s with⟨i,rfl⟩|⟨x,rfl,_⟩<;>simp[roots,rootOf]
 have nd:=C.nd;have Vr:=C.Vr;rw[k]at nd Vr;refine⟨λb o e=>keep b o (AW e C.nL)<|C.same b o e,C.nL,r,λp f=>?_,λp f=>C.src p<|by simp[f],nd,Vr,λl B D a z E=>?_⟩
 ·refine(C.out p<|by simp[f]).up λc e u h=>keep c u (λw=>Vr ?_) h;rw[<-w];exact CO.mpr ⟨p,f,e⟩
 ·have g:Dc.AJ (l++[.leaf v])=Dc.AJ l:=by rw[Dc.AQ];simp[Dc.AJ,Dc.addrs]
  refine C.gs (l++[.leaf v]) B (D.app<|by simp[Ba,Dc.val,Dc.C']) ⟨a.same,(Dc.Bj _ _).mpr ⟨a.at_,by simp only[Dc.EC,Dc.At];exact⟨s,trivial⟩⟩,by rw[g];exact a.nd,by rw[g];exact a.own,by rw[g];exact a.new⟩ (λc t=>?_) λb o y A h=>?_
  ·rw[g]at t;rw[k];rcases z c t with h|h
   ·left
    cases q:j c with
    |none=>rfl
    |some o=>
     have m:c≠L:=λw=>by rw[w,r]at h;cases h
     rw[keep c o m q]at h;cases h
   ·exact .inr h
  ·rw[k]at A;exact E b o y A<|keep b o y h
def JR(H:Hp)(Q:VK):Dc->Prop
 | .leaf v=>Q v H
 | .row _ xs=>∀p,H p=ν->Q (.ref p) (upd H p (.lst (xs.map Dc.val)))
 | .tab _ ks xs=>∀p,H p=ν->Q (.ref p) (upd H p (.dK (Dc.kvs ks xs)))
inductive YI(vs:List V)(H:Hp)(Q:VK)(a:XK):Prop
 |mk(d:Dc)(b:vs=[d.val])(c:d.At H)(e:JR H Q d)
def UM:Sp:=λb H Q a=>YI b H Q a
inductive Vs(vs:List V)(H:Hp)(Q:VK)(a:XK):Prop
 |mk(d:Dc)(b:vs=[d.val])(c:d.At H)(e:d.slim)(f:d.size<=900)(g:∀(d':Dc) (H':Hp),ET H H' d'->Dc.C' d d'->Q d'.val H')
def IX:Sp:=λb H Q a=>Vs b H Q a
theorem JR.of{j:Hp}{Q:VK}(s:AF j H)(h:d.At H)(k:∀f g,AF H g->Hr j g f d->(∀a,f=.ref a->H a=ν)->Q f g):JR H Q d:=by
 cases d with
 |leaf v=>
  refine k v H (AF.refl H) ⟨rfl,h⟩ λa e=>?_;rcases(show Dc.Lf v from h)with⟨i,rfl⟩|⟨x,rfl,_⟩<;>cases e
 |row b l=>exact λp c=>k _ _ (AF.new c) ⟨p,rfl,AA,s.free c⟩ λa e=>by cases e;exact c
 |tab b m l=>exact λp c=>k _ _ (AF.new c) ⟨p,rfl,AA,s.free c⟩ λa e=>by cases e;exact c
def Es(ks:List Str)(vs:List V):List (Key×V):=(ks.zip vs).map λp=>(d0 p.1,p.2)
theorem QL(ks:List Str)(xs:List Dc):Dc.kvs ks xs=Es ks (xs.map Dc.val):=rfl
variable{ks:List Str}{vs:List V}
theorem YJ(h:ks.length=vs.length):(Es ks vs).length=ks.length:=by
 unfold Es;rw[ap,aax];lia
theorem LU:∀{ks:List Str}{vs:List V}{j:Nat}{k:Str},ks.length=vs.length->ks.Nodup->ks[j]?=ι k->BF (Es ks vs) (d0 k)=vs[j]?
 |[],_,_,_=>λ_ _ h=>by simp at h
 |y::r,[],_,_=>λh _ _=>by simp at h
 |y::r,v::vs,0,k=>λ_ _ h=>by
  simp at h;subst h;exact Bl rfl
 |y::r,v::vs,j+1,k=>λhl nd h=>by
  obtain⟨b,c⟩:=j0.mp nd;have a:r[j]?=ι k:=by simpa using h
  have ne:¬(d0 y:Key)=d0 k:=λz=>b (by rw[A5 z];exact ACx a);show BF ((d0 y,v)::Es r vs) (d0 k)=_;rw[Bg ne,LU (by simpa using hl) c a];simp
variable{j:Nat}
theorem YK{k:Str}(hl:ks.length=vs.length)(nd:ks.Nodup)(h:ks[j]?=ι k)(c:V):putK (Es ks vs) (d0 k) c=Es ks (vs.set j c):=by
 have e:j<vs.length:=by rw[<-hl];exact(DR h)
 have f:BF (Es ks vs) (d0 k)=ι vs[j]:=by rw[LU hl nd h,ACu e]
 unfold putK;rw[if_pos<|by rw[Dh,f];rfl];have gen:∀(ks:List Str)(vs:List V)(j:Nat),ks.length=vs.length->ks.Nodup->ks[j]?=ι k->(Es ks vs).map (λa=>if a.1=d0 k then(a.1,c)else a)=Es ks (vs.set j c):=by
  intro ks
  induction ks with
  |nil=>intro vs j _ _ h;simp at h
  |cons y r g=>
   intro vs j hl nd h;cases vs with
   |nil=>simp at hl
   |cons v vs=>
    obtain⟨b,i⟩:=j0.mp nd;cases j with
    |zero=>
     simp at h;subst h;have l:(Es r vs).map (λa=>if a.1=d0 y then(a.1,c)else a)=Es r vs:=by
      have:∀p∈Es r vs,(λa:Key×V=>if a.1=d0 y then(a.1,c)else a) p=id p:=λp m=>by
       obtain⟨q,n,rfl⟩:=m7.mp m;have o:q.1∈r:=(F5 n).1;exact if_neg λz=>b<|by rw[<-A5 z];exact o
      rw[A4 this,List.map_id]
     show(if(d0 y:Key)=d0 y then(d0 y,c)else(d0 y,v))::(Es r vs).map _=(d0 y,c)::Es r vs;rw[if_pos rfl,l]
    |succ j=>
     have d:r[j]?=ι k:=by simpa using h
     have ne:¬(d0 y:Key)=d0 k:=λz=>b (by rw[A5 z];exact ACx d);show(if(d0 y:Key)=d0 k then(d0 y,c)else(d0 y,v))::(Es r vs).map _=(d0 y,v)::Es r (vs.set j c);rw[if_neg ne,g vs j (by simpa using hl) i d]
 exact gen ks vs j hl nd h
variable{ss:List Str}
theorem reorder{ec:List Dc}(p:ss.Perm ks)(nd:ss.Nodup)(l:ec.length=ss.length):∃es:List Dc,es.Perm ec/\es.length=ks.length/\∀(j t:Nat) k,ks[j]?=ι k->ss[t]?=ι k->es[j]?=ec[t]?:=by
 have b:∀k∈ks,∃x,(ss.zip ec).lookup k=ι x:=λk n=>let⟨x,h,_⟩:=Dc.HK l.symm<|p.mem_iff.mpr n;⟨x,h⟩;have gen:∀ks:List Str,(∀k∈ks,∃x,(ss.zip ec).lookup k=ι x)->∃es:List Dc,es.map ι=ks.map λk=>(ss.zip ec).lookup k:=by
  intro ks
  induction ks with
  |nil=>exact λ_=>⟨[],rfl⟩
  |cons k r o=>
   intro h;obtain⟨x,q⟩:=h k dL;obtain⟨es,c⟩:=o λs d=>h s<|b9 _ d;exact⟨x::es,by simp[c,q]⟩
 obtain⟨es,e⟩:=gen ks b;have a:ec.map ι=ss.map λk=>(ss.zip ec).lookup k:=by
  refine Q9 λi=>?_;rw[bv,bv];cases f:ss[i]? with
  |none=>
   have:ec[i]?=none:=xz.mpr (by rw[l];exact xz.mp f);rw[this];rfl
  |some k=>
   have g:i<ec.length:=by rw[l];exact(DR f)
   rw[ACu g];show ι (ι ec[i])=ι ((ss.zip ec).lookup k);rw[Dc.OS ss ec i nd f<|ACu g]
 refine⟨es,?_,?_,λj t k u c=>?_⟩
 ·have v:(es.map ι).Perm (ec.map ι):=by rw[e,a];exact(p.map _).symm
  have w:=v.filterMap id;simpa using w
 ·have:=congrArg pp e;simpa using this
 ·have e1:=congrArg (λz=>z[j]?) e;simp only[bv,u]at e1;have m:=congrArg (λz=>z[t]?) a;simp only[bv,c]at m;have y:es[j]?.map ι=ec[t]?.map some:=e1.trans m.symm;cases A:es[j]?<;>cases B:ec[t]?<;>simp_all
variable{xs:List Dc}
theorem QM{ys:List Dc}(p:xs.Perm ys):(Dc.AJ xs).Perm (Dc.AJ ys):=by
 induction p with
 |nil=>exact .refl _
 |cons x _ a=>simp only[Dc.AJ];exact a.append_left _
 |swap x y l=>
  simp only[Dc.AJ,<-ii];exact(ww).append_right _
 |trans _ _ b c=>exact b.trans c
theorem YL{ys:List Dc}(p:xs.Perm ys)(h:Dc.EC H ys):Dc.EC H xs:=by
 have gen:∀l:List Dc,(∀x∈l,x.At H)->Dc.EC H l:=by
  intro l
  induction l with
  |nil=>intro _;trivial
  |cons x r a=>intro h;simp only[Dc.EC];exact⟨h x dL,a λy b=>h y (b9 _ b)⟩
 exact gen xs λx c=>Dc.Cq h x<|p.mem_iff.mp c
theorem QN:∀{xs ys:List Dc},xs.length=ys.length->(∀(i:Nat) x y,xs[i]?=ι x->ys[i]?=ι y->Dc.C' x y)->Dc.Cm xs ys
 |[],[]=>λ_ _=>by simp[Dc.Cm]
 |[],_::_=>λh _=>by simp at h
 |_::_,[]=>λh _=>by simp at h
 |x::r,y::t=>λh k=>by
  simp only[Dc.Cm];exact⟨k 0 x y rfl rfl,QN (by simpa using h) λi a b c d=>k (i+1) a b (by simpa using c)<|by simpa using d⟩
theorem Vt{b:Hp}{a:V}(c:d.At H)(o:Hr H b a d)(e:a=.ref L):b L≠none:=(Hr.root (p:=(a,d)) o e).1
variable{i:Nat}{x:Dc}
theorem YM{b:List V}{c:V}(l:b.length=i)(a:xs[i]?=ι x):(b++[c]).zip xs=b.zip xs++[(c,x)]:=by
 induction b generalizing xs i with
 |nil=>
  cases xs with
  |nil=>simp at a
  |cons y t=>
   simp at l;subst l;simp at a;subst a;simp
 |cons z r d=>
  cases xs with
  |nil=>simp at a
  |cons y t=>
   cases i with
   |zero=>simp at l
   |succ i=>
    simp only[jp,tz];rw[d (by simpa using l)<|by simpa using a]
structure YN(H H2 Hi:Hp)(a L:Addr)(xs:List Dc)(cs:List V):Prop where
 oc:∀(j:Nat) c x,cs[j]?=ι c->xs[j]?=ι x->Hr H Hi c x
 kp:∀b o,b≠a->b≠L->H2 b=ι o->Hi b=ι o
 rn:(roots (cs.zip xs)).Nodup
 rf:∀c∈roots (cs.zip xs),H2 c=ν
theorem YN.start:YN H H2 H2 a L xs []:=⟨λj c x h=>by simp at h,λb o _ _ h=>h,by simp[roots],by simp[roots]⟩
theorem YN.next{H H2 q r:Hp}{a L:Addr}{xs:List Dc}{k:List V}{i:Nat}{x:Dc}{c:V}{M N:HO}(P:YN H H2 q a L xs k)(O:k.length=i)(Q:xs[i]?=ι x)(R:AF q r)(v:Hr H r c x)(t:∀b,c=.ref b->q b=ν)(w:q a≠ν)(A:q L≠ν)(B:H2 a≠ν)(C:H2 L≠ν):YN H H2 (upd (upd r a M) L N) a L xs (k++[c]):=by
 have D:∀b,c=.ref b->b≠a/\b≠L:=λb e=>⟨λz=>w<|by rw[<-z];exact t b e,λz=>A<|by rw[<-z];exact t b e⟩;have S:(k++[c]).zip xs=k.zip xs++[(c,x)]:=YM O Q;have base:∀{d:V}{s:Dc},Hr H r d s->(∀b,d=.ref b->b≠a/\b≠L)->Hr H (upd (upd r a M) L N) d s:=λo U=>o.up λb e u h=>by
  obtain⟨E,F⟩:=U b e;rw[AH F,AH E];exact h
 refine⟨λj d s g l=>?_,λW o g l X=>?_,?_,λd f=>?_⟩
 ·by_cases G:j<k.length
  ·rw[g9 G]at g;refine base ((P.oc j d s g l).up λb e u h=>R _ _ h) λb e=>?_;have T:=P.rf b<|CO.mpr ⟨(d,s),ACx<|A9.mpr ⟨g,l⟩,e⟩;exact⟨λz=>B<|by rw[<-z];exact T,λz=>C<|by rw[<-z];exact T⟩
  ·have Y:=DR g;rw[b8,i5]at Y;have I:j=i:=by lia
   subst I;rw[jc<|by lia,O,Gc]at g;have e1:c=d:=by simpa using g
   subst e1;rw[Q]at l;cases l;exact base v D
 ·rw[AH l,AH g];exact R _ _<|P.kp W o g l X
 ·rw[S,Bm];refine i3.mpr ⟨P.rn,by cases c<;>first|exact WF|exact j0.mpr ⟨(λh=>nomatch h),WF⟩,λy Z z hz e=>?_⟩;subst e;obtain⟨p',m,n⟩:=CO.mp hz;rw[bi.mp m]at n;obtain⟨⟨c2,J⟩,K,e2⟩:=CO.mp Z;obtain⟨j,hj,I⟩:=G1.mp K;obtain⟨E,F⟩:=A9.mp (show(k.zip xs)[j]?=ι (c2,J)by rw[ACu hj,I]);exact((P.oc j c2 J E F).root (p:=(c2,J)) e2).1<|t y n
 ·rw[S,Bm]at f;rcases db.mp f with f|f
  ·exact P.rf d f
  ·obtain⟨p',m,n⟩:=CO.mp f;rw[bi.mp m]at n;have h0:=t d n;cases q2:H2 d with
   |none=>rfl
   |some o=>
    have:=P.kp d o (D d n).1 (D d n).2 q2;rw[h0]at this;cases this
theorem YN.fin{r h:Hp}{D:V}{node:Dc}{qs:List (V×Dc)}{f:List V}{o:HO}(C:EF H r L D d (qs++[(.ref a,node)]))(P:YN H H2 h a L xs f)(R:f.length=xs.length)(i:∀b o,b≠L->r b=ι o->H2 b=ι o)(s:H2 L≠ν)(t:h L=ι (.lst (qs.map (·.1)++f)))(v:∀x∈xs,x.At H/\x.slim)(g:h a=ι o)(nf:∀w u,o≠.BK w u)(build:∀(ec:List Dc) (H':Hp),ec.map Dc.val=f->Dc.Cm xs ec->Dc.EC H' ec->H' a=ι o->∃e:Dc,e.val=.ref a/\Dc.C' node e/\e.At H'/\e.addrs.Perm (a::Dc.AJ ec)):EF H h L D d (qs++f.zip xs)/\Dc.AI ((qs++f.zip xs).map (·.2))=Dc.AI (qs.map (·.2))+Dc.AI xs:=by
 have E:(f.zip xs).map (·.1)=f:=Z1 (by lia);have k:(f.zip xs).map (·.2)=xs:=Z0 (by lia);have l:∀p∈f.zip xs,∃j:Nat,f[j]?=ι p.1/\xs[j]?=ι p.2:=λp m=>by
  obtain⟨j,K,e⟩:=G1.mp m;exact⟨j,A9.mp<|by rw[ACu K,e]⟩
 refine⟨C.step (H2:=h) (f.zip xs) (λF o M G N=>P.kp F o M G (i F o G N)) (by rw[t,io,E]) (λp m=>let⟨j,I,y⟩:=l p m;P.oc j _ _ I y) (λp m=>let⟨j,I,y⟩:=l p m;v _ (ACx y)) P.rn (λc O=>by
   cases Q:r c with
   |none=>rfl
   |some o=>
    have q:=P.rf c O;by_cases n:c=L
    ·rw[n]at q;exact absurd q s
    ·rw[i c o n Q]at q;cases q) (by rw[g];simp) (λw u z=>by rw[g]at z;exact nf w u (ACw z))
  (λec H' J A B=>build ec H' (by have:=J.vals;rwa [E]at this) (by have:=J.dZ;rwa [k]at this) A (B.trans g)),by rw[io,Dc.Bd,k]⟩
variable{us:List V}{H':Hp}
namespace Dc
inductive Wf:Dc->Prop where
 |leaf (v:V):Wf (leaf v)
 |row {a:Addr} {xs:List Dc} (h:∀x∈xs,Wf x):Wf (row a xs)
 |tab {a:Addr} {ks:List Str} {xs:List Dc} (l:ks.length=xs.length) (n:ks.Nodup) (h:∀x∈xs,Wf x):Wf (tab a ks xs)
mutual
theorem YO:∀d:Dc,d.At b->d.Wf
 |leaf v,_=>.leaf v
 |row a xs,h=>by simp only[At]at h;exact .row (Sl xs h.2)
 |tab a ks xs,h=>by simp only[At]at h;exact .tab h.2.1 h.2.2.1 (Sl xs h.2.2.2)
theorem Sl:∀xs:List Dc,EC f xs->∀x∈xs,x.Wf
 |[],_,x,a=>nomatch a
 |y::r,h,x,a=>by
  simp only[EC]at h;have b:=YO y h.1;have c:=Sl r h.2;rcases ca.mp a with e|a
  ·rw[e];exact b
  ·exact c x a
end
def ix(ks:List Str)(k:Str):Nat:=ks.findIdx (·==k)
theorem YQ(h:k∈ks):ks[ix ks k]?=ι k:=by
 have a:ix ks k<ks.length:=List.findIdx_lt_length_of_exists ⟨k,h,by simp⟩;rw[ACu a];have b:(ks[ix ks k]==k)=true:=List.findIdx_getElem (w:=a);exact congrArg ι<|eq_of_beq b
theorem NG{k:Str}(l:ks.length=xs.length)(n:ks.Nodup)(h:(ks.zip xs).lookup k=ι x):xs[ix ks k]?=ι x:=by
 have b:=(Ca h).1;have e:=YQ b;have c:=DR e;obtain⟨y,a⟩:=B' xs (ix ks k) (by rw[<-l];exact c);have:=OS ks xs _ n e a;rw[h]at this;cases this;exact a
noncomputable def FQ:Dc->List V->Dc->Dc
 |_,[],n=>n
 |row a xs,.int i::r,n=>row a (match xs[i.toNat]? with|some x=>xs.set i.toNat (FQ x r n)|none=>xs)
 |tab a ks xs,.str k::r,n=>tab a ks (match xs[ix ks k]? with|some x=>xs.set (ix ks k) (FQ x r n)|none=>xs)
 |d,_::_,_=>d
theorem IY(h:xs[i]?=ι x)(r:List V)(n:Dc):FQ (row a xs) (.int (i:Int)::r) n=row a (xs.set i (FQ x r n)):=by
 simp only[FQ,pc,h]
theorem LV(h:xs[ix ks k]?=ι x)(r:List V)(n:Dc):FQ (tab a ks xs) (.str k::r) n=tab a ks (xs.set (ix ks k) (FQ x r n)):=by
 simp only[FQ,h]
theorem GG(h:d.sub (z::r)=ι e):(∃a xs i x,d=row a xs/\z=.int ((i:Nat):Int)/\xs[i]?=ι x/\x.sub r=ι e)∨∃a ks xs k x,d=tab a ks xs/\z=.str k/\(ks.zip xs).lookup k=ι x/\x.sub r=ι e:=by
 cases d with
 |leaf v=>simp[sub]at h
 |row a xs=>
  cases z with
  |int i=>
   simp only[sub]at h;by_cases c:0<=i
   ·rw[if_pos c]at h;cases b:xs[i.toNat]? with
    |none=>rw[b]at h;simp at h
    |some x=>rw[b]at h;exact .inl ⟨a,xs,i.toNat,x,rfl,by rw[abh c],b,h⟩
   ·rw[if_neg c]at h;simp at h
  |_=>simp[sub]at h
 |tab a ks xs=>
  cases z with
  |str k=>
   simp only[sub]at h;cases b:(ks.zip xs).lookup k with
   |none=>rw[b]at h;simp at h
   |some x=>rw[b]at h;exact .inr ⟨a,ks,xs,k,x,rfl,rfl,b,h⟩
  |_=>simp[sub]at h
theorem DI(d:Dc):d.sub []=ι d:=by cases d<;>rfl
theorem UN(h:xs[i]?=ι x)(r:List V):(row a xs).sub (.int (i:Int)::r)=x.sub r:=by
 simp only[sub];rw[if_pos<|by lia,pc,h];rfl
theorem UO(h:(ks.zip xs).lookup k=ι x)(r:List V):(tab a ks xs).sub (.str k::r)=x.sub r:=by
 simp only[sub,h];rfl
theorem Cb.sub:∀{d e:Dc},d.sub us=ι e->Cb e d:=by
 induction us with
 |nil=>intro d e h;rw[DI]at h;cases h;exact .refl d
 |cons z r f=>
  intro d e h;rcases GG h with⟨a,g,i,x,rfl,rfl,b,c⟩|⟨a,j,g,k,x,rfl,rfl,b,c⟩
  ·exact(f c).trans<|.row<|ACx b
  ·exact(f c).trans<|.tab (Ca b).2
theorem LW:∀{d e n:Dc},d.sub us=ι e->n.val=e.val->(FQ d us n).val=d.val:=by
 induction us with
 |nil=>intro d e n h b;rw[DI]at h;cases h;cases d<;>exact b
 |cons z r j=>
  intro d e n h b;rcases GG h with⟨a,f,i,x,rfl,rfl,c,g⟩|⟨a,l,f,k,x,rfl,rfl,c,g⟩
  ·rw[IY c];rfl
  ·simp only[FQ];rfl
theorem Jl{y:Dc}(h:xs[i]?=ι x)(e:y.val=x.val):(xs.set i y).map val=xs.map val:=by
 refine Q9 λj=>?_;rw[bv,bv];by_cases a:i=j
 ·subst a;rw[xg<|DR h,h];exact congrArg ι e
 ·rw[B6 a]
theorem Gg(h:c[i]?=ι e):∃l r,c=l++e::r/\∀y,c.set i y=l++y::r:=by
 have a:=DR h;have b:=(ACv h).2;refine⟨c.take i,c.drop<|i+1,?_,λy=>List.set_eq_take_append_cons_drop .. |>.trans (if_pos a)⟩;rw[<-b,List.getElem_cons_drop,x5]
theorem FR:∀{d e n:Dc},d.Wf->d.addrs.Nodup->d.sub us=ι e->∃l r,d.addrs=l++e.addrs++r/\(FQ d us n).addrs=l++n.addrs++r:=by
 induction us with
 |nil=>intro d e n _ _ h;rw[DI]at h;cases h;exact⟨[],[],by simp,by cases d<;>simp[FQ]⟩
 |cons z r s=>
  intro d e n w nd h;rcases GG h with⟨a,u,i,x,rfl,rfl,f,g⟩|⟨a,A,u,k,x,rfl,rfl,f,g⟩
  ·cases w with
   |row j=>
    obtain⟨l,t,e1,m⟩:=Gg f;simp only[addrs,j0]at nd;rw[e1,AQ]at nd;simp only[AJ]at nd;have b:x.addrs.Nodup:=((i3.mp (i3.mp nd.2).2.1)).1;obtain⟨l2,o,p,q⟩:=s (n:=n) (j x<|ACx f) b g;refine⟨a::(AJ l++l2),o++AJ t,?_,?_⟩
    ·simp only[addrs];rw[e1,AQ];simp only[AJ];rw[p];simp
    ·rw[IY f];simp only[addrs];rw[m,AQ];simp only[AJ];rw[q];simp
  ·cases w with
   |tab v y j=>
    have c:=NG v y f;obtain⟨l,t,e1,m⟩:=Gg c;simp only[addrs,j0]at nd;rw[e1,AQ]at nd;simp only[AJ]at nd;have b:x.addrs.Nodup:=((i3.mp (i3.mp nd.2).2.1)).1;obtain⟨l2,o,p,q⟩:=s (n:=n) (j x<|ACx c) b g;refine⟨a::(AJ l++l2),o++AJ t,?_,?_⟩
    ·simp only[addrs];rw[e1,AQ];simp only[AJ];rw[p];simp
    ·rw[LV c];simp only[addrs];rw[m,AQ];simp only[AJ];rw[q];simp
theorem bR:∀{d e n:Dc},d.addrs.Nodup->d.sub us=ι e->n.val=e.val->n.At H'->(∀a∈d.addrs,a∉e.addrs->∀o,H a=ι o->H' a=ι o)->d.At H->(FQ d us n).At H':=by
 induction us with
 |nil=>intro d e n _ h _ D _ _;rw[DI]at h;cases h;cases d<;>exact D
 |cons z r O=>
  intro d e n nd h E D f q;have PE:=Cb.sub h;rcases GG h with⟨a,s,i,x,rfl,rfl,C,u⟩|⟨a,F,s,k,x,rfl,rfl,C,u⟩
  ·obtain⟨l,t,e1,G⟩:=Gg C;have v:=Cb.sub u;simp only[At]at q;simp only[addrs,j0]at nd;have I:a∉e.addrs:=λz=>nd.1 (by rw[e1,AQ];simp only[AJ];exact gl _<|e9 _<|v.addrs a z);have g:=nd.2;rw[e1,AQ]at g;simp only[AJ]at g;obtain⟨P,J,K⟩:=i3.mp g;obtain⟨L,Q,M⟩:=i3.mp J;have p:=q.2;rw[e1]at p;obtain⟨N,w⟩:=(Bj _ _).mp p;simp only[EC]at w;have fa:∀c,c∈AJ s->c∉e.addrs->∀o,H c=ι o->H' c=ι o:=λc b y o j=>f c (by simp only[addrs];exact b9 _ b) y o j;have m:∀c,c∈AJ l∨c∈x.addrs∨c∈AJ t->c∈AJ s:=λc b=>by
    rw[e1,AQ];simp only[AJ,db];exact b
   have A:=O (n:=n) L u E D (λc b y o j=>fa c (m c<|.inr<|.inl b) y o j) w.1;rw[IY C];simp only[At];refine⟨?_,?_⟩
   ·rw[Jl C<|LW u E];exact q.1.up<|f a (by simp[addrs]) I
   ·rw[G];refine(Bj _ _).mpr ⟨Bh l (λc b o j=>fa c (m c<|.inl b) (λz=>K c b c (e9 _<|v.addrs c z) rfl) o j) N,?_⟩;simp only[EC];exact⟨A,Bh t (λc b o j=>fa c (m c<|.inr<|.inr b) (λz=>M c (v.addrs c z) c b rfl) o j) w.2⟩
  ·simp only[At]at q;have B:=NG q.2.1 q.2.2.1 C;obtain⟨l,t,e1,G⟩:=Gg B;have v:=Cb.sub u;simp only[addrs,j0]at nd;have I:a∉e.addrs:=λz=>nd.1 (by rw[e1,AQ];simp only[AJ];exact gl _<|e9 _<|v.addrs a z);have g:=nd.2;rw[e1,AQ]at g;simp only[AJ]at g;obtain⟨P,J,K⟩:=i3.mp g;obtain⟨L,Q,M⟩:=i3.mp J;have p:=q.2.2.2;rw[e1]at p;obtain⟨N,w⟩:=(Bj _ _).mp p;simp only[EC]at w;have fa:∀c,c∈AJ s->c∉e.addrs->∀o,H c=ι o->H' c=ι o:=λc b y o j=>f c (by simp only[addrs];exact b9 _ b) y o j;have m:∀c,c∈AJ l∨c∈x.addrs∨c∈AJ t->c∈AJ s:=λc b=>by
    rw[e1,AQ];simp only[AJ,db];exact b
   have A:=O (n:=n) L u E D (λc b y o j=>fa c (m c<|.inr<|.inl b) y o j) w.1;rw[LV B];simp only[At];refine⟨?_,by rw[L4];exact q.2.1,q.2.2.1,?_⟩
   ·have:kvs F (s.set (ix F k)<|FQ x r n)=kvs F s:=by unfold kvs;rw[Jl B<|LW u E]
    rw[this];exact q.1.up<|f a (by simp[addrs]) I
   ·rw[G];refine(Bj _ _).mpr ⟨Bh l (λc b o j=>fa c (m c<|.inl b) (λz=>K c b c (e9 _<|v.addrs c z) rfl) o j) N,?_⟩;simp only[EC];exact⟨A,Bh t (λc b o j=>fa c (m c<|.inr<|.inr b) (λz=>M c (v.addrs c z) c b rfl) o j) w.2⟩
noncomputable def room:Dc->V->Bool
 |row _ xs,.int i=>decide (0<=i)&&decide (i<=(xs.length:Int))
 |tab _ ks _,.str k=> !ks.contains k
 |_,_=>false
noncomputable def Gy:Dc->V->Dc->Dc
 |row a xs,.int i,v=>row a (xs.take i.toNat++v::xs.drop i.toNat)
 |tab a ks xs,.str k,v=>tab a (ks++[k]) (xs++[v])
 |d,_,_=>d
theorem LX(h:e.room z=true):(∃a xs i,e=row a xs/\z=.int ((i:Nat):Int)/\i<=xs.length)∨∃a ks xs k,e=tab a ks xs/\z=.str k/\k∉ks:=by
 cases e with
 |leaf v=>cases z<;>simp[room]at h
 |row a xs=>
  cases z with
  |int i=>
   simp only[room,kt,decide_eq_true_eq]at h;exact .inl ⟨a,xs,i.toNat,rfl,by rw[abh h.1],by lia⟩
  |_=>simp[room]at h
 |tab a ks xs=>
  cases z with
  |str k=>
   simp only[room,acf,List.contains_eq_mem,decide_eq_false_iff_not]at h;exact .inr ⟨a,ks,xs,k,rfl,rfl,h⟩
  |_=>simp[room]at h
theorem QO(e:Dc)(z:V)(v:Dc):(Gy e z v).val=e.val:=by
 cases e<;>cases z<;>rfl
end Dc
namespace Dc
end Dc
theorem ET.edit(F:ET H H2 Q)(s:Q.sub us=ι e)(I:e.val=.ref b)(p:b∈e.addrs)(J:n.val=.ref b)(v:n.At q)(w:∀a o,a≠b->H2 a=ι o->q a=ι o)(A:n.addrs.Nodup)(j:∀c∈n.addrs,∀o u,q c≠ι (.BK o u))(g:∀c∈n.addrs,c∈e.addrs∨(c∉Q.addrs/\H c=ν)):ET H q (Q.FQ us n):=by
 have P:=Dc.Cb.sub s;have K:=P.addrs b p;have wt:=Dc.YO Q F.at_;obtain⟨l,r,e1,B⟩:=Dc.FR (n:=n) wt F.nd s;have nd:=F.nd;rw[e1]at nd;obtain⟨C,D,i⟩:=i3.mp nd;obtain⟨E,L,k⟩:=i3.mp C;have mt:∀c,c∈Q.addrs↔(c∈l∨c∈e.addrs)∨c∈r:=λc=>by rw[e1,db,db]
 refine⟨λa o h=>w a o (AW h<|F.new b K)<|F.same a o h,Dc.bR F.nd s (J.trans I.symm) v (λa O M o h=>w a o (λz=>M<|by rw[z];exact p) h) F.at_,?_,λc d=>?_,λc d=>?_⟩
 ·rw[B];refine i3.mpr ⟨i3.mpr ⟨E,A,λx f y m z=>?_⟩,D,λx f y m z=>?_⟩
  ·subst z;rcases g x m with h|h
   ·exact k x f x h rfl
   ·exact h.1<|(mt x).mpr<|.inl<|.inl f
  ·subst z;rcases db.mp f with f|f
   ·exact i x (e9 _ f) x m rfl
   ·rcases g x f with h|h
    ·exact i x (gl _ h) x m rfl
    ·exact h.1<|(mt x).mpr<|.inr m
 ·rw[B,db,db]at d;have old:c∈Q.addrs->c≠b->∀o u,q c≠ι (.BK o u):=λG N=>Ho (Dc.there F.at_ G) (F.own c G) (λo=>w c o N);rcases d with(d|d)|d
  ·exact old ((mt c).mpr<|.inl<|.inl d) λz=>k c d c (by rw[z];exact p) rfl
  ·exact j c d
  ·exact old ((mt c).mpr<|.inr d) λz=>i c (gl _<|by rw[z];exact p) c d rfl
 ·rw[B,db,db]at d;rcases d with(d|d)|d
  ·exact F.new c<|(mt c).mpr<|.inl<|.inl d
  ·rcases g c d with h|h
   ·exact F.new c<|P.addrs c h
   ·exact h.2
  ·exact F.new c<|(mt c).mpr<|.inr d
namespace Dc
theorem Sn(h:e.room z=true):(Gy e z v).addrs.Perm (e.addrs++v.addrs):=by
 rcases LX h with⟨a,b,i,rfl,rfl,c⟩|⟨a,d,b,k,rfl,rfl,f⟩
 ·simp only[Gy,addrs,AQ,AJ,jp];have e1:AJ b=AJ (b.take<|(i:Int).toNat)++AJ (b.drop<|(i:Int).toNat):=by rw[<-AQ,x5]
  rw[e1,ii];exact((ww).append_left _).cons _
 ·simp only[Gy,addrs,AQ,AJ,jp,j9];exact .refl _
end Dc
inductive YR(vs:List V)(H:Hp)(Q:VK)(a:XK):Prop
 |mk(d:Dc)(z:V)(b:vs=[d.val,z])(c:d.At H)(e:Dc.Dq z)(f:Q (.bl (d.sub [z]).isSome) H)
def UP:Sp:=λb H Q a=>YR b H Q a
inductive YS(vs:List V)(H:Hp)(Q:VK)(a:XK):Prop
 |mk(d:Dc)(t:Addr)(xs:List V)(e:Dc)(b:vs=[d.val,.ref t])(c:d.At H)(f:H t=ι (.tup xs))(g:(∀z∈xs,Dc.Dq z))(h:d.sub xs=ι e)(i:Q e.val H)
def UQ:Sp:=λb H Q a=>YS b H Q a
inductive Vu(vs:List V)(H:Hp)(Q:VK)(b:XK):Prop
 |mk(d:Dc)(t:Addr)(us:List V)(a:V)(e:Dc)(c:vs=[d.val,.ref t])(f:d.At H)(g:H t=ι (.tup (us++[a])))(h:(∀z∈us++[a],Dc.Dq z))(i:d.sub us=ι e)(j:∀H',AF H H'->Q e.val H')
def QP:Sp:=λb H Q a=>Vu b H Q a
inductive bS(vs:List V)(H:Hp)(Q:VK)(a:XK):Prop
 |mk(d:Dc)(z:V)(b:vs=[d.val,z])(c:d.At H)(e:Dc.Dq z)(f:Q (.bl (d.room z)) H)
def YT:Sp:=λb H Q a=>bS b H Q a
section
variable {CX:VW} {k:Nat} {f:Addr} {fd:j4} {ps:List Str} {ds:List b7} {Kw:List V} {sp:Sp} {E:XK} {x:Str} {p pos:Pos} {e:u7} {es:List u7} {t:TA} {tf:TE}
theorem QQ(i:PE X (.Name x p) tf)(F:Ab X.prog X.w X.K X.mg X.base CX k f fd ps sp)(j:BX k X.A)(l:n8 X.K (.ref f)=true)(m:Binds X.K fd ps ds)(n:Vals Kw ds)(o:Passes CX X E)(y:PA X (e::es) t)(z:jL (e::es) X.env=(false,wP e X.env)::jL es X.env:=by rfl)(b:(D6 pos (jL es X.env)).any (·.1)=false:=by rfl):
  PE X (.Call (.Name x p) (e::es) [] pos) (λa H Q=>tf a H λv c=>v=.ref f/\Pk sp Kw E t a c Q):=by
 intro pins s a H Q I h;refine wT (BQ (i pins s a H _ I h) λu B ⟨v,C,d,D,G,q⟩=>?_);subst G;cases(show u=jM f from D);refine O9 (h₀:=X.base) d.ok.mod.e_ l (BQ (y pos pins B a C _ d q) λL M J=>J.elim λN c g r q=>⟨g.FG,?_⟩) z b;exact Ny F j m n o g r q
end
variable{e:Ends}
theorem gen{b:List Stmt}(p:PM X b t)(h:∀T,T=t->T e σ H):∃t,PM X b t/\t e σ H:=⟨t,p,h _ rfl⟩
theorem gw(h:∀X,X=t->X e σ H):t e σ H:=h _ rfl
theorem DB{g:TG}{x:V}(h:∀X,X=t->g x σ H (X e)):g x σ H (t e):=h _ rfl
theorem Ds(K:ACy){e:u7}{a:TE}{p pos:Pos}(T:Txt X.mg)(h:PE X e a)(c:Gl X "len":=by rfl)(b:jL [e] X.env=(false,wP e X.env)::jL [] X.env:=by rfl)(d:X.K=K:=by rfl):PE X (.Call (.Name "len" p) [e] [] pos) (kD (F' K) (D_ a JH)):=by
 subst d;exact Av OE c T.len EQ (AE h A' b) (by decide) (by decide) b
section
variable {o e:u7} {to te:TE} {apos CU:Pos}
theorem NH(K:ACy)(f:PE X o to)(g:PE X e te)(c:((D6 CU (jL [e] X.env)).all (λx=> !x.1)&&(aaO CU (S9 [] X.env)).all (λx=>x.1.isSome)
   &&decide ([e].length+([]:List S0).length+(if([]:List S0).isEmpty then 0 else 1)<30))=true:=by rfl)(a:D0 o "extend" X.env (wP o X.env)=wP o X.env:=by rfl)(b:(apos.endLine==CU.line)=true:=by rfl)(d:jL [e] X.env=(false,wP e X.env)::jL [] X.env:=by rfl)(h:X.K=K:=by rfl):
  PE X (.Call (.Attribute o "extend" apos) [e] [] CU) (kR K "list" OF to (D_ te JH)):=by
 subst h;exact Pn AC PySem.F.slot_list_extend PySem.F.type_list_extend VZ f (AE g A' d) a c b d rfl
theorem bT(K:ACy)(f:PE X o to)(g:PE X e te)(c:((D6 CU (jL [e] X.env)).all (λx=> !x.1)&&(aaO CU (S9 [] X.env)).all (λx=>x.1.isSome)
   &&decide ([e].length+([]:List S0).length+(if([]:List S0).isEmpty then 0 else 1)<30))=true:=by rfl)(a:D0 o "append" X.env (wP o X.env)=wP o X.env:=by rfl)(b:(apos.endLine==CU.line)=true:=by rfl)(d:jL [e] X.env=(false,wP e X.env)::jL [] X.env:=by rfl)(h:X.K=K:=by rfl):
  PE X (.Call (.Attribute o "append" apos) [e] [] CU) (kR K "list" UC to (D_ te JH)):=by
 subst h;exact Pn AC PySem.F.slot_list_append PySem.F.type_list_append Mv f (AE g A' d) a c b d rfl
end
variable{s:d8}{pins:List (Addr×Obj)}{its:List b7}
section
theorem Sq{u:b7}(g:its[j]?=ι u)(h:j<its.toArray.size):its.toArray[j]=u:=by
 have:=(ACv g).2;simpa using this
theorem IZ{xs:List V}(r:Vals xs its)(h:j<its.toArray.size):∃x,xs[j]?=ι x/\RelV x its.toArray[j]:=by
 have e:its.toArray.size=xs.length:=by rw[cr];exact r.length.symm
 have a:j<xs.length:=by rw[<-e];exact h
 obtain⟨u,g,b⟩:=r.get<|ACu a;exact⟨_,ACu a,by rw[Sq g h];exact b⟩
end
noncomputable def qc:Key->aaM
 | .inl i=>.int i
 | .inr x=>.str x
mutual
inductive OT(H:Hp):V->aaM->Prop
 |BB:OT H .BB .none
 |bl (b:Bool):OT H (.bl b) (.bool b)
 |int (i:Int):OT H (.int i) (.int i)
 |str (x:Str):OT H (.str x) (.str x)
 |lst {a:Addr} {xs:List V} {c:List aaM} (h:Rd H a (.lst xs)) (r:Gh H xs c):OT H (.ref a) (.list c)
 |tup {a:Addr} {xs:List V} {c:List aaM} (h:H a=ι (.tup xs)) (r:Gh H xs c):OT H (.ref a) (.tuple c)
 |BV {a:Addr} {kvs:List (Key×V)} {c:List aaM} (h:Rd H a (.dK kvs)) (r:Gh H (kvs.map (·.2)) c):OT H (.ref a) (.dict ((kvs.map λp=>qc p.1).zip c))
 |qd {v:V} {d:aaM} (r:∀H',AF H H'->∀(P:om)(w:u8)(h:Heap),Ee P w H' h->∀u,RelV v u->∃as,Reads h u d as/\∀b∈as,∃o,H' b=ι o):OT H v d
inductive Gh(H:Hp):List V->List aaM->Prop
 |nil:Gh H [] []
 |cons {x:V} {d:aaM} {xs:List V} {a:List aaM} (h:OT H x d) (t:Gh H xs a):Gh H (x::xs) (d::a)
end
theorem UR{a:Type}{kvs:List (a×V)}{vs:List (a×b7)}(r:KV kvs vs):Vals (kvs.map (·.2)) (vs.map (·.2)):=by
 unfold KV at r
 induction r with
 |nil=>exact .nil
 |cons h _ b=>exact .cons h.2 b
theorem YU:OA (b::r) 0=ι b:=Am (j:=0) rfl
theorem CK:OA (b::y::r) 1=ι y:=Am (j:=1) rfl
theorem at2:OA (b::y::z::r) 2=ι z:=Am (j:=2) rfl
theorem GH{c:Bool}{A B:Prop}(a:c=true->A)(b:c=false->B):if c=true then A else B:=by
 cases c with
 |true=>exact CP (a rfl)
 |false=>exact Ar (b rfl)
theorem Sr(R:St->Hp->Prop)(k:∀a H',R a H'->u D a H')(h:(∀a H',R a H'->u D a H')->t {D with nx:=u D} b H):Kq t u D b H:=h k
def steps(xs:List V):Prop:=∀z∈xs,Dc.Dq z
theorem DJ(w:Str):∀ws:List Str,OD (.str w) (ws.map V.str)=decide (w∈ws)
 |[]=>by simp[OD]
 |x::ws=>by
  have a:=DJ w ws;simp only[OD,ge,G6]at a⊢;rw[a];by_cases e:w=x
  ·subst e;simp[MS]
  ·have b:¬x=w:=λz=>e z.symm;simp[MS,e,b]
noncomputable def de:List b7->List Str->Bool
 |[],[]=>true
 | .str x _::us,y::ys=>x==y&&de us ys
 |_,_=>false
def kz(K:ACy)(a:Addr)(ws:List Str):Bool:=match K.lookup a with
 |some o=>o.cls==.type "tuple"&&(match o.data with
  | .seq b _=>decide (b.size<=1000)&&de b.toList ws
  |_=>false)
 |none=>false
variable{E:b7->d8->Prop}{ys:Array b7}{prog:om}{Q:Option b7->d8->Prop}{A:AT}{w:u8}{f:Bool}{z l1 l2:Addr}
section
abbrev Vv(h:Heap)(z TI TO T:Addr)(f:Bool):Prop:=
 h.get? z=ι {cls:=.type "zip",dict:=ν,data:=.fields #[sn T,.bool f,.bool false,.ref TI,.ref TO],slots:= #[]}
theorem QR{TI TO T:Addr}{e:Obj}{Q:Bool->d8->Prop}(hz:Vv s.heap z TI TO T f)(g:s.heap.get? T=ι e)(d:∀h',Vv h' z TI TO T true->C9 z s.heap h'->Q false {s with heap:=h'}):g5 (i7 prog w) A (y0 (.ref z)) Q E s:=by
 unfold y0;refine am<|J6 hz rfl (x:=sn T) rfl ?_;show g5 _ _ (loadIfAlive ((T:Int).toNat)>>=_) _ _ _;rw[pc];refine am<|PySem.W.kdx_alive g ?_;show g5 _ _ (field (.ref z) 1>>=_) _ _ _;refine am<|J6 hz rfl (x:=.bool f) rfl ?_;cases f with
 |true=>
  show g5 _ _ (pure false) _ _ _;exact ce (d s.heap hz<|Heap.SameBut.refl _ _)
 |false=>
  show g5 _ _ (Y3 (.ref z) 1 (.bool true)>>=_) _ _ _;exact am<|wr hz (by simp) λc a b=>ce<|d c a b
theorem Mb{TI TO h i T:Addr}{C:Obj}{n p:Nat}{xs:Array b7}{x y:b7}{Q:b7->d8->Prop}(D:abQ z TI TO h i l1 l2)(hz:Vv s.heap z TI TO T f)(F:s.heap.get? T=ι C)(q:ac4 s.heap TI (.ref h) (.ref i))(G:s.heap.IsListIter h l1 n)(H:s.heap.IsListIter i l2 p)(r:s.heap.IsList l1 xs)(t:s.heap.IsList l2 ys)(I:xs[n]?=ι x)(J:ys[p]?=ι y)(K:∀h',Vv h' z TI TO T true->h'.IsListIter h l1 (n+1)->h'.IsListIter i l2 (p+1)->ac4 h' s.heap.objs.size x y->h'.objs.size=s.heap.objs.size+1-> (∀c o,c≠z->c≠h->c≠i->s.heap.get? c=ι o->h'.get? c=ι o)->Q (.ref s.heap.objs.size) {s with heap:=h'}):
  g5 (i7 prog w) A (Builtin.«zip.__next__» ⟨[.ref z],[]⟩) (λfin L=>∃v,fin=.done (.ret v)/\Q v L) E s:=by
 show g5 _ _ (field (.ref z) 2>>=_) _ _ _;refine am<|J6 hz rfl (x:=.bool false) rfl ?_;show g5 _ _ (field (.ref z) 3>>=_) _ _ _;refine am<|J6 hz rfl (x:=.ref TI) rfl ?_;refine am<|V7 q rfl ?_;show g5 _ _ (y0 (.ref z)>>=_) _ _ _;refine am (QR hz F λu j a=>?_);simp only[K3,if_false];refine am ?_;rw[<-abM];show g5 _ _ (forIn [jM h,jM i] _ _) _ _ _;rw[T3];refine am<|am<|j8 ?_;show g5 _ _ (N8 (.ref h)>>=_) _ _ _;refine am (aaj (G.extBut a.extBut D.i1z) (r.extBut a.extBut D.l1z) I λB k b=>ce ?_);refine ce ?_;dsimp only;rw[T3];refine am<|am<|j8 ?_;show g5 _ _ (N8 (.ref i)>>=_) _ _ _;refine am (aaj ((H.extBut a.extBut D.i2z).extBut b.extBut D.i12.symm) ((t.extBut a.extBut D.l2z).extBut b.extBut D.l2i1) J λg l d=>ce ?_);refine ce ?_;dsimp only;rw[ads];refine ce ?_;show g5 _ _ (newTuple [x,y]>>=_) _ _ _;refine am<|adk ?_;have m:g.objs.size=s.heap.objs.size:=by rw[d.1,b.1,a.1]
 refine ce ⟨_,rfl,?_⟩;show Q (.ref g.objs.size) _;rw[m];have up:∀c o,c≠z->c≠h->c≠i->s.heap.get? c=ι o->(g.push {cls:=.type "tuple",data:=.seq #[x,y]}).get? c=ι o:=λc o c1 c2 c3 e=>
  be _ (d.extBut _ _ c3 (b.extBut _ _ c2 (a.extBut _ _ c1 e)))
 refine K _ (be _<|d.extBut _ _ D.i2z.symm<|b.extBut _ _ D.i1z.symm j) ((k.extBut d.extBut D.i12).at λo e=>be _ e) (l.at λo e=>be _ e) ?_ (by rw[E4,m]) up;have this:(g.push {cls:=.type "tuple",data:=.seq #[x,y]}).get? g.objs.size=ι {cls:=.type "tuple",data:=.seq #[x,y]}:=g8 _ rfl;rw[m]at this;exact this
theorem OU{TI TO d i T:Addr}{p:Obj}{m:Nat}{xs:Array b7}{Q:Fin->d8->Prop}(q:A.handled=ν)(D:abQ z TI TO d i l1 l2)(hz:Vv s.heap z TI TO T f)(r:s.heap.get? T=ι p)(j:ac4 s.heap TI (.ref d) (.ref i))(t:s.heap.IsListIter d l1 m)(k:s.heap.IsList l1 xs)(g:xs[m]?=ν)(u:∀h' e,(∀c o,c≠z->c≠d->s.heap.get? c=ι o->h'.get? c=ι o)->(∃o,h'.get? e=ι o/\o.cls=.type "StopIteration")->E (.ref e) {s with heap:=h'}):
  g5 (i7 prog w) A (Builtin.«zip.__next__» ⟨[.ref z],[]⟩) Q E s:=by
 show g5 _ _ (field (.ref z) 2>>=_) _ _ _;refine am<|J6 hz rfl (x:=.bool false) rfl ?_;show g5 _ _ (field (.ref z) 3>>=_) _ _ _;refine am<|J6 hz rfl (x:=.ref TI) rfl ?_;refine am<|V7 j rfl ?_;show g5 _ _ (y0 (.ref z)>>=_) _ _ _;refine am (QR hz r λn l a=>?_);simp only[K3,if_false];refine am ?_;rw[<-abM];show g5 _ _ (forIn [jM d,jM i] _ _) _ _ _;rw[T3];refine am<|am<|j8 ?_;show g5 _ _ (N8 (.ref d)>>=_) _ _ _;refine am<|wpAny_nextOf_list_end q (t.extBut a.extBut D.i1z) (k.extBut a.extBut D.l1z) g λh e b v=>u h e (λc o c1 c2 x=>b _ _ c2<|a.extBut _ _ c1 x) v
structure gx(h:Heap)(z TI TO i1 i2 l1 l2 S:Addr)(i:Nat)(xs ys:Array b7):Prop where
 st:(i=0/\IsZip h z TI TO .none/\∃a b,ac4 h TO a b)∨∃T f oT,Vv h z TI TO T f/\h.get? T=ι oT/\T≠z/\T≠i1/\T≠i2/\T≠S
 ti:ac4 h TI (.ref i1) (.ref i2)
 h1:h.IsListIter i1 l1 i
 h2:h.IsListIter i2 l2 i
 L1:h.IsList l1 xs
 L2:h.IsList l2 ys
theorem gx.keep{h h':Heap}{TI TO d g S:Addr}{xs:Array b7}(x:gx h z TI TO d g l1 l2 S i xs ys)(c:∀b o,b≠S->h.get? b=ι o->h'.get? b=ι o)(n:z≠S/\TI≠S/\TO≠S/\d≠S/\g≠S/\l1≠S/\l2≠S):gx h' z TI TO d g l1 l2 S i xs ys:=by
 obtain⟨st,k,l,m,p,L2⟩:=x;refine⟨?_,c _ _ n.2.1 k,l.at λo e=>c _ o n.2.2.2.1 e,m.at λo e=>c _ o n.2.2.2.2.1 e,p.at λo e=>c _ o n.2.2.2.2.2.1 e,L2.at λo e=>c _ o n.2.2.2.2.2.2 e⟩;rcases st with⟨e,j,a,b,q⟩|⟨T,f,r,j,t,t1,t2,t3,t4⟩
 ·exact .inl ⟨e,c _ _ n.1 j,a,b,c _ _ n.2.2.1 q⟩
 ·exact .inr ⟨T,f,r,c _ _ n.1 j,c _ _ t4 t,t1,t2,t3,t4⟩
theorem YV{TI TO g h S:Addr}{xs:Array b7}{x y:b7}(D:abQ z TI TO g h l1 l2)(st:gx s.heap z TI TO g h l1 l2 S i xs ys)(v:S<s.heap.objs.size)(q:xs[i]?=ι x)(r:ys[i]?=ι y)(t:∀h',gx h' z TI TO g h l1 l2 S (i+1) xs ys->ac4 h' s.heap.objs.size x y->h'.objs.size=s.heap.objs.size+1->(∀c o,c≠z->c≠TO->c≠g->c≠h->s.heap.get? c=ι o->h'.get? c=ι o)->Q (ι (.ref s.heap.objs.size)) {s with heap:=h'}):
  g5 (i7 prog w) A (On (.ref z)) Q E s:=by
 obtain⟨st,l,n,p,m,L2⟩:=st;have lt:∀{c o},s.heap.get? c=ι o->s.heap.objs.size≠c:=λe=>N1<|g7 e;have B:s.heap.objs.size≠g:=by obtain⟨_,e,_⟩:=n;exact lt e
 have C:s.heap.objs.size≠h:=by obtain⟨_,e,_⟩:=p;exact lt e
 rcases st with⟨rfl,j,a,b,G⟩|⟨T,f,H,j,u,t1,t2,t3,t4⟩
 ·refine wpAny_pyNext_zip_item D j l G n p m L2 q r λh' a1 a2 a3 a4 a5 a6 d=>?_;exact t h' ⟨.inr ⟨s.heap.objs.size,false,_,a1,a5,lt j,B,C,N1 v⟩,d _ _ D.TIz D.TITO D.TIi1 D.TIi2 l,a3,a4,m.at λo e=>d _ o D.l1z D.l1TO D.l1i1 D.l1i2 e,L2.at λo e=>d _ o D.l2z D.l2TO D.l2i1 D.l2i2 e⟩ a5 a6 d
 ·have k:s.TypeIs (.ref z) "zip":=⟨_,j,rfl⟩;unfold On;exact am<|abl<|C1 (name:=U1 "__next__") k T4<|u4 T4 k acF (Mb D j u l n p m L2 q r λh' a1 a3 a4 a5 a6 d=>ce<|t h' ⟨.inr ⟨T,true,H,a1,d _ _ t1 t2 t3 u,t1,t2,t3,t4⟩,d _ _ D.TIz D.TIi1 D.TIi2 l,a3,a4,m.at λo e=>d _ o D.l1z D.l1i1 D.l1i2 e,L2.at λo e=>d _ o D.l2z D.l2i1 D.l2i2 e⟩ a5 a6 λc o c1 _ c3 c4 e=>d c o c1 c3 c4 e)<|ace _
theorem YW{TI TO h j S:Addr}{xs:Array b7}(k:A.handled=ν)(D:abQ z TI TO h j l1 l2)(st:gx s.heap z TI TO h j l1 l2 S i xs ys)(l:xs[i]?=ν)(m:∀h',(∀c o,c≠z->c≠TO->c≠h->c≠j->s.heap.get? c=ι o->h'.get? c=ι o)->Q ν {s with heap:=h'}):g5 (i7 prog w) A (On (.ref z)) Q E s:=by
 obtain⟨st,n,p,r,q,L2⟩:=st;rcases st with⟨rfl,g,a,b,t⟩|⟨T,f,C,g,u,t1,t2,t3,t4⟩
 ·exact wpAny_pyNext_zip_end k D g n t p r q L2 (.inl l) m
 ·have d:s.TypeIs (.ref z) "zip":=⟨_,g,rfl⟩;unfold On;refine am<|abl<|C1 (name:=U1 "__next__") d T4<|u4 T4 d acF (OU k D g u n p q l λh' e v x=>?_)<|ace _;obtain⟨o,y,B⟩:=x;refine am<|SB (T:="StopIteration") (b:=true) ⟨o,y,B⟩ adn ?_;exact ce<|m _ λc o c1 _ c3 _ e=>v c o c1 c3 e
end
variable{R:abt->d8->Prop}
section
variable {xs:Array b7}
end
section
variable {xs:Array b7}
end
section
end
section
end
open PySem.AutoSeq1 (wpAny_loadPart')
open PySem.MeetsSeq3
variable{T:String}{b:Addr}
section
def Vw(prog:om)(w:u8)(A:AT)(s:d8)(u v:b7):Prop:=∀(E:b7->d8->Prop)(Q:Bool->d8->Prop),Q true s->g5 (i7 prog w) A (eqBool u v) Q E s
def jP(prog:om)(w:u8)(A:AT)(s:d8)(u v:b7):Prop:=∀(E:b7->d8->Prop)(Q:b7->d8->Prop),Q (.bool true) s->g5 (i7 prog w) A (richCompare .Eq u v) Q E s
theorem Vw.of(h:J9 A s u v true):Vw prog w A s u v:=λE Q a=>h prog w E Q a
theorem Vw.refs(h:l≠b->jP prog w A s (.ref l) (.ref b)):Vw prog w A s (.ref l) (.ref b):=λE Q c=>by
 by_cases e:l=b
 ·subst e;exact K9 _ prog w E Q c
 ·unfold eqBool;refine j8 ?_;refine K8 (λa=>absurd (by have:=eq_of_beq a;injection this) e) (λ_=>?_);exact am<|h e E _<|u9 c
theorem call_one{name:Str}{id:String}{B:adS}{self:b7}{rest:List b7}{Q:b7->d8->Prop}(slot:Slot T name id)(c:s.TypeIs self T)(entry:aaN adX id=ι B)(args:ac3 id ⟨self::rest,[]⟩)(g:g5 (i7 prog w) A.in1 (B ⟨self::rest,[]⟩) (λfin a=>match fin with| .done f=>wants Q E (.ok f) a| .again b=>b.quiet=true/\E8 (i7 prog w) A b (wants Q E) a) (λe a=>wants Q E (.error e) a) s):
  g5 (i7 prog w) A (call (.builtin id) (self::rest)) Q E s:=aaa (aa1 slot.plain entry (slot.check _ _ _ _ _ _ _ _ c args g))
theorem YX{q:Nat}{m:Option Addr}{o:Array (Option b7)}(hsz:items.size=I.size)(hl:s.heap.get? l=ι {cls:=.type "list",dict:=B,data:=.seq items n,slots:=C})(p:s.heap.get? b=ι {cls:=.type "list",dict:=m,data:=.seq I q,slots:=o})(r:∀j (D:j<items.size) (E:j<I.size),Vw prog w A.in1 s items[j] I[j])(t:R (.ok (.ret (.bool true))) s):
  ∀k i:Nat,items.size-i=k->i<=items.size->E8 (i7 prog w) A (.builtin "list.__eq__.loop" ⟨[.ref l,.ref b,sn i,sn 2],[]⟩) R s:=by
 obtain⟨F,g,d,G,os⟩:=s;intro k
 induction k with
 |zero=>
  intro i u v;have x:i=items.size:=by lia
  refine uy entry_eq_loop ?_;rw[p9 plain_eq_loop _];wp_walk using wpAny_loadPart' hl,wpAny_loadPart' p;have e:items[((i:Nat):Int).toNat]?=none:=by simp;lia
  have f:I[((i:Nat):Int).toNat]?=none:=by simp;lia
  rw[e,f];wp_walk using wpAny_loadPart' hl,wpAny_loadPart' p;show R (.ok<|.ret<|.bool<|items.size==I.size) _;rw[hsz];simpa using t
 |succ k y=>
  intro i u v;refine uy entry_eq_loop ?_;rw[p9 plain_eq_loop _];wp_walk using wpAny_loadPart' hl,wpAny_loadPart' p;have h:i<items.size:=by lia
  have c:i<I.size:=by lia
  have e:items[((i:Nat):Int).toNat]?=ι items[i]:=by simp[h]
  have f:I[((i:Nat):Int).toNat]?=ι I[i]:=by simp[c]
  have z:((i:Int)+1)=((i+1:Nat):Int):=by push_cast;rfl
  rw[e,f];refine am<|r i h c _ _ ?_;wp_walk;rw[z];exact⟨x6 plain_eq_loop _,y (i+1) (by lia) h⟩
theorem YY{l:Addr}{items a:Array b7}(hl:s.heap.IsList l items)(p:s.heap.IsList b a)(hsz:items.size=a.size)(q:A.units<cLine)(r:∀j (z:j<items.size) (B:j<a.size),Vw prog w A.in1 s items[j] a[j]):jP prog w A s (.ref l) (.ref b):=λE Q h=>by
 obtain⟨⟨t,C,data,D⟩,i,k,n,m⟩:=id hl;obtain⟨⟨o,u,data2,v⟩,c,e,G,f⟩:=id p;simp only at k m e f;subst k m e f;refine Do (op:=.Eq) ⟨_,i,rfl⟩ ⟨_,c,rfl⟩ adt (call_one adt ⟨_,i,rfl⟩ F.entry_list_eq (F.args_list_eq_2 _ _) ?_) q;obtain⟨H,g,d,I,os⟩:=s;have J:=AutoSeq1.sub_list_list;have y:¬(items.size !=a.size)=true:=by simp[hsz]
 wp_walk using wpAny_loadPart' i,wpAny_loadPart' c;exact⟨x6 plain_eq_loop _,YX hsz i c r (show(G3 true≠Value.notImplemented)/\Q (.bool true) _ from⟨(λx=>nomatch x),h⟩) _ 0 rfl<|d9 _⟩
theorem Vx(hl:s.heap.IsTuple l items)(G:s.heap.IsTuple b Y)(hsz:items.size=Y.size)(H:A.units<cLine)(I:∀j (v:j<items.size) (z:j<Y.size),Vw prog w A.in1 s items[j] Y[j]):jP prog w A s (.ref l) (.ref b):=λE Q h=>by
 obtain⟨⟨J,R,data,S⟩,r,B,n,C⟩:=id hl;obtain⟨⟨D,K,data2,L⟩,f,k,T,m⟩:=id G;simp only at B C k m;subst B C k m;refine Do (op:=.Eq) ⟨_,r,rfl⟩ ⟨_,f,rfl⟩ acU (u4 acU ⟨_,r,rfl⟩ F.entry_tuple_eq ?_<|F.args_tuple_eq_2 _ _) H;obtain⟨M,g,d,N,os⟩:=s;have U:=AutoSeq1.sub_tuple_tuple;wp_walk using wpAny_loadPart' r,wpAny_loadPart' f,Y6 _ (λrest b t=>b.1=ν/\t=⟨M,g,d,N,os⟩/\∃i,rest=(items.toList.zip Y.toList).drop i) _
 case turn=>
  rintro⟨y,x⟩ rest b t ⟨c,rfl,i,o⟩;have p:i<(items.toList.zip Y.toList).length:=by
   rcases KM i (items.toList.zip Y.toList).length with u|u
   ·exact u
   ·rw[K5 u]at o;cases o
  have v:i<items.size:=by simp at p;lia
  have z:i<Y.size:=by lia
  rw[j3 p]at o;injection o with q e;have O:y=items[i]:=by have:=congrArg V2 q;simpa using this
  have P:x=Y[i]:=by have:=congrArg abR q;simpa using this
  subst O P;refine am<|I i v z _ _ ?_;wp_walk;exact⟨rfl,rfl,i+1,e⟩
 case fin=>
  rintro⟨V,W⟩ t ⟨c,rfl,i,o⟩;simp only at c;subst c;wp_walk;exact⟨_,rfl,(λx=>nomatch x),by simpa[R4,hsz]using h⟩
 case h=>
  exact⟨rfl,rfl,0,rfl⟩
theorem Jm{a:Type}[DecidableEq a]:∀{l:List (a×b7)}{j:Nat}{k:a}{v:b7},(l.map (·.1)).Nodup->l[j]?=ι (k,v)->P6 l k=ι v
 |[],j,k,v=>λ_ h=>by simp at h
 |p::r,0,k,v=>λ_ h=>by
  simp at h;subst h;simp[P6]
 |p::r,j+1,k,v=>λnd h=>by
  rw[ge]at nd;obtain⟨f,g⟩:=j0.mp nd;have c:r[j]?=ι (k,v):=by simpa using h
  have ne:¬p.1=k:=λe=>f (by rw[e];exact m7.mpr ⟨_,ACx c,rfl⟩);have d:=Jm g c;unfold P6 at d⊢;rw[List.find?_cons_of_neg<|by simpa using ne];exact d
theorem YZ{P:Type}[DecidableEq P]{knd:adF prog w P}{y m:List (P×b7)}(ha:(a==A2)=false)(hb:(b==A2)=false)(O:s.heap.DictOf knd a y)(R:s.heap.DictOf knd b m)(hk:y.map (·.1)=m.map (·.1))(hu:A.units<cLine)(he:∀(j:Nat) k u v,y[j]?=ι (k,u)->m[j]?=ι (k,v)->Vw prog w A.in1 s u v):jP prog w A s (.ref a) (.ref b):=λE Q h=>by
 have ll:y.length=m.length:=by have:=congrArg pp hk;simpa using this
 refine Do (op:=.Eq) O.typeIs R.typeIs aa2 (u4 aa2 O.typeIs PySem.F.entry_dict_eq ?_<|PySem.F.args_dict_eq_2 _ _) hu;show g5 _ _ (W8 "__eq__" ⟨[.ref a,.ref b],[]⟩>>=_) _ _ s;refine am ?_;unfold W8;refine am<|R5 O.typeIs ?_;show g5 _ _ (pure (jM a,jM b)) _ _ s;refine ce ?_;refine am<|SB (T:="dict") R.typeIs PySem.F.sub_dict_dict ?_;simp only[Bool.not_true,K3,if_false];refine am<|ce<|am<|ce ?_;obtain⟨oa,d,ep,n,_,o,S,G,hna⟩:=O;obtain⟨ob,f,ep',p,_,r,H,C,U⟩:=R;have I:y.length=d.size:=by rw[<-G.length];exact j6
 have J:m.length=f.size:=by rw[<-C.length];exact j6
 refine am ?_;unfold adV adW;rw[if_neg<|show¬(a==A2)=true by rw[ha];exact i8,if_neg<|show¬(b==A2)=true by rw[hb];exact i8];refine am<|ce<|am<|ce ?_;refine am<|Q3 n o ?_;dsimp only;refine am<|Q3 p r ?_;rw[if_neg<|by rw[<-I,<-J,ll];simp];refine am<|acO n o ?_;refine am ?_;rw[Std.Legacy.Range.forIn_eq_forIn_range'];simp only[Std.Legacy.Range.size,Q0,Nat.add_sub_cancel,Nat.div_one];have fin:∃v,Fin.done (Flow.ret<|G3<|true==true)=.done (.ret v)/\v≠.notImplemented/\Q v s:=⟨_,rfl,(λx=>nomatch x),h⟩;refine Y6 _ (λrest q V=>V=s/\q=(ν,())/\∃i,rest=ad4 i (d.size-i)/\i<=d.size) _ ?_ ?_ _ _ ⟨rfl,rfl,0,by simp,d9 _⟩
 ·rintro x rest q V ⟨rfl,rfl,i,K,hi⟩;have g:i<d.size:=by
   rcases KM i d.size with h|h
   ·exact h
   ·rw[Nat.sub_eq_zero_of_le h]at K;simp at K
  obtain⟨rfl,D⟩:x=i/\rest=ad4 (i+1) (d.size-(i+1)):=by
   have e:d.size-i=(d.size-(i+1))+1:=by lia
   rw[e,List.range'_succ]at K;injection K with h1 h2;exact⟨h1,h2⟩
  have L:x<y.length:=by rw[I];exact g
  have M:x<m.length:=by lia
  obtain⟨k,u,W⟩:∃k u,y[x]=(k,u):=⟨_,_,rfl⟩;obtain⟨t,v,X⟩:∃k v,m[x]=(k,v):=⟨_,_,rfl⟩;have Y:y[x]?=ι (k,u):=by rw[ACu L,W]
  have Z:m[x]?=ι (t,v):=by rw[ACu M,X]
  have ek:t=k:=by
   have:=congrArg (λl=>l[x]?) hk;simp only[bv,Y,Z]at this;simpa using this.symm
  subst ek;have hv:=Jm U Z;refine am<|Q3 n o ?_;rw[ut g];obtain⟨z,N⟩:=G.get? (i:=x) (e:=d[x]) (k:=t) (v:=u) (by rw[q4];exact ut g) Y;obtain⟨k2,Ya,hh⟩:=S d[x]<|Rs g;have yR:k2=t:=knd.inj _ _ _ Ya z;rw[yR]at hh;show g5 _ _ (P7 [d[x].key,d[x].val] _>>=_) _ _ _;rw[hh];refine am<|j8<|am<|wpAny_dictFind_of z p r H ?_;have c:findBy knd.is f t=P6 m t:=by
   rw[<-C.find t];clear J C H r p;obtain⟨l⟩:=f;simp[findBy]
  cases hj:f.findIdx? λe=>knd.is t e.key with
  |none=>
   rw[abx,hj,hv]at c;exact nomatch c
  |some j=>
   obtain⟨B,_,_⟩:=Array.findIdx?_eq_some_iff_getElem.mp hj;have yS:f[j].val=v:=by
    rw[abx,hj,hv]at c;simpa[ut B]using c
   refine am<|Q3 p r ?_;rw[ut B];refine j8 ?_;rw[yS,N];refine he x t u v Y Z _ _ ?_;show g5 _ _ (if(!true)=true then _ else _) _ _ _;rw[if_neg<|by decide];refine am<|acO n o ?_;rw[if_neg<|by simp];exact ce ⟨rfl,rfl,x+1,D,g⟩
 ·rintro q V ⟨rfl,rfl,i,K,hi⟩;exact ce<|ce fin
end
class BW(K:outParam ACy):Prop where
 x:True
structure Dl(H H':Hp):Prop where
 rd:GB H H'
 tp:∀a vs,H a=ι (.tup vs)->H' a=ι (.tup vs)
theorem Dl.of(s:AF H H'):Dl H H':=⟨s.r,λa b e=>s _ _ e⟩
theorem Dl.BK{a:Addr}{o:Obj}{kvs:List (Key×V)}{H c:Hp}(F:PQ a o kvs H c):Dl H c:=⟨F.rd,λb f e=>by
 have d:b≠a:=λz=>by
  subst z;rcases F.qb with r|⟨o,r⟩<;>rw[r]at e<;>cases e
 rw[F.ne b d];exact e⟩
theorem Dl.trans(a:Dl H g)(b:Dl g H2):Dl H H2:=⟨a.rd.trans b.rd,λc d e=>b.tp c d<|a.tp c d e⟩
variable{K:ACy}
theorem BP.DK{xs:List V}(h:BP K H a xs)(s:Dl H H'):BP K H' a xs:=h.imp (λr=>s.rd _ _ r) id
theorem BP.up{xs:List V}(h:BP K H a xs)(s:AF H H'):BP K H' a xs:=h.DK<|.of s
inductive gy(K:ACy)(H:Hp):V->String->Prop where
 |n {v:V} {T:String} (h:PN H v T):gy K H v T
 |t {a:Addr} {xs:List V} (h:BP K H a xs):gy K H (.ref a) "tuple"
variable{v:V}
theorem gy.NB(h:gy K H v T):∃(H':Hp)(a:V),PN H' a T:=by
 cases h with
 |n h=>exact⟨H,v,h⟩
 |t h=>exact⟨upd H 0 (.tup []),.ref 0,.tup AA⟩
section
inductive df(K:ACy)(xs:List V)(H:Hp)(Q:VK):Prop
 |mk(x c T:_)(a:xs=[x,.ty c])(b:bD c=true)(d:gy K H x T)(e:Q (.bl (Xp T c)) H)
theorem Vy:Bo X (.builtin "isinstance") (df X.K):=by
 intro pins s v H i w Q I r h;obtain⟨x,c,T,rfl,j,ty,q⟩:=h;obtain⟨u,y,rfl,g,b⟩:=vals2 r;cases b;obtain⟨A,B,d⟩:=ty.NB;have e:=UH (K:=X.K) d j;cases ty with
 |n ty=>exact QD I g ty e λf=>⟨.bl _,H,I.tok f,rfl,q⟩
 |@t a i k=>
  cases(show u=jM a from g);obtain⟨_,_,p,_⟩:=I.tuple k;obtain⟨o,l,m,_⟩:=p;exact u0 O8 I.FG ⟨o,l,m⟩ e (λz=>nomatch z) λf=>⟨.bl _,H,I.tok f,rfl,q⟩
def Yb(T:String):Bool:=T=="list"||T=="tuple"
theorem g_(h:PN H v T):Wp K (.type T) [.type "list",.type "tuple"]=ι (Yb T):=by
 cases h<;>kernel_rfl
inductive Yc(K:ACy)(xs:List V)(H:Hp)(Q:VK):Prop
 |mk(x:V)(p:Addr)(T:String)(a:xs=[x,.ref p])(b:H p=ι (.tup [.ty "list",.ty "tuple"]))(c:gy K H x T)(d:Q (.bl (Yb T)) H)
theorem Ss:Bo X (.builtin "isinstance") (Yc X.K):=by
 intro pins s G H l J Q I r h;obtain⟨x,p,T,rfl,m,ty,q⟩:=h;obtain⟨u,L,rfl,g,b⟩:=vals2 r;cases b;obtain⟨v,w,y,_⟩:=I.tuple<|BP.of m;obtain⟨⟨A,M,data,N⟩,i,j,n,k⟩:=id y;simp only at j k;subst j k;obtain⟨O,P,c⟩:=ty.NB;have e:=g_ (K:=X.K) c;cases w with
 |cons B d=>
  cases d with
  |cons C d=>
   cases d;cases B;cases C;cases ty with
   |n ty=>exact Hl I g ty i e λf=>⟨.bl _,H,I.tok f,rfl,q⟩
   |@t a l D=>
    cases(show u=jM a from g);obtain⟨_,_,p,_⟩:=I.tuple D;obtain⟨o,E,F,_⟩:=p;exact C3 O8 I.FG ⟨o,E,F⟩ i e (λz=>nomatch z) λf=>⟨.bl _,H,I.tok f,rfl,q⟩
end
inductive Pt where
 |int (i:Int)
 |str (x:Str)
 |bl (b:Bool)
 |BB
 |lst (xs:List Pt)
 |tup (xs:List Pt)
 |BV (ks:List Str) (xs:List Pt)
namespace Pt
mutual
noncomputable def size:Pt->Nat
 |int _|str _|bl _|BB=>1
 |lst xs|tup xs=>1+AI xs
 |BV _ xs=>1+AI xs
noncomputable def AI:List Pt->Nat
 |[]=>0
 |x::r=>size x+AI r
end
mutual
noncomputable def deep:Pt->Nat
 |int _|str _|bl _|BB=>1
 |lst xs|tup xs=>1+AR xs
 |BV _ xs=>1+AR xs
noncomputable def AR:List Pt->Nat
 |[]=>0
 |x::r=>max (deep x) (AR r)
end
mutual
def doc:Pt->Prop
 |int _=>True
 |str x=>x.length<=100
 |bl _=>False
 |BB=>False
 |tup _=>False
 |lst xs=>CF xs
 |BV ks xs=>ks.length=xs.length/\ks.Nodup/\(∀k∈ks,CS k=true)/\ks.length<64/\CF xs
def CF:List Pt->Prop
 |[]=>True
 |x::r=>doc x/\CF r
end
mutual
def txt:Pt->Prop
 |str x=>MY x=true
 |int _|bl _|BB=>True
 |lst xs|tup xs=>LY xs
 |BV _ xs=>LY xs
def LY:List Pt->Prop
 |[]=>True
 |x::r=>txt x/\LY r
end
theorem Et:∀{c:List Pt},LY c->∀x∈c,txt x
 |y::r,h,x,a=>by
  simp only[LY]at h;rcases ca.mp a with rfl|a
  ·exact h.1
  ·exact Et h.2 x a
theorem US:∀{c:List Pt},(∀x∈c,txt x)->LY c
 |[],_=>trivial
 |x::r,h=>⟨h x dL,US λy a=>h y (b9 _ a)⟩
def look(ks:List Str)(xs:List Pt)(k:Str):Option Pt:=(ks.zip xs).lookup k
mutual
noncomputable def qf:Pt->Pt->Bool
 |int i,int j=>i==j
 |str x,str y=>x==y
 |bl a,bl b=>a==b
 |BB,BB=>true
 |lst xs,lst ys=>hJ xs ys
 |tup xs,tup ys=>hJ xs ys
 |BV ks xs,BV ls ys=>ks.length==ls.length&&k_ ks xs ls ys
 |_,_=>false
noncomputable def hJ:List Pt->List Pt->Bool
 |[],[]=>true
 |x::xs,y::ys=>qf x y&&hJ xs ys
 |_,_=>false
noncomputable def k_:List Str->List Pt->List Str->List Pt->Bool
 |k::ks,x::xs,ls,ys=>(match look ls ys k with|some y=>qf x y|none=>false)&&k_ ks xs ls ys
 |_,_,_,_=>true
end
theorem size_pos(t:Pt):1<=t.size:=by cases t<;>simp only[size]<;>lia
theorem CC(t:Pt):1<=t.deep:=by cases t<;>simp only[deep]<;>lia
theorem BD:∀{c:List Pt}{g:Pt},g∈c->g.size<=AI c
 |y::r,g,h=>by
  simp only[AI];rcases ca.mp h with rfl|h
  ·lia
  ·have:=BD h;lia
theorem AU:∀{c:List Pt}{g:Pt},g∈c->g.deep<=AR c
 |y::r,g,h=>by
  simp only[AR];rcases ca.mp h with rfl|h
  ·lia
  ·have:=AU h;lia
theorem CH:∀xs:List Pt,xs.length<=AI xs
 |[]=>bn _
 |x::r=>by have:=CH r;have:=size_pos x;simp only[g6,AI];lia
theorem BC:∀{c:List Pt},CF c->∀x∈c,doc x
 |y::r,h,x,a=>by
  simp only[CF]at h;rcases ca.mp a with rfl|a
  ·exact h.1
  ·exact BC h.2 x a
theorem EV:∀{c:List Pt},(∀x∈c,doc x)->CF c
 |[],_=>trivial
 |x::r,h=>⟨h x dL,EV λy a=>h y (b9 _ a)⟩
theorem Bd(xs ys:List Pt):AI (xs++ys)=AI xs+AI ys:=by
 induction xs with
 |nil=>simp[AI]
 |cons x r a=>simp only[jp,AI,a];lia
theorem Vz(l:ks.length=g.length)(a:k∈ks):∃x,look ks g k=ι x:=by
 unfold look
 induction ks generalizing g with
 |nil=>cases a
 |cons y r b=>
  cases g with
  |nil=>simp at l
  |cons z c=>
   simp only[tz,j7];by_cases e:k=y
   ·subst e;exact⟨z,by simp⟩
   ·have:(k==y)=false:=by simpa using e
    rw[this];exact b (by simpa using l)<|(ca.mp a).resolve_left e
end Pt
mutual
inductive Val{K:ACy}[BW K](H:Hp):V->Pt->Prop
 |int (i:Int):Val H (.int i) (.int i)
 |str (x:Str):Val H (.str x) (.str x)
 |bl (b:Bool):Val H (.bl b) (.bl b)
 |BB:Val H .BB .BB
 |lst {a:Addr} {vs:List V} {ts:List Pt} (h:Rd H a (.lst vs)) (r:AS H vs ts):Val H (.ref a) (.lst ts)
 |tup {a:Addr} {vs:List V} {ts:List Pt} (h:BP K H a vs) (r:AS H vs ts):Val H (.ref a) (.tup ts)
 |BV {a:Addr} {kvs:List (Key×V)} {ks:List Str} {ts:List Pt} (h:Rd H a (.dK kvs)) (c:kvs.map (·.1)=ks.map d0) (r:AS H (kvs.map (·.2)) ts):Val H (.ref a) (.BV ks ts)
inductive AS{K:ACy}[BW K](H:Hp):List V->List Pt->Prop
 |nil:AS H [] []
 |cons {v:V} {t:Pt} {vs:List V} {ts:List Pt} (h:Val H v t) (r:AS H vs ts):AS H (v::vs) (t::ts)
end
section
variable [BW K]
def Plain:HO->Prop
 | .lst _| .tup _| .dK _=>True
 |_=>False
theorem AS.Ww(h:AS H vs ts)(s:∀a u,Plain u->Rd H a u->Rd H' a u):AS H' vs ts:=@AS.rec K _ H (λv t _=>Val H' v t) (λvs ts _=>AS H' vs ts) .int .str .bl .BB (λh _ r=>.lst (s _ _ trivial h) r) (λh _ r=>.tup (h.imp (s _ _ trivial) id) r) (λh k _ r=>.BV (s _ _ trivial h) k r) .nil (λ_ _ h r=>.cons h r) _ _ h
theorem Val.Ww(h:Val H v g)(s:∀a u,Plain u->Rd H a u->Rd H' a u):Val H' v g:=@Val.rec K _ H (λv g _=>Val H' v g) (λb c _=>AS H' b c) .int .str .bl .BB (λh _ r=>.lst (s _ _ trivial h) r) (λh _ r=>.tup (h.imp (s _ _ trivial) id) r) (λh k _ r=>.BV (s _ _ trivial h) k r) .nil (λ_ _ h r=>.cons h r) _ _ h
theorem Val.DK(s:Dl H H')(h:Val H v c):Val H' v c:=h.Ww λa u _=>s.rd a u
theorem AS.DK(s:Dl H H')(h:AS H vs ts):AS H' vs ts:=h.Ww λa u _=>s.rd a u
theorem Val.up(h:Val H v c)(s:AF H H'):Val H' v c:=h.DK<|.of s
theorem AS.up(h:AS H c g)(s:AF H H'):AS H' c g:=h.DK<|.of s
theorem AS.ind{M:List V->List Pt->Prop}(n:M [] [])(c:∀{v t vs ts},Val H v t->AS H vs ts->M vs ts->M (v::vs) (t::ts))(h:AS H vs ts):M vs ts:=@AS.rec K _ H (λ_ _ _=>True) (λvs ts _=>M vs ts) (λ_=>trivial) (λ_=>trivial) (λ_=>trivial) trivial (λ_ _ _=>trivial) (λ_ _ _=>trivial) (λ_ _ _ _=>trivial) n (λh r _=>c h r) _ _ h
theorem AS.length{H:Hp}(h:AS H vs ts):vs.length=ts.length:=h.ind (M:=λvs ts=>vs.length=ts.length) rfl λ_ _ r=>by rw[g6,g6,r]
theorem AS.two(h:AS H vs ts):∀i:Nat,(vs[i]?=ν/\ts[i]?=ν)∨∃v t,vs[i]?=ι v/\ts[i]?=ι t/\Val H v t:=h.ind (M:=λvs ts=>∀i:Nat,(vs[i]?=ν/\ts[i]?=ν)∨∃v t,vs[i]?=ι v/\ts[i]?=ι t/\Val H v t) (λ_=>.inl ⟨rfl,rfl⟩) λh _ r i=>by
 cases i with
 |zero=>exact .inr ⟨_,_,rfl,rfl,h⟩
 |succ i=>simpa using r i
theorem AS.get(h:AS H vs ts)(e:vs[i]?=ι v):∃t,ts[i]?=ι t/\Val H v t:=by
 rcases h.two i with⟨z,_⟩|⟨w,t,a,b,c⟩
 ·rw[z]at e;cases e
 ·rw[a]at e;cases e;exact⟨t,b,c⟩
theorem AS.get'(h:AS H vs ts){t:Pt}(e:ts[i]?=ι t):∃v,vs[i]?=ι v/\Val H v t:=by
 rcases h.two i with⟨_,z⟩|⟨w,t,a,b,c⟩
 ·rw[z]at e;cases e
 ·rw[b]at e;cases e;exact⟨w,a,c⟩
theorem AS.append(h:AS H vs ts)(s:AS H ws c):AS H (vs++ws) (ts++c):=h.ind (M:=λvs ts=>AS H (vs++ws)<|ts++c) s λh _ r=>.cons h r
theorem AS.of:∀{vs:List V}{ts:List Pt},vs.length=ts.length->(∀(i:Nat) v t,vs[i]?=ι v->ts[i]?=ι t->Val H v t)->AS H vs ts
 |[],[]=>λ_ _=>.nil
 |[],_::_=>λl _=>by simp at l
 |_::_,[]=>λl _=>by simp at l
 |v::vs,t::ts=>λl h=>.cons (h 0 v t (by simp) (by simp)) (AS.of (by simpa using l) λi w u a b=>h (i+1) w u (by simpa using a) (by simpa using b))
theorem Val.Ia{kvs:List (Key×V)}:∀{ks:List Str}{ts:List Pt},kvs.map (·.1)=ks.map d0->AS H (kvs.map (·.2)) ts->∀k:Str,(∃v t,BF kvs (d0 k)=ι v/\Pt.look ks ts k=ι t/\Val H v t)∨(BF kvs (d0 k)=ν/\Pt.look ks ts k=ν):=by
 induction kvs with
 |nil=>
  intro ks ts h r k;cases r;cases ks with
  |nil=>exact .inr ⟨rfl,rfl⟩
  |cons _ _=>simp at h
 |cons p kvs a=>
  intro ks ts h r k;cases ks with
  |nil=>simp at h
  |cons x ks=>
   obtain⟨y,v⟩:=p;simp only[ge,u3]at h;obtain⟨e,h⟩:=h;subst e;cases r with
   |@cons _ t _ ts b r=>
    by_cases e:k=x
    ·subst e;exact .inl ⟨v,t,Bl rfl,by simp[Pt.look],b⟩
    ·have c:(k==x)=false:=by simpa using e
     have e1:BF ((d0 x,v)::kvs) (d0 k)=BF kvs (d0 k):=Bg (by intro z;exact e (A5 z).symm);have d:Pt.look (x::ks) (t::ts) k=Pt.look ks ts k:=by simp[Pt.look,tz,j7,c]
     rw[e1,d];exact a h r k
end
section
variable [BW K]
theorem Val.qg(h:Val H v (.str c)):v=.str c:=by cases h;rfl
theorem Val.vH(h:Val H v (.bl c)):v=.bl c:=by cases h;rfl
theorem Val.tupI(h:Val H v (.tup ts)):∃a vs,v=.ref a/\BP K H a vs/\AS H vs ts:=by cases h with|tup h r=>exact⟨_,_,rfl,h,r⟩
theorem Val.EG(h:Val H v (.lst ts)):∃a vs,v=.ref a/\Rd H a (.lst vs)/\AS H vs ts:=by cases h with|lst h r=>exact⟨_,_,rfl,h,r⟩
theorem Val.FT(h:Val H v (.BV ks ts)):∃(a:Addr)(kvs:List (Key×V)),v=.ref a/\Rd H a (.dK kvs)/\kvs.map (·.1)=ks.map d0/\AS H (kvs.map (·.2)) ts:=by cases h with|BV h b r=>exact⟨_,_,rfl,h,b,r⟩
theorem AS.HM(h:AS H vs (c::ts)):∃v a,vs=v::a/\Val H v c/\AS H a ts:=by cases h with|cons h r=>exact⟨_,_,rfl,h,r⟩
theorem AS.Yd(h:AS H vs []):vs=[]:=by cases h;rfl
theorem Val.t1(h:Val H v (.tup (.str c::ts))):∃t vs,v=.ref t/\BP K H t (.str c::vs)/\AS H vs ts:=by
 obtain⟨t,vs,rfl,h,r⟩:=Val.tupI h;obtain⟨_,_,rfl,g,q⟩:=r.HM;rw[g.qg]at h;exact⟨_,_,rfl,h,q⟩
theorem Val.t2(h:Val H v (.tup [.str c,p])):∃t u,v=.ref t/\BP K H t [.str c,u]/\Val H u p:=by
 obtain⟨t,_,e,h,r⟩:=h.t1;obtain⟨u,_,rfl,g,q⟩:=r.HM;rw[q.Yd]at h;exact⟨t,u,e,h,g⟩
theorem Val.t3(h:Val H v (.tup [.str c,p,q])):∃t u z,v=.ref t/\BP K H t [.str c,u,z]/\Val H u p/\Val H z q:=by
 obtain⟨t,_,e,h,r⟩:=h.t1;obtain⟨u,_,rfl,g,r⟩:=r.HM;obtain⟨z,_,rfl,a,r⟩:=r.HM;rw[r.Yd]at h;exact⟨t,u,z,e,h,g,a⟩
theorem Val.t4(h:Val H v (.tup [.str c,p,q,o])):∃t u z y,v=.ref t/\BP K H t [.str c,u,z,y]/\Val H u p/\Val H z q/\Val H y o:=by
 obtain⟨t,_,e,h,r⟩:=h.t1;obtain⟨u,_,rfl,g,r⟩:=r.HM;obtain⟨z,_,rfl,a,r⟩:=r.HM;obtain⟨y,_,rfl,b,r⟩:=r.HM;rw[r.Yd]at h;exact⟨t,u,z,y,e,h,g,a,b⟩
end
section
variable [BW X.K] 
theorem AS.at(r:AS H vs ts)(c:Vals vs its)(h:j<its.toArray.size):∃v t,vs[j]?=ι v/\ts[j]?=ι t/\Val H v t/\RelV v its.toArray[j]:=by
 obtain⟨v,b,a⟩:=IZ c h;obtain⟨t,d,e⟩:=r.get b;exact⟨v,t,b,d,e,a⟩
def jQ(X:Cx)[BW X.K](H:Hp)(s:d8)(t:Pt):Prop:=∀{x y:V},Val H x t->Val H y t->∀{A:AT}{u v:b7},A.units+t.deep<cLine->RelV x u->RelV y v->Vw X.prog X.w A s u v
theorem AS.eqT{a:List b7}(f:∀t∈ts,jQ X H s t)(g:AS H vs ts)(h:AS H ws ts)(i:Vals vs its)(k:Vals ws a)(l:j<its.toArray.size)(n:j<a.toArray.size)(r:A.units+Pt.AR ts<cLine):Vw X.prog X.w A s its.toArray[j] a.toArray[j]:=by
 obtain⟨v,t,u,e,o,p⟩:=g.at i l;obtain⟨x,y,q,b,c,d⟩:=h.at k n;rw[e]at b;cases b;have m:=ACx e;have dl:=Pt.AU m;exact f t m o c (by lia) p d
theorem Pt.Ye(I:Inv X pins σ H s)(t:Pt)(R:∀t':Pt,t'.deep<t.deep->jQ X H s t')(c:Val H (.ref a) t)(d:Val H (.ref b) t)(E:A.units+t.deep<cLine):jP X.prog X.w A s (.ref a) (.ref b):=by
 have sub:∀{q:List Pt},Pt.AR q<t.deep->∀t∈q,jQ X H s t:=λl t m=>R t (by have:=Pt.AU m;lia);cases t with
 |lst q=>
  simp only[Pt.deep]at E sub;obtain⟨_,r,e,c,h⟩:=c.EG;obtain⟨_,S,v,d,i⟩:=d.EG;cases e;cases v;obtain⟨F,x,G,_⟩:=I.list<|.inl c;obtain⟨y,B,J,_⟩:=I.list<|.inl d;exact YY G.isList J.isList (by rw[cr,cr,<-x.length,<-B.length,h.length,i.length]) (by lia) λj o p=>h.eqT (sub<|by lia) i x B o p (by show A.units+1+_<cLine;lia)
 |tup q=>
  simp only[Pt.deep]at E sub;obtain⟨_,r,e,c,h⟩:=c.tupI;obtain⟨_,S,v,d,i⟩:=d.tupI;cases e;cases v;obtain⟨F,x,G,_⟩:=I.tuple c;obtain⟨y,B,J,_⟩:=I.tuple d;exact Vx G J (by rw[cr,cr,<-x.length,<-B.length,h.length,i.length]) (by lia) λj o p=>h.eqT (sub<|by lia) i x B o p (by show A.units+1+_<cLine;lia)
 |BV ks q=>
  simp only[Pt.deep]at E sub;obtain⟨_,kvs,e,c,L,h⟩:=c.FT;obtain⟨_,M,v,d,N,i⟩:=d.FT;cases e;cases v;obtain⟨z,T,r,C,U⟩:=EO I.Ax c;obtain⟨z',O,n,f,P⟩:=EO I.Ax d;have V:r.map (·.1)=kvs.map (·.1):=(KV.keys C).symm;have W:n.map (·.1)=M.map (·.1):=(KV.keys f).symm;refine YZ T O U P (by rw[V,W,L,N]) (by lia) λj k u Y g Z=>?_;have Q:(r.map (·.2))[j]?=ι u:=by rw[bv,g];rfl
  have D:(n.map (·.2))[j]?=ι Y:=by rw[bv,Z];rfl
  have o:j<(r.map (·.2)).toArray.size:=by rw[cr];exact(DR Q)
  have p:j<(n.map (·.2)).toArray.size:=by rw[cr];exact(ACv D).1
  rw[<-Sq Q o,<-Sq D p];exact h.eqT (sub<|by lia) i (UR C) (UR f) o p (by show A.units+1+_<cLine;lia)
 |_=>cases c
theorem Pt.hV(I:Inv X pins σ H s)(t:Pt)(k:∀t':Pt,t'.deep<t.deep->jQ X H s t'):jQ X H s t:=λ{x y} c d {A u v} l f g=>by
 have h:(∃a,x=.ref a)->(∃b,y=.ref b)->Vw X.prog X.w A s u v:=by
  rintro⟨a,rfl⟩ ⟨b,rfl⟩;cases(show u=jM a from f);cases(show v=jM b from g);exact Vw.refs λ_=>Pt.Ye I t k c d l
 cases t with
 |int i=>
  cases c;cases d;obtain⟨t1,rfl⟩:∃t,u=IN i t:=f;obtain⟨t2,rfl⟩:∃t,v=IN i t:=g;have:=abE (A:=A) (s:=s) i t1 i t2;rw[beq_self_eq_true]at this;exact .of this
 |str x=>
  cases c;cases d;obtain⟨t1,rfl⟩:∃t,u=Ix x t:=f;obtain⟨t2,rfl⟩:∃t,v=Ix x t:=g;have:=abA (A:=A) (s:=s) x t1 x t2;rw[beq_self_eq_true]at this;exact .of this
 |bl b=>
  cases c;cases d;cases(show u=G3 b from f);cases(show v=G3 b from g);exact .of (K9 _)
 |BB=>
  cases c;cases d;cases(show u=Ev from f);cases(show v=Ev from g);exact .of (K9 _)
 |lst j=>exact h (c.EG.imp λ_ ⟨_,e,_⟩=>e) (d.EG.imp λ_ ⟨_,e,_⟩=>e)
 |tup j=>exact h (c.tupI.imp λ_ ⟨_,e,_⟩=>e) (d.tupI.imp λ_ ⟨_,e,_⟩=>e)
 |BV m j=>exact h (c.FT.imp λ_ ⟨_,e,_⟩=>e) (d.FT.imp λ_ ⟨_,e,_⟩=>e)
theorem Pt.Yf(I:Inv X pins σ H s):∀(n:Nat)(t:Pt),t.deep<=n->jQ X H s t
 |0,t,h=>by have:=Pt.CC t;lia
 |n+1,t,h=>Pt.hV I t λa b=>Pt.Yf I n a (by lia)
theorem Pt.yT(I:Inv X pins σ H s)(t:Pt)(c:Val H (.ref a) t)(d:Val H (.ref b) t)(e:A.units+t.deep<cLine):jP X.prog X.w A s (.ref a) (.ref b):=
 Pt.Ye I t (λf _=>Pt.Yf I _ f (bn _)) c d e
end
section
end
section
end
inductive dh:Pt->Prop
 |int (i:Int):dh (.int i)
 |str (x:Str):dh (.str x)
 |nil:dh (.lst [])
 |emp:dh (.BV [] [])
inductive Sm:Pt->Prop
 |one {t:Pt} (h:dh t):Sm t
 |row {xs:List Pt} (h:∀x∈xs,dh x):Sm (.lst xs)
 |tab {ks:List Str} {xs:List Pt} (h:∀x∈xs,dh x):Sm (.BV ks xs)
section
end
section
variable [BW X.K] 
end
section
end
section
end
def lk{a:Type}(ks:List Str)(xs:List a)(k:Str):Option a:=(ks.zip xs).lookup k
theorem EW{a:Type}{y k:Str}{r:List Str}{z:a}{zs:List a}:lk (y::r) (z::zs) k=if k=y then ι z else lk r zs k:=by
 unfold lk;rw[tz,j7];by_cases e:k=y
 ·subst e;simp
 ·have:(k==y)=false:=by simpa using e
  rw[this,if_neg e]
theorem JS{a:Type}{xs:List a}{k:Str}{x:a}(h:lk ks xs k=ι x):k∈ks/\x∈xs:=by
 induction ks generalizing xs with
 |nil=>simp[lk]at h
 |cons y r b=>
  cases xs with
  |nil=>simp[lk]at h
  |cons z c=>
   rw[EW]at h;by_cases e:k=y
   ·rw[if_pos e]at h;cases h;exact⟨by rw[e];exact dL,dL⟩
   ·rw[if_neg e]at h;have:=b h;exact⟨b9 _ this.1,b9 _ this.2⟩
theorem UT{b:Type}{xs:List b}(l:ks.length=xs.length){k:Str}(a:k∈ks):∃x,lk ks xs k=ι x:=by
 induction ks generalizing xs with
 |nil=>cases a
 |cons y r c=>
  cases xs with
  |nil=>simp at l
  |cons z d=>
   rw[EW];by_cases e:k=y
   ·rw[if_pos e];exact⟨z,rfl⟩
   ·rw[if_neg e];exact c (by simpa using l)<|(ca.mp a).resolve_left e
def di:Pt->List V->Prop
 | .lst xs,l=>l=(oo xs.length).map λ(i:Nat)=>V.int (i:Int)
 | .BV ks _,l=>∃ss:List Str,l=ss.map V.str/\ss.Perm ks/\A8 ss=true
 |_,l=>l=[]
def LZ:Pt->Prop
 | .int _=>True
 | .str _=>True
 | .lst xs=>xs.length<=900
 | .BV ks xs=>ks.length=xs.length/\ks.length<64
 |_=>False
def Eu:Pt->List Pt->Prop
 | .lst xs,ts=>ts=xs
 | .BV ks xs,ts=>∃ss:List Str,ss.Perm ks/\A8 ss=true/\ss.map (lk ks xs)=ts.map ι
 |_,ts=>ts=[]
theorem Eu.one{t:Pt}{as bs:List Pt}(h:Eu t as)(h':Eu t bs):as=bs:=by
 cases t with
 |lst c=>exact(show as=c from h).trans (show bs=c from h').symm
 |BV k c=>
  obtain⟨l,e,f,e1⟩:=h;obtain⟨m,g,i,d⟩:=h';have:=GC f i<|e.trans g.symm;subst this;rw[e1]at d;have inj:∀{a b:List Pt},a.map ι=b.map ι->a=b:=by
   intro a
   induction a with
   |nil=>intro b h;cases b with|nil=>rfl|cons _ _=>simp at h
   |cons x r j=>
    intro b h;cases b with
    |nil=>simp at h
    |cons y q=>
     simp only[ge,u3]at h;rw[ACw h.1,j h.2]
  exact inj d
 |_=>exact(show as=[]from h).trans (show bs=[]from h').symm
section
variable [BW K]
def qh(H:Hp)(v s e:V):Prop:=(∃a b j,v=.ref a/\Rd H a (.lst b)/\s=.int ((j:Nat):Int)/\b[j]?=ι e)∨∃a kvs k,v=.ref a/\Rd H a (.dK kvs)/\s=.str k/\BF kvs (d0 k)=ι e
theorem Yg{kvs:List (Key×V)}{ts:List Pt}(d:kvs.map (·.1)=ks.map d0)(r:AS H (kvs.map (·.2)) ts)(l:ks.length=ts.length)(h:∀k∈ss,k∈ks):
  ∃(es:List V)(us:List Pt),AS H es us/\ss.map (lk ks ts)=us.map ι/\es.length=ss.length/\∀(i:Nat) e,es[i]?=ι e->∃k,ss[i]?=ι k/\BF kvs (d0 k)=ι e:=by
 induction ss with
 |nil=>exact⟨[],[],.nil,rfl,rfl,λi e h=>by simp at h⟩
 |cons k ss f=>
  obtain⟨es,us,g,j,m,n⟩:=f λx a=>h x<|b9 _ a;rcases Val.Ia d r k with⟨v,t,o,b,p⟩|⟨_,b⟩
  ·refine⟨v::es,t::us,.cons p g,by rw[ge,ge,j];congr 1,by rw[g6,g6,m],λi e c=>?_⟩;cases i with
   |zero=>simp at c;subst c;exact⟨k,by simp,o⟩
   |succ i=>
    obtain⟨q,a1,a2⟩:=n i e (by simpa using c);exact⟨q,by simpa using a1,a2⟩
  ·obtain⟨x,a⟩:=Pt.Vz l<|h k dL;rw[a]at b;cases b
theorem Val.kids{t:Pt}{l:List V}(m:Val H v t)(hold:LZ t)(st:di t l):∃(es:List V)(us:List Pt),AS H es us/\Eu t us/\es.length=l.length/\∀(i:Nat) e,es[i]?=ι e->∃s,l[i]?=ι s/\qh H v s e:=by
 cases m with
 |int i=>rw[show l=[]from st];exact⟨[],[],.nil,rfl,rfl,λi e h=>by simp at h⟩
 |str i=>rw[show l=[]from st];exact⟨[],[],.nil,rfl,rfl,λi e h=>by simp at h⟩
 |bl b=>exact hold.elim
 |BB=>exact hold.elim
 |tup _ _=>exact hold.elim
 |@lst a d f h r=>
  have e:=r.length;rw[show l=_ from st];refine⟨d,f,r,rfl,by simp[e],λi x g=>⟨.int (i:Int),?_,.inl ⟨a,d,i,rfl,h,rfl,g⟩⟩⟩;have z:=DR g;rw[bv,Uf<|by lia];rfl
 |@BV a kvs A f h c r=>
  obtain⟨ss,rfl,j,so⟩:=st;obtain⟨es,us,n,o,p,q⟩:=Yg c r hold.1 (ss:=ss) λk c=>j.mem_iff.mp c;refine⟨es,us,n,⟨ss,j,so,o⟩,by rw[ap];exact p,λi e u=>?_⟩;obtain⟨k,w,y⟩:=q i e u;exact⟨.str k,by rw[bv,w];rfl,.inr ⟨a,kvs,k,rfl,h,rfl,y⟩⟩
noncomputable def Pt.dX:Pt->String
 | .int _=>"int"
 | .str _=>"str"
 | .bl _=>"bool"
 | .BB=>"NoneType"
 | .lst _=>"list"
 | .tup _=>"tuple"
 | .BV _ _=>"dict"
def GK:Sp:=λb H Q _=>∃(v:V)(t:Pt),b=[v]/\Val H v t/\LZ t/\∀(p:Addr)(l:List V)(a:Hp),AF H a->H p=ν->a p=ι (.lst l)->di t l->Q (.ref p) a
def La:Sp:=λd H Q _=>∃(G:Hp)(v:V)(t:Pt),d=[v]/\AF G H/\Val G v t/\LZ t/\∀(p:Addr)(b:List V)(c:List Pt)(a:Hp),AF H a->H p=ν->a p=ι (.lst b)->AS G b c->Eu t c->Q (.ref p) a
end
section
end
inductive Ak where
 |any
 |Ao (d:Pt)
 |row (xs:List Ak) (m:Bool)
 |tab (ks:List Str) (xs:List Ak) (ls:List Str) (m:Bool)
namespace Ak
mutual
noncomputable def pt:Ak->Pt
 |any=>.tup [.str "any"]
 |Ao d=>.tup [.str "just",d]
 |row xs m=>.tup [.str "row",.lst (HN xs),.bl m]
 |tab ks xs ls m=>.tup [.str "table",.BV ks (HN xs),.lst (ls.map Pt.str),.bl m]
noncomputable def HN:List Ak->List Pt
 |[]=>[]
 |x::r=>pt x::HN r
end
theorem Ae:∀xs:List Ak,HN xs=xs.map pt
 |[]=>rfl
 |x::r=>by simp only[HN,ge,Ae r]
mutual
noncomputable def size:Ak->Nat
 |any=>1
 |Ao _=>1
 |row xs _=>1+AI xs
 |tab _ xs _ _=>1+AI xs
noncomputable def AI:List Ak->Nat
 |[]=>0
 |x::r=>size x+AI r
end
mutual
noncomputable def deep:Ak->Nat
 |any=>1
 |Ao _=>1
 |row xs _=>1+AR xs
 |tab _ xs _ _=>1+AR xs
noncomputable def AR:List Ak->Nat
 |[]=>0
 |x::r=>max (deep x) (AR r)
end
mutual
def ok:Ak->Prop
 |any=>True
 |Ao d=>Sm d/\d.doc/\d.size<=10
 |row xs _=>JC xs
 |tab ks xs ls _=>ks.length=xs.length/\ks.Nodup/\(∀k∈ks,CS k=true)/\ks.length<60/\(ls.length<=60/\ls.Nodup/\A8 ls=true)/\(∀l∈ls,l∉ks)/\JC xs
def JC:List Ak->Prop
 |[]=>True
 |x::r=>ok x/\JC r
end
mutual
def ER:Ak->Prop
 |any=>True
 |Ao d=>d.txt
 |row xs _=>Mc xs
 |tab ks xs ls _=>ks.length+ls.length<=4/\Mc xs
def Mc:List Ak->Prop
 |[]=>True
 |x::r=>ER x/\Mc r
end
theorem EX:Mc l->Mc m->Mc (l++m):=by
 induction l with
 |nil=>exact λ_ h=>h
 |cons x r c=>exact λh g=>⟨h.1,c h.2 g⟩
theorem DL:∀{c:List Ak},Mc c->∀x∈c,ER x
 |y::r,h,x,a=>by
  rcases ca.mp a with rfl|a
  ·exact h.1
  ·exact DL h.2 x a
theorem size_pos(t:Ak):1<=t.size:=by cases t<;>simp only[size]<;>lia
theorem CC(t:Ak):1<=t.deep:=by cases t<;>simp only[deep]<;>lia
theorem CH:∀xs:List Ak,xs.length<=AI xs
 |[]=>bn _
 |x::r=>by have:=CH r;have:=size_pos x;simp only[g6,AI];lia
theorem AU:∀{c:List Ak}{g:Ak},g∈c->g.deep<=AR c
 |y::r,g,h=>by
  simp only[AR];rcases ca.mp h with rfl|h
  ·lia
  ·have:=AU h;lia
theorem OV:∀{c:List Ak},JC c->∀x∈c,ok x
 |y::r,h,x,a=>by
  simp only[JC]at h;rcases ca.mp a with rfl|a
  ·exact h.1
  ·exact OV h.2 x a
theorem Yh:∀{c:List Ak},(∀x∈c,ok x)->JC c
 |[],_=>trivial
 |x::r,h=>⟨h x dL,Yh λy a=>h y (b9 _ a)⟩
def cnt(c l:Nat)(m:Bool):Bool:=c==l||(m&&decide (l<c))
mutual
noncomputable def lets:Ak->Pt->Bool
 |any,_=>true
 |Ao d,t=>Pt.qf d t
 |row xs m,.lst ys=>cnt ys.length xs.length m&&dq xs ys
 |tab ks xs ls m,.BV ns ys=>(ks.all (λk=>decide (k∈ns))&& !(ls.any λk=>decide (k∈ns))&&cnt ns.length ks.length m)&&dw ks xs ns ys
 |_,_=>false
noncomputable def dq:List Ak->List Pt->Bool
 |a::as,y::ys=>lets a y&&dq as ys
 |_,_=>true
noncomputable def dw:List Str->List Ak->List Str->List Pt->Bool
 |k::ks,x::xs,ns,ys=>(match lk ns ys k with|some y=>lets x y|none=>false)&&dw ks xs ns ys
 |_,_,_,_=>true
end
noncomputable def hold:Ak->Pt
 |row xs _=>.lst (HN xs)
 |tab ks xs _ _=>.BV ks (HN xs)
 |_=>.lst []
end Ak
section
variable [BW K]
inductive lA(H:Hp):Ak->Str->List V->Prop
 |any:lA H .any "any" []
 |Ao (d:Pt) (u:V) (h:Val (K:=K) H u d):lA H (.Ao d) "just" [u]
 |row (xs:List Ak) (m:Bool) (u:V) (h:Val (K:=K) H u (.lst (Ak.HN xs))):lA H (.row xs m) "row" [u,.bl m]
 |tab (ks:List Str) (xs:List Ak) (ls:List Str) (m:Bool) (u z:V) (h:Val (K:=K) H u (.BV ks (Ak.HN xs))) (g:Val (K:=K) H z (.lst (ls.map Pt.str))):lA H (.tab ks xs ls m) "table" [u,z,.bl m]
inductive vI(H:Hp)(a:Ak):V->Prop
 |mk(t:Addr)(w:Str)(rest:List V)(h:BP K H t (.str w::rest))(c:lA (K:=K) H a w rest):vI H a (.ref t)
theorem Val.ak{a:Ak}(h:Val H v a.pt):vI (K:=K) H a v:=by
 cases a with
 |any=>
  obtain⟨t,_,rfl,h,q⟩:=Val.t1 (ts:=[]) h;rw[q.Yd]at h;exact⟨t,_,_,h,.any⟩
 |Ao d=>
  obtain⟨t,u,rfl,h,g⟩:=Val.t2 (p:=d) h;exact⟨t,_,_,h,.Ao d u g⟩
 |row b m=>
  obtain⟨t,u,z,rfl,h,g,c⟩:=Val.t3 (q:=.bl m) h;rw[c.vH]at h;exact⟨t,_,_,h,.row b m u g⟩
 |tab e b ls m=>
  obtain⟨t,u,z,y,rfl,h,g,c,f⟩:=Val.t4 (o:=.bl m) h;rw[f.vH]at h;exact⟨t,_,_,h,.tab e b ls m u z g c⟩
end
section
variable [BW K]
theorem OW{a:Type}:∀{ks:List Str}{g:List a},ks.length=g.length->ks.Nodup->ks.map (lk ks g)=g.map some:=by
 intro ks
 induction ks with
 |nil=>intro g l _;cases g with|nil=>rfl|cons _ _=>simp at l
 |cons k r b=>
  intro g l nd;cases g with
  |nil=>simp at l
  |cons x g=>
   obtain⟨c,d⟩:=j0.mp nd;rw[ge,ge,EW,if_pos rfl,<-b (by simpa using l) d];congr 1;exact A4 λy e=>by rw[EW,if_neg λz=>c<|by rw[<-z];exact e]
theorem CD{a:Type}{xs as:List a}(l:ks.length=xs.length)(nd:ks.Nodup)(pm:ss.Perm ks)(e:ss.map (lk ks xs)=as.map ι):as.Perm xs:=by
 have b:(as.map ι).Perm (xs.map ι):=by rw[<-e,<-OW l nd];exact pm.map _
 have c:=b.filterMap id;simpa using c
theorem Su{b:Type}{ks:List Str}{xs:List b}(l:ks.length=xs.length):∀{ss:List Str},(∀k∈ss,k∈ks)->∃as:List b,ss.map (lk ks xs)=as.map ι
 |[],_=>⟨[],rfl⟩
 |k::ss,h=>by
  obtain⟨as,e⟩:=Su l (ss:=ss) λx a=>h x<|b9 _ a;obtain⟨x,a⟩:=UT l<|h k dL;exact⟨x::as,by rw[ge,ge,a,e]⟩
theorem JT{a b:Type}(f:a->b):∀{ks:List Str}{c:List a},lk ks (c.map f) k=(lk ks c k).map f
 |[],c=>by simp[lk]
 |_::_,[]=>by simp[lk]
 |y::ks,x::c=>by
  rw[ge,EW,EW];by_cases e:k=y
  ·rw[if_pos e,if_pos e];rfl
  ·rw[if_neg e,if_neg e];exact JT f
end
variable{ws:List V}
section
variable [BW K]
def nw(H H':Hp):Hp:=λb=>match H b with
 |none=>H' b
 |some _=>ν
theorem BZ(h:H b=ν):nw H H' b=H' b:=by unfold nw;rw[h]
theorem JU{o}(h:H b=ι o):nw H H' b=none:=by unfold nw;rw[h]
theorem OX:AF (nw H H') H':=λb o e=>by
 cases h:H b with
 |none=>rw[BZ h]at e;exact e
 |some z=>rw[JU h]at e;cases e
structure Bt(o:Option Addr)(H H':Hp):Prop where
 keep:∀b e,o≠ι b->H b=ι e->H' b=ι e
 Fl:∀b,H' b=ν->H b=ν
theorem Bt.refl:Bt o H H:=⟨λ_ _ _ e=>e,λ_ h=>h⟩
theorem Bt.of(s:AF H H'):Bt o H H':=⟨λb e _ h=>s b e h,λb h=>s.free h⟩
theorem Bt.same(s:Bt ν H H'):AF H H':=λb e h=>s.keep b e (λz=>nomatch z) h
theorem Bt.trans(a:Bt o H g)(b:Bt o g H2):Bt o H H2:=⟨λc e n h=>b.keep c e n<|a.keep c e n h,λc h=>a.Fl c<|b.Fl c h⟩
theorem Cn(h:upd H p o b=ν):b≠p/\H b=none:=by
 by_cases e:b=p
 ·subst e;rw[AA]at h;cases h
 ·rw[AH e]at h;exact⟨e,h⟩
theorem Bt.put(a:Bt (ι l) H g):Bt (ι l) H (upd g l o):=⟨λc e n h=>by rw[AH λz=>n<|by rw[z]];exact a.keep c e n h,λb h=>a.Fl b (Cn h).2⟩
theorem Bt.new(a:Bt o H l)(h:H p=ν):Bt o H (upd l p m):=⟨λc g n d=>by rw[AH λz=>by rw[z,h]at d;cases d];exact a.keep c g n d,λb h=>a.Fl b (Cn h).2⟩
def UU(l:Addr)(H:Hp):Hp:=λb=>if b=l then ν else H b
theorem Sv(h:b≠l):UU l H b=H b:=by unfold UU;rw[if_neg h]
theorem UW:AF (UU l H) H:=λb o e=>by
 unfold UU at e;by_cases h:b=l
 ·rw[if_pos h]at e;cases e
 ·rw[if_neg h]at e;exact e
theorem CT(d:∀b,g b=ν->H b=ν)(s:∀b o,g b=ν->H2 b=ι o->c b=ι o):AF (nw g H2) (nw H c):=λb o e=>by
 cases h:g b with
 |none=>rw[BZ h]at e;rw[BZ (d b h)];exact s b o h e
 |some z=>rw[JU h]at e;cases e
theorem AS.snoc(h:AS H vs ts)(g:Val H v c):AS H (vs++[v]) (ts++[c]):=h.append<|.cons g .nil
section
variable{J:It} {te:TE} {fs:List Nat} {Q:VK}
theorem Ib(o:Option Addr)(n:Nat)(item:Nat->V)(a:Nat->List Pt->Hp->Prop)(O:n<=1000)(E:∀D,H D=ν->a 0 [] (upd H D (.lst [])))(fr:∀i us H2 D ws,Bt o H H2->H D=ν->a i us H2->a i us (upd H2 D (.lst ws)))(hl:∀l,o=ι l->H l≠ν)(t:∀i us H2,i<n->Bt o H H2->a i us H2->J.go i H2)(F:∀i us H2 v H',i<n->Bt o H H2->a i us H2->J.aJ i H2 v H'->v=item i/\H'=H2)(x:∀us H2,Bt o H H2->a n us H2->J.stop n H2)(G:∀i us H2 (R:VK),i<n->Bt o H H2->a i us H2->us.length=i->(∀w u f,Bt o H2 f->Val (nw H2 f) w u->a (i+1) (us++[u]) f->R w f)->te (ι (item i)::CY σ fs) H2 R)(I:∀D H2 ws us,H D=ν->Bt o H H2->H2 D=ι (.lst ws)->us.length=n->AS (nw H H2) ws us->a n us H2->Q (.ref D) H2):DG J JM te fs σ H Q:=by
 refine IW n item (λD i H2=>H D=ν/\Bt o H H2/\∃ws us,H2 D=ι (.lst ws)/\us.length=i/\AS (nw (upd H D<|.lst []) H2) ws us/\a i us H2) (λD c=>⟨c,.new .refl c,[],[],AA,rfl,.nil,E D c⟩) (λD i H2 g ⟨_,s,ws,us,_,_,_,d⟩=>t i us H2 g s d) (λD i H2 v H' g ⟨_,s,ws,us,_,_,_,d⟩ y=>F i us H2 v H' g s d y) (λD H2 ⟨_,s,ws,us,_,_,_,d⟩=>x us H2 s d) (λD i H2 _ g ⟨c,s,ws,us,j,m,p,d⟩=>?_) λD H2 _ ⟨c,s,ws,us,j,m,p,d⟩=>?_
 ·refine G i us H2 _ g s d m λw u f q L A=>?_;have M:o≠ι D:=λz=>hl D z c;have N:=q.keep D _ M j;have P:=p.length;have C:∀b,upd H D (.lst []) b=ν->b≠D/\H b=none:=λb h=>Cn h;refine⟨ws,N,w1 (by lia)<|Ac<|bn 1000,c,(s.trans q).new c,ws++[w],us++[u],AA,by simp[m],AS.snoc (p.up<|CT (λb h=>h) λb e r B=>?_)<|L.up<|CT (λb h=>?_) λb e r B=>?_,fr _ _ _ _ _ (s.trans q) c A⟩
  ·have k:=(C b r).1;rw[AH k];refine q.keep b e (λz=>?_) B;exact hl b z (C b r).2
  ·have k:b≠D:=Bw h j;rw[AH k];exact s.Fl b h
  ·have k:b≠D:=Bw r j;rw[AH k];exact B
 ·exact I D H2 ws us c s j m (p.up<|CT (λb h=>(Cn h).2) λb e _ h=>h) d
theorem V_(o:Option Addr)(n:Nat)(item:Nat->V)(ks:List Str)(a:Nat->List Pt->Hp->Prop)(hn:n<=1000)(Z:∀D,H D=ν->a 0 [] (upd H D (.lst [])))(fr:∀i us H2 D e,Bt o H H2->(H D=ν)->a i us H2->a i us (upd H2 D e))(hl:∀l,o=ι l->H l≠ν)(F:∀i us H2,i<n->Bt o H H2->a i us H2->J.go i H2)(hy:∀i us H2 v H',i<n->Bt o H H2->a i us H2->J.aJ i H2 v H'->v=item i/\H'=H2)(G:∀us H2,Bt o H H2->a n us H2->J.stop n H2)(he:∀i us H2 (R:VK),i<n->Bt o H H2->a i us H2->us.length=i->(∀w u k t,Bt o H2 k->Val (nw H2 k) w u->a (i+1) (us++[u]) k->k t=ν->R (.ref t) (upd k t (.tup [.str (ks.getD i ""),w])))->te (ι (item i)::CY σ fs) H2 R)(hQ:∀D H2 (ts:List Addr) ws us,H D=ν->Bt o H H2->H2 D=ι (.lst (ts.map V.ref))->ts.length=n->us.length=n->(∀(j:Nat) t w,ts[j]?=ι t->ws[j]?=ι w->H2 t=ι (.tup [.str (ks.getD j ""),w])/\H t=ν)->AS (nw H H2) ws us->a n us H2->Q (.ref D) H2):DG J JM te fs σ H Q:=by
 refine IW n item (λD i H2=>H D=ν/\Bt o H H2/\∃(ts:List Addr)(ws:List V)(us:List Pt),H2 D=ι (.lst<|ts.map V.ref)/\ts.length=i/\us.length=i/\(∀(j:Nat) t w,ts[j]?=ι t->ws[j]?=ι w->H2 t=ι (.tup [.str<|ks.getD j "",w])/\H t=ν)/\AS (nw (upd H D<|.lst []) H2) ws us/\a i us H2) (λD c=>⟨c,.new .refl c,[],[],[],AA,rfl,rfl,(λj t w h=>by simp at h),.nil,Z D c⟩) (λD i H2 q ⟨_,s,ts,ws,us,_,_,_,_,_,f⟩=>F i us H2 q s f) (λD i H2 v H' q ⟨_,s,ts,ws,us,_,_,_,_,_,f⟩ y=>hy i us H2 v H' q s f y) (λD H2 ⟨_,s,ts,ws,us,_,_,_,_,_,f⟩=>G us H2 s f) (λD i H2 _ q ⟨c,s,ts,ws,us,r,lt,B,I,C,f⟩=>?_) λD H2 _ ⟨c,s,ts,ws,us,r,lt,B,I,C,f⟩=>?_
 ·refine he i us H2 _ q s f B λw u k t m vw L x=>?_;have oD:o≠ι D:=λz=>hl D z c;have M:=m.keep D _ oD r;have S:t≠D:=Bw x M;have d4:upd k t (.tup [.str<|ks.getD i "",w]) D=ι (.lst<|ts.map V.ref):=by rw[AH<|k8 S];exact M
  have lw:=C.length;have E:H t=none:=(s.trans m).Fl t x;have T:∀b,upd H D (.lst []) b=ν->b≠D/\H b=none:=λb h=>Cn h;refine⟨ts.map V.ref,d4,w1 (by rw[ap];lia)<|Ac<|bn 1000,c,((s.trans m).new E).new c,ts++[t],ws++[w],us++[u],by rw[AA,io];rfl,by simp[lt],by simp[B],λj p U d g=>?_,AS.snoc (C.up<|CT (λb h=>h) λb e d g=>?_)<|vw.up<|CT (λb h=>?_) λb e d g=>?_,fr _ _ _ _ _ ((s.trans m).new E) c<|fr _ _ _ _ _ (s.trans m) E L⟩
  ·by_cases hj:j<ts.length
   ·rw[g9 hj]at d;rw[g9<|by lia]at g;obtain⟨g1,X⟩:=I j p U d g;have N:=m.keep p _ (λz=>hl p z X) g1;have n1:p≠t:=Bw N x;have n2:p≠D:=Bw N M;exact⟨by rw[AH n2,AH n1];exact N,X⟩
   ·have O:=DR d;rw[b8,i5]at O;have ej:j=i:=by lia
    subst ej;rw[jc<|by lia,lt,Gc]at d;have e1:t=p:=by simpa using d
    subst e1;rw[jc<|by lia,show j-ws.length=0 by lia]at g;have e2:w=U:=by simpa using g
    subst e2;exact⟨by rw[AH S,AA],E⟩
  ·have A:=(T b d).1;have hb:=(T b d).2;have Y:=m.keep b e (λz=>hl b z hb) g;have P:b≠t:=Bw Y x;rw[AH A,AH P];exact Y
  ·have A:b≠D:=Bw h r;rw[AH A];exact s.Fl b h
  ·have A:b≠D:=Bw d r;have P:b≠t:=Bw g x;rw[AH A,AH P];exact g
 ·exact hQ D H2 ts ws us c s r lt B I (C.up<|CT (λb h=>(Cn h).2) λb e _ h=>h) f
end
mutual
def Pt.nice:Pt->Prop
 | .int _| .str _| .bl _| .BB=>True
 | .lst xs| .tup xs=>xs.length<=900/\Pt.EY xs
 | .BV ks xs=>ks.length=xs.length/\ks.Nodup/\ks.length<=900/\Pt.EY xs
def Pt.EY:List Pt->Prop
 |[]=>True
 |x::r=>Pt.nice x/\Pt.EY r
end
theorem Pt.Gi:∀{c:List Pt},Pt.EY c->∀x∈c,x.nice
 |y::r,h,x,a=>by
  simp only[Pt.EY]at h;rcases ca.mp a with rfl|a
  ·exact h.1
  ·exact Pt.Gi h.2 x a
theorem Pt.QS:∀{c:List Pt},(∀x∈c,x.nice)->Pt.EY c
 |[],_=>trivial
 |x::r,h=>⟨h x dL,Pt.QS λy a=>h y (b9 _ a)⟩
mutual
theorem Pt.Ic:∀t:Pt,t.doc->t.size<=900->t.nice
 | .int _=>λ_ _=>trivial
 | .str _=>λ_ _=>trivial
 | .bl _=>λd _=>by simp[Pt.doc]at d
 | .BB=>λd _=>by simp[Pt.doc]at d
 | .tup _=>λd _=>by simp[Pt.doc]at d
 | .lst xs=>λd z=>by
  simp only[Pt.doc]at d;simp only[Pt.size]at z;have:=Pt.CH xs;simp only[Pt.nice];exact⟨by lia,Pt.JV xs d<|by lia⟩
 | .BV a xs=>λd z=>by
  simp only[Pt.doc]at d;simp only[Pt.size]at z;simp only[Pt.nice];exact⟨d.1,d.2.1,by lia,Pt.JV xs d.2.2.2.2<|by lia⟩
theorem Pt.JV:∀xs:List Pt,Pt.CF xs->Pt.AI xs<=900->Pt.EY xs
 |[]=>λ_ _=>trivial
 |x::r=>λd z=>by
  simp only[Pt.CF]at d;simp only[Pt.AI]at z;exact⟨Pt.Ic x d.1<|by lia,Pt.JV r d.2<|by lia⟩
end
def KZ(ks:List Str)(ws:List V):List (Key×V):=(ks.zip ws).map λp=>(d0 p.1,p.2)
theorem Ew(l:ks.length=ws.length):(KZ ks ws).map (·.1)=ks.map d0:=by
 unfold KZ;rw[o0];have:(ks.zip ws).map V2=ks:=Z1<|by lia
 conv=>rhs;rw[<-this,o0]
 rfl
theorem Ie(l:ks.length=ws.length):(KZ ks ws).map (·.2)=ws:=by
 unfold KZ;rw[o0];have:(ks.zip ws).map abR=ws:=Z0<|by lia
 conv=>rhs;rw[<-this]
 rfl
theorem OY(l:ks.length=ws.length):(KZ ks ws).length=ks.length:=by
 have:=congrArg pp<|Ew l;simpa using this
theorem bU{k:Key}(h:(KZ ks ws)[j]?=ι (k,v)):∃a,ks[j]?=ι a/\ws[j]?=ι v/\k=d0 a:=by
 unfold KZ at h;rw[bv]at h;cases e:(ks.zip ws)[j]? with
 |none=>rw[e]at h;cases h
 |some p=>
  obtain⟨x,y⟩:=p;rw[e]at h;have h:=ACw h;rw[A9]at e;have b:(d0 x:Key)=k:=congrArg V2 h;have c:y=v:=congrArg abR h;subst b c;exact⟨x,e.1,e.2,rfl⟩
theorem NI(l:ks.length=ws.length)(nd:ks.Nodup):CW [] (KZ ks ws)=KZ ks ws:=FP _ _ (by
 have:((KZ ks ws).map (·.1)).Nodup:=by
  rw[Ew l];exact List.Pairwise.map _ (λa b h z=>h<|A5 z) nd
 simpa using this)
theorem GN{kvs:List (Key×V)}(c:kvs.map (·.1)=ks.map d0){k:Key}(e:kvs[i]?=ι (k,v)):i<ks.length/\k=d0 (ks.getD i ""):=by
 have d:kvs.length=ks.length:=by have:=congrArg pp c;simpa using this
 have a:=DR e;rw[d]at a;refine⟨a,?_⟩;have b:=congrArg (λz=>z[i]?) c;simp only[bv,e,ACu a]at b;have b:k=d0 ks[i]:=by simpa using b
 rw[b,ci,ACu a];rfl
theorem OZ{kvs:List (Key×V)}:∀{ks:List Str}{ts:List Pt},kvs.map (·.1)=ks.map d0->AS H (kvs.map (·.2)) ts->ks.Nodup->∀{i:Nat},i<ks.length->∃v t,BF kvs (d0 (ks.getD i ""))=ι v/\ts[i]?=ι t/\Val H v t:=by
 induction kvs with
 |nil=>
  intro ks ts h _ _ i b;cases ks with
  |nil=>simp at b
  |cons _ _=>simp at h
 |cons p kvs c=>
  intro ks ts h r nd i b;cases ks with
  |nil=>simp at h
  |cons x ks=>
   obtain⟨y,v⟩:=p;simp only[ge,u3]at h;obtain⟨e,h⟩:=h;subst e;cases r with
   |cons d r=>
   cases i with
   |zero=>exact⟨v,_,Bl rfl,by simp,d⟩
   |succ i=>
    obtain⟨f,g⟩:=j0.mp nd;have a:i<ks.length:=by simpa using b
    obtain⟨w,t,j,k,l⟩:=c h r g a;rw[show(x::ks).getD (i+1) ""=ks.getD i ""by simp];refine⟨w,t,?_,by simpa using k,l⟩;rw[Bg λz=>f ?_]
    ·exact j
    ·have z:=A5 z;rw[z,ci,ACu a];exact B0 a
mutual
noncomputable def Pt.wide:Pt->Nat
 | .int _| .str _| .bl _| .BB=>0
 | .lst xs| .tup xs=>Pt.Yi xs
 | .BV ks xs=>max ks.length (Pt.Yi xs)
noncomputable def Pt.Yi:List Pt->Nat
 |[]=>0
 |x::r=>max (Pt.wide x) (Pt.Yi r)
end
structure aK(H:Hp)(n:Addr)(ys:List Str):Prop where
 at_:H n=ι (.lst (ys.map V.str))
 len:ys.length=4
 nd:ys.Nodup
 nb:∀y∈ys,CS y=true
theorem aK.up(h:aK H n c)(s:AF H H'):aK H' n c:=⟨s _ _ h.at_,h.len,h.nd,h.nb⟩
theorem aK.but(h:aK H n c)(s:Bt (ι l) H H')(nl:n≠l):aK H' n c:=⟨s.keep _ _ (λz=>nl (ACw z).symm) h.at_,h.len,h.nd,h.nb⟩
def QT:Sp:=λb H Q _=>∃c:Int,b=[.int c]/\∀(p:Addr)(d:List Str)(a:Hp),AF H a->H p=ν->aK a p d->Q (.ref p) a
structure Small(H H':Hp)(v:V)(t:Pt):Prop where
 val:Val (nw H H') v t
 sm:Sm t
 doc:t.doc
 size:t.size<=4
 deep:t.deep<=2
 txt:t.txt
def Oa:Sp:=λb H Q _=>∃(c:Int)(k:Nat)(n:Addr)(d:List Str),b=[.int c,.int (k:Int),.ref n]/\k<=1000/\aK H n d/\∀(v:V)(t:Pt)(a:Hp),AF H a->Small H a v t->Q v a
def Ka(n:Nat):Sp:=λb H Q _=>∃(v:V)(t:Pt),b=[v]/\Val H v t/\t.nice/\t.deep<=n/\∀(w:V)(a:Hp),AF H a->Val (nw H a) w t->Q w a
def Ob(n:Nat):Sp:=λg H Q _=>∃(l:Addr)(d:Nat)(f:Addr)(c:List Int)(h:List Str),g=[.ref l,.int (d:Int),.ref f]/\d+4<=n/\H l=ι (.lst<|c.map V.int)/\c.length<=100/\f≠l/\aK H f h/\
 ∀(v:V)(a:Ak)(b:List Int)(e:Hp),Bt (ι l) H e->e l=ι (.lst (b.map V.int))->b.length<=c.length->Val (nw H e) v a.pt->a.ok->a.size<=1+4*(c.length-b.length)->a.deep<=d+1->a.ER->Q v e
def ov(G H H':Hp):Hp:=λb=>match G b with
 |some o=>ι o
 |none=>nw H H' b
def UX:Sp:=λf H Q _=>∃(v:V)(a:Ak)(c:Int)(e:Addr)(g:List Str),f=[v,.int c,.ref e]/\Val H v a.pt/\a.ok/\a.size<=57/\a.deep<=5/\a.ER/\aK H e g/\
 ∀(w:V)(b:Ak)(d:Hp),AF H d->Val d w b.pt->b.ok->b.size<=70->b.deep<=15->b.ER->Q w d
end
section
variable [BW K]
theorem QU{a:List (Key×V)}{ns:List Str}(b:a.map (·.1)=ns.map d0)(k:Str):(BF a (d0 k)).isSome=decide (k∈ns):=by
 rw[F9,decide_eq_true_iff];have c:(d0 k:Key)∈a.map (·.1)↔k∈ns:=by
  rw[b];constructor
  ·intro h;obtain⟨y,d,e⟩:=m7.mp h;rw[<-A5 e];exact d
  ·exact λh=>T8 h
 rw[<-c];cases e:BF a (d0 k:Key)with
 |none=>simp only[abF];exact⟨(λh=>nomatch h),λh=>absurd h (Xk e)⟩
 |some z=>simp only[Ps];exact⟨λ_=>UD e,λ_=>trivial⟩
theorem JW(ns:List Str)(p:Str->Bool):((oo ns.length).filter λi=>p (ns.getD i "")).map (λi=>V.str (ns.getD i ""))=(ns.filter p).map V.str:=by
 induction ns with
 |nil=>rfl
 |cons x r a=>
  rw[g6,List.range_succ_eq_map,w8,w8,List.filter_map,List.getD_cons_zero];have e:((λi=>p<|(x::r).getD i "")∘Nat.succ)=λi=>p (r.getD i ""):=by funext i;simp
  have b:((λi=>V.str<|(x::r).getD i "")∘Nat.succ)=λi=>V.str (r.getD i ""):=by funext i;simp
  cases p x with
  |true=>simp only[if_true,ge,o0];rw[e,b,a];rfl
  |false=>simp only[K3,if_false,o0];rw[e,b,a]
theorem UY{a:Type}{ps:List a}{f:a->Bool}:∀{vs:List V},vs.length=ps.length->(∀(i:Nat) v,vs[i]?=ι v->∃p,ps[i]?=ι p/\v=.bl (f p))->vs=(ps.map f).map V.bl:=by
 intro vs l h;refine N6 (by simp[l]) λi b e=>?_;obtain⟨p,e1,c⟩:=h i _<|ACu b;have d:i<ps.length:=by lia
 rw[ACu d]at e1;have e1:=ACw e1;rw[c,<-e1];simp
end
section
theorem Ig:∀{g:List b7},Vals (ss.map V.str) g->E9 g ss:=by
 induction ss with
 |nil=>intro g h;cases h;exact .nil
 |cons x r a=>
  intro g h;cases h with
  |cons b c=>
   obtain⟨t,rfl⟩:=b;exact .cons x t<|a c
inductive Yj(K:ACy)(xs:List V)(H:Hp)(Q:VK):Prop
 |mk(d:Addr)(ss:List Str)(b:xs=[.ref d])(c:Ag K H d (ss.map V.str))(e:ss.length<64)(f:∀(p:Addr) (a:List Str) (H':Hp),H p=ν->AF H H'->H' p=ι (.lst (a.map V.str))->a.Perm ss->A8 a=true->Q (.ref p) H')
theorem Oc(T:X.calm=true):Bo X (.builtin "sorted") (Yj X.K):=by
 intro pins s U H W Y Q I r h;obtain⟨d,y,rfl,J,n,q⟩:=h;obtain⟨u,rfl,L⟩:=vals1 r;cases L;obtain⟨a,z,M,l⟩:=I.list J;obtain⟨Z,p,j,hn,k⟩:=id M.isList;have A:a.length=y.length:=by rw[<-z.length,ap]
 have l:a.length<=sizeLine:=t8 (Ac<|by lia);have t:E9 a y:=Ig z;refine N7 acL abU abW (abY _) ?_;unfold adS.«sorted»;refine am (m:=adb "sorted" 1 1 _) (ce<|am<|wpAny_collect_seq d (.inl rfl) p j k (λc keep=>?_)<|by rw[cr];exact l);rw[T7];refine am<|abk ?_ l;have f:(c.push {cls:=.type "list",data:=.seq a.toArray}).get? c.objs.size=ι (seqObj "list" a.toArray 0):=g8 _ rfl;refine am<|j8<|u4 aaT ⟨_,f,rfl⟩ aas (aar abn f t.keysOf (λB C rest e=>abV<|by rw[<-e];exact t) (by rw[A];exact n) λg a1 a2=>⟨_,rfl,?_⟩)<|aaY _;obtain⟨i,N,D,O⟩:=aaR t a1 a2;obtain⟨P,R⟩:=abo (out:=(aaL g).map (·.2)) f;refine ce ⟨_,rfl,?_⟩;have v:(c.push {cls:=.type "list",data:=.seq a.toArray}).objs.size=c.objs.size+1:=ac9 ..;have E:=I.kept (t':=s.toks) keep;have S:∀b o,c.get? b=ι o->(V4 (c.push {cls:=.type "list",data:=.seq a.toArray}) c.objs.size a ((aaL g).map (·.2))).get? b=ι o:=λb o e=>by
  have F:b<c.objs.size:=g7 e;rw[aaS (i4 F)<|by rw[v];exact G0 F];exact be _ e
 have x:i.length<=sizeLine:=by
  rw[D.length_eq,<-A];exact l
 have new:Ay X.prog X.w (upd H c.objs.size<|.lst<|i.map V.str) (V4 (c.push {cls:=.type "list",data:=.seq a.toArray}) c.objs.size a ((aaL g).map (·.2))) c.objs.size (.lst<|i.map V.str):=
  ⟨by rw[ap];exact x,((aaL g).map (·.2)).toList,P,Gf N,by rw[B7];exact R⟩
 have G:H c.objs.size=none:=E.fresh;exact⟨.ref c.objs.size,_,E.laid (t':=s.toks) S (bn _) new,rfl,q _ i _ G (AF.new G) AA D O⟩
inductive h_(xs:List V)(H:Hp)(Q:VK):Prop
 |mk(d:Addr)(a:List (Key×V))(ss:List Str)(b:xs=[.ref d])(c:Rd H d (.dK a))(e:a.map (·.1)=ss.map d0)(f:Rp H (.lst (ss.map V.str)) Q)
theorem DM(m:X.calm=true):Bo X (.type "list") h_:=by
 intro pins s G H J K Q I r h;obtain⟨d,n,g,rfl,hd,o,q⟩:=h;obtain⟨u,rfl,p⟩:=vals1 r;cases p;obtain⟨z,t,b,c,x⟩:=EO I.Ax hd;have i:b.length=n.length:=c.length.symm;have f:b.map (·.1)=g.map d0:=by rw[<-o];exact(KV.keys c).symm
 obtain⟨ep,k⟩:=x.dictAt;have l:b.length<=sizeLine:=by rw[i];exact z
 refine act (acs (knd:=Ah X.prog X.w) (kvs:=b) (ep:=ep) t) (I.ok.hd m) k l λy A a B C D items=>?_;have E:a.toList.length=b.length:=by rw[j6];exact items.1
 have F:E9 a.toList g:=M' (P:=X.prog) (w:=X.w) f E λj v e=>items.2 j v (by rw[<-q4];exact e);have ls:g.length<=sizeLine:=by
  have:=congrArg pp f;rw[ap,ap]at this;rw[<-this];exact l
 exact⟨.ref s.heap.objs.size,_,I.laid (t':=A) C (bn _)<|show Ay X.prog X.w _ y _ (.lst _)from⟨by rw[ap];exact ls,a.toList,B,Gf F,by rw[B7];exact D⟩,rfl,q _ I.fresh⟩
end
section
variable [BW K]
namespace Ak
theorem FU(a b:List Ak):HN (a++b)=HN a++HN b:=by simp[Ae]
theorem Bd(a b:List Ak):AI (a++b)=AI a+AI b:=by
 induction a with
 |nil=>simp[AI]
 |cons x r c=>simp only[jp,AI,c];lia
theorem Dt(a b:List Ak):AR (a++b)=max (AR a) (AR b):=by
 induction a with
 |nil=>simp[AR]
 |cons x r c=>simp only[jp,AR,c];lia
theorem FV(h:JC l)(g:JC m):JC (l++m):=Yh λx c=>(db.mp c).elim (OV h x)<|OV g x
theorem Gj(a:Ak):AI [a]=a.size:=by simp[AI]
theorem Gm(a:Ak):AR [a]=a.deep:=by simp[AR]
theorem Kb(h:c.ok):JC [c]:=⟨h,trivial⟩
end Ak
theorem Sw(l:ks.length=ws.length)(y:Str)(v:V):KZ (ks++[y]) (ws++[v])=KZ ks ws++[(d0 y,v)]:=by
 unfold KZ;rw[acR l,io];rfl
theorem bV(l:ks.length=ws.length)(h:y∉ks)(v:V):putK (KZ ks ws) (d0 y) v=KZ (ks++[y]) (ws++[v]):=by
 rw[Sw l,LA];have:=QU (Ew l) y;rw[decide_eq_false h]at this;cases e:BF (KZ ks ws) (d0 y:Key)with
 |none=>rfl
 |some z=>rw[e]at this;cases this
structure Gz(H H4:Hp)(l p6 p7:Addr)(ys:List Str)(d N:Nat)(i:Nat)(Hi:Hp)(ks:List Str)(as:List Ak)(ls:List Str)(UZ:List Int)(ws:List V):Prop where
 n6:H p6=ν
 n7:H p7=ν
 o6:H4 p6≠ν
 o7:H4 p7≠ν
 ne:p6≠p7
 hl:H l≠ν
 h4:∀b,H4 b=ν->H b=ν
 bt:Bt (ι l) H Hi
 dm:∀b,Hi b=ν->H4 b=ν
 e6:Hi p6=ι (.dK (KZ ks ws))
 e7:Hi p7=ι (.lst (ls.map V.str))
 el:Hi l=ι (.lst (UZ.map V.int))
 le:UZ.length<=N
 lw:ks.length=ws.length
 la:ks.length=as.length
 vl:AS (nw H4 Hi) ws (Ak.HN as)
 ok:Ak.JC as
 fw:Ak.Mc as
 lm:ks.length+ls.length<=i
 sz:Ak.AI as<=i+4*(N-UZ.length)
 dp:Ak.AR as<=d
 ik:∀k∈ks,∃j,j<i/\ys[j]?=ι k
 il:∀k∈ls,∃j,j<i/\ys[j]?=ι k
 nk:ks.Nodup
 dj:∀x∈ls,x∉ks
 l4:ks.length<=i
 m4:ls.length<=i
 nl:ls.Nodup
section
variable{H4:Hp} {l p6 p7:Addr} {ys:List Str} {d N:Nat} {Hi:Hp} {as:List Ak} {ls:List Str} {UZ:List Int} 
theorem Gz.up(t:Gz H H4 l p6 p7 ys d N i Hi ks as ls UZ ws)(s:AF Hi H'):Gz H H4 l p6 p7 ys d N i H' ks as ls UZ ws:=
 {t with bt:=t.bt.trans (.of s),dm:=λb h=>t.dm b (s.free h),e6:=s _ _ t.e6,e7:=s _ _ t.e7,el:=s _ _ t.el,vl:=t.vl.up (CT (λb h=>h) λb e _ h=>s _ _ h)}
theorem Gz.weak(t:Gz H H4 l p6 p7 ys d N i Hi ks as ls UZ ws):Gz H H4 l p6 p7 ys d N (i+1) Hi ks as ls UZ ws:=
 {t with sz:=by have:=t.sz;lia,lm:=by have:=t.lm;lia,ik:=λk a=>let⟨j,c,b⟩:=t.ik k a;⟨j,by lia,b⟩,il:=λk a=>let⟨j,c,b⟩:=t.il k a;⟨j,by lia,b⟩,l4:=by have:=t.l4;lia,m4:=by have:=t.m4;lia}
theorem Gz.fresh(t:Gz H H4 l p6 p7 ys d N i Hi ks as ls UZ ws)(c:ys[i]?=ι y)(nd:ys.Nodup):y∉ks/\y∉ls:=by
 have e:=DR c;have inj:∀j,j<i->ys[j]?=ι y->False:=λj b a=>by
  rw[<-c]at a;have:=(M5 (by lia) nd).mp a;lia
 exact⟨λh=>let⟨j,b,a⟩:=t.ik y h;inj j b a,λh=>let⟨j,b,a⟩:=t.il y h;inj j b a⟩
theorem Gz.qi(t:Gz H H4 l p6 p7 ys d N i Hi ks as ls UZ ws)(c:ys[i]?=ι y)(nd:ys.Nodup):Gz H H4 l p6 p7 ys d N (i+1) (upd Hi p7 (.lst (ls.map V.str++[.str y]))) ks as (ls++[y]) UZ ws:=by
 have f:=t.fresh c nd;have l7:l≠p7:=λz=>t.hl (by rw[z];exact t.n7);exact{t.weak with
  bt:=t.bt.new t.n7
  dm:=λb h=>t.dm b (Cn h).2
  e6:=by rw[AH t.ne];exact t.e6
  e7:=by rw[AA,io];rfl
  el:=by rw[AH l7];exact t.el
  vl:=t.vl.up (CT (λb h=>h) λb e g j=>by rw[AH (λz=>t.o7 (by rw[<-z];exact g))];exact j)
  il:=λk m=>(db.mp m).elim (λh=>t.weak.il k h) λh=>⟨i,by lia,by rw[bi.mp h];exact c⟩
  dj:=λx n=>(db.mp n).elim (λh=>t.dj x h) λh=>by rw[bi.mp h];exact f.1
  m4:=by have:=t.m4;simp;lia
  lm:=by have:=t.lm;simp;lia
  nl:=i3.mpr ⟨t.nl,by simp,λa o b p z=>f.2 (by rw[<-bi.mp p,<-z];exact o)⟩}
theorem Gz.asked(t:Gz H H4 l p6 p7 ys d N i Hi ks as ls UZ ws)(o:ys[i]?=ι y)(nd:ys.Nodup)(bt:Bt (ι l) Hi H')(el:H' l=ι (.lst (c.map V.int)))(le:c.length<=UZ.length)(q:Val (nw Hi H') v u.pt)(ok:u.ok)(sz:u.size<=1+4*(UZ.length-c.length))(dp:u.deep<=d)(fw:u.ER):
  H' p6=ι (.dK (KZ ks ws))/\putK (KZ ks ws) (d0 y) v=KZ (ks++[y]) (ws++[v])/\Gz H H4 l p6 p7 ys d N (i+1) (upd H' p6 (.dK (KZ (ks++[y]) (ws++[v])))) (ks++[y]) (as++[u]) ls c (ws++[v]):=by
 have f:=t.fresh o nd;have l6:l≠p6:=λz=>t.hl (by rw[z];exact t.n6);have l7:l≠p7:=λz=>t.hl (by rw[z];exact t.n7);have e6:=bt.keep _ _ (λz=>l6 (ACw z)) t.e6;have e7:=bt.keep _ _ (λz=>l7 (ACw z)) t.e7;refine⟨e6,bV t.lw f.1 v,{t.weak with
  bt:=(t.bt.trans bt).new t.n6
  dm:=λb h=>t.dm b (bt.Fl b (Cn h).2)
  e6:=AA
  e7:=by rw[AH (k8 t.ne)];exact e7
  el:=by rw[AH l6];exact el
  le:=j5 le t.le
  lw:=by have:=t.lw;simp[this]
  la:=by have:=t.la;simp[this]
  vl:=?_
  ok:=Ak.FV t.ok (Ak.Kb ok)
  fw:=Ak.EX t.fw ⟨fw,trivial⟩
  lm:=by have:=t.lm;simp;lia
  sz:=by
   rw[Ak.Bd,Ak.Gj];have:=t.sz;have:=t.le;lia
  dp:=by rw[Ak.Dt,Ak.Gm];have:=t.dp;lia
  ik:=λk r=>(db.mp r).elim (λh=>t.weak.ik k h) λh=>⟨i,by lia,by rw[bi.mp h];exact o⟩
  nk:=by
   rw[i3];refine⟨t.nk,by simp,λu p b g z=>?_⟩;rw[bi.mp g]at z;rw[z]at p;exact f.1 p
  dj:=λx m h=>(db.mp h).elim (λh=>t.dj x m h) λh=>by
   rw[bi.mp h]at m;exact f.2 m
  l4:=by have:=t.l4;simp;lia}⟩
 rw[Ak.FU];refine(t.vl.up<|CT (λb h=>h) λb e j n=>?_).snoc<|q.up<|CT (λb h=>t.dm b h) λb e j n=>?_
 ·have g:b≠p6:=λz=>t.o6 (by rw[<-z];exact j);rw[AH g];exact bt.keep b e (λz=>t.hl<|by rw[ACw z];exact t.h4 b j) n
 ·have g:b≠p6:=λz=>by rw[z,t.e6]at j;cases j
  rw[AH g];exact n
end
end
section
variable [BW K]
section
inductive lB(x y:V)(H:Hp)(Q:VK):Prop
 |mk(l b:Addr)(xs zs:List V)(a:x=.ref l)(c:y=.ref b)(d:Rd H l (.lst xs))(e:Rd H b (.lst zs))(f:xs.length+zs.length<=sizeLine)(g:Rp H (.lst (xs++zs)) Q)
theorem Kc:Dr X (Is .Add) lB:=by
 intro pins s p H x y v u Q I f g h;obtain⟨l,b,t,w,rfl,rfl,i,j,A,q⟩:=h;cases f;cases g;obtain⟨z,c,n,r,e⟩:=i.ok I.Ax;obtain⟨z2,a,B,d,k⟩:=j.ok I.Ax;have C:=r.length;have m:=d.length;refine PySem.P.add_list e k ?_ (by rw[cr,cr];lia);have o:c.toArray++a.toArray=(c++a).toArray:=by simp
 rw[o];exact⟨.ref _,_,I.aq (t':=s.toks) (r.append d)<|by rw[b8];lia,rfl,q _ I.fresh⟩
end
end
section
variable [BW K]
theorem Bt.over(s:AF g c)(d:g D=ν)(bt:Bt (ι D) c H2):AF g H2:=λb o e=>bt.keep b o (λz=>by rw[<-ACw z,d]at e;cases e)<|s _ _ e
theorem ints_of:∀{vs:List V},(∀(i:Nat) v,vs[i]?=ι v->∃z:Int,v=.int z)->∃a:List Int,vs=a.map V.int
 |[],_=>⟨[],rfl⟩
 |v::r,h=>by
  obtain⟨z,rfl⟩:=h 0 v rfl;obtain⟨a,rfl⟩:=ints_of (vs:=r) λi v b=>h (i+1) v (by simpa using b);exact⟨z::a,rfl⟩
end
end L2
namespace PySem
open PyProof.Rows PySem.F PySem.Spec
theorem Md:Sc (.type "zip") "keys"=pure none:=by rw[O6,Fa];kernel_rfl
theorem JX:Sc (.type "zip") "__getattr__"=pure none:=by rw[O6,Fa];kernel_rfl
theorem FW:aaN adX "zip.__getattribute__"=ι Builtin.«object.__getattribute__»:=
 aaX (id':="object.__getattribute__") (by kernel_rfl) (by decide+kernel) (by decide+kernel) (by kernel_rfl)
theorem Yk(a:Addr)(fs:Array b7)(name:Str)(u:Tok)(e:Sc (.type "zip") name=pure ν)(b:(["__module__","__name__","__qualname__","__doc__","__annotations__"]:List Str).contains name=false)(hsz:name.length+100<=sizeLine:=by size_fits):
  Meets (Builtin.«object.__getattribute__» ⟨[.ref a,.str name u],[]⟩) (λA R s=>s.heap.get? a=ι {cls:=.type "zip",dict:=ν,data:=.fields fs,slots:= #[]}/\raisesAttr (.ref a) name A R s):=
 Meets.of_wp λprog w A R s c=>by
  obtain⟨f,g,d,h,os⟩:=s;obtain⟨i,c⟩:=c;have j:(⟨f,g,d,h,os⟩:d8).TypeIs (.ref a) "zip":=⟨_,i,rfl⟩;unfold Builtin.«object.__getattribute__»
  repeat (any_goals (first|assumption|wp_step))
  simp only[b,K3,if_false]
  repeat (any_goals (first|assumption|wp_step))
  exact wpAny_raiseAttrError c.1 c.2<|attrMsg_fits (by decide+kernel) hsz
theorem Me{prog:om}{w:u8}{A:AT}{E:b7->d8->Prop}{s:d8}{a:Addr}{fs:Array b7}{Q:Option b7->d8->Prop}(i:s.heap.get? a=ι {cls:=.type "zip",dict:=ν,data:=.fields fs,slots:= #[]})(l:A.handled=ν)(h:∀f j e,adI s.heap f e "AttributeError"->Q ν {s with heap:=f,toks:=j}):
  g5 (i7 prog w) A (ac5 (.ref a) "keys") Q E s:=by
 obtain⟨m,g,d,j,os⟩:=s;have k:∀b,(⟨m,g,d,b,os⟩:d8).TypeIs (.ref a) "zip":=λ_=>⟨_,i,rfl⟩;have n:=abw;have o:=P3.lookup;have p:=P3.bind<|.ref a;have q:=JX;unfold ac5 getAttrBy? getAttrBy
 repeat (any_goals (first|assumption|exact k _|((with_reducible show g5 _ _ (call (adC "zip.__getattribute__") _ _) _ _ _);refine J8 P3 (k _) FW (F.args_zip_getattribute_2 _ _) (Yk a fs "keys" _ Md (by decide+kernel)) ⟨i,l,λf b e c=>?_⟩)|wp_step))
 obtain⟨r,t,u⟩:=c.there;show g5 _ _ (O7 _ _ _ _ _ _ _) _ _ _;unfold O7
 repeat (any_goals (first|assumption|wp_step))
 exact h _ _ _ c.of
end PySem
namespace L2
open PySem PySem.Spec PyProof.Rows
variable{prog:om}{w:u8}{A:AT}{R:abt->d8->Prop}
section
variable {K:Type} [DecidableEq K] {knd:KeyKind prog w K} 
theorem V'{d z TI TO t u l1 l2:Addr}{xs ys:Array b7}{more:List (K×b7)}(Q:A.handled=ν)(D:abQ z TI TO t u l1 l2)(c:z≠d/\TI≠d/\TO≠d/\t≠d/\u≠d/\l1≠d/\l2≠d)(hl:xs.size=more.length)(hsz:more.length<=100000)(S:∀(j:Nat) l f,more[j]?=ι (l,f)->∃a,xs[j]?=ι a/\ys[j]?=ι f/\knd.is l a=true):
  ∀(k i:Nat)(s:d8),more.length-i=k->i<=more.length->gx s.heap z TI TO t u l1 l2 d i xs ys->s.heap.DictOf knd d (Tk [] (more.take i))-> (∀h' tk,h'.DictOf knd d (Tk [] more)->(∀b o,b≠d->b≠z->b≠TO->b≠t->b≠u->s.heap.get? b=ι o->h'.get? b=ι o)->R (.ok (.ret .none)) {s with heap:=h',toks:=tk})->
   E8 (i7 prog w) A (.builtin "dict.update.loop" ⟨[.ref d,.ref z,sn (i:Int),.none],[]⟩) R s:=by
 intro k
 induction k with
 |zero=>
  intro i s T U st v y;have B:i=more.length:=by lia
  subst B;refine uy Cr ?_;rw[p9 BS _];show g5 _ A.in1 (On (.ref z)>>=_) _ _ s;refine am (YW (A:=A.in1) Q D st (by simp[<-hl]) λh' kept=>?_);rw[im]at v;obtain⟨o,C,E,x,r⟩:=v;show g5 _ A.in1 (Y2 d []>>=_) _ _ _;exact am (ce<|ce<|y h' s.toks ⟨o,C,E,kept _ _ c.1.symm c.2.2.1.symm c.2.2.2.1.symm c.2.2.2.2.1.symm x,r⟩ λb o _ c1 c2 c3 c4 e=>kept b o c1 c2 c3 c4 e)
 |succ k V=>
  intro i s T U st v y;have m:i<more.length:=by lia
  obtain⟨⟨l,f⟩,N⟩:∃p,more[i]?=ι p:=⟨_,ACu m⟩;obtain⟨a,W,X,g⟩:=S i l f N;obtain⟨o,C,E,x,r⟩:=id v;have F:d<s.heap.objs.size:=g7 x;refine uy Cr ?_;rw[p9 BS _];show g5 _ A.in1 (On (.ref z)>>=_) _ _ s;refine am (YV (A:=A.in1) D st F W X λh' G h O kept=>?_);have Y:({s with heap:=h'}:d8).TypeIs (.ref s.heap.objs.size) "tuple":=⟨_,h,rfl⟩;have H:h'.DictOf knd d (Tk []<|more.take i):=⟨o,C,E,kept _ _ c.1.symm c.2.2.1.symm c.2.2.2.1.symm c.2.2.2.2.1.symm x,r⟩;have I:(Tk []<|more.take i).length<=sizeLine:=by
   have:=acn ([]:List (K×b7))<|more.take i;rw[re,F7]at this;have e:sizeLine=16777216:=M7;lia
  show g5 _ A.in1 (P7 [jM s.heap.objs.size] _>>=_) _ _ _;refine am<|j8<|am<|adi ?_;unfold aap;refine am<|C8 Y ?_;rw[if_pos<|by decide];unfold aa9;refine am ?_;refine am<|abu h ?_;refine ce<|ce ?_;show g5 _ A.in1 (P7 [a,f]<|adR d a f) _ _ _;refine j8 ?_;unfold adR
  try with_reducible refine j8 ?_
  refine am<|knd.pyHash g ?_;refine W6 (hsz:=I) g H λh2 n q=>?_;have e1:adN (Tk []<|more.take i) l f=Tk [] (more.take<|i+1):=(acm [] more i (l,f) N).symm;rw[e1]at n;have Z:((i:Int)+1)=((i+1:Nat):Int):=by simp
  refine ce ⟨x6 BS _,?_⟩;rw[Z];refine V (i+1) _ (by lia) m (G.keep (λb o hb e=>by rw[q.2 b hb];exact e) c) n λh3 J L M=>y h3 J L λb o P c1 c2 c3 c4 e=>M b o P c1 c2 c3 c4<|by rw[q.2 b P];exact kept b o c1 c2 c3 c4 e
end
variable{s:d8}{pins:List (Addr×Obj)}{X:Cx}{H:Hp}{p:Pos}
section
variable {σ:St} 
def jR(ks:List Str)(ys:List V):List (Key×V):=(ks.zip ys).map λp=>(d0 p.1,p.2)
inductive qj(K:ACy)(x y:V)(H:Hp)(Q:VK):Prop
 |mk(a b:Addr)(ks:List Str)(ys:List V)(c:x=.ref a)(d:y=.ref b)(e:Ag K H a (ks.map V.str))(f:Ag K H b ys)(hl:ks.length=ys.length)(hz:ks.length<=1000)(q:Rp H (.dK (CW [] (jR ks ys))) Q)
def yU(K:ACy)(t1 t2:TE):TE:=fun σ H Q=>t1 σ H λx a=>t2 σ a λy b=>qj K x y b Q
def yV(K:ACy)(Q:VK):List V->Hp->Prop
 |[x,y],H=>qj K x y H Q
 |_,_=>False
theorem Yl{ks:List Str}:∀{ys:List V}{its a:List b7},ks.length=ys.length->Vals (ks.map V.str) its->Vals ys a->∃more:List (Key×b7),KV (jR ks ys) more/\more.length=ks.length/\∀(j:Nat) c d,more[j]?=ι (c,d)->∃b,its[j]?=ι b/\a[j]?=ι d/\(Ah X.prog X.w).is c b=true:=by
 induction ks with
 |nil=>exact λh _ _=>⟨[],by rw[q8 h.symm];exact .nil,rfl,λj c d e=>by simp at e⟩
 |cons k ks i=>
  intro ys its a h r f;cases f with
  |nil=>simp at h
  |@cons y g ys a l f=>
  cases r with
  |@cons _ u _ its m r=>
  obtain⟨more,n,o,p⟩:=i (by simpa using h) r f;refine⟨(d0 k,g)::more,.cons ⟨rfl,l⟩ n,by simp[o],λj c d e=>?_⟩;cases j with
  |zero=>
   have e:(d0 k,g)=(c,d):=by simpa using e
   cases e;exact⟨u,rfl,rfl,HI (k:=d0 k) m⟩
  |succ j=>
   obtain⟨b,c1,c2,c3⟩:=p j c d (by simpa using e);exact⟨b,by simpa using c1,by simpa using c2,c3⟩
theorem QV{S pos d:Pos}(hc:X.calm=true)(hg:Gl X "dict")(hm:X.mg "dict"=ν)(W:Gl X "zip")(Y:X.mg "zip"=ν)(T:PE X e1 t1)(h2:PE X k t2)(hv:rc "dict"=ι (.type "dict"):=by decide+kernel)(Z:rc "zip"=ι (.type "zip"):=by decide+kernel)(he:jL [.Call (.Name "zip" S) [e1,k] [] d] X.env=(false,wP (.Call (.Name "zip" S) [e1,k] [] d) X.env)::jL [] X.env:=by rfl)(WA:(D6 pos (jL [] X.env)).any (·.1)=false:=by rfl)(G:jL [e1,k] X.env=(false,wP e1 X.env)::jL [k] X.env:=by rfl)(J:(D6 d (jL [k] X.env)).any (·.1)=false:=by rfl)(yW:jL [k] X.env=(false,wP k X.env)::jL [] X.env:=by rfl):
  PE X (.Call (.Name "dict" p) [.Call (.Name "zip" S) [e1,k] [] d] [] pos) (yU X.K t1 t2):=by
 intro pins s σ H Q I h;refine wT (Fs I hg hm hv ?_ (by decide)<|by decide);refine wE ?_ he WA;rw[he];show g5 _ _ (spliced ((false,wP (.Call (.Name "zip" S) [e1,k] [] d) X.env)::D6 pos (jL [] X.env))) _ _ s;refine K2 ?_;refine wT (Fs I W Y Z ?_ (by decide)<|by decide);refine wE (BQ ((AE T (AE h2 A' yW) G) d pins s σ H (yV X.K Q) I h) λus f zq=>zq.elim λvs H1 L r1 U=>?_) G J;obtain⟨x,y,rfl⟩:∃x y,vs=[x,y]:=by
  rcases vs with _|⟨x,_|⟨y,_|⟨z,r⟩⟩⟩
  ·exact U.elim
  ·exact U.elim
  ·exact⟨x,y,rfl⟩
  ·exact U.elim
 obtain⟨a,b,V,ys,rfl,rfl,ha,hb,hl,hz,q⟩:=(show qj X.K x y H1 Q from U);obtain⟨u,v,rfl,ru,rv⟩:=vals2 r1;cases ru;cases rv;obtain⟨its,r,pl,_⟩:=L.list ha;obtain⟨M,r',t,_⟩:=L.list hb;have B:a<f.heap.objs.size:=(let⟨_,e,_⟩:=pl.isList;g7 e);have C:b<f.heap.objs.size:=(let⟨_,e,_⟩:=t.isList;g7 e);have N:X.A.in1.handled=none:=I.ok.hd hc;refine call_zip_2 pl.isList t.isList λc z1 z2 z3 z4 z5 z6 k5=>?_;refine Re ?_;obtain⟨more,m1,m2,m3⟩:=Yl (X:=X) hl r r';have D:=zipApart_new (n:=f.heap.objs.size) B C;refine adq (Q₁:=λO m=>O=.ref c.objs.size/\m={f with heap:=c.push {cls:=.type "dict",data:=.dict #[]}}) acE (aa5 _) acd (aco _ ⟨rfl,rfl⟩) ?_;rintro O m ⟨rfl,rfl⟩;have i:(c.push {cls:=.type "dict",data:=.dict #[]}).DictOf (Ah X.prog X.w) c.objs.size []:=Heap.DictOf.new c;refine⟨i.typeIs,abL _ _,?_⟩;unfold Builtin.«dict.__init__»;refine am ?_;unfold Y1;refine am<|R5 i.typeIs ?_;show g5 _ _ (pure (c.objs.size,[jM<|f.heap.objs.size+4])) _ _ _;refine ce ?_;show g5 _ _ (J5 "dict.__init__" c.objs.size (.ref<|f.heap.objs.size+4) [] .none) _ _ _;unfold J5;have up:∀b o,c.get? b=ι o->(c.push {cls:=.type "dict",data:=.dict #[]}).get? b=ι o:=λb o e=>be _ e;have yX:({f with heap:=c.push {cls:=.type "dict",data:=.dict #[]}}:d8).TypeIs (.ref<|f.heap.objs.size+4) "zip":=⟨_,up _ _ z1,rfl⟩;refine am<|C8 yX ?_;rw[if_pos<|by decide];refine am (Me (up _ _ z1) N λT qX e1 ne1=>?_);rw[if_pos<|show(adG (ν:Option b7))=true from rfl];have P:∀b o,(c.push {cls:=.type "dict",data:=.dict #[]}).get? b=ι o->T.get? b=ι o:=ne1.keeps;have g:∀b o,c.get? b=ι o->T.get? b=ι o:=λb o e=>P b o<|up b o e;refine am<|R9 ?_;refine am<|wpAny_pyIter_zip (g _ _ z1) ?_;refine ce ⟨x6 BS _,?_⟩;obtain⟨od,es,ep,yY,rd⟩:=id i;have lt5:∀{b o},c.get? b=ι o->b≠c.objs.size:=λe=>i4<|g7 e;have yZ:∀{b o},f.heap.get? b=ι o->b<f.heap.objs.size:=λe=>g7 e;have nS:f.heap.objs.size+4≠c.objs.size/\f.heap.objs.size+2≠c.objs.size/\f.heap.objs.size+3≠c.objs.size/\f.heap.objs.size≠c.objs.size/\f.heap.objs.size+1≠c.objs.size/\a≠c.objs.size/\b≠c.objs.size:=by
  have E:c.objs.size=f.heap.objs.size+5:=z6;rw[E];generalize f.heap.objs.size=n at B C;exact⟨by lia,by lia,by lia,by lia,by lia,i4<|i6 B<|I0 _ _,i4<|i6 C<|I0 _ _⟩
 show E8 _ _ (.builtin "dict.update.loop" ⟨[.ref c.objs.size,.ref<|f.heap.objs.size+4,sn ((0:Nat):Int),.none],[]⟩) _ _;refine V' (knd:=Ah X.prog X.w) (xs:=its.toArray) (ys:=M.toArray) (more:=more) N D nS (by rw[cr,m2,<-r.length,ap]) (by lia) (λj k' v' e=>?_) more.length 0 _ (by simp) (d9 _)
  ⟨.inl ⟨rfl,g _ _ z1,_,_,g _ _ z3⟩,g _ _ z2,z4.at λo e=>g _ o e,z5.at λo e=>g _ o e,(pl.isList.at λo e=>g _ o (k5 _ o e)),(t.isList.at λo e=>g _ o (k5 _ o e))⟩ ⟨od,es,ep,P _ _ yY,rd⟩ (λh2 qY hd2 qZ=>⟨rfl,?_⟩)
 ·obtain⟨key,c1,c2,c3⟩:=m3 j k' v' e;exact⟨key,by simpa using c1,by simpa using c2,c3⟩
 ·have qa:(CW []<|jR V ys).length<=sizeLine:=by
   have:=DY (jR V ys) [];have e:(jR V ys).length=V.length:=by unfold jR;rw[ap,aax];lia
   exact Au<|by simp at this;lia
  have E:c.objs.size=f.heap.objs.size+5:=z6;have big:=L.big;have l:f.heap.objs.size<=c.objs.size:=by rw[E];exact I0 _ _
  refine⟨.ref c.objs.size,_,L.laid (t':=qY) (λb o e=>?_) l<|JL qa (beq_eq_false_iff_ne.mpr<|k8<|i4<|i6 big l) (KV.merge m1 .nil) hd2,rfl,q _<|L.Ax.fresh l⟩;have R:=yZ e;exact qZ b o (i4<|i6 R l) (i4<|i6 R<|I0 _ _) (i4<|i6 R<|I0 _ _) (i4 R) (i4<|i6 R<|I0 _ _)<|g _ _<|k5 _ _ e
end
def nj(n:Nat):It:=⟨λi _=>i<n,λi H x a=>a=H/\x=.int (((n:Nat):Int)-1-((i:Nat):Int)),λi _=>n<=i⟩
variable{K:ACy}{P:om}
theorem WB{tg:u7}(it:Addr)(n:Nat):Turn P w K tg (nj n) [it] it (λi h=>aaQ h it ((((n:Nat):Int)-1)+(i:Nat)*(-1)) ((n:Int)-(i:Nat)) (-1))where
 mem:=by simp
 obj:=λi h st b hb=>by
  have e:b=it:=by simpa using hb
  subst e;exact⟨_,st,λv z=>by
   have z':Data.fields _=Data.cell v:=z;cases z'⟩
 keep:=λi h h' st k=>k it (by simp) _ st
 item:=by
  intro X hP hw hK hc i pins s σ H E I hf st hg;subst hP hw hK;obtain⟨f0,f1,f2,f3,f4,f5⟩:=hf it (by simp);have W:=Walks.range (prog:=X.prog) (w:=X.w) (I.ok.hd hc) it (((n:Nat):Int)-1) (-1) n;refine W.item i s _ _ hg st λv h' tk hv Pd kk=>?_;obtain⟨t,rfl⟩:=hv;have I1:Inv X pins σ H {s with heap:=h',toks:=tk}:=I.turned (λb o hb e=>kk b o (by simpa using hb) e) f0 f1 f3 f4 f5;refine⟨_,rfl,Mq (s:={s with heap:=h',toks:=tk}) (n:="range_iterator") Pd rfl rfl (by decide) ⟨.int<|((n:Nat):Int)-1-((i:Nat):Int),H,I1,⟨t,?_⟩,⟨rfl,rfl⟩,Pd,λb hb=>(hf b hb).1⟩⟩;congr 1;lia
 done:=by
  intro X hP hw hK hc i pins s σ H E I hf st hg;subst hP hw hK;obtain⟨f0,f1,f2,f3,f4,f5⟩:=hf it (by simp);exact aah (I.ok.hd hc) st (by have:n<=i:=hg;lia) λh' eb=>⟨rfl,I.turned (t':=s.toks) (λb o hb e=>eb b o hb e) f0 f1 f3 f4 f5⟩
 self:=λ_ _ _ _ _ st h=>aai st h
variable{E:b7->d8->Prop}
section
variable {tg:u7}
theorem bW{R:It->Hp->Prop}{t u v:Tok}{tk:Nat}(I:Inv X pins σ H s)(f:n<=20000)(q:R (nj n) H):g5 (i7 X.prog X.w) X.A (aci (.ref s.heap.objs.size)) (ph X pins σ tg R) E {s with heap:=s.heap.push {cls:=.type "range",data:=.fields #[.int (((n:Nat):Int)-1) t,.int (-1) u,.int (-1) v]},toks:=tk}:=by
 have sz:P5 (((n:Nat):Int)-1) (-1) (-1)=(n:Int):=by
  unfold P5;rw[if_neg<|by decide];split
  ·have:(((n:Nat):Int)-1-(-1)-1)/(-(-1))+1=n:=by
    rw[show(-(-1:Int))=1 from rfl,ab0];lia
   exact this
  ·lia
 have c:abi (((n:Nat):Int)-1) (-1) (-1)=true:=by
  unfold abi;rw[sz];simp only[acZ,kt,aaA,decide_eq_true_eq,beq_iff_eq,show¬((-1:Int)>0)by decide,if_false];lia
 refine abv (IsRange.new ..) c ?_;rw[sz];have a:Inv X pins σ H {s with heap:=s.heap.push {cls:=.type "range",data:=.fields #[.int (((n:Nat):Int)-1) t,.int (-1) u,.int (-1) v]},toks:=tk}:=I.kept λb o e=>be _ e;refine⟨_,[(s.heap.push {cls:=.type "range",data:=.fields #[.int (((n:Nat):Int)-1) t,.int (-1) u,.int (-1) v]}).objs.size],_,_,H,rfl,
  a.kept (t':=tk) λb o e=>be _ e,WB _ n,?_,λb d=>?_,q⟩
 ·show aaQ _ _ ((((n:Nat):Int)-1)+((0:Nat):Int)*(-1)) ((n:Int)-((0:Nat):Int)) (-1);rw[show(((n:Nat):Int)-1)+((0:Nat):Int)*(-1)=((n:Nat):Int)-1 by simp,show(n:Int)-((0:Nat):Int)=n by simp];exact g8 _ rfl
 ·have e:b=(s.heap.push {cls:=.type "range",data:=.fields #[.int (((n:Nat):Int)-1) t,.int (-1) u,.int (-1) v]}).objs.size:=by simpa using d
  subst e;exact a.Rt (bn _)<|a.Ax.fresh<|bn _
def lC(a:TA):TI:=λb H R=>a b H λc d=>∃n:Nat,c=[.int<|((n:Nat):Int)-1,.int<|-1,.int<|-1]/\n<=20000/\R (nj n) d
theorem WC{pos:Pos}(i:Gl X "range")(j:X.mg "range"=ν)(k:PA X [a,b,c] l)(m:jL [a,b,c] X.env=[(false,wP a X.env),(false,wP b X.env),(false,wP c X.env)]:=by rfl)(d:jL [b,c] X.env=[(false,wP b X.env),(false,wP c X.env)]:=by rfl):
  PI X tg (.Call (.Name "range" p) [a,b,c] [] pos) (lC l):=by
 intro pins s o H R I h;refine Call_ (Fs I i j adc<|wE (BQ (k pos pins s o H _ I h) λB C u=>u.elim λD E v w x=>?_) (by rw[m,d])<|by rw[d];rfl);obtain⟨n,e,y,q⟩:=x;subst e;cases w with
 |cons r f=>
  cases f with
  |cons z f=>
   cases f with
   |cons g f=>
    cases f;obtain⟨t,rfl⟩:=r;obtain⟨F,rfl⟩:=z;obtain⟨A,rfl⟩:=g;exact call_range_3 (by decide) (bW v y q)<|.inl<|PyProof.noPylong_small<|by lia
end
theorem Ym{g:TG}{b:TS}{D:Ends}(Pv:Nat->St->Hp->Prop)(c:Pv n σ H)(d:∀i σ H e,Go D (Pv i) e->i<n->Pv (i+1) σ H->g (.int (i:Int)) σ H (b e))(f:∀σ H,Pv 0 σ H->D.nx σ H):
  VR (nj n) g b D σ H:=by
 refine⟨λi m σ H=>m=n-i/\i<=n/\Pv m σ H,⟨n,by simp,d9 _,c⟩,?_⟩;rintro i m σ H ⟨rfl,l,p⟩;by_cases a:i<n
 ·refine .inr ⟨a,Pv<|n-(i+1),λh j k=>⟨n-(i+1),by lia,rfl,a,k⟩,λx j y=>?_⟩;obtain⟨e,y⟩:=y;subst e y;have e:((n:Nat):Int)-1-((i:Nat):Int)=(((n-(i+1):Nat)):Int):=by lia
  rw[e];refine d (n-(i+1)) σ _ _ ⟨id,id⟩ (by lia) ?_;rw[show n-(i+1)+1=n-i by lia];exact p
 ·have e:i=n:=by lia
  subst e;rw[Gc]at p;exact .inl ⟨bn _,f σ H p⟩
section
variable [BW K]
namespace Dc
mutual
noncomputable def tr:Dc->Pt
 |leaf (.int i)=>.int i
 |leaf (.str x)=>.str x
 |leaf _=>.int 0
 |row _ xs=>.lst (Mf xs)
 |tab _ ks xs=>.BV ks (Mf xs)
noncomputable def Mf:List Dc->List Pt
 |[]=>[]
 |x::r=>tr x::Mf r
end
theorem Cj:∀xs:List Dc,Mf xs=xs.map tr
 |[]=>rfl
 |x::r=>by simp only[Mf,ge,Cj r]
mutual
theorem Od:∀d e:Dc,C' d e->e.tr=d.tr
 |leaf v,leaf w,h=>by simp only[C']at h;subst h;rfl
 |row _ xs,row _ ys,h=>by simp only[C']at h;simp only[tr,Lb xs ys h]
 |tab _ ks xs,tab _ ls ys,h=>by simp only[C']at h;simp only[tr,Lb xs ys h.2,h.1]
 |leaf _,row _ _,h=>by simp[C']at h
 |leaf _,tab _ _ _,h=>by simp[C']at h
 |row _ _,leaf _,h=>by simp[C']at h
 |row _ _,tab _ _ _,h=>by simp[C']at h
 |tab _ _ _,leaf _,h=>by simp[C']at h
 |tab _ _ _,row _ _,h=>by simp[C']at h
theorem Lb:∀xs ys:List Dc,Cm xs ys->Mf ys=Mf xs
 |[],[],_=>rfl
 |x::r,y::t,h=>by simp only[Cm]at h;simp only[Mf,Od x y h.1,Lb r t h.2]
 |[],_::_,h=>by simp[Cm]at h
 |_::_,[],h=>by simp[Cm]at h
end
mutual
theorem Ua:∀d:Dc,d.At b->Val b d.val d.tr
 |leaf v,h=>by
  simp only[At]at h;rcases h with⟨i,rfl⟩|⟨x,rfl,_⟩
  ·exact .int i
  ·exact .str x
 |row a xs,h=>by
  simp only[At]at h;exact .lst h.1 (Sx xs h.2)
 |tab a ks xs,h=>by
  simp only[At]at h;refine .BV h.1 (IK h.2.1) ?_;have e:(kvs ks xs).map (·.2)=xs.map val:=by
   rw[QL];exact Ie<|by rw[ap];exact h.2.1
  rw[e];exact Sx xs h.2.2.2
theorem Sx:∀xs:List Dc,EC a xs->AS a (xs.map val) (Mf xs)
 |[],_=>.nil
 |x::r,h=>by
  simp only[EC]at h;exact .cons (Ua x h.1)<|Sx r h.2
end
end Dc
theorem ET.val(F:ET H H' d):Val (nw H H') d.val d.tr:=by
 refine d.Ua<|Dc.Em d (λc a o e=>?_) F.at_;rw[BZ<|F.new c a];exact e
theorem Yn:∀{kvs:List (Key×V)}{ks:List Str}{a:List Dc},kvs.map (·.1)=ks.map d0->a.map Dc.val=kvs.map (·.2)->kvs=Dc.kvs ks a
 |[],[],a=>λ_ h=>by
  cases a with
  |nil=>rfl
  |cons _ _=>simp at h
 |[],_::_,_=>λh _=>by simp at h
 |_::_,[],_=>λh _=>by simp at h
 |(k,v)::kvs,y::ks,a=>λh h'=>by
  simp only[ge,u3]at h;cases a with
  |nil=>simp at h'
  |cons d a=>
   simp only[ge,u3]at h';obtain⟨b,c⟩:=h;obtain⟨e,f⟩:=h';have g:=Yn c f;subst b e;rw[g];rfl
theorem Val.dc(t:Pt){v:V}(h:Val H v t):t.doc->∃d:Dc,d.val=v/\d.At H/\d.tr=t/\d.slim/\d.size=t.size:=by
 refine @Val.rec K _ H (λv t _=>t.doc->∃d:Dc,d.val=v/\d.At H/\d.tr=t/\d.slim/\d.size=t.size) (λk c _=>Pt.CF c->∃b:List Dc,b.map Dc.val=k/\Dc.EC H b/\Dc.Mf b=c/\Dc.LN b/\Dc.AI b=Pt.AI c) (λi _=>⟨.leaf<|.int i,rfl,.inl ⟨i,rfl⟩,rfl,trivial,rfl⟩) (λx d=>⟨.leaf<|.str x,rfl,.inr ⟨x,rfl,d⟩,rfl,trivial,rfl⟩) (λ_ d=>by simp[Pt.doc]at d) (λd=>by simp[Pt.doc]at d) ?_ (λ_ _ _ d=>by simp[Pt.doc]at d) ?_ (λ_=>⟨[],rfl,trivial,rfl,trivial,rfl⟩) (λ_ _ h r d=>?_) _ _ h
 ·intro a k c h _ r d;simp only[Pt.doc]at d;obtain⟨b,e1,f,e,g,j⟩:=r d;refine⟨.row a b,rfl,?_,by simp only[Dc.tr,e],by simp only[Dc.slim];exact g,by simp only[Dc.size,Pt.size,j]⟩;simp only[Dc.At];exact⟨by rw[e1];exact h,f⟩
 ·intro a kvs l c h n _ r d;simp only[Pt.doc]at d;obtain⟨b,e1,f,e,g,j⟩:=r d.2.2.2.2;have m:l.length=b.length:=by
   have:=congrArg pp e;rw[Dc.Cj,ap]at this;rw[this];exact d.1
  refine⟨.tab a l b,rfl,?_,by simp only[Dc.tr,e],by simp only[Dc.slim];exact⟨by rw[<-m];exact d.2.2.2.1,g⟩,by simp only[Dc.size,Pt.size,j]⟩;simp only[Dc.At];exact⟨by rw[<-Yn n e1];exact h,m,d.2.1,f⟩
 ·simp only[Pt.CF]at d;obtain⟨x,a1,a2,a3,a4,a5⟩:=h d.1;obtain⟨b,o,p,q,s,u⟩:=r d.2;exact⟨x::b,by rw[ge,a1,o],by simp only[Dc.EC];exact⟨a2,p⟩,by simp only[Dc.Mf,a3,q],by simp only[Dc.LN];exact⟨a4,s⟩,by simp only[Dc.AI,Pt.AI,a5,u]⟩
theorem QW(e:vs=[v])(a:Val H v t)(d:t.doc)(z:t.size<=900)(q:∀(w:V) (H':Hp),AF H H'->Val (nw H H') w t->Q w H'):IX vs H Q c:=by
 obtain⟨dc,rfl,a2,a3,a4,a5⟩:=Val.dc t a d;exact⟨dc,e,a2,a4,by lia,λb H' F lk=>q _ _ F.same<|by rw[<-a3,<-Dc.Od _ _ lk];exact F.val⟩
theorem QX(h:OR vs H Q m):GK vs H Q m:=by
 obtain⟨d,rfl,b,e,f,q⟩:=h;refine⟨d.val,d.tr,rfl,d.Ua b,?_,λp l g s n j st=>q p l g s n j ?_⟩
 ·cases d with
  |leaf v=>
   simp only[Dc.At]at b;rcases b with⟨i,rfl⟩|⟨x,rfl,_⟩<;>trivial
  |row a c=>
   simp only[Dc.size]at f;have:=Dc.CH c;show(Dc.Mf c).length<=900;rw[Dc.Cj,ap];lia
  |tab a k c=>
   simp only[Dc.At]at b;simp only[Dc.slim]at e;exact⟨by rw[Dc.Cj,ap];exact b.2.1,by rw[b.2.1];exact e.1⟩
 ·cases d with
  |leaf v=>
   simp only[Dc.At]at b;rcases b with⟨i,rfl⟩|⟨x,rfl,_⟩<;>exact st
  |row a c=>
   have:l=(oo (Dc.Mf c).length).map λ(i:Nat)=>V.int (i:Int):=st;rw[Dc.Cj,ap]at this;exact this
  |tab a k c=>exact st
end
namespace Ak
mutual
def Be:Ak->Prop
 |any=>True
 |Ao d=>d.doc
 |row xs _=>G_ xs
 |tab ks xs ls _=>ks.length=xs.length/\ks.Nodup/\(∀k∈ks,CS k=true)/\ks.length<60/\ls.length<=100/\(∀l∈ls,l∉ks)/\G_ xs
def G_:List Ak->Prop
 |[]=>True
 |x::r=>Be x/\G_ r
end
mutual
noncomputable def wt:Ak->Nat
 |any=>1
 |Ao d=>d.size
 |row xs _=>1+DU xs
 |tab _ xs _ _=>1+DU xs
noncomputable def DU:List Ak->Nat
 |[]=>0
 |x::r=>wt x+DU r
end
mutual
noncomputable def dp:Ak->Nat
 |any=>1
 |Ao d=>d.deep
 |row xs _=>1+KH xs
 |tab _ xs _ _=>1+KH xs
noncomputable def KH:List Ak->Nat
 |[]=>0
 |x::r=>max (dp x) (KH r)
end
theorem Ap:∀{xs:List Ak},G_ xs->∀x∈xs,Be x
 |y::r,h,x,a=>by
  simp only[G_]at h;rcases ca.mp a with rfl|a
  ·exact h.1
  ·exact Ap h.2 x a
mutual
theorem Oe:∀a:Ak,a.size<=a.wt
 |any=>by simp[size,wt]
 |Ao d=>by simp only[size,wt];exact Pt.size_pos d
 |row xs _=>by have:=CI xs;simp only[size,wt];lia
 |tab _ xs _ _=>by have:=CI xs;simp only[size,wt];lia
theorem CI:∀xs:List Ak,AI xs<=DU xs
 |[]=>bn _
 |x::r=>by have:=Oe x;have:=CI r;simp only[AI,DU];lia
end
theorem Bu:∀{xs:List Ak}{x:Ak},x∈xs->x.wt<=DU xs
 |y::r,x,h=>by
  simp only[DU];rcases ca.mp h with rfl|h
  ·lia
  ·have:=Bu h;lia
theorem FX:∀{xs:List Ak}{x:Ak},x∈xs->x.dp<=KH xs
 |y::r,x,h=>by
  simp only[KH];rcases ca.mp h with rfl|h
  ·lia
  ·have:=FX h;lia
theorem GO(p:a.Perm b):DU a=DU b:=by
 induction p with
 |nil=>rfl
 |cons x _ c=>simp only[DU,c]
 |swap x y l=>simp only[DU];lia
 |trans _ _ d e=>exact d.trans e
theorem Lc(p:a.Perm b):KH a=KH b:=by
 induction p with
 |nil=>rfl
 |cons x _ c=>simp only[KH,c]
 |swap x y l=>simp only[KH];lia
 |trans _ _ d e=>exact d.trans e
mutual
theorem QY:∀a:Ak,a.ok->a.Be
 |any,_=>trivial
 |Ao d,h=>by simp only[ok]at h;exact h.2.1
 |row xs _,h=>by simp only[ok]at h;simp only[Be];exact Yo xs h
 |tab ks xs ls _,h=>by
  simp only[ok]at h;obtain⟨b,c,e,h4,f,g,i⟩:=h;simp only[Be];exact⟨b,c,e,h4,j5 f.1<|by decide,g,Yo xs i⟩
theorem Yo:∀xs:List Ak,JC xs->G_ xs
 |[],_=>trivial
 |x::r,h=>by simp only[JC]at h;exact⟨QY x h.1,Yo r h.2⟩
end
mutual
theorem QZ:∀a:Ak,a.ok->a.wt<=10*a.size
 |any,_=>by simp[wt,size]
 |Ao d,h=>by simp only[ok]at h;simp only[wt,size];lia
 |row xs _,h=>by simp only[ok]at h;have:=Sy xs h;simp only[wt,size];lia
 |tab b xs ls _,h=>by simp only[ok]at h;have:=Sy xs h.2.2.2.2.2.2;simp only[wt,size];lia
theorem Sy:∀xs:List Ak,JC xs->DU xs<=10*AI xs
 |[],_=>bn _
 |x::r,h=>by simp only[JC]at h;have:=QZ x h.1;have:=Sy r h.2;simp only[DU,AI];lia
end
end Ak
theorem Sm.lE(h:Sm d):d.deep<=3:=by
 have one:∀a:List Pt,(∀x∈a,dh x)->Pt.AR a<=1:=by
  intro a
  induction a with
  |nil=>intro _;simp[Pt.AR]
  |cons x r b=>
   intro h;have c:=h x dL;have f:=b λy e=>h y<|b9 _ e;have:x.deep<=1:=by cases c<;>simp[Pt.deep,Pt.AR]
   simp only[Pt.AR];lia
 cases h with
 |one h=>cases h<;>simp[Pt.deep,Pt.AR]
 |row h=>have:=one _ h;simp only[Pt.deep];lia
 |tab h=>have:=one _ h;simp only[Pt.deep];lia
namespace Ak
mutual
theorem Ub:∀a:Ak,a.ok->a.dp<=a.deep+2
 |any,_=>by simp[dp,deep]
 |Ao d,h=>by simp only[ok]at h;have:=h.1.lE;simp only[dp,deep];lia
 |row b _,h=>by simp only[ok]at h;have:=Sz b h;simp only[dp,deep];lia
 |tab c b ls _,h=>by simp only[ok]at h;have:=Sz b h.2.2.2.2.2.2;simp only[dp,deep];lia
theorem Sz:∀xs:List Ak,JC xs->KH xs<=AR xs+2
 |[],_=>by simp[KH]
 |x::r,h=>by simp only[JC]at h;have:=Ub x h.1;have:=Sz r h.2;simp only[KH,AR];lia
end
theorem NJ:∀ls:List Str,Pt.AR (ls.map Pt.str)<=1
 |[]=>by simp[Pt.AR]
 |x::r=>by have:=NJ r;simp only[ge,Pt.AR,Pt.deep];lia
mutual
theorem dz:∀a:Ak,a.pt.deep<=2*a.dp+2
 |any=>by simp[pt,Pt.deep,Pt.AR,dp]
 |Ao d=>by simp only[pt,Pt.deep,Pt.AR,dp];lia
 |row xs m=>by have:=S_ xs;simp only[pt,Pt.deep,Pt.AR,dp];lia
 |tab b xs ls m=>by have:=S_ xs;have:=NJ ls;simp only[pt,Pt.deep,Pt.AR,dp];lia
theorem S_:∀xs:List Ak,Pt.AR (HN xs)<=2*KH xs+2
 |[]=>by simp[HN,Pt.AR]
 |x::r=>by have:=dz x;have:=S_ r;simp only[HN,Pt.AR,KH];lia
end
mutual
theorem Qa:∀a:Ak,a.Be->a.wt<=900->a.pt.nice
 | .any=>λ_ _=>by simp[Ak.pt,Pt.nice,Pt.EY]
 | .Ao d=>λo z=>by
  simp only[Be]at o;simp only[wt]at z;simp only[Ak.pt,Pt.nice,Pt.EY];exact⟨by simp,trivial,Pt.Ic d o z,trivial⟩
 | .row xs m=>λo z=>by
  simp only[Be]at o;simp only[wt]at z;have:=Ak.CH xs;have:=CI xs;simp only[Ak.pt,Pt.nice,Pt.EY];exact⟨by simp,trivial,⟨by rw[Ak.Ae,ap];lia,JY xs o<|by lia⟩,trivial,trivial⟩
 | .tab c xs ls m=>λo z=>by
  simp only[Be]at o;simp only[wt]at z;simp only[Ak.pt,Pt.nice,Pt.EY];refine⟨by simp,trivial,⟨by rw[Ak.Ae,ap];exact o.1,o.2.1,by lia,JY xs o.2.2.2.2.2.2<|by lia⟩,⟨by rw[ap];lia,Pt.QS λx b=>?_⟩,trivial,trivial⟩;obtain⟨y,_,rfl⟩:=m7.mp b;trivial
theorem JY:∀xs:List Ak,G_ xs->DU xs<=900->Pt.EY (Ak.HN xs)
 |[]=>λ_ _=>trivial
 |x::r=>λo z=>by
  simp only[G_]at o;simp only[DU]at z;simp only[Ak.HN,Pt.EY];exact⟨Qa x o.1<|by lia,JY r o.2<|by lia⟩
end
def Kd:Ak->List Ak->Prop
 |row xs _,as=>as=xs
 |tab ks xs _ _,as=>∃ss:List Str,ss.Perm ks/\A8 ss=true/\ss.map (lk ks xs)=as.map ι
 |_,as=>as=[]
end Ak
theorem some_inj{c:Type}:∀{a b:List c},a.map ι=b.map ι->a=b
 |[],[],_=>rfl
 |[],_::_,h=>by simp at h
 |_::_,[],h=>by simp at h
 |x::r,y::q,h=>by
  simp only[ge,u3]at h;rw[ACw h.1,some_inj h.2]
namespace Ak
theorem Kd.ok(h:Kd a as)(o:a.Be):∀x∈as,x.Be:=by
 cases a with
 |row c m=>simp only[Be]at o;rw[show as=c from h];exact Ap o
 |tab f c ls m=>
  simp only[Be]at o;obtain⟨g,e,i,e1⟩:=h;intro x b;have:=(CD o.1 o.2.1 e e1).mem_iff.mp b;exact Ap o.2.2.2.2.2.2 x this
 |any=>rw[show as=[]from h];exact λx b=>nomatch b
 |Ao d=>rw[show as=[]from h];exact λx b=>nomatch b
theorem Kd.wt(h:Kd a as)(o:a.Be):∀x∈as,x.wt<=a.wt:=by
 cases a with
 |row c m=>rw[show as=c from h];intro x b;have:=Bu b;simp only[Ak.wt];lia
 |tab f c ls m=>
  simp only[Be]at o;obtain⟨g,e,i,e1⟩:=h;intro x b;have:=Bu<|(CD o.1 o.2.1 e e1).mem_iff.mp b;simp only[Ak.wt];lia
 |any=>rw[show as=[]from h];exact λx b=>nomatch b
 |Ao d=>rw[show as=[]from h];exact λx b=>nomatch b
noncomputable def Yp:List Ak->Option (List Pt)
 |[]=>ι []
 |Ao d::r=>(Yp r).map (d::·)
 |_::_=>ν
def bX(a:List Ak)(m:Bool):Ak:=if m then row a true else match Yp a with
 |some b=>Ao (.lst b)
 |none=>row a false
def bY(ss:List Str)(a:List Ak)(ls:List Str)(m:Bool):Ak:=if m then tab ss a ls true else match Yp a with
 |some b=>Ao (.BV ss b)
 |none=>tab ss a [] false
mutual
inductive Good:Ak->Ak->Prop
 |any:Good .any .any
 |Ao (d:Pt):Good (.Ao d) (.Ao d)
 |row {xs a:List Ak} {m:Bool} (h:Qb xs a):Good (.row xs m) (bX a m)
 |tab {ks ss:List Str} {xs as a:List Ak} {ls:List Str} {m:Bool} (pm:ss.Perm ks) (so:A8 ss=true) (e:ss.map (lk ks xs)=as.map ι) (h:Qb as a):Good (.tab ks xs ls m) (bY ss a ls m)
inductive Qb:List Ak->List Ak->Prop
 |nil:Qb [] []
 |cons {x y:Ak} {xs ys:List Ak} (h:Good x y) (r:Qb xs ys):Qb (x::xs) (y::ys)
end
end Ak
theorem AX(h:n<=20000):n<=sizeLine:=j5 h<|show 20000<=2 ^ 24 by decide
noncomputable def Pt.hold:Pt->Pt
 | .tup (.str w::h::_)=>if w="row"∨w="table"then h else .lst []
 |_=>.lst []
mutual
inductive PR:Nat->Pt->Prop
 |leaf {w:Str} {r:List Pt} (a:w≠"row") (b:w≠"table"):PR 1 (.tup (.str w::r))
 |row {n:Nat} {xs r:List Pt} (z:xs.length<=900) (h:Ex n xs):PR (n+1) (.tup (.str "row"::.lst xs::r))
 |tab {n:Nat} {ks:List Str} {xs r:List Pt} (l:ks.length=xs.length) (nd:ks.Nodup) (z:ks.length<64) (h:Ex n xs):PR (n+1) (.tup (.str "table"::.BV ks xs::r))
inductive Ex:Nat->List Pt->Prop
 |nil:Ex 0 []
 |cons {n m:Nat} {x:Pt} {r:List Pt} (h:PR n x) (t:Ex m r):Ex (n+m) (x::r)
end
theorem PR.pos(h:PR n t):1<=n:=by cases h<;>lia
theorem Ex.len:∀{n:Nat}{xs:List Pt},Ex n xs->xs.length<=n
 |_,_,.nil=>bn _
 |_,_,.cons h t=>by have:=h.pos;have:=t.len;rw[g6];lia
theorem Ex.append:∀{n m:Nat}{xs ys:List Pt},Ex n xs->Ex m ys->Ex (n+m) (xs++ys)
 |_,_,_,_,.nil=>λs=>by rw[N0];exact s
 |_,_,_,_,.cons h t=>λs=>by rw[X5];exact .cons h (t.append s)
theorem Ex.perm(p:xs.Perm ys)(h:Ex n xs):Ex n ys:=by
 induction p generalizing n with
 |nil=>exact h
 |cons x _ d=>cases h with|cons h t=>exact .cons h (d t)
 |swap x y l=>
  cases h with
  |cons h t=>
   cases t with
   |@cons a b _ _ e t=>
    rename_i c
    rw[show c+(a+b)=a+(c+b)by lia];exact .cons e (.cons h t)
 |trans _ _ f g=>exact g (f h)
theorem PR.d_(h:PR n t):LZ t.hold:=by
 cases h with
 |@leaf w r a b=>
  have e:Pt.hold (.tup (.str w::r))=.lst []:=by
   cases r with
   |nil=>rfl
   |cons h r=>simp[Pt.hold,a,b]
  rw[e];exact d9 _
 |@row n c r z h=>exact z
 |@tab n f c r l nd d h=>exact⟨l,d⟩
theorem PR.kids(h:PR n t)(k:Eu t.hold us):∃m,Ex m us/\n=m+1:=by
 cases h with
 |@leaf w r d f=>
  have e:Pt.hold (.tup (.str w::r))=.lst []:=by
   cases r with
   |nil=>rfl
   |cons h r=>simp[Pt.hold,d,f]
  rw[e]at k;rw[show us=[]from k];exact⟨0,.nil,rfl⟩
 |@row n b r z h=>
  have:us=b:=k;subst this;exact⟨n,h,rfl⟩
 |@tab n c b r l nd z h=>
  obtain⟨a,g,so,e⟩:=(show∃a:List Str,a.Perm c/\A8 a=true/\a.map (lk c b)=us.map ι from k);exact⟨n,h.perm (CD l nd g e).symm,rfl⟩
inductive Of(root:Pt):Nat->List Pt->List (List Pt)->Prop
 |start:Of root 0 [root] []
 |next{n:Nat} {l:List Pt} {a:List (List Pt)} {t:Pt} {us:List Pt} (b:Of root n l a) (c:l[n]?=ι t) (k:Eu t.hold us):Of root (n+1) (l++us) (a++[us])
theorem bZ(h:Ex m (l.drop n))(e:n+m=N)(a:l[n]?=ι t)(k:Eu t.hold us)(z:N<=20000):LZ t.hold/\us.length<=20000/\∃b,b<m/\Ex b ((l++us).drop (n+1))/\n+1+b=N:=by
 have c:=DR a;have e1:l.drop n=t::l.drop (n+1):=by
  rw[j3 c];rw[ACu c]at a;rw[ACw a]
 rw[e1]at h;cases h with
 |@cons i f _ _ h r=>
  obtain⟨g,d,j⟩:=h.kids k;have:=d.len;refine⟨h.d_,by lia,f+g,by lia,?_,by lia⟩;rw[B8<|by lia];exact r.append d
theorem lF{N n m:Nat}{l:List Pt}{t:Pt}(h:Ex m (l.drop n))(e:n+m=N)(a:l[n]?=ι t)(z:N<=20000):∃b,b<=20000/\PR b t:=by
 have c:=DR a;have e1:l.drop n=t::l.drop (n+1):=by
  rw[j3 c];rw[ACu c]at a;rw[ACw a]
 rw[e1]at h;cases h with
 |@cons d f _ _ h r=>exact⟨d,by lia,h⟩
namespace Ak
mutual
theorem nd:∀a:Ak,a.Be->a.size<=900->PR a.size a.pt
 |any=>λ_ _=>.leaf (by decide) (by decide)
 |Ao d=>λ_ _=>.leaf (by decide) (by decide)
 |row xs m=>λo z=>by
  simp only[size]at z;have b:=CH xs;simp only[Be]at o;simp only[size,pt];rw[aae];exact .row (by rw[Ae,ap];lia) (qk xs o<|by lia)
 |tab c xs ls m=>λo z=>by
  simp only[size]at z;simp only[Be]at o;simp only[size,pt];rw[aae];exact .tab (by rw[Ae,ap];exact o.1) o.2.1 (by lia)<|qk xs o.2.2.2.2.2.2<|by lia
theorem qk:∀xs:List Ak,G_ xs->AI xs<=900->Ex (AI xs) (HN xs)
 |[]=>λ_ _=>.nil
 |x::r=>λo z=>by
  simp only[AI]at z;simp only[G_]at o;exact .cons (nd x o.1<|by lia)<|qk r o.2<|by lia
end
theorem Uc(o:a.Be)(k:Eu a.pt.hold us):∃as,Kd a as/\us=as.map pt:=by
 cases a with
 |any=>exact⟨[],rfl,show us=[]from k⟩
 |Ao d=>
  have:us=[]:=by
   have g:Eu (.lst []) us:=by
    have e:(Ak.Ao d).pt.hold=.lst []:=by simp only[pt,Pt.hold];exact if_neg<|by decide
    rw[e]at k;exact k
   exact g
  exact⟨[],rfl,this⟩
 |row xs m=>exact⟨xs,rfl,by rw[<-Ae];exact k⟩
 |tab c xs ls m=>
  simp only[Be]at o;obtain⟨b,f,so,e⟩:=(show∃b:List Str,b.Perm c/\A8 b=true/\b.map (lk c<|HN xs)=us.map ι from k);obtain⟨as,e1⟩:=Su (xs:=xs) o.1 λk h=>f.mem_iff.mp h;refine⟨as,⟨b,f,so,e1⟩,?_⟩;refine some_inj<|e.symm.trans ?_;rw[Ae,o0];have:b.map (lk c<|xs.map pt)=(b.map<|lk c xs).map (Option.map pt):=by
   rw[o0];exact A4 λk _=>JT pt
  rw[this,e1,o0];rfl
end Ak
section
variable [BW K]
theorem Val.node{v:V}{n:Nat}{t:Pt}(h:Val H v t)(d:PR n t):∃(a:Addr)(w:Str)(rest:List V),v=.ref a/\BP K H a (.str w::rest)/\((w≠"row"/\w≠"table"/\t.hold=.lst [])∨((w="row"∨w="table")/\∃u r,rest=u::r/\Val H u t.hold)):=by
 cases d with
 |@leaf w r c f=>
  obtain⟨a,b,e,h,_⟩:=Val.t1 h;refine⟨a,w,b,e,h,.inl ⟨c,f,?_⟩⟩;cases r with
  |nil=>rfl
  |cons h r=>simp[Pt.hold,c,f]
 |@row n i r j d=>
  obtain⟨a,b,e,h,q⟩:=Val.t1 h;obtain⟨u,r,q,g,_⟩:=q.HM;exact⟨a,"row",b,e,h,.inr ⟨.inl rfl,u,r,q,g⟩⟩
 |@tab n k i r l nd z d=>
  obtain⟨a,b,e,h,q⟩:=Val.t1 h;obtain⟨u,r,q,g,_⟩:=q.HM;exact⟨a,"table",b,e,h,.inr ⟨.inr rfl,u,r,q,g⟩⟩
theorem Qc:∀zs:List Str,AS H (zs.map V.str) (zs.map Pt.str)
 |[]=>.nil
 |z::r=>.cons (.str z) (Qc r)
theorem FY:∀{ls:List Str}{vs:List V},AS H vs (ls.map Pt.str)->vs=ls.map V.str
 |[],_,h=>by cases h;rfl
 |x::r,_,h=>by
  cases h with
  |cons a b=>cases a;rw[ge,FY b]
structure Fd(H0 Hi:Hp)(as:List Ak)(ts:List V)(at_:Nat):Prop where
 len:ts.length=as.length
 val:∀(j:Nat) x,at_<=j->as[j]?=ι x->∃w b,ts[j]?=ι w/\Ak.Good x b/\Val (nw H0 Hi) w b.pt
theorem Yq(l:List V)(i j:Nat)(h:i<=j)(a:j<=l.length):HY l (ι (i:Int)) (ι (j:Int))=(l.drop i).take (j-i):=by
 unfold HY;rw[HT.N_,HT.N_,L3 a,L3<|j5 h a]
inductive Yr{K:ACy}[BW K](vs:List V)(H:Hp)(Q:VK)(a:XK):Prop
 |mk(G:Hp)(v:V)(t:Pt)(n:Nat)(b:vs=[v])(c:AF G H)(d:Val G v t)(e:PR n t)(f:∀(w:V) (H':Hp),AF H H'->(Val G w t.hold∨(t.hold=.lst []/\∃p,w=.ref p/\H' p=ι (.lst [])))->Q w H')
def Ud:Sp:=λa H Q E=>Yr a H Q E
inductive WD{K:ACy}[BW K](vs:List V)(H:Hp)(Q:VK)(a:XK):Prop
 |mk(G:Hp)(v:V)(t:Pt)(n:Nat)(b:vs=[v])(c:AF G H)(d:Val G v t)(e:PR n t)(f:∀(p:Addr) (es:List V) (us:List Pt) (H':Hp),AF H H'->H p=ν->H' p=ι (.lst es)->AS G es us->Eu t.hold us->Q (.ref p) H')
def Ld:Sp:=λa H Q E=>WD a H Q E
inductive Ys{K:ACy}[BW K](b:Addr)(vs:List V)(H:Hp)(Q:VK)(c:XK):Prop
 |mk(G:Hp)(v:V)(t:Pt)(n:Nat)(d:vs=[v,.ref b])(e:AF G H)(f:Val G v t)(g:PR n t)(h:n<=20000)(i:∀(p:Addr) (es:List V) (l:List Pt) (a:List (List Pt)) (H':Hp),AF H H'->H p=ν->H' p=ι (.lst es)->AS G es l->Of t l.length l a->l.length<=n->Q (.ref p) H')
def Ke(a:Addr):Sp:=λb H Q E=>Ys a b H Q E
inductive JZ{K:ACy}[BW K](vs:List V)(H:Hp)(Q:VK)(a:XK):Prop
 |row (v:V) (ts:List Pt) (L:Addr) (ws:List V) (b:vs=[v,.ref L]) (c:Val H v (.lst ts)) (d:H L=ι (.lst ws)) (e:ws.length<=900) (f:∀(p:Addr)(H':Hp),AF H H'->H p=ν->H' p=ι (.lst ws)->Q (.ref p) H'):JZ vs H Q a
 |tab (v:V) (ks:List Str) (ts:List Pt) (L:Addr) (ws:List V) (b:vs=[v,.ref L]) (c:Val H v (.BV ks ts)) (d:H L=ι (.lst ws)) (e:LZ (.BV ks ts)) (f:ws.length=ks.length) (g:ks.Nodup) (h:∀(p:Addr)(ss:List Str)(H':Hp),AF H H'->H p=ν->ss.Perm ks->A8 ss=true->H' p=ι (.dK (KZ ss ws))->Q (.ref p) H'):JZ vs H Q a
def Qd:Sp:=λa H Q E=>JZ a H Q E
end
def CJ(Z:List Addr)(H:Hp):Hp:=λb=>if b∈Z then ν else H b
def NK(Z:List Addr)(F H:Hp):Hp:=λb=>if b∈Z then F b else H b
theorem Dm(h:b∈Z):CJ Z H b=none:=if_pos h
theorem Aq(h:b∉Z):CJ Z H b=H b:=if_neg h
theorem Ih(h:b∈Z):NK Z F H b=F b:=if_pos h
theorem By(h:b∉Z):NK Z F H b=H b:=if_neg h
theorem Cc(h:H b=ν):CJ Z H b=none:=by unfold CJ;split<;>first|rfl|exact h
theorem CM(h:CJ Z H b=ι o):b∉Z/\H b=ι o:=by
 by_cases z:b∈Z
 ·rw[Dm z]at h;cases h
 ·rw[Aq z]at h;exact⟨z,h⟩
def bb(Z:List Addr)(F:Hp)(h:Heap):Prop:=∀b∈Z,∃o,F b=ι (.BK o<|.own 0)/\h.get? b=ι o
section
variable {F A B:Hp} {h h':Heap} {Z fs ex:List Addr}
theorem Ee.off(ok:Ee P w H h)(z:bb Z H h):Ee P w (CJ Z H) h:=λb o e=>by
 obtain⟨d,e⟩:=CM e;have a:∀c u,H c=ι u->(∀o,u≠.BK o (.own 0))->CJ Z H c=ι u:=λc u r n=>by
  rw[Aq λm=>let⟨o,q,_⟩:=z c m;n o<|ACw<|r.symm.trans q];exact r
 exact(ok b o e).MN (λc u _ q=>q) (λc r=>a c _ r λo q=>nomatch q) λc f r=>a c _ r λo q=>nomatch q
theorem Ee.on(ok:Ee P w H h)(n:∀b∈Z,H b=ν)(z:bb Z F h):Ee P w (NK Z F H) h:=λb o e=>by
 have d:∀c u,H c=ι u->NK Z F H c=ι u:=λc u r=>by
  rw[By λm=>by rw[n c m]at r;cases r];exact r
 by_cases a:b∈Z
 ·rw[Ih a]at e;obtain⟨f,q,g⟩:=z b a;rw[q]at e;cases e;exact⟨g,f,g⟩
 ·rw[By a]at e;exact(ok b o e).MN (λc u _ q=>q) (λc r=>d c _ r) λc i r=>d c _ r
theorem Un.off(u:Un fs ex (NK Z F A) B h h')(n:∀b∈Z,A b=ν)(z:bb Z F h)(ok:Ee P w B h')(zf:∀b∈Z,b∉fs):Un fs ex A (CJ Z B) h h' where
 keep b o q nb hb hx:=by
  by_cases hz:b∈Z
  ·obtain⟨ob,q1,g⟩:=z b hz;have:=u.Ef b ob _ (by rw[Ih hz];exact q1);rw[g]at q;cases q;exact(ok b _ this).1
  ·exact u.keep b o q (by rw[By hz];exact nb) hb hx
 slot b o q nb hb hx:=u.slot b o q (by rw[By (λm=>zf b m hb)];exact nb) hb hx
 free b o q nb hx:=by
  by_cases hz:b∈Z
  ·exact Dm hz
  ·rw[Aq hz];exact u.free b o q (by rw[By hz];exact nb) hx
 there:=u.there
 HS b xs q:=by
  have hz:b∉Z:=λm=>by rw[n b m]at q;cases q
  rw[Aq hz];exact u.HS b xs<|by rw[By hz];exact q
 Ef b o v q:=by
  have hz:b∉Z:=λm=>by rw[n b m]at q;cases q
  rw[Aq hz];exact u.Ef b o v<|by rw[By hz];exact q
 HU b ps q:=by
  have hz:b∉Z:=λm=>by rw[n b m]at q;cases q
  rw[Aq hz];exact u.HU b ps<|by rw[By hz];exact q
theorem Un.on(u:Un fs ex (CJ Z A) B h h')(z:bb Z A h)(zf:∀b∈Z,b∉fs)(zx:∀b∈Z,b∉ex):Un fs ex A (NK Z A B) h h' where
 keep b o q nb hb hx:=u.keep b o q (Cc nb) hb hx
 slot b o q nb hb hx:=u.slot b o q (Cc nb) hb hx
 free b o q nb hx:=by
  have hz:b∉Z:=λm=>by obtain⟨_,q1,_⟩:=z b m;rw[nb]at q1;cases q1
  rw[By hz];exact u.free b o q (Cc nb) hx
 there:=u.there
 HS b xs q:=by
  have hz:b∉Z:=λm=>by obtain⟨_,q1,_⟩:=z b m;rw[q]at q1;cases q1
  rw[By hz];exact u.HS b xs<|by rw[Aq hz];exact q
 Ef b o v q:=by
  by_cases hz:b∈Z
  ·rw[Ih hz];exact q
  ·rw[By hz];exact u.Ef b o v<|by rw[Aq hz];exact q
 HU b ps q:=by
  have hz:b∉Z:=λm=>by obtain⟨_,q1,_⟩:=z b m;rw[q]at q1;cases q1
  rw[By hz];exact u.HU b ps<|by rw[Aq hz];exact q
theorem Un.fz(u:Un fs ex (CJ Z A) B h h')(z:bb Z A h)(c:∀b∈Z,b∉fs)(a:∀b∈Z,b∉ex):bb Z A h'/\∀b∈Z,B b=none:=
 ⟨λb m=>let⟨o,q,g⟩:=z b m;⟨o,q,u.keep b o g (Dm m) (c b m) (a b m)⟩,λb m=>let⟨o,q,g⟩:=z b m;u.free b o g (Dm m) (a b m)⟩
end
structure Ue(ps fs:List Str)(sc:Scope):Prop where
 kind:sc.kind=.function:=by rfl
 co:sc.isCoroutine=false:=by rfl
 gen:sc.isGenerator=false:=by rfl
 nd:ps.Nodup:=by decide+kernel
 par:∀x∈ps,sc.names.lookup x=ι .local:=by decide+kernel
 fr:∀x∈fs,sc.names.lookup x=ι .free:=by decide+kernel
 nc:∀y∈sc.names,y.2≠.cell:=by decide+kernel
 af:∀y∈sc.names,y.2=.free->y.1∈fs:=by decide+kernel
structure Qe(H:Hp)(f:Addr)(qual:Str)(params:Arguments)(body:u7)(scope:Scope)(cl:List (Str×Addr))(pm:b7)(c:Addr)(ctv:b7)(fs:List Str)(ws:List V):Prop where
 fn:∃u,H f=ι (.BK (A6 "<lambda>" qual params body scope cl pm c ctv) u)
 code:∃oc u xs t,H c=ι (.BK oc u)/\oc.data=.fields xs/\xs[1]?=ι (.str qual t)
 has:∀x∈fs,∃c,cl.lookup x=ι c
 inj:∀x y c,cl.lookup x=ι c->cl.lookup y=ι c->x=y
 fz:∀c∈cl.map (·.2),∃o v,H c=ι (.BK o (.own 0))/\o.data=.cell v
 val:∀(i:Nat) x v,fs[i]?=ι x->ws[i]?=ι v->∃c o u,cl.lookup x=ι c/\H c=ι (.BK o (.own 0))/\o.data=.cell (ι u)/\RelV v u
 len:ws.length=fs.length
theorem Qe.up(h:Qe H f qual params body scope cl pm c ctv fs ws)(s:AF H H'):Qe H' f qual params body scope cl pm c ctv fs ws:=
 ⟨let⟨u,e⟩:=h.fn;⟨u,s _ _ e⟩,let⟨d,u,g,t,e,r⟩:=h.code;⟨d,u,g,t,s _ _ e,r⟩,h.has,h.inj,λc m=>let⟨o,v,e,r⟩:=h.fz c m;⟨o,v,s _ _ e,r⟩,
  λi x v a b=>let⟨c,o,u,e1,e,r⟩:=h.val i x v a b;⟨c,o,u,e1,s _ _ e,r⟩,h.len⟩
theorem Le:∀{ps:List Str}{us:List b7}{i:Nat},ps.Nodup->ps[i]?=ι x->us[i]?=ι u->(ps.zip us).reverse.lookup x=ι u
 |[],_,_=>λ_ h _=>by simp at h
 |_::_,[],_=>λ_ _ h=>by simp at h
 |p::ps,w::us,0=>λnd a b=>by
  simp at a b;subst a;subst b;have c:∀l:List (Str×b7),(∀v,(p,v)∉l)->l.lookup p=none:=λl=>by
   induction l with
   |nil=>intro _;rfl
   |cons y r d=>
    intro h;rw[j7];have:(p==y.1)=false:=by
     cases e:p==y.1 with
     |false=>rfl
     |true=>exact absurd dL (by have:=h y.2;rw[eq_of_beq e]at this;exact this)
    rw[this];exact d λv m=>h v<|b9 _ m
  rw[tz,acb,E5,c _ λv m=>(j0.mp nd).1 (F5<|List.mem_reverse.mp m).1];simp
 |p::ps,w::us,i+1=>λnd a b=>by
  rw[tz,acb,E5,Le (i:=i) (j0.mp nd).2 (by simpa using a)<|by simpa using b];rfl
variable{mg:Str->Option b7}{ps:List Str}{base:Heap}{f:Addr}{sp:Sp}{qual x:Str}
theorem Px.ya{st:Stmt}{c:Addr}{b:j4}{N:List Str}{k:Nat}(F:Px K x qual st f b)(j:b.code=.ref c)(S:FK N ps (BA st))(len:∀vs H Q E,sp vs H Q E->vs.length=ps.length)(a:∀(A:AT) (outer:List Env) (s:d8) (H:Hp) (vs:List V) (e:Ends) (E:XK),(∀{σ H},e.rt .BB H->e.nx σ H)->BX k (A.deeper (V0 qual (BA st) s.heap.objs.size f (.ref c)))->sp vs H e.rt E->
   ∃t,PM (Nz Bs P w K mg base N qual (BA st) f (.ref c) A outer s H E).dM (CQ st) t/\t e (start N vs) H):Ab P w K mg base Bs (k+1) f b ps sp:=by
 obtain⟨o,p,kV,doc,r,an,d,u,l,rfl,lk,g⟩:=F.ex;cases(show d=.ref c from j);refine dR lk g S len λA outer s H vs Q E m i=>?_;obtain⟨t,h,q⟩:=a A outer s H vs {nx:=λ_ n=>Q .BB n,rt:=Q} E id m i;exact⟨t,h.dM,q⟩
def nq(P:om)(w:u8)(K:ACy)(mg:Str->Option b7)(base:Heap)(N:List Str)(qual:Str)(scope:Scope)(f:Addr)(cd:b7)(cl:List (Str×Addr))(A:AT)(outer:List Env)(s:d8)(H:Hp):Cx where
 prog:=P
 w:=w
 K:=K
 mg:=mg
 base:=base
 A:=A.deeper (P9 qual scope s.heap.objs.size f cd cl)
 N:=N
 s₀:=s
 H₀:=H
 env:=P9 qual scope s.heap.objs.size f cd cl
 outer:=outer
 stack:=P9 qual scope s.heap.objs.size f cd cl::outer
 ex:=[]
 calm:=true
 fn:=λ_=>false
 pn:=[]
 xe:=λ_ _=>False
variable{cl:List (Str×Addr)}{params:Arguments}{body:u7}{scope:Scope}
theorem iA{k:Nat}{pm ctv:b7}{c:Addr}{fs:List Str}(S:Ue ps fs scope)(len:∀vs H Q E,sp vs H Q E->vs.length=ps.length)(B:∀vs H Q E,sp vs H Q E->∃ws,Qe H f qual params body scope cl pm c ctv fs ws/\∀(A:AT) (outer:List Env) (s:d8),BX k (A.deeper (P9 qual scope s.heap.objs.size f (.ref c) cl))->
   ∃t,PE (nq P w K mg base (ps++fs) qual scope f (.ref c) cl A outer s (CJ (cl.map (·.2)) H)) body t/\t (vs.map ι++ws.map ι) (CJ (cl.map (·.2)) H) λv H'=>(∀b∈cl.map (·.2),H' b=ν)->Q v (NK (cl.map (·.2)) H H')):
  Ab P w K mg base Bs (k+1) f (adr "<lambda>" qual params body scope cl pm (.ref c) ctv) ps sp:=by
 refine⟨len,λA outer s H args us vs Q E N g O r C=>?_⟩;have R:=len _ _ _ _ C;obtain⟨ws,L,hB⟩:=B _ _ _ _ C;have T:s.heap.NoLimit:=g.mod.nolimit.keeps λb o e=>(g.bs b o e).1;obtain⟨uf,hf⟩:=L.fn;have gf:=(g.Ax f _ hf).1;obtain⟨oc,uc,xs,tt,hc,U,V⟩:=L.code;have gc:=(g.Ax c _ hc).1;have M:bb (cl.map (·.2)) H s.heap:=λb m=>let⟨o,v,e,_⟩:=L.fz b m;⟨o,e,(g.Ax b _ e).1⟩;have D:∀b∈cl.map (·.2),b∉Tp outer:=λb m B=>by
  obtain⟨o,e,_⟩:=M b m;rw[g.aI b B]at e;cases e
 refine PySem.W.kla_callFunE N.depth gf rfl S.co S.gen rfl ⟨c,oc,xs,tt,rfl,gc,U,V⟩<|O _ _ _ _ ?_;refine wpAny_newFunctionEnv S.nc (λy n=>S.par y.1 (F5 n).1) (λj X Y=>?_) S.kind;have F:∀b o,s.heap.get? b=ι o->j.get? b=ι o:=λb o e=>Y.extBut b o (i4<|g7 e)<|be _ e;refine⟨T.keeps F,?_⟩;show E8 _ _ (.expr body<|P9 qual scope s.heap.objs.size f (.ref c) cl) _ _;obtain⟨t,ht,hq⟩:=hB A outer s<|N.deeper _;have x:∀b:Addr,b∉(nq P w K mg base (ps++fs) qual scope f (.ref c) cl A outer s (CJ (cl.map (·.2)) H)).ex:=λb z=>absurd (show b∈([]:List Addr)from z) (by simp);have I:Inv (nq P w K mg base (ps++fs) qual scope f (.ref c) cl A outer s (CJ (cl.map (·.2)) H)) [] (vs.map ι++ws.map ι) (CJ (cl.map (·.2)) H) {s with heap:=j,toks:=s.toks+(ps.zip us).length}:=by
  refine⟨⟨g.mod,S.kind,rfl,rfl,bn _,L.inj,λy n=>?_,λy c z=>(nomatch z),λ_=>N.hd,aa7 g.frames,.inr ⟨rfl,rfl⟩,λb z=>absurd z (x b),λb o e=>⟨(g.bs b o e).1,Cc (g.bs b o e).2⟩,g.Ws,λb _ _=>x b,λb z=>absurd z (x b),g.HV,λb B=>Cc (g.aI b B)⟩,
   rfl,g.bare,Un.kept F,⟨_,X,λi y v j l h3=>?_⟩,λy c h=>?_,Cc (g.Ax.fresh (bn _)),λy c h=>Dm (m7.mpr ⟨_,pi h,rfl⟩),λp hp=>absurd (show p∈([]:List (Addr×Obj))from hp) (by simp),(g.Ax.off M).kept F,?_⟩
  ·have n:scope.names.lookup y=ι .cell∨scope.names.lookup y=ι .free:=n;rcases n with n|n
   ·exact absurd rfl<|S.nc _<|pi n
   ·exact L.has y<|S.af _ (pi n) rfl
  ·have j:(ps++fs)[i]?=ι y:=j;by_cases Z:i<ps.length
   ·rw[g9 Z]at j;rw[g9<|by simpa[R]using Z,bv]at l;cases e:vs[i]? with
    |none=>rw[e]at l;cases l
    |some a=>
     rw[e]at l;cases l;obtain⟨u,hu,G⟩:=r.get e;exact⟨u,G,.inl ⟨S.par y<|ACx j,Le S.nd j hu⟩⟩
   ·rw[jc<|by lia]at j;rw[jc<|by rw[ap];lia,bv,ap,R]at l;cases e:ws[i-ps.length]? with
    |none=>rw[e]at l;cases l
    |some a=>
     rw[e]at l;cases l;obtain⟨c,o,u,e1,e2,e3,G⟩:=L.val _ _ _ j e;exact⟨u,G,.inr ⟨.inr<|S.fr y<|ACx j,c,e1,o,F _ _ (g.Ax c _ e2).1,e3⟩⟩
  ·obtain⟨o,v,e,d⟩:=L.fz c<|m7.mpr ⟨_,pi h,rfl⟩;exact⟨v,o,F _ _ (g.Ax c _ e).1,d⟩
  ·show _=(ps++fs).length;rw[b8,ap,ap,b8,R,L.len]
 refine PySem.W.kla_codeExpr (A0 (ht [] _ _ _ _ I hq) (λu s' h=>?_) λe s' h=>wv h);obtain⟨v,H',J,G,q⟩:=h;have un:Un (Tp outer) [] (CJ (cl.map (·.2)) H) H' s.heap s'.heap:=J.base;obtain⟨z1,z2⟩:=un.fz M D (λb _=>by simp);exact⟨v,_,J.os,J.bare,un.on M D λb _=>by simp,Ee.on J.Ax z2 z1,G,q z2⟩
theorem Qe.ok{k:Nat}{pm ctv:b7}{c:Addr}{fs:List Str}{G:Hp}{us:List V}(_:Qe G f qual params body scope cl pm c ctv fs us)(S:Ue ps fs scope)(len:∀vs H Q E,sp vs H Q E->vs.length=ps.length)(a:∀vs H Q E,sp vs H Q E->∃ws,Qe H f qual params body scope cl pm c ctv fs ws/\∀(A:AT) (outer:List Env) (s:d8),BX k (A.deeper (P9 qual scope s.heap.objs.size f (.ref c) cl))->
   ∃t,PE (nq P w K mg base (ps++fs) qual scope f (.ref c) cl A outer s (CJ (cl.map (·.2)) H)) body t/\t (vs.map ι++ws.map ι) (CJ (cl.map (·.2)) H) λv H'=>(∀b∈cl.map (·.2),H' b=ν)->Q v (NK (cl.map (·.2)) H H')):
  Ab P w K mg base Bs (k+1) f (adr "<lambda>" qual params body scope cl pm (.ref c) ctv) ps sp:=iA S len a
def ql(K:ACy)(H:Hp)(f:Addr):Prop:=n8 K (.ref f)=true∨∃o u a,H f=ι (.BK o u)/\o.data=.func a
theorem Inv.yb(I:Inv X pins σ H s)(h:ql X.K X.H₀ f):∃k,(k=Keeper.frame∨k=Keeper.machine∨k=Keeper.boundFrame)/\adE (i7 X.prog X.w) s.heap (keeperOf (.ref f)) k:=by
 rcases h with h|⟨o,u,a,e,d⟩
 ·exact PySem.W.keeps_K h _ I.FG
 ·have g:=(I.Ax f _<|I.base.Ef f o u e).1;obtain⟨b,c,i,j⟩:=o;cases d;exact⟨.frame,.inl rfl,(PySem.W.Looks.ld (part:=ν) g).andThen .now⟩
section
variable {CX:VW} {k:Nat} {fd:j4} {Kw:List V} {ds:List b7} {E:XK} {pos:Pos} {e:u7} {es:List u7} {t:TA} {tf:TE}
theorem Yt(i:PE X (.Name x p) tf)(F:Ab X.prog X.w X.K X.mg X.base CX k f fd ps sp)(j:BX k X.A)(l:ql X.K X.H₀ f)(m:Binds X.K fd ps ds)(n:Vals Kw ds)(o:Passes CX X E)(y:PA X (e::es) t)(B:jL (e::es) X.env=(false,wP e X.env)::jL es X.env:=by rfl)(c:(D6 pos (jL es X.env)).any (·.1)=false:=by rfl):
  PE X (.Call (.Name x p) (e::es) [] pos) (λb H Q=>tf b H λv d=>v=.ref f/\Pk sp Kw E t b d Q):=by
 intro pins s b H Q I h;refine wT (BQ (i pins s b H _ I h) λu C ⟨v,D,G,J,L,q⟩=>?_);subst L;cases(show u=jM f from J);have a:=y pos pins C b D _ G q;rw[B]at a⊢;refine PySem.W.callWith_of (P:=λh=>∃k,(k=Keeper.frame∨k=Keeper.machine∨k=Keeper.boundFrame)/\adE (i7 X.prog X.w) h (keeperOf<|.ref f) k) (by show((false||(D6 pos<|jL es X.env).any (·.1))||false)=false;rw[c];rfl) (λ_ z=>z) (M9<|BQ a λN O M=>M.elim λR d g r q=>⟨g.yb l,?_⟩);exact Ny F j m n o g r q
structure yc(X:Cx)(σ:St)(H F:Hp):Prop where
 ni:∀x c,X.env.cells.lookup x=ι c->∃o v,F c=ι (.BK o (.own 0))/\o.data=.cell v
 val:∀(i:Nat) x v c,X.N[i]?=ι x->σ[i]?=ι (ι v)->X.env.kindOf x=ι .cell->X.env.cells.lookup x=ι c->∃o u,F c=ι (.BK o (.own 0))/\o.data=.cell (ι u)/\RelV v u
 BB:∀x c,X.env.cells.lookup x=ι c->H c=ν
 inj:∀x y c,X.env.cells.lookup x=ι c->X.env.cells.lookup y=ι c->x=y
def Ec(X:Cx):List Addr:=X.env.cells.filterMap λp=>if X.env.cells.lookup p.1=ι p.2 then ι p.2 else ν
theorem Cu:c∈Ec X↔∃x,X.env.cells.lookup x=ι c:=by
 unfold Ec;rw[PP];constructor
 ·rintro⟨⟨x,d⟩,_,e⟩;split at e
  ·rename_i h;cases e;exact⟨x,h⟩
  ·cases e
 ·rintro⟨x,h⟩;exact⟨(x,c),pi h,by rw[if_pos h]⟩
def NL(h:Heap):Hp:=λb=>(h.get? b).map λo=>.BK o<|.own 0
theorem Yu(F:Ab X.prog X.w X.K X.mg X.base CX k f fd ps sp)(hr:BX k X.A)(hg:Gl X x)(hm:X.mg x=ι (.ref f))(hk:n8 X.K (.ref f)=true)(a:Binds X.K fd ps ds)(hd:Vals Kw ds)(g:CX=Bs)(ha:PA X (e::es) t)(y:∀x,X.fn x=true:=by intro _;rfl)(N:(x==("__debug__":Str))=false:=by decide)(he:jL (e::es) X.env=(false,wP e X.env)::jL es X.env:=by rfl)(O:(D6 pos (jL es X.env)).any (·.1)=false:=by rfl):
  PE X (.Call (.Name x p) (e::es) [] pos) (λL H Q=>t L H λM B=>∀F,yc X L B F->sp (M++Kw) (NK (Ec X) F B) (λw H2=>Q w (CJ (Ec X) H2)) λ_ _ _=>False):=by
 intro pins s L H Q I h;refine wT<|KN I hg hm ?_ N;refine O9 (h₀:=X.base) I.ok.mod.e_ hk (BQ (ha pos pins s L H _ I h) λC n zq=>zq.elim λM B J r q=>⟨J.FG,?_⟩) he O;have P:bb (Ec X) (NL n.heap) n.heap:=λb m=>by
  obtain⟨x,g⟩:=Cu.mp m;obtain⟨v,o,j,_⟩:=J.cell x b g;exact⟨o,by unfold NL;rw[j];rfl,j⟩
 have U:∀b∈Ec X,B b=none:=λb m=>let⟨x,g⟩:=Cu.mp m;J.Dn x b g;have q:=q (NL n.heap) ⟨λx c R=>by
   obtain⟨v,o,j,d⟩:=J.cell x c R;exact⟨o,v,by unfold NL;rw[j];rfl,d⟩,λi x v c h1 h2 Y h4=>by
   obtain⟨m,hn,S⟩:=J.loc;obtain⟨u,T,l⟩:=S i x v h1 h2<|.inr<|.inl Y;rcases l with⟨l,_⟩|⟨_,c',e1,o,j,d⟩
   ·rw[Y]at l;cases l
   ·rw[h4]at e1;cases e1;exact⟨o,u,by unfold NL;rw[j];rfl,d,T⟩,λx c R=>J.Dn x c R,J.ok.inj⟩
 have D:∀b∈Ec X,b∉Tp X.stack:=λb m a=>by
  obtain⟨x,g⟩:=Cu.mp m;rcases ca.mp (J.Nu b a)with z|z
  ·exact J.dI x b g z
  ·obtain⟨_,o,j,_⟩:=J.ok.HV.mem z;exact absurd (i6 (g7 j)<|J.ok.fH x b (y x) g)<|x8 _
 have e0:Pj X.prog X.w X.K X.mg X.base X.A X.stack n (NK (Ec X) (NL n.heap) B):=by
  have E:=J.fy;refine⟨E.frames,E.mod,λb o a=>⟨(E.bs b o a).1,?_⟩,E.Ws,E.HV,λb a=>by rw[By λm=>D b m a];exact E.aI b a,E.Ax.on U P,E.bare⟩;rw[By λm=>?_]
  ·exact(E.bs b o a).2
  ·obtain⟨x,g⟩:=Cu.mp m;have:=J.ok.fH x b (y x) g;exact absurd (i6 (g7 a)<|j5 J.ok.Ws this)<|x8 _
 have Z:Vals (M++Kw) (C++ds):=r.append hd;have S:(C++ds).length=ps.length:=by rw[<-Z.length];exact F.len _ _ _ _ q
 refine aaa (KB (F.run X.A X.stack n _ ⟨C,[]⟩ (C++ds) (M++Kw) _ _ hr e0 (a n C J.FG S) Z q) λr s' G=>?_);cases r with
 |error e=>subst g;exact wv G
 |ok fl=>
  cases fl with
  |ret u=>
   obtain⟨v,H',os,bare,un,Ax,T,q⟩:=(show CE _ _ _ _ _ _ _ _ from G);have zB:bb (Ec X) H' s'.heap:=λb m=>by
    obtain⟨o,e1,_⟩:=P b m;have e2:=un.Ef b o _ (by rw[Ih m];exact e1);exact⟨o,e2,(Ax b _ e2).1⟩
   exact J.after ⟨v,_,os,bare,un.off U P Ax D,Ax.off zB,T,q⟩
  |next=>exact wv G
  |brk=>exact wv G
  |cont=>exact wv G
end
def BM(mg:Str->Option b7)(h:Heap):Prop:=∃b a,mg "__builtins__"=ι (.ref b)/\b≠aab/\h.get? b=ι a/\a.cls=.type "module"/\a.dict=ι aab/\a.data=.plain
inductive Ey(pos:Pos)(qual:Str)(T:Addr)(H:Hp):Prop
 |new (h:H T=ι (.Ju #[]))
 |old (c:Addr) (a:Obj) (xs:Array b7) (t:Tok) (h:H T=ι (.Ju #[sn pos.line,sn pos.col,.ref c])) (b:H c=ι (.BK a (.own 0))) (d:a.data=.fields xs) (n:xs[1]?=ι (.str qual t))
theorem Ey.up(h:Ey pos qual T H)(s:AF H H'):Ey pos qual T H':=by
 cases h with
 |new h=>exact .new (s _ _ h)
 |old c a b t h e d n=>exact .old c a b t (s _ _ h) (s _ _ e) d n
inductive lG(T:Addr)(pos:Pos)(qual:Str)(params:Arguments)(body:u7)(scope:Scope)(cl:List (Str×Addr))(H:Hp)(Q:VK):Prop
 |mk(d:Ey pos qual T H)(e:∀(f c:Addr) (pm ctv:b7) (H':Hp),(∀b o,b≠T->H b=ι o->H' b=ι o)->H f=ν->Ey pos qual T H'->H' f=ι (.BK (A6 "<lambda>" qual params body scope cl pm c ctv) (.own 0))->(∃a u xs t,H' c=ι (.BK a u)/\a.data=.fields xs/\xs[1]?=ι (.str qual t))->Q (.ref f) H')
def qm(T:Addr)(pos:Pos)(qual:Str)(params:Arguments)(body:u7)(scope:Scope)(cl:List (Str×Addr)):TE:=λ_ H Q=>lG T pos qual params body scope cl H Q
theorem iB{pos:Pos}(j:X.env.code=.ref c)(hC:D4 X.K c T=true)(hB:BM X.mg X.base)(x:ada scope X.env=pure cl)(y:defaultsOf params X.env=([],[])):
  PE X (.Lambda params body scope pos) (qm T pos (X.env.qual++"<lambda>") params body scope cl):=by
 intro pins s σ H Q I ⟨x0,x1⟩;refine PySem.W.kla_eval y ?_;have hT:∃U,H T=ι (.Ju U):=by
  cases x0 with
  |new h=>exact⟨_,h⟩
  |old c m A t h V d n=>exact⟨_,h⟩
 have C:=abf I.FG hC;have g:=I.mod.glob.keeps I.bk;have nT:∀b o,X.base.get? b=ι o->b≠T:=λb o e z=>by
  obtain⟨U,N⟩:=hT;rw[<-z,(I.bs b o e).2]at N;cases N
 have gT:ul≠T:=by
  obtain⟨o,es,ep,e,_⟩:=I.mod.glob;exact nT _ _ e
 have hb:s.heap.BuiltinsAt X.mg T:=by
  obtain⟨bm,ob,b1,b2,O,b4,b5,Y⟩:=hB;refine⟨bm,ob,b1,b2,λz=>?_,nT _ _ O,I.bk _ _ O,b4,b5,Y⟩;obtain⟨o,es,ep,e,d,_⟩:=I.mod.glob;rw[z,e]at O;cases O;rw[d]at Y;cases Y
 cases x0 with
 |new h=>
  have Z:s.heap.get? T=ι (E1 #[]):=I.Ax T _ h;refine PySem.W.kla_makeFunction (mg:=X.mg) x I.ok.glob g j C Z trivial rfl gT hb λa f i tk hx p B D E=>?_;obtain⟨c₂,m,vs,t,N,F,hd,hv⟩:=D;cases N;have G:s.heap.objs.size<=i.objs.size:=j5 p<|t8 B;have nc:H a=none:=I.Ax.fresh p;have nf:H i.objs.size=none:=I.Ax.fresh G;have cT:a≠T:=Bw nc h;have fT:i.objs.size≠T:=Bw nf h;have fc:i.objs.size≠a:=N1 B;generalize v:upd (upd (upd H T<|.Ju<|#[]++ #[sn pos.line,sn pos.col,.ref a]) a<|.BK m<|.own 0) i.objs.size (.BK (A6 "<lambda>" (X.env.qual++"<lambda>") params body scope cl ((X.mg "__name__").getD .none) a f)<|.own 0)=k;have CK:∀b o,b≠T->H b=ι o->k b=ι o:=λb o n e=>by
   rw[<-v,AH<|AW e nf,AH<|AW e nc,AH n];exact e
  have atT:k T=ι (.Ju<|#[]++ #[sn pos.line,sn pos.col,.ref a]):=by rw[<-v,AH fT.symm,AH cT.symm,AA]
  have q:k a=ι (.BK m<|.own 0):=by rw[<-v,AH fc.symm,AA]
  have J:k i.objs.size=ι (.BK (A6 "<lambda>" (X.env.qual++"<lambda>") params body scope cl ((X.mg "__name__").getD .none) a f)<|.own 0):=by rw[<-v,AA]
  have YU:∀b,b<s.heap.objs.size->H b=ν->k b=none:=λb l e=>by
   rw[<-v,AH<|i4<|i6 l G,AH<|i4<|i6 l p,AH<|Bw e h];exact e
  have yd:∀b o,k b=ι o->(b≠T/\b≠a/\b≠i.objs.size/\H b=ι o)∨b=T∨b=a∨b=i.objs.size:=λb o e=>by
   by_cases L:b=T
   ·exact .inr<|.inl L
   by_cases P:b=a
   ·exact .inr<|.inr<|.inl P
   by_cases R:b=i.objs.size
   ·exact .inr<|.inr<|.inr R
   rw[<-v,AH R,AH P,AH L]at e;exact .inl ⟨L,P,R,e⟩
  have keep:∀b o,b≠T->s.heap.get? b=ι o->(i.push<|A6 "<lambda>" (X.env.qual++"<lambda>") params body scope cl ((X.mg "__name__").getD .none) a f).get? b=ι o:=λb o n e=>be _<|hx b o n e;have un:Un X.fs [] H k s.heap (i.push<|A6 "<lambda>" (X.env.qual++"<lambda>") params body scope cl ((X.mg "__name__").getD .none) a f):=
   ⟨λb o e n _ _=>keep b o (Bw n h) e,λb o e n _ _=>⟨o.slots,keep b o (Bw n h) e⟩,λb o e n _=>YU b (g7 e) n,λb o e _=>by
    by_cases z:b=T
    ·exact⟨_,by rw[z];exact be _ E⟩
    ·exact⟨o,keep b o z e⟩,λb A e=>CK b _ (Bw e h) e,λb o u e=>CK b _ (Bw e h) e,λb U e=>by
    by_cases z:b=T
    ·subst z;rw[h]at e;cases e;exact⟨_,atT⟩
    ·exact⟨#[],by rw[CK b _ z e];simp⟩⟩
  have Ax:Ee X.prog X.w k (i.push<|A6 "<lambda>" (X.env.qual++"<lambda>") params body scope cl ((X.mg "__name__").getD .none) a f):=λb o e=>by
   rcases yd b o e with⟨L,P,R,e1⟩|rfl|rfl|rfl
   ·refine(I.Ax b o e1).MN (λd u hd2 r=>keep d u (λz=>?_) r) (λd r=>CK d _ (Bw r h) r) λd A r=>CK d _ (Bw r h) r;rcases hd2 with w|w
    ·exact L<|w▸z
    ·rw[z,h]at w;cases w
   ·rw[atT]at e;cases e;exact be _ E
   ·rw[q]at e;cases e;exact⟨be _ F,_,be _ F⟩
   ·rw[J]at e;cases e;exact⟨g8 _ rfl,_,g8 _ rfl⟩
  refine⟨.ref i.objs.size,k,I.un (t':=tk) un Ax,rfl,x1 _ a _ f k CK nf (.old a m vs t ?_ q hd hv) J ⟨m,_,vs,t,q,hd,hv⟩⟩;rw[atT];simp
 |old a m A t h V d n=>
  have Z:s.heap.get? T=ι (E1 #[sn pos.line,sn pos.col,.ref a]):=I.Ax T _ h;refine PySem.W.kla_makeFunctionHit (mg:=X.mg) (cv:=.ref a) x I.ok.glob g j C Z trivial (by simp[codeAmong,sn]) hb λf i tk hk M=>?_;have nf:H i.objs.size=none:=I.Ax.fresh M;refine⟨.ref i.objs.size,upd H i.objs.size<|.BK (A6 "<lambda>" (X.env.qual++"<lambda>") params body scope cl ((X.mg "__name__").getD .none) a f)<|.own 0,?_,rfl,?_⟩
  ·exact I.laid (t':=tk) (λb o e=>be _<|hk b o e) M ⟨g8 _ rfl,_,g8 _ rfl⟩
  ·have S:=AF.new (o:=.BK (A6 "<lambda>" (X.env.qual++"<lambda>") params body scope cl ((X.mg "__name__").getD .none) a f)<|.own 0) nf;exact x1 _ a _ f _ (λb o _ e=>S _ _ e) nf (.old a m A t (S _ _ h) (S _ _ V) d n) AA ⟨m,_,A,t,S _ _ V,d,n⟩
structure iC(D:Pt->Prop)(root:Pt)(n:Nat)(l:List Pt)(jS:List (List Pt)):Prop where
 len:jS.length=n
 eq:l=root::jS.flatten
 kids:∀(j:Nat) a ks,l[j]?=ι a->jS[j]?=ι ks->Eu a.hold ks
 ok:∀a∈l,D a
 pos:∀j,j<n->j<=(jS.take j).flatten.length
variable{D:Pt->Prop}
theorem Yv(d:D root)(eA:∀t us,D t->Eu t.hold us->∀u∈us,D u)(b:Of root n l c):iC D root n l c:=by
 induction b with
 |start=>exact⟨rfl,rfl,λj a A _ h=>by simp at h,λx i=>by rw[bi.mp i];exact d,λj h=>by lia⟩
 |@next n l c t us b m k v=>
  obtain⟨o,p,w,q,y⟩:=v;have r:=DR m;refine⟨by simp[o],by rw[p];simp,λj x s g f=>?_,λx i=>?_,λj z=>?_⟩
  ·by_cases z:j<n
   ·rw[g9<|by lia]at g f;exact w j x s g f
   ·have:=DR f;rw[b8,i5]at this;have e:j=n:=by lia
    subst e;rw[g9 r,m]at g;rw[jc<|by lia,o,Gc]at f;cases g;have:us=s:=by simpa using f
    subst this;exact k
  ·rcases db.mp i with h|h
   ·exact q x h
   ·exact eA t us (q t<|ACx m) k x h
  ·by_cases h:j<n
   ·rw[J7<|by lia];exact y j h
   ·have e:j=n:=by lia
    subst e;rw[J7<|by lia,R1<|by lia];rw[p,g6]at r;lia
theorem iC.at_(b:iC D root l.length l a)(c:a[j]?=ι ks):j<1+(a.take j).flatten.length/\(l.drop (1+(a.take j).flatten.length)).take ks.length=ks/\1+(a.take (j+1)).flatten.length=1+(a.take j).flatten.length+ks.length/\1+(a.take j).flatten.length+ks.length<=l.length:=by
 have d:=DR c;have e:a=a.take j++ks::a.drop (j+1):=by
  have:a.drop j=ks::a.drop (j+1):=by
   rw[j3 d];rw[ACu d]at c;rw[ACw c]
  rw[<-this,x5]
 have e1:l=root::((a.take j).flatten++(ks++(a.drop<|j+1).flatten)):=by
  have:=b.eq;rw[e]at this;rw[this];simp
 have f:a.take (j+1)=a.take j++[ks]:=by rw[j2,c];rfl
 refine⟨?_,?_,?_,?_⟩
 ·have:=b.pos j (by rw[<-b.len];exact d);lia
 ·have:l.drop (1+(a.take j).flatten.length)=ks++(a.drop<|j+1).flatten:=by
   rw[show 1+(a.take j).flatten.length=(a.take j).flatten.length+1 by lia]
   conv=>lhs;rw[e1]
   rw[List.drop_succ_cons,List.drop_left]
  rw[this,List.take_left'];rfl
 ·rw[f];simp;lia
 ·rw[e1];simp;lia
section
variable [BW K] {R:Pt->Pt->Prop}
theorem WE(z:∀b∈Z,∃o,H b=ι (.BK o (.own 0)))(a:Addr)(u:HO)(n:Plain u)(h:Rd H a u):Rd (CJ Z H) a u:=by
 have c:a∉Z:=λm=>by
  obtain⟨o,e⟩:=z a m;rcases h with h|⟨d,h⟩<;>rw[e]at h<;>cases h<;>cases n
 unfold Rd;rw[Aq c];exact h
end
namespace Ak
mutual
theorem Hs:∀(a b:Ak),a.pt=b.pt->a=b
 |any,b,h=>by cases b<;>simp[pt]at h⊢
 |Ao d,b,h=>by cases b<;>simp[pt]at h⊢;exact h
 |row xs m,b,h=>by
  cases b<;>simp[pt]at h⊢;exact⟨Og _ _ h.1,h.2⟩
 |tab ks xs ls m,b,h=>by
  cases b<;>simp[pt]at h⊢;obtain⟨⟨c,f⟩,g,h4⟩:=h;refine⟨c,Og _ _ f,?_,h4⟩;exact(abH λa b e=>by injection e).mp g
theorem Og:∀(a b:List Ak),HN a=HN b->a=b
 |[],b,h=>by cases b<;>simp[HN]at h⊢
 |x::r,b,h=>by
  cases b<;>simp[HN]at h⊢;exact⟨Hs _ _ h.1,Og _ _ h.2⟩
end
def eB(t:Pt):Prop:=∃a:Ak,t=a.pt/\a.Be/\a.wt<=900
theorem eB.ye(h:eB t):∃n,n<=20000/\PR n t:=by
 obtain⟨a,rfl,o,w⟩:=h;have:=a.Oe;exact⟨a.size,by lia,a.nd o<|by lia⟩
theorem eB.eA(h:eB t)(k:Eu t.hold us):∀u∈us,eB u:=by
 obtain⟨a,rfl,o,w⟩:=h;obtain⟨e,b,rfl⟩:=Uc o k;intro u d;obtain⟨x,c,rfl⟩:=m7.mp d;have:=b.wt o x c;exact⟨x,rfl,b.ok o x c,by lia⟩
end Ak
def Ug(w:u8):Bool:=w.params.followText "set-order"
structure lH(prog:om)(w:u8)(h:Heap)(a:Addr)(ss:List Str)(o:Obj)(es:Array (Int×b7))(ep:Nat)(t:P8)(us:List Str):Prop where
 at_:h.get? a=ι o
 ex:o.ExactSet
 da:o.data=.set es ep t
 el:ElemsOf (q0 prog w) es.toList
 st:E9 (es.toList.map (·.2)) us
 pm:us.Perm ss
 fi:t.fits es.size=true
 le:t.led= !Ug w
 pl:ss≠[]->t.plain=false
def SS(prog:om)(w:u8)(h:Heap)(a:Addr)(ss:List Str):Prop:=∃o b c t d,lH prog w h a ss o b c t d
theorem SS.keep(x:SS prog w h a ss)(k:∀o,h.get? a=ι o->h'.get? a=ι o):SS prog w h' a ss:=by
 obtain⟨o,b,c,t,d,y⟩:=x;exact⟨o,b,c,t,d,k o y.at_,y.ex,y.da,y.el,y.st,y.pm,y.fi,y.le,y.pl⟩
theorem EZ:∀{vs:List b7}{ss:List Str},E9 vs ss->vs.length=ss.length
 |_,_,.nil=>rfl
 |_,_,.cons _ _ r=>by rw[g6,g6,EZ r]
theorem lH.size(x:lH prog w h a ss o es ep t us):es.size=ss.length:=by
 have:=EZ x.st;rw[ap,j6,x.pm.length_eq]at this;exact this
theorem FZ(p:l.Perm e):∀{ss:List Str},E9 l ss->∃us,E9 e us/\us.Perm ss:=by
 induction p with
 |nil=>intro ss h;exact⟨ss,h,.refl _⟩
 |cons x _ f=>
  intro ss h;cases h with
  |cons y t h=>
   obtain⟨us,c,d⟩:=f h;exact⟨y::us,.cons y t c,d.cons y⟩
 |swap x y l=>
  intro ss h;cases h with
  |cons a t h=>
   cases h with
   |cons b u h=>exact⟨b::a::_,.cons b u (.cons a t h),.swap a b _⟩
 |trans _ _ g i=>
  intro ss h;obtain⟨us,c,d⟩:=g h;obtain⟨j,k,m⟩:=i c;exact⟨j,k,m.trans d⟩
variable{vs:List b7}{v:b7}
theorem Qf(h:E9 vs ss)(m:v∈vs):∃x t,v=.str x t/\x∈ss:=by
 induction h with
 |nil=>cases m
 |cons x t r a=>
  rcases ca.mp m with rfl|m
  ·exact⟨x,t,rfl,dL⟩
  ·obtain⟨y,u,e,m⟩:=a m;exact⟨y,u,e,b9 _ m⟩
theorem Oh(h:E9 vs ss)(x:Str)(t:Tok):E9 (vs++[.str x t]) (ss++[x]):=by
 induction h with
 |nil=>exact .cons x t .nil
 |cons y u _ r=>exact .cons y u r
theorem Uh(t:P8)(j:Nat):(t.put j).1.led=t.led/\(t.put j).1.plain=t.plain:=⟨rfl,rfl⟩
theorem TB(t:P8)(es:Array (Int×b7))(h:Int)(x:b7):(layNew t es h x).2.1.led=t.led/\(t.plain=false->(layNew t es h x).2.1.plain=false):=by
 unfold layNew;split
 ·rename_i slot d _
  dsimp only;unfold SetTable.orStandIn;split
  ·exact⟨(Uh t slot).1,λh=>(Uh t slot).2.trans h⟩
  ·exact⟨rfl,λ_=>rfl⟩
 ·exact⟨rfl,λ_=>rfl⟩
theorem Oi(t:P8)(es:Array (Int×b7))(n:Nat):(Y4 t es n).2.1.led=t.led/\(t.plain=false->(Y4 t es n).2.1.plain=false):=by
 unfold Y4;split
 ·rename_i b order e
  have a:b.led=t.led/\b.plain=t.plain:=by
   unfold SetTable.relaid SetTable.laid at e;cases c:SetTable.layClean (SetTable.sizeAbove n-1) (es.map (·.1))with
   |none=>rw[c]at e;cases e
   |some d=>rw[c]at e;cases e;exact⟨rfl,rfl⟩
  dsimp only;split
  ·exact⟨a.1,λh=>a.2.trans h⟩
  ·exact⟨rfl,λ_=>rfl⟩
 ·exact⟨rfl,λ_=>rfl⟩
variable{Q:Bool->d8->Prop}
section
theorem iD{tk:Tok}(hS:SS prog w s.heap a ss)(nx:x∉ss)(hz:ss.length<1000)(h:∀h',C9 a s.heap h'->SS prog w h' a (ss++[x])->Q true {s with heap:=h'}):g5 (i7 prog w) A (U0 a (.str x tk) ((q0 prog w).hash x)) Q E s:=by
 obtain⟨o,D,ep,t,us,Y⟩:=hS;have I:=Y.size;have P:scanBound=4096:=rfl;have C:(q0 prog w).is x (.str x tk)=true:=by simp[q0,L7]
 unfold U0 aaU;refine j8<|am<|GM Y.at_ Y.da Y.fi ?_;dsimp only;rw[byScan_of (knd:=strKind prog w) rfl (by rw[I,P];lia) Y.el,if_pos rfl];unfold setAddByScan;refine am<|am<|R9<|am<|ack C Y.at_ Y.da Y.fi Y.el ?_;have hn:D.toList.findIdx? (λe=>(q0 prog w).is x e.2)=none:=by
  rw[W7];intro e he;obtain⟨y,u,e1,m⟩:=Qf Y.st (T8 (f:=(·.2)) he);rw[e1];rw[acg];intro z;obtain⟨t2,e2⟩:=abd (show L7 x (.str y u)=true from z);have ey:y=x:=by injection e2
  exact nx<|by rw[<-ey];exact Y.pm.mem_iff.mp m
 rw[hn];dsimp only;have J:∀(b:Bool){j:d8}{R:Unit->d8->Prop},R () j->g5 (i7 prog w) A (match b with|true=>rule "set.scan.the-table-gave-way"|false=>pure ()) R E j:=λb j R hq=>by
  cases b
  ·exact ce hq
  ·exact R9 hq
 have d:=layNew_perm t D ((q0 prog w).hash x)<|.str x tk;have n:=layNew_fits t D ((q0 prog w).hash x)<|.str x tk;have v:=TB t D ((q0 prog w).hash x)<|.str x tk;generalize layNew t D ((q0 prog w).hash x) (.str x tk)=L at d n v⊢;obtain⟨c,t1,wd,gv⟩:=L;dsimp only at d n v⊢;rw[ach]at d;have S:ElemsOf (q0 prog w) c.toList:=(Y.el.push C rfl).perm d;have K:c.size=ss.length+1:=by rw[<-j6,d.length_eq,b8,j6,I];rfl
 obtain⟨B,T,U⟩:∃B,E9 (c.toList.map (·.2)) B/\B.Perm (us++[x]):=by
  have F:(D.toList++[((q0 prog w).hash x,Ix x tk)]).map (·.2)=D.toList.map (·.2)++[.str x tk]:=by rw[io];rfl
  have h2:=FZ (d.symm.map (·.2)) (ss:=us++[x]) (by rw[F];exact Oh Y.st x tk);exact h2
 have V:B.Perm (ss++[x]):=U.trans (Y.pm.append_right _);refine am (J _ ?_);have fin:∀t2:P8,t2.led=(!Ug w)->t2.plain=false->t2.fits c.size=true->g5 (i7 prog w) A (do
    storeSet a c t2
    if(!wd&&t2.tooFull)=true then do
      (match(Y4 t2 c (IR c.size)).2.2 with|true=>rule "set.scan.the-table-gave-way"|false=>pure ())
      storeSet a (Y4 t2 c (IR c.size)).1 (Y4 t2 c (IR c.size)).2.1
      pure (ι true)
     else pure (ι true)) (λr G=>r=ι true/\Q true G) E s:=λt2 l2 p2 f2=>by
  have one:∀{F:Heap}{H:Obj}{e1:Array (Int×b7)}{k:Nat}{ta:P8}(i:Array (Int×b7))(g:P8),F.get? a=ι H->H.ExactSet->H.data=.set e1 k ta->i.toList.Perm c.toList->g.led=(!Ug w)->g.plain=false->g.fits i.size=true-> (F.update a<|aac i g).get? a=ι {H with data:=.set i (k+1) g}/\SS prog w (F.update a<|aac i g) a (ss++[x]):=λ{F H e1 k ta} i g ho hx hd M l p f=>by
   have hg:(F.update a<|aac i g).get? a=ι {H with data:=.set i (k+1) g}:=by
    have:=M0 (aac i g) ho (by rw[putSet_of i g hd];rfl);rw[putSet_of i g hd]at this;exact this
   obtain⟨W,q1,q2⟩:=FZ (M.symm.map (·.2)) T;exact⟨hg,_,i,k+1,g,W,hg,hx,rfl,S.perm M,q1,q2.trans V,f,l,λ_=>p⟩
  obtain⟨g1,S1⟩:=one c t2 Y.at_ Y.ex Y.da (.refl _) l2 p2 f2;have b1:=Heap.SameBut.update s.heap a<|aac c t2;refine am (ab1 Y.at_ Y.da ?_<|ab7<|by rw[K,P];lia);split
  ·have N:=relayAll_perm t2 c<|IR c.size;have X:=relayAll_fits t2 c<|IR c.size;have O:=Oi t2 c<|IR c.size;generalize Y4 t2 c (IR c.size)=Rl at N X O⊢;obtain⟨e3,t3,g3⟩:=Rl;dsimp only at N X O⊢;have Z:e3.size=c.size:=by rw[<-j6,N.length_eq,j6]
   refine am (J _<|am<|ab1 g1 rfl ?_<|ab7<|by rw[Z,K,P];lia);obtain⟨_,S3⟩:=one e3 t3 g1 Y.ex rfl N (O.1.trans l2) (O.2 p2) X;exact ce ⟨rfl,h _ (b1.trans<|Heap.SameBut.update _ a _) S3⟩
  ·exact ce ⟨rfl,h _ b1 S1⟩
 have done:∀{r:Option Bool}{G:d8},r=ι true/\Q true G->g5 (i7 prog w) A (match r with|some added=>pure added|none=>aaU a (.str x tk) ((q0 prog w).hash x) 99999) Q E G:=λ⟨e,q⟩=>by subst e;exact ce q
 split
 ·rename_i M
  refine am ?_;rw[hashByValue_scannable 8 (x:=.str x tk) rfl];refine ce ?_;refine BQ (fin {t1 with plain:=false} (v.1.trans Y.le) rfl<|SetTable.fits_plain_off n) λr G hr=>?_;obtain⟨rfl,q⟩:=hr;exact ce q
 ·rename_i M
  refine am<|ce ?_;refine BQ (fin t1 (v.1.trans Y.le) (by simpa using M) n) λr G hr=>?_;obtain⟨rfl,q⟩:=hr;exact ce q
theorem Jn:∀{vs:List b7}{ss:List Str},E9 vs ss->∀{x:Str},x∈ss->∃t,Ix x t∈vs
 |_,_,.cons x t r,y,h=>by
  rcases ca.mp h with rfl|h
  ·exact⟨t,dL⟩
  ·obtain⟨u,m⟩:=Jn r h;exact⟨u,b9 _ m⟩
theorem iE(f:SS prog w s.heap a ss)(g:x∈ss)(hz:ss.length<1000)(h:Q false s):g5 (i7 prog w) A (U0 a (.str x tk) ((q0 prog w).hash x)) Q E s:=by
 obtain⟨o,d,n,t,p,Y⟩:=f;have c:=Y.size;have i:scanBound=4096:=rfl;have b:(q0 prog w).is x (.str x tk)=true:=by simp[q0,L7]
 unfold U0 aaU;refine j8<|am<|GM Y.at_ Y.da Y.fi ?_;dsimp only;rw[byScan_of (knd:=strKind prog w) rfl (by rw[c,i];lia) Y.el,if_pos rfl];unfold setAddByScan;refine am<|am<|R9<|am<|ack b Y.at_ Y.da Y.fi Y.el ?_;obtain⟨j,k⟩:∃j,d.toList.findIdx? (λe=>(q0 prog w).is x e.2)=ι j:=by
  cases e:d.toList.findIdx? (λe=>(q0 prog w).is x e.2)with
  |some j=>exact⟨j,rfl⟩
  |none=>
   rw[W7]at e;obtain⟨u,m⟩:=Jn Y.st<|Y.pm.mem_iff.mpr g;obtain⟨z,hz,l⟩:=m7.mp m;have:=e z hz;rw[l]at this;simp[q0,L7]at this
 rw[k];exact ce<|ce h
end
def Ui(a:List Str)(x:Str):List Str:=if x∈a then a else a++[x]
def PU(l:List Str):List Str:=l.foldl Ui []
theorem bc:y∈Ui a x↔y∈a∨y=x:=by
 unfold Ui;by_cases h:x∈a
 ·rw[if_pos h];exact⟨.inl,λz=>z.elim id λe=>by rw[e];exact h⟩
 ·rw[if_neg h,db,bi]
theorem iF(n:a.Nodup):(Ui a x).Nodup:=by
 unfold Ui;by_cases h:x∈a
 ·rw[if_pos h];exact n
 ·rw[if_neg h];exact i3.mpr ⟨n,by simp,λp c q b z=>h<|by rw[bi]at b;rw[<-b,<-z];exact c⟩
theorem Oj:∀{l a:List Str},a.Nodup->(l.foldl Ui a).Nodup/\((l.foldl Ui a).length<=a.length+l.length)/\∀y,y∈l.foldl Ui a↔y∈a∨y∈l
 |[],a,n=>⟨n,by simp,λy=>by simp⟩
 |x::r,a,n=>by
  obtain⟨b,d,c⟩:=Oj (l:=r)<|iF (x:=x) n;refine⟨b,?_,λy=>?_⟩
  ·have:(Ui a x).length<=a.length+1:=by unfold Ui;split<;>simp
   simp only[aay,g6];lia
  ·rw[aay,c,bc,ca];exact⟨λz=>z.elim (λz=>z.elim .inl λe=>.inr<|.inl e) λz=>.inr<|.inr z,λz=>z.elim (λz=>.inl<|.inl z) λz=>z.elim (λe=>.inl<|.inr e) .inr⟩
theorem Ol(l:List Str):(PU l).length<=l.length:=by have:=(Oj (l:=l) (a:=[]) .nil).2.1;unfold PU;simpa using this
theorem iG:y∈PU l↔y∈l:=by have:=(Oj (l:=l) (a:=[]) .nil).2.2 y;unfold PU;simpa using this
theorem bg(l:List Str)(x:Str):PU (l++[x])=Ui (PU l) x:=by unfold PU;rw[List.foldl_append];rfl
theorem iH{tk:Tok}(d:SS prog w s.heap a ss)(hz:ss.length<1000)(h:∀b h',C9 a s.heap h'->SS prog w h' a (Ui ss x)->Q b {s with heap:=h'}):g5 (i7 prog w) A (U0 a (.str x tk) ((q0 prog w).hash x)) Q E s:=by
 unfold Ui at h;by_cases c:x∈ss
 ·rw[if_pos c]at h;exact iE d c hz<|h false s.heap ⟨rfl,λ_ _=>rfl⟩ d
 ·rw[if_neg c]at h;exact iD d c hz<|h true
section
theorem Yw(Q:A.handled=ν)(n:l≠I)(a:S≠I)(p:S≠l)(L:E9 items.toList ss)(hsz:ss.length<1000):
  ∀(k i:Nat)(s:d8),ss.length-i=k->i<=ss.length->s.heap.IsListIter I l i->s.heap.IsList l items->SS prog w s.heap S (PU (ss.take i))-> (∀h' tk,SS prog w h' S (PU ss)->(∀b o,b≠S->b≠I->s.heap.get? b=ι o->h'.get? b=ι o)->R (.ok (.ret .none)) {s with heap:=h',toks:=tk})->
   E8 (i7 prog w) A (.builtin "set.update.loop" ⟨[.ref S,.ref I],[]⟩) R s:=by
 have W:=Walks.list (prog:=prog) (w:=w) (A:=A.in1) Q I l n items;have hlen:items.size=ss.length:=by have:=EZ L;rw[j6]at this;exact this
 intro k
 induction k with
 |zero=>
  intro i s T U c q m u;have z:i=ss.length:=by lia
  subst z;refine uy O0 ?_;rw[p9 C7 _];show g5 _ A.in1 (On (.ref I)>>=_) _ _ s;refine am (W.done s _ _ (by rw[hlen];exact⟨c,q⟩) λh' tk kept=>?_);rw[im]at m;show g5 _ A.in1 (ret Ev) _ _ _;exact ce (u h' tk (m.keep λo e=>kept _ o (by simp[a]) e) λb o _ V e=>kept b o (by simp[V]) e)
 |succ k B=>
  intro i s T U c q m u;have d:i<ss.length:=by lia
  obtain⟨x,M⟩:=B' ss i d;refine uy O0 ?_;rw[p9 C7 _];show g5 _ A.in1 (On (.ref I)>>=_) _ _ s;refine am (W.item i s _ _ (by rw[hlen];exact d) ⟨c,q⟩ λv h' tk X f kept=>?_);obtain⟨g,rfl⟩:∃t,v=.str x t:=by
   have gen:∀{C:List b7}{D:List Str},E9 C D->∀{i:Nat}{v:b7}{x:Str},C[i]?=ι v->D[i]?=ι x->∃t,v=.str x t:=by
    intro C D h
    induction h with
    |nil=>intro i v x e _;simp at e
    |cons y t r B=>
     intro i v x e1 j;cases i with
     |zero=>simp at e1 j;subst e1 j;exact⟨t,rfl⟩
     |succ i=>exact B (by simpa using e1) (by simpa using j)
   exact gen L (by rw[q4];exact X) M
  have E:SS prog w h' S (PU<|ss.take i):=m.keep λo e=>kept _ o (by simp[a]) e;have ld:=Ol<|ss.take i;rw[re]at ld;have j:PU (ss.take<|i+1)=Ui (PU<|ss.take i) x:=by rw[j2,M];exact bg _ _
  show g5 _ A.in1 (P7 [Ix x g] (setAdd S<|.str x g)>>=_) _ _ _;refine am<|j8 ?_;unfold setAdd;refine j8<|am<|(q0 prog w).pyHash (k:=x) (by simp[q0,L7]) ?_;refine iH (s:={s with heap:=h',toks:=tk+1}) E (by lia) λb2 Y G N=>?_;rw[<-j]at N;refine ce ⟨x6 C7 _,B (i+1) _ (by lia) d (f.1.at λo e=>by rw[G.2 I<|k8 a];exact e) (f.2.at λo e=>by rw[G.2 l<|k8 p];exact e) N λZ H J K=>u Z H J λb o O P e=>K b o O P ?_⟩;show Y.get? b=ι o;rw[G.2 b O];exact kept b o (by simp[P]) e
end
section
theorem bh(a:b7){Q₁:b7->d8->Prop}(h:Q₁ (.ref s.heap.objs.size) {s with heap:=s.heap.push {cls:=.type "set",dict:=ν,data:=.set #[] 0 (.fresh 0 0 (!Ug w))}}):
  E8 (i7 prog w) A (.call (.builtin "set.__new__") ⟨[.type "set",a],[]⟩) (wants Q₁ E) s:=by
 refine acP ?_;show g5 _ A.in1 (do checkBuiltinCall "set.__new__" ⟨[.type "set",a],[]⟩;again<|.builtin "set.__new__" ⟨[.type "set",a],[]⟩) _ _ s;refine am<|wpAny_of_eq (PySem.F.newCall_set_1 a)<|ce ⟨x6 aaG _,uy PySem.F.entry_set_new ?_⟩;rw[p9 aaG _];unfold Builtin.«set.__new__» Builtin.Frozenset.newClass;have b:=sub_set_self;obtain⟨c,g,d,e,os⟩:=s;dsimp only;wp_walk;refine Y7<|ce ?_;dsimp only;simp only[newObj];exact am<|wpAny_alloc<|ce<|ce h
end
abbrev Om(w:u8):Obj:={cls:=.type "set",dict:=ν,data:=.set #[] 0 (.fresh 0 0<|!Ug w)}
theorem SS.fresh(e:h.get? a=ι (Om w)):SS prog w h a []:=
 ⟨_, #[],0,_,[],e,⟨rfl,rfl,rfl⟩,rfl,(λe b=>by simp at b),.nil,.refl _,rfl,rfl,λz=>absurd rfl z⟩
section
theorem Mg{Q:b7->d8->Prop}(T:A.handled=ν)(hl:s.heap.IsList l items)(U:E9 items.toList ss)(y:ss.length<1000)(h:∀(h':Heap) (tk:Nat),SS prog w h' s.heap.objs.size (PU ss)->(∀b o,b<s.heap.objs.size->s.heap.get? b=ι o->h'.get? b=ι o)->Q (.ref s.heap.objs.size) {s with heap:=h',toks:=tk}):
  g5 (i7 prog w) A (call (.type "set") [.ref l]) Q E s:=by
 obtain⟨c,tl,J⟩:=y8.mro;have z:=y8.made;have K:=y8.sub;refine aaa<|acP ?_;show g5 _ _ (callAny (.type "set") _) _ _ _;refine ce ⟨Code.quiet_builtin _<|by decide+kernel,uy PySem.F.entry_type_call ?_⟩;rw[Around.under_plain (weight_type_call_type "set" [.ref l] []) rfl];have h1:=y8.notType;have h2:=y8.canCreate;have V:=PySem.F.typeCall_set_1<|.ref l
 repeat (any_goals (first|assumption|wp_step))
 refine KB (bh (.ref l) (E:=E) (Q₁:=λm f=>m=.ref s.heap.objs.size/\f={s with heap:=s.heap.push<|Om w}) ⟨rfl,rfl⟩) λr f B=>?_;cases r with
 |error e=>exact B
 |ok W=>
  cases W with
  |ret m=>
   obtain⟨rfl,rfl⟩:=B;have L:(s.heap.push<|Om w).get? s.heap.objs.size=ι (Om w):=g8 _ rfl;have X:Shared.TypeIs {s with heap:=s.heap.push<|Om w} (.ref s.heap.objs.size) "set":=⟨_,L,rfl⟩;have Y:=y8.init.lookup;have Z:=y8.init.bind<|.ref s.heap.objs.size
   repeat (any_goals (first|assumption|wp_step))
   refine KB (aa1 (R:=wants (λr g=>r=.none/\∃h' tk,g={s with heap:=h',toks:=tk}/\SS prog w h' s.heap.objs.size (PU ss)/\(∀b o,b<s.heap.objs.size->s.heap.get? b=ι o->h'.get? b=ι o)) E) y8.init.plain PySem.F.entry_set_init<|check_set_init_1 X ?_) λn g a=>?_
   ·obtain⟨ol,p,q,M,t⟩:=hl;obtain⟨N,i,C,d⟩:=ol;simp only at q t;subst q;subst t;have u:(s.heap.push<|Om w).get? l=ι {cls:=.type "list",dict:=i,data:=.seq items M,slots:=d}:=be _ p;have O:=PySem.F.sub_list_set;have P:=PySem.F.sub_list_frozenset;have bL:(V5 "list"==V5 "dict")=false:=by decide
    have v:(s.heap.push<|Om w).IsList l items:=⟨_,u,rfl,M,rfl⟩;unfold Builtin.«set.__init__» noKeywords Builtin.Frozenset.updateFrom;generalize D:aci=PI;wp_walk;subst D;refine M3 v ?_;refine am<|adj ?_;have x:l<s.heap.objs.size:=g7 p;have j:(s.heap.push<|Om w).objs.size=s.heap.objs.size+1:=E4 ..;refine Yw (l:=l) (I:=(s.heap.push<|Om w).objs.size) (S:=s.heap.objs.size) (by simp[T]) (by rw[j];exact i4<|G0 x) (by rw[j];exact i4<|y9 _) (N1 x) U y (ss.length-0) 0 _ rfl (d9 _)
     ⟨_,g8 _ rfl,rfl,rfl⟩ (v.push _) (SS.fresh (be _ L)) λh' tk S' kp=>?_
    show g5 _ _ _ _ _ _;refine ce ?_;show g5 _ _ (ret Ev) _ _ _;refine ce ⟨rfl,h',tk,rfl,S',λb o y e=>kp b o (i4 y) (by rw[j];exact i4<|G0 y)<|be _<|be _ e⟩
   ·cases n with
    |error e=>exact a
    |ok k=>
     cases k with
     |ret r=>
      obtain⟨rfl,h',tk,rfl,G,H⟩:=a
      repeat (any_goals (first|assumption|wp_step))
      exact h _ _ G H
     |_=>exact a.elim
  |_=>exact B.elim
end
theorem Kf:Slot "set_iterator" "__next__" "set_iterator.__next__":=
 .of (owner:="set_iterator") (n:="__next__") (by rw[O6,Fa];kernel_rfl) (by decide+kernel) (by decide+kernel) (by decide+kernel) (by first|exact .inl (by decide+kernel)|exact .inr (by decide+kernel)) (by rw[aaW];kernel_rfl)
theorem Yx:aaN adX "set_iterator.__next__"=ι Builtin.«set_iterator.__next__»:=acp<|by kernel_rfl
theorem Qg:Manifest.owners.lookup (String.ofList ['r','o','t','a','r','e','t','i','_','t','e','s'].reverse)=ι Manifest.sig_set_iterator:=by kernel_rfl
theorem bj(a:b7):ac3 "set_iterator.__next__" ⟨[a],[]⟩:=by
 unfold ac3;rw[adx (id:="set_iterator.__next__") (n:=['_','_','t','x','e','n','_','_']) (o:=['r','o','t','a','r','e','t','i','_','t','e','s']) (by kernel_rfl) Qg];kernel_rfl
theorem Lg:aaN adX "set.__iter__"=ι Builtin.«frozenset.__iter__»:=aaX (id':="frozenset.__iter__") (by kernel_rfl) rfl (by decide+kernel)<|by kernel_rfl
abbrev bq(h:Heap)(b a:Addr)(f:b7)(i n ep:Nat):Prop:=h.get? b=ι {cls:=.type "set_iterator",dict:=ν,data:=.fields #[f,sn (i:Int),.ref a,sn (n:Int),sn (ep:Int)],slots:= #[]}
theorem Lh{a:Type}:∀{xs:List a}{i:Nat}(h:i<xs.length),(xs[i]::xs.eraseIdx i).Perm xs
 |x::xs,0,_=>.refl _
 |x::xs,i+1,h=>by
  have h':i<xs.length:=by simpa using h
  exact(aen x _ _).trans<|(Lh h').cons x
section
theorem TC{Q:Nat->d8->Prop}(b:n≠0)(h:∀i c,i<n->Q i {s with drawn:=c}):g5 (i7 prog w) A (choose a n) Q E s:=fun Γ p _=>by
 show Sem.wp _ _ (.choose a n .pure) _ _ p s;rw[Sem.wp_choose];exact⟨b,h _ _<|V6 _<|Nat.pos_of_ne_zero b⟩
theorem NM{d:Type}:∀(n:Nat)(xs:List d)(s:d8){j:List d->d8->Prop},xs.length=n->(∀ys e,ys.Perm xs->j ys {s with drawn:=e})->g5 (i7 prog w) A (adL n xs) j E s
 |0,xs,s,j=>λa h=>by
  have:xs=[]:=q8 a;subst this;unfold adL;exact ce (h [] s.drawn<|.refl _)
 |n+1,[],s,j=>λa h=>by simp at a
 |n+1,x::xs,s,j=>λa h=>by
  unfold adL;refine am (TC (by simp) λi e b=>?_);rw[ACu b];have f:((x::xs)[i]::(x::xs).eraseIdx i).Perm (x::xs):=Lh b;refine am<|NM n _ _ (by rw[W0 b];simpa using a) λys c g=>ce<|h _ c<|(g.cons _).trans f
end
theorem Uj{b:Type}(f:Nat->Nat):∀(n k:Nat)(xs:List b)(out:Array b),xs.length=n->(pickOrder.go f n k xs out).toList.Perm (out.toList++xs)
 |0,k,xs,out,hl=>by
  have:xs=[]:=q8 hl;subst this;unfold pickOrder.go;simp
 |n+1,k,xs,out,hl=>by
  unfold pickOrder.go;have a:f k % xs.length<xs.length:=V6 _ (by lia);rw[ACu a];have c:(xs[f k % xs.length]::xs.eraseIdx (f k % xs.length)).Perm xs:=Lh a;have d:=Uj f n (k+1) (xs.eraseIdx<|f k % xs.length) (out.push xs[f k % xs.length]) (by rw[W0 a];lia);refine d.trans ?_;rw[ach,ii];exact R8 _ c
theorem WG{a:Type}(f:Nat->Nat)(xs:Array a):(aba f xs).toList.Perm xs.toList:=by
 unfold aba;have:=Uj f xs.size 0 xs.toList #[] (by simp);simpa using this
inductive Oo(w:u8)(h:Heap)(a:Addr)(es:Array (Int×b7))(ep:Nat)(t:P8)(tps:List Addr)(i:Nat):b7->List b7->Prop
 |text (b:Ug w=true):Oo w h a es ep t tps i (sn 0) ((aba (w.params.setOrder a ep) es).toList.map (·.2))
 |drawn {tp:Addr} {ps:List Nat} (b:Ug w=false) (c:tp∈tps) (d:h.get? tp=ι {cls:=.type "tuple",data:=.seq (ps.map λ(i:Nat)=>sn (i:Int)).toArray}) (pm:ps.Perm (oo es.size)):Oo w h a es ep t tps i (.ref tp) (ps.map λj=>(es.getD j (0,.none)).2)
 |ER (b:Ug w=false) (z:es.size<=1):Oo w h a es ep t tps i (sn (if i=0 then 0 else((t.place.getD 0 0+1:Nat):Int))) (es.toList.map (·.2))
theorem TF(xs:Array Nat)(h:xs.size<=1):V8 xs 0=0:=by
 obtain⟨l⟩:=xs;rcases l with _|⟨a,_|⟨b,r⟩⟩
 ·rfl
 ·show Q4 #[a] 0 1 0 1=0;simp[Q4]
 ·simp at h
theorem WH(j:Nat):V8 #[j] (j+1)=1:=by
 show Q4 #[j] (j+1) 1 0 1=1;simp[Q4]
variable{es:Array (Int×b7)}{tps:List Addr}{os:List b7}{t:P8}{o:Obj}{ep i:Nat}{a:Addr}
section
structure br(prog:om)(w:u8)(h:Heap)(it a:Addr)(o:Obj)(es:Array (Int×b7))(ep:Nat)(t:P8)(tps:List Addr)(os:List b7)(i:Nat):Prop where
 at_:h.get? a=ι o
 da:o.data=.set es ep t
 fi:t.fits es.size=true
 le:t.led= !Ug w
 f:∃f,bq h it a f i es.size ep/\Oo w h a es ep t tps i f os
theorem br.keep{h h':Heap}{c:Addr}(x:br prog w h c a o es ep t tps os i)(k:∀b∈c::a::tps,∀o,h.get? b=ι o->h'.get? b=ι o):br prog w h' c a o es ep t tps os i:=by
 obtain⟨f,e,g⟩:=x.f;refine⟨k _ (by simp) _ x.at_,x.da,x.fi,x.le,f,k _ (by simp) _ e,?_⟩;cases g with
 |text b=>exact .text b
 |drawn b d j l=>exact .drawn b d (k _ (by simp[d]) _ j) l
 |ER b z=>exact .ER b z
end
variable{c:b7->d8->Prop}
section
theorem Ht(h:Q (Ug w) s):g5 (i7 prog w) A setsByText Q E s:=by
 unfold setsByText;exact am<|Y7<|ce h
theorem Qh{Q:Option b7->d8->Prop}(k:bq s.heap d a m i n ep)(g:g5 (i7 prog w) A.in1 (Builtin.«set_iterator.__next__» ⟨[.ref d],[]⟩) (λfin c=>∃v,fin=.done (.ret v)/\Q (ι v) c) (λe c=>∃o,e=.ref o/\c.TypeIs (.ref o) "StopIteration"/\Q ν c) s):g5 (i7 prog w) A (On (.ref d)) Q E s:=by
 have j:s.TypeIs (.ref d) "set_iterator":=⟨_,k,rfl⟩;unfold On;refine am<|abl<|C1 (name:=U1 "__next__") j Kf<|u4 Kf j Yx ?_<|bj _;refine A0 g (λfin c h=>?_) λe c h=>?_
 ·obtain⟨v,rfl,q⟩:=h;exact⟨v,rfl,ce q⟩
 ·obtain⟨o,rfl,l,q⟩:=h;exact am<|SB (T:="StopIteration") (b:=true) l adn<|ce q
theorem Qi{R:Fin->d8->Prop}(d:bq s.heap b a l i es.size ep)(e:s.heap.get? a=ι o)(h:o.data=.set es ep t)(j:t.fits es.size=true)(g:g5 (i7 prog w) A (do
   if let .int slot _:=l then
    match<-aa8 a slot.toNat i ep with
    |some (x,next)=>
     Y3 (.ref b) 0 (sn next)
     Y3 (.ref b) 1 (sn ((i:Int)+1))
     ret x
    |none=>Y3 (.ref b) 2 .none;abP (<-adO (.type "StopIteration") [])
   else
    let ι places<-aa9 l|unsupported "internal:set_iterator"
    match places[i]? with
    |some (.int place _)=>
     let x<-abS a place.toNat ep
     Y3 (.ref b) 1 (sn ((i:Int)+1))
     ret x
    |some _=>unsupported "internal:set_iterator"
    |none=>Y3 (.ref b) 0 (sn 0);Y3 (.ref b) 2 .none;abP (<-adO (.type "StopIteration") [])) R c s):g5 (i7 prog w) A (Builtin.«set_iterator.__next__» ⟨[.ref b],[]⟩) R c s:=by
 unfold Builtin.«set_iterator.__next__»;refine am (m:=slotArgs "__next__" 0 _)<|ce ?_;refine am<|wpAny_fieldsOf d rfl ?_;show g5 _ _ (setEntries a>>=_) _ _ _;refine am<|abb e h j ?_;show g5 _ _ (if((es.size:Int) !=(es.size:Int))=true then _ else _) _ _ _;rw[if_neg<|by simp];refine g
end
section
theorem Yy{R:Fin->d8->Prop}(d:A.handled=ν)(h:∀h' o,(∀b u,s.heap.get? b=ι u->h'.get? b=ι u)->Shared.TypeIs {s with heap:=h'} (.ref o) "StopIteration"->c (.ref o) {s with heap:=h'}):
  g5 (i7 prog w) A (do abP (<-adO (.type "StopIteration") [])) R c s:=by
 refine am ?_;simp only[adO,newTuple];refine am (xL ?_<|by size_fits);refine am (m:=adp _ _)<|wpAny_of_eq (a:=Ev) (by first|rfl|(simp only[adp];rfl)) ?_;refine xL ?_ (by size_fits);simp only[abP];refine am<|wpAny_handled ?_;rw[d];refine am<|ce<|wpAny_throw ?_;exact h _ _ (λb u e=>be _<|be _ e) ⟨_,g8 _ rfl,rfl⟩
theorem Ea{sl:Int}{Q:Option (b7×Nat)->d8->Prop}(k:s.heap.get? a=ι o)(l:o.data=.set es ep t)(f:t.fits es.size=true)(hl:t.led= !Ug w)(hw:Oo w s.heap a es ep t tps i (sn sl) os)(g:os[i]?=ν->Q ν s)(m:∀v (nx:Nat),os[i]?=ι v->Oo w s.heap a es ep t tps (i+1) (sn (nx:Int)) os->Q (ι (v,nx)) s):g5 (i7 prog w) A (aa8 a sl.toNat i ep) Q E s:=by
 unfold aa8;refine am<|GM k l f ?_;dsimp only;refine am<|Ht ?_;generalize c:sn sl=first at hw
 cases hw with
 |text b=>
  have q:sl=0:=by injection c
  subst q;rw[if_pos b,if_neg<|by simp];refine am ?_;unfold setWalk;refine am<|GM k l f ?_;dsimp only;refine am<|Ht ?_;rw[if_pos b];refine am<|Y7<|ce<|ce ?_;show Q (((aba (w.params.setOrder a ep) es)[i]?).map λe=>(e.2,U9 0)) s;rw[bv,q4]at g;cases n:(aba (w.params.setOrder a ep) es)[i]? with
  |none=>exact g (by rw[n];rfl)
  |some e=>exact m e.2 0 (by rw[bv,q4,n];rfl) (.text b)
 |drawn b F G H=>exact absurd c (by simp[sn])
 |ER b z=>
  rw[if_neg<|by rw[b];simp];refine K8 (λu=>absurd u ?_) λ_=>?_
  ·show¬(!t.plain&&decide (es.size>1))=true;simp;lia
  refine am ?_;show g5 _ _ (if(!t.led&& !es.isEmpty)=true then _ else pure ()) _ _ _;rw[hl,b,if_neg<|by simp];refine ce ?_;have e1:sl=(if i=0 then 0 else((t.place.getD 0 0+1:Nat):Int)):=by injection c
  have d:t.place.size=es.size:=by
   simp only[SetTable.fits,kt,beq_iff_eq]at f;exact f.1
  show g5 _ _ (pure (match es[V8 t.place sl.toNat]?,t.place[V8 t.place sl.toNat]? with|some (_,x),ι j=>ι (x,j+1)|_,_=>ν)) _ _ _;refine ce ?_;generalize B:t.place=P at d e1⊢;obtain⟨C⟩:=es;obtain⟨D⟩:=P;rcases C with _|⟨x,_|⟨y,r⟩⟩
  ·exact g<|by simp
  ·rcases D with _|⟨j,_|⟨I,r⟩⟩
   ·simp at d
   ·have J:(#[j]:Array Nat).getD 0 0=j:=rfl;by_cases p:i=0
    ·subst p;have:sl=0:=by rw[e1];simp
     subst this;rw[show U9 0=0 from rfl,TF _<|by simp];refine m x.2 (j+1) (by simp) ?_;have:=Oo.ER (w:=w) (h:=s.heap) (a:=a) (es:= #[x]) (ep:=ep) (t:=t) (tps:=tps) (i:=0+1) b (by simp);rw[B]at this;simpa using this
    ·have:sl=((j+1:Nat):Int):=by rw[e1,if_neg p];rfl
     subst this;rw[pc,WH];refine g ?_;rw[Fk];simp;lia
   ·simp at d
  ·simp at z
theorem bu{d:Addr}{Q:Option b7->d8->Prop}(x:br prog w s.heap d a o es ep t tps os i)(q:d∉a::tps)(k:os[i]?=ι v)(h:∀h',br prog w h' d a o es ep t tps os (i+1)->(∀b u,b≠d->s.heap.get? b=ι u->h'.get? b=ι u)->Q (ι v) {s with heap:=h'}):g5 (i7 prog w) A (On (.ref d)) Q E s:=by
 obtain⟨f,p,hw⟩:=x.f;have P:a≠d:=λz=>q (by rw[z];exact dL);refine Qh p<|Qi p x.at_ x.da x.fi ?_;have fin:∀{r l:Heap}{g:b7},C9 d s.heap r->C9 d r l->bq l d a g (i+1) es.size ep->Oo w s.heap a es ep t tps (i+1) g os->∃B,Fin.done (.ret v)=.done (.ret B)/\Q (ι B) {s with heap:=l}:=λ{r l g} y n R S=>by
  have H:∀b u,b≠d->s.heap.get? b=ι u->l.get? b=ι u:=λb u N e=>by rw[n.2 b N,y.2 b N];exact e
  refine⟨v,rfl,h l ⟨H a _ P x.at_,x.da,x.fi,x.le,g,R,?_⟩ H⟩;cases S with
  |text b=>exact .text b
  |drawn b C D F=>exact .drawn b C (H _ _ (λz=>q (by rw[<-z];exact b9 _ C)) D) F
  |ER b z=>exact .ER b z
 have I:((i:Int)+1)=((i+1:Nat):Int):=by simp
 generalize W:f=X at p hw⊢;cases hw with
 |text b=>
  show g5 _ _ (aa8 a (U9 0) i ep>>=_) _ _ _;refine am (Ea (tps:=tps) (sl:=0) x.at_ x.da x.fi x.le (.text b) (λz=>by rw[k]at z;cases z) λB T c J=>?_);rw[k]at c;cases c;refine am (wr p (by simp) λr K y=>am<|wr K (by simp) λl m n=>ce ?_);rw[I]at m;exact fin y n m J
 |@drawn U L b C D F=>
  show g5 _ _ (aa9 (.ref U)>>=_) _ _ _;refine am<|V7 D rfl ?_;rw[bv]at k;cases G:L[i]? with
  |none=>rw[G]at k;cases k
  |some j=>
   rw[G]at k;have O:j<es.size:=by
    have:=F.mem_iff.mp<|ACx G;exact E3.mp this
   have M:((L.map λ(i:Nat)=>sn (i:Int)).toArray)[i]?=ι (sn (j:Int)):=by simp[G]
   show g5 _ _ (match((L.map λ(i:Nat)=>sn (i:Int)).toArray)[i]? with|some (.int place _)=>_|some _=>_|none=>_) _ _ _;rw[M];show g5 _ _ (abS a (U9 (j:Int)) ep>>=_) _ _ _;refine am ?_;unfold abS;refine am<|GM x.at_ x.da x.fi ?_;dsimp only;rw[if_neg<|by simp,pc,ut O];refine ce ?_;refine am (wr p (by simp) λl m n=>ce ?_);rw[I]at m;have V:v=es[j].2:=by
    have:=ACw k;rw[<-this];simp[aej,O]
   subst V;exact fin (Heap.SameBut.refl _ _) n m (.drawn b C D F)
 |ER b z=>
  show g5 _ _ (aa8 a (U9 _) i ep>>=_) _ _ _;refine am (Ea (tps:=tps) x.at_ x.da x.fi x.le (.ER b z) (λz=>by rw[k]at z;cases z) λB T c J=>?_);rw[k]at c;cases c;refine am (wr p (by simp) λr K y=>am<|wr K (by simp) λl m n=>ce ?_);rw[I]at m;exact fin y n m J
theorem bx{m:Addr}{Q:Option b7->d8->Prop}(D:A.handled=ν)(x:br prog w s.heap m a o es ep t tps os i)(k:os[i]?=ν)(h:∀h',(∀b u,b≠m->s.heap.get? b=ι u->h'.get? b=ι u)->Q ν {s with heap:=h'}):g5 (i7 prog w) A (On (.ref m)) Q E s:=by
 obtain⟨f,g,hw⟩:=x.f;refine Qh g<|Qi g x.at_ x.da x.fi ?_;have fin:∀{q:Heap},(∀b u,b≠m->s.heap.get? b=ι u->q.get? b=ι u)->g5 (i7 prog w) A.in1 (do abP (<-adO (.type "StopIteration") [])) (λ(fin:Fin) n=>∃v,fin=.done (.ret v)/\Q (ι v) n) (λe n=>∃o,e=.ref o/\n.TypeIs (.ref o) "StopIteration"/\Q ν n) {s with heap:=q}:=λF=>
  Yy D λG H I t3=>⟨H,rfl,t3,h G λb u d e=>I b u (F b u d e)⟩
 generalize P:f=R at g hw⊢;cases hw with
 |text b=>
  show g5 _ _ (aa8 a (U9 0) i ep>>=_) _ _ _;refine am (Ea (tps:=tps) (sl:=0) x.at_ x.da x.fi x.le (.text b) (λ_=>?_) λJ K c L=>by rw[k]at c;cases c);exact am (wr g (by simp) λC r l=>fin λb u d e=>by rw[l.2 b d];exact e)
 |@drawn M p b S N T=>
  show g5 _ _ (aa9 (.ref M)>>=_) _ _ _;refine am<|V7 N rfl ?_;have y:p[i]?=none:=by
   rw[bv]at k;cases y:p[i]? with
   |none=>rfl
   |some j=>rw[y]at k;cases k
  have B:((p.map λ(i:Nat)=>sn (i:Int)).toArray)[i]?=none:=by simp[y]
  show g5 _ _ (match((p.map λ(i:Nat)=>sn (i:Int)).toArray)[i]? with|some (.int place _)=>_|some _=>_|none=>_) _ _ _;rw[B];exact am (wr g (by simp) λC r l=>am<|wr r (by simp) λq U O=>fin λb u d e=>by rw[O.2 b d,l.2 b d];exact e)
 |ER b z=>
  show g5 _ _ (aa8 a (U9 _) i ep>>=_) _ _ _;refine am (Ea (tps:=tps) x.at_ x.da x.fi x.le (.ER b z) (λ_=>?_) λJ K c L=>by rw[k]at c;cases c);exact am<|wr g (by simp) λC r l=>fin λb u d e=>by rw[l.2 b d];exact e
end
theorem Ii:Slot "set_iterator" "__iter__" "set_iterator.__iter__":=
 .of (owner:="set_iterator") (n:="__iter__") (by rw[O6,Fa];kernel_rfl) (by decide+kernel) (by decide+kernel) (by decide+kernel) (by first|exact .inl (by decide+kernel)|exact .inr (by decide+kernel)) (by rw[aaW];kernel_rfl)
theorem Mh:aaN adX "set_iterator.__iter__"=ι Builtin.«dict_keyiterator.__iter__»:=aaX (id':="dict_keyiterator.__iter__") (by kernel_rfl) (by first|rfl|decide+kernel) (by decide+kernel)<|by kernel_rfl
theorem Oq(a:b7):ac3 "set_iterator.__iter__" ⟨[a],[]⟩:=by
 unfold ac3;rw[adx (id:="set_iterator.__iter__") (n:=['_','_','r','e','t','i','_','_']) (o:=['r','o','t','a','r','e','t','i','_','t','e','s']) (by kernel_rfl) Qg];kernel_rfl
theorem Yz(c:s.TypeIs (.ref r) "set")(h:Q false s):g5 (i7 prog w) A (U4 (.ref r)) Q E s:=by
 unfold U4;refine am<|acN c PySem.F.slot_set_len.lookup ?_;generalize UU:("set.__len__":String)=d
 wp_delta
 rw[show splitId d=ι ("set","__len__")from by subst UU;decide+kernel];subst UU;refine am<|SB (T:="set") (b:=true) c (by rw[aaW];kernel_rfl) ?_;refine K8 (λa=>absurd a<|by decide) λ_=>K8 (λ_=>am<|C8 c<|ce h) λa=>absurd (by decide+kernel) a
section
theorem WI(hh:A.handled=ν){it:Addr}(bL:it∉a::tps):Walks prog w A it (it::a::tps) [it] os.length (λi v=>os[i]?=ι v) (λi h=>br prog w h it a o es ep t tps os i)where
 sub:=λb hb=>by rw[bi.mp hb];exact dL
 frame:=λi h h' x k=>x.keep k
 item:=λi s Q E hi x hQ=>by
  refine bu x bL (ACu hi) λh' x' kp=>?_;have:=hQ os[i] h' s.toks (ACu hi) x' λb u hb e=>kp b u (by simpa using hb) e;exact this
 done:=λs Q E x hQ=>by
  refine bx hh x (Fk<|bn _) λh' kp=>?_;exact hQ h' s.toks λb u hb e=>kp b u (by simpa using hb) e
 self:=λi s Q E x hQ=>by
  obtain⟨f,hI,_⟩:=x.f;have hT:s.TypeIs (.ref it) "set_iterator":=⟨_,hI,rfl⟩;refine ab3 hT Ii<|u4 Ii hT Mh ?_<|Oq _;exact ce ⟨_,rfl,"set_iterator",_,hT,Kf.lookup,hQ⟩
theorem Y_{Q:b7->d8->Prop}(Y:lH prog w s.heap a ss o es ep t us)(hz:ss.length<1000)(h:∀h' k tps os g,(∀b u,s.heap.get? b=ι u->h'.get? b=ι u)->(∀b∈tps,s.heap.objs.size<=b/\b<k)->s.heap.objs.size<=k->k<h'.objs.size->br prog w h' k a o es ep t tps os 0->os.Perm (es.toList.map (·.2))->Q (.ref k) {s with heap:=h',drawn:=g}):
  g5 (i7 prog w) A (aci (.ref a)) Q E s:=by
 have C:s.TypeIs (.ref a) "set":=⟨_,Y.at_,Y.ex.1⟩;have n:=Y.size;refine ab3 C aaD<|u4 aaD C Lg ?_<|PySem.F.args_set_iter_1 _;unfold Builtin.«frozenset.__iter__»;refine am (m:=Builtin.Frozenset.slot0 "__iter__" _)<|ce ?_;refine am ?_;unfold Builtin.Frozenset.sizeOf;refine am<|abb Y.at_ Y.da Y.fi<|ce ?_;refine am ?_;unfold setDrawn;refine am<|GM Y.at_ Y.da Y.fi ?_;dsimp only;refine am<|Ht<|ce ?_;have ends:∀{l:d8}(f:b7)(tps:List Addr)(os:List b7),(∃g d,l={s with heap:=d,drawn:=g}/\(∀b u,s.heap.get? b=ι u->d.get? b=ι u)/\(∀b∈tps,s.heap.objs.size<=b/\b<d.objs.size)/\s.heap.objs.size<=d.objs.size)->(∀h',(∀b u,l.heap.get? b=ι u->h'.get? b=ι u)->Oo w h' a es ep t tps 0 f os)->os.Perm (es.toList.map (·.2))->
   g5 (i7 prog w) A.in1 (do ret (<-newFields "set_iterator" [f,sn 0,.ref a,sn es.size,sn (<-setEpoch a)])) (λ(fin:Fin) D=>∃v,fin=.done (.ret v)/\∃T r,D.TypeIs v T/\Sc (.type T) "__next__"=pure (ι r)/\Q v D) E l:=λ{l} f tps os ⟨g,d,e1,p,t1,l1⟩ H I=>by
  subst e1;refine am<|wpAny_setEpoch_of (p _ _ Y.at_) Y.da Y.fi ?_;refine am (xL ?_<|by size_fits);have q:(d.push {cls:=.type "set_iterator",data:=.fields #[f,sn 0,.ref a,sn es.size,sn ep]}).get? d.objs.size=ι {cls:=.type "set_iterator",data:=.fields #[f,sn 0,.ref a,sn es.size,sn ep]}:=g8 _ rfl;refine ce ⟨_,rfl,"set_iterator",_,⟨_,q,rfl⟩,Kf.lookup,?_⟩;refine h _ _ tps os g (λb u e=>be _<|p b u e) t1 l1 (g7 q) ⟨be _<|p _ _ Y.at_,Y.da,Y.fi,Y.le,f,q,H _ λb u e=>be _ e⟩ I
 have G:∀b u,s.heap.get? b=ι u->s.heap.get? b=ι u:=λb u e=>e;refine K8 (λhz=>?_) λhz=>?_
 ·have c:Ug w=false:=by
   cases c:Ug w with
   |false=>rfl
   |true=>rw[c]at hz;simp at hz
  refine am (NM es.size (oo es.size) s (by simp) λx g y=>?_);have J:x.length=es.size:=by rw[y.length_eq,M4]
  refine am (adk (items:=x.map λ(i:Nat)=>sn (i:Int)) ?_<|by rw[ap];exact Au<|by lia);refine ends (.ref s.heap.objs.size) [s.heap.objs.size] (x.map λj=>(es.getD j (0,.none)).2) ⟨g,_,rfl,λb u e=>be _ e,λb c=>?_,?_⟩ (λh' B=>.drawn c dL (B _ _<|g8 _ rfl) y) ?_
  ·rw[bi.mp c];exact⟨bn _,by show _<(s.heap.push _).objs.size;rw[E4];exact y9 _⟩
  ·show _<=(s.heap.push _).objs.size;rw[E4];exact XV _
  ·refine(y.map _).trans ?_;have e:(oo es.size).map (λj=>(es.getD j (0,.none)).2)=es.toList.map (·.2):=by
    refine N6 (by simp) λi d M=>?_;have K:i<es.size:=by simpa using d
    simp[aej,K]
   rw[e]
 ·refine am<|ce ?_;cases c:Ug w with
  |true=>exact ends (sn 0) [] _ ⟨s.drawn,s.heap,rfl,G,(λb c=>by simp at c),bn _⟩ (λh' B=>.text c) ((WG _ es).map _)
  |false=>
   have z1:es.size<=1:=by
    rw[c]at hz;have hz:¬(!false&&(!t.plain&&decide (es.size>1)))=true:=hz;by_cases z:es.size=0
    ·lia
    ·have L:=Y.pl (λe=>z<|by rw[n,e];rfl);rw[L]at hz;simp at hz;lia
   exact ends (sn 0) [] _ ⟨s.drawn,s.heap,rfl,G,(λb c=>by simp at c),bn _⟩ (λh' B=>.ER c z1)<|.refl _
theorem Qj{Q:List b7->d8->Prop}(hh:A.handled=ν)(hS:SS prog w s.heap a ss)(hz:ss.length<1000)(h:∀h' tk M vs zs,(∀b u,s.heap.get? b=ι u->h'.get? b=ι u)->s.heap.objs.size<=h'.objs.size->E9 vs zs->zs.Perm ss->Q vs {s with heap:=h',toks:=tk,drawn:=M}):g5 (i7 prog w) A (collect (.ref a)) Q E s:=by
 obtain⟨o,Z,ep,t,us,Y⟩:=hS;have O:=Y.size;unfold collect;refine am<|adj<|uy PySem.F.entry_proto_collect ?_;rw[p9 PySem.F.plain_proto_collect _];show g5 _ A.in1 (newList []>>=λl=>again<|.builtin "list.__iadd__" ⟨[l,.ref a],[]⟩) _ _ s;refine am<|xL ?_;refine ce ⟨x6 Z4 _,uy PySem.F.entry_list_iadd ?_⟩;rw[p9 Z4 _];obtain⟨B,m⟩:∃B,B=s.heap.push {cls:=.type "list",data:=.seq ([]:List b7).toArray}:=⟨_,rfl⟩;have I:B.objs.size=s.heap.objs.size+1:=by rw[m];exact E4 ..
 have k1:∀b u,s.heap.get? b=ι u->B.get? b=ι u:=λb u e=>by rw[m];exact be _ e
 have P:B.get? s.heap.objs.size=ι {cls:=.type "list",data:=.seq #[]}:=by rw[m];exact g8 _ rfl
 rw[<-m];have D:a<s.heap.objs.size:=g7 Y.at_;have R:lH prog w B a ss o Z ep t us:=⟨k1 _ _ Y.at_,Y.ex,Y.da,Y.el,Y.st,Y.pm,Y.fi,Y.le,Y.pl⟩;show g5 _ A.in1 (U5 (.ref s.heap.objs.size) (.ref a)<|.ref s.heap.objs.size) _ _ _;unfold U5;refine am<|C8 (T:="set") ⟨_,R.at_,Y.ex.1⟩ ?_;have n1:Y0 (.ref s.heap.objs.size) (.ref a)=false:=by simp[Y0];exact N1 D
 rw[if_neg<|by rw[n1];decide];refine am (Y_ (s:={s with heap:=B}) R hz λN J G os M S t2 l2 lt2 x pm=>?_);have n:s.heap.objs.size+1<=J:=by rw[<-I];exact l2
 have K:s.heap.objs.size∉J::a::G:=λf=>by
  rcases ca.mp f with e|f
  ·exact absurd n<|by rw[<-e];exact aa3 _
  rcases ca.mp f with e|f
  ·exact absurd D<|by rw[e];exact x8 _
  ·have:=(t2 _ f).1;exact absurd this<|by show¬(B.objs.size<=_);rw[I];exact aa3 _
 have U:J∉a::G:=λf=>by
  rcases ca.mp f with e|f
  ·rw[e]at n;exact absurd (i6 (y9 _) n)<|aeh.mpr<|t8 D
  ·exact absurd (t2 _ f).2<|x8 _
 refine am<|j8<|Yz ⟨_,S _ _ R.at_,Y.ex.1⟩ ?_;have L:=S _ _ P;have lo:os.length=ss.length:=by rw[pm.length_eq,ap,j6,O]
 have V:∀(H:Heap)(c1:Nat),br prog w H J a o Z ep t G os 0->(∀b u,b≠s.heap.objs.size->N.get? b=ι u->H.get? b=ι u)->N.objs.size<=H.objs.size->H.get? s.heap.objs.size=ι {cls:=.type "list",data:=.seq #[] c1}->
   E8 (i7 prog w) A (.builtin "list.extend.loop" ⟨[.ref s.heap.objs.size,.ref J,.ref s.heap.objs.size],[]⟩) (λr g=>∃d c,r=.ok (.ret (.ref s.heap.objs.size))/\g.heap.get? s.heap.objs.size=ι {cls:=.type "list",dict:=ν,data:=.seq d c,slots:= #[]}/\Q d.toList g) {s with heap:=H,drawn:=M}:=λH c1 x3 k3 z3 p=>by
  refine codeAny_extend_loopS (WI (A:=A.in1) hh U).toS (by rw[lo];exact Au<|by lia) s.heap.objs.size K _ os.length 0 _ #[] c1 rfl (d9 _) x3 p (ItemsOf.nil _) λg i c' f v C=>⟨i,c',rfl,v,?_⟩;rw[Moved.eq_with f];have W:i.toList=os:=by
   refine Q9 λj=>?_;rw[q4];by_cases hj:j<i.size
   ·rw[ut hj];exact(C.2 j _<|ut hj).symm
   ·rw[Array.getElem?_eq_none<|by lia,Fk<|by rw[<-C.1];lia]
  obtain⟨zs,q1,q2⟩:=FZ pm.symm Y.st;rw[W];have kk:∀b u,s.heap.get? b=ι u->g.heap.get? b=ι u:=λb u e=>by
   have y:=g7 e;refine f.heap b u (λk=>?_)<|k3 b u (i4 y)<|S b u<|k1 b u e;rcases ca.mp k with e'|k
   ·exact absurd y<|by rw[e'];exact x8 _
   ·rw[bi.mp k]at y;exact absurd (i6 (y9 _) n)<|aeh.mpr<|t8 y
  exact h g.heap g.toks M os zs kk (t8<|g7 v) q1<|q2.trans Y.pm
 have fin:∀{g:d8}{r:abt},(∃d c,r=.ok (.ret<|.ref s.heap.objs.size)/\g.heap.get? s.heap.objs.size=ι {cls:=.type "list",dict:=ν,data:=.seq d c,slots:= #[]}/\Q d.toList g)->r=.ok (.ret<|.ref s.heap.objs.size)/\g5 (i7 prog w) A (load s.heap.objs.size>>=λo=>match o.data with| .seq xs _=>pure xs.toList|_=>unsupported "internal:collect") Q E g:=λ⟨d,c,e,v,q⟩=>⟨e,am<|abu v<|ce q⟩;refine K8 (λ_=>?_) (λhz=>absurd (by decide) hz);refine am<|R9 ?_;refine am ?_;show g5 _ _ (updateSeq s.heap.objs.size (·.push .none)>>=λ_=>updateSeq s.heap.objs.size (·.pop)) _ _ _;refine am<|aaq L rfl ?_;have p:=M0 (G4 (·.push Ev)) L rfl;refine aaq (hz:=by seq_fits) p rfl ?_;have X:=M0 (G4 (·.pop)) p rfl;have qd:∀b u,b≠s.heap.objs.size->N.get? b=ι u->((N.update s.heap.objs.size (G4 (·.push Ev))).update s.heap.objs.size (G4 (·.pop))).get? b=ι u:=λb u y e=>(K7 _ _<|k8 y).trans<|(K7 _ _<|k8 y).trans e;refine ce ⟨x6 PySem.F.plain_extend_loop _,KB (V _ _ (x.keep λb y o e=>qd b o (λz=>K<|by rw[<-z];exact y) e) qd (by simp[Heap.update]) X) λr g hr=>?_⟩;obtain⟨e,q⟩:=fin hr;subst e;exact q
end
section
def Y'(P:om)(w:u8)(p:Addr)(ss:List Str):HO:=.ext λh=>SS P w h p ss
inductive ZA(K:ACy)(P:om)(w:u8)(xs:List V)(H:Hp)(Q:VK):Prop
 |mk(l:Addr)(ss:List Str)(a:xs=[.ref l])(b:Ag K H l (ss.map V.str))(c:ss.length<1000)(d:∀p,H p=ν->Q (.ref p) (upd H p (Y' P w p (PU ss))))
theorem NN(d:X.calm=true):Bo X (.type "set") (ZA X.K X.prog X.w):=by
 intro pins s A H B f Q I r h;obtain⟨l,C,rfl,g,i,q⟩:=h;obtain⟨u,rfl,j⟩:=vals1 r;cases j;obtain⟨m,n,p,_⟩:=I.list g;refine Mg (I.ok.hd d) p.isList (by rw[T7];exact Ig n) i λv y c z=>?_;have a:∀b o,s.heap.get? b=ι o->v.get? b=ι o:=λb o e=>z b o (g7 e) e;refine⟨.ref s.heap.objs.size,_,I.laid (t':=y) a (bn _) ?_,rfl,q _ I.fresh⟩;obtain⟨o,D,E,t,f,Y⟩:=id c;exact⟨c,⟨o,Y.at_⟩,λF G x k=>x.keep k⟩
inductive TH(P:om)(w:u8)(xs:List V)(H:Hp)(Q:VK):Prop
 |mk(d:Addr)(ss:List Str)(b:xs=[.ref d])(c:H d=ι (Y' P w d ss))(e:ss.length<64)(f:∀(p:Addr) (a:List Str) (H':Hp),H p=ν->AF H H'->H' p=ι (.lst (a.map V.str))->a.Perm ss->A8 a=true->Q (.ref p) H')
theorem Inv.drawn{pins:List (Addr×Obj)}{σ:St}{H:Hp}{s:d8}(I:Inv X pins σ H s)(a:Drawn):Inv X pins σ H {s with drawn:=a}:=⟨I.ok,I.os,I.bare,I.base,I.loc,I.cell,I.free,I.Dn,I.pin,I.Ax,I.len⟩
theorem Ij(E:X.calm=true):Bo X (.builtin "sorted") (TH X.prog X.w):=by
 intro pins s U H W Y Q I r h;obtain⟨d,n,rfl,hd,F,q⟩:=h;obtain⟨u,rfl,G⟩:=vals1 r;cases G;have J:SS X.prog X.w s.heap d n:=(show Ay X.prog X.w H s.heap d (Y' X.prog X.w d n)from I.Ax d _ hd).1;refine N7 acL abU abW (abY _) ?_;unfold adS.«sorted»;refine am (m:=adb "sorted" 1 1 _) (ce<|am<|Qj (A:=X.A.in1) (I.ok.hd E) J (by lia) λc p K a L keep _ g t=>?_);have M:a.length=L.length:=EZ g;have N:=t.length_eq;have v:a.length<=sizeLine:=Au (by lia);refine am<|abk ?_ v;have f:(c.push {cls:=.type "list",data:=.seq a.toArray}).get? c.objs.size=ι (seqObj "list" a.toArray 0):=g8 _ rfl;refine am<|j8<|u4 aaT ⟨_,f,rfl⟩ aas (aar abn f g.keysOf (λx y rest e=>abV<|by rw[<-e];exact g) (by lia) λi a1 a2=>⟨_,rfl,?_⟩)<|aaY _;obtain⟨j,O,z,P⟩:=aaR g a1 a2;obtain⟨R,S⟩:=abo (out:=(aaL i).map (·.2)) f;refine ce ⟨_,rfl,?_⟩;have k:(c.push {cls:=.type "list",data:=.seq a.toArray}).objs.size=c.objs.size+1:=ac9 ..;have B:=(I.kept (t':=p) keep).drawn K;have T:∀b o,c.get? b=ι o->(V4 (c.push {cls:=.type "list",data:=.seq a.toArray}) c.objs.size a ((aaL i).map (·.2))).get? b=ι o:=λb o e=>by
  have C:b<c.objs.size:=g7 e;rw[aaS (i4 C)<|by rw[k];exact G0 C];exact be _ e
 have l:j.length<=sizeLine:=by
  rw[z.length_eq,<-M];exact v
 have new:Ay X.prog X.w (upd H c.objs.size<|.lst<|j.map V.str) (V4 (c.push {cls:=.type "list",data:=.seq a.toArray}) c.objs.size a ((aaL i).map (·.2))) c.objs.size (.lst<|j.map V.str):=
  ⟨by rw[ap];exact l,((aaL i).map (·.2)).toList,R,Gf O,by rw[B7];exact S⟩
 have D:H c.objs.size=none:=B.fresh;exact⟨.ref c.objs.size,_,B.laid (t':=p) T (bn _) new,rfl,q _ j _ D (AF.new D) AA (z.trans t) P⟩
end
open PySem.AutoSeq1 (wpAny_loadPart')
open PySem.MeetsSeq3
section
end
namespace Pt
mutual
def Wx:Pt->Prop
 |int _|str _|bl _|BB=>True
 |lst xs|tup xs=>TJ xs
 |BV ks xs=>ks.Nodup/\TJ xs
def TJ:List Pt->Prop
 |[]=>True
 |x::r=>Wx x/\TJ r
end
mutual
theorem eC:∀t:Pt,t.doc->t.Wx
 |int _,_=>trivial
 |str _,_=>trivial
 |bl _,_=>trivial
 |BB,_=>trivial
 |tup _,d=>by simp[doc]at d
 |lst xs,d=>by simp only[doc]at d;exact TK xs d
 |BV ks xs,d=>by simp only[doc]at d;exact⟨d.2.1,TK xs d.2.2.2.2⟩
theorem TK:∀xs:List Pt,CF xs->TJ xs
 |[],_=>trivial
 |x::r,d=>by simp only[CF]at d;exact⟨eC x d.1,TK r d.2⟩
end
end Pt
section
variable [BW K]
theorem Rd.one(h:Rd H a u)(h':Rd H a e)(b:∀o z,u≠.BK o z)(c:∀o z,e≠.BK o z):u=e:=by
 rcases h with h|⟨o,h⟩<;>rcases h' with h'|⟨d,h'⟩<;>rw[h]at h'
 ·exact ACw h'
 ·exact absurd (ACw h')<|b _ _
 ·exact absurd (ACw h').symm<|c _ _
 ·have:=ACw h';injection this
theorem Uk:∀{ks ls:List Str},ks.map (d0:Str->Key)=ls.map d0->ks=ls
 |[],[],_=>rfl
 |[],_::_,h=>by simp at h
 |_::_,[],h=>by simp at h
 |k::ks,l::ls,h=>by
  simp only[ge,u3]at h;rw[A5 h.1,Uk h.2]
end
section
variable [BW X.K] {σ:St} 
end
section
end
open PySem.AutoSeq1 (wpAny_loadPart')
open PySem.MeetsSeq3
section
theorem WJ(hl:s.heap.IsTuple l items)(G:s.heap.IsTuple b Y)(hsz:items.size=Y.size)(H:A.units<cLine)(I:∀j (v:j<items.size) (z:j<Y.size),Vw prog w A.in1 s items[j] Y[j]){Q:b7->d8->Prop}(h:Q (.bool false) s):g5 (i7 prog w) A (richCompare .NotEq (.ref l) (.ref b)) Q E s:=by
 obtain⟨⟨J,R,data,S⟩,r,B,n,C⟩:=id hl;obtain⟨⟨D,K,data2,L⟩,f,k,T,m⟩:=id G;simp only at B C k m;subst B C k m;refine Do (op:=.NotEq) ⟨_,r,rfl⟩ ⟨_,f,rfl⟩ acT (u4 acT ⟨_,r,rfl⟩ F.entry_tuple_ne ?_<|F.args_tuple_ne_2 _ _) H;obtain⟨M,g,d,N,os⟩:=s;have U:=AutoSeq1.sub_tuple_tuple;wp_walk using wpAny_loadPart' r,wpAny_loadPart' f,Y6 _ (λrest b t=>b.1=ν/\t=⟨M,g,d,N,os⟩/\∃i,rest=(items.toList.zip Y.toList).drop i) _
 case turn=>
  rintro⟨y,x⟩ rest b t ⟨c,rfl,i,o⟩;have p:i<(items.toList.zip Y.toList).length:=by
   rcases KM i (items.toList.zip Y.toList).length with u|u
   ·exact u
   ·rw[K5 u]at o;cases o
  have v:i<items.size:=by simp at p;lia
  have z:i<Y.size:=by lia
  rw[j3 p]at o;injection o with q e;have O:y=items[i]:=by have:=congrArg V2 q;simpa using this
  have P:x=Y[i]:=by have:=congrArg abR q;simpa using this
  subst O P;refine am<|I i v z _ _ ?_;wp_walk;exact⟨rfl,rfl,i+1,e⟩
 case fin=>
  rintro⟨V,W⟩ t ⟨c,rfl,i,o⟩;simp only at c;subst c;wp_walk;exact⟨_,rfl,(λx=>nomatch x),by simpa[R4,hsz]using h⟩
 case h=>
  exact⟨rfl,rfl,0,rfl⟩
end
section
end
namespace Ak
end Ak
namespace Ak
mutual
inductive TL:Ak->Ak->Prop
 |any:TL .any .any
 |Ao (d:Pt):TL (.Ao d) (.Ao d)
 |yf {b:List Pt} {a:List Ak} (h:Li (b.map Ao) a):TL (.Ao (.lst b)) (.row a false)
 |yg {ks ns ls:List Str} {b es:List Pt} {a:List Ak} (pm:ns.Perm ks) (e:ns.map (lk ks b)=es.map ι) (h:Li (es.map Ao) a) (lz:ns.length<60) (c:ls.length<=100) (f:∀l∈ls,l∉ns):TL (.Ao (.BV ks b)) (.tab ns a ls false)
 |row {xs a:List Ak} {m:Bool} (h:Li xs a):TL (.row xs m) (.row a m)
 |tab {ks ns ls zs:List Str} {xs as a:List Ak} {m:Bool} (pm:ns.Perm ks) (e:ns.map (lk ks xs)=as.map ι) (h:Li as a) (c:zs.length<=100) (f:∀l∈zs,l∉ns) (hl:m=true->zs=ls):TL (.tab ks xs ls m) (.tab ns a zs m)
inductive Li:List Ak->List Ak->Prop
 |nil:Li [] []
 |cons {x y:Ak} {xs ys:List Ak} (h:TL x y) (r:Li xs ys):Li (x::xs) (y::ys)
end
end Ak
variable{K:ACy} [BW K]
end L2
namespace L2
open PySem PySem.Spec PyProof.Rows
def MM(H H':Hp):Hp:=λb=>match H b with
 |some _=>H' b
 |none=>match H' b with
  |some (.BK o (.own a))=>ι (.BK o (.own a))
  |some (.BK _ u)=>ι u
  |x=>x
theorem Kg(h:H b=ι o):MM H H' b=H' b:=by unfold MM;rw[h]
theorem b_(h':H' b=ι (.BK o (.own a))):MM H H' b=ι (.BK o (.own a)):=by
 unfold MM;rw[h'];cases H b<;>rfl
theorem Ik(h':H' b=ν):MM H H' b=none:=by
 unfold MM;rw[h'];cases H b<;>rfl
theorem Ja(h':H' b=ι u)(n:∀o z,u≠.BK o z):MM H H' b=ι u:=by
 unfold MM;rw[h'];cases H b with
 |some _=>rfl
 |none=>
  cases u<;>first|rfl|exact absurd rfl (n _ _)
def KF(K:ACy)(H:Hp):Prop:=∀b o,K.lookup b=ι o->H b=ν
variable{X:Cx}{H H':Hp}{σ:St}{pins:List (Addr×Obj)}
section
variable {eD:List (Addr×Obj)} {σ':St} {s s':d8}
theorem Inv.qo(I:Inv X pins σ H s)(a:Inv X eD σ' H' s'):Inv X eD σ' (MM H H') s':=by
 have B:=a.base;refine⟨a.ok,a.os,a.bare,⟨B.keep,B.slot,λb d q n h=>Ik<|B.free b d q n h,B.there,λb f q=>Ja (B.HS b f q) (λ_ _ z=>by cases z),λb d u q=>?_,λb i q=>?_⟩,a.loc,a.cell,Ik a.free,λx c q=>Ik<|a.Dn x c q,λp j=>let⟨k,l,m⟩:=a.pin p j;⟨k,Ik l,m⟩,λb u q=>?_,a.len⟩
 ·rw[Kg<|I.base.Ef b d u q];exact B.Ef b d u q
 ·obtain⟨more,t⟩:=B.HU b i q;exact⟨more,Ja t λ_ _ z=>by cases z⟩
 ·have up:∀{v:HO},Ay X.prog X.w H' s'.heap b v->Ay X.prog X.w (MM H H') s'.heap b v:=λx=>x.MN (λc v _ r=>r) (λc r=>Ja r λ_ _ z=>by cases z) λc f r=>Ja r (λ_ _ z=>by cases z);unfold MM at q;cases g:H b with
  |some o=>
   rw[g]at q;exact up (a.Ax b u q)
  |none=>
   rw[g]at q;dsimp only at q;split at q
   ·rename_i e
    cases q;exact up<|a.Ax b _ e
   ·rename_i e
    cases q;exact up (show Ay X.prog X.w H' s'.heap b (.BK _ u)from a.Ax b _ e).2
   ·exact up<|a.Ax b u q
theorem Inv.kf(I:Inv X pins σ H s):KF X.K H:=λb o e=>(I.bs b o<|I.mod.e_ b o e).2
def qp(K:ACy)(t:TE):TE:=fun σ H Q=>t σ H λv H'=>KF K (MM H H')->Q v (MM H H')
theorem iI(h:PE X e t):PE X e (qp X.K t):=λpins s σ H Q I q=>
 BQ (h pins s σ H _ I q) λu d ⟨v,f,a,b,c⟩=>have J:=I.qo a;⟨v,_,J,b,c J.kf⟩
end
variable{K:ACy}
section
variable [BW K]
theorem BP.one(kf:KF K G)(h:BP K G a xs)(h':BP K G a ys):xs=ys:=by
 rcases h with h|⟨o,f,n,e,_,g,_,r⟩<;>rcases h' with h'|⟨j,d,k,c,_,b,_,i⟩
 ·have z:=Rd.one h h' (λo z e=>by cases e) (λo z e=>by cases e);cases z;rfl
 ·have:=kf _ _ c;rcases h with r|⟨_,r⟩<;>rw[r]at this<;>cases this
 ·have:=kf _ _ e;rcases h' with r|⟨_,r⟩<;>rw[r]at this<;>cases this
 ·rw[e]at c;cases c;rw[g]at b;cases b;exact r.inj i
theorem Rd.ne(kf:KF K G)(h:Rd G a u)(e:K.lookup a=Option.some o):False:=by
 have:=kf _ _ e;rcases h with r|⟨_,r⟩<;>rw[r]at this<;>cases this
theorem BP.lst{G:Hp}(kf:KF K G){a:Addr}{xs ys:List V}(h:BP K G a xs)(h':Rd G a (.lst ys)):False:=by
 rcases h with h|⟨o,_,_,e,_⟩
 ·cases Rd.one h h' (λo z e=>by cases e) (λo z e=>by cases e)
 ·exact h'.ne kf e
theorem BP.dK{G:Hp}(kf:KF K G){a:Addr}{xs:List V}{ys:List (Key×V)}(h:BP K G a xs)(h':Rd G a (.dK ys)):False:=by
 rcases h with h|⟨o,_,_,e,_⟩
 ·cases Rd.one h h' (λo z e=>by cases e) (λo z e=>by cases e)
 ·exact h'.ne kf e
theorem Val.iJ(h:Val G (.ref a) t):(∃vs ts,t=.lst ts/\Rd G a (.lst vs)/\AS G vs ts)∨(∃vs ts,t=.tup ts/\BP K G a vs/\AS G vs ts)∨∃(kvs:List (Key×V))(ks:List Str)(ts:List Pt),t=.BV ks ts/\Rd G a (.dK kvs)/\kvs.map (·.1)=ks.map d0/\AS G (kvs.map (·.2)) ts:=by
 cases h with
 |lst h r=>exact .inl ⟨_,_,rfl,h,r⟩
 |tup h r=>exact .inr (.inl ⟨_,_,rfl,h,r⟩)
 |BV h b r=>exact .inr (.inr ⟨_,_,_,rfl,h,b,r⟩)
theorem Val.iK(kf:KF K G)(s:Pt)(h:Val G v s)(h':Val G v t):s=t:=by
 refine @Val.rec K _ G (λv s _=>∀t,Val G v t->s=t) (λj k _=>∀i,AS G j i->k=i) (λ_ _ h=>by cases h;rfl) (λ_ _ h=>by cases h;rfl) (λ_ _ h=>by cases h;rfl) (λ_ h=>by cases h;rfl) (λb _ d _ h=>?_) (λb _ d _ h=>?_) (λb l _ d _ h=>?_) (λ_ h=>by cases h;rfl) (λ_ _ h r _ h'=>?_) _ _ h _ h'
 ·rcases h.iJ with⟨_,_,rfl,a,c⟩|⟨_,_,rfl,a,c⟩|⟨_,_,_,rfl,a,f,c⟩
  ·cases Rd.one b a (λo z e=>by cases e) (λo z e=>by cases e);rw[d _ c]
  ·exact(a.lst kf b).elim
  ·cases Rd.one b a (λo z e=>by cases e) (λo z e=>by cases e)
 ·rcases h.iJ with⟨_,_,rfl,a,c⟩|⟨_,_,rfl,a,c⟩|⟨_,_,_,rfl,a,f,c⟩
  ·exact(b.lst kf a).elim
  ·cases BP.one kf b a;rw[d _ c]
  ·exact(b.dK kf a).elim
 ·rcases h.iJ with⟨_,_,rfl,a,c⟩|⟨_,_,rfl,a,c⟩|⟨_,_,_,rfl,a,f,c⟩
  ·cases Rd.one b a (λo z e=>by cases e) (λo z e=>by cases e)
  ·exact(a.dK kf b).elim
  ·cases Rd.one b a (λo z e=>by cases e) (λo z e=>by cases e);rw[d _ c,Uk<|l.symm.trans f]
 ·cases h' with
  |cons g q=>rw[h _ g,r _ q]
end
variable{i:Nat}
namespace Pt
mutual
noncomputable def KI:Pt->Nat
 |int _|str _|bl _|BB=>0
 |lst xs=>1+BO xs
 |tup xs=>BO xs
 |BV _ xs=>BO xs
noncomputable def BO:List Pt->Nat
 |[]=>0
 |x::r=>KI x+BO r
end
mutual
theorem NO:∀t:Pt,t.KI<=t.size
 |int _|str _|bl _|BB=>by simp only[KI];lia
 |lst xs|tup xs|BV _ xs=>by have:=Hu xs;simp only[KI,size];lia
theorem Hu:∀xs:List Pt,BO xs<=AI xs
 |[]=>bn _
 |x::r=>by have:=NO x;have:=Hu r;simp only[BO,AI];lia
end
mutual
noncomputable def Fm:Pt->Nat
 |int _|str _|bl _|BB=>0
 |lst xs|tup xs=>1+GP xs
 |BV _ xs=>1+GP xs
noncomputable def GP:List Pt->Nat
 |[]=>0
 |x::r=>max (Fm x) (GP r)
end
theorem Qk:∀{xs:List Pt}{x:Pt},x∈xs->x.Fm<=GP xs
 |y::r,x,h=>by
  simp only[GP];rcases ca.mp h with rfl|h
  ·lia
  ·have:=Qk h;lia
mutual
theorem Ql:∀t:Pt,t.Fm<=t.deep
 |int _|str _|bl _|BB=>by simp only[Fm];lia
 |lst xs|tup xs|BV _ xs=>by have:=NP xs;simp only[Fm,deep];lia
theorem NP:∀xs:List Pt,GP xs<=AR xs
 |[]=>bn _
 |x::r=>by have:=Ql x;have:=NP r;simp only[GP,AR];lia
end
theorem Il:∀(a b:List Pt),BO (a++b)=BO a+BO b
 |[],b=>by simp[BO]
 |x::a,b=>by simp only[jp,BO,Il a b];lia
theorem EH:∀(xs:List Pt)(i:Nat),BO (xs.take i)<=BO xs
 |[],i=>by simp
 |x::r,0=>by simp[BO]
 |x::r,i+1=>by have:=EH r i;simp only[n5,BO];lia
theorem Hv{xs:List Pt}{x:Pt}(h:xs[i]?=ι x):BO (xs.take (i+1))=BO (xs.take i)+x.KI:=by
 rw[j2,h,Il];simp[BO]
end Pt
def WK:Key:=d0 "zzzzzzzz"
structure Wd(kvs iL:List (Key×V)):Prop where
 at_:∀(i:Nat) k v,iL[i]?=ι (k,v)->kvs[i]?=ι (k,v)∨v=.int 77
 keys:iL.map (·.1)=kvs.map (·.1)∨(WK∉kvs.map (·.1)/\iL.map (·.1)=kvs.map (·.1)++[WK])
theorem Wd.refl(kvs:List (Key×V)):Wd kvs kvs:=⟨λ_ _ _ h=>.inl h,.inl rfl⟩
theorem Wd.nd(h:Wd kvs c)(nd:(kvs.map (·.1)).Nodup):(c.map (·.1)).Nodup:=by
 rcases h.keys with e|⟨n,e⟩
 ·rw[e];exact nd
 ·rw[e];refine i3.mpr ⟨nd,by simp,λa f b d z=>?_⟩;rw[bi]at d;subst d;subst z;exact n f
theorem Wd.len(h:Wd kvs a):a.length<=kvs.length+1:=by
 rcases h.keys with e|⟨n,e⟩
 ·have:=congrArg pp e;simp at this;lia
 ·have:=congrArg pp e;simp at this;lia
theorem Wd.put(h:Wd kvs a):Wd kvs (putK a WK (.int 77)):=by
 unfold putK;by_cases c:(a.any λd=>decide<|d.1=WK)=true
 ·rw[if_pos c];refine⟨λi k v e=>?_,?_⟩
  ·rw[bv]at e;cases g:a[i]? with
   |none=>rw[g]at e;cases e
   |some p=>
    rw[g]at e;simp only[A7,Option.some.injEq]at e;by_cases z:p.1=WK
    ·rw[if_pos z]at e;cases e;exact .inr rfl
    ·rw[if_neg z]at e;subst e;exact h.at_ i k v g
  ·have e:(a.map λd=>if d.1=WK then(d.1,V.int 77)else d).map (·.1)=a.map (·.1):=by
    rw[o0];refine A4 λp _=>?_;show(if p.1=WK then(p.1,V.int 77)else p).1=p.1;split<;>rfl
   rw[e];exact h.keys
 ·rw[if_neg c];have b:WK∉a.map (·.1):=λz=>by
   obtain⟨p,j,e⟩:=m7.mp z;exact c<|SZ.mpr ⟨p,j,decide_eq_true e⟩
  rcases h.keys with e|⟨n,e⟩
  ·rw[e]at b;refine⟨λi k v g=>?_,.inr ⟨b,by rw[io,e];rfl⟩⟩;rcases KM i a.length with f|f
   ·rw[g9 f]at g;exact h.at_ i k v g
   ·rw[jc f]at g;have:=ACx g;rw[bi]at this;cases this;exact .inr rfl
  ·rw[e]at b;exact absurd (gl _<|bi.mpr rfl) b
inductive Wo(c:Nat):HO->HO->Prop
 |lst (xs:List V) (k:Nat) (b:k<=c):Wo c (.lst xs) (.lst (xs++i9 k (.int 77)))
 |tup (xs:List V):Wo c (.tup xs) (.tup xs)
 |BV (kvs a:List (Key×V)) (h:Wd kvs a):Wo c (.dK kvs) (.dK a)
theorem Wo.mono(h:Wo c u u')(l:c<=b):Wo b u u':=by
 cases h with
 |lst a k d=>exact .lst a k (by lia)
 |tup a=>exact .tup a
 |BV _ _ h=>exact .BV _ _ h
variable{ts:List Pt}
section
variable [BW K]
def Wn(G:Hp)(d c:Nat)(H:Hp):Prop:=∀b u t,Plain u->Rd G b u->Val G (.ref b) t->t.Fm<=d->∃a,H b=ι a/\Wo c u a
def Jo(G:Hp)(d:Nat)(H H':Hp):Prop:=∀b o,H b=ι o->H' b=ι o∨∃u t,Plain u/\Rd G b u/\Val G (.ref b) t/\t.Fm<=d
theorem Jo.refl:Jo G d H H:=λb o e=>.inl e
theorem Jo.of(s:AF H H'):Jo G d H H':=λb o e=>.inl<|s b o e
theorem Jo.trans(h:Jo G d H a)(h':Jo G d a H2):Jo G d H H2:=λb o e=>by
 rcases h b o e with h|h
 ·exact h' b o h
 ·exact .inr h
theorem Jo.mono(h:Jo G d H H')(l:d<=d'):Jo G d' H H':=λb o e=>(h b o e).imp id λ⟨u,t,p,r,v,z⟩=>⟨u,t,p,r,v,by lia⟩
theorem Wn.mono(h:Wn G d c H)(l:d'<=d)(a:c<=f):Wn G d' f H:=λb u t p r v z=>
 let⟨g,e,w⟩:=h b u t p r v (by lia)
 ⟨g,e,w.mono a⟩
theorem Wn.up(h:Wn G d c H)(s:AF H H'):Wn G d c H':=λb u t p r v z=>
 let⟨a,e,w⟩:=h b u t p r v z
 ⟨a,s _ _ e,w⟩
theorem Wn.next(kf:KF K G)(h:Wn G d c m)(h':Wn G d' g n)(f:Jo G d' m n)(l:c<=g):Wn G d g n:=λb u t p r v z=>by
 rcases KM d' t.Fm with a|a
 ·obtain⟨i,e,w⟩:=h b u t p r v z;rcases f b i e with j|⟨_,t2,_,_,k,z2⟩
  ·exact⟨i,j,w.mono l⟩
  ·rw[Val.iK kf t v k]at a;lia
 ·exact h' b u t p r v a
theorem Jo.at_(kf:KF K G)(f:Jo G d H H')(v:Val G (.ref b) t)(l:d<t.Fm)(e:H b=ι o):H' b=ι o:=by
 rcases f b o e with a|⟨_,t2,_,_,c,z2⟩
 ·exact a
 ·rw[Val.iK kf t v c]at l;lia
def Wt(ts us:List Pt):Prop:=∀(i:Nat) u,us[i]?=ι u->ts[i]?=ι u∨u=.int 77
theorem Wt.take:∀{ts us:List Pt},Wt ts us->∀i:Nat,Pt.BO (us.take i)<=Pt.BO (ts.take i)
 |ts,[],h,i=>by simp[Pt.BO]
 |ts,u::us,h,0=>by simp[Pt.BO]
 |[],u::us,h,i+1=>by
  have e:u=.int 77:=by
   rcases h 0 u rfl with z|z
   ·simp at z
   ·exact z
  have:=Wt.take (ts:=[]) (us:=us) (λj x a=>.inr (by
   rcases h (j+1) x (by simpa using a)with z|z
   ·simp at z
   ·exact z)) i
  simp only[n5,List.take_nil,Pt.BO,e,Pt.KI]at this⊢;lia
 |t::ts,u::us,h,i+1=>by
  have:=Wt.take (ts:=ts) (us:=us) (λj x a=>by
   have:=h (j+1) x (by simpa using a);simpa using this) i
  simp only[n5,Pt.BO];rcases h 0 u rfl with z|z
  ·simp at z;rw[z];lia
  ·rw[z];simp only[Pt.KI];lia
theorem Pt.size_take(h:ts[i]?=ι u):u.size+Pt.BO (ts.take i)<=Pt.AI ts:=by
 induction ts generalizing i with
 |nil=>simp at h
 |cons t r a=>
  cases i with
  |zero=>
   simp at h;subst h;simp[Pt.BO,Pt.AI]
  |succ i=>
   have:=a (by simpa using h);have:=Pt.NO t;simp only[n5,Pt.BO,Pt.AI];lia
theorem Wt.size(h:Wt ts us)(b:us[i]?=ι u):u.size+Pt.BO (us.take i)<=1+Pt.AI ts:=by
 have a:=h.take i;rcases h i u b with e|rfl
 ·have:=Pt.size_take e;lia
 ·have:=Pt.EH ts i;have:=Pt.Hu ts;simp only[Pt.size];lia
theorem Wt.Fm{ts us:List Pt}(h:Wt ts us){i:Nat}{u:Pt}(a:us[i]?=ι u):u.Fm<=Pt.GP ts:=by
 rcases h i u a with e|rfl
 ·exact Pt.Qk<|ACx e
 ·simp only[Pt.Fm];lia
theorem Pt.Qm:∀{xs:List Pt},Pt.TJ xs->∀x∈xs,x.Wx
 |y::r,h,x,a=>by
  simp only[Pt.TJ]at h;rcases ca.mp a with rfl|a
  ·exact h.1
  ·exact Pt.Qm h.2 x a
theorem Wt.Wx{us:List Pt}(h:Wt ts us)(o:Pt.TJ ts){u:Pt}(a:us[i]?=ι u):u.Wx:=by
 rcases h i u a with e|rfl
 ·exact Pt.Qm o u<|ACx e
 ·trivial
theorem Wt.lst{G:Hp}{vs:List V}{ts:List Pt}(r:AS G vs ts)(k:Nat):∃us,AS G (vs++i9 k (.int 77)) us/\Wt ts us:=by
 refine⟨ts++i9 k (.int 77),r.append<|.of (by simp) λi v t b c=>?_,λi u h=>?_⟩
 ·have e1:=O4<|ACx b;have d:=O4<|ACx c;rw[e1,d];exact .int 77
 ·rcases KM i ts.length with a|a
  ·rw[g9 a]at h;exact .inl h
  ·rw[jc a]at h;exact .inr<|O4<|ACx h
theorem Wt.BV{G:Hp}{kvs a:List (Key×V)}{ts:List Pt}(r:AS G (kvs.map (·.2)) ts)(w:Wd kvs a):∃us,AS G (a.map (·.2)) us/\Wt ts us:=by
 suffices gen:∀n,n<=a.length->∃us,AS G ((a.map (·.2)).take n) us/\us.length=n/\Wt ts us by
  obtain⟨us,b,_,c⟩:=gen a.length<|bn _;refine⟨us,?_,c⟩;rw[R1<|by simp]at b;exact b
 intro n
 induction n with
 |zero=>exact λ_=>⟨[],by simp;exact .nil,rfl,λi u h=>by simp at h⟩
 |succ n k=>
  intro x;obtain⟨us,b,c,l⟩:=k (by lia);obtain⟨p,f⟩:=B' a n (by lia);have m:(a.map (·.2))[n]?=ι p.2:=by rw[bv,f];rfl
  have g:∀{t:Pt},Val G p.2 t->(ts[n]?=ι t∨t=.int 77)->∃us,AS G ((a.map (·.2)).take (n+1)) us/\us.length=n+1/\Wt ts us:=λ{t} o q=>by
   refine⟨us++[t],?_,by simp[c],λi u h=>?_⟩
   ·rw[j2,m];exact b.append<|.cons o .nil
   ·rcases KM i us.length with j|j
    ·rw[g9 j]at h;exact l i u h
    ·have d:i=us.length:=by
      have:=DR h;simp at this;lia
     subst d;simp at h;subst h;rw[c];exact q
  rcases w.at_ n p.1 p.2 f with e|e
  ·have:(kvs.map (·.2))[n]?=ι p.2:=by rw[bv,e];rfl
   obtain⟨t,s,v⟩:=r.get this;exact g v<|.inl s
  ·exact g (t:=.int 77) (by rw[e];exact .int 77)<|.inr rfl
theorem DN:∀{kvs:List (Key×V)}{i:Nat}{k:Key}{v:V},(kvs.map (·.1)).Nodup->kvs[i]?=ι (k,v)->BF kvs k=ι v
 |[],i,k,v=>λ_ h=>by simp at h
 |p::r,0,k,v=>λnd h=>by
  simp at h;subst h;exact Bl rfl
 |p::r,i+1,k,v=>λnd h=>by
  simp only[J2]at h;simp only[ge,j0]at nd;have a:k∈r.map (·.1):=m7.mpr ⟨_,ACx h,rfl⟩;rw[Bg λe=>nd.1<|e▸a];exact DN nd.2 h
theorem Val.kinds(h:Val G v t):(∃T:String,(∀H,gy K H v T)/\Xp T "dict"=false/\Yb T=false/\Xp T "list"=false/\t.KI=0)∨(∃a vs ts,v=.ref a/\t=.lst ts/\Rd G a (.lst vs)/\AS G vs ts)∨(∃a vs ts,v=.ref a/\t=.tup ts/\BP K G a vs/\AS G vs ts)∨∃a kvs ks ts,v=.ref a/\t=.BV ks ts/\Rd G a (.dK kvs)/\kvs.map (·.1)=ks.map d0/\AS G (kvs.map (·.2)) ts:=by
 cases h with
 |int i=>exact .inl ⟨"int",λH=>.n (.int i),rfl,rfl,rfl,rfl⟩
 |str i=>exact .inl ⟨"str",λH=>.n (.str i),rfl,rfl,rfl,rfl⟩
 |bl i=>exact .inl ⟨"bool",λH=>.n (.bl i),rfl,rfl,rfl,rfl⟩
 |BB=>exact .inl ⟨"NoneType",λH=>.n .BB,rfl,rfl,rfl,rfl⟩
 |lst h r=>exact .inr (.inl ⟨_,_,_,rfl,rfl,h,r⟩)
 |tup h r=>exact .inr (.inr (.inl ⟨_,_,_,rfl,rfl,h,r⟩))
 |BV h b r=>exact .inr (.inr (.inr ⟨_,_,_,_,rfl,rfl,h,b,r⟩))
theorem Wn.change(h:Wn G d c H)(p:Plain u)(r:Rd G a u)(w:Wo c u u'):Wn G d c (upd H a u'):=λb j t f g v z=>by
 by_cases i:b=a
 ·subst i;have nf:∀{x:HO},Plain x->∀o z,x≠.BK o z:=λk o z e=>by subst e;exact k
  rw[Rd.one g r (nf f)<|nf p];exact⟨u',AA,w⟩
 ·rw[AH i];exact h b j t f g v z
theorem Jo.change(h:Jo G d H H')(p:Plain u)(r:Rd G a u)(v:Val G (.ref a) t)(l:t.Fm<=d):Jo G d H (upd H' a u'):=λb o e=>by
 by_cases c:b=a
 ·subst c;exact .inr ⟨u,t,p,r,v,l⟩
 ·rw[AH c];exact h b o e
theorem Lj(h:n<=16000100):n<sizeLine:=by rw[M7];lia
inductive cA{K:ACy}[BW K](n:Nat)(vs:List V)(H:Hp)(Q:VK)(a:XK):Prop
 |mk(G:Hp)(v:V)(t:Pt)(c:Nat)(b:vs=[v])(d:KF K G)(e:Val G v t)(f:t.Wx)(g:t.Fm<n)(h:t.size+c<=16000000)(i:Wn G t.Fm c H)(j:∀(H':Hp),Wn G t.Fm (c+t.KI) H'->Jo G t.Fm H H'->Q .BB H')
def Kh(n:Nat):Sp:=λa H Q E=>cA n a H Q E
end
section
variable {tg:u7}
end
namespace Ak
mutual
noncomputable def jw:Ak->Nat
 |any=>0
 |Ao d=>d.wide
 |row xs _=>qq xs
 |tab _ xs _ _=>qq xs
noncomputable def qq:List Ak->Nat
 |[]=>0
 |x::r=>max (jw x) (qq r)
end
end Ak
section
variable [BW K]
end
namespace Ak
mutual
def jT:Ak->Prop
 |any=>True
 |Ao _=>True
 |row xs _=>iM xs
 |tab _ xs ls m=>(m=true->ls.length<=60/\ls.Nodup/\A8 ls=true)/\iM xs
def iM:List Ak->Prop
 |[]=>True
 |x::r=>jT x/\iM r
end
mutual
def yh:Ak->Prop
 |any=>True
 |Ao _=>True
 |row xs m=>(m=true∨Yp xs=ν)/\iN xs
 |tab ks xs ls m=>((m=true/\ls.length<=60/\ls.Nodup/\A8 ls=true)∨(m=false/\ls=[]/\Yp xs=ν))/\(∀l∈ls,l∉ks)/\iN xs
def iN:List Ak->Prop
 |[]=>True
 |x::r=>yh x/\iN r
end
end Ak
section
variable [BW K]
def cB(G H:Hp):Prop:=∀b u,Plain u->Rd G b u->H b=ι u
theorem cB.up(p:cB G H)(s:AF H H'):cB G H':=λb u a r=>s _ _<|p b u a r
theorem cB.val(p:cB G H)(h:Val G v t):Val H v t:=h.Ww λb u a r=>.inl<|p b u a r
theorem Wn.of(p:cB G H)(d:Nat):Wn G d 0 H:=λb u t e r v z=>⟨u,p b u e r,by
 cases u with
 |lst a=>have:=Wo.lst (c:=0) a 0 (bn _);simpa using this
 |tup a=>exact .tup a
 |dK kvs=>exact .BV _ _ (.refl kvs)
 |_=>exact absurd e id⟩
theorem Jo.out(f:Jo G d H H')(s:AF a H)(o:∀b x,a b=ι x->G b=ν):AF a H':=λb x e=>by
 rcases f b x (s b x e)with h|⟨u,t,_,r,_⟩
 ·exact h
 ·have:=o b x e;rcases r with r|⟨_,r⟩<;>rw[this]at r<;>cases r
end
theorem eE:rc "set"=ι (.type "set"):=by decide+kernel
section
def Im(v d:Addr):HO:=.ext λh=>h.IsValuesView v d
inductive WL(x:V)(vs:List V)(H:Hp)(Q:VK):Prop
 |mk(d:Addr)(kvs:List (Key×V))(a:x=.ref d)(b:vs=[])(c:Rd H d (.dK kvs))(e:∀v,H v=ν->Q (.ref v) (upd H v (Im v d)))
def ZC:V->List V->Hp->VK->Prop:=λx a H Q=>WL x a H Q
theorem TN:gK X "dict.values" ZC:=by
 intro pins s r H x t v u Q I g i h;obtain⟨l,kvs,rfl,rfl,j,q⟩:=h;cases g;have a:=i.zero;subst a;obtain⟨z,m,n,p,c⟩:=(show Ay X.prog X.w H s.heap l (.dK kvs)from j.ok I.Ax);refine aad X9 c.typeIs PySem.F.entry_dict_values (PySem.F.args_dict_values_1 _) (meets_dict_values (Ah X.prog X.w) l m) ⟨⟨n,c⟩,?_⟩;have d:(s.heap.push {cls:=.type "dict_values",data:=.fields #[.ref l]}).get? s.heap.objs.size=ι {cls:=.type "dict_values",data:=.fields #[.ref l]}:=g8 _ rfl;exact⟨.ref s.heap.objs.size,_,I.laid (o:=Im s.heap.objs.size l) (t':=s.toks) (λb o e=>be _ e) (bn _) ⟨⟨_,d,rfl,rfl⟩,⟨_,d⟩,λy A ⟨f,z1,z2⟩ k=>⟨f,k f z1,z2⟩⟩,rfl,q _ I.fresh⟩
inductive ZD(xs:List V)(H:Hp)(Q:VK):Prop
 |mk(r d:Addr)(kvs:List (Key×V))(a:xs=[.ref r])(b:H r=ι (Im r d))(c:Rd H d (.dK kvs))(e:Rp H (.lst (kvs.map (·.2))) Q)
def cD:List V->Hp->VK->Prop:=λa H Q=>ZD a H Q
theorem KV.qr{kvs:List (Key×V)}{vs:List (Key×b7)}(r:KV kvs vs):Vals (kvs.map (·.2)) (vs.map (·.2)):=by
 induction r with
 |nil=>exact .nil
 |cons h _ a=>exact .cons h.2 a
theorem KJ(k:X.calm=true):Bo X (.type "list") cD:=by
 intro pins s E H F G Q I r h;obtain⟨e,d,kvs,rfl,l,m,q⟩:=h;obtain⟨u,rfl,n⟩:=vals1 r;cases n;obtain⟨a,_⟩:=(show Ay X.prog X.w H s.heap e (Im e d)from I.Ax e _ l);obtain⟨z,hd,g,c,o⟩:=(show Ay X.prog X.w H s.heap d (.dK kvs)from m.ok I.Ax);obtain⟨ep,f⟩:=o.dictAt;refine act (PySem.W.kdl_values (knd:=Ah X.prog X.w) (kvs:=g) (ep:=ep)) (I.ok.hd k) ⟨a,f⟩ (by rw[<-c.length];exact z) λp t b x y A i=>?_;have B:(kvs.map (·.2)).length<=sizeLine:=by rw[ap];exact z
 have C:b.toList=g.map (·.2):=PySem.W.kdl_vals_eq b.toList (by rw[j6];exact i.1) λj v D=>i.2 j v (by rw[<-q4];exact D);refine⟨.ref s.heap.objs.size,_,I.laid (t':=t) y (bn _)<|show Ay X.prog X.w _ p _ (.lst _)from⟨B,b.toList,x,?_,by rw[B7];exact A⟩,rfl,q _ I.fresh⟩;rw[C];exact c.qr
end
namespace Ak
mutual
theorem Ul:∀a:Ak,a.deep<=a.dp
 |any=>by simp only[deep,dp];lia
 |Ao d=>by have:=Pt.CC d;simp only[deep,dp];lia
 |row b _=>by have:=Lk b;simp only[deep,dp];lia
 |tab _ b _ _=>by have:=Lk b;simp only[deep,dp];lia
theorem Lk:∀xs:List Ak,AR xs<=KH xs
 |[]=>bn _
 |x::r=>by have:=Ul x;have:=Lk r;simp only[AR,KH];lia
end
end Ak
section
variable [BW K]
end
namespace Pt
noncomputable def vL:Pt->Key->Option Pt
 | .lst xs,.inl i=>if 0<=i then xs[i.toNat]? else ν
 | .BV ks xs,.inr k=>lk ks xs k
 |_,_=>ν
noncomputable def sub:Pt->List Key->Option Pt
 |t,[]=>ι t
 |t,k::p=>(t.vL k).bind λu=>sub u p
end Pt
namespace Ak
noncomputable def yi:Ak->Key->Option Ak
 |Ao d,k=>(d.vL k).map Ao
 |row xs _,.inl i=>if 0<=i then xs[i.toNat]? else ν
 |tab ks xs _ _,.inr k=>lk ks xs k
 |_,_=>ν
noncomputable def sub:Ak->List Key->Option Ak
 |a,[]=>ι a
 |a,k::p=>(a.yi k).bind λb=>sub b p
def nK(n:Nat):List Key:=(oo n).map λ(j:Nat)=>v8 (j:Int)
theorem EI:∀{a b:List Ak},DU (a++b)=DU a+DU b
 |[],b=>by simp only[F6,DU];lia
 |x::r,b=>by simp only[jp,DU,EI (a:=r)];lia
theorem Ez(h:bs[i]?=ι b):DU (bs.take (i+1))=DU (bs.take i)+b.wt/\DU (bs.take (i+1))<=DU bs:=by
 constructor
 ·rw[j2,h,EI];simp only[G5,DU];lia
 ·conv=>rhs;rw[<-x5 (i+1) bs,EI]
  lia
end Ak
inductive eF(x y:V)(H:Hp)(Q:VK):Prop
 |mk(a b xs ys:_)(c:x=.ref a)(d:y=.ref b)(e:H a=ι (.tup xs))(f:H b=ι (.tup ys))(g:xs.length+ys.length<=sizeLine)(h:∀p H',AF H H'->H' p=ι (.tup (xs++ys))->((ys=[]/\p=a)∨p=b∨H p=ν)->Q (.ref p) H')
theorem Gn:Dr X (Is .Add) eF:=by
 intro pins s E H x y v u Q I r t h;obtain⟨a,b,w,G,rfl,rfl,j,k,J,q⟩:=h;by_cases l:w=[]
 ·cases r;cases t;obtain⟨c,K,L,_⟩:=I.tuple<|BP.of j;obtain⟨d,T,M,_⟩:=I.tuple<|BP.of k;obtain⟨⟨N,O,data,P⟩,z,A,n,B⟩:=id L;obtain⟨⟨C,m,data2,o⟩,f,g,R,i⟩:=id M;simp only at A B g i;subst A B g i;have S:c=[]:=K.KP.mpr l;refine abX ⟨_,z,rfl⟩ ⟨_,f,rfl⟩ Y8 abp R0 P2 (O3 _ _) (tuple_addW0 a b c.toArray d.toArray n R O m P o<|by simp[S]) ⟨z,f,?_⟩;refine⟨.ref b,H,I.tok s.toks,rfl,q b H (AF.refl H) ?_<|.inr<|.inl rfl⟩;rw[l];exact k
 ·refine ai pins s E H (.ref a) (.ref b) v u Q I r t ⟨a,b,w,G,rfl,rfl,BP.of j,BP.of k,l,J,λe=>?_,λe p D=>q p _ (AF.new D) AA<|.inr<|.inr D⟩;refine q a H (AF.refl H) ?_<|.inl ⟨e,rfl⟩;rw[e,j9];exact j
namespace Ak
end Ak
section
variable [BW K]
end
namespace Ak
mutual
inductive NQ:Ak->Pt->List Int->Prop
 |any (i:Int):NQ any (.int i) [i]
 |Ao (d:Pt):NQ (Ao d) d []
 |row {xs:List Ak} {m:Bool} {ys:List Pt} {fs:List (List Int)} (h:Cv xs ys fs):NQ (row xs m) (.lst ys) fs.flatten
 |tab {ks ls ss:List Str} {xs as:List Ak} {m:Bool} {ys:List Pt} {fs:List (List Int)} (pm:ss.Perm ks) (so:A8 ss=true) (e:ss.map (lk ks xs)=as.map ι) (h:Cv as ys fs):NQ (tab ks xs ls m) (.BV ss ys) fs.flatten
inductive Cv:List Ak->List Pt->List (List Int)->Prop
 |nil:Cv [] [] []
 |cons {a:Ak} {as:List Ak} {y:Pt} {ys:List Pt} {f:List Int} {fs:List (List Int)} (h:NQ a y f) (t:Cv as ys fs):Cv (a::as) (y::ys) (f::fs)
end
theorem Cv.lI(h:Cv as ys fs):ys.length=as.length/\fs.length=as.length:=@Cv.rec (λ_ _ _ _=>True) (λas ys fs _=>ys.length=as.length/\fs.length=as.length) (λ_=>trivial) (λ_=>trivial) (λ_ _=>trivial) (λ_ _ _ _ _=>trivial) ⟨rfl,rfl⟩ (λ_ _ _ t=>by simp[t.1,t.2]) _ _ _ h
theorem Cv.len(h:Cv as ys fs):ys.length=as.length:=h.lI.1
structure vM(a:Ak)(b:Pt):Prop where
 doc:b.doc
 txt:b.txt
 size:b.size=a.wt
 deep:b.deep<=a.dp
theorem Cv.is(h:Cv as ys fs):(∀a∈as,a.Be)->(∀a∈as,a.ER)->Pt.CF ys/\Pt.LY ys/\Pt.AI ys=DU as/\Pt.AR ys<=KH as:=by
 refine @Cv.rec (λa b _ _=>a.Be->a.ER->vM a b) (λas ys _ _=>(∀a∈as,a.Be)->(∀a∈as,a.ER)->Pt.CF ys/\Pt.LY ys/\Pt.AI ys=DU as/\Pt.AR ys<=KH as) (λ_ _ _=>⟨trivial,trivial,rfl,bn _⟩) (λ_ o w=>⟨o,w,rfl,bn _⟩) (λ_ h o w=>?_) ?_ (λ_ _=>⟨trivial,trivial,rfl,bn _⟩) (λ_ _ h t o w=>?_) _ _ _ h
 ·simp only[Be]at o;simp only[ER]at w;obtain⟨c,d,l,n⟩:=h (Ap o)<|DL w;exact⟨c,d,by simp only[Pt.size,wt];lia,by simp only[Pt.deep,dp];lia⟩
 ·intro v ls p y as m ys fs f so e l2 h o w;simp only[Be]at o;simp only[ER]at w;have g:=CD o.1 o.2.1 f e;have q:as.length=p.length:=by have:=congrArg pp e;simpa using this.symm
  obtain⟨c,d,l,n⟩:=h (λx i=>Ap o.2.2.2.2.2.2 x<|g.mem_iff.mp i) (λx i=>DL w.2 x<|g.mem_iff.mp i);have l2:=l2.len;refine⟨⟨by lia,f.nodup_iff.mpr o.2.1,λk r=>o.2.2.1 k<|f.mem_iff.mp r,by rw[f.length_eq];lia,c⟩,d,?_,?_⟩
  ·simp only[Pt.size,wt];rw[<-GO g];lia
  ·simp only[Pt.deep,dp];rw[<-Lc g];lia
 ·obtain⟨s,u,z,A⟩:=h (o _ dL)<|w _ dL;obtain⟨c,d,l,n⟩:=t (λa j=>o a<|b9 _ j) (λa j=>w a<|b9 _ j);exact⟨⟨s,c⟩,⟨u,d⟩,by simp only[Pt.AI,DU];lia,by simp only[Pt.AR,KH];lia⟩
theorem NQ.is(h:NQ a b f)(o:a.Be)(w:a.ER):vM a b:=by
 obtain⟨⟨c,_⟩,⟨d,_⟩,e,g⟩:=(Cv.cons h .nil).is (by simpa using o) (by simpa using w);simp only[Pt.AI,DU,Pt.AR,KH]at e g;exact⟨c,d,by lia,by lia⟩
mutual
noncomputable def free:Ak->Pt->List Pt
 |any,t=>[t]
 |row xs _,.lst ys=>eG xs ys
 |tab ks xs _ _,.BV ns ys=>eI ks xs ns ys
 |_,_=>[]
termination_by structural _ t=>t
noncomputable def eG:List Ak->List Pt->List Pt
 |x::xs,y::ys=>free x y++eG xs ys
 |_,_=>[]
termination_by structural _ ys=>ys
noncomputable def eI(ks:List Str)(xs:List Ak):List Str->List Pt->List Pt
 |n::ns,y::ys=>(match lk ks xs n with|some x=>free x y|none=>[y])++eI ks xs ns ys
 |_,_=>[]
termination_by structural _ ys=>ys
end
mutual
noncomputable def Bb:Ak->List Pt
 |any=>[]
 |Ao d=>[d]
 |row xs _=>B_ xs
 |tab _ xs _ _=>B_ xs
noncomputable def B_:List Ak->List Pt
 |[]=>[]
 |x::r=>Bb x++B_ r
end
theorem Hy:∀{xs:List Ak},d∈B_ xs↔∃x∈xs,d∈Bb x
 |[]=>by simp[B_]
 |x::r=>by simp only[B_,db,Hy (xs:=r),ca,exists_eq_or_imp]
theorem Kd.Bb(h:Kd a as)(o:a.Be)(b:d∈a.Bb):a=.Ao d∨∃x∈as,d∈x.Bb:=by
 cases a with
 |any=>simp[Ak.Bb]at b
 |Ao e=>simp only[Ak.Bb,bi]at b;rw[b];exact .inl rfl
 |row c m=>rw[show as=c from h];exact .inr (Hy.mp b)
 |tab i c ls m=>
  simp only[Be]at o;obtain⟨j,f,k,e1⟩:=h;obtain⟨x,g,b⟩:=Hy.mp b;exact .inr ⟨x,(CD o.1 o.2.1 f e1).mem_iff.mpr g,b⟩
theorem Um{root:Ak}{J L:Ak->Prop}(o:root.Be)(r:J root)(st:∀a as,Kd a as->a.Be->J a->L a∨∃x∈as,J x)(b:Of root.pt n l f):(∃(j:Nat)(a:Ak),j<n/\l[j]?=ι a.pt/\L a)∨∃(j:Nat)(a:Ak),n<=j/\l[j]?=ι a.pt/\a.Be/\J a:=by
 induction b with
 |start=>exact .inr ⟨0,root,bn _,rfl,o,r⟩
 |@next n l f t z b g k s=>
  have u:=DR g;rcases s with⟨j,a,v,c,d⟩|⟨j,a,v,c,d,m⟩
  ·exact .inl ⟨j,a,by lia,by rw[g9<|by lia];exact c,d⟩
  ·have w:=DR c;by_cases e:j=n
   ·subst e;rw[g]at c;cases c;obtain⟨as,p,rfl⟩:=Uc d k;rcases st a as p d m with h|⟨x,q,h⟩
    ·exact .inl ⟨j,a,by lia,by rw[g9 u];exact g,h⟩
    ·obtain⟨i,y⟩:=G2 q;refine .inr ⟨l.length+i,x,by lia,?_,p.ok d x q,h⟩;rw[jc<|by lia,Nat.add_sub_cancel_left,bv,y];rfl
   ·exact .inr ⟨j,a,by lia,by rw[g9 w];exact c,d,m⟩
theorem WM{root:Ak}(o:root.Be)(b:Of root.pt n l c)(d:Pt)(e:d∈root.Bb):(∃j,j<n/\l[j]?=ι (Ao d).pt)∨∃(j:Nat)(a:Ak),n<=j/\l[j]?=ι a.pt/\a.Be/\d∈a.Bb:=by
 rcases Um (J:=λa=>d∈a.Bb) (L:=λa=>a=.Ao d) o e (λa i k o h=>k.Bb o h) b with⟨j,a,f,g,rfl⟩|h
 ·exact .inl ⟨j,f,g⟩
 ·exact .inr h
end Ak
namespace Pt
mutual
noncomputable def Ll:Pt->List Pt
 |lst xs|tup xs=>Fn xs
 |BV _ xs=>Fn xs
 |t=>[t]
noncomputable def Fn:List Pt->List Pt
 |[]=>[]
 |x::r=>Ll x++Fn r
end
theorem GQ:∀{xs:List Pt},d∈Fn xs↔∃x∈xs,d∈Ll x
 |[]=>by simp[Fn]
 |x::r=>by simp only[Fn,db,GQ (xs:=r),ca,exists_eq_or_imp]
noncomputable def iO:Pt->Bool
 |lst _|tup _|BV _ _=>false
 |_=>true
theorem ZE(d:t.doc)(k:Eu t us)(a:x∈t.Ll):(t=x/\t.iO=true)∨∃u∈us,x∈u.Ll:=by
 cases t with
 |int i=>simp only[Ll,bi]at a;exact .inl ⟨a.symm,rfl⟩
 |str s=>simp only[Ll,bi]at a;exact .inl ⟨a.symm,rfl⟩
 |bl b=>simp[doc]at d
 |BB=>simp[doc]at d
 |tup c=>simp[doc]at d
 |lst c=>rw[show us=c from k];exact .inr (GQ.mp a)
 |BV g c=>
  simp only[doc]at d;obtain⟨f,j,so,e⟩:=(show∃f:List Str,f.Perm g/\A8 f=true/\f.map (lk g c)=us.map ι from k);obtain⟨y,l,h⟩:=GQ.mp a;exact .inr ⟨y,(CD d.1 d.2.1 j e).mem_iff.mpr l,h⟩
theorem ZF(d:t.doc)(k:Eu t us):CF us/\t.size=1+AI us:=by
 cases t with
 |int i=>rw[show us=[]from k];exact⟨trivial,rfl⟩
 |str s=>rw[show us=[]from k];exact⟨trivial,rfl⟩
 |bl b=>simp[doc]at d
 |BB=>simp[doc]at d
 |tup c=>simp[doc]at d
 |lst c=>rw[show us=c from k];exact⟨d,rfl⟩
 |BV g c=>
  simp only[doc]at d;obtain⟨f,h,so,e⟩:=(show∃f:List Str,f.Perm g/\A8 f=true/\f.map (lk g c)=us.map ι from k);have p:=CD d.1 d.2.1 h e;refine⟨EV λx j=>BC d.2.2.2.2 x<|p.mem_iff.mp j,?_⟩;simp only[size];have:∀{a b:List Pt},a.Perm b->AI a=AI b:=λ{a b} p=>by
   induction p with
   |nil=>rfl
   |cons x _ m=>simp only[AI,m]
   |swap x y l=>simp only[AI];lia
   |trans _ _ n o=>exact n.trans o
  rw[this p]
theorem WN(d:t.doc)(z:t.size<=900):LZ t:=by
 cases t with
 |int i=>trivial
 |str s=>trivial
 |bl b=>simp[doc]at d
 |BB=>simp[doc]at d
 |tup a=>simp[doc]at d
 |lst a=>have:=CH a;simp only[size]at z;show a.length<=900;lia
 |BV c a=>simp only[doc]at d;exact⟨d.1,d.2.2.2.1⟩
end Pt
namespace Pt
mutual
noncomputable def PV:Pt->List Str
 |lst xs=>Ed xs
 |BV ks xs=>ks++Ed xs
 |_=>[]
noncomputable def Ed:List Pt->List Str
 |[]=>[]
 |x::r=>PV x++Ed r
end
theorem Io:∀{xs:List Pt},n∈Ed xs↔∃x∈xs,n∈PV x
 |[]=>by simp[Ed]
 |x::r=>by simp only[Ed,db,Io (xs:=r),ca,exists_eq_or_imp]
theorem ZG(d:t.doc)(k:Eu t us)(a:n∈t.PV):(∃ks xs,t=.BV ks xs/\n∈ks)∨∃u∈us,n∈u.PV:=by
 cases t with
 |int i=>simp[PV]at a
 |str s=>simp[PV]at a
 |bl b=>simp[doc]at d
 |BB=>simp[doc]at d
 |tup xs=>simp[doc]at d
 |lst xs=>rw[show us=xs from k];exact .inr (Io.mp a)
 |BV ks xs=>
  simp only[doc]at d;obtain⟨c,f,so,e⟩:=(show∃c:List Str,c.Perm ks/\A8 c=true/\c.map (lk ks xs)=us.map ι from k);rcases db.mp a with h|h
  ·exact .inl ⟨ks,xs,rfl,h⟩
  ·obtain⟨y,g,h⟩:=Io.mp h;exact .inr ⟨y,(CD d.1 d.2.1 f e).mem_iff.mpr g,h⟩
end Pt
section
variable [BW K]
inductive ZH(a:Addr)(vs:List V)(H:Hp)(Q:VK):Prop
 |mk(G:Hp)(v:V)(t:Pt)(b:vs=[v,.ref a])(c:AF G H)(d:Val G v t)(e:t.doc)(f:t.size<=900)(g:∀(p:Addr) (es:List V) (l:List Pt) (H':Hp),AF H H'->H p=ν->H' p=ι (.lst es)->AS G es l->l.length=t.size->Pt.CF l->(∀x∈t.Ll,x∈l)->(∀n∈t.PV,∃ks xs,Pt.BV ks xs∈l/\n∈ks)->Q (.ref p) H')
def Ot(a:Addr):Sp:=λb H Q _=>ZH (K:=K) a b H Q
inductive NR(R:Pt->Pt->List Int->Prop):List Pt->List Pt->List (List Int)->Prop
 |nil:NR R [] [] []
 |cons {x b:Pt} {f:List Int} {xs bs:List Pt} {fs:List (List Int)} (h:R x b f) (t:NR R xs bs fs):NR R (x::xs) (b::bs) (f::fs)
structure cE(R:Pt->Pt->List Int->Prop)(H0 Hi:Hp)(as:List Pt)(ts:List V)(fs:List (List Int))(at_:Nat):Prop where
 len:ts.length=as.length
 jU:fs.length=as.length
 val:∀(j:Nat) x,at_<=j->as[j]?=ι x->∃w b f,ts[j]?=ι w/\fs[j]?=ι f/\R x b f/\Val (nw H0 Hi) w b
variable{R:Pt->Pt->List Int->Prop}
theorem cE.up(f:cE R a c as p fs n)(s:∀b o,a b=ν->c b=ι o->d b=ι o):cE R a d as p fs n:=⟨f.len,f.jU,λj x e g=>let⟨w,b,q,i,k,l,m⟩:=f.val j x e g;⟨w,b,q,i,k,l,m.up<|CT (λ_ h=>h) s⟩⟩
theorem cE.slice(f:cE R e g as p fs n):∀(k s:Nat),n<=s->s+k<=as.length->∃a,NR R ((as.drop s).take k) a ((fs.drop s).take k)/\AS (nw e g) ((p.drop s).take k) a
 |0,s=>λ_ _=>⟨[],by rw[A3,A3];exact .nil,by rw[A3];exact .nil⟩
 |k+1,s=>λh o=>by
  obtain⟨a,i,j⟩:=f.slice k (s+1) (by lia) (by lia);have l1:s<as.length:=by lia
  have l2:s<p.length:=by rw[f.len];exact l1
  have l3:s<fs.length:=by rw[f.jU];exact l1
  obtain⟨w,b,q,c,d,l,m⟩:=f.val s as[s] h<|ACu l1;rw[ACu l2]at c;rw[ACu l3]at d;refine⟨b::a,?_,?_⟩
  ·rw[j3 l1,n5,j3 l3,n5,ACw d];exact .cons l i
  ·rw[j3 l2,n5,ACw c];exact .cons m j
theorem cE.set(f:cE R a k as z fs (n+1))(s:∀b o,a b=ν->k b=ι o->d b=ι o)(h:as[n]?=ι x)(g:R x b fr)(hw:Val (nw a d) w b):cE R a d as (z.set n w) (fs.set n fr) n:=by
 refine⟨by rw[L4,f.len],by rw[L4,f.jU],λj y v c=>?_⟩;have i:=DR h;by_cases e:j=n
 ·subst e;rw[h]at c;cases c;exact⟨w,b,fr,by rw[xg<|by rw[f.len];exact i],by rw[xg<|by rw[f.jU];exact i],g,hw⟩
 ·obtain⟨l,m,p,q,r,t,u⟩:=(f.up s).val j y (by lia) c;exact⟨l,m,p,by rw[B6<|k8 e];exact q,by rw[B6<|k8 e];exact r,t,u⟩
def live(fs:List (List Int))(i e:Nat):List Int:=((fs.drop i).take<|e-i).flatten
theorem TQ(h:i+1<=e)(hl:e+k<=fs.length):live fs (i+1) (e+k)=live fs (i+1) e++((fs.drop e).take k).flatten:=by
 unfold live;rw[<-List.flatten_append];congr 1;have e1:e+k-(i+1)=(e-(i+1))+k:=by lia
 rw[e1,List.take_add,List.drop_drop];congr 3;lia
theorem ZI(h:i+1<=e)(hl:i<fs.length):live (fs.set i fr) i e=fr++live fs (i+1) e:=by
 unfold live;have l2:i<(fs.set i fr).length:=by rw[L4];exact hl
 rw[j3 l2,show e-i=(e-(i+1))+1 by lia,n5,v0,List.getElem_set_self];congr 3;rw[List.drop_set,if_pos<|y9 i]
structure Bz(Z:List Addr)(H H':Hp):Prop where
 keep:∀b o,b∉Z->H b=ι o->H' b=ι o
 Fl:∀b,H' b=ν->H b=ν
theorem Bz.of(s:AF H H'):Bz Z H H':=⟨λb o _ e=>s _ _ e,λb h=>s.free h⟩
theorem Bz.trans(a:Bz Z H d)(b:Bz Z d H2):Bz Z H H2:=⟨λc o n e=>b.keep c o n<|a.keep c o n e,λc h=>a.Fl c<|b.Fl c h⟩
theorem Bz.put(a:Bz Z H d)(h:z∈Z):Bz Z H (upd d z o):=⟨λc u n e=>by rw[AH λq=>n<|by rw[q];exact h];exact a.keep c u n e,λb q=>a.Fl b (Cn q).2⟩
structure vO(Z:List Addr)(Iv:List Int->Hp->Prop):Prop where
 up:∀l H H',(∀b∈Z,H' b=H b)->Iv l H->Iv l H'
 pm:∀l l' H,l.Perm l'->Iv l H->Iv l' H
 Fl:∀l H,Iv l H->∀b∈Z,∃o,H b=ι o/\∀vs,o≠.lst vs
inductive Qn(R:Pt->Pt->List Int->Prop)(D:Pt->Prop)(Z:List Addr)(c:List Int->Hp->Prop)(G:Hp)(vs:List V)(H:Hp)(Q:VK):Prop
 |mk(a:Hp)(v:V)(t:Pt)(L:Addr)(ws:List V)(us e:List Pt)(fs:List (List Int))(d:List Int)(l:vs=[v,.ref L])(m:AF G H)(n:Val G v t)(o:D t)(p:H L=ι (.lst ws))(q:a L=ν)(r:∀b,H b=ν->a b=ν)(s:AF G a)(u:∀b∈Z,a b≠ν)(x:Eu t.hold us)(g:NR R us e fs)(h:AS (nw a H) ws e)(i:c (d++fs.flatten) H)(j:(d++fs.flatten).length<=20000)(k:∀(w:V) (b:Pt) (f:List Int) (H':Hp),Bz Z H H'->Val (nw a H') w b->R t b f->c (d++f) H'->f.length<=fs.flatten.length+1->Q w H'):Qn R D Z c G vs H Q
def Ou(R:Pt->Pt->List Int->Prop)(D:Pt->Prop)(Z:List Addr)(a:List Int->Hp->Prop)(G:Hp):Sp:=λb H Q _=>Qn (K:=K) R D Z a G b H Q
inductive Qo(P:om)(w:u8)(K:ACy)[BW K](mg:Str->Option b7)(base:Heap)(e:Addr)(vs:List V)(H:Hp)(Q:VK):Prop
 |mk(R:Pt->Pt->List Int->Prop)(D:Pt->Prop)(Z:List Addr)(c:List Int->Hp->Prop)(G:Hp)(v:V)(t:Pt)(d:Addr)(a:j4)(ps:List Str)(j:vs=[v,.ref e,.ref d])(k:AF G H)(g:∀b∈Z,G b=ν)(l:Val G v t)(m:D t)(o:∀t,D t->∃n,n<=20000/\PR n t)(p:∀t us,D t->Eu t.hold us->∀u∈us,D u)(q:ql K H d)(r:Binds K a ps [])(s:Ab P w K mg base Bs 7 d a ps (Ou R D Z c G))(x:vO Z c)(h:c [] H)(i:∀(w:V) (b:Pt) (f:List Int) (H':Hp),Bz Z H H'->Val (nw H H') w b->R t b f->c f H'->Q w H'):Qo P w K mg base e vs H Q
def Uo(P:om)(w:u8)(K:ACy)[BW K](mg:Str->Option b7)(base:Heap)(a:Addr):Sp:=λb H Q _=>Qo P w K mg base a b H Q
end
section
theorem Jp(ns:List Int):∀n,n<=ns.length->preSum (λi=>ns.getD i 0) n=(ns.take n).sum
 |0,_=>rfl
 |n+1,h=>by
  have e:preSum (λi=>ns.getD i 0) (n+1)=preSum (λi=>ns.getD i 0) n+ns.getD n 0:=rfl;rw[e,Jp ns n<|by lia,j2,ACu<|by lia,List.sum_append,ci,ACu<|by lia];simp
inductive Qp(K:ACy)(xs:List V)(H:Hp)(Q:VK):Prop
 |mk(p:Addr)(ns:List Int)(a:xs=[.ref p])(b:Ag K H p (ns.map V.int))(c:Q (.int ns.sum) H)
def TR(K:ACy):List V->Hp->VK->Prop:=λa H Q=>Qp K a H Q
theorem Ip(C:X.calm=true):Bo X (.builtin "sum") (TR X.K):=by
 intro pins s J H L M Q I r h;obtain⟨p,a,rfl,D,q⟩:=h;obtain⟨u,rfl,k⟩:=vals1 r;cases k;obtain⟨c,l,n,N⟩:=I.list D;obtain⟨E,d,f⟩:=id n.isList;have g:p<s.heap.objs.size:=g7 d;have m:X.A.in1.handled=none:=I.ok.hd C;have hlen:c.toArray.size=a.length:=by rw[cr,<-l.length,ap]
 refine call_sum_walkG<|M3 n.isList ⟨s.heap.objs.size,_,_,_,_,_,λi=>a.getD i 0,rfl,Walks.list m s.heap.objs.size p (i4 g) c.toArray,⟨⟨_,g8 _ rfl,rfl,rfl⟩,⟨E,be _ d,f⟩⟩,?_,?_,λO F t' kept=>?_⟩
 ·intro b w;simp only[ca,I9,or_false]at w;show b<(s.heap.push _).objs.size;have e:∀o,(s.heap.push o).objs.size=s.heap.objs.size+1:=λo=>by simp[Heap.push]
  rw[e];rcases w with h|h
  ·rw[h];exact y9 _
  ·rw[h];exact G0 g
 ·intro i v j;have j:c[i]?=ι v:=by simpa using j
  have y:i<a.length:=by
   have:=DR j;rw[<-l.length,ap]at this;exact this
  obtain⟨u,B,t,k⟩:=l.get (i:=i) (x:=.int a[i]) (by rw[bv,ACu y];rfl);rw[j]at B;cases B;refine⟨t,?_⟩;rw[k];show IN a[i] t=IN (a.getD i 0) t;rw[ci,ACu y];rfl
 ·refine⟨.int a.sum,H,I.kept (t':=F) λb o e=>kept b o (λz=>?_)<|be _ e,?_,q⟩
  ·have G:b=s.heap.objs.size:=by simpa using z
   exact i4 (g7 e) G
  ·refine⟨t',?_⟩;rw[hlen,Jp a _<|bn _,im]
end
namespace Dc
end Dc
variable{Q:VK}
theorem Up{J:It}{q:TT}{r:TE}{fs:List Nat}(n:Nat)(item:Nat->V)(P:Addr->Nat->Hp->Prop)(t:∀D,H D=ν->P D 0 (upd H D (.lst [])))(j:∀D i H2,i<n->P D i H2->J.go i H2)(u:∀D i H2 v H',i<n->P D i H2->J.aJ i H2 v H'->v=item i/\H'=H2)(k:∀D H2,P D n H2->J.stop n H2)(w:∀D i H2,H D=ν->i<n->P D i H2->q (ι (item i)::CY σ fs) H2 λok g=>if ok=true then r (ι (item i)::CY σ fs) g λy f=>∃ys,f D=ι (.lst ys)/\ys.length<sizeLine/\P D (i+1) (upd f D (.lst (ys++[y])))else P D (i+1) g)(x:∀D H2,H D=ν->P D n H2->Q (.ref D) H2):DG J q r fs σ H Q:=by
 intro D l;refine⟨λi m H2=>m=n-i/\i<=n/\P D i H2,⟨n,rfl,d9 _,t D l⟩,?_⟩;rintro i m H2 ⟨rfl,A,p⟩;by_cases d:i<n
 ·refine .inr ⟨j D i H2 d p,λv s y=>?_⟩;obtain⟨rfl,rfl⟩:=u D i H2 v s d p y;have o:=w D i s l d p;have e:(λ(y:V)(f:Hp)=>∃ys,f D=ι (.lst ys)/\ys.length<sizeLine/\∃h,h<n-i/\h=n-(i+1)/\i+1<=n/\P D (i+1) (upd f D<|.lst<|ys++[y]))=λy f=>∃ys,f D=ι (.lst ys)/\ys.length<sizeLine/\P D (i+1) (upd f D<|.lst<|ys++[y]):=by
   funext y f;refine propext ⟨λ⟨ys,a,b,h,_,_,_,c⟩=>⟨ys,a,b,c⟩,λ⟨ys,a,b,c⟩=>⟨ys,a,b,n-(i+1),by lia,rfl,d,c⟩⟩
  have z:∀g:Hp,(∃h,h<n-i/\h=n-(i+1)/\i+1<=n/\P D (i+1) g)=P D (i+1) g:=λg=>propext ⟨λ⟨_,_,_,_,c⟩=>c,λc=>⟨n-(i+1),by lia,rfl,d,c⟩⟩;dsimp only;simp only[e,z];exact o
 ·have e:i=n:=by lia
  subst e;exact .inl ⟨k D H2 p,x D H2 l p⟩
section
end
section
variable [BW K]
theorem TU:∀as:List Ak,(as.map λx=>(x.wt:Int)).sum=(Ak.DU as:Int)
 |[]=>rfl
 |a::as=>by
  simp only[ge,adH,Ak.DU];rw[TU as];lia
inductive ZJ(vs:List V)(H:Hp)(Q:VK):Prop
 |mk(G:Hp)(v:V)(a:Ak)(c:vs=[v])(e:AF G H)(f:Val G v a.pt)(g:a.ok)(h:a.size<=80)(i:∀(p:Addr) (es:List V) (b:List Pt) (H':Hp),AF H H'->H p=ν->H' p=ι (.lst es)->AS G es b->b.length<=80->(∀d∈b,d.doc/\d.size<=10)->(∀d∈a.Bb,d∈b)->Q (.ref p) H')
def Ov:Sp:=λa H Q _=>ZJ (K:=K) a H Q
def vP(t:Pt)(kvs:List (Key×V)):Prop:=∀i:Int,Pt.int i∈t.Ll->(BF kvs<|v8 i).isSome=true
inductive iP(vs:List V)(H:Hp)(Q:VK):Prop
 |mk(v:V)(t:Pt)(a:vs=[v])(b:Val H v t)(c:t.doc)(d:t.size<=900)(e:∀(u:Addr) (kvs:List (Key×V)) (H':Hp),AF H H'->H u=ν->H' u=ι (.dK kvs)->kvs.length<=900->vP t kvs->Q (.ref u) H')
def eK:Sp:=λa H Q _=>iP (K:=K) a H Q
end
namespace Ak
theorem Kd.yj(h:Kd a as)(o:a.ok):∀x∈as,x.ok:=by
 have mem:∀{c:List Ak},JC c->∀x∈c,x.ok:=λ{c}=>by
  induction c with
  |nil=>intro _ x b;cases b
  |cons y r e=>
   intro h x b;simp only[JC]at h;rcases ca.mp b with rfl|b
   ·exact h.1
   ·exact e h.2 x b
 cases a with
 |row c m=>simp only[Ak.ok]at o;rw[show as=c from h];exact mem o
 |tab g c ls m=>
  simp only[Ak.ok]at o;obtain⟨i,f,j,e1⟩:=h;intro x b;exact mem o.2.2.2.2.2.2 x ((CD o.1 o.2.1 f e1).mem_iff.mp b)
 |any=>rw[show as=[]from h];exact λx b=>nomatch b
 |Ao d=>rw[show as=[]from h];exact λx b=>nomatch b
def lK(t:Pt):Prop:=∃a:Ak,t=a.pt/\a.ok
theorem lK.eA(h:lK t)(k:Eu t.hold us):∀u∈us,lK u:=by
 obtain⟨a,rfl,o⟩:=h;obtain⟨e,b,rfl⟩:=Uc (QY a o) k;intro u c;obtain⟨x,d,rfl⟩:=m7.mp c;exact⟨x,rfl,b.yj o x d⟩
end Ak
structure Lv(C:Addr)(H:Hp)(o u:Addr)(N:Int)(kvs:List (Key×V)):Prop where
 at_:∃dx fs,H o=ι (.ins C dx fs)/\fs.lookup ("used":Str)=ι (V.ref u)/\fs.lookup ("number":Str)=ι (V.int N)/\fs.lookup ("fresh":Str)=ν/\fs.length<=100
 ud:H u=ι (.dK kvs)
theorem Lv.up(h:Lv C H o u N kvs)(e1:H' o=H o)(c:H' u=H u):Lv C H' o u N kvs:=by
 obtain⟨⟨d,fs,a,r⟩,b⟩:=h;exact⟨⟨d,fs,e1.trans a,r⟩,c.trans b⟩
theorem Lv.ne(h:Lv C H o u N kvs):o≠u:=λz=>by
 obtain⟨⟨c,fs,a,_⟩,b⟩:=h;rw[z,b]at a;cases a
theorem Qq:∀{fs:List (Str×V)},fs.lookup f=ι w->(Fh f v fs).length=fs.length
 |[],h=>by cases h
 |(g,x)::r,h=>by
  unfold Fh;by_cases e:g=f
  ·rw[if_pos e];rfl
  ·rw[if_neg e,g6,g6];have a:(f==g)=false:=by simpa using(k8 e)
   rw[j7,a]at h;rw[Qq h]
inductive ZK{K:ACy}[BW K](C:Addr)(vs:List V)(H:Hp)(Q:VK):Prop
 |mk(o a:Addr)(v:V)(t:Pt)(b:vs=[.ref o,v])(c:H o=ι (.ins C a []))(d:Val (UU o H) v t)(e:t.doc)(f:t.size<=900)(g:∀(u:Addr) (kvs:List (Key×V)) (H':Hp),Bz [o] H H'->H u=ν->Lv C H' o u 0 kvs->kvs.length<=900->vP t kvs->Q .BB H')
def Uq{K:ACy}[BW K](C:Addr):Sp:=λa H Q _=>ZK (K:=K) C a H Q
inductive ZL(C:Addr)(vs:List V)(H:Hp)(Q:VK):Prop
 |mk(o u:Addr)(N:Int)(kvs:List (Key×V))(a:vs=[.ref o])(b:Lv C H o u N kvs)(c:kvs.length<=30000)(d:∀(k:Int) (H':Hp),BF kvs (v8 k)=ν->Bz [o,u] H H'->Lv C H' o u k (putK kvs (v8 k) (.bl true))->Q (.int k) H')
def Ow(C:Addr):Sp:=λa H Q _=>ZL C a H Q
def Jq(N:Int)(kvs:List (Key×V)):Nat:=(kvs.filter λp=>match p.1 with| .inl k=>decide (N<=k)| .inr _=>false).length
theorem cF:∀{kvs:List (Key×V)},(BF kvs (v8 N)).isSome=true->Jq (N+1) kvs<Jq N kvs:=by
 have c:∀kvs:List (Key×V),Jq (N+1) kvs<=Jq N kvs:=λkvs=>by
  induction kvs with
  |nil=>exact bn _
  |cons p r a=>
   obtain⟨k,v⟩:=p;unfold Jq at a⊢;cases k with
   |inr s=>rw[J3 (by simp),J3 (by simp)];exact a
   |inl k=>
    simp only[w8];by_cases b:N+1<=k
    ·rw[if_pos<|by simpa using b,if_pos<|by simp;lia];simp only[g6];lia
    ·rw[if_neg<|by simpa using b];split
     ·simp only[g6];lia
     ·lia
 intro kvs
 induction kvs with
 |nil=>intro h;cases h
 |cons p r a=>
  obtain⟨k,v⟩:=p;intro h;have l2:=c r;unfold Jq at a l2⊢;by_cases e:k=v8 N
  ·subst e;simp only[w8];rw[if_neg<|by simp;lia,if_pos<|by simp];simp only[g6];lia
  ·rw[Bg e]at h;have:=a h;cases k with
   |inr s=>rw[J3 (by simp),J3 (by simp)];exact this
   |inl k=>
    simp only[w8];by_cases b:N+1<=k
    ·rw[if_pos<|by simpa using b,if_pos<|by simp;lia];simp only[g6];lia
    ·rw[if_neg<|by simpa using b];split
     ·simp only[g6];lia
     ·lia
structure Qr(C o u:Addr)(k0:List (Key×V))(l:List Int)(H:Hp):Prop where
 ex:∃N kvs,Lv C H o u N kvs/\(∀x∈l,(BF kvs (v8 x)).isSome=true)/\(∀k,(BF k0 k).isSome=true->(BF kvs k).isSome=true)/\kvs.length<=k0.length+l.length
 nd:l.Nodup
 no:∀x∈l,BF k0 (v8 x)=ν
theorem Qr.st(C o u:Addr)(i:List (Key×V)):vO [o,u] (Qr C o u i):=by
 refine⟨λl H t e h=>?_,λl v H p h=>?_,λl H h b a=>?_⟩
 ·obtain⟨⟨N,kvs,c,r⟩,d,f⟩:=h;exact⟨⟨N,kvs,c.up (e o dL)<|e u<|b9 _<|bi.mpr rfl,r⟩,d,f⟩
 ·obtain⟨⟨N,kvs,c,j,k,m⟩,d,f⟩:=h;exact⟨⟨N,kvs,c,λx g=>j x<|p.mem_iff.mpr g,k,by rw[<-p.length_eq];exact m⟩,p.nodup_iff.mp d,λx g=>f x<|p.mem_iff.mpr g⟩
 ·obtain⟨⟨N,kvs,⟨⟨w,fs,n,_⟩,q⟩,_⟩,_,_⟩:=h;rcases ca.mp a with rfl|a
  ·exact⟨_,n,λs z=>nomatch z⟩
  ·rw[bi.mp a];exact⟨_,q,λs z=>nomatch z⟩
theorem Qr.start(c:Lv C H o u N b):Qr C o u b [] H:=⟨⟨N,b,c,(λx a=>nomatch a),λ_ h=>h,by simp⟩,.nil,λx a=>nomatch a⟩
theorem Qr.new{H:Hp}{N:Int}(nd:l.Nodup)(m:∀x∈l,BF d (v8 x)=ν)(g:∀x∈l,(BF kvs (v8 x)).isSome=true)(i:∀k,(BF d k).isSome=true->(BF kvs k).isSome=true)(q:kvs.length<=d.length+l.length)(nk:BF kvs (v8 k)=ν)(f:Lv C H' o u k (putK kvs (v8 k) (.bl true))):Qr C o u d (l++[k]) H':=by
 have keep:∀j,(BF kvs j).isSome=true->(BF (putK kvs (v8 k)<|.bl true) j).isSome=true:=λj h=>by
  rw[IF];split
  ·rfl
  ·exact h
 refine⟨⟨k,_,f,λx c=>?_,λj h=>keep _<|i j h,by have:=Cw kvs (v8 k)<|.bl true;simp;lia⟩,?_,λx c=>?_⟩
 ·rcases db.mp c with c|c
  ·exact keep _<|g x c
  ·rw[bi.mp c,IF,if_pos rfl];rfl
 ·refine i3.mpr ⟨nd,by simp,λa n b p e=>?_⟩;rw[bi.mp p]at e;have:=g a n;rw[e,nk]at this;cases this
 ·rcases db.mp c with c|c
  ·exact m x c
  ·rw[bi.mp c];cases h:BF d (v8 k)with
   |none=>rfl
   |some z=>
    have:=i (v8 k) (by rw[h];rfl);rw[nk]at this;cases this
def nr(t b:Pt)(f:List Int):Prop:=∃a:Ak,t=a.pt/\Ak.NQ a b f
theorem Ur:∀{as:List Ak}{b:List Pt}{fs:List (List Int)},NR nr (as.map Ak.pt) b fs->Ak.Cv as b fs
 |[],_,_,.nil=>.nil
 |a::as,_,_,.cons ⟨c,e,h⟩ t=>by
  have:=Ak.Hs _ _ e;subst this;exact .cons h<|Ur t
section
variable [BW K]
def Us(C:Addr):Sp:=λb H Q E=>∃(o u:Addr)(a:List (Key×V))(G:Hp)(v:V)(L:Addr),b=[v,.ref L,.ref o]/\a.length<=900/\Ou (K:=K) nr Ak.eB [o,u] (Qr C o u a) G [v,.ref L] H Q E
inductive Qs(C T:Addr)(c:Pos)(d:Str)(vs:List V)(H:Hp)(Q:VK):Prop
 |mk(G:Hp)(v:V)(o u:Addr)(g:List (Key×V))(N:Int)(a:Ak)(j:vs=[v,.ref o])(k:AF G H)(l:G T=ν)(m:Val G v a.pt)(n:a.Be)(p:a.wt<=900)(q:G o=ν)(r:G u=ν)(s:Lv C H o u N g)(t:g.length<=900)(h:Ey c d T H)(i:∀(w:V) (b:Pt) (f:List Int) (H':Hp),(∀z e,z≠T->z∉[o,u]->H z=ι e->H' z=ι e)->(∀z,H' z=ν->H z=ν)->Ey c d T H'->Val (nw H H') w b->Ak.NQ a b f->Qr C o u g f H'->Q w H'):Qs C T c d vs H Q
def Ut(C T:Addr)(a:Pos)(b:Str):Sp:=λc H Q _=>Qs (K:=K) C T a b c H Q
end
section
inductive ZM(K:ACy)(xs:List V)(H:Hp)(Q:VK):Prop
 |mk(x:V)(p:Addr)(T:String)(a:List String)(b:Bool)(c:xs=[x,.ref p])(d:H p=ι (.tup (a.map V.ty)))(e:PN H x T)(f:Wp K (.type T) (a.map V5)=ι b)(g:Q (.bl b) H)
theorem ZN:∀{a:List String}{us:List b7},Vals (a.map V.ty) us->us=a.map V5
 |[],_,.nil=>rfl
 |c::a,_,.cons r t=>by
  rw[ZN t];cases r;rfl
theorem NS:Bo X (.builtin "isinstance") (ZM X.K):=by
 intro pins s t H v w Q I r h;obtain⟨x,p,T,y,b,rfl,f,ty,e,q⟩:=h;obtain⟨u,z,rfl,g,a⟩:=vals2 r;cases a;obtain⟨i,j,k,_⟩:=I.tuple<|BP.of f;obtain⟨⟨l,A,data,B⟩,m,c,n,d⟩:=id k;simp only at c d;subst c d;have:=ZN j;subst this;exact Hl I g ty m e λo=>⟨.bl _,H,I.tok o,rfl,q⟩
end
section
variable {o:u7} {to:TE} {name:Str} {apos CU:Pos} {id:String} {r:V->List V->Hp->VK->Prop}
def lL(r:V->List V->Hp->VK->Prop)(to:TE):TE:=λc H Q=>to c H λx b=>(∃a kvs,x=.ref a/\Rd b a (.dK kvs))/\r x [] b Q
theorem cG(l:adg "dict")(slot:Slot "dict" name id)(d:typeOf (.builtin id)=pure (.type "method_descriptor"))(m:qG X id r)(n:PE X o to)(b:D0 o name X.env (wP o X.env)=wP o X.env:=by rfl)(c:(apos.endLine==CU.line)=true:=by rfl):PE X (.Call (.Attribute o name apos) [] [] CU) (lL r to):=by
 intro pins s f H Q I h;refine Z3 b c (BQ (n pins s f H _ I h) λv p ⟨x,q,g,i,ty,t⟩=>?_);obtain⟨a,kvs,rfl,u⟩:=ty;cases(show v=jM a from i);obtain⟨_,_,_,_,j,_,_,e,k,_⟩:=EO g.Ax u;exact⟨"dict",id,l,slot,d,⟨j,e,k.1⟩,(λa w=>by cases w;exact⟨j,e,k.2.1⟩),Db rfl<|abe<|m pins p f q (.ref a) [] (.ref a) [] Q g i .nil t⟩
end
variable{x:Str}
theorem Az{Q:Bool->Hp->Prop}{t:Addr}{w:Str}{r:List V}(h:BP K H t (.str w::r))(q:Q (decide (V.str w=V.str x)) H)(e:σ[0]?=ι (ι (V.ref t)):=by rfl):XI (Wu u_ (Wu (SK K) (IA 0) (tC (.int 0))) (tC (.str x))) σ H Q:=⟨_,e,t,_,0,_,rfl,rfl,h,YU,rfl,_,rfl,q⟩
variable{T:Addr}
theorem Fc{x:_}(z:H T=ι (.Ju x))(a:Addr)(u:HO)(n:Plain u)(h:Rd H a u):Rd (CJ [T] H) a u:=by
 have b:a∉[T]:=λm=>by
  rw[bi.mp m]at h;rcases h with h|⟨c,h⟩<;>rw[z]at h<;>cases h<;>cases n
 unfold Rd;rw[Aq b];exact h
theorem Ey.Ju{pos:Pos}{qual:Str}(h:Ey pos qual T H):∃x,H T=ι (.Ju x):=by
 cases h with
 |new h=>exact⟨_,h⟩
 |old _ _ _ _ h=>exact⟨_,h⟩
namespace Pt
theorem Dj{n:Nat}:∀{l:List Pt},(∀d∈l,d.size<=n)->AI l<=n*l.length
 |[],_=>d9 _
 |x::r,h=>by
  have:=h x dL;have:=Dj (l:=r) λd a=>h d<|b9 _ a;simp only[AI,g6,Nat.mul_succ];lia
theorem GR{n:Nat}:∀{l:List Pt},(∀d∈l,d.deep<=n)->AR l<=n
 |[],_=>d9 _
 |x::r,h=>by
  have:=h x dL;have:=GR (l:=r) λd a=>h d<|b9 _ a;simp only[AR];lia
theorem DX:∀{a b:List Pt},AI (a++b)=AI a+AI b
 |[],_=>by simp[AI]
 |x::r,b=>by simp only[jp,AI,DX (a:=r)];lia
theorem GS{a b:List Pt}(c:CF a)(d:CF b):CF (a++b):=EV λx e=>by
 rcases db.mp e with h|h
 ·exact BC c x h
 ·exact BC d x h
end Pt
variable{D:Addr}
theorem cH{G Hf Hi:Hp}(k:Dl G Hf)(nD:∀u,¬Rd G D u)(s:∀b e,b≠D->Hf b=ι e->Hi b=ι e):Dl G Hi where
 rd:=λb u r=>(k.rd b u r).up λo e=>s b o (λz=>nD u (by rw[<-z];exact r)) e
 tp:=λb xs e=>s b _ (λz=>nD _ (by rw[<-z];exact .inl e)) (k.tp b xs e)
theorem Ak.Lm:∀{a b:List Ak},Ak.B_ (a++b)=Ak.B_ a++Ak.B_ b
 |[],_=>rfl
 |x::r,b=>by simp only[jp,Ak.B_,Ak.Lm (a:=r),ii]
variable{xs:List Ak}{b:Ak}
theorem Ak.Jr(h:xs[i]?=ι b):Ak.B_ (xs.take (i+1))=Ak.B_ (xs.take i)++b.Bb:=by
 rw[j2,h,Ak.Lm];simp only[G5,Ak.B_,j9]
theorem Pt.Qt:∀{a c:List Pt},Pt.Fn (a++c)=Pt.Fn a++Pt.Fn c
 |[],_=>rfl
 |x::r,c=>by simp only[jp,Pt.Fn,Pt.Qt (a:=r),ii]
theorem Pt.NT{xs:List Pt}{b:Pt}(h:xs[i]?=ι b):Pt.Fn (xs.take (i+1))=Pt.Fn (xs.take i)++b.Ll:=by
 rw[j2,h,Pt.Qt];simp only[G5,Pt.Fn,j9]
theorem Pt.Cy{xs:List Pt}{b:Pt}(h:xs[i]?=ι b):Pt.AI (xs.take (i+1))=Pt.AI (xs.take i)+b.size/\Pt.AI (xs.take (i+1))<=Pt.AI xs:=by
 have e:Pt.AI (xs.take<|i+1)=Pt.AI (xs.take i)+b.size:=by
  rw[j2,h,Pt.DX];simp only[G5,Pt.AI];lia
 refine⟨e,?_⟩;have:=Pt.DX (a:=xs.take<|i+1) (b:=xs.drop<|i+1);rw[x5]at this;lia
theorem Pt.Gp:∀{a c:List Pt},Pt.AR (a++c)=max (Pt.AR a) (Pt.AR c)
 |[],_=>by simp[Pt.AR]
 |x::r,c=>by simp only[jp,Pt.AR,Pt.Gp (a:=r)];lia
namespace Ak
mutual
theorem Uu:∀a:Ak,a.Be->Pt.CF a.Bb/\Pt.AI a.Bb<=a.wt/\Pt.AR a.Bb<=a.dp
 |any,_=>⟨trivial,d9 _,d9 _⟩
 |Ao d,o=>⟨⟨o,trivial⟩,by simp[Bb,Pt.AI,wt],by simp[Bb,Pt.AR,dp]⟩
 |row xs m,o=>by
  simp only[Be]at o;obtain⟨b,c,e⟩:=Ln xs o;exact⟨b,by simp only[Bb,wt];lia,by simp only[Bb,dp];lia⟩
 |tab f xs ls m,o=>by
  simp only[Be]at o;obtain⟨b,c,e⟩:=Ln xs o.2.2.2.2.2.2;exact⟨b,by simp only[Bb,wt];lia,by simp only[Bb,dp];lia⟩
theorem Ln:∀xs:List Ak,G_ xs->Pt.CF (B_ xs)/\Pt.AI (B_ xs)<=DU xs/\Pt.AR (B_ xs)<=KH xs
 |[],_=>⟨trivial,d9 _,d9 _⟩
 |x::r,o=>by
  simp only[G_]at o;obtain⟨a,c,d⟩:=Uu x o.1;obtain⟨b,e,f⟩:=Ln r o.2;refine⟨Pt.GS a b,?_,?_⟩
  ·simp only[B_,DU,Pt.DX];lia
  ·simp only[B_,KH,Pt.Gp];lia
end
end Ak
namespace Pt
def flat:Pt->Prop
 |int _|str _=>True
 |_=>False
mutual
theorem ZO:∀t:Pt,t.doc->∀x∈t.Ll,x.flat
 |int i,_,x,a=>by simp only[Ll,bi]at a;subst a;trivial
 |str i,_,x,a=>by simp only[Ll,bi]at a;subst a;trivial
 |bl _,d,_,_=>by simp[doc]at d
 |BB,d,_,_=>by simp[doc]at d
 |tup _,d,_,_=>by simp[doc]at d
 |lst xs,d,x,a=>by simp only[doc]at d;simp only[Ll]at a;exact Gq xs d x a
 |BV ks xs,d,x,a=>by simp only[doc]at d;simp only[Ll]at a;exact Gq xs d.2.2.2.2 x a
theorem Gq:∀xs:List Pt,CF xs->∀x∈Fn xs,x.flat
 |[],_,x,a=>nomatch a
 |y::r,d,x,a=>by
  simp only[CF]at d;rcases db.mp a with h|h
  ·exact ZO y d.1 x h
  ·exact Gq r d.2 x h
end
end Pt
theorem Uv{K:ACy}[BW K]{H:Hp}:∀{ws:List V}{ts:List Pt},AS H ws ts->(∀t∈ts,t.flat)->ws.all DS=true/\∀x:Int,Pt.int x∉ts->OD (.int x) ws=false
 |_,_,.nil,_=>⟨rfl,λ_ _=>rfl⟩
 |_,_,.cons (t:=t) h r,f=>by
  obtain⟨d,g⟩:=Uv r λt j=>f t<|b9 _ j;have a:=f t dL;cases h with
  |int i=>
   refine⟨by rw[S8,d];rfl,λx b=>?_⟩;have k:i≠x:=λe=>b (by rw[e];exact dL);have:=g x λc=>b<|b9 _ c;unfold OD at this⊢;rw[G6,this];simp[MS,k]
  |str s=>
   refine⟨by rw[S8,d];rfl,λx b=>?_⟩;have:=g x λc=>b<|b9 _ c;unfold OD at this⊢;rw[G6,this];rfl
  |bl _=>exact a.elim
  |BB=>exact a.elim
  |lst _ _=>exact a.elim
  |tup _ _=>exact a.elim
  |BV _ _ _=>exact a.elim
theorem WO:∀{l:List Pt}{f:List Int},l.Perm (f.map Pt.int)->∃g:List Int,l=g.map Pt.int/\(f.Nodup->g.Nodup)/\∀x∈g,x∈f:=λ{l f} p=>by
 have:∀l:List Pt,(∀t∈l,∃i∈f,t=Pt.int i)->∃g:List Int,l=g.map Pt.int/\∀x∈g,x∈f:=λl=>by
  induction l with
  |nil=>exact λ_=>⟨[],rfl,λx a=>nomatch a⟩
  |cons t r k=>
   intro h;obtain⟨i,b,rfl⟩:=h t dL;obtain⟨g,rfl,c⟩:=k λt d=>h t<|b9 _ d;exact⟨i::g,rfl,λx a=>by rcases ca.mp a with rfl|a;exact b;exact c x a⟩
 obtain⟨g,e,c⟩:=this l λt d=>by
  obtain⟨i,b,e⟩:=m7.mp<|p.mem_iff.mp d;exact⟨i,b,e.symm⟩
 refine⟨g,e,λnd=>?_,c⟩;have m:(f.map Pt.int).Nodup:=Q8.mpr (nd.imp λh e=>h<|Pt.int.inj e);have j:=p.nodup_iff.mpr m;rw[e]at j;exact(Q8.mp j).imp λh e=>h<|by rw[e]
variable{g:List Int}
theorem ZP [BW K] :∀{ws:List V},AS H ws (g.map Pt.int)->ws=g.map V.int:=by
 induction g with
 |nil=>exact λh=>h.Yd
 |cons i g a=>
  intro ws h;obtain⟨v,b,rfl,h,r⟩:=AS.HM h;cases h;rw[a r];rfl
theorem WQ(g:List Int):(g.map V.int).all DS=true:=by rw[N2];exact r4.mpr λ_ _=>rfl
theorem ints_in{x:Int}(h:x∉g):OD (.int x) (g.map V.int)=false:=by
 unfold OD;rw[List.any_map];refine acc.mpr λy a=>?_;simp only[Function.comp,MS,beq_iff_eq];exact λe=>h<|by rw[<-e];exact a
theorem Ey.qt{a:Pos}{b:Str}(f:Ey a b T H')(g:H T≠ν):Ey a b T (L2.MM H H'):=by
 obtain⟨o,e⟩:=Option.ne_none_iff_exists'.mp g;cases f with
 |new h=>exact .new (by rw[Kg e];exact h)
 |old c i j t h k d n=>exact .old c i j t (by rw[Kg e];exact h) (b_ k) d n
variable{vs:List V}
theorem Ki{a:Type}{ps:List a}{g:a->V}(h:vs.length=ps.length)(o:∀(i:Nat) v,vs[i]?=ι v->∃p,ps[i]?=ι p/\v=g p):vs=ps.map g:=by
 refine N6 (by simpa using h) λi b f=>?_;obtain⟨p,e,c⟩:=o i _<|ACu b;rw[acA];have d:i<ps.length:=by lia
 rw[ACu d]at e;rw[c,ACw e]
section
variable [BW K]
theorem NU{a:Addr}{j:TE}{fs:List Nat}(g:Pt->V)(h:Rd H a (.lst vs))(r:AS H vs ts)(hz:vs.length<=sizeLine)(o:∀(i:Nat) x t H2 (R:VK),vs[i]?=ι x->ts[i]?=ι t->Val H x t->AF H H2->(∀c,AF H2 c->R (g t) c)->j (ι x::CY σ fs) H2 R)(q:∀D H2,H D=ν->AF H H2->H2 D=ι (.lst (ts.map g))->Q (.ref D) H2):DG (jN K a) JM j fs σ H Q:=by
 have z:=r.length;refine DH (n:=vs.length) (λi=>vs.getD i .BB) (λi v=>∃p,ts[i]?=ι p/\v=g p) hz (λi H2 d b=>⟨_,_,.inl<|h.up<|b _,ACu d⟩) (λi H2 v A d b y=>?_) (λH2 b=>⟨_,.inl<|h.up<|b _,bn _⟩) (λi H2 R d b k=>?_) λD H2 B s b l C or=>?_
 ·obtain⟨e,y⟩:=y;refine⟨?_,e⟩;have:=y _<|.inl<|h.up<|b _;rw[ci,this];rfl
 ·obtain⟨x,f⟩:=B' vs i d;obtain⟨t,m,u⟩:=r.get f;rw[show vs.getD i .BB=x by rw[ci,f];rfl];exact o i x t H2 R f m u b λc w=>k _ c w ⟨t,m,rfl⟩
 ·rw[Ki (by lia) or]at l;exact q D H2 s b l
theorem Lo{a:Addr}{o:Obj}{kvs:List (Key×V)}{ks:List Str}{j:TE}{fs:List Nat}{l:Hp}(g:Pt->V)(F:PQ a o kvs H l)(f:kvs.map (·.1)=ks.map d0)(r:AS H (kvs.map (·.2)) ts)(nd:ks.Nodup)(hz:ks.length<=sizeLine)(w:∀(i:Nat) k x t H2 (R:VK),ks[i]?=ι k->ts[i]?=ι t->BF kvs (d0 k)=ι x->Val H x t->Dl H H2->(∀c,AF H2 c->R (g t) c)->j (ι (.str k)::CY σ fs) H2 R)(z:∀D H2,H D=ν->AF H (back a H H2)->H2 a=ι (.BK o (.dK kvs))->back a H H2 D=ι (.lst (ts.map g))->Q (.ref D) H2):DG (jO a o kvs) JM j fs σ l Q:=by
 have lk:kvs.length=ks.length:=by have:=congrArg pp f;simpa using this
 have lt:ts.length=ks.length:=by have:=r.length;simp only[ap]at this;lia
 refine DH (n:=ks.length) (λi=>.str<|ks.getD i "") (λi v=>∃p,ts[i]?=ι p/\v=g p) hz (λi H2 d b=>⟨b _ _ F.at_,by lia⟩) (λi H2 v E d b y=>?_) (λH2 b=>⟨b _ _ F.at_,by lia⟩) (λi H2 R d b k=>?_) λD H2 G m b q I or=>?_
 ·obtain⟨e,k,J,e1,s⟩:=y;rw[(GN f e1).2]at s;exact⟨s,e⟩
 ·obtain⟨x,t,A,u,B⟩:=OZ f r nd d;have h:ks[i]?=ι (ks.getD i ""):=by rw[ci,ACu d];rfl
  exact w i _ x t H2 R h u A B ((Dl.BK F).trans<|.of b) λc C=>k _ c C ⟨t,u,rfl⟩
 ·rw[Ki (by lia) or]at q;have Da:D≠a:=(F.free m).2;exact z D H2 (F.free m).1 (F.back b) (b _ _ F.at_)<|by rw[CA Da];exact q
theorem TV{a:Addr}{m:TE}{fs:List Nat}(g:Ak->V)(h:Rd H a (.lst vs))(r:AS H vs (xs.map Ak.pt))(hz:vs.length<=sizeLine)(s:∀(i:Nat) x b H2 (R:VK),vs[i]?=ι x->xs[i]?=ι b->Val H x b.pt->AF H H2->(∀d,AF H2 d->R (g b) d)->m (ι x::CY σ fs) H2 R)(u:∀D H2,H D=ν->AF H H2->H2 D=ι (.lst (xs.map g))->Q (.ref D) H2):DG (jN K a) JM m fs σ H Q:=by
 have w:=r.length;rw[ap]at w;refine DH (n:=vs.length) (λi=>vs.getD i .BB) (λi v=>∃p,xs[i]?=ι p/\v=g p) hz (λi H2 f c=>⟨_,_,.inl<|h.up<|c _,ACu f⟩) (λi H2 v C f c y=>?_) (λH2 c=>⟨_,.inl<|h.up<|c _,bn _⟩) (λi H2 R f c k=>?_) λD H2 E z c o F or=>?_
 ·obtain⟨e,y⟩:=y;refine⟨?_,e⟩;have:=y _<|.inl<|h.up<|c _;rw[ci,this];rfl
 ·obtain⟨x,j⟩:=B' vs i f;obtain⟨t,q,A⟩:=r.get j;obtain⟨b,l⟩:=B' xs i (by lia);rw[bv,l]at q;cases q;rw[show vs.getD i .BB=x by rw[ci,j];rfl];exact s i x b H2 R j l A c λd B=>k _ d B ⟨b,l,rfl⟩
 ·rw[Ki (by lia) or]at o;exact u D H2 z c o
theorem Qu{a:Addr}{o:Obj}{kvs:List (Key×V)}{ks:List Str}{m:TE}{fs:List Nat}{q:Hp}(g:Ak->V)(F:PQ a o kvs H q)(h:kvs.map (·.1)=ks.map d0)(r:AS H (kvs.map (·.2)) (xs.map Ak.pt))(nd:ks.Nodup)(hz:ks.length<=sizeLine)(A:∀(i:Nat) k x b H2 (R:VK),ks[i]?=ι k->xs[i]?=ι b->BF kvs (d0 k)=ι x->Val H x b.pt->Dl H H2->(∀d,AF H2 d->R (g b) d)->m (ι (.str k)::CY σ fs) H2 R)(B:∀D H2,H D=ν->AF H (back a H H2)->H2 a=ι (.BK o (.dK kvs))->back a H H2 D=ι (.lst (xs.map g))->Q (.ref D) H2):DG (jO a o kvs) JM m fs σ q Q:=by
 have lk:kvs.length=ks.length:=by have:=congrArg pp h;simpa using this
 have lt:xs.length=ks.length:=by have:=r.length;simp only[ap]at this;lia
 refine DH (n:=ks.length) (λi=>.str<|ks.getD i "") (λi v=>∃p,xs[i]?=ι p/\v=g p) hz (λi H2 f c=>⟨c _ _ F.at_,by lia⟩) (λi H2 v I f c y=>?_) (λH2 c=>⟨c _ _ F.at_,by lia⟩) (λi H2 R f c k=>?_) λD H2 J s c u L or=>?_
 ·obtain⟨e,k,M,e1,w⟩:=y;rw[(GN h e1).2]at w;exact⟨w,e⟩
 ·obtain⟨x,t,C,z,E⟩:=OZ h r nd f;obtain⟨b,j⟩:=B' xs i (by lia);rw[bv,j]at z;cases z;have l:ks[i]?=ι (ks.getD i ""):=by rw[ci,ACu f];rfl
  exact A i _ x b H2 R l j C E ((Dl.BK F).trans<|.of c) λd G=>k _ d G ⟨b,j,rfl⟩
 ·rw[Ki (by lia) or]at u;have Da:D≠a:=(F.free s).2;exact B D H2 (F.free s).1 (F.back c) (c _ _ F.at_)<|by rw[CA Da];exact u
theorem Lp:∀ts:List Pt,(ts.map λx=>(x.size:Int)).sum=(Pt.AI ts:Int)
 |[]=>rfl
 |t::r=>by
  simp only[ge,adH,Pt.AI];rw[Lp r];lia
section
variable{J:It} {te:TE} {fs:List Nat} 
theorem WR(o:Option Addr)(n:Nat)(item:Nat->V)(a:Nat->List Pt->Hp->Prop)(O:n<=1000)(E:∀D,H D=ν->a 0 [] (upd H D (.lst [])))(fr:∀i us H2 D ws,Bt o H H2->H D=ν->a i us H2->a i us (upd H2 D (.lst ws)))(hl:∀l,o=ι l->H l≠ν)(t:∀i us H2,i<n->Bt o H H2->a i us H2->J.go i H2)(F:∀i us H2 v H',i<n->Bt o H H2->a i us H2->J.aJ i H2 v H'->v=item i/\H'=H2)(x:∀us H2,Bt o H H2->a n us H2->J.stop n H2)(G:∀i us H2 (R:VK),i<n->Bt o H H2->a i us H2->us.length=i->(∀w u f,Bt o H2 f->Val (nw H2 f) w u->a (i+1) (us++[u]) f->R w f)->te (ι (item i)::CY σ fs) H2 R)(I:∀D H2 ws us,H D=ν->Bt o H H2->H2 D=ι (.lst ws)->us.length=n->AS (nw (upd H D (.lst [])) H2) ws us->a n us H2->Q (.ref D) H2):DG J JM te fs σ H Q:=by
 refine IW n item (λD i H2=>H D=ν/\Bt o H H2/\∃ws us,H2 D=ι (.lst ws)/\us.length=i/\AS (nw (upd H D<|.lst []) H2) ws us/\a i us H2) (λD c=>⟨c,.new .refl c,[],[],AA,rfl,.nil,E D c⟩) (λD i H2 g ⟨_,s,ws,us,_,_,_,d⟩=>t i us H2 g s d) (λD i H2 v H' g ⟨_,s,ws,us,_,_,_,d⟩ y=>F i us H2 v H' g s d y) (λD H2 ⟨_,s,ws,us,_,_,_,d⟩=>x us H2 s d) (λD i H2 _ g ⟨c,s,ws,us,j,m,p,d⟩=>?_) λD H2 _ ⟨c,s,ws,us,j,m,p,d⟩=>?_
 ·refine G i us H2 _ g s d m λw u f q L A=>?_;have M:o≠ι D:=λz=>hl D z c;have N:=q.keep D _ M j;have P:=p.length;have C:∀b,upd H D (.lst []) b=ν->b≠D/\H b=none:=λb h=>Cn h;refine⟨ws,N,w1 (by lia)<|Ac<|bn 1000,c,(s.trans q).new c,ws++[w],us++[u],AA,by simp[m],AS.snoc (p.up<|CT (λb h=>h) λb e r B=>?_)<|L.up<|CT (λb h=>?_) λb e r B=>?_,fr _ _ _ _ _ (s.trans q) c A⟩
  ·have k:=(C b r).1;rw[AH k];refine q.keep b e (λz=>?_) B;exact hl b z (C b r).2
  ·have k:b≠D:=Bw h j;rw[AH k];exact s.Fl b h
  ·have k:b≠D:=Bw r j;rw[AH k];exact B
 ·exact I D H2 ws us c s j m p d
end
inductive WS(n:Nat)(vs:List V)(H:Hp)(Q:VK):Prop
 |mk(G:Hp)(v:V)(a:Ak)(b:vs=[v])(c:Dl G H)(d:Val G v a.pt)(e:a.Be)(f:a.wt<=900)(g:a.deep<=n)(h:∀(p:Addr) (es:List V) (H':Hp),AF H H'->H p=ν->H' p=ι (.lst es)->AS G es a.Bb->es.length<=a.wt->Q (.ref p) H')
def Iq(n:Nat):Sp:=λa H Q _=>WS (K:=K) n a H Q
inductive TX(n:Nat)(vs:List V)(H:Hp)(Q:VK):Prop
 |mk(G:Hp)(v:V)(t:Pt)(a:vs=[v])(b:Dl G H)(c:Val G v t)(d:t.doc)(e:t.size<=900)(f:t.deep<=n)(g:∀(p:Addr) (es:List V) (H':Hp),AF H H'->H p=ν->H' p=ι (.lst es)->AS G es t.Ll->es.length<=t.size->Q (.ref p) H')
def E_(n:Nat):Sp:=λa H Q _=>TX (K:=K) n a H Q
inductive ZQ(n:Nat)(vs:List V)(H:Hp)(Q:VK):Prop
 |mk(v:V)(t:Pt)(a:vs=[v])(b:Val H v t)(c:t.doc)(d:t.size<=900)(e:t.deep<=n)(f:∀(H':Hp),AF H H'->Q (.int (t.size:Int)) H')
def Gr(n:Nat):Sp:=λa H Q _=>ZQ (K:=K) n a H Q
inductive WT(n:Nat)(vs:List V)(H:Hp)(Q:VK):Prop
 |mk(v:V)(a:Ak)(b:vs=[v])(c:Val H v a.pt)(d:a.Be)(e:a.wt<=900)(f:a.dp<=25)(g:a.deep+26<=n)(h:∀(H':Hp),AF H H'->Q (.int (a.wt:Int)) H')
def Ir(n:Nat):Sp:=λa H Q _=>WT (K:=K) n a H Q
inductive WU(vs:List V)(H:Hp)(Q:VK):Prop
 |mk(s:Str)(lo a:Nat)(c:vs=[.str s,.int (lo:Int),.int (a:Int)])(d:lo<=s.length)(e:s.length<=a)(f:(sgn s).all UI=true)(b:a<=100)(g:∀(H':Hp),AF H H'->Q (.bl true) H')
def Lq:Sp:=λa H Q _=>WU a H Q
inductive WV(n:Nat)(vs:List V)(H:Hp)(Q:VK):Prop
 |mk(v:V)(t:Pt)(a:vs=[v])(b:Val H v t)(c:t.doc)(d:t.txt)(e:t.size<=900)(f:t.deep+2<=n)(g:∀(H':Hp),AF H H'->Q (.bl true) H')
def Iu(n:Nat):Sp:=λa H Q _=>WV (K:=K) n a H Q
end
noncomputable def Mi:Nat->List Nat
 |0=>[]
 |r+1=>Mi (r/26)++[r % 26]
termination_by r=>r
decreasing_by have:=T1 r 26;lia
theorem DO(r:Nat):Mi (r+1)=Mi (r/26)++[r % 26]:=by rw[Mi]
theorem E':Mi 0=[]:=by rw[Mi]
theorem Uw:∀(a b:Nat),Mi a=Mi b->a=b
 |0,0,_=>rfl
 |0,b+1,h=>by rw[E',DO]at h;simp at h
 |a+1,0,h=>by rw[E',DO]at h;simp at h
 |a+1,b+1,h=>by
  rw[DO,DO]at h;obtain⟨c,d⟩:=List.append_inj' h rfl;have e1:=Uw (a/26) (b/26) c;have e:a % 26=b % 26:=by simpa using d
  lia
termination_by a=>a
decreasing_by have:=T1 a 26;lia
theorem ZR:∀(a:Nat),∀x∈Mi a,x<26
 |0,x,h=>by rw[E']at h;cases h
 |a+1,x,h=>by
  rw[DO]at h;rcases db.mp h with h|h
  ·exact ZR (a/26) x h
  ·rw[bi.mp h];exact V6 _<|by decide
termination_by a=>a
decreasing_by have:=T1 a 26;lia
theorem Ox:∀(k a:Nat),a<26 ^ k->(Mi a).length<=k
 |0,a,h=>by
  rw[show a=0 by simpa using h,E'];exact bn _
 |k+1,0,_=>by rw[E'];exact d9 _
 |k+1,a+1,h=>by
  rw[DO,b8];have:a/26<26 ^ k:=by
   rw[Nat.div_lt_iff_lt_mul<|by decide];rw[Nat.pow_succ]at h;lia
  have:=Ox k (a/26) this;simp only[i5];lia
def Mj(l:List Nat):Str:=⟨(l.map (97+·)).toArray⟩
theorem cI(h:Mj a=Mj c):a=c:=by
 unfold Mj at h;have h:=congrArg (λs:Str=>s.cps.toList) h;simp only at h;exact(abH λx y e=>by lia).mp h
theorem Fe(l:List Nat):sgn (Mj l)=l.map (97+·):=by unfold Mj sgn;simp
theorem ZS(x:Nat)(l:List Nat):Mj [x]++Mj l=Mj (x::l):=by
 have h:sgn (Mj [x]++Mj l)=sgn (Mj (x::l)):=by rw[CL,Fe,Fe,Fe];rfl
 exact UL h
theorem ZT(h:c<400000):CS (Mj (Mi (c+1)))=true:=by
 refine LK ?_ ?_ ?_
 ·rw[Fe,ap,DO,b8];simp
 ·rw[Fe,ap];have:=Ox 4 (c+1) (by lia);lia
 ·rw[Fe,N2,r4];intro x a;have:=ZR _ x a;have k:∀x,x<26->UI (97+x)=true:=by decide+kernel
  exact k x this
theorem ZU{x:Nat}(h:x<26):OA MZ.cps.toList (x:Int)=ι (97+x):=by
 have k:∀x,x<26->MZ.cps.toList[x]?=ι (97+x):=by decide+kernel
 exact Am<|k x h
theorem Ux(n:Nat):(n:Int) % ((MZ.length:Nat):Int)=((n % 26:Nat):Int):=by rw[ES];lia
theorem Uy(n:Nat):(n:Int)/((MZ.length:Nat):Int)=((n/26:Nat):Int):=by rw[ES];lia
theorem ZV(x:Nat):(⟨#[97+x]⟩:Str)=Mj [x]:=rfl
theorem WW(h:c<400000)(e:Mi (c+1)=Mi r++l):l.length<=4:=by
 have:=Ox 4 (c+1) (by lia);rw[e,b8]at this;lia
theorem Uz(l:List Nat):(Mj l).length=l.length:=by rw[<-EB,Fe,ap]
theorem Qv{c:Nat}{ns:List Str}(h:∀i,i<c->Mj (Mi (i+1))∈ns):c<=ns.length:=by
 have nd:((oo c).map λi=>Mj<|Mi<|i+1).Nodup:=Q8.mpr (List.nodup_range.imp λh e=>h<|by have:=Uw _ _<|cI e;lia);have:=nd.length_le_of_subset (l₂:=ns) λx a=>by
  obtain⟨i,b,rfl⟩:=m7.mp a;exact h i<|E3.mp b
 simpa using this
inductive WX(vs:List V)(H:Hp)(Q:VK):Prop
 |mk(c:Nat)(a:vs=[.int (c:Int)])(b:c<400000)(d:∀(H':Hp),AF H H'->Q (.str (Mj (Mi (c+1)))) H')
def Qw:Sp:=λa H Q _=>WX a H Q
inductive TY{K:ACy}[BW K](vs:List V)(H:Hp)(Q:VK):Prop
 |mk(l:Addr)(ns:List Str)(a:vs=[.ref l])(b:H l=ι (.lst (ns.map V.str)))(c:ns.length<=300000)(d:∀(n:Str) (H':Hp),AF H H'->n∉ns->CS n=true->Q (.str n) H')
def NV{K:ACy}[BW K]:Sp:=λa H Q _=>TY (K:=K) a H Q
section
variable [BW K]
noncomputable def Ak.fst(ns:List Str):Ak->List Key
 | .row xs true=>[.inl (xs.length:Int)]
 | .tab ks _ ls true=>(ns.filter λn=>decide (n∉ks)&&decide (n∉ls)).map d0
 |_=>[]
inductive WY(vs:List V)(H:Hp)(Q:VK):Prop
 |mk(v:V)(a:Ak)(l:Addr)(ns:List Str)(c:vs=[v,.ref l])(d:Val H v a.pt)(e:a.Be)(b:a.wt<=900)(f:H l=ι (.lst (ns.map V.str)))(g:ns.length<=1000)(h:∀(p:Addr) (H':Hp),AF H H'->H p=ν->H' p=ι (.lst ((Ak.fst ns a).map kV))->Q (.ref p) H')
def Qx:Sp:=λa H Q _=>WY (K:=K) a H Q
noncomputable def Ak.Oy:Ak->Bool
 | .row _ m=>m
 | .tab _ _ _ m=>m
 |_=>false
inductive ZW(vs:List V)(H:Hp)(Q:VK):Prop
 |mk(v:V)(b:Ak)(a:vs=[v])(c:Val H v b.pt)(d:∀H',AF H H'->Q (.bl b.Oy) H')
def U_:Sp:=λa H Q _=>ZW (K:=K) a H Q
end
namespace Ak
mutual
noncomputable def Fo(p:List Key):Ak->List (List Key×Ak)
 |any=>[(p,any)]
 |Ao d=>[(p,Ao d)]
 |row xs m=>(p,row xs m)::Du p 0 xs
 |tab ks xs ls m=>(p,tab ks xs ls m)::Dv p ks xs
noncomputable def Du(p:List Key)(i:Nat):List Ak->List (List Key×Ak)
 |[]=>[]
 |x::r=>Fo (p++[.inl (i:Int)]) x++Du p (i+1) r
noncomputable def Dv(p:List Key):List Str->List Ak->List (List Key×Ak)
 |k::ks,x::xs=>Fo (p++[.inr k]) x++Dv p ks xs
 |_,_=>[]
end
noncomputable def Iw(p:List Key):Nat->List Ak->List (List Key×Ak)
 |_,[]=>[]
 |i,x::r=>(p++[.inl (i:Int)],x)::Iw p (i+1) r
def Iy(p:List Key)(ss:List Str)(as:List Ak):List (List Key×Ak):=(ss.zip as).map λq=>(p++[.inr q.1],q.2)
inductive Ent(p:List Key):Ak->List (List Key×Ak)->Prop
 |any:Ent p any []
 |Ao (d:Pt):Ent p (Ao d) []
 |row (xs:List Ak) (m:Bool):Ent p (row xs m) (Iw p 0 xs)
 |tab {ks ls ss:List Str} {xs as:List Ak} (m:Bool) (pm:ss.Perm ks) (so:A8 ss=true) (e:ss.map (lk ks xs)=as.map ι):Ent p (tab ks xs ls m) (Iy p ss as)
def A_(q:List Key×Ak):List (List Key×Ak):=Fo q.1 q.2
theorem Qy(p:List Key):∀(i:Nat)(xs:List Ak),(Iw p i xs).flatMap A_=Du p i xs
 |_,[]=>by simp only[Iw,Du,SL]
 |i,x::r=>by simp only[Iw,Du,Ch,Qy p (i+1) r];rfl
theorem Qz(p:List Key):∀(ks:List Str)(xs:List Ak),(Iy p ks xs).flatMap A_=Dv p ks xs
 |[],_=>by simp only[Iy,Dv,List.zip_nil_left,B2,SL]
 |_::_,[]=>by simp only[Iy,Dv,List.zip_nil_right,B2,SL]
 |k::ks,x::xs=>by
  have:=Qz p ks xs;unfold Iy at this⊢;rw[tz,ge,Ch,this,Dv];rfl
theorem TZ:∀{ss:List Str}{as:List Ak},ss.map (lk ks xs)=as.map ι->(ss.zip as).map (λq=>(q.1,ι q.2))=ss.map λs=>(s,lk ks xs s)
 |[],as=>λh=>by simp
 |s::ss,[]=>λh=>by simp at h
 |s::ss,a::as=>λh=>by
  simp only[ge,u3]at h;rw[tz,ge,ge,TZ h.2,h.1]
theorem WZ(l:ks.length=xs.length)(nd:ks.Nodup)(pm:ss.Perm ks)(e:ss.map (lk ks xs)=as.map ι):(Iy p ss as).Perm (Iy p ks xs):=by
 have b:=TZ e;have c:=TZ<|OW l nd;have d:((ss.zip as).map λq=>(q.1,ι q.2)).Perm ((ks.zip xs).map λq=>(q.1,ι q.2)):=by rw[b,c];exact pm.map _
 have a:=d.map (λq:Str×Option Ak=>(p++[d0 q.1],q.2.getD .any));rw[o0,o0]at a;exact a
theorem Ent.perm(h:Ent p a es)(o:a.Be):(Fo p a).Perm ((p,a)::es.flatMap A_):=by
 cases h with
 |any=>rw[Fo];exact .refl _
 |Ao d=>rw[Fo];exact .refl _
 |row c m=>rw[Fo,Qy]
 |tab m b so e=>
  simp only[Be]at o;rw[Fo,<-Qz];exact((WZ o.1 o.2.1 b e).symm.flatMap_right A_).cons _
theorem Lr:∀{i:Nat}{xs:List Ak}{q:List Key×Ak},q∈Iw p i xs->q.2∈xs
 |_,[],_=>λh=>by cases h
 |i,x::r,q=>λh=>by
  rcases ca.mp h with rfl|h
  ·exact dL
  ·exact b9 _<|Lr h
theorem Q_:∀{i:Nat}{xs:List Ak},(Iw p i xs).length=xs.length
 |_,[]=>rfl
 |i,x::r=>by simp only[Iw,g6,Q_ (xs:=r)]
theorem RA:∀{i j:Nat}{xs:List Ak}{a:Ak},xs[j]?=ι a->(Iw p i xs)[j]?=ι (p++[.inl ((i+j:Nat):Int)],a)
 |_,_,[],_=>λh=>by simp at h
 |i,0,a::r,y=>λh=>by cases h;rfl
 |i,j+1,a::r,y=>λh=>by
  have:=RA (p:=p) (i:=i+1) (show r[j]?=ι y by simpa using h);simp only[Iw,J2,this];rw[show i+1+j=i+(j+1)by lia]
theorem RB(h:q∈Iy p ss as):q.2∈as:=by
 obtain⟨z,a,rfl⟩:=m7.mp h;exact(F5 a).2
theorem Ent.ok(h:Ent p a es)(o:a.Be):∀q∈es,q.2.Be:=by
 cases h with
 |any=>exact λq b=>nomatch b
 |Ao d=>exact λq b=>nomatch b
 |row f m=>
  simp only[Be]at o;exact λq b=>Ap o q.2 (Lr b)
 |tab m c so e=>
  simp only[Be]at o;exact λq b=>Ap o.2.2.2.2.2.2 q.2<|(CD o.1 o.2.1 c e).mem_iff.mp<|RB b
theorem RC(p:List Key):∀(i:Nat)(xs:List Ak),(Iw p i xs).map (·.2)=xs
 |_,[]=>rfl
 |i,x::r=>by simp only[Iw,ge,RC p (i+1) r]
theorem ZX(h:ss.length=as.length):(Iy p ss as).map (·.2)=as:=by
 unfold Iy;rw[o0];exact Z0<|by lia
theorem Ent.wt(h:Ent p a es)(o:a.Be):DU (es.map (·.2))+1<=a.wt:=by
 cases h with
 |any=>simp[DU,Ak.wt]
 |Ao d=>have:=Pt.size_pos d;simp only[B2,DU,Ak.wt];lia
 |row c m=>rw[RC,Ak.wt];lia
 |tab m b so e=>
  simp only[Be]at o;have l:=congrArg pp e;simp only[ap]at l;rw[ZX l,Ak.wt,GO<|CD o.1 o.2.1 b e];lia
theorem NW:∀{i:Nat}{xs:List Ak}{q:List Key×Ak},q∈Iw p i xs->q.1.length=p.length+1
 |_,[],_=>λh=>by cases h
 |i,x::r,q=>λh=>by
  rcases ca.mp h with rfl|h
  ·simp
  ·exact NW h
theorem Wa(h:q∈Iy p ss as):q.1.length=p.length+1:=by
 obtain⟨z,a,rfl⟩:=m7.mp h;simp
theorem Ent.yk(h:Ent p a es)(o:a.Be):∀q∈es,q.1.length+q.2.deep<=p.length+a.deep:=by
 cases h with
 |any=>exact λq b=>nomatch b
 |Ao d=>exact λq b=>nomatch b
 |row f m=>
  intro q b;have:=AU<|Lr b;rw[NW b,Ak.deep];lia
 |tab m c so e=>
  simp only[Be]at o;intro q b;have:=AU<|(CD o.1 o.2.1 c e).mem_iff.mp<|RB b;rw[Wa b,Ak.deep];lia
inductive Jb(root:Ak):Nat->List (List Key×Ak)->Prop
 |start:Jb root 0 [([],root)]
 |next{n:Nat} {l es:List (List Key×Ak)} {q:List Key×Ak} (b:Jb root n l) (h:l[n]?=ι q) (e:Ent q.1 q.2 es):Jb root (n+1) (l++es)
theorem Jb.ok(o:root.Be):∀{n:Nat}{l:List (List Key×Ak)},Jb root n l->∀q∈l,q.2.Be
 |_,_,.start=>λq a=>by rw[bi.mp a];exact o
 |_,_,.next b h e=>λq a=>by
  rcases db.mp a with a|a
  ·exact b.ok o q a
  ·exact e.ok (b.ok o _<|ACx h) q a
theorem Jb.perm(o:root.Be):∀{n:Nat}{l:List (List Key×Ak)},Jb root n l->(Fo [] root).Perm (l.take n++(l.drop n).flatMap A_)
 |_,_,.start=>by simp[A_]
 |_,_,.next (n:=n) (l:=l) (es:=es) (q:=q) b h e=>by
  have a:=DR h;have c:l[n]=q:=(ACv h).2;refine(b.perm o).trans ?_;have oq:=b.ok o q<|ACx h;rw[j3 a,Ch,c,J7<|by lia,B8<|by lia,Os,j2,h,G5];rw[ii];refine R8 _ ?_;have:=e.perm oq;refine(this.append_right<|(l.drop<|n+1).flatMap A_).trans ?_;simp only[jp,F6];exact aeo _ ww
theorem Jb.all(o:root.Be)(b:Jb root l.length l):(Fo [] root).Perm l:=by
 have:=b.perm o;rwa [im,J0,SL,j9]at this
end Ak
section
variable [BW K]
structure HG(G H:Hp)(v:V)(q:List Key×Ak):Prop where
 at_:∃(e tp:Addr)(nv:V),v=.ref e/\H e=ι (.tup [.ref tp,nv])/\H tp=ι (.tup (q.1.map kV))/\Val G nv q.2.pt
theorem HG.up(h:HG G H v q)(s:∀b xs,H b=ι (.tup xs)->H' b=ι (.tup xs)):HG G H' v q:=by
 obtain⟨e,a,c,d,f,g,i⟩:=h.at_;exact⟨⟨e,a,c,d,s _ _ f,s _ _ g,i⟩⟩
theorem Oz(h:Paired (HG (K:=K) G H) c d)(s:∀b a,H b=ι (.tup a)->e b=ι (.tup a)):Paired (HG (K:=K) G e) c d:=by
 induction h with
 |nil=>exact .nil
 |cons h t f=>exact .cons (h.up s) f
theorem RD(h:Paired (HG (K:=K) G H) a e)(g:Paired (HG (K:=K) G H) fs c):Paired (HG (K:=K) G H) (a++fs) (e++c):=by
 induction h with
 |nil=>exact g
 |cons h t d=>exact .cons h d
inductive iQ(vs:List V)(H:Hp)(Q:VK):Prop
 |mk(G:Hp)(v:V)(q:List Key×Ak)(b:vs=[v])(c:Dl G H)(d:HG (K:=K) G H v q)(e:q.2.Be)(f:q.2.wt<=900)(a:q.1.length<=100)(g:∀(p:Addr) (es:List V) (qs:List (List Key×Ak)) (H':Hp),AF H H'->H p=ν->H' p=ι (.lst es)->Ak.Ent q.1 q.2 qs->Paired (HG (K:=K) G H') es qs->Q (.ref p) H')
theorem GU(h:Paired (HG (K:=K) G H) a e):a.length=e.length/\∀{i:Nat}{x:V},a[i]?=ι x->∃q,e[i]?=ι q/\HG (K:=K) G H x q:=by
 induction h with
 |nil=>exact⟨rfl,λh=>by simp at h⟩
 |cons h t c=>
  refine⟨by rw[g6,g6,c.1],λ{i x} d=>?_⟩;cases i with
  |zero=>cases d;exact⟨_,rfl,h⟩
  |succ i=>exact c.2 (by simpa using d)
inductive ZY(b:Addr)(vs:List V)(H:Hp)(Q:VK):Prop
 |mk(G:Hp)(v:V)(a:Ak)(c:vs=[v,.ref b])(d:Dl G H)(e:HG (K:=K) G H v ([],a))(f:a.Be)(g:a.wt<=900)(h:a.deep<=60)(i:∀(p:Addr) (es:List V) (l:List (List Key×Ak)) (H':Hp),AF H H'->H p=ν->H' p=ι (.lst es)->Paired (HG (K:=K) G H') es l->Ak.Jb a l.length l->l.length<=a.wt->(∀q∈l,q.2.Be/\q.2.wt<=900/\q.1.length+q.2.deep<=60)->Q (.ref p) H')
def U'(a:Addr):Sp:=λb H Q _=>ZY (K:=K) a b H Q
def eM:Sp:=λa H Q _=>iQ (K:=K) a H Q
end
namespace Pt
theorem RE:∀{a c:List Pt},Ed (a++c)=Ed a++Ed c
 |[],_=>rfl
 |x::r,c=>by simp only[jp,Ed,RE (a:=r),ii]
theorem Gs{xs:List Pt}{b:Pt}(h:xs[i]?=ι b):Ed (xs.take (i+1))=Ed (xs.take i)++b.PV:=by
 rw[j2,h,RE];simp only[G5,Ed,j9]
mutual
theorem cJ:∀t:Pt,t.doc->t.PV.length+1<=t.size
 |int _,_=>bn _
 |str _,_=>bn _
 |bl _,d=>by simp[doc]at d
 |BB,d=>by simp[doc]at d
 |tup _,d=>by simp[doc]at d
 |lst xs,d=>by
  simp only[doc]at d;have:=GV xs d;simp only[PV,size];lia
 |BV a xs,d=>by
  simp only[doc]at d;have b:=d.1;have:=GV xs d.2.2.2.2;simp only[PV,size,b8];lia
theorem GV:∀xs:List Pt,CF xs->(Ed xs).length+xs.length<=AI xs
 |[],_=>d9 _
 |x::r,d=>by
  simp only[CF]at d;have a:=cJ x d.1;have b:=GV r d.2;have c:=size_pos x;simp only[Ed,AI,b8,g6];lia
end
end Pt
namespace Ak
mutual
noncomputable def HP:Ak->List Str
 |any=>[]
 |Ao d=>d.PV
 |row xs _=>EJ xs
 |tab ks xs ls _=>ks++ls++EJ xs
noncomputable def EJ:List Ak->List Str
 |[]=>[]
 |x::r=>HP x++EJ r
end
theorem RF:∀{a c:List Ak},EJ (a++c)=EJ a++EJ c
 |[],_=>rfl
 |x::r,c=>by simp only[jp,EJ,RF (a:=r),ii]
theorem Gu(h:xs[i]?=ι b):EJ (xs.take (i+1))=EJ (xs.take i)++b.HP:=by
 rw[j2,h,RF];simp only[G5,EJ,j9]
end Ak
section
variable [BW K]
inductive ZZ(n:Nat)(vs:List V)(H:Hp)(Q:VK):Prop
 |mk(v:V)(a:Ak)(c:vs=[v])(d:Val H v a.pt)(e:a.Be)(b:a.ER)(f:a.wt<=900)(g:a.dp<=n)(h:∀(p:Addr) (H':Hp),AF H H'->H p=ν->H' p=ι (.lst (a.HP.map V.str))->a.HP.length<=5*a.wt->Q (.ref p) H')
def Kj(n:Nat):Sp:=λa H Q _=>ZZ (K:=K) n a H Q
end
theorem Za{a:Type}{ks:List Str}{xs:List a}{k:Str}(h:k∉ks):lk ks xs k=none:=by
 cases e:lk ks xs k with
 |none=>rfl
 |some x=>exact absurd (JS e).1 h
namespace Ak
mutual
inductive One:Ak->Pt->List Int->List Key->Key->Int->Prop
 |qu {xs:List Ak} {ys:List Pt} {fs:List (List Int)} {i:Int} (h:Cv xs ys fs):One (row xs true) (.lst (ys++[.int i])) fs.flatten [] (.inl (xs.length:Int)) i
 |qv {ks ls ss:List Str} {xs as:List Ak} {ys:List Pt} {fs:List (List Int)} {i:Int} {n:Str} (pm:ss.Perm ks) (e:ss.map (lk ks xs)=as.map ι) (h:Cv as ys fs) (a:n∉ks) (hl:n∉ls) (b:CS n=true):One (tab ks xs ls true) (.BV (ss++[n]) (ys++[.int i])) fs.flatten [] (.inr n) i
 |qw {xs:List Ak} {m:Bool} {ys:List Pt} {fs:List (List Int)} {j:Nat} {p:List Key} {k:Key} {i:Int} (h:QG xs ys fs j p k i):One (row xs m) (.lst ys) fs.flatten (.inl (j:Int)::p) k i
 |tabI {ks ls ss:List Str} {xs as:List Ak} {m:Bool} {ys:List Pt} {fs:List (List Int)} {j:Nat} {n:Str} {p:List Key} {k:Key} {i:Int} (pm:ss.Perm ks) (e:ss.map (lk ks xs)=as.map ι) (h:QG as ys fs j p k i) (c:ss[j]?=ι n):One (tab ks xs ls m) (.BV ss ys) fs.flatten (.inr n::p) k i
inductive QG:List Ak->List Pt->List (List Int)->Nat->List Key->Key->Int->Prop
 |here {a:Ak} {as:List Ak} {y:Pt} {ys:List Pt} {f:List Int} {fs:List (List Int)} {p:List Key} {k:Key} {i:Int} (h:One a y f p k i) (t:Cv as ys fs):QG (a::as) (y::ys) (f::fs) 0 p k i
 |there {a:Ak} {as:List Ak} {y:Pt} {ys:List Pt} {f:List Int} {fs:List (List Int)} {j:Nat} {p:List Key} {k:Key} {i:Int} (h:NQ a y f) (t:QG as ys fs j p k i):QG (a::as) (y::ys) (f::fs) (j+1) p k i
end
structure vQ(a:Ak)(b:Pt):Prop where
 doc:b.doc
 txt:b.txt
 size:b.size=a.wt+1
 deep:b.deep<=a.dp+1
theorem Ls(ys:List Pt)(i:Int):Pt.AI (ys++[.int i])=Pt.AI ys+1:=by rw[Pt.DX];rfl
theorem Lu(ys:List Pt)(i:Int):Pt.AR (ys++[.int i])=max (Pt.AR ys) 1:=by rw[Pt.Gp];rfl
theorem NX{ys:List Pt}{i:Int}(h:Pt.LY ys):Pt.LY (ys++[.int i]):=Pt.US λx a=>by
 rcases db.mp a with a|a
 ·exact Pt.Et h x a
 ·rw[bi.mp a];trivial
theorem One.is(h:One a P f p k R):a.Be->a.ER->vQ a P:=by
 refine @One.rec (λa P _ _ _ _ _=>a.Be->a.ER->vQ a P) (λc d _ _ _ _ _ _=>(∀a∈c,a.Be)->(∀a∈c,a.ER)->Pt.CF d/\Pt.LY d/\Pt.AI d=DU c+1/\Pt.AR d<=KH c+1/\d.length=c.length) ?_ ?_ ?_ ?_ ?_ ?_ _ _ _ _ _ _ h
 ·intro C d fs R h o w;simp only[Be]at o;simp only[ER]at w;obtain⟨g,l,A,B⟩:=h.is (Ap o)<|DL w;exact⟨Pt.GS g ⟨trivial,trivial⟩,NX l,by simp only[Pt.size,wt,Ls];lia,by simp only[Pt.deep,dp,Lu];lia⟩
 ·intro H ls D C c d fs R n q e h r M I o w;simp only[Be]at o;simp only[ER]at w;have s:=CD o.1 o.2.1 q e;have E:c.length=D.length:=by have:=congrArg pp e;simpa using this.symm
  obtain⟨g,l,A,B⟩:=h.is (λx u=>Ap o.2.2.2.2.2.2 x<|s.mem_iff.mp u) (λx u=>DL w.2 x<|s.mem_iff.mp u);have l2:=h.len;have N:=q.length_eq;refine⟨⟨by simp;lia,OH (q.nodup_iff.mpr o.2.1) λz=>r<|q.mem_iff.mp z,λk r=>?_,by simp;lia,Pt.GS g ⟨trivial,trivial⟩⟩,NX l,?_,?_⟩
  ·rcases db.mp r with r|r
   ·exact o.2.2.1 k<|q.mem_iff.mp r
   ·rw[bi.mp r];exact I
  ·simp only[Pt.size,wt,Ls];rw[<-GO s];lia
  ·simp only[Pt.deep,dp,Lu];rw[<-Lc s];lia
 ·intro C m d fs j p k R _ h o w;simp only[Be]at o;simp only[ER]at w;obtain⟨g,l,A,B,_⟩:=h (Ap o)<|DL w;exact⟨g,l,by simp only[Pt.size,wt];lia,by simp only[Pt.deep,dp];lia⟩
 ·intro H ls D C c m d fs j n p k R q e _ O h o w;simp only[Be]at o;simp only[ER]at w;have s:=CD o.1 o.2.1 q e;have E:c.length=D.length:=by have:=congrArg pp e;simpa using this.symm
  obtain⟨g,l,A,B,l2⟩:=h (λx u=>Ap o.2.2.2.2.2.2 x<|s.mem_iff.mp u) (λx u=>DL w.2 x<|s.mem_iff.mp u);refine⟨⟨by lia,q.nodup_iff.mpr o.2.1,λk r=>o.2.2.1 k<|q.mem_iff.mp r,by rw[q.length_eq];lia,g⟩,l,?_,?_⟩
  ·simp only[Pt.size,wt];rw[<-GO s];lia
  ·simp only[Pt.deep,dp];rw[<-Lc s];lia
 ·intro a c y d f fs p k R _ t h o w;obtain⟨F,G,J,K⟩:=h (o _ dL)<|w _ dL;obtain⟨g,l,A,B⟩:=t.is (λa v=>o a<|b9 _ v) (λa v=>w a<|b9 _ v);exact⟨⟨F,g⟩,⟨G,l⟩,by simp only[Pt.AI,DU];lia,by simp only[Pt.AR,KH];lia,by simp[t.len]⟩
 ·intro a c y d f fs j p k R h _ t o w;obtain⟨F,G,J,K⟩:=h.is (o _ dL)<|w _ dL;obtain⟨g,l,A,B,L⟩:=t (λa v=>o a<|b9 _ v) (λa v=>w a<|b9 _ v);exact⟨⟨F,g⟩,⟨G,l⟩,by simp only[Pt.AI,DU];lia,by simp only[Pt.AR,KH];lia,by simp[L]⟩
inductive So:Ak->Pt->Prop
 |any (t:Pt):So any t
 |Ao (d:Pt):So (Ao d) d
 |row {xs:List Ak} {m:Bool} {ys:List Pt} (l:xs.length<=ys.length) (c:ys.length=xs.length∨m=true) (h:∀(j:Nat) x y,xs[j]?=ι x->ys[j]?=ι y->So x y):So (row xs m) (.lst ys)
 |tab {ks ls ns os:List Str} {xs:List Ak} {m:Bool} {ys:List Pt} (a:∀k∈ks,k∈ns) (b:(ns.filter λn=> !decide (n∈ks))=os) (l:∀n∈os,n∉ls) (c:os=[]∨m=true) (e:ns.length=os.length+ks.length) (h:∀(j:Nat) n x y,ns[j]?=ι n->ys[j]?=ι y->lk ks xs n=ι x->So x y):So (tab ks xs ls m) (.BV ns ys)
theorem lM{ks ss os:List Str}(pm:ss.Perm ks)(b:∀n∈os,n∉ks):((ss++os).filter λn=> !decide (n∈ks))=os:=by
 rw[E6,R3.mpr λn a=>by simp[pm.mem_iff.mp a],F6];exact abg.mpr λn a=>by simp[b n a]
theorem Zb{ks ls ss os:List Str}{as:List Ak}{m:Bool}{ys zs:List Pt}(pm:ss.Perm ks)(e:ss.map (lk ks xs)=as.map ι)(o:ys.length=as.length)(h:∀(j:Nat) x y,as[j]?=ι x->ys[j]?=ι y->So x y)(f:∀n∈os,n∉ks)(nl:∀n∈os,n∉ls)(c:os=[]∨m=true):So (tab ks xs ls m) (.BV (ss++os) (ys++zs)):=by
 have b:=congrArg pp e;simp only[ap]at b;refine .tab (λk l=>e9 _<|pm.mem_iff.mpr l) (lM pm f) nl c (by rw[b8,pm.length_eq];lia) λj n x y a g i=>?_;by_cases z:j<ss.length
 ·rw[g9 z]at a;rw[g9<|by lia]at g;have:=congrArg (λz=>z[j]?) e;simp only[bv,a,A7,i]at this;cases d:as[j]? with
  |none=>rw[d]at this;cases this
  |some w=>rw[d]at this;cases this;exact h j x y d g
 ·rw[jc<|by lia]at a;exact absurd (JS i).1<|f n<|ACx a
def aM(as:List Ak)(ys:List Pt):Prop:=ys.length=as.length/\∀(j:Nat) x y,as[j]?=ι x->ys[j]?=ι y->So x y
theorem aM.cons(h:So a y)(t:aM as ys):aM (a::as) (y::ys):=⟨by simp[t.1],λj x y b c=>by
 cases j with
 |zero=>cases b;cases c;exact h
 |succ j=>exact t.2 j x y (by simpa using b) (by simpa using c)⟩
theorem aM.row(h:aM a ys):So (row a m) (.lst ys):=.row (by rw[h.1];exact bn _) (.inl h.1) h.2
theorem aM.tab(pm:ss.Perm ks)(e:ss.map (lk ks a)=as.map ι)(h:aM as ys):So (tab ks a ls m) (.BV ss ys):=by
 have:=Zb (os:=[]) (zs:=[]) (m:=m) (ls:=ls) pm e h.1 h.2 (λ_ z=>nomatch z) (λ_ z=>nomatch z)<|.inl rfl;rw[j9,j9]at this;exact this
theorem Cv.so(h:Cv as ys fs):aM as ys:=@Cv.rec (λa b _ _=>So a b) (λas ys _ _=>aM as ys) (λ_=>.any _) .Ao (λ_ h=>h.row) (λc _ e _ h=>h.tab c e) ⟨rfl,λ_ _ _ z=>nomatch z⟩ (λ_ _ h t=>.cons h t) _ _ _ h
theorem NQ.so(h:NQ a c f):So a c:=(Cv.cons h .nil).so.2 0 _ _ rfl rfl
theorem One.so(h:One a v f p k w):So a v:=by
 refine @One.rec (λa v _ _ _ _ _=>So a v) (λo g _ _ _ _ _ _=>aM o g) ?_ ?_ (λ_ h=>h.row) (λc e _ _ h=>h.tab c e) (λ_ t h=>.cons h t.so) (λh _ t=>.cons h.so t) _ _ _ _ _ _ h
 ·intro s g fs w h;have l:=h.len;refine .row (by simp;lia) (.inr rfl) λj x y m n=>?_;have:=DR m;rw[g9<|by lia]at n;exact h.so.2 j x y m n
 ·exact λc e h q r u=>Zb c e h.len h.so.2 (λz d=>by rw[bi.mp d];exact q) (λz d=>by rw[bi.mp d];exact r)<|.inr rfl
mutual
noncomputable def KL:Ak->Pt->List Pt
 |any,t=>[t]
 |Ao _,_=>[]
 |row xs _,t=>match t with| .lst ys=>EK xs ys|_=>[]
 |tab ks xs _ _,t=>match t with| .BV ns ys=>Ff ks xs ns ys|_=>[]
termination_by structural _ t=>t
noncomputable def EK:List Ak->List Pt->List Pt
 |x::xs,y::ys=>KL x y++EK xs ys
 |[],y::ys=>y::EK [] ys
 |_,[]=>[]
termination_by structural _ ys=>ys
noncomputable def Ff(ks:List Str)(xs:List Ak):List Str->List Pt->List Pt
 |n::ns,y::ys=>(match lk ks xs n with|some x=>KL x y|none=>[y])++Ff ks xs ns ys
 |_,_=>[]
termination_by structural _ ys=>ys
end
theorem VA(t:Pt):KL any t=[t]:=by simp only[KL]
theorem RG(d t:Pt):KL (Ao d) t=[]:=by simp only[KL]
theorem Jc:∀{xs:List Ak}{ys:List Pt}{i:Nat}{y:Pt},ys[i]?=ι y->EK xs (ys.take (i+1))=EK xs (ys.take i)++(match xs[i]? with|some x=>KL x y|none=>[y])
 |_,[],_,_=>λh=>by simp at h
 |[],y::ys,0,_=>λh=>by cases h;simp[EK]
 |x::xs,y::ys,0,_=>λh=>by cases h;simp[EK]
 |[],y::ys,i+1,_=>λh=>by
  have:=Jc (xs:=[]) (ys:=ys) (i:=i) (by simpa using h);simp only[n5,EK,this,jp,X3]
 |x::xs,y::ys,i+1,_=>λh=>by
  have:=Jc (xs:=xs) (ys:=ys) (i:=i) (by simpa using h);simp only[n5,EK,this,ii,J2]
theorem NY{ks:List Str}{xs:List Ak}:∀{ss:List Str}{ys:List Pt}{i:Nat}{n:Str}{y:Pt},ss[i]?=ι n->ys[i]?=ι y->Ff ks xs (ss.take (i+1)) (ys.take (i+1))=Ff ks xs (ss.take i) (ys.take i)++(match lk ks xs n with|some x=>KL x y|none=>[y])
 |[],_,_,_,_=>λh=>by simp at h
 |_::_,[],_,_,_=>λ_ h=>by simp at h
 |s::ss,y::ys,0,_,_=>λh g=>by cases h;cases g;simp[Ff]
 |s::ss,y::ys,i+1,_,_=>λh g=>by
  have:=NY (ks:=ks) (xs:=xs) (ss:=ss) (ys:=ys) (i:=i) (by simpa using h) (by simpa using g);simp only[n5,Ff,this,ii]
theorem Na:∀{as:List Ak}{ys:List Pt}{z:Pt},ys.length=as.length->EK as (ys++[z])=EK as ys++[z]
 |[],[],z,_=>by simp[EK]
 |[],_::_,_,h=>by simp at h
 |_::_,[],_,h=>by simp at h
 |a::as,y::ys,z,h=>by
  have:=Na (as:=as) (ys:=ys) (z:=z) (by simpa using h);simp only[jp,EK,this,ii]
theorem Nb{ks:List Str}{xs:List Ak}{n:Str}{z:Pt}(a:n∉ks):∀{ss:List Str}{ys:List Pt},ss.length=ys.length->Ff ks xs (ss++[n]) (ys++[z])=Ff ks xs ss ys++[z]
 |[],[]=>λ_=>by simp[Ff,Za a]
 |[],_::_=>λh=>by simp at h
 |_::_,[]=>λh=>by simp at h
 |s::ss,y::ys=>λh=>by
  have:=Nb (xs:=xs) (z:=z) a (ss:=ss) (ys:=ys) (by simpa using h);simp only[jp,Ff,this,ii]
noncomputable def FC(kn:List Str):Key->Key
 | .inl j=>.inl j
 | .inr n=>.inr (if n∈kn then n else "")
mutual
noncomputable def more(kn:List Str):Ak->Pt->List Key->List (List Key×Key)
 |row xs _,t,p=>match t with| .lst ys=>Cd kn xs ys p 0|_=>[]
 |tab ks xs _ _,t,p=>match t with| .BV ns ys=>Cz kn ks xs ns ys p|_=>[]
 |_,_,_=>[]
termination_by structural _ t=>t
noncomputable def Cd(kn:List Str):List Ak->List Pt->List Key->Nat->List (List Key×Key)
 |x::xs,y::ys,p,j=>more kn x y (p++[.inl (j:Int)])++Cd kn xs ys p (j+1)
 |[],y::ys,p,j=>(p,.inl (j:Int))::Cd kn [] ys p (j+1)
 |_,[],_,_=>[]
termination_by structural _ ys=>ys
noncomputable def Cz(kn:List Str)(ks:List Str)(xs:List Ak):List Str->List Pt->List Key->List (List Key×Key)
 |n::ns,y::ys,p=>(match lk ks xs n with|some x=>more kn x y (p++[.inr n])|none=>[(p,FC kn (.inr n))])++Cz kn ks xs ns ys p
 |_,_,_=>[]
termination_by structural _ ys=>ys
end
theorem Lw(kn:List Str)(t:Pt)(p:List Key):more kn any t p=[]:=by simp only[more]
theorem Jd(kn:List Str)(d t:Pt)(p:List Key):more kn (Ao d) t p=[]:=by simp only[more]
theorem Hz{kn:List Str}{p:List Key}:∀{xs:List Ak}{ys:List Pt}{i j:Nat}{y:Pt},ys[i]?=ι y->Cd kn xs (ys.take (i+1)) p j=Cd kn xs (ys.take i) p j++(match xs[i]? with|some x=>more kn x y (p++[.inl ((j+i:Nat):Int)])|none=>[(p,.inl ((j+i:Nat):Int))])
 |_,[],_,_,_=>λh=>by simp at h
 |[],y::ys,0,_,_=>λh=>by cases h;simp[Cd]
 |x::xs,y::ys,0,_,_=>λh=>by cases h;simp[Cd]
 |[],y::ys,i+1,j,_=>λh=>by
  have:=Hz (kn:=kn) (p:=p) (xs:=[]) (ys:=ys) (i:=i) (j:=j+1) (by simpa using h);rw[show j+1+i=j+(i+1)by lia]at this;simp only[n5,Cd,this,jp,X3]
 |x::xs,y::ys,i+1,j,_=>λh=>by
  have:=Hz (kn:=kn) (p:=p) (xs:=xs) (ys:=ys) (i:=i) (j:=j+1) (by simpa using h);rw[show j+1+i=j+(i+1)by lia]at this;simp only[n5,Cd,this,ii,J2]
theorem Lx{kn ks:List Str}{xs:List Ak}{p:List Key}:∀{ss:List Str}{ys:List Pt}{i:Nat}{n:Str}{y:Pt},ss[i]?=ι n->ys[i]?=ι y->Cz kn ks xs (ss.take (i+1)) (ys.take (i+1)) p=Cz kn ks xs (ss.take i) (ys.take i) p++(match lk ks xs n with|some x=>more kn x y (p++[.inr n])|none=>[(p,FC kn (.inr n))])
 |[],_,_,_,_=>λh=>by simp at h
 |_::_,[],_,_,_=>λ_ h=>by simp at h
 |s::ss,y::ys,0,_,_=>λh g=>by cases h;cases g;simp[Cz]
 |s::ss,y::ys,i+1,_,_=>λh g=>by
  have:=Lx (kn:=kn) (ks:=ks) (xs:=xs) (p:=p) (ss:=ss) (ys:=ys) (i:=i) (by simpa using h) (by simpa using g);simp only[n5,Cz,this,ii]
theorem Ly{kn:List Str}{p:List Key}:∀{as:List Ak}{ys:List Pt}{z:Pt}{j:Nat},ys.length=as.length->Cd kn as (ys++[z]) p j=Cd kn as ys p j++[(p,.inl ((j+as.length:Nat):Int))]
 |[],[],z,_,_=>by simp[Cd]
 |[],_::_,_,_,h=>by simp at h
 |_::_,[],_,_,h=>by simp at h
 |a::as,y::ys,z,j,h=>by
  have:=Ly (kn:=kn) (p:=p) (as:=as) (ys:=ys) (z:=z) (j:=j+1) (by simpa using h);rw[show j+1+as.length=j+(as.length+1)by lia]at this;simp only[jp,Cd,this,ii,g6]
theorem Lz{kn ks:List Str}{xs:List Ak}{n:Str}{z:Pt}{p:List Key}(a:n∉ks):∀{ss:List Str}{ys:List Pt},ss.length=ys.length->Cz kn ks xs (ss++[n]) (ys++[z]) p=Cz kn ks xs ss ys p++[(p,FC kn (.inr n))]
 |[],[]=>λ_=>by simp[Cz,Za a]
 |[],_::_=>λh=>by simp at h
 |_::_,[]=>λh=>by simp at h
 |s::ss,y::ys=>λh=>by
  have:=Lz (kn:=kn) (xs:=xs) (z:=z) (p:=p) a (ss:=ss) (ys:=ys) (by simpa using h);simp only[jp,Cz,this,ii]
theorem Cv.fm(h:Cv as ys fs)(kn:List Str):(EK as ys).Perm (fs.flatten.map Pt.int)/\(∀q j,Cd kn as ys q j=[])/\∀(ks:List Str)(xs:List Ak)(ss:List Str),ss.map (lk ks xs)=as.map ι->(Ff ks xs ss ys).Perm (fs.flatten.map Pt.int)/\∀q,Cz kn ks xs ss ys q=[]:=by
 refine @Cv.rec (λa b f _=>(KL a b).Perm (f.map Pt.int)/\∀q,more kn a b q=[]) (λas ys fs _=>(EK as ys).Perm (fs.flatten.map Pt.int)/\(∀q j,Cd kn as ys q j=[])/\∀(ks:List Str)(xs:List Ak)(ss:List Str),ss.map (lk ks xs)=as.map ι->(Ff ks xs ss ys).Perm (fs.flatten.map Pt.int)/\∀q,Cz kn ks xs ss ys q=[]) (λi=>?_) (λd=>?_) (λ_ t=>?_) (λc _ e _ t=>?_) ?_ (λ_ _ h t=>?_) _ _ _ h
 ·exact⟨by rw[VA];exact .refl _,λ_=>Lw ..⟩
 ·exact⟨by rw[RG];exact .refl _,λ_=>Jd ..⟩
 ·simp only[KL,more];exact⟨t.1,λq=>t.2.1 q 0⟩
 ·simp only[KL,more];exact t.2.2 _ _ _ e
 ·simp only[EK,Cd];refine⟨.refl _,λ_ _=>trivial,λks xs ss e=>?_⟩;cases ss with
  |nil=>simp only[Ff,Cz];exact⟨.refl _,λ_=>trivial⟩
  |cons n r=>simp at e
 ·simp only[EK,Cd,v0,io];refine⟨h.1.append t.1,λq j=>by rw[h.2,t.2.1];rfl,λks xs ss e=>?_⟩;cases ss with
  |nil=>simp at e
  |cons n r=>
   simp only[ge,u3]at e;simp only[Ff,Cz];rw[e.1];exact⟨h.1.append (t.2.2 ks xs r e.2).1,λq=>by simp only[h.2,(t.2.2 ks xs r e.2).2];rfl⟩
theorem NQ.fm(h:NQ a j f)(kn:List Str):(KL a j).Perm (f.map Pt.int)/\∀q,more kn a j q=[]:=by
 have t:=(Cv.cons h .nil).fm kn;simp only[EK,Cd,j9,v0,Z2]at t;refine⟨t.1,?_⟩;cases a with
 |any=>exact λ_=>Lw ..
 |Ao d=>exact λ_=>Jd ..
 |row c m=>cases h with|row h=>simp only[more];exact λq=>(h.fm kn).2.1 q 0
 |tab g c ls m=>cases h with|tab i so e h=>simp only[more];exact((h.fm kn).2.2 _ _ _ e).2
theorem One.fm(h:One a E f p k F)(kn:List Str):(KL a E).Perm (.int F::f.map Pt.int)/\∀q,more kn a E q=[(q++p,FC kn k)]:=by
 refine @One.rec (λa E f p k F _=>(KL a E).Perm (.int F::f.map Pt.int)/\∀q,more kn a E q=[(q++p,FC kn k)]) (λu o fs j p k F _=>(EK u o).Perm (.int F::fs.flatten.map Pt.int)/\(∀q m,Cd kn u o q m=[(q++.inl ((m+j:Nat):Int)::p,FC kn k)])/\∀(c:List Str)(d:List Ak)(g:List Str)(n:Str),g.map (lk c d)=u.map ι->g[j]?=ι n->(Ff c d g o).Perm (.int F::fs.flatten.map Pt.int)/\∀q,Cz kn c d g o q=[(q++.inr n::p,FC kn k)]) (λh=>?_) (λx e h w B C=>?_) (λ_ h=>?_) (λx e _ v h=>?_) ?_ ?_ _ _ _ _ _ _ h
 ·simp only[KL,more];rw[Na h.len];exact⟨((h.fm kn).1.append_right _).trans ww,λq=>by rw[Ly h.len,(h.fm kn).2.1,N0,j9];rfl⟩
 ·have l:=congrArg pp e;simp only[ap]at l;simp only[KL,more];rw[Nb w<|by rw[h.len];exact l];exact⟨(((h.fm kn).2.2 _ _ _ e).1.append_right _).trans ww,λq=>by rw[Lz w<|by rw[h.len];exact l,((h.fm kn).2.2 _ _ _ e).2,j9];rfl⟩
 ·simp only[KL,more];exact⟨h.1,λq=>by rw[h.2.1 q 0,N0]⟩
 ·simp only[KL,more];exact h.2.2 _ _ _ _ e v
 ·intro a u y o f fs p k F _ t h;simp only[EK,Cd,v0,io];refine⟨h.1.append (t.fm kn).1,λq m=>by rw[h.2,(t.fm kn).2.1,ii];rfl,λc d g n e v=>?_⟩;cases g with
  |nil=>simp at e
  |cons s r=>
   simp only[ge,u3]at e;cases v;simp only[Ff,Cz];rw[e.1];exact⟨h.1.append ((t.fm kn).2.2 c d r e.2).1,λq=>by simp only[h.2,((t.fm kn).2.2 c d r e.2).2];rw[ii];rfl⟩
 ·intro a u y o f fs j p k F h _ t;simp only[EK,Cd,v0,io];refine⟨((h.fm kn).1.append t.1).trans acy,λq m=>by rw[(h.fm kn).2,t.2.1,show m+1+j=m+(j+1)by lia];rfl,λc d g n e v=>?_⟩;cases g with
  |nil=>simp at e
  |cons s r=>
   simp only[ge,u3]at e;obtain⟨z,A⟩:=t.2.2 c d r n e.2 (by simpa using v);simp only[Ff,Cz];rw[e.1];exact⟨((h.fm kn).1.append z).trans acy,λq=>by simp only[(h.fm kn).2,A];rfl⟩
theorem One.KL(h:One a c f p k d):(KL a c).Perm ((d::f).map Pt.int):=(h.fm []).1
theorem One.more(kn:List Str)(h:One a c f p k d):∀q,more kn a c q=[(q++p,FC kn k)]:=(h.fm kn).2
end Ak
namespace Ak
def Iz(ns:List Str)(q:List Key×Ak):List (List Key×Key):=match q.2 with
 |row a true=>[(q.1,.inl (a.length:Int))]
 |tab b _ ls true=>(q.1,.inr "")::(ns.filter λn=>decide (n∉b)&&decide (n∉ls)).map λn=>(q.1,.inr n)
 |_=>[]
def iR(ns:List Str)(p:List Key)(a:Ak):List (List Key×Key):=(Fo p a).flatMap<|Iz ns
mutual
theorem O_:∀(a:Ak)(p:List Key),∀q∈Fo p a,∀n∈q.2.HP,n∈a.HP
 |any,p,q,b,n,c=>by rw[Fo,bi]at b;subst b;exact c
 |Ao d,p,q,b,n,c=>by rw[Fo,bi]at b;subst b;exact c
 |row xs m,p,q,b,n,c=>by
  rw[Fo]at b;rcases ca.mp b with rfl|b
  ·exact c
  ·simp only[HP];exact RH xs p 0 q b n c
 |tab ks xs ls m,p,q,b,n,c=>by
  rw[Fo]at b;rcases ca.mp b with rfl|b
  ·exact c
  ·simp only[HP];exact gl _<|RI xs p ks q b n c
theorem RH:∀(xs:List Ak)(p:List Key)(i:Nat),∀q∈Du p i xs,∀n∈q.2.HP,n∈EJ xs
 |[],_,_,q,a,_,_=>by simp[Du]at a
 |x::r,p,i,q,a,n,b=>by
  simp only[Du]at a;simp only[EJ];rcases db.mp a with a|a
  ·exact e9 _<|O_ x _ q a n b
  ·exact gl _<|RH r p _ q a n b
theorem RI:∀(xs:List Ak)(p:List Key)(ks:List Str),∀q∈Dv p ks xs,∀n∈q.2.HP,n∈EJ xs
 |[],_,ks,q,a,_,_=>by cases ks<;>simp[Dv]at a
 |x::r,p,[],q,a,n,b=>by simp[Dv]at a
 |x::r,p,k::ks,q,a,n,b=>by
  simp only[Dv]at a;simp only[EJ];rcases db.mp a with a|a
  ·exact e9 _<|O_ x _ q a n b
  ·exact gl _<|RI r p ks q a n b
end
theorem Zc(f:∀n∈ns,n∈kn)(c:w∉kn)(e:∀n∈q.2.HP,n∈kn):((fst (ns++[w]) q.2).map λk=>(q.1,FC kn k)).Perm (Iz ns q):=by
 obtain⟨p,a⟩:=q;cases a with
 |any=>exact .refl _
 |Ao d=>exact .refl _
 |row g m=>cases m<;>exact .refl _
 |tab b g ls m=>
  cases m with
  |false=>exact .refl _
  |true=>
   have h:w∉b:=λz=>c (e w<|by simp only[HP];exact e9 _<|e9 _ z);have i:w∉ls:=λz=>c (e w<|by simp only[HP];exact e9 _<|gl _ z);simp only[fst,Iz];rw[E6,io,io,o0,o0];have e1:((ns.filter λn=>decide (n∉b)&&decide (n∉ls)).map<|(λk=>(p,FC kn k))∘d0)=(ns.filter λn=>decide (n∉b)&&decide (n∉ls)).map λn=>(p,(d0 n:Key)):=by
    refine A4 λn j=>?_;simp only[Function.comp,FC,if_pos<|f n (C5.mp j).1]
   have l:([w].filter λn=>decide (n∉b)&&decide (n∉ls))=[w]:=by simp[h,i]
   rw[e1,l];simp only[ge,B2,Function.comp,FC,if_neg c];exact ww
theorem Nc{a b:Type}{f g:a->List b}:∀{l:List a},(∀x∈l,(f x).Perm (g x))->(l.flatMap f).Perm (l.flatMap g)
 |[],_=>.refl _
 |x::r,h=>by
  rw[Ch,Ch];exact(h x dL).append<|Nc λy c=>h y<|b9 _ c
theorem Zd(o:a.Be)(b:Jb a l.length l)(c:∀n∈ns,n∈kn)(d:w∉kn)(e:∀n∈a.HP,n∈kn): (l.flatMap λq=>(fst (ns++[w]) q.2).map λk=>(q.1,FC kn k)).Perm (iR ns [] a):=by
 have p:=b.all o;refine aem (Nc λq f=>Zc c d λn g=>e n<|O_ a [] q (p.mem_iff.mpr f) n g) ?_;exact p.symm.flatMap_right _
end Ak
namespace Dc
theorem Ze(h:d.tr=.lst ys):∃a b,d=row a b/\Mf b=ys:=by
 cases d with
 |leaf v=>cases v<;>simp[tr]at h
 |row a b=>simp only[tr,Pt.lst.injEq]at h;exact⟨a,b,rfl,h⟩
 |tab a c b=>simp[tr]at h
theorem Zf(h:d.tr=.BV ks ys):∃a b,d=tab a ks b/\Mf b=ys:=by
 cases d with
 |leaf v=>cases v<;>simp[tr]at h
 |row a b=>simp[tr]at h
 |tab a ls b=>simp only[tr,Pt.BV.injEq]at h;obtain⟨rfl,h⟩:=h;exact⟨a,b,rfl,h⟩
theorem cK(a:List Dc):(Mf a).length=a.length:=by rw[Cj,ap]
theorem VB(a:List Dc)(j:Nat)(x:Dc):Mf (a.set j x)=(Mf a).set j x.tr:=by rw[Cj,Cj,List.map_set]
theorem VC(a b:List Dc):Mf (a++b)=Mf a++Mf b:=by rw[Cj,Cj,Cj,io]
end Dc
namespace Ak
def iS(ns:List Str)(a:Ak)(b:Pt)(f:List Int):Prop:=∀(c:List Key)(q:List Key×Ak),q∈Fo c a->∃r,q.1=c++r/\∀k∈fst ns q.2,∀(i:Int)(d:Dc),d.tr=b->d.Wf->∃e,d.sub (r.map kV)=ι e/\e.room (kV k)=true/\One a (d.FQ (r.map kV)<|e.Gy (kV k)<|.leaf<|.int i).tr f r k i
theorem Cv.one(h:Cv as ys fs):∀{j:Nat}{n:Pt}{r:List Key}{k:Key}{o:Int},j<as.length->(∀a y f,as[j]?=ι a->ys[j]?=ι y->fs[j]?=ι f->One a n f r k o)->QG as (ys.set j n) fs j r k o:=@Cv.rec (λ_ _ _ _=>True) (λas ys fs _=>∀{j:Nat}{n:Pt}{r:List Key}{k:Key}{o:Int},j<as.length->(∀a y f,as[j]?=ι a->ys[j]?=ι y->fs[j]?=ι f->One a n f r k o)->QG as (ys.set j n) fs j r k o) (λ_=>trivial) (λ_=>trivial) (λ_ _=>trivial) (λ_ _ _ _ _=>trivial) (λh=>absurd h (F1 _)) (λh t _ c j _ _ _ _ d g=>by
 cases j with
 |zero=>exact .here (g _ _ _ rfl rfl rfl) t
 |succ j=>exact .there h (c (by simpa using d) λa y f e l m=>g a y f (by simpa using e) (by simpa using l) (by simpa using m))) _ _ _ h
theorem RJ:∀{xs:List Ak}{i:Nat},q∈Du p i xs->∃j x,xs[j]?=ι x/\q∈Fo (p++[.inl ((i+j:Nat):Int)]) x
 |[],_,h=>by simp[Du]at h
 |x::r,i,h=>by
  simp only[Du]at h;rcases db.mp h with h|h
  ·exact⟨0,x,rfl,h⟩
  ·obtain⟨j,y,a,b⟩:=RJ h;exact⟨j+1,y,by simpa using a,by rw[show i+(j+1)=i+1+j by lia];exact b⟩
theorem RK:∀{ks:List Str}{xs:List Ak},ks.Nodup->q∈Dv p ks xs->∃n x,lk ks xs n=ι x/\q∈Fo (p++[.inr n]) x
 |[],_,_,h=>by simp[Dv]at h
 |_::_,[],_,h=>by simp[Dv]at h
 |k::ks,x::xs,nd,h=>by
  obtain⟨b,c⟩:=j0.mp nd;simp only[Dv]at h;rcases db.mp h with h|h
  ·exact⟨k,x,by rw[EW,if_pos rfl],h⟩
  ·obtain⟨n,y,a,d⟩:=RK c h;exact⟨n,y,by rw[EW,if_neg λz=>b<|by rw[<-z];exact(JS a).1];exact a,d⟩
theorem Cv.lO(h:Cv as ys fs):fs.length=as.length:=h.lI.2
theorem RL(h:(∃d,a=Ao d)∨a=any):fst ns a=[]:=by rcases h with⟨d,rfl⟩|rfl<;>rfl
theorem NQ.put(R:∀n∈ns,CS n=true)(h:NQ a q1 f):a.Be->iS ns a q1 f:=by
 refine @NQ.rec (λa q1 f _=>a.Be->iS ns a q1 f) (λE J fs _=>(∀a∈E,a.Be)->∀(j:Nat) a y f,E[j]?=ι a->J[j]?=ι y->fs[j]?=ι f->iS ns a y f) (λi _ K q l=>?_) (λd _ K q l=>?_) ?_ ?_ (λ_ _ _ _ _ h=>nomatch h) (λ_ _ h t o j a y f v C A=>?_) _ _ _ h
 ·rw[Fo,bi]at l;subst l;exact⟨[],by simp,λk p=>by rw[RL<|.inr rfl]at p;cases p⟩
 ·rw[Fo,bi]at l;subst l;exact⟨[],by simp,λk p=>by rw[RL<|.inl ⟨d,rfl⟩]at p;cases p⟩
 ·intro S m J fs h T o K q l;simp only[Be]at o;rw[Fo]at l;rcases ca.mp l with rfl|l
  ·refine⟨[],by simp,λk p i d D L=>?_⟩;cases m with
   |false=>simp[fst]at p
   |true=>
    rw[show fst ns (Ak.row S true)=[.inl (S.length:Int)]from rfl,bi]at p;subst p;obtain⟨U,F,rfl,rfl⟩:=Dc.Ze D;have G:=h.len;rw[Dc.cK]at G;refine⟨_,Dc.DI _,?_,?_⟩
    ·simp only[Dc.room,kV,G];simp
    ·show One _ (Dc.Gy _ _ _).tr _ _ _ _;simp only[Dc.Gy,kV,Dc.tr,pc,<-G,im,J0,Dc.VC];rw[G];exact .qu h
  ·obtain⟨j,x,H,l⟩:=RJ l;rw[N0]at l;have I:=DR H;have G:=h.len;have lf:=h.lO;obtain⟨y,s⟩:=B' J j (by lia);obtain⟨W,M⟩:=B' fs j (by lia);obtain⟨r,X,g⟩:=T (Ap o) j x y W H s M (K++[.inl (j:Int)]) q l;refine⟨.inl (j:Int)::r,by rw[X,ii];rfl,λk p i d D L=>?_⟩;obtain⟨U,F,rfl,rfl⟩:=Dc.Ze D;rw[Dc.Cj,bv]at s;cases c:F[j]? with
   |none=>rw[c]at s;cases s
   |some B=>
    rw[c]at s;have ty:B.tr=y:=ACw s;have N:B.Wf:=by cases L with|row N=>exact N B<|ACx c
    obtain⟨e,Y,Z,g3⟩:=g k p i B ty N;refine⟨e,(Dc.UN c _).trans Y,Z,?_⟩;rw[ge,show kV (.inl (j:Int))=V.int (j:Int)from rfl,Dc.IY c];simp only[Dc.tr,Dc.VB];exact .qw<|h.one I λa y' f v C A=>by rw[H]at v;cases v;rw[M]at A;cases A;exact g3
 ·intro ks ls u S E m J fs O so e h T o K q l;simp only[Be]at o;have pa:=CD o.1 o.2.1 O e;have qx:E.length=u.length:=by have:=congrArg pp e;simpa using this.symm
  have G:=h.len;have lf:=h.lO;rw[Fo]at l;rcases ca.mp l with rfl|l
  ·refine⟨[],by simp,λk p i d D L=>?_⟩;cases m with
   |false=>simp[fst]at p
   |true=>
    simp only[fst]at p;obtain⟨n,hn,rfl⟩:=m7.mp p;obtain⟨n1,Q⟩:=C5.mp hn;simp only[kt,decide_eq_true_eq]at Q;obtain⟨U,F,rfl,rfl⟩:=Dc.Zf D;refine⟨_,Dc.DI _,?_,?_⟩
    ·have:n∉u:=λz=>Q.1<|O.mem_iff.mp z;simp[Dc.room,kV,this]
    ·show One _ (Dc.Gy _ _ _).tr _ _ _ _;simp only[Dc.Gy,kV,Dc.tr,Dc.VC];exact .qv O e h Q.1 Q.2<|R n n1
  ·obtain⟨n,x,H,l⟩:=RK o.2.1 l;have hn:=O.mem_iff.mpr (JS H).1;have I:=Dc.YQ hn;have hj':=DR I;have P:E[Dc.ix u n]?=ι x:=by
    have:=congrArg (λz=>z[Dc.ix u n]?) e;simp only[bv,I,A7,H]at this;cases C:E[Dc.ix u n]? with
    |none=>rw[C]at this;cases this
    |some w=>rw[C]at this;cases this;rfl
   obtain⟨y,s⟩:=B' J (Dc.ix u n) (by lia);obtain⟨W,M⟩:=B' fs (Dc.ix u n) (by lia);obtain⟨r,X,g⟩:=T (λa ha=>Ap o.2.2.2.2.2.2 a<|pa.mem_iff.mp ha) _ x y W P s M (K++[.inr n]) q l;refine⟨.inr n::r,by rw[X,ii];rfl,λk p i d D L=>?_⟩;obtain⟨U,F,rfl,rfl⟩:=Dc.Zf D;rw[Dc.Cj,bv]at s;cases c:F[Dc.ix u n]? with
   |none=>rw[c]at s;cases s
   |some B=>
    rw[c]at s;have ty:B.tr=y:=ACw s;cases L with
    |tab wl wn N=>
     obtain⟨e1,Y,Z,g3⟩:=g k p i B ty<|N B<|ACx c;refine⟨e1,(Dc.UO (Dc.OS u F _ wn I c) _).trans Y,Z,?_⟩;rw[ge,show kV (.inr n)=V.str n from rfl,Dc.LV c];simp only[Dc.tr,Dc.VB];exact .tabI O e (h.one (by lia) λa y' f v C A=>by rw[P]at v;cases v;rw[M]at A;cases A;exact g3) I
 ·cases j with
  |zero=>cases v;cases C;cases A;exact h (o _ dL)
  |succ j=>exact t (λa ha=>o a (b9 _ ha)) j _ _ _ (by simpa using v) (by simpa using C) (by simpa using A)
end Ak
structure Dw(H:Hp)(v:V)(q:List Key×Key):Prop where
 at_:∃(e tp:Addr),v=.ref e/\H e=ι (.tup [.ref tp,kV q.2])/\H tp=ι (.tup (q.1.map kV))
theorem Dw.up(h:Dw H v q)(s:∀b xs,H b=ι (.tup xs)->H' b=ι (.tup xs)):Dw H' v q:=by
 obtain⟨e,a,c,d,f⟩:=h.at_;exact⟨⟨e,a,c,s _ _ d,s _ _ f⟩⟩
theorem Dw.one(h:Dw H v q)(g:Dw H v r):q=r:=by
 obtain⟨e,k,d,f,i⟩:=h.at_;obtain⟨l,j,a,b,c⟩:=g.at_;rw[d]at a;cases a;rw[f]at b;have z:=HO.tup.inj<|ACw b;simp only[u3,V.ref.injEq,and_true]at z;obtain⟨rfl,z⟩:=z;rw[i]at c;exact adZ (OG<|HO.tup.inj<|ACw c)<|Xc z
theorem I_(k:Key):DS (kV k)=true:=by cases k<;>rfl
theorem VD(a b:Key):MS (kV a) (kV b)=decide (a=b):=by
 cases a<;>cases b<;>simp[kV,MS]
 ·rename_i i j
  by_cases h:i=j
  ·rw[h];simp
  ·rw[decide_eq_false h];simpa using h
 ·rename_i i j
  by_cases h:i=j
  ·rw[h];simp
  ·rw[decide_eq_false h];simpa using h
theorem Wb(a b:List Key):QF (a.map kV) (b.map kV)=decide (a=b):=by
 by_cases c:a=b
 ·rw[c,decide_eq_true rfl];exact Vq λz d=>by obtain⟨k,_,rfl⟩:=m7.mp d;exact I_ k
 ·rw[decide_eq_false c];refine acg.mpr λz=>c ?_;unfold QF at z;simp only[ap,kt,r4,E3,beq_iff_eq]at z;obtain⟨z1,z2⟩:=z;refine N6 z2 λi e f=>?_;have:=z1 i (by lia);rw[ci,ci,bv,bv,ACu e,ACu f]at this;simp only[A7,acv,VD,decide_eq_true_eq]at this;exact this
variable{A:AT}
section
variable {s:d8}
theorem cL(I:Inv X pins σ H s)(l:A.units<cLine){a b:Addr}{xs ys:List Key}(m:H a=ι (.tup (xs.map kV)))(n:H b=ι (.tup (ys.map kV))):SeqAt.RcAt A s (.ref a) (.ref b) (decide (xs=ys)):=by
 obtain⟨f,g,o,_⟩:=I.tuple<|BP.of (K:=X.K) m;obtain⟨c,h,p,_⟩:=I.tuple<|BP.of (K:=X.K) n;have e1:f.toArray.size=(xs.map kV).length:=by rw[cr];exact g.length.symm
 have q:c.toArray.size=(ys.map kV).length:=by rw[cr];exact h.length.symm
 have d:=SeqAt.RcAt.tuples (A:=A) (e:=λj=>MS ((xs.map kV).getD j .BB) ((ys.map kV).getD j .BB)) o p l (λj r t=>by
  obtain⟨x,i,u⟩:=IZ g r;obtain⟨y,k,v⟩:=IZ h t;have w:(xs.map kV).getD j .BB=x:=by rw[ci,i];rfl
  have z:(ys.map kV).getD j .BB=y:=by rw[ci,k];rfl
  show J9 _ _ _ _ (MS ((xs.map kV).getD j .BB) ((ys.map kV).getD j .BB));rw[w,z];obtain⟨_,_,z1⟩:=m7.mp (ACx i);obtain⟨_,_,z2⟩:=m7.mp (ACx k);exact OC u v (by rw[<-z1];exact I_ _) (by rw[<-z2];exact I_ _))
 rw[e1,q]at d;rw[<-Wb];exact d
theorem Zg(I:Inv X pins σ H s)(U:A.units+4<cLine){u v:V}{q r:List Key×Key}(m:Dw H u q)(w:Dw H v r){u' B:b7}(C:RelV u u')(D:RelV v B):J9 A s u' B (decide (q=r)):=by
 by_cases h:u=v
 ·subst h;have:=m.one w;subst this;obtain⟨e,n,o,_⟩:=m.at_;subst o;cases C;cases D;rw[decide_eq_true rfl];exact K9 _
 obtain⟨e,n,rfl,p,E⟩:=m.at_;obtain⟨W,i,rfl,N,t⟩:=w.at_;cases C;cases D;refine abC (λz=>h<|by rw[z]) ?_;obtain⟨l,F,O,_⟩:=I.tuple<|BP.of (K:=X.K) p;obtain⟨c,G,P,_⟩:=I.tuple<|BP.of (K:=X.K) N;have e1:l.toArray.size=2:=by rw[cr];exact F.length.symm
 have Q:c.toArray.size=2:=by rw[cr];exact G.length.symm
 have d:=SeqAt.RcAt.tuples (A:=A) (e:=λj=>match j with|0=>decide (q.1=r.1)|_=>decide (q.2=r.2)) O P (by lia) (λj o p=>by
  obtain⟨x,f,J⟩:=IZ F o;obtain⟨y,g,L⟩:=IZ G p
  match j,f,g with
  |0,f,g=>
   cases f;cases g;have R:l.toArray[0]=jM n:=J;have S:c.toArray[0]=jM i:=L;rw[R,S];show J9 _ _ _ _ (decide<|q.1=r.1);by_cases M:n=i
   ·subst M;rw[E]at t;rw[decide_eq_true<|OG<|HO.tup.inj<|ACw t];exact K9 _
   ·exact abC M (cL I (A:=A.in1) (by show A.units+1<cLine;lia) E t)
  |1,f,g=>
   cases f;cases g;show J9 _ _ _ _ (decide<|q.2=r.2);rw[<-VD];exact OC J L (I_ _) (I_ _)
  |k+2,f,g=>simp at f)
 rw[e1,Q]at d;have T:(((oo<|min 2 2).all λj=>match j with|0=>decide (q.1=r.1)|_=>decide<|q.2=r.2)&&(2==2))=decide (q=r):=by
  show(([0,1].all _)&&true)=_;simp only[S8,List.all_nil,Bool.and_true];rw[F9];simp only[kt,decide_eq_true_eq];exact⟨λ⟨a,b⟩=>adZ a b,λz=>by rw[z];exact⟨rfl,rfl⟩⟩
 rw[T]at d;exact d
noncomputable def Js (H:Hp) (q:List Key×Key) (u:b7):Bool:=@decide (∃a,u=.ref a/\Dw H (.ref a) q)<|P4 _
theorem JA(h:Dw H v r)(b:RelV v u):Js H q u=decide (r=q):=by
 obtain⟨e,g,rfl,_⟩:=id h.at_;cases b;unfold Js;by_cases c:r=q
 ·rw[decide_eq_true c];exact @decide_eq_true _ (P4 _) ⟨e,rfl,by rw[<-c];exact h⟩
 ·rw[decide_eq_false c];refine @decide_eq_false _ (P4 _) λ⟨a,d,f⟩=>c ?_;cases d;exact h.one f
theorem L_(h:Paired (Dw H) c qs):c.length=qs.length/\∀{i:Nat}{x:V},c[i]?=ι x->∃q,qs[i]?=ι q/\Dw H x q:=by
 induction h with
 |nil=>exact⟨rfl,λh=>by simp at h⟩
 |cons h t a=>
  refine⟨by rw[g6,g6,a.1],λ{i x} b=>?_⟩;cases i with
  |zero=>cases b;exact⟨_,rfl,h⟩
  |succ i=>exact a.2 (by simpa using b)
theorem Kk{xs:List V}{qs:List (List Key×Key)}(h:Paired (Dw H) xs qs){its:List b7}(r:Vals xs its){m:Nat}{u:b7}(a:its[m]?=ι u):∃x q,RelV x u/\qs[m]?=ι q/\Dw H x q:=by
 have l:=r.length;have f:=DR a;obtain⟨x,b⟩:=B' xs m (by lia);obtain⟨i,g,c⟩:=r.get b;rw[a]at g;cases g;obtain⟨q,d,e⟩:=(L_ h).2 b;exact⟨x,q,c,d,e⟩
theorem Bv(h:Paired (Dw H) c qs)(s:∀b c,H b=ι (.tup c)->H' b=ι (.tup c)):Paired (Dw H') c qs:=by
 induction h with
 |nil=>exact .nil
 |cons h t a=>exact .cons (h.up s) a
theorem EL(h:Paired (Dw H) c qs)(g:Paired (Dw H) ys a):Paired (Dw H) (c++ys) (qs++a):=by
 induction h with
 |nil=>exact g
 |cons h t b=>exact .cons h b
theorem Ta(h:Paired (Dw H) c qs):∀j:Nat,Paired (Dw H) (c.eraseIdx j) (qs.eraseIdx j):=by
 induction h with
 |nil=>intro j;exact .nil
 |cons h t a=>
  intro j;cases j with
  |zero=>exact t
  |succ j=>exact .cons h (a j)
inductive cN(x y:V)(H:Hp)(Q:VK):Prop
 |mk(p:Addr)(xs:List V)(qs:List (List Key×Key))(q:List Key×Key)(a:y=.ref p)(b:H p=ι (.lst xs))(c:Paired (Dw H) xs qs)(d:Dw H x q)(e:q∈qs)(f:Q (.bl false) H)
theorem Wc(L:X.A.units+64<cLine):Dr X (u5 .NotIn) cN:=by
 intro pins s σ H x y v u Q I n o h;obtain⟨p,M,N,q,rfl,t,e,z,B,C⟩:=h;cases o;obtain⟨b,r,D,O⟩:=I.list<|Ag.of (K:=X.K) t;refine abz (Js H q) D.isList (λw hw=>?_) ⟨.bl _,H,I,rfl,?_⟩
 ·obtain⟨m,f,E⟩:=T9<|acz.mp hw;obtain⟨F,G,a,g,d⟩:=Kk e r<|ACu f;rw[E]at a;rw[JA d a];exact Zg I (by show X.A.units+1+4<cLine;lia) d z a n
 ·have:b.toArray.any (Js H q)=true:=by
   rw[show b.toArray.any (Js H q)=b.any (Js H q)by simp,SZ];obtain⟨j,k⟩:=G2 B;have J:=DR k;have l:=r.length;have l2:=(L_ e).1;obtain⟨i,c⟩:∃i,b[j]?=ι i:=⟨_,ACu<|by lia⟩;obtain⟨F,G,a,g,d⟩:=Kk e r c;rw[k]at g;cases g;exact⟨i,ACx c,by rw[JA d a];simp⟩
  rw[this];exact C
open PySem.AutoSeq1 (wpAny_loadPart')in
open PySem.MeetsSeq in
theorem RM(l:Addr)(vs:Array b7)(n:Nat)(v:b7)(f:b7->Bool)(j:Nat)(d:j<vs.size)(b:f vs[j]=true)(fits:vs.size<=sizeLine):∀(k i:Nat),i+k=j->(∀m (lm:m<vs.size),i<=m->m<j->f vs[m]=false)->
  Meets (Builtin.«list.remove.loop» ⟨[.ref l,v,sn i],[]⟩) (λA R s=>s.heap.get? l=ι {cls:=.type "list",dict:=ν,data:=.seq vs n,slots:= #[]}/\(∀y,y∈vs->J9 A.in1 s y v (f y))/\R (.ok (.ret .none)) {s with heap:=s.heap.update l (G4 λz=>z.eraseIdxIfInBounds j)})
 |0,i,e,g=>by
  have e:i=j:=by lia
  subst e;intro prog w A R s h;obtain⟨a1,a2,a3,a4,a5⟩:=s;obtain⟨a,c,h⟩:=h;wp_walk using wpAny_loadPart' a;rw[show vs[((i:Nat):Int).toNat]?=ι vs[i]by simp[d]];refine am<|c _ (Rs d) prog w _ _ ?_;rw[b];have z2:(vs.eraseIdxIfInBounds i).size<=sizeLine+1:=j5 (size_erased vs _)<|Nat.le_succ_of_le fits;wp_walk using(aaq a rfl (hz:=fits) (_hz':=z2)),wpAny_loadPart' a;simpa using h
 |k+1,i,e,g=>by
  intro prog w A R s h;obtain⟨a1,a2,a3,a4,a5⟩:=s;obtain⟨a,c,h⟩:=h;have o:i<vs.size:=by lia
  wp_walk using wpAny_loadPart' a;rw[show vs[((i:Nat):Int).toNat]?=ι vs[i]by simp[o]];refine am<|c _ (Rs o) prog w _ _ ?_;rw[g i o (bn _)<|by lia];wp_walk;rw[show((i:Int)+1)=((i+1:Nat):Int)by push_cast;rfl];refine⟨x6 plain_remove_loop _,uy entry_remove_loop ?_⟩;rw[p9 plain_remove_loop _];exact RM l vs n v f j d b fits k (i+1) (by lia) (λm lm q p=>g m lm (by lia) p) prog w A R _ ⟨a,c,h⟩
open PySem.AutoSeq1 (wpAny_loadPart')in
open PySem.MeetsSeq in
theorem Zh(l:Addr)(vs:Array b7)(n:Nat)(v:b7)(f:b7->Bool)(j:Nat)(c:j<vs.size)(a:f vs[j]=true)(fits:vs.size<=sizeLine)(d:∀m (lm:m<vs.size),m<j->f vs[m]=false):
  Meets (Builtin.«list.remove» ⟨[.ref l,v],[]⟩) (λA R s=>s.heap.get? l=ι {cls:=.type "list",dict:=ν,data:=.seq vs n,slots:= #[]}/\(∀y,y∈vs->J9 A.in1 s y v (f y))/\R (.ok (.ret .none)) {s with heap:=s.heap.update l (G4 λz=>z.eraseIdxIfInBounds j)}):=by
 intro prog w A R s h;obtain⟨a1,a2,a3,a4,a5⟩:=s;obtain⟨b,e,h⟩:=h;wp_walk using wpAny_loadPart' b;refine⟨x6 plain_remove_loop _,uy entry_remove_loop ?_⟩;rw[p9 plain_remove_loop _];exact RM l vs n v f j c a fits j 0 (by lia) (λm lm _ g=>d m lm g) prog w A R _ ⟨b,e,h⟩
theorem RN{a:Type}{q:a}:∀{qs:List a},q∈qs->∃j:Nat,qs[j]?=ι q/\∀m:Nat,m<j->qs[m]?≠ι q
 |x::r,h=>by
  by_cases c:x=q
  ·exact⟨0,by rw[c];rfl,λm b=>absurd b<|F1 _⟩
  ·obtain⟨j,d,e⟩:=RN ((ca.mp h).resolve_left λz=>c z.symm);refine⟨j+1,by simpa using d,λm b=>?_⟩;cases m with
   |zero=>exact λz=>c (ACw z)
   |succ m=>simpa using e m (by lia)
theorem RO{a:Type}{q:a}:∀{qs:List a}{j:Nat},qs[j]?=ι q->qs.Perm (q::qs.eraseIdx j)
 |[],_,h=>by simp at h
 |x::r,0,h=>by cases h;exact .refl _
 |x::r,j+1,h=>((RO (qs:=r) (j:=j) (by simpa using h)).cons x).trans (.swap _ _ _)
inductive lP(x:V)(vs:List V)(H:Hp)(Q:VK):Prop
 |mk(l:Addr)(xs:List V)(qs:List (List Key×Key))(y:V)(q:List Key×Key)(a:x=.ref l)(b:vs=[y])(c:H l=ι (.lst xs))(d:Paired (Dw H) xs qs)(e:Dw H y q)(f:q∈qs)(g:∀j,qs[j]?=ι q->Q .BB (upd H l (.lst (xs.eraseIdx j))))
theorem Tb(U:X.A.units+64<cLine):gK X "list.remove" lP:=by
 intro pins s σ H x V v W Q I G J h;obtain⟨l,K,L,y,q,rfl,rfl,D,k,M,N,O⟩:=h;cases G;obtain⟨u,rfl,P⟩:=J.one;obtain⟨z,a,n,r,Y,e⟩:=I.MU D;have l2:=(L_ k).1;obtain⟨j,o,p⟩:=RN N;have R:=DR o;have E:j<a.toArray.size:=by rw[cr];lia
 have at_:∀(m:Nat)(i:m<a.toArray.size),∃f,L[m]?=ι f/\Js H q a.toArray[m]=decide (f=q):=λm i=>by
  have t:m<a.length:=by simpa using i
  obtain⟨S,f,b,g,d⟩:=Kk k r<|ACu t;exact⟨f,g,by rw[show a.toArray[m]=a[m]by simp];exact JA d b⟩
 refine J8 X7 ⟨_,e,rfl⟩ PySem.F.entry_list_remove (PySem.F.args_list_remove_2 _ _) (Zh l a.toArray n u (Js H q) j E ?_ (by rw[cr];lia) ?_) ⟨e,λw hw=>?_,?_⟩
 ·obtain⟨f,g,d⟩:=at_ _ E;rw[o]at g;cases g;rw[d];exact decide_eq_true rfl
 ·intro m i B;obtain⟨f,g,d⟩:=at_ m i;rw[d];exact decide_eq_false λc=>p m B<|by rw[g,c]
 ·obtain⟨m,C,T⟩:=T9<|acz.mp hw;obtain⟨S,f,b,g,d⟩:=Kk k r<|ACu C;rw[T]at b;rw[JA d b];exact Zg I (by show X.A.units+1+4<cLine;lia) d M b P
 ·refine⟨.BB,_,I.VY (its':=a.eraseIdx j) D e ?_ (r.eraseIdx _) ?_,rfl,O j o⟩
  ·show a.toArray.eraseIdxIfInBounds j=(a.eraseIdx j).toArray;rw[G9]
  ·have:=JJ K j;lia
end
inductive lQ{K:ACy}[BW K](x y:V)(H:Hp)(Q:VK):Prop
 |mk(t:Pt)(a:Val H x t)(b:Val H y t)(dc:t.doc)(d:t.deep<=60)(q:Q (.bl true) H)
inductive lR{K:ACy}[BW K](x y:V)(H:Hp)(Q:VK):Prop
 |mk(ts:List Pt)(a:Val H x (.tup ts))(b:Val H y (.tup ts))(d:Pt.AR ts<=60)(q:Q (.bl false) H)
section
theorem iT(n:X.A.units+64<cLine):Dr X (u5 .Eq) (@lQ X.K ⟨trivial⟩):=by
 haveI:BW X.K:=⟨trivial⟩;intro pins s j H x y v u Q I k l h;obtain⟨t,c,e,dc,d,q⟩:=h;have ref:∀{a b:Addr},x=.ref a->y=.ref b->g5 (i7 X.prog X.w) X.A (u5 .Eq v u) (EP X pins j Q) X.xe s:=λ{a b} f g=>by
  subst f g;cases k;cases l;exact Pt.yT I t c e (A:=X.A) (by lia) _ _ ⟨.bl true,H,I,rfl,q⟩
 cases t with
 |int i=>cases c;cases e;exact BR pins s j H _ _ v u Q I k l ⟨rfl,by rw[decide_eq_true rfl];exact q⟩
 |str i=>cases c;cases e;exact BR pins s j H _ _ v u Q I k l ⟨rfl,by rw[decide_eq_true rfl];exact q⟩
 |bl b=>simp[Pt.doc]at dc
 |BB=>simp[Pt.doc]at dc
 |tup m=>simp[Pt.doc]at dc
 |lst m=>obtain⟨a,_,f,_⟩:=c.EG;obtain⟨b,_,g,_⟩:=e.EG;exact ref f g
 |BV o m=>obtain⟨a,_,f,_⟩:=c.FT;obtain⟨b,_,g,_⟩:=e.FT;exact ref f g
theorem iU(N:X.A.units+64<cLine):Dr X (u5 .NotEq) (@lR X.K ⟨trivial⟩):=by
 haveI:BW X.K:=⟨trivial⟩;intro pins s O H x y v u Q I w z h;obtain⟨l,B,C,d,q⟩:=h;obtain⟨a,P,rfl,D,m⟩:=B.tupI;obtain⟨b,R,rfl,E,n⟩:=C.tupI;cases w;cases z;obtain⟨e,o,F,_⟩:=I.tuple D;obtain⟨c,p,G,_⟩:=I.tuple E;have e1:e.toArray.size=l.length:=by rw[cr,<-o.length,m.length]
 have J:c.toArray.size=l.length:=by rw[cr,<-p.length,n.length]
 refine WJ (A:=X.A) F G (by rw[e1,J]) (by lia) (λj L M=>?_) ⟨.bl false,H,I,rfl,q⟩;obtain⟨S,t1,_,r,f,g⟩:=m.at o L;obtain⟨T,t2,_,t,i,k⟩:=n.at p M;rw[r]at t;cases t;have dl:=Pt.AU<|ACx r;exact Pt.Yf I _ t1 (bn _) f i (A:=X.A.in1) (by show X.A.units+1+_<cLine;lia) g k
end
namespace Ak
theorem Zi(b:∀n∈ns,CS n=true)(h:k∈fst ns a):Dc.Dq (kV k):=by
 cases a with
 |any=>simp[fst]at h
 |Ao d=>simp[fst]at h
 |row c m=>
  cases m with
  |false=>simp[fst]at h
  |true=>rw[show fst ns (row c true)=[.inl (c.length:Int)]from rfl,bi]at h;rw[h];exact .inl ⟨_,rfl⟩
 |tab f c ls m=>
  cases m with
  |false=>simp[fst]at h
  |true=>
   simp only[fst]at h;obtain⟨n,e,rfl⟩:=m7.mp h;exact .inr ⟨n,rfl,b n (C5.mp e).1⟩
mutual
theorem L':∀(a:Ak)(p:List Key),a.Be->(∀z∈p,Dc.Dq (kV z))->∀q∈Fo p a,∀z∈q.1,Dc.Dq (kV z)
 |any,p,_,h,q,b=>by rw[Fo,bi]at b;subst b;exact h
 |Ao d,p,_,h,q,b=>by rw[Fo,bi]at b;subst b;exact h
 |row xs m,p,o,h,q,b=>by
  rw[Fo]at b;simp only[Be]at o;rcases ca.mp b with rfl|b
  ·exact h
  ·exact Nd xs p 0 o h q b
 |tab ks xs ls m,p,o,h,q,b=>by
  rw[Fo]at b;simp only[Be]at o;rcases ca.mp b with rfl|b
  ·exact h
  ·exact Nf xs p ks o.2.2.2.2.2.2 o.2.2.1 h q b
theorem Nd:∀(xs:List Ak)(p:List Key)(i:Nat),G_ xs->(∀z∈p,Dc.Dq (kV z))->∀q∈Du p i xs,∀z∈q.1,Dc.Dq (kV z)
 |[],_,_,_,_,q,a=>by simp[Du]at a
 |x::r,p,i,o,h,q,a=>by
  simp only[G_]at o;simp only[Du]at a;rcases db.mp a with a|a
  ·refine L' x _ o.1 (λz hz=>?_) q a;rcases db.mp hz with hz|hz
   ·exact h z hz
   ·rw[bi.mp hz];exact .inl ⟨i,rfl⟩
  ·exact Nd r p _ o.2 h q a
theorem Nf:∀(xs:List Ak)(p:List Key)(ks:List Str),G_ xs->(∀k∈ks,CS k=true)->(∀z∈p,Dc.Dq (kV z))->∀q∈Dv p ks xs,∀z∈q.1,Dc.Dq (kV z)
 |[],_,ks,_,_,_,q,a=>by cases ks<;>simp[Dv]at a
 |x::r,p,[],_,_,_,q,a=>by simp[Dv]at a
 |x::r,p,k::ks,o,n,h,q,a=>by
  simp only[G_]at o;simp only[Dv]at a;rcases db.mp a with a|a
  ·refine L' x _ o.1 (λz hz=>?_) q a;rcases db.mp hz with hz|hz
   ·exact h z hz
   ·rw[bi.mp hz];exact .inr ⟨k,rfl,n k dL⟩
  ·exact Nf r p ks o.2 (λx b=>n x<|b9 _ b) h q a
end
end Ak
theorem eN{a:Type}{ks:List Str}{xs:List a}(l:ks.length=xs.length)(nd:ks.Nodup){k:Str}{x:a}(b:ks[i]?=ι k)(c:xs[i]?=ι x):lk ks xs k=ι x:=by
 have:=congrArg (λz=>z[i]?)<|OW l nd;simp only[bv,b,c,A7]at this;exact ACw this
theorem iV{x:V}{n:Int}{m:Nat}(a:m<=i)(b:(i:Int)<(m:Int)+n):((i9 n.toNat [x]).flatten)[i-m]?=ι x:=by
 rw[List.flatten_replicate_singleton,Z6,if_pos<|by lia]
noncomputable def Ak.an:Ak->Nat
 | .any=>0
 |_=>1
theorem Ak.Zj(a:Ak):a.an<=1:=by cases a<;>simp[Ak.an]
structure Zk(ns ss:List Str):Prop where
 so:A8 ss=true
 pm:ss.Perm (PU ns)
theorem Zk.one(h:Zk ns ss)(g:Zk ns a):ss=a:=GC h.so g.so<|h.pm.trans g.pm.symm
theorem Zk.mem(h:Zk ns ss):n∈ss↔n∈ns:=h.pm.mem_iff.trans iG
theorem Zk.len(h:Zk ns ss):ss.length<=ns.length:=by rw[h.pm.length_eq];exact Ol ns
section
variable [BW K]
inductive cO(vs:List V)(H:Hp)(Q:VK):Prop
 |mk(v:V)(b:Pt)(t:Addr)(us:List Key)(k:Key)(i:Int)(R:Pt->Prop)(a:vs=[v,.ref t,.int i])(c:Val H v b)(f:b.doc)(g:b.size<=800)(h:H t=ι (.tup (us.map kV++[kV k])))(j:∀z∈us++[k],Dc.Dq (kV z))(l:∀d:Dc,d.tr=b->d.Wf->∃e,d.sub (us.map kV)=ι e/\e.room (kV k)=true/\R (d.FQ (us.map kV) (e.Gy (kV k) (.leaf (.int i)))).tr)(m:∀(d':Dc) (H':Hp),ET H H' d'->R d'.tr->Q d'.val H')
def Zl:Sp:=λa H Q _=>cO (K:=K) a H Q
inductive Zm(vs:List V)(H:Hp)(Q:VK):Prop
 |mk(v:V)(a:Ak)(b:vs=[v])(c:Val H v a.pt)(d:a.ok)(e:a.ER)(f:a.size<=80)(g:∀(p:Addr) (ns:List Str) (H':Hp),AF H H'->H p=ν->H' p=ι (.lst (ns.map V.str))->ns.length<=100000->(∀n∈a.HP,n∈ns)->Q (.ref p) H')
def VE:Sp:=λa H Q _=>Zm (K:=K) a H Q
structure Roo(H H':Hp)(a:Ak)(ds:List Pt)(ns:List Str)(es:List Dc)(f:List Int)(i:Int)(l:List (List Key×Ak))(ss:List Str)(w:Str):Prop where
 at_:Dc.EC H' es
 nd:(Dc.AJ es).Nodup
 own:∀c∈Dc.AJ es,∀o u,H' c≠ι (.BK o u)
 new:∀c∈Dc.AJ es,H c=ν
 jT:Zk ns ss
 wn:w∉ns
 wk:w∉a.HP
 fn:(i::f).Nodup
 fo:∀x∈i::f,∀d,d∈a.Bb∨d∈ds->Pt.int x∉d.Ll
 bf:Ak.Jb a l.length l
 ll:l.length<=a.wt
 one:Paired (λ(e:Dc)(m:List Key×Key)=>Ak.One a e.tr f m.1 m.2 i) es (l.flatMap λq=>(Ak.fst (ss++[w]) q.2).map λk=>(q.1,k))
theorem Roo.MM(R:Roo H H' a d ns es f j l ss w):Roo H (MM H H') a d ns es f j l ss w:=by
 have e:∀c∈Dc.AJ es,∀o,H' c=ι o->L2.MM H H' c=ι o:=λc b o h=>Ja h λg u z=>R.own c b g u (by rw[h,z]);exact{R with at_:=Dc.Bh es e R.at_,own:=λc b=>Ho (Dc.JQ R.at_ b) (R.own c b)<|e c b}
inductive RP(T:Addr)(c:Pos)(d:Str)(vs:List V)(H:Hp)(Q:VK):Prop
 |mk(v:V)(a:Ak)(l:Addr)(ws:List V)(b:List Pt)(nl:Addr)(ns:List Str)(o:vs=[v,.ref l,.ref nl])(q:Val H v a.pt)(r:a.ok)(s:a.size<=80)(g:a.deep<=18)(h:a.ER)(t:H l=ι (.lst ws))(u:AS H ws b)(x:Pt.CF b)(y:Pt.AI b<=60)(A:H nl=ι (.lst (ns.map V.str)))(B:∀n∈ns,CS n=true)(j:ns.length<=10)(k:Ey c d T H)(m:∀(p:Addr) (es:List Dc) (f:List Int) (i:Int) (bl:List (List Key×Ak)) (ss:List Str) (w:Str) (H':Hp),(∀z e,z≠T->H z=ι e->H' z=ι e)->Ey c d T H'->H p=ν->H' p=ι (.lst (es.map Dc.val))->Roo H H' a b ns es f i bl ss w->p∉Dc.AJ es->Q (.ref p) H'):RP T c d vs H Q
def Ng(T:Addr)(a:Pos)(b:Str):Sp:=λc H Q _=>RP (K:=K) T a b c H Q
inductive Zn(n:Nat)(vs:List V)(H:Hp)(Q:VK):Prop
 |mk(v:V)(a:Ak)(tp nl:Addr)(p:List Key)(ns ss:List Str)(c:vs=[v,.ref tp,.ref nl])(d:Val H v a.pt)(e:a.Be)(f:a.wt<=900)(g:a.deep<=n)(h:H tp=ι (.tup (p.map kV)))(i:p.length+a.deep<=100)(j:H nl=ι (.lst (ns.map V.str)))(k:ns.length<=10)(l:Zk ns ss)(b:∀(D:Addr) (es:List V) (H':Hp),AF H H'->H D=ν->H' D=ι (.lst es)->Paired (Dw H') es (Ak.iR ss p a)->es.length<=11*a.wt->Q (.ref D) H'):Zn n vs H Q
def O'(n:Nat):Sp:=λa H Q _=>Zn (K:=K) n a H Q
inductive VF(n:Nat)(vs:List V)(H:Hp)(Q:VK):Prop
 |mk(v y:V)(a:Ak)(b:Pt)(tp nl:Addr)(p:List Key)(kn:List Str)(h:vs=[v,y,.ref tp,.ref nl])(i:Val H v a.pt)(c:Val H y b)(j:a.Be)(d:b.doc)(e:a.So b)(k:a.wt<=900)(f:b.size<=900)(l:a.deep<=n)(m:H tp=ι (.tup (p.map kV)))(o:p.length+a.deep<=100)(q:H nl=ι (.lst (kn.map V.str)))(r:kn.length<=10000)(g:∀(D:Addr) (es:List V) (H':Hp),AF H H'->H D=ν->H' D=ι (.lst es)->Paired (Dw H') es (Ak.more kn a b p)->es.length<=b.size->Q (.ref D) H'):VF n vs H Q
def Kl(n:Nat):Sp:=λa H Q _=>VF (K:=K) n a H Q
inductive Zo(n:Nat)(vs:List V)(H:Hp)(Q:VK):Prop
 |mk(v y:V)(a:Ak)(t:Pt)(c:vs=[v,y])(d:Val H v a.pt)(e:Val H y t)(f:a.Be)(g:t.doc)(h:a.So t)(i:a.wt<=900)(j:t.size<=900)(k:a.dp<=60)(l:a.deep<=n)(b:∀H',AF H H'->Q (.bl true) H')
def Km(n:Nat):Sp:=λa H Q _=>Zo (K:=K) n a H Q
inductive cP(n:Nat)(vs:List V)(H:Hp)(Q:VK):Prop
 |mk(G:Hp)(v y:V)(a:Ak)(b:Pt)(e:vs=[v,y])(f:Dl G H)(g:Val G v a.pt)(h:Val G y b)(i:a.Be)(j:a.wt<=900)(k:b.doc)(c:a.So b)(d:b.size<=900)(l:a.deep+a.an<=n)(m:∀(p:Addr) (es:List V) (H':Hp),AF H H'->H p=ν->H' p=ι (.lst es)->AS G es (Ak.KL a b)->es.length<=b.size->(a=.any->es=[y])->Q (.ref p) H')
def PB(n:Nat):Sp:=λa H Q _=>cP (K:=K) n a H Q
inductive Nh(vs:List V)(H:Hp)(Q:VK):Prop
 |mk(v y:V)(a:Ak)(b:Pt)(f:List Int)(l:Addr)(ws:List V)(c:List Pt)(o:vs=[v,y,.ref l])(p:Val H v a.pt)(q:Val H y b)(r:a.ok)(s:a.size<=80)(t:b.doc)(e:a.So b)(g:b.size<=801)(h:(Ak.KL a b).Perm (f.map Pt.int))(u:a.deep<=20)(w:H l=ι (.lst ws))(z:AS H ws c)(A:Pt.CF c)(i:Pt.AI c<=60)(j:Pt.AR c<=20)(k:f.Nodup)(m:∀x∈f,∀d,d∈a.Bb∨d∈c->Pt.int x∉d.Ll)(n:∀(H':Hp),AF H H'->Q (.bl true) H'):Nh vs H Q
def RQ:Sp:=λa H Q _=>Nh (K:=K) a H Q
inductive MA(T:Addr)(c:Pos)(d:Str)(vs:List V)(H:Hp)(Q:VK):Prop
 |mk(v:V)(a:Ak)(l:Addr)(ws:List V)(b:List Pt)(nl:Addr)(ns:List Str)(m:vs=[v,.ref l,.ref nl])(o:Val H v a.pt)(p:a.ok)(q:a.size<=80)(f:a.deep<=18)(g:a.ER)(r:H l=ι (.lst ws))(s:AS H ws b)(t:Pt.CF b)(u:Pt.AI b<=60)(h:Pt.AR b<=20)(w:H nl=ι (.lst (ns.map V.str)))(x:∀n∈ns,CS n=true)(i:ns.length<=10)(j:Ey c d T H)(k:∀(H':Hp),(∀z e,z≠T->H z=ι e->H' z=ι e)->Ey c d T H'->Q (.bl true) H'):MA T c d vs H Q
def Ni(T:Addr)(a:Pos)(b:Str):Sp:=λc H Q _=>MA (K:=K) T a b c H Q
end
namespace Ak
mutual
noncomputable def VG:Ak->List Str
 |any=>[]
 |Ao _=>[]
 |row xs _=>RS xs
 |tab ks xs ls _=>ks++ls++RS xs
noncomputable def RS:List Ak->List Str
 |[]=>[]
 |x::r=>VG x++RS r
end
theorem MB:∀{xs:List Ak},n∈RS xs↔∃x∈xs,n∈VG x
 |[]=>by simp[RS]
 |x::r=>by simp only[RS,db,MB (xs:=r),ca,exists_eq_or_imp]
mutual
theorem Nj:∀(a:Ak),∀n∈a.HP,n∈a.VG∨∃d∈a.Bb,n∈d.PV
 |any,n,h=>by simp[HP]at h
 |Ao d,n,h=>.inr ⟨d,by simp[Bb],h⟩
 |row xs _,n,h=>H_ xs n h
 |tab ks xs ls _,n,h=>by
  simp only[HP]at h;simp only[VG];rcases db.mp h with h|h
  ·exact .inl<|e9 _ h
  ·exact(H_ xs n h).imp (gl _) id
theorem H_:∀(xs:List Ak),∀n∈EJ xs,n∈RS xs∨∃d∈B_ xs,n∈d.PV
 |[],n,h=>by simp[EJ]at h
 |x::r,n,h=>by
  simp only[EJ]at h;simp only[RS,B_];rcases db.mp h with h|h
  ·exact(Nj x n h).imp (e9 _) λ⟨d,a,b⟩=>⟨d,e9 _ a,b⟩
  ·exact(H_ r n h).imp (gl _) λ⟨d,a,b⟩=>⟨d,gl _ a,b⟩
end
theorem Kd.VG(h:Kd a as)(o:a.Be)(b:n∈a.VG):(∃ks xs ls m,a=tab ks xs ls m/\n∈ks++ls)∨∃x∈as,n∈x.VG:=by
 cases a with
 |any=>simp[Ak.VG]at b
 |Ao e=>simp[Ak.VG]at b
 |row xs m=>rw[show as=xs from h];exact .inr (MB.mp b)
 |tab ks xs ls m=>
  simp only[Be]at o;obtain⟨f,c,g,e1⟩:=h;simp only[Ak.VG]at b;rcases db.mp b with b|b
  ·exact .inl ⟨ks,xs,ls,m,rfl,b⟩
  ·obtain⟨x,d,b⟩:=MB.mp b;exact .inr ⟨x,(CD o.1 o.2.1 c e1).mem_iff.mpr d,b⟩
theorem cQ{root:Ak}(o:root.Be)(b:Of root.pt N l c)(n:Str)(h:n∈root.VG):(∃j ks xs ls m,j<N/\l[j]?=ι (tab ks xs ls m).pt/\n∈ks++ls)∨∃(j:Nat)(a:Ak),N<=j/\l[j]?=ι a.pt/\a.Be/\n∈a.VG:=by
 rcases Um (J:=λa=>n∈a.VG) (L:=λa=>∃ks xs ls m,a=tab ks xs ls m/\n∈ks++ls) o h (λa g k o h=>k.VG o h) b with⟨j,a,d,e,ks,xs,ls,m,rfl,f⟩|h
 ·exact .inl ⟨j,ks,xs,ls,m,d,e,f⟩
 ·exact .inr h
end Ak
theorem Bn(h:H D=ι (.lst a))(b:Addr)(zs:List V)(e:H b=ι (.tup zs)):upd H D o b=ι (.tup zs):=by
 rw[AH<|Bw e h];exact e
theorem Dw.of(a:H e=ι (.tup [.ref tp,kV k]))(b:H tp=ι (.tup (p.map kV))):Dw H (.ref e) (p,k):=⟨⟨e,tp,rfl,a,b⟩⟩
namespace Ak
theorem RT(p:List Key):∀(a b:List Ak)(i:Nat),Du p i (a++b)=Du p i a++Du p (i+a.length) b
 |[],b,i=>by simp[Du]
 |x::r,b,i=>by
  simp only[jp,Du,g6,RT p r b<|i+1,ii];rw[show i+1+r.length=i+(r.length+1)by lia]
theorem We{p:List Key}(h:xs[i]?=ι b):Du p 0 (xs.take (i+1))=Du p 0 (xs.take i)++Fo (p++[.inl (i:Int)]) b:=by
 have a:=DR h;rw[j2,h,RT];simp only[G5,Du,j9,re,N0];rw[L3<|by lia]
theorem Nk:∀{ks:List Str}{xs:List Ak}{i:Nat}{k:Str}{b:Ak},ks[i]?=ι k->xs[i]?=ι b->Dv p (ks.take (i+1)) (xs.take (i+1))=Dv p (ks.take i) (xs.take i)++Fo (p++[.inr k]) b
 |[],_,_,_,_=>λh=>by simp at h
 |_::_,[],_,_,_=>λ_ h=>by simp at h
 |k::ks,x::xs,0,_,_=>λh g=>by cases h;cases g;simp[Dv]
 |k::ks,x::xs,i+1,_,_=>λh g=>by
  have:=Nk (p:=p) (ks:=ks) (xs:=xs) (i:=i) (by simpa using h) (by simpa using g);simp only[n5,Dv,this,ii]
theorem NQ.qy(h:NQ a l f):a.Be->f.length<=a.wt:=by
 refine @NQ.rec (λa _ f _=>a.Be->f.length<=a.wt) (λc _ fs _=>(∀a∈c,a.Be)->fs.flatten.length<=DU c) (λ_ _=>bn _) (λ_ _=>d9 _) (λ_ h o=>?_) (λg _ e _ h o=>?_) (λ_=>bn _) (λ_ _ h t o=>?_) _ _ _ h
 ·simp only[Be]at o;have:=h<|Ap o;simp only[wt];lia
 ·simp only[Be]at o;have d:=CD o.1 o.2.1 g e;have:=h λx i=>Ap o.2.2.2.2.2.2 x<|d.mem_iff.mp i;simp only[wt];rw[GO d]at this;lia
 ·have:=h<|o _ dL;have:=t λa j=>o a<|b9 _ j;simp only[v0,b8,DU];lia
end Ak
theorem Zp{a b:Type}{F:a->b->Prop}{xs:List a}{ys:List b}(h:Paired F xs ys):xs.length=ys.length/\∀{i:Nat}{x:a},xs[i]?=ι x->∃y,ys[i]?=ι y/\F x y:=by
 induction h with
 |nil=>exact⟨rfl,λh=>by simp at h⟩
 |cons h t c=>
  refine⟨by rw[g6,g6,c.1],λ{i x} d=>?_⟩;cases i with
  |zero=>cases d;exact⟨_,rfl,h⟩
  |succ i=>exact c.2 (by simpa using d)
variable{d:Dc}
namespace Dc
theorem GW{es:List Dc}(h:es[i]?=ι d):AJ (es.take (i+1))=AJ (es.take i)++d.addrs:=by
 rw[j2,h,AQ];simp[AJ]
theorem JB(es:List Dc)(i:Nat):AJ es=AJ (es.take i)++AJ (es.drop i):=by rw[<-AQ,x5]
theorem RU(h:c∈AJ (es.take i)):c∈AJ es:=by rw[JB es i];exact e9 _ h
theorem Gv{es:List Dc}(nd:(AJ es).Nodup)(h:es[i]?=ι d){c:Addr}(a:c∈d.addrs):c∈AJ es/\c∉AJ (es.take i):=by
 have e:=JB es<|i+1;rw[GW h]at e;have m:c∈AJ es:=by rw[e];exact e9 _<|gl _ a
 refine⟨m,λz=>?_⟩;rw[e]at nd;exact(i3.mp (i3.mp nd).1).2.2 c z c a rfl
end Dc
namespace Dc
mutual
theorem lS:∀d:Dc,d.At e->∀b∈d.addrs,(∃xs,Rd e b (.lst xs))∨∃kvs,Rd e b (.dK kvs)
 |leaf v,_,b,c=>by simp[addrs]at c
 |row a xs,h,b,c=>by
  simp only[At]at h;simp only[addrs]at c;rcases ca.mp c with rfl|c
  ·exact .inl ⟨_,h.1⟩
  ·exact PD xs h.2 b c
 |tab a ks xs,h,b,c=>by
  simp only[At]at h;simp only[addrs]at c;rcases ca.mp c with rfl|c
  ·exact .inr ⟨_,h.1⟩
  ·exact PD xs h.2.2.2 b c
theorem PD:∀xs:List Dc,EC c xs->∀b∈AJ xs,(∃xs,Rd c b (.lst xs))∨∃kvs,Rd c b (.dK kvs)
 |[],_,b,a=>by simp[AJ]at a
 |x::r,h,b,a=>by
  simp only[EC]at h;simp only[AJ]at a;rcases db.mp a with a|a
  ·exact lS x h.1 b a
  ·exact PD r h.2 b a
end
end Dc
def only(Z:List Addr)(H:Hp):Hp:=NK Z H λ_=>ν
theorem VH(h:a∈Z):only Z H a=H a:=Ih h
theorem MC(h:a∉Z):only Z H a=none:=By h
theorem Gw(h:only Z H a=ι o):a∈Z/\H a=ι o:=by
 by_cases m:a∈Z
 ·rw[VH m]at h;exact⟨m,h⟩
 ·rw[MC m]at h;cases h
theorem Zq [BW K] (h:d.At H):Val (only d.addrs H) d.val d.tr:=d.Ua<|Dc.Em d (λc a o e=>by rw[VH a];exact e) h
theorem cR{a:Hp}(h:d.At a)(kf:KF K a):KF K (only d.addrs H):=λb o e=>by
 by_cases m:b∈d.addrs
 ·exact absurd (kf b o e)<|Dc.there h m
 ·exact MC m
theorem RV(s:∀c∈d.addrs,∀o,H c=ι o->H' c=ι o)(own:∀c∈d.addrs,∀o u,H c≠ι (.BK o u)):cB (only d.addrs H) H':=λb u _ r=>by
 rcases r with r|⟨o,r⟩
 ·obtain⟨m,e⟩:=Gw r;exact s b m u e
 ·obtain⟨m,e⟩:=Gw r;exact absurd e<|own b m o u
noncomputable def HO.lt:HO->Bool
 | .lst _=>true
 | .tup _=>true
 |_=>false
variable{o:HO}
theorem GX{a:Addr}{kvs:List (Key×V)}(r:Rd H a (.dK kvs))(h:H D=ι o)(b:HO.lt o=true:=by rfl):D≠a:=by
 rintro rfl;rcases r with r|⟨c,r⟩<;>rw[h]at r<;>cases r<;>cases b
theorem Je{G a c:Hp}(d:H D=ν)(f:Dl G H)(k:Dl G a)(s:∀b e,b≠D->a b=ι e->c b=ι e):Dl G c:=
 cH k (λu r=>by rcases f.rd _ _ r with h|⟨g,h⟩<;>rw[d]at h<;>cases h) s
theorem FE{c f g:Hp}{a:Addr}{j:Obj}{kvs:List (Key×V)}(F:PQ a j kvs c f)(k:H D=ν)(i:AF H c)(l:∀b e,b≠D->f b=ι e->g b=ι e):AF H (back a c g):=λb e h=>by
 by_cases d:b=a
 ·subst d;rw[IU];exact i _ _ h
 ·rw[CA d];refine l b e (Bw h k) ?_;rw[F.ne b d];exact i _ _ h
theorem DP{a c:Hp}(f:∀b e,b≠D->a b=ι e->c b=ι e)(s:AF c H'):∀b e,b≠D->a b=ι e->upd H' D o b=ι e:=λb e d g=>by
 rw[AH d];exact s _ _<|f b e d g
theorem DZ{kvs:List (Key×V)}{ks:List Str}(h:kvs.map (·.1)=ks.map d0):kvs.length=ks.length:=by
 have:=congrArg pp h;simpa using this
theorem Jf{kvs:List (Key×V)}{ks:List Str}(h:kvs.map (·.1)=ks.map d0)(nd:ks.Nodup):(kvs.map (·.1)).Nodup:=by
 rw[h];exact Q8.mpr<|nd.imp λh e=>h<|A5 e
theorem VI{a:Type _}{l:List a}{k:Nat}{x:a}(h:l[k]?=ι x):l.drop k=x::l.drop (k+1):=by
 have b:=DR h;rw[j3 b];rw[ACu b]at h;rw[ACw h]
inductive RW(d:Addr)(b:Sp)(vs:List V)(H:Hp)(Q:VK):Prop
 |mk(v:V)(I:Nat->List V->Hp->Nat->Prop)(g:Nat)(h:vs=[v,.ref d])(i:∀H',AF H H'->I 0 [v] H' g)(j:∀L k es c m x,H L=ν->AF H c->c L=ι (.lst es)->I k es c m->es[k]?=ι x->∀e:VK,(∀p a H2,AF c H2->H2 p=ι (.lst a)->es.length+a.length<=sizeLine->(∃f,f<m/\I (k+1) (es++a) (upd H2 L (.lst (es++a))) f)->e (.ref p) H2)->b [x] c e E0)(l:∀p es H' m,AF H H'->H p=ν->H' p=ι (.lst es)->I es.length es H' m->Q (.ref p) H'):RW d b vs H Q
def cS(b:Addr)(a:Sp):Sp:=λc H Q _=>RW b a c H Q
def Zr(o:Obj):Bool:=match o.data with
 | .fields a=>a.isEmpty
 |_=>false
def tabOf(o:Obj):Option Addr:=match o.data with
 | .fields a=>(match(a[11]?:Option b7)with|some (.ref T)=>ι T|_=>ν)
 |_=>ν
def Kn(K:ACy):ACy:=K.filter λp=> !Zr p.2
section
theorem EM:∀{K:ACy}{a:Addr}{e:Obj},K.lookup a=ι e->Zr e=false->(Kn K).lookup a=ι e
 |[],_,_=>λh _=>by cases h
 |(b,x)::r,a,e=>λh t=>by
  unfold Kn;rw[j7]at h;rw[w8];cases c:a==b with
  |true=>
   rw[c]at h;cases h;simp only[t,Bool.not_false,if_true,j7,c]
  |false=>
   rw[c]at h;have d:=EM (K:=r) h t;unfold Kn at d;split
   ·rw[j7,c];exact d
   ·exact d
theorem Bk(h:B1 K a x=ι v):B1 (Kn K) a x=ι v:=by
 unfold B1 at h⊢;split at h
 ·rename_i e
  rw[EM e rfl];exact h
 ·cases h
theorem MD(h:x9 K c q=true):x9 (Kn K) c q=true:=by
 unfold x9 at h⊢;split at h
 ·split at h
  ·rename_i a _ e
   rw[EM e (by
    show a.isEmpty=false;cases b:a.isEmpty with
    |false=>rfl
    |true=>
     rw[Array.isEmpty_iff]at b;rw[b]at h;cases h)]
   exact h
  ·cases h
 ·cases h
theorem ME(h:K.lookup f=ι ⟨a,e,.func c,sl⟩):n8 (Kn K) (.ref f)=true:=by
 unfold n8;simp only[EM h rfl]
theorem iW(A:PySem.W.X.AllIn h K):(Kn K).In h:=λa o e=>by
 have m:=aal e;have b:(a,o)∈K:=(C5.mp m).1;clear m e
 induction K with
 |nil=>cases b
 |cons p r c=>
  rcases ca.mp b with rfl|b
  ·exact A.1
  ·exact c A.2 b
theorem iX(e:(Kn K).lookup a=ι c):Zr c=false:=by
 have m:=(C5.mp<|aal e).2;simpa using m
end
inductive cU(K:ACy)(T:Addr)(vs:List V)(H:Hp)(Q:VK)(b:XK):Prop
 |mk(a:Addr)(ns:List Int)(c:vs=[.ref a])(d:Ag K H a (ns.map V.int))(e:ns.length<=63)(f:H T=ι (.Ju #[]))(g:∀H',Q (.bl true) H')
def MF(K:ACy)(T:Addr):Sp:=λb H Q a=>cU K T b H Q a
variable{mg:Str->Option b7}{P:om}
theorem Wg{w:u8}{U:Str->Option b7}{k:Nat}{fa a c:Addr}{fd:j4}{f:d8}{vs:List b7}{ns:List Int}(X:K.In f.heap)(E:f.heap.Ns ul mg)(i:f.heap.Ns aab U)(Y:∀x:Str,x≠"__name__"->U x=rc x)(G:f.heap.NoLimit)(Z:BM mg f.heap)(hg:f.gens= #[])(C:f.heap.get? a=ι {cls:=.type "list",data:=.seq vs.toArray})(hi:acY vs ns)(hl:ns.length<=63)(hr:BX k Z9)(D:f.heap.get? T=ι (E1 #[]))(hC:D4 K c T=true)(ym:∀o,K.lookup T≠ι o)(F:∀base:Heap,K.In base->base.Ns ul mg->BM mg base->Ab P w K mg base Bs k fa fd [x] (MF K T))(y:∀(s:d8) (u:b7),abO s fd ⟨[u],[]⟩ [(x,u)]):
  E8 (i7 P w) Z9 (.call (.ref fa) ⟨[.ref a],[]⟩) (λr l=>r=.ok (.ret (.bool true))/\OldK f.heap l.heap/\l.os=f.os/\W9 l.gens) f:=by
 have rv:=Ve hi;have I:=hi.length;have J:ns.length<=sizeLine:=j5 hl (by decide);have aT:a≠T:=λz=>by rw[z,D]at C;cases C
 have core:∀H:Hp,Ag K H a (ns.map V.int)->Ee P w H f.heap->H T=ι (.Ju #[])->(∀b,H b=ν∨b=T∨(b=a/\∃o u,H b=ι (.BK o u)))->(H a≠ν->K.lookup a=ν)->
   E8 (i7 P w) Z9 (.call (.ref fa) ⟨[.ref a],[]⟩) (λr l=>r=.ok (.ret (.bool true))/\OldK f.heap l.heap/\l.os=f.os/\W9 l.gens) f:=by
  intro H hS L M hA hK;have g:∀{b:Addr}{o:Obj},f.heap.get? b=ι o->H b=ν->(MO f.heap H).get? b=ι o:=λe n=>Wz e n;have N:∀{b:Addr}{o:Obj},f.heap.get? b=ι o->(∀A n,o.data≠.seq A n)->(∀A,o.data≠.fields A)->H b=none:=λ{b o} e Q d2=>by
   rcases hA b with z|rfl|⟨rfl,_⟩
   ·exact z
   ·rw[D]at e;cases e;exact absurd rfl<|d2 #[]
   ·rw[C]at e;cases e;exact absurd rfl<|Q _ _
  have yn:∀{b:Addr}{o:Obj}{R:Array DictEntry}{S:Nat},f.heap.get? b=ι o->o.data=.dict R S->H b=none:=λ{b o R S} e d=>N e (λA n q=>by rw[d]at q;cases q) λA q=>by rw[d]at q;cases q
  have p:∀{b:Addr}{m:Str->Option b7},f.heap.Ns b m->(MO f.heap H).Ns b m:=λ{b m} ⟨o,R,S,e,d,r⟩=>⟨o,R,S,g e (yn e d),d,r⟩;have O:K.In (MO f.heap H):=λb o e=>g (X b o e) (by
   rcases hA b with z|rfl|⟨rfl,o2,u2,z⟩
   ·exact z
   ·exact absurd e<|ym o
   ·rw[hK (by rw[z];simp)]at e;cases e)
  have hM:Mod K mg (MO f.heap H):=⟨O,p E,⟨U,p i,Y⟩,let⟨mc,h1,h2⟩:=G;⟨mc,p h1,h2⟩⟩;have yo:BM mg (MO f.heap H):=by
   obtain⟨bm,ob,b1,b2,b3,b4,b5,b6⟩:=Z;exact⟨bm,ob,b1,b2,g b3 (N b3 (λA n q=>by rw[b6]at q;cases q) λA q=>by rw[b6]at q;cases q),b4,b5,b6⟩
  have e0:Pj P w K mg (MO f.heap H) Z9 [] f H:=⟨rfl,hM,λb o e=>aV e,adT<|VO _ _,trivial,λb i=>absurd (show b∈([]:List Addr)from i)<|by simp,L,.of_eq hg⟩;refine KB ((F _ O (p E) yo).run Z9 [] f H ⟨[.ref a],[]⟩ [.ref a] [.ref a] (λv _=>v=.bl true) (λ_ _ _=>False) hr e0 (y f<|.ref a) (.cons rfl .nil) ⟨a,ns,rfl,hS,hl,M,λ_=>rfl⟩) λr l h=>?_;cases r with
  |error e=>exact wv h
  |ok fl=>
   cases fl with
   |next=>exact wv h
   |brk=>exact wv h
   |cont=>exact wv h
   |ret u=>
    obtain⟨v,H',os,bare,un,t,r',q⟩:=h;have q':v=.bl true:=q;subst q';obtain rfl:u=G3 true:=r';obtain⟨more,eT⟩:=un.HU T #[] M;have gT:l.heap.get? T=ι (E1<|#[]++more):=t T _ eT;have kp:∀b o,b≠T->f.heap.get? b=ι o->l.heap.get? b=ι o:=λb o n e=>by
     rcases hA b with z|z|⟨rfl,ob,u,z⟩
     ·exact un.keep b o e z (by intro z;exact absurd (show b∈([]:List Addr)from z)<|by simp)<|by simp
     ·exact absurd z n
     ·have z2:=un.Ef b ob _ z;obtain⟨e1,_⟩:=L b _ z;obtain⟨e2,_⟩:=t b _ z2;rw[e]at e1;cases e1;exact e2
    refine⟨rfl,⟨λb o e=>?_,λb o e=>?_⟩,os,bare⟩
    ·by_cases z:b=T
     ·subst z;rw[D]at e;cases e;exact .inr<|.inl ⟨((abf X hC).tab D).isCodeTable,rfl, #[],more,rfl,gT⟩
     ·exact .inl<|kp b o z e
    ·by_cases z:b=T
     ·exact⟨_,by rw[z];exact gT⟩
     ·exact⟨o,kp b o z e⟩
 cases hk:K.lookup a with
 |some o=>
  have e:=X a o hk;rw[C]at e;cases e;refine core (λb=>if b=T then ι (.Ju #[])else ν) (.inr ⟨_,vs.toArray,_,hk,rfl,rfl,rfl,by rw[cr,I];exact J,by simpa using rv⟩) (λb u z=>?_) (if_pos rfl) (λb=>?_) λz=>absurd (if_neg aT) z
  ·by_cases i:b=T
   ·have j:=(if_pos i).symm.trans z;cases j;subst i;exact D
   ·have j:=(if_neg i).symm.trans z;cases j
  ·by_cases i:b=T
   ·exact .inr<|.inl i
   ·exact .inl (if_neg i)
 |none=>
  have Q:(λb=>if b=T then ι (.Ju #[])else if b=a then ι (HO.BK {cls:=.type "list",data:=.seq vs.toArray}<|.lst<|ns.map V.int)else ν:Hp) a=ι (HO.BK {cls:=.type "list",data:=.seq vs.toArray}<|.lst<|ns.map V.int):=by
   show(if a=T then _ else if a=a then _ else _)=_;rw[if_neg aT,if_pos rfl]
  refine core (λb=>if b=T then ι (.Ju #[])else if b=a then ι (.BK {cls:=.type "list",data:=.seq vs.toArray}<|.lst<|ns.map V.int)else ν) (.inl<|.inr ⟨{cls:=.type "list",data:=.seq vs.toArray},Q⟩) (λb u z=>?_) (if_pos rfl) (λb=>?_) λ_=>hk
  ·by_cases i:b=T
   ·have j:=(if_pos i).symm.trans z;cases j;subst i;exact D
   ·have j:=(if_neg i).symm.trans z;by_cases i:b=a
    ·have j:=(if_pos i).symm.trans j;cases j;subst i;exact⟨C,by rw[ap];exact J,vs,_,rv,C⟩
    ·have j:=(if_neg i).symm.trans j;cases j
  ·by_cases i:b=T
   ·exact .inr<|.inl i
   ·by_cases B:b=a
    ·exact .inr<|.inr ⟨B,_,_,by rw[B];exact Q⟩
    ·exact .inl<|by show(if b=T then _ else if b=a then _ else _)=_;rw[if_neg i,if_neg B]
theorem Zs{l:acQ}{k:Nat}{q:om}{loose:List Str}{M:(Str->Option b7)->Heap->Prop}{d:DefRec}{K:adP->ACy}{as:List Addr}{n t:Nat}(e:∀P:adP,as=V3 (λx=>x.fst) (K P))(N:l.most=ι 63)(p:d.params.defaults=[])(O:BX k Z9)(F:∀(w:u8) (mg:Str->Option b7) (fa:Addr) (h:Heap),(Kn (K w.params)).In h->h.Ns ul mg->mg d.name=ι (.ref fa)->
   ∃(r:j4) (c T:Addr),(K w.params).lookup T=ι (E1 #[])/\D4 (Kn (K w.params)) c T=true/\(∀(s:d8) (u:b7),abO s r ⟨[u],[]⟩ [(x,u)])/\
    ∀base:Heap,(Kn (K w.params)).In base->base.Ns ul mg->BM mg base->Ab l.prog w (Kn (K w.params)) mg base Bs k fa r [x] (MF (Kn (K w.params)) T)):
  adD q loose M (PySem.W.X.obsZ as) (PySem.W.X.valZ K n t) l.row.toRowW d [] (λf vs=>adf f vs):=by
 intro w j i mg E G y a o H I doc Q kV R S U V Z h6 args vals v L p1 p2 p3 p4 p5;have AK:=(PySem.W.X.z_facts e y).1;have A:(K w.params).In i.heap:=(show(K w.params).In j.heap from(PySem.W.X.z_facts e y).2.1).keeps L.keeps;have B:(Kn (K w.params)).In i.heap:=(iW AK).keeps L.keeps;refine vE.Pw (l:=l) (YP:=λw h=>(K w.params).In h/\(Kn (K w.params)).In h) N p (λw j i mg E fa o H I doc a vs ns G Y ho hd vR C m hints hlen hg=>?_) w j i mg E G ⟨A,B⟩ a o H I doc Q kV R S U V Z h6 args vals v p1 p2 p3 p4 p5;obtain⟨KF,D⟩:=Y;obtain⟨r,c,T,hT,hC,hb,hF⟩:=F w mg fa _ D G.T.g C;have J:=KF _ _ hT;exact Wg D G.T.g G.T.b G.T.builtins G.T.nolimit G.T.bmain hg m hints hlen O J hC (λo z=>by
  have:=D _ _ z;rw[J]at this;cases this;have:=iX z;cases this) hF hb
section
theorem VJ(h:abq K x c=ι v):abq (Kn K) x c=ι v:=by
 cases c with
 |ref a=>
  unfold abq at h⊢;dsimp only at h⊢;split at h
  ·rename_i e
   rw[EM e rfl];exact Bk h
  ·cases h
 |_=>exact h
theorem Nl:∀{l:List b7}{v:Option b7},aav K x l=ι v->aav (Kn K) x l=ι v
 |[],v=>λh=>h
 |c::r,v=>λh=>by
  unfold aav at h⊢;split at h
  ·rename_i e
   rw[VJ e];exact h
  ·rename_i e
   rw[VJ e];exact Nl h
  ·cases h
theorem Zt(h:q7 K c x=ι v):q7 (Kn K) c x=ι v:=by
 cases c with
 |ref a=>
  unfold q7 at h⊢;dsimp only at h⊢;split at h
  ·rename_i e
   rw[EM e rfl];exact Nl h
  ·cases h
 |_=>exact h
end
theorem HH{p:Addr}(h:H p=ν):∃H',upd H p o=H'/\AF H H'/\H' p=ι o:=⟨_,rfl,AF.new h,AA⟩
theorem BX.mm{j k:Nat}(r:BX k A)(h:j<=k:=by first|decide|lia):BX j A:=r.mono h
theorem Bx(K:ACy){j:Int}(i:Nat){y:_}{b c pos:Pos}(d:X.N[i]?=ι x:=by rfl)(f:nP X.env.scope x:=by first|exact X4 rfl|exact Op (X4 rfl)|exact Op (Op rfl))(g:(x==("__debug__":Str))=false:=by decide)(a:(x==("__classdict__":Str))=false:=by decide)(e:X.K=K:=by rfl):PE X (.Subscript (.Name x b) (.Constant (.int j) y c) pos) (Wu (SK K) (IA i) (tC (.int j))):=by
 subst e;exact ID SM (pv i d f g a) AG λ_ _=>rfl
variable{e:u7}{a:TE}
theorem Ad(i:Nat){pos pos':Pos}(b:X.N.Nodup)(c:PE X e a)(d:X.N[i]?=ι x:=by rfl)(f:Loc X.env.scope x:=by exact X4 rfl)(g:U7 e (ι (.Name x pos')) pos.line X.env=pure false:=by rfl)(h:X.fn x=true∨X.env.scope.names.lookup x=ι .local:=by first|exact .inl rfl|exact .inr rfl|assumption):
  PS X (.Assign [.Name x pos'] e pos) (aX a (Aj i)):=Dy b d f c g h
theorem RX{x y z:V}:[x,y,z].length<=sizeLine:=Au<|show 3<=1000 by decide
theorem Bp(i:Nat){pos:Pos}(a:X.N.Nodup)(b:X.N[i]?=ι x:=by rfl)(c:Loc X.env.scope x:=by exact X4 rfl)(d:X.fn x=true∨X.env.scope.names.lookup x=ι .local:=by first|exact .inl rfl|exact .inr rfl|assumption):PG X (.Name x pos) (Aj i):=Nv a b c d
variable{ps:List Str}
section
variable {w:u8} {base:Heap}
theorem Px.oq{qual:Str}{st:Stmt}{f:Addr}{c:j4}{k:Nat}{sp:Sp}(F:Px K x qual st f c)(N:List Str)(a:∀{b:b7} {A:AT} {outer:List Env} {s:d8} {vs:List V} {E:XK} (H:Hp) (e:Ends),(∀{σ H},e.rt .BB H->e.nx σ H)->N.Nodup->(A.deeper (V0 qual (BA st) s.heap.objs.size f b)).units+1<cLine->BX k (A.deeper (V0 qual (BA st) s.heap.objs.size f b))->sp vs H e.rt E->
   ∃t,PM (Nz Bs P w K mg base N qual (BA st) f b A outer s H E).dM (CQ st) t/\t e (start N vs) H)(S:FK N ps (BA st):=by exact{})(len:∀vs H Q E,sp vs H Q E->vs.length=ps.length:=by intro _ _ _ _ h;first|(obtain⟨⟩:=h;subst_vars;rfl)|(obtain⟨_,⟨⟩⟩:=h;subst_vars;rfl)|(obtain⟨_,_,_,_,_,_,rfl,_⟩:=h;rfl)|(repeat obtain⟨_,h⟩:=h);subst_vars;rfl):Ab P w K mg base Bs (k+1) f c ps sp:=F.ok S len λ_ _ _ _ H _ e _ g d h=>a H e g S.nd (Xj d) d h
end
variable{es:List u7}
theorem Nm{i:Int}{j:_}{pos:Pos}{t:TA}(h:PA X es t):PA X (.Constant (.int i) j pos::es) (D_ (tC (.int i)) t):=AE AG h
variable{p:Pos}
theorem Bc{j k:Nat}{sp:Sp}{pos:Pos}{t:TA}(D:Df X.prog X.w X.K X.mg X.base x ps k sp)(d:BX j X.A)(g:PA X (e::es) t)(h:Gl X x:=by rfl)(a:(x==("__debug__":Str))=false:=by decide)(i:jL (e::es) X.env=(false,wP e X.env)::jL es X.env:=by rfl)(c:(D6 pos (jL es X.env)).any (·.1)=false:=by rfl)(l:k<=j:=by first|decide|lia):PE X (.Call (.Name x p) (e::es) [] pos) (Pk sp [] E0 t):=by
 obtain⟨f,n,k,b,m,G⟩:=D.ex;exact Tz G (d.mono l) h m k b .nil Jj g a i c
theorem AY(h:PE X e a)(b:jL [e] X.env=(false,wP e X.env)::jL [] X.env:=by rfl):PA X [e] (D_ a JH):=AE h A' b
theorem Fp(K:ACy){a b:u7}{c d:TE}{pos:Pos}(f:PE X a c)(g:PE X b d)(h:UA b:=by exact λ_ _=>rfl)(e:X.K=K:=by rfl):PE X (.Subscript a b pos) (Wu (gD K) c d):=by
 subst e;exact ID ao f g h
theorem Nn{o i:u7}{ty:TE}{pos:Pos}(b:X.A.units+1<cLine)(c:PE X o a)(d:PE X i ty)(e:gO i:=by exact λ_ _=>rfl):PE X (.Subscript o i pos) (Xe a ty):=a_ b c d e
theorem cmp{b pos:Pos}{iter a:u7}{c:TI}{d:TE}{scope:Scope}(fv:List Str)(fs:List Nat)(e:PI X (.Name x b) iter c)(f:∀C g h i,PE (Pz X (x::fv) scope C g h i) a d)(j:X.calm=true:=by rfl)(ok:DW X scope x fv fs:=by exact .of (by rfl))(k:∀x,B9 iter X.env x=pure x:=by intro _;rfl):PE X (.ListComp a [⟨.Name x b,iter,[],0⟩] scope pos) (P_ c JM d fs):=Ge j ok e (λ_ _ _ _=>KX) f k
variable{U:String}
theorem Rq{r:List V->Hp->VK->Prop}{q pos:Pos}{y:Str}(c:Bo X (.builtin "isinstance") r)(T:Txt X.mg)(d:PE X e a)(f:X.mg y=ν)(g:rc y=ι (.type U))(h:Gl X "isinstance":=by rfl)(i:Gl X y:=by rfl)(j:y≠"__name__":=by decide)(k:(y==("__debug__":Str))=false:=by decide)(b:jL [e,.Name y q] X.env=(false,wP e X.env)::jL [.Name y q] X.env:=by rfl):PE X (.Call (.Name "isinstance" p) [e,.Name y q] [] pos) (kD r (D_ a (D_ (tC (.ty U)) JH))):=Av c h T.isinstance Cg (AE d (AE (Cp i f g rfl j k) A') b) (by decide) (by decide) b
theorem RY(K:ACy)[BW K]{q pos:Pos}{y:Str}(T:Txt X.mg)(b:PE X e a)(c:X.mg y=ν)(d:rc y=ι (.type U))(f:X.K=K:=by rfl)(g:Gl X "isinstance":=by rfl)(h:Gl X y:=by rfl)(i:y≠"__name__":=by decide)(j:(y==("__debug__":Str))=false:=by decide)(k:jL [e,.Name y q] X.env=(false,wP e X.env)::jL [.Name y q] X.env:=by rfl):PE X (.Call (.Name "isinstance" p) [e,.Name y q] [] pos) (kD (df K) (D_ a (D_ (tC (.ty U)) JH))):=by
 subst f;exact Rq Vy T b c d g h i j k
theorem Bq{j:Int}(h:0<j:=by decide):0<j:=h
theorem C_{A B:Prop}(h:A:=by decide)(a:B:=by decide):A/\B:=⟨h,a⟩
theorem HQ{a iter:u7}{body:List Stmt}{b:TI}{g:TG}{c:TS}{pos:Pos}(d:PI X a iter b)(e:PG X a g)(f:PM X body c)(h:adM (i7 X.prog X.w) X.A X.env X.xe:=by exact L0)(i:X.calm=true:=by rfl)(j:∀x,B9 iter X.env x=pure x:=by intro _;rfl):PS X (.For a iter body [] pos) (fg b g c):=fh h i d e f j
theorem BG{c:Bool}{A B:Prop}(h:B)(a:c=false:=by decide+kernel):if c=true then A else B:=BN a h
theorem DD{c:Bool}{A B:Prop}(h:A)(a:c=true:=by decide+kernel):if c=true then A else B:=Ck a h
inductive FA(K:ACy)(x:Str)(st:Stmt):Prop
 |mk(f:Addr)(b:j4)(F:Px K x x st f b)(a:B1 K ul x=ι (ι (.ref f)))
theorem fa{st:Stmt}{f:Addr}{e:b7}{g an:Option Addr}{d:Array (Option b7)}{kV doc pm b ct:b7}(a:B1 K ul x=ι (ι (.ref f)))(l:K.lookup f=ι ⟨e,g,.func (y6 x x (DF st) (CQ st) (BA st) .none kV doc pm an b ct),d⟩)(c:x9 K b x=true):FA (Kn K) x st:=⟨_,_,LD (EM l rfl) (MD c)<|ME l,Bk a⟩
end L2
namespace iY
open PySem L2
def top(i:Nat):Stmt:=PySem.Challenge.pw_patchbough_k45_one_thing_more.main.body.getD i<|.Pass ⟨0,0,0,0⟩
abbrev Fq(K:ACy)(x:Str)(i:Nat)(f:Addr)(d:j4):Prop:=Px K x x (top i) f d
abbrev Fb(K:ACy)(x:Str)(i:Nat):Prop:=FA K x<|top i
abbrev cV:Stmt:=top 18
abbrev Dx:Stmt:=top 28
abbrev Tc:Stmt:=top 58
abbrev Dk:Stmt:=inClass (top 27) 0
abbrev DQ:Stmt:=inClass (top 27) 1
inductive lT{a:Type}(c d:a->Prop):Prop
 |mk(b:a)(e:c b)(f:d b)
inductive lU{c d:Type}(e f g h i j:c->d->Prop):Prop
 |mk(a:c)(b:d)(k:e a b)(l:f a b)(m:g a b)(n:h a b)(h4:i a b)(o:j a b)
inductive lV{d e f:Type}(g h i j k l m n:d->e->f->Prop):Prop
 |mk(a:d)(b:e)(c:f)(o:g a b c)(p:h a b c)(q:i a b c)(r:j a b c)(h4:k a b c)(s:l a b c)(t:m a b c)(u:n a b c)
inductive lW{a b c d:Type}(i j k l:a->b->c->d->Prop):Prop
 |mk(e:a)(f:b)(g:c)(h:d)(m:i e f g h)(n:j e f g h)(o:k e f g h)(p:l e f g h)
abbrev aN:Pos:=⟨115,37,115,87⟩
abbrev aO:Str:="sample_of"++".<locals>."++"<lambda>"
end iY
namespace iY
open PySem L2
variable{f C TM fI:Addr}{fd l J d i e a c x:j4}{n:Nat}
section
variable{P:om} {w:u8} {K:ACy} [BW K] {mg:Str->Option b7} {base:Heap}
theorem Fg{g:Addr}{e:Sp}{B:Str}{C:j4}(F:Fq K "gathered" 1 f C)(T:Txt mg)(M:n8 K (.ref g)=true)(N:Binds K d [B] [])(O:Ab P w K mg base Bs 3 g d [B] e):Ab P w K mg base Bs 4 f C lqk (cS g e):=by
 refine F.oq ["root","inner","found","at"] λH _ _ A_ _ R h=>?_;obtain⟨v,I,S,rfl,U,st,q⟩:=h;have j:BX 3 _:=R.mono (by decide);refine⟨_,(AB (Ad 2 A_<|Af<|AY<|pv 0)<|AB (Ad 3 A_ AG)<|AB (Fw L0 (AO Jh (pv 3) (Ds K T<|pv 2)<|Aa _)<|AB (Ai<|NH K (pv 2)<|QQ (pv 1) O j M N .nil Jj<|AY<|Fp K (pv 2)<|pv 3)<|AD<|Ad 3 A_<|AN Bi (pv 3) AG)<|AD<|AM<|pv 2),?_⟩;refine⟨_,rfl,Aw,λL i=>?_⟩;have D:=AF.new (o:=.lst [v]) i;dsimp only[Aj,Kq];refine IT (λm l c=>∃(b:List V)(k:Nat),l=[ι v,ι<|.ref g,ι<|.ref L,ι<|.int (k:Int)]/\AF H c/\c L=ι (.lst b)/\I k b c m/\k<=b.length)
  S ⟨[v],0,rfl,D,AA,U _ D,d9 _⟩ ?_ (λl H Q Q' h ⟨X,e1,Y,Z,a1,n1,e3,l1,i1,j1,e4,e5,b1,e6,q⟩=>⟨X,e1,Y,Z,a1,n1,e3,l1,i1,j1,e4,e5,b1,e6,h _ _ q⟩)
 rintro m l c _ go ⟨b,k,rfl,r,a,E,hk⟩;refine⟨_,rfl,_,rfl,L,_,rfl,.inl<|Ag.of a,_,_,rfl,rfl,_,rfl,?_⟩;refine Vf (λs=>?_) λs=>?_
 ·have t:k<b.length:=by
   have:=of_decide_eq_true s;lia
  obtain⟨x,G⟩:=B' b k t;exact⟨_,rfl,.inl ⟨rfl,_,Ag.of a⟩,_,rfl,rfl,_,rfl,_,rfl,L,_,_,_,rfl,rfl,Ag.of a,Am G,st L k b c m x i r a E G _ λp u H2 J hp hz ⟨m',hm,y⟩=>⟨L,p,_,_,rfl,rfl,J _ _ a,hp,hz,_,rfl,_,_,rfl,rfl,go.n ⟨m',hm,b++u,k+1,rfl,(r.trans J).put i,AA,y,by rw[b8];lia⟩⟩⟩
 ·have A:b.length<=k:=by
   refine ZB λz=>s<|decide_eq_true ?_;lia
  cases Nat.le_antisymm hk A;exact⟨_,rfl,q L b c m r i a E⟩
theorem RZ{r:Addr}{M:j4}(F:Fq K "gathered" 1 f M)(T:Txt mg)(S:n8 K (.ref r)=true)(U:Binds K d lqw [])(V:Ab P w K mg base Bs 3 r d lqw Ld):Ab P w K mg base Bs 4 f M lqk (Ke r):=(Fg F T S U V).imp λvs H Q E h=>by
 obtain⟨G,v,t,n,rfl,X,Y,u,e,q⟩:=h;refine⟨v,λk j _ m=>∃l a,AS G j l/\Of t k l a/\k<=l.length/\Ex m (l.drop k)/\k+m=n,n+0,rfl,λ_ _=>⟨[t],[],.cons Y .nil,.start,by simp,.cons u .nil,by simp⟩,?_,?_⟩
 ·rintro L k j Hi m x hL Z yq ⟨l,a,c,o,y,z,A⟩ hx Q' k';obtain⟨tx,b,vx⟩:=c.get hx;have hkt:=DR b;obtain⟨n',hn',nx⟩:=lF z A b e;refine⟨G,x,tx,n',rfl,X.trans Z,vx,nx,λp B N H2 s2 np C g O=>?_⟩;obtain⟨_,lu,m',D,i,ek⟩:=bZ z A b O e;have R:=c.length;have qz:=g.length;have I:=i.len;rw[w4,b8]at I;exact k' p B H2 s2 C (AX<|by lia) ⟨m',D,l++N,a++[N],c.append g,.next o b O,by rw[b8];lia,i,by lia⟩
 ·rintro p j H' m s C J ⟨l,a,c,o,y,z,A⟩;have R:=c.length;rw[R]at o;exact q p j l a H' s C J c o<|by lia
theorem Ml{M:Addr}(F:Fq K "gathered" 1 f fd)(T:Txt mg)(kI:n8 K (.ref M)=true)(bI:Binds K i lql [])(GI:Ab P w K mg base Bs 2 M i lql La):Ab P w K mg base Bs 4 f fd lqk (Ot M):=(Fg F T kI bI<|GI.mono<|by decide).imp λvs H Q E h=>by
 obtain⟨G,v,t,rfl,sG,hv,hd,b,q⟩:=h;refine⟨v,λk B _ m=>∃l,AS G B l/\Pt.CF l/\k<=l.length/\Pt.AI (l.drop k)=m/\k+m=t.size/\(∀x∈t.Ll,x∈l∨∃y∈l.drop k,x∈y.Ll)/\∀n∈t.PV,(∃e j,Pt.BV e j∈l/\n∈e)∨∃y∈l.drop k,n∈y.PV,t.size,rfl,λ_ _=>⟨[t],.cons hv .nil,⟨hd,trivial⟩,by simp,by simp[Pt.AI],by simp,λx c=>.inr ⟨t,by simp,c⟩,λx c=>.inr ⟨t,by simp,c⟩⟩,?_,?_⟩
 ·rintro L k B Hi m x hL si yq ⟨l,g,dl,N,o,hk,C,D⟩ c Q' k';have le:=g.length;obtain⟨O,a,vx⟩:=g.get c;have R:=VI a;have S:=DR a;have I:=Pt.BC dl O<|ACx a;rw[R]at o;simp only[Pt.AI]at o;have z0:=Pt.size_pos O;refine⟨G,x,O,rfl,sG.trans si,vx,Pt.WN I<|by lia,λp U J H2 s2 np V r X=>?_⟩;obtain⟨du,su⟩:=Pt.ZF I X;have qz:=r.length;have ll:=Pt.CH J;have l3:=Pt.CH<|l.drop<|k+1;rw[w4]at l3;have A:(l++J).drop (k+1)=l.drop (k+1)++J:=B8 S;refine k' p U H2 s2 V (AX<|by lia) ⟨m-1,by lia,l++J,g.append r,Pt.EV λy d=>?_,by rw[b8];lia,?_,by lia,λy d=>?_,λy d=>?_⟩
  ·exact(db.mp d).elim (Pt.BC dl y)<|Pt.BC du y
  ·rw[A,Pt.Bd];lia
  ·rcases C y d with h|⟨z,b,h⟩
   ·exact .inl<|e9 _ h
   ·rw[R]at b;rcases ca.mp b with rfl|b
    ·rcases Pt.ZE I X h with⟨rfl,_⟩|⟨u,Y,h⟩
     ·exact .inl<|e9 _<|ACx a
     ·exact .inr ⟨u,by rw[A];exact gl _ Y,h⟩
    ·exact .inr ⟨z,by rw[A];exact e9 _ b,h⟩
  ·rcases D y d with⟨e,j,h,h'⟩|⟨z,b,h⟩
   ·exact .inl ⟨e,j,e9 _ h,h'⟩
   ·rw[R]at b;rcases ca.mp b with rfl|b
    ·rcases Pt.ZG I X h with⟨e,j,rfl,h2⟩|⟨u,Y,h⟩
     ·exact .inl ⟨e,j,e9 _<|ACx a,h2⟩
     ·exact .inr ⟨u,by rw[A];exact gl _ Y,h⟩
    ·exact .inr ⟨z,by rw[A];exact e9 _ b,h⟩
 ·rintro p B H' m s V Z ⟨l,g,dl,N,o,hk,C,D⟩;have le:=g.length;rw[le,J0]at o C D;simp only[Pt.AI]at o;exact q p B l H' s V Z g (by lia) dl (λx c=>(C x c).resolve_right λ⟨y,d,_⟩=>nomatch d) λx c=>(D x c).resolve_right λ⟨y,d,_⟩=>nomatch d
theorem Mm{B:Addr}{Z:j4}(F:Fq K "gathered" 1 f Z)(T:Txt mg)(kI:n8 K (.ref B)=true)(bI:Binds K e ["entry"] [])(GI:Ab P w K mg base Bs 2 B e ["entry"] eM):Ab P w K mg base Bs 4 f Z lqk (U' B):=(Fg F T kI bI<|GI.mono<|by decide).imp λvs H Q E h=>by
 obtain⟨G,v,a,rfl,sG,en,C,D,I,q⟩:=h;refine⟨v,λk n Hi m=>∃l,Paired (HG (K:=K) G Hi) n l/\Ak.Jb a k l/\k<=l.length/\Ak.DU ((l.drop k).map (·.2))=m/\k+m<=a.wt/\∀q∈l,q.2.Be/\q.2.wt<=900/\q.1.length+q.2.deep<=60,a.wt,rfl,λ_ s=>⟨[([],a)],.cons (en.up λb r h=>s _ _ h) .nil,.start,by simp,by simp[Ak.DU],by simp,λq hq=>by rw[bi.mp hq];exact⟨C,D,by simpa using I⟩⟩,?_,?_⟩
 ·rintro L k n Hi m x hL si J ⟨l,g,t,M,N,hk,u⟩ hx Q' k';obtain⟨le,gt⟩:=GU g;obtain⟨tx,c,vx⟩:=gt hx;have ed:=VI c;have O:=DR c;obtain⟨z,o2,o3⟩:=u tx<|ACx c;rw[ed]at N;simp only[ge,Ak.DU]at N;refine⟨G,x,tx,rfl,sG.trans<|.of si,vx,z,o2,by lia,λp R i S U np X A j=>?_⟩;have kw:=A.wt z;have kf:=A.yk z;have ko:=A.ok z;obtain⟨qz,_⟩:=GU j;have l1:=Ak.CH (i.map (·.2));have l2:=Ak.CI (i.map (·.2));have l3:=Ak.CH ((l.drop<|k+1).map (·.2));have l4:=Ak.CI ((l.drop<|k+1).map (·.2));rw[ap]at l1 l3;rw[w4]at l3;have d2:=U _ _ J;have up:∀(o:List V)(b:Addr)(r:List V),S b=ι (.tup r)->upd S L (.lst o) b=ι (.tup r):=λo=>Bn d2;have e2:(l++i).drop (k+1)=l.drop (k+1)++i:=B8 O;refine k' p R S U X (AX<|by lia) ⟨_,?_,l++i,RD (Oz g λb r h=>up _ _ _<|U _ _ h)<|Oz j<|up _,.next t c A,by rw[b8];lia,rfl,?_,λy d=>?_⟩
  ·rw[e2,io,Ak.EI];lia
  ·rw[e2,io,Ak.EI];lia
  ·rcases db.mp d with d|d
   ·exact u y d
   ·have:=Ak.Bu (T8 (f:=(·.2)) d);exact⟨ko y d,by lia,by have:=kf y d;lia⟩
 ·rintro p n H' m s X Y ⟨l,g,t,M,N,hk,u⟩;obtain⟨le,gt⟩:=GU g;rw[le]at t hk;exact q p n l H' s X Y g t (by lia) u
theorem Wh{vS:j4}(F:Fq K "folded" 2 f fd)(T:Txt mg)(d:Df P w K mg base "gathered" lqk 4 (Ke fI))(kI:n8 K (.ref fI)=true)(bI:Binds K vS lqw [])(GI:Ab P w K mg base Bs 3 fI vS lqw Ld):Ab P w K mg base Bs 8 f fd lqB (Uo P w K mg base fI):=by
 refine F.oq ["root","inner","join","found","told","end","at","start"] λH _ _ A_ _ hr h=>?_;obtain⟨R,D,Z,Iv,G,v,t,fJ,fdJ,psJ,rfl,sG,gz,hv,hD,hN,eA,kJ,bJ,GJ,N,yr,q⟩:=h;have yt:BX 3 _:=hr.mono (by decide);have yu:BX 7 _:=hr.mono (by decide);refine⟨_,(AB (Ad 3 A_<|Bc d hr<|AE (pv 0)<|AY<|pv 1)<|AB (Ad 4 A_<|AN XZ (Af<|AY fY)<|Ds K T<|pv 3)<|AB (Ad 5 A_<|Ds K T<|pv 3)<|AB (HQ (WC rfl T.range<|AE (AN Fy (Ds K T<|pv 3) AG)<|AE (Pe Kt AG)<|AY<|Pe Kt AG) (Bp 6 A_)<|AB (Ad 7 A_<|AN Fy (pv 5)<|Ds K T<|QQ (pv 1) GI yt kI bI .nil Jj<|AY<|Fp K (pv 3)<|pv 6)<|AB (XE (Yt (pv 2) GJ yu kJ bJ .nil Jj<|AE (Fp K (pv 3)<|pv 6)<|AY<|D' (r:=gH K) UB (pv 4) (EN<|pv 7)<|EN<|pv 5)<|XC (pv 4) (pv 6) set_list)<|AD<|Ad 5 A_<|pv 7)<|AD<|AM<|Fp K (pv 4) AG),?_⟩;obtain⟨n0,yw,jV⟩:=hN _ hD;refine⟨_,rfl,_,rfl,G,v,t,n0,rfl,sG,hv,jV,yw,λp es g c H1 s1 np hp vl bf l9'=>?_⟩;have l9:g.length<=20000:=by lia
 have B:=Yv hD eA bf;have le:=vl.length;have qx:=B.len;have l0:1<=g.length:=by rw[B.eq];simp
 refine⟨Aw,.mk λp0 H2 q_ t0 f0=>⟨_,rfl,p,_,rfl,.inl<|Ag.of<|t0 _ _ hp,p0,_,_,rfl,rfl,f0,by lia,by lia,AX<|by simp;lia,λm u=>?_⟩⟩;have e1:(i9 ((es.length:Nat):Int).toNat [V.BB]).flatten=i9 es.length .BB:=by
  rw[pc];generalize es.length=n
  induction n with
  |zero=>rfl
  |succ n ih=>rw[C6,v0,ih];rfl
 rw[e1];obtain⟨O,eH,tT,fT⟩:=HH (o:=.lst<|i9 es.length .BB) u;rw[eH];clear eH;have s13:=t0.trans tT;have Y:=s1.trans s13;have E:=s13 _ _ hp;have Q:H m=none:=(s1.trans t0).free u;refine⟨_,rfl,p,_,rfl,.inl<|Ag.of E,_,rfl,p,_,rfl,.inl<|Ag.of E,_,_,rfl,rfl,_,rfl,_,rfl,g.length,by rw[le],by lia,?_⟩;have vT:∀{l:List Int}{Ha Hb:Hp},AF Ha Hb->Iv l Ha->Iv l Hb:=λ{l Ha Hb} s h=>N.up l Ha Hb (λb S=>by obtain⟨o,e,_⟩:=N.Fl l Ha h b S;rw[e,s _ _ e]) h;have I:=vT Y yr;have vU:m∉Z:=λz=>by obtain⟨o,e,no⟩:=N.Fl _ _ I m z;rw[fT]at e;exact no _ (ACw e).symm
 have yx:p∉Z:=λz=>by obtain⟨o,e,no⟩:=N.Fl _ _ I p z;rw[E]at e;exact no _ (ACw e).symm
 have z3:∀b∈Z,O b≠none:=λb S=>by obtain⟨o,e,_⟩:=N.Fl _ _ I b S;rw[e];simp
 have yy:∀b∈Z,b≠m:=λb S z=>vU (by rw[<-z];exact S);refine Ym (n:=g.length) (λi σ J=>∃(A:List V)(fs:List (List Int))(o6 o7:Option V),σ=[ι v,ι<|.ref fI,ι<|.ref fJ,ι<|.ref p,ι<|.ref m,ι<|.int ((1+(c.take i).flatten.length:Nat):Int),o6,o7]/\Bz (m::Z) O J/\J m=ι (.lst A)/\cE R O J g A fs i/\Iv (live fs i<|1+(c.take i).flatten.length) J/\(live fs i<|1+(c.take i).flatten.length).length+i<=g.length) ⟨_,i9 g.length [],ν,ν,?_,.of<|AF.refl _,fT,⟨by simp[le],by simp,λj x h1 h2=>?_⟩,?_,?_⟩ ?_ ?_
 ·rw[<-qx,im,le,B.eq,g6,aae];rfl
 ·have:=DR h2;lia
 ·have e0:live (i9 g.length ([]:List Int)) g.length (1+(c.take g.length).flatten.length)=[]:=by
   unfold live;rw[K5<|by simp];simp
  rw[e0];exact I
 ·have e0:live (i9 g.length ([]:List Int)) g.length (1+(c.take g.length).flatten.length)=[]:=by
   unfold live;rw[K5<|by simp];simp
  rw[e0];simp
 ·refine λi σ J _ go hi h0=>DB λX hX=>?_;obtain⟨A,fs,o6,o7,rfl,M,hT,F,iv,lv⟩:=h0;obtain⟨x,hx⟩:=B' g i hi;obtain⟨ks,vV⟩:=B' c i (by lia);obtain⟨b1,b2,b3,b4⟩:=B.at_ vV;have kd:=B.kids i x ks hx vV;have ox:=B.ok x (ACx hx);obtain⟨nx,lnx,yz⟩:=hN _ ox;obtain⟨y,hy,vy⟩:=vl.get' hx;have vW:AF G J:=λb o e=>M.keep b o (λz=>by
   rcases ca.mp z with rfl|z
   ·rw[sG _ _ e]at Q;cases Q
   ·rw[gz b z]at e;cases e) (Y _ _ (sG _ _ e))
  have y_:m≠p:=λz=>by rw[z]at u;rw[t0 _ _ hp]at u;cases u
  have nu:J p=ι (.lst es):=M.keep p _ (λz=>by
   rcases ca.mp z with z|z
   ·exact y_ z.symm
   ·exact yx z) E
  subst hX;refine⟨_,rfl,_,rfl,rfl,_,rfl,_,rfl,p,_,_,_,rfl,rfl,Ag.of nu,Am hy,G,y,x,nx,rfl,vW,vy,yz,λpI zA C H4 s4 nI hI lX zC=>?_⟩;have ek:=zC.one kd;subst ek;have qz:=lX.length;refine⟨pI,_,rfl,.inl<|Ag.of hI,_,_,rfl,rfl,?_⟩;have zD:(((1+(c.take<|i+1).flatten.length:Nat):Int))-((zA.length:Nat):Int)=((1+(c.take i).flatten.length:Nat):Int):=by lia
  rw[zD];have zE:=s4 _ _ hT;have iZ:=s4 _ _ nu;refine⟨_,rfl,rfl,_,rfl,_,rfl,p,_,_,_,rfl,rfl,Ag.of iZ,Am hy,_,rfl,_,rfl,_,rfl,_,rfl,_,rfl,m,A,rfl,Ag.of zE,λpS vX=>?_⟩;rw[Yq A _ _ (by lia)<|by rw[F.len];lia,show 1+(c.take<|i+1).flatten.length-(1+(c.take i).flatten.length)=C.length by lia];obtain⟨cs,g1,g2⟩:=F.slice C.length (1+(c.take i).flatten.length) (by lia) b4;rw[b2]at g1;obtain⟨H5,eH,t5,f5⟩:=HH (o:=.lst<|(A.drop<|1+(c.take i).flatten.length).take C.length) vX;rw[eH];clear eH;have U:=s4.trans t5;have rA:∀b,H5 b=ν->O b=none:=λb h=>M.Fl b<|U.free h;have vY:=TQ (fs:=fs) (i:=i) (e:=1+(c.take i).flatten.length) (k:=C.length) (by lia) (by rw[F.jU];exact b4);rw[<-b3]at vY;rw[vY]at iv lv;have zF:AF G O:=λb o e=>Y _ _<|sG _ _ e;refine⟨O,y,x,pS,_,C,cs,_,live fs (i+1)<|1+(c.take i).flatten.length,rfl,vW.trans U,vy,ox,f5,M.Fl _<|s4.free vX,rA,zF,z3,kd,g1,g2.up<|CT (λb h=>h) λb o _ h=>U _ _ h,vT U iv,by lia,λw b f H6 L vw gd lY lf6=>?_⟩;have rB:=L.keep _ _ vU<|U _ _ hT;have tl:i<A.length:=by rw[F.len];exact hi
  refine⟨_,rfl,_,rfl,m,A,_,i,rfl,rfl,rB,by unfold T';rw[if_pos<|by lia,if_pos<|by lia,pc],_,rfl,?_⟩;have vZ:O m≠none:=by rw[fT];simp
  have lst:=ZI (fs:=fs) (i:=i) (e:=1+(c.take i).flatten.length) (fr:=f) (by lia) (by rw[F.jU];exact hi);have zG:Bz (m::Z) H5 H6:=⟨λb o n e=>L.keep b o (λz=>n<|b9 _ z) e,L.Fl⟩;refine go.n ⟨A.set i w,fs.set i f,_,_,rfl,((M.trans<|.of U).trans zG).put dL,AA,F.set (λb o h1 h2=>?_) hx gd<|vw.up<|CT (λb h=>h) λb o h1 h2=>?_,?_,?_⟩
  ·rw[AH λz=>vZ<|by rw[<-z];exact h1];exact L.keep b o (λz=>z3 b z h1)<|U _ _ h2
  ·rw[AH λz=>vZ<|by rw[<-z];exact h1];exact h2
  ·rw[lst];exact N.up _ H6 _ (λb S=>AH<|yy b S)<|N.pm _ _ _ ww lY
  ·rw[lst];simp only[b8]at lv⊢;lia
 ·rintro σ J ⟨A,fs,o6,o7,rfl,M,hT,F,iv,lv⟩;obtain⟨w,b,f,g1,g2,g3,g4⟩:=F.val 0 t (d9 _) (by rw[B.eq];rfl);have e0:live fs 0 (1+(c.take 0).flatten.length)=f:=by
   unfold live;cases fs with
   |nil=>cases g2
   |cons a r=>cases g2;simp
  rw[e0]at iv;refine⟨_,rfl,m,A,0,w,rfl,rfl,Ag.of hT,Am g1,q w b f J ⟨λb o n e=>M.keep b o (λz=>?_)<|Y _ _ e,λb h=>Y.free<|M.Fl b h⟩ (g4.up<|CT (λb h=>Y.free h) λb o _ h=>h) g3 iv⟩;rcases ca.mp z with rfl|z
  ·rw[Q]at e;cases e
  ·exact n z
theorem MG(F:Fq K "steps_of" 5 f l)(T:Txt mg):Ab P w K mg base Bs 1 f l lql GK:=by
 refine F.oq lql λH _ _ _ _ g h=>?_;obtain⟨v,t,rfl,n,hold,q⟩:=h;refine⟨_,(AB (AV (As<|Rq BY T (pv 0) T.list BU) (AD<|AM<|BJ (Ma rfl) rfl T.list BU<|AY<|YG rfl T.range<|AY<|Ds K T<|pv 0) AL)<|AB (AV (As<|Rq BY T (pv 0) T.dict CZ) (AD<|AM<|Av (OL rfl) rfl T.sorted IL<|AY<|pv 0) AL)<|AD<|AM<|Af A'),?_⟩;cases n with
 |int i=>
  exact⟨_,rfl,_,"list","int",rfl,rfl,.int i,_,rfl,Ar ⟨_,rfl,_,"dict","int",rfl,rfl,.int i,_,rfl,Ar ⟨d9 _,λp c=>q p [] _ (AF.new c) c AA rfl⟩⟩⟩
 |str x=>
  exact⟨_,rfl,_,"list","str",rfl,rfl,.str x,_,rfl,Ar ⟨_,rfl,_,"dict","str",rfl,rfl,.str x,_,rfl,Ar ⟨d9 _,λp c=>q p [] _ (AF.new c) c AA rfl⟩⟩⟩
 |bl b=>exact hold.elim
 |BB=>exact hold.elim
 |tup _ _=>exact hold.elim
 |@lst a o j h r=>
  have z:j.length<=900:=hold;have e:=r.length;refine⟨_,rfl,_,"list","list",rfl,rfl,.lst h,_,rfl,CP ⟨_,rfl,a,_,rfl,.inl<|.inl h,_,rfl,λr g=>⟨r,o.length,rfl,AA,by lia,λp c=>?_⟩⟩⟩;exact q p _ _ ((AF.new g).trans<|AF.new c) ((AF.new g).free c) AA (by show _=_;rw[e])
 |@BV a kvs d j h m r=>
  have A:kvs.length=d.length:=DZ m;have B:d.length=j.length/\d.length<64:=hold;exact⟨_,rfl,_,"list","dict",rfl,rfl,.dK h,_,rfl,Ar ⟨_,rfl,_,"dict","dict",rfl,rfl,.dK h,_,rfl,CP ⟨_,rfl,a,_,d,rfl,h,m,by lia,λp k u y s c perm jT=>q p _ u s y c ⟨k,rfl,perm,jT⟩⟩⟩⟩
theorem PF(F:Fq K "steps_of" 5 f a)(T:Txt mg):Ab P w K mg base Bs 1 f a lql OR:=(MG F T).imp λ_ _ _ _ h=>QX h
theorem MH(F:Fq K "inner_of" 6 f J)(T:Txt mg)(c:Df P w K mg base "steps_of" lql 1 GK):Ab P w K mg base Bs 2 f J lql La:=by
 refine F.oq lql λH _ _ _ A S h=>?_;obtain⟨G,v,t,rfl,L,B,hold,q⟩:=h;refine⟨_,(AD<|AM<|cmp lql [0] (BL<|Bc c S<|AY<|pv 0) λ_ _ _ _=>(ED (Fp K (pv 1)<|pv 0)<|Nn A (pv 1)<|pv 0)),?_⟩;refine⟨_,rfl,v,t,rfl,B.up L,hold,λp l H1 C np u st=>?_⟩;obtain⟨z,U,X,Y,M,Z⟩:=B.kids hold st;have hl':l.length<=900:=by
  cases B with
  |int i=>rw[show l=[]from st];decide
  |str i=>rw[show l=[]from st];decide
  |bl b=>exact hold.elim
  |BB=>exact hold.elim
  |tup _ _=>exact hold.elim
  |@lst a vs ts h r=>rw[show l=_ from st,ap,M4];exact hold
  |@BV a kvs ks ts h hk r=>
   obtain⟨ss,rfl,pm,so⟩:=st;rw[ap,pm.length_eq];have:=hold.2;lia
 have N:∀{i:Nat}{x:V},l[i]?=ι x->l.getD i .BB=x:=λh=>by rw[ci,h];rfl
 refine⟨p,rfl,⟨_,Ag.of u⟩,?_⟩;refine Ek (n:=l.length) (λi=>l.getD i .BB) (λi=>z.getD i .BB) (λ_=>true) (Au<|by lia) (λi D m s d=>⟨_,_,(AF.new d).seq<|Ag.of u,ACu s⟩) (λi D m v H' s d y=>?_) (λD m d=>⟨_,(AF.new d).seq<|Ag.of u,bn _⟩) (λi D m R s d r=>by exact r) (λi D m R s d _ r=>?_) λD d=>?_
 ·obtain⟨e,y⟩:=y;exact⟨(N<|y _<|(AF.new d).seq<|Ag.of u).symm,e⟩
 ·obtain⟨x,O⟩:=B' z i (by rw[M];exact s);have ex:z.getD i .BB=x:=by rw[ci,O];rfl
  rw[ex]at r;have Q:=(L.trans C).trans<|AF.new (o:=.lst m) d;obtain⟨st,E,g⟩:=Z i x O;rw[N E];rcases g with⟨a,xs,j,rfl,h,rfl,I⟩|⟨a,kvs,k,rfl,h,rfl,I⟩
  ·exact .inl ⟨_,rfl,_,rfl,a,_,_,_,rfl,rfl,.inl<|h.up<|Q _,Am I,r⟩
  ·refine .inr ⟨_,rfl,_,rfl,a,x,rfl,?_,r⟩;rw[<-I];exact .inl ⟨_,d0 k,h.up<|Q _,rfl,rfl⟩
 ·refine q D z U _ (C.trans<|AF.new d) (C.free d) ?_ X Y;rw[AA];congr 2;rw[abg.mpr λ_ _=>rfl];refine N6 (by simp[M]) λi h1 h2=>?_;simp only[acA,List.getElem_range];rw[ci,ACu h2];rfl
theorem PH(F:Fq K "outer_copy" 7 f c)(T:Txt mg):Ab P w K mg base Bs 1 f c lql UM:=by
 refine F.oq lql λH _ _ _ _ g h=>?_;obtain⟨d,rfl,b,q⟩:=h;refine⟨_,(AB (AV (As<|Rq BY T (pv 0) T.list BU) (AD<|AM<|BJ Cf rfl T.list BU<|AY<|pv 0) AL)<|AB (AV (As<|Rq BY T (pv 0) T.dict CZ) (AD<|AM<|BJ LQ rfl T.dict CZ<|AY<|pv 0) AL)<|AD<|AM<|pv 0),?_⟩;cases d with
 |leaf v=>
  exact⟨_,rfl,_,"list",Dc.dX<|.leaf v,rfl,rfl,Dc.NB b,_,rfl,BN (by cases v<;>rfl) ⟨_,rfl,_,"dict",Dc.dX<|.leaf v,rfl,rfl,Dc.NB b,_,rfl,BN (by cases v<;>rfl) ⟨_,rfl,q⟩⟩⟩
 |row a e=>
  refine⟨_,rfl,_,"list",_,rfl,rfl,Dc.NB b,_,rfl,Ck rfl ?_⟩;simp only[Dc.At]at b;exact⟨_,rfl,a,_,rfl,.inl<|.inl b.1,q⟩
 |tab a i e=>
  refine⟨_,rfl,_,"list",_,rfl,rfl,Dc.NB b,_,rfl,BN rfl ⟨_,rfl,_,"dict",_,rfl,rfl,Dc.NB b,_,rfl,Ck rfl ?_⟩⟩;simp only[Dc.At]at b;exact⟨_,rfl,a,_,rfl,b.1,q⟩
theorem Wi(F:Fq K "copy_of" 8 f fd)(T:Txt mg)(Z:Df P w K mg base "steps_of" lql 1 OR)(r:Df P w K mg base "outer_copy" lql 1 UM):Ab P w K mg base Bs 2 f fd lql IX:=by
 refine F.oq ["doc","told","waiting","part","steps","step"] λH _ _ A_ Gx hr h=>?_;obtain⟨d,rfl,jW,rC,hsz,q⟩:=h;refine⟨_,(AB (Ad 1 A_<|Bc r hr<|AY<|pv 0)<|AB (Ad 2 A_<|Af<|AY<|pv 1)<|AB (Fw L0 (XN (pv 2) λ_=>rfl)<|AB (Ad 3 A_<|gJ AC aaE aaC gL<|pv 2)<|AB (Ad 4 A_<|Bc Z hr<|AY<|pv 3)<|AD<|HQ (BL<|pv 4) (Bp 5 A_)<|AB (YE (XE (Bc r hr<|AY<|ED (Fp K (pv 3)<|pv 5)<|Nn Gx (pv 3)<|pv 5)<|XC (pv 3) (pv 5) set_list)<|Ga Gx (pv 3) (pv 5) (Bc r hr<|AY<|ED (Fp K (pv 3)<|pv 5)<|Nn Gx (pv 3)<|pv 5) rfl)<|AD<|Ai<|bT K (pv 2)<|ED (Fp K (pv 3)<|pv 5)<|Nn Gx (pv 3)<|pv 5)<|AD<|AM<|pv 1),?_⟩;refine⟨_,rfl,d,rfl,jW,JR.of (AF.refl H) jW λtv D si oi fi=>⟨_,rfl,Aw,λL hL=>?_⟩⟩;have sL:=AF.new (o:=.lst [tv]) hL;have nL:H L=none:=si.free hL;have va:tv≠.ref L:=λz=>(Vt jW oi z) hL;have C0:EF H (upd D L<|.lst [tv]) L tv d [(tv,d)]:=EF.start (si.trans sL) nL AA (oi.up λa e u h=>sL _ _ h) jW rC va;dsimp only[Aj,Kq];refine IT (λm J Hw=>lW (λ(ps:List (V×Dc))(o3 o4 s:Option V)=>J=[ι d.val,ι tv,ι<|.ref L,o3,o4,s]) (λ(ps:List (V×Dc))(o3 o4 s:Option V)=>EF H Hw L tv d ps) (λ(ps:List (V×Dc))(o3 o4 s:Option V)=>Dc.AI (ps.map (·.2))<=d.size) (λ(ps:List (V×Dc))(o3 o4 s:Option V)=>m=Dc.AI (ps.map (·.2)))) (Dc.AI [d]) ⟨[(tv,d)],ν,ν,ν,rfl,C0,by simp[Dc.AI],rfl⟩ ?_ (λJ H Q Q' h ⟨v,e,k,t,q⟩=>⟨v,e,k,t,h _ _ q⟩);rintro m J Hw _ go2 ⟨ps,o3,o4,s,rfl,C,hm,rfl⟩;refine⟨_,rfl,_,.inl ⟨_,Ag.of C.eL,rfl⟩,?_⟩;by_cases bL:ps=[]
 ·subst bL;refine Ar ⟨_,rfl,?_⟩;obtain⟨e,ev,el,ef⟩:=C.done;rw[<-ev];exact q e Hw ef el
 obtain⟨B,p,rfl⟩:∃B p,ps=B++[p]:=⟨ps.dropLast,ps.getLast bL,(T5 bL).symm⟩;obtain⟨v,node⟩:=p;refine Ck (by simp) ?_;have rD:Dc.AI ((B++[(v,node)]).map (·.2))=Dc.AI (B.map (·.2))+node.size:=by rw[io,Dc.Bd];simp[Dc.AI]
 have vc:=C.eL;refine⟨_,rfl,.inl ⟨rfl,_,Ag.of vc⟩,L,_,v,rfl,rfl,vc,by simp,?_⟩;have dl:(V3 (·.1) (B++[(v,node)])).dropLast=B.map (·.1):=by rw[io];simp
 rw[dl];obtain⟨nat,jX⟩:=C.src (v,node) (by simp);have on:=C.out (v,node) (by simp);have s1:AF H (upd Hw L (.lst (B.map (·.1)))):=C.same.put nL;have lq:B.length<=Dc.AI (B.map (·.2)):=by have:=Dc.CH (B.map (·.2));rw[ap]at this;exact this
 cases node with
 |leaf v'=>
  obtain⟨rfl,lv⟩:=(show v=v'/\Dc.Lf v' from on);refine⟨_,rfl,.leaf v,rfl,lv,trivial,by simp[Dc.size],λp l H2 s2 np hp st=>?_⟩;cases(show l=[]from st);refine⟨_,rfl,p,rfl,⟨_,Ag.of hp⟩,Br (xs:=[]) (λi J D=>lT (λs=>J=[ι d.val,ι tv,ι<|.ref L,ι v,ι<|.ref p,s]) λs=>D=H2) ⟨_,rfl,rfl⟩ (λi J D _ ⟨_,_,e⟩=>by rw[e];exact Ag.of hp) (λi x J D _ go M=>by simp at M) ?_⟩;rintro J D ⟨s,rfl,rfl⟩;refine go2.n ⟨Dc.AI (B.map (·.2)),by rw[rD];simp only[Dc.size];lia,B,_,_,_,rfl,C.leaf (λb o hb h=>s2 _ _<|by rw[AH hb];exact h)<|s2 _ _ AA,by lia,rfl⟩
 |row b xs=>
  obtain⟨a,rfl,ea,na⟩:=(show∃a,v=.ref a/\Hw a=ι (.lst<|xs.map Dc.val)/\H a=ν from on);have aL:a≠L:=λz=>C.Vr (by rw[<-z];exact CO.mpr ⟨(.ref a,.row b xs),by simp,rfl⟩);have N:upd Hw L (.lst (B.map (·.1))) a=ι (.lst<|xs.map Dc.val):=by rw[AH aL];exact ea
  have E:=nat;simp only[Dc.At,Dc.slim,Dc.size]at E jX rD;have lx:=Dc.CH xs;refine⟨_,rfl,.row a xs,rfl,?_,by simp only[Dc.slim];exact jX,by simp only[Dc.size];lia,λp l H2 s2 np hp st=>?_⟩
  ·simp only[Dc.At];exact⟨.inl N,Dc.Bh xs (λc _ o e=>s1 c o e) E.2⟩
  cases(show l=(oo xs.length).map λ(i:Nat)=>V.int (i:Int)from st);have rE:=s1.trans s2;have lZ:=s2 _ _ N;have O:H2 L=ι (.lst (B.map (·.1))):=s2 _ _ AA;have ll:((oo xs.length).map λ(i:Nat)=>V.int (i:Int)).length=xs.length:=by simp
  have pa:p≠a:=k8 (AW N np);have pL:p≠L:=k8 (AW (AA (H:=Hw) (a:=L) (o:=.lst (B.map (·.1)))) np);refine⟨_,rfl,p,rfl,⟨_,Ag.of hp⟩,Br (xs:=(oo xs.length).map λ(i:Nat)=>V.int (i:Int)) (λi J D=>lU (λ(g:List V)(s:Option V)=>J=[ι d.val,ι tv,ι (.ref L),ι (.ref a),ι (.ref p),s]) (λ(g:List V)(s:Option V)=>g.length=i) (λ(g:List V)(s:Option V)=>i<=xs.length) (λ(g:List V)(s:Option V)=>D a=ι (.lst (g++(xs.drop i).map Dc.val))) (λ(g:List V)(s:Option V)=>D L=ι (.lst (B.map (·.1)++g))) (λ(g:List V)(s:Option V)=>YN H H2 D a L xs g))
   ⟨[],_,rfl,rfl,d9 _,by rw[lZ];rfl,by rw[O,j9],.start⟩ (λi J D _ ⟨g,s,_,_,_,_,_,PL⟩=>Ag.of (PL.kp p _ pa pL hp)) ?_ ?_⟩
  ·refine λi sv J D _ go R h0=>DB λX hX=>?_;obtain⟨g,s,rfl,S,rF,A,G,PL⟩:=h0;have hi:i<xs.length:=by have:=(DR R);rw[ll]at this;exact this
   have rG:sv=.int (i:Int):=by rw[bv,Uf hi]at R;exact(ACw R).symm
   subst rG;obtain⟨x,M⟩:=B' xs i hi;have rH:=ACx M;have ia:AF H D:=λb o e=>PL.kp b o (AW e na) (AW e nL)<|rE b o e;have dr:xs.drop i=x::xs.drop (i+1):=by rw[j3 hi];rw[ACu hi]at M;rw[ACw M]
   have lh:x.At D:=Dc.KY ia<|Dc.Cq E.2 x rH;have CK:OA (g++(xs.drop i).map Dc.val) (i:Int)=ι x.val:=Am (by rw[dr,jc<|by lia,S,Gc];rfl);subst hX;refine .inl<|.inl ⟨_,rfl,_,rfl,a,_,_,_,rfl,rfl,Ag.of A,CK,x,rfl,lh,JR.of ia lh λc Hc sc rJ fc=>?_⟩;have rK:=sc _ _ A;have hlen:(g++(xs.drop i).map Dc.val).length=xs.length:=by rw[b8,ap,w4];lia
   refine⟨_,rfl,_,rfl,a,_,_,i,rfl,rfl,rK,by unfold T';rw[if_pos<|by lia,if_pos<|by rw[hlen];lia,pc],?_⟩;have rL:(g++(xs.drop i).map Dc.val).set i c=(g++[c])++(xs.drop<|i+1).map Dc.val:=by
    rw[dr,ge,List.set_append_right _ _<|by lia,S,Gc,List.set_cons_zero,ii];rfl
   rw[rL];have l_:upd Hc a (.lst<|(g++[c])++(xs.drop<|i+1).map Dc.val) L=ι (.lst (B.map (·.1)++g)):=by rw[AH<|k8 aL];exact sc _ _ G
   refine⟨_,rfl,.inl ⟨rfl,_,Ag.of l_⟩,.inl ⟨_,rfl,_,rfl,a,_,_,c,rfl,rfl,Ag.of AA,Am<|by rw[g9<|by rw[b8,S];simp,jc<|by lia,S,Gc];rfl,?_⟩⟩;refine⟨L,_,_,rfl,rfl,l_,Ac<|by simp only[b8,ap];lia,go.n ⟨g++[c],_,rfl,by simp[S],hi,by rw[AH aL];exact AA,by rw[AA,ii],PL.next S M sc rJ fc (by rw[A];exact λz=>nomatch z) (by rw[G];exact λz=>nomatch z) (by rw[lZ];exact λz=>nomatch z)<|by rw[O];exact λz=>nomatch z⟩⟩
  ·rintro J D ⟨g,s,rfl,S,rF,A,G,PL⟩;rw[ll]at S A;rw[J0,B2,j9]at A;obtain⟨C2,vd⟩:=YN.fin C PL S (λb o hb h=>s2 _ _ (by rw[AH hb];exact h)) (by rw[O];exact λz=>nomatch z) G (λx M=>⟨Dc.Cq E.2 _ M,Dc.Ep jX _ M⟩) A (λ_ _ z=>nomatch z) (λec H' dv dk at' rM=>⟨.row a ec,rfl,by simp only[Dc.C'];exact dk,by
     simp only[Dc.At];refine⟨.inl ?_,at'⟩;rw[rM,dv],by simp only[Dc.addrs];exact .refl _⟩)
   exact go2.n ⟨Dc.AI ((B++g.zip xs).map (·.2)),by lia,B++g.zip xs,_,_,_,rfl,C2,by lia,rfl⟩
 |tab b ks xs=>
  obtain⟨a,rfl,ea,na⟩:=(show∃a,v=.ref a/\Hw a=ι (.dK<|Dc.kvs ks xs)/\H a=ν from on);have aL:a≠L:=λz=>C.Vr (by rw[<-z];exact CO.mpr ⟨(.ref a,.tab b ks xs),by simp,rfl⟩);have N:upd Hw L (.lst (B.map (·.1))) a=ι (.dK<|Dc.kvs ks xs):=by rw[AH aL];exact ea
  have E:=nat;simp only[Dc.At,Dc.slim,Dc.size]at E jX rD;obtain⟨_,n_,U,ib⟩:=E;have lx:=Dc.CH xs;refine⟨_,rfl,.tab a ks xs,rfl,?_,by simp only[Dc.slim];exact jX,by simp only[Dc.size];lia,λp l H2 s2 np hp st=>?_⟩
  ·simp only[Dc.At];exact⟨.inl N,n_,U,Dc.Bh xs (λc _ o e=>s1 c o e) ib⟩
  obtain⟨ss,rfl,perm,_⟩:=(show∃ss:List Str,l=ss.map V.str/\ss.Perm ks/\ad8 ss=true from st);have snd:ss.Nodup:=perm.nodup_iff.mpr U;have sl:=perm.length_eq;obtain⟨ys,yp,yl,ve⟩:=reorder (ks:=ss) (ss:=ks) (ec:=xs) perm.symm U n_.symm;have rE:=s1.trans s2;have lZ:=s2 _ _ N;have O:H2 L=ι (.lst (B.map (·.1))):=s2 _ _ AA;have ll:(ss.map V.str).length=ss.length:=ap ..;have pa:p≠a:=k8 (AW N np);have pL:p≠L:=k8 (AW (AA (H:=Hw) (a:=L) (o:=.lst (B.map (·.1)))) np);have pos:∀(j:Nat) k,ks[j]?=ι k->∃t,ss[t]?=ι k:=λj k h=>aaI.mp (perm.mem_iff.mpr (ACx h));have pos':∀(t:Nat) k,ss[t]?=ι k->∃j,ks[j]?=ι k:=λt k h=>aaI.mp (perm.mem_iff.mp (ACx h));refine⟨_,rfl,p,rfl,⟨_,Ag.of hp⟩,Br (xs:=ss.map V.str) (λi J D=>lV (λ(g I:List V)(s:Option V)=>J=[ι d.val,ι tv,ι (.ref L),ι (.ref a),ι (.ref p),s]) (λ(g I:List V)(s:Option V)=>g.length=i) (λ(g I:List V)(s:Option V)=>i<=ss.length) (λ(g I:List V)(s:Option V)=>ks.length=I.length) (λ(g I:List V)(s:Option V)=>D a=ι (.dK (Es ks I))) (λ(g I:List V)(s:Option V)=>D L=ι (.lst (B.map (·.1)++g))) (λ(g I:List V)(s:Option V)=>(∀(j t:Nat) k,ks[j]?=ι k->ss[t]?=ι k->I[j]?=if t<i then g[t]? else(ys[t]?).map Dc.val)) (λ(g I:List V)(s:Option V)=>YN H H2 D a L ys g))
   ⟨[],xs.map Dc.val,_,rfl,rfl,d9 _,by rw[ap];exact n_,lZ,by rw[O,j9],λj t k h1 h2=>by rw[if_neg (F1 _),ve t j k h2 h1,bv],.start⟩
   (λi J D _ ⟨g,I,s,_,_,_,_,_,_,_,PL⟩=>Ag.of (PL.kp p _ pa pL hp)) ?_ ?_⟩
  ·refine λi sv J D _ go R h0=>DB λX hX=>?_;obtain⟨g,I,s,rfl,S,rF,lv,A,G,mB,PL⟩:=h0;have hi:i<ss.length:=by have:=(DR R);rw[ll]at this;exact this
   obtain⟨k,Y⟩:=B' ss i hi;have rG:sv=.str k:=by rw[bv,Y]at R;exact(ACw R).symm
   subst rG;obtain⟨j,hj⟩:=pos' i k Y;obtain⟨x,M⟩:=B' ys i (by rw[yl];exact hi);have rH:x∈xs:=yp.mem_iff.mp<|ACx M;have ia:AF H D:=λb o e=>PL.kp b o (AW e na) (AW e nL)<|rE b o e;have lh:x.At D:=Dc.KY ia<|Dc.Cq ib x rH;have vf:j<I.length:=by rw[<-lv];exact(DR hj)
   have vj:I[j]?=ι x.val:=by rw[mB j i k hj Y,if_neg<|x8 _,M];rfl
   have dg:∀{Hx:Hp}{ws:List V}{y:V},Hx a=ι (.dK<|Es ks ws)->ks.length=ws.length->ws[j]?=ι y->MV Hx a (.str k) (ι y):=λh1 h2 h3=>.inl ⟨_,d0 k,.inl h1,rfl,by rw[LU h2 U hj,h3]⟩;subst hX;refine .inr<|.inr ⟨_,rfl,_,rfl,a,x.val,rfl,dg A lv vj,x,rfl,lh,JR.of ia lh λc Hc sc rJ fc=>?_⟩;have rK:=sc _ _ A;refine⟨_,rfl,_,rfl,a,_,rfl,MW.k (k:=d0 k) rK<|Ac<|by rw[YJ lv];lia,?_⟩;rw[YK lv U hj c];have jY:ks.length=(I.set j c).length:=by rw[L4];exact lv
   have l_:upd Hc a (.dK<|Es ks<|I.set j c) L=ι (.lst (B.map (·.1)++g)):=by rw[AH<|k8 aL];exact sc _ _ G
   refine⟨_,rfl,.inl ⟨rfl,_,Ag.of l_⟩,.inr ⟨_,rfl,_,rfl,a,c,rfl,dg AA jY<|by rw[xg vf],?_⟩⟩;refine⟨L,_,_,rfl,rfl,l_,Ac<|by simp only[b8,ap];lia,go.n ⟨g++[c],I.set j c,_,rfl,by simp[S],hi,jY,by rw[AH aL];exact AA,by rw[AA,ii],λj' t' k' h1 h2=>?_,PL.next S M sc rJ fc (by rw[A];exact λz=>nomatch z) (by rw[G];exact λz=>nomatch z) (by rw[lZ];exact λz=>nomatch z)<|by rw[O];exact λz=>nomatch z⟩⟩
   ·by_cases ie:j'=j
    ·subst ie;rw[hj]at h1;cases h1;have et:t'=i:=(M5 (by exact(DR h2)) snd).mp (by rw[h2,Y]);subst et;rw[xg vf,if_pos<|y9 _,jc<|by lia,S,Gc];rfl
    ·have zH:k'≠k:=λz=>ie ((M5 (by exact(DR h1)) U).mp<|by rw[h1,hj,z]);have va:t'≠i:=λz=>zH (by rw[z,Y]at h2;exact(ACw h2).symm);rw[B6<|k8 ie,mB j' t' k' h1 h2];by_cases vg:t'<i
     ·rw[if_pos vg,if_pos<|by lia,g9<|by lia]
     ·rw[if_neg vg,if_neg<|by lia]
  ·rintro J D ⟨g,I,s,rfl,S,rF,lv,A,G,mB,PL⟩;rw[ll]at S mB;obtain⟨C2,vd⟩:=YN.fin C PL (by lia) (λb o hb h=>s2 _ _ (by rw[AH hb];exact h)) (by rw[O];exact λz=>nomatch z) G (λx M=>⟨Dc.Cq ib _ (yp.mem_iff.mp M),Dc.Ep jX.2 _ (yp.mem_iff.mp M)⟩) A (λ_ _ z=>nomatch z) (λec H' dv dk at' rM=>by
     have el:ec.length=ss.length:=by have:=congrArg pp dv;rw[ap]at this;lia
     obtain⟨es,ep,zI,vh⟩:=reorder perm snd el;have ev:es.map Dc.val=I:=by
      refine Q9 λj=>?_;cases Y:ks[j]? with
      |none=>
       have h1:=xz.mp Y;rw[xz.mpr<|by rw[ap];lia,xz.mpr<|by lia]
      |some k=>
       obtain⟨t,ht⟩:=pos j k Y;have tl:=DR ht;rw[bv,vh j t k Y ht,mB j t k Y ht,if_pos tl,<-dv,bv]
     refine⟨.tab a ks es,rfl,?_,?_,?_⟩
     ·simp only[Dc.C'];refine⟨trivial,QN (by lia) λj x e h1 h2=>?_⟩;obtain⟨k,Y⟩:=B' ks j (by rw[n_];exact(DR h1));obtain⟨t,ht⟩:=pos j k Y;have e1:=ve t j k ht Y;rw[h1]at e1;obtain⟨e',g1,g2⟩:=Dc.NF dk t x e1;rw[vh j t k Y ht,g1]at h2;cases h2;exact g2
     ·simp only[Dc.At];exact⟨.inl<|by rw[rM,QL,ev],zI.symm,U,YL ep at'⟩
     ·simp only[Dc.addrs];exact(QM ep).cons _)
   rw[Dc.Sk yp]at vd;exact go2.n ⟨Dc.AI ((B++g.zip ys).map (·.2)),by lia,B++g.zip ys,_,_,_,rfl,C2,by lia,rfl⟩
theorem Zu(F:Fq K "holds" 13 f l)(T:Txt mg):Ab P w K mg base Bs 1 f l ["doc","step"] UP:=by
 refine F.oq ["doc","step"] λH _ _ _ j n h=>?_;obtain⟨d,z,rfl,b,m,q⟩:=h;refine⟨_,(AB (AV (As<|Rq BY T (pv 1) T.str NA) (AD<|AM<|Fu (Rq BY T (pv 0) T.dict CZ)<|Ft<|XA<|SR j (pv 1)<|pv 0) AL)<|AD<|AM<|Fu (Rq BY T (pv 0) T.list BU)<|Ft<|Pg Pf Jh AG (pv 1)<|Ds K T<|pv 0),?_⟩;rcases m with⟨i,rfl⟩|⟨k,rfl,_⟩
 ·refine⟨_,rfl,_,"str","int",rfl,rfl,.int _,_,rfl,Ar ?_⟩;cases d with
  |leaf v=>exact⟨_,rfl,_,"list",Dc.dX (.leaf v),rfl,rfl,Dc.NB b,_,rfl,BN (by cases v<;>rfl) (by simpa[Dc.sub]using q)⟩
  |tab a g c=>exact⟨_,rfl,_,"list",_,rfl,rfl,Dc.NB b,_,rfl,BN rfl (by simpa[Dc.sub]using q)⟩
  |row a c=>
   refine⟨_,rfl,_,"list",_,rfl,rfl,Dc.NB b,_,rfl,Ck rfl ?_⟩;simp only[Dc.At]at b;refine⟨_,rfl,_,_,rfl,rfl,_,rfl,Ck (decide_eq_true<|by lia) ⟨_,rfl,a,_,rfl,.inl<|.inl b.1,_,_,rfl,rfl,?_⟩⟩;have e:decide ((i:Int)<((V3 Dc.val c).length:Int))=((Dc.row a c).sub [.int (i:Int)]).isSome:=by
    simp only[Dc.sub];rw[if_pos<|by lia,pc,ap];by_cases h:i<c.length
    ·rw[ACu h];simp only[Option.bind_some,Dc.DI,Ps];exact decide_eq_true<|by lia
    ·rw[xz.mpr<|by lia];simp only[Option.bind_none,abF];exact decide_eq_false<|by lia
   rw[<-e]at q;exact q
 ·refine⟨_,rfl,_,"str","str",rfl,rfl,.str _,_,rfl,CP ?_⟩;cases d with
  |leaf v=>exact⟨_,rfl,_,"dict",Dc.dX (.leaf v),rfl,rfl,Dc.NB b,_,rfl,BN (by cases v<;>rfl) (by simpa[Dc.sub]using q)⟩
  |row a c=>exact⟨_,rfl,_,"dict",_,rfl,rfl,Dc.NB b,_,rfl,BN rfl (by simpa[Dc.sub]using q)⟩
  |tab a g c=>
   refine⟨_,rfl,_,"dict",_,rfl,rfl,Dc.NB b,_,rfl,Ck rfl ?_⟩;simp only[Dc.At]at b;refine⟨_,rfl,_,rfl,a,_,rfl,.inl ⟨_,d0 k,b.1,rfl,rfl⟩,?_⟩;have e:(BF (Dc.kvs g c)<|d0 k).isSome=((Dc.tab a g c).sub [.str k]).isSome:=by
    rw[Dc.IP b.2.1];simp only[Dc.sub];cases(g.zip c).lookup k with
    |none=>rfl
    |some x=>simp[Dc.DI]
   rw[<-e]at q;exact q
theorem Td{E:j4}(F:Fq K "found_at" 14 f E)(T:Txt mg)(g:Df P w K mg base "holds" ["doc","step"] 1 UP):Ab P w K mg base Bs 2 f E lqs UQ:=by
 refine F.oq ["doc","path","part","step"] λH _ _ A_ v I h=>?_;obtain⟨d,t,xs,e,rfl,x,G,J,L,q⟩:=h;refine⟨_,(AB (Ad 2 A_<|pv 0)<|AB (HQ (Rw<|pv 1) (Bp 3 A_)<|AB (AV (CV<|As<|Bc g I<|AE (pv 2)<|AY<|pv 3) (AD Kr) AL)<|AD<|Ad 2 A_<|ED (Fp K (pv 2)<|pv 3)<|Nn v (pv 2)<|pv 3)<|AD<|AM<|pv 2),?_⟩;refine⟨_,rfl,_,rfl,t,rfl,⟨_,BP.of G⟩,Ts (xs:=xs) (λi s u=>∃(p:Dc)(A:Option V),s=[ι d.val,ι<|.ref t,ι p.val,A]/\u=H/\p.At H/\p.sub (xs.drop i)=ι e) ⟨d,ν,rfl,rfl,x,L⟩ (λi s u _ ⟨_,_,_,e,_⟩=>by rw[e];exact BP.of G) ?_ ?_⟩
 ·rintro i z s u _ go B ⟨p,A,rfl,rfl,c,o⟩;have M:=DR B;have N:xs.drop i=z::xs.drop (i+1):=by rw[j3 M,(ACv B).2]
  rw[N]at o;have r:=J z<|ACx B;rcases Dc.GG o with⟨a,m,j,y,rfl,rfl,l,C⟩|⟨a,D,m,k,y,rfl,rfl,l,C⟩
  ·have e1:((Dc.row a m).sub [.int (j:Int)]).isSome=true:=by rw[Dc.UN l,Dc.DI];rfl
   refine⟨_,rfl,_,rfl,.row a m,_,rfl,c,r,_,rfl,BN (by rw[e1];rfl) ?_⟩;have b:=c;simp only[Dc.At]at b;exact .inl ⟨_,rfl,_,rfl,a,_,_,_,rfl,rfl,.inl b.1,Am<|by rw[bv,l];rfl,go.n ⟨y,_,rfl,rfl,Dc.Cq b.2 y<|ACx l,C⟩⟩
  ·have e1:((Dc.tab a D m).sub [.str k]).isSome=true:=by rw[Dc.UO l,Dc.DI];rfl
   refine⟨_,rfl,_,rfl,.tab a D m,_,rfl,c,r,_,rfl,BN (by rw[e1];rfl) ?_⟩;have b:=c;simp only[Dc.At]at b;have O:BF (Dc.kvs D m) (d0 k)=ι y.val:=by rw[Dc.IP b.2.1,l];rfl
   exact .inr ⟨_,rfl,_,rfl,a,y.val,rfl,(by rw[<-O];exact .inl ⟨_,d0 k,b.1,rfl,rfl⟩),go.n ⟨y,_,rfl,rfl,Dc.Cq b.2.2.2 y (Dc.Ca l).2,C⟩⟩
 ·rintro s u ⟨p,A,rfl,rfl,c,o⟩;rw[J0,Dc.DI]at o;cases o;exact⟨_,rfl,q⟩
theorem Ra(F:Fq K "holder_in" 16 f l)(T:Txt mg):Ab P w K mg base Bs 1 f l lqw Ud:=by
 refine F.oq lqw λH _ _ _ a E h=>?_;obtain⟨G,v,t,n,rfl,s,x,g,q⟩:=h;refine⟨_,(AB (AV (AO (DV:Dr _ _ (Wv K false)) (Bx K 0) (Al<|AE AZ<|AY AZ) rfl) (AD<|AM<|Bx K 0) AL)<|AD<|AM<|Af A'),?_⟩;obtain⟨m,d,rest,rfl,y,z⟩:=x.node g;have b:=y.up s;refine⟨_,rfl,m,_,0,.str d,rfl,rfl,b,YU,An,λp A=>⟨p,_,rfl,.inr<|BP.of AA,rfl,rfl,_,rfl,?_⟩⟩;have i:=AF.new (o:=.tup [.str "row",.str "table"]) A;have j:=b.up i;have c:OD (.str d) [.str "row",.str "table"]=decide (d∈(lqv:List Str)):=DJ d lqv;rcases z with⟨B,C,e⟩|⟨hw,u,r,rfl,a⟩
 ·refine BN ?_ ⟨d9 _,λD k=>q _ _ (i.trans<|AF.new k)<|.inr ⟨e,D,rfl,AA⟩⟩;rw[c];simp[B,C]
 ·refine Ck ?_ ⟨_,rfl,m,_,1,u,rfl,rfl,j,CK,q _ _ i<|.inl a⟩;rw[c];rcases hw with rfl|rfl<;>decide
theorem HR{u:j4}(F:Fq K "inner_nodes" 17 f u)(T:Txt mg)(b:Df P w K mg base "inner_of" lql 2 La)(a:Df P w K mg base "holder_in" lqw 1 Ud):Ab P w K mg base Bs 3 f u lqw Ld:=by
 refine F.oq lqw λH _ _ _ _ x h=>?_;obtain⟨G,v,t,n,rfl,y,z,c,q⟩:=h;refine⟨_,(AD<|AM<|Bc b x<|AY<|Bc a x<|AY<|pv 0),?_⟩;refine⟨_,rfl,G,v,t,n,rfl,y,z,c,λw A d hw=>?_⟩;have hold:=c.d_;rcases hw with hw|⟨e,B,rfl,j⟩
 ·exact⟨G,w,t.hold,rfl,y.trans d,hw,hold,λp k g l m o r s i=>q p k g l (d.trans m) (d.free o) r s i⟩
 ·refine⟨A,.ref B,.lst [],rfl,AF.refl _,.lst (.inl j) .nil,d9 _,λp k g l m o r s i=>q p k g l (d.trans m) (d.free o) r ?_<|by rw[e];exact i⟩;have:g=[]:=i;subst this;cases s;exact .nil
theorem Rb:FK lqx lqx (BA cV):={}
theorem Wj(F:Fq K "filled" 18 f x)(T:Txt mg)(b:Df P w K mg base "steps_of" lql 1 GK)(c:mg "zip"=ν):Ab P w K mg base Bs 2 f x lqx Qd:=by
 refine F.ok Rb (λy H Q E h=>?_) λD A outer s H y N E O z h=>?_
 ·cases h<;>(subst_vars;rfl)
 ·have nd:=Rb.nd;have R:=Xj z;refine⟨_,(AB (AV (As<|Rq BY T (pv 0) T.list BU) (AD<|AM<|BJ Cf rfl T.list BU<|AY<|pv 1) AL)<|AD<|AM<|QV rfl rfl T.dict rfl c (Bc b z<|AY<|pv 0)<|pv 1),?_⟩;rcases h with⟨v,B,L,e,rfl,j,k,G,q⟩|⟨v,I,B,L,e,rfl,j,k,hold,m,n,q⟩
  ·cases j with
   |@lst a y _ h r=>
    exact⟨_,rfl,_,"list","list",rfl,rfl,.lst h,_,rfl,CP ⟨_,rfl,L,e,rfl,.inl<|Ag.of k,λp g=>q p _ (AF.new g) g AA⟩⟩
  ·cases j with
   |@BV a kvs _ _ h J r=>
    refine⟨_,rfl,_,"list","dict",rfl,rfl,.dK h,_,rfl,Ar ⟨_,rfl,.ref a,.BV I B,rfl,.BV h J r,hold,λp l S o U g st=>?_⟩⟩;obtain⟨t,rfl,i,so⟩:=st;have u:=o _ _ k;have C:t.length=e.length:=by rw[i.length_eq,m]
    refine⟨_,rfl,p,L,t,e,rfl,rfl,Ag.of g,Ag.of u,C,by rw[i.length_eq];have:=hold.2;lia,λM d=>?_⟩;refine q M t _ (o.trans<|AF.new d) (o.free d) i so ?_;rw[AA];congr 2;exact NI C<|i.nodup_iff.mpr n
theorem Wk{j:j4}(F:Fq K "is_open" 19 f j)(T:Txt mg):Ab P w K mg base Bs 1 f j lqq U_:=by
 refine F.oq lqq λH _ _ _ _ x h=>?_;obtain⟨v,b,rfl,l,q⟩:=h;refine⟨_,(AD<|AM<|Fu (FJ (DV:Dr _ _ (Wv K false)) (Bx K 0) (Al<|AE AZ<|AY AZ) rfl)<|Ft<|ID (r:=SK K) SM (pv 0) (Pe Kt AG) λ_ _=>rfl),?_⟩;obtain⟨i,g,rest,k,n⟩:=l.ak;refine⟨_,rfl,i,_,0,.str g,rfl,rfl,k,YU,An,λp s=>⟨p,_,rfl,.inr<|BP.of AA,rfl,rfl,_,rfl,?_⟩⟩;have c:=AF.new (o:=.tup [.str "row",.str "table"]) s;have e:=k.up c;have a:OD (.str g) [.str "row",.str "table"]=decide (g∈(lqv:List Str)):=DJ g lqv;rcases n with _|⟨d,u,_⟩|⟨t,m,u,_⟩|⟨y,t,ls,m,u,z,_,_⟩
 ·exact BN (by rw[a];decide)<|q _ c
 ·exact BN (by rw[a];decide)<|q _ c
 ·exact Ck (by rw[a];decide) ⟨_,rfl,1,rfl,i,_,_,_,rfl,rfl,e,Ky [.str "row",u]<|.bl m,q _ c⟩
 ·exact Ck (by rw[a];decide) ⟨_,rfl,1,rfl,i,_,_,_,rfl,rfl,e,Ky [.str "table",u,z]<|.bl m,q _ c⟩
theorem Rc{k:j4}(F:Fq K "holder_of" 21 f k)(T:Txt mg)(a:Df P w K mg base "found_at" lqs 2 UQ):Ab P w K mg base Bs 3 f k lqs QP:=by
 refine F.oq lqs λH _ _ _ _ l h=>?_;obtain⟨d,t,c,i,e,rfl,j,m,n,u,q⟩:=h;refine⟨_,(AB (AV (AO (gY<|BX.JG l) (pv 1) (Al A')<|Aa _) (AD Kr) AL)<|AD<|AM<|Bc a l<|AE (pv 0)<|AY<|D' bC (pv 1) GY<|EN<|Pe Kt AG),?_⟩;have v:∀z∈c++[i],DS z=true:=λz b=>(n z b).flat;have ne:QF (c++[i]) []=false:=by
  unfold QF;have:((c++[i]).length==([]:List V).length)=false:=by simp
  rw[this,adu]
 refine⟨_,rfl,d9 _,λx y=>?_⟩;have g:=AF.new (o:=.tup []) y;refine⟨t,x,_,[],rfl,rfl,BP.of<|g _ _ m,BP.of AA,v,λz b=>(nomatch b),_,rfl,BN ne ⟨_,rfl,_,rfl,_,rfl,_,rfl,t,_,rfl,g _ _ m,λp A r s=>?_⟩⟩;rw[Vn]at s;exact⟨d,p,c,e,rfl,Dc.KY (g.trans r) j,s,λz b=>n z<|e9 _ b,u,q A<|g.trans r⟩
theorem Te{m:j4}(F:Fq K "has_room" 22 f m)(T:Txt mg):Ab P w K mg base Bs 1 f m lqC YT:=by
 refine F.oq lqC λH _ _ _ l s h=>?_;obtain⟨d,z,rfl,b,o,q⟩:=h;refine⟨_,(AB (AV (As<|Rq BY T (pv 1) T.str NA) (AD<|AM<|Fu (Rq BY T (pv 0) T.dict CZ)<|Ft<|XA<|GZ l (pv 1)<|pv 0) AL)<|AD<|AM<|Fu (Rq BY T (pv 0) T.list BU)<|Ft<|Pg Pf Pf AG (pv 1)<|Ds K T<|pv 0),?_⟩;rcases o with⟨i,rfl⟩|⟨k,rfl,_⟩
 ·refine⟨_,rfl,_,"str","int",rfl,rfl,.int _,_,rfl,Ar ?_⟩;cases d with
  |leaf v=>exact⟨_,rfl,_,"list",Dc.dX (.leaf v),rfl,rfl,Dc.NB b,_,rfl,BN (by cases v<;>rfl) q⟩
  |tab a g c=>exact⟨_,rfl,_,"list",_,rfl,rfl,Dc.NB b,_,rfl,BN rfl q⟩
  |row a c=>
   refine⟨_,rfl,_,"list",_,rfl,rfl,Dc.NB b,_,rfl,Ck rfl ?_⟩;simp only[Dc.At]at b;have n:decide ((0:Int)<=(i:Int))=true:=decide_eq_true (by lia);refine⟨_,rfl,_,_,rfl,rfl,_,rfl,Ck n ⟨_,rfl,a,_,rfl,.inl<|.inl b.1,_,_,rfl,rfl,?_⟩⟩;have e:decide ((i:Int)<=((V3 Dc.val c).length:Int))=(Dc.row a c).room (.int (i:Int)):=by
    simp only[Dc.room];rw[n,ap,Bool.true_and]
   rw[<-e]at q;exact q
 ·refine⟨_,rfl,_,"str","str",rfl,rfl,.str _,_,rfl,CP ?_⟩;cases d with
  |leaf v=>exact⟨_,rfl,_,"dict",Dc.dX (.leaf v),rfl,rfl,Dc.NB b,_,rfl,BN (by cases v<;>rfl) q⟩
  |row a c=>exact⟨_,rfl,_,"dict",_,rfl,rfl,Dc.NB b,_,rfl,BN rfl q⟩
  |tab a g c=>
   refine⟨_,rfl,_,"dict",_,rfl,rfl,Dc.NB b,_,rfl,Ck rfl ?_⟩;simp only[Dc.At]at b;refine⟨_,rfl,_,rfl,a,_,rfl,.inl ⟨_,d0 k,b.1,rfl,rfl⟩,?_⟩;have e:(!(BF (Dc.kvs g c)<|d0 k).isSome)=(Dc.tab a g c).room (.str k):=by
    rw[Dc.IP b.2.1];simp only[Dc.room];congr 1;by_cases j:k∈g
    ·obtain⟨x,p,_⟩:=Dc.HK b.2.1 j;rw[p];simp[j]
    ·cases r:(g.zip c).lookup k with
     |none=>simp[j]
     |some x=>exact absurd (Dc.Ca r).1 j
   rw[<-e]at q;exact q
theorem Zv(F:Fq K "put_at" 23 f fd)(T:Txt mg)(g:Df P w K mg base "copy_of" lql 2 IX)(B:Df P w K mg base "holder_of" lqs 3 QP)(D:Df P w K mg base "has_room" lqC 1 YT):Ab P w K mg base Bs 4 f fd lqE Zl:=by
 refine F.oq ["doc","path","value","told","holder","step"] λH En _ A_ Gx hr h=>?_;obtain⟨v,b,t,S,k,i,R,rfl,hv,hd,hsz,ht,vi,hp,q⟩:=h;refine⟨_,(AB (Ad 3 A_<|Bc g hr<|AY<|pv 0)<|AB (Ad 4 A_<|Bc B hr<|AE (pv 3)<|AY<|pv 1)<|AB (Ad 5 A_<|ID (r:=SK K) SM (pv 1) (Pe Kt AG) λ_ _=>rfl)<|AB (AV (CV<|As<|Bc D hr<|AE (pv 4)<|AY<|pv 5) (AD Kr) AL)<|AB (AV (As<|Rq BY T (pv 5) T.str NA) (AD<|Ga Gx (pv 4) (pv 5) (Bc g hr<|AY<|pv 2) rfl)<|AD<|Ai<|Pn AC X8 PySem.F.type_list_insert Vh (pv 4)<|AE (pv 5)<|AY<|Bc g hr<|AY<|pv 2)<|AD<|AM<|pv 3),?_⟩;obtain⟨d,rfl,jW,zJ,rC,zK⟩:=Val.dc b hv hd;have hx:∀z∈S.map kV++[kV k],Dc.Dq z:=λz hz=>by
  rcases db.mp hz with hz|hz
  ·obtain⟨y,hy,rfl⟩:=m7.mp hz;exact vi y<|e9 _ hy
  ·rw[bi.mp hz];exact vi k<|gl _<|bi.mpr rfl
 refine⟨_,rfl,d,rfl,jW,rC,by lia,λJ H1 L lk=>?_⟩;have wt:=Dc.YO J L.at_;obtain⟨M,A,O,hR⟩:=hp J ((Dc.Od _ _ lk).trans zJ) wt;generalize S.map kV=S at ht hx A hR⊢;generalize hlv:kV k=Q at ht hx O hR⊢;have mD:=L.same _ _ ht;refine⟨_,rfl,_,rfl,J,t,S,Q,M,rfl,L.at_,mD,hx,A,λH2 s2=>?_⟩;have N:=L.up s2;refine⟨_,rfl,_,rfl,t,_,_,_,rfl,rfl,BP.of<|s2 _ _ mD,Ky S Q,?_⟩;have G:=Dc.Cb.sub A;refine⟨_,rfl,_,rfl,M,Q,rfl,G.at_ N.at_,hx Q<|by simp,_,rfl,BN (by rw[O];rfl) ?_⟩;have fin:∀(m:Dc)(I Z:Hp)(b:Addr),ET H2 I m->Dc.C' (.leaf<|.int i) m->M.val=.ref b->b∈M.addrs->(M.Gy Q m).At Z->(∀a o,a≠b->I a=ι o->Z a=ι o)->(∀o u,Z b≠ι (.BK o u))->En.rt J.val Z:=λm I Z b s E ev bm nat kp ob=>by
  have F3:=N.up s.same;have pm:=Dc.Sn (v:=m) O;have dj:∀c∈m.addrs,c∉J.addrs/\H c=none:=λc C=>⟨λz=>Dc.there N.at_ z<|s.new c C,N.same.free<|s.new c C⟩;have zL:M.addrs.Nodup:=by
   obtain⟨l,r,e1,_⟩:=Dc.FR (n:=M) wt L.nd A;have:=L.nd;rw[e1]at this;exact(i3.mp (i3.mp this).1).2.1
  have FF:=F3.edit (n:=M.Gy Q m) A ev bm ((Dc.QO ..).trans ev) nat kp (pm.nodup_iff.mpr (i3.mpr ⟨zL,s.nd,λx zM y hy z=>(dj y hy).1 (by rw[<-z];exact G.addrs x zM)⟩)) (λc C=>by
    by_cases U:c=b
    ·rw[U];exact ob
    ·rcases db.mp (pm.mem_iff.mp C)with h|h
     ·exact Ho (Dc.there F3.at_<|G.addrs c h) (F3.own c<|G.addrs c h) λo=>kp c o U
     ·exact Ho (Dc.there s.at_ h) (s.own c h) λo=>kp c o U)
   (λc C=>by
    rcases db.mp (pm.mem_iff.mp C)with h|h
    ·exact .inl h
    ·exact .inr (dj c h))
  have vv:(J.FQ S<|M.Gy Q m).val=J.val:=Dc.LW A<|Dc.QO ..;have zN:m=.leaf (.int i):=by cases m<;>simp[Dc.C']at E;rw[E]
  subst zN;have:=q (J.FQ S<|M.Gy Q<|.leaf<|.int i) Z FF hR;rw[vv]at this;exact this
 rcases Dc.LX O with⟨b,p,j,rfl,rfl,hi⟩|⟨b,ks,p,k,rfl,rfl,hk⟩
 ·refine⟨_,rfl,_,"str","int",rfl,rfl,.int _,_,rfl,Ar ?_⟩;have e:=G.at_ N.at_;simp only[Dc.At]at e;have eb:=e.1.exact (N.own b<|G.addrs b<|by simp[Dc.addrs]);have lx:=Dc.CH p;have V:=G.size;simp only[Dc.size]at V;have zO:=Dc.JP d J lk;refine⟨_,rfl,.inl ⟨rfl,_,Ag.of eb⟩,_,rfl,_,rfl,.leaf<|.int i,rfl,.inl ⟨i,rfl⟩,trivial,(by show 1<=900;decide),λm I s E=>⟨b,_,j,_,rfl,rfl,s.same _ _ eb,by rw[ap];exact hi,Ac<|by rw[ap];lia,_,rfl,fin m I _ b s E rfl (by simp[Dc.addrs]) ?_ (λa o ha h=>by rw[AH ha];exact h) λo u z=>by rw[AA]at z;cases z⟩⟩;simp only[Dc.Gy,pc,Dc.At];have nb:b∉Dc.AJ p:=by
   obtain⟨l,r,e1,_⟩:=Dc.FR (n:=Dc.row b p) wt L.nd A;have:=L.nd;rw[e1]at this;have:=(i3.mp (i3.mp this).1).2.1;simp only[Dc.addrs]at this;exact(j0.mp this).1
  have X:Dc.EC (upd I b<|.lst ((p.map Dc.val).take j++m.val::(p.map Dc.val).drop j)) p:=Dc.Bh p (λc C o h=>by rw[AH λz=>nb<|by rw[<-z];exact C];exact s.same _ _ h) e.2;have Y:m.At (upd I b<|.lst ((p.map Dc.val).take j++m.val::(p.map Dc.val).drop j)):=Dc.Em m (λc C o h=>by rw[AH λz=>Dc.there N.at_ (G.addrs b<|by simp[Dc.addrs])<|by rw[<-z];exact s.new c C];exact h) s.at_;refine⟨.inl ?_,(Dc.Bj _ _).mpr ?_⟩
  ·rw[AA,io,ge,abr,List.map_drop]
  ·have h2:=(Dc.Bj (p.take j)<|p.drop j).mp (by rw[x5];exact X);refine⟨h2.1,?_⟩;simp only[Dc.EC];exact⟨Y,h2.2⟩
 ·refine⟨_,rfl,_,"str","str",rfl,rfl,.str _,_,rfl,CP ?_⟩;have e:=G.at_ N.at_;simp only[Dc.At]at e;have eb:=e.1.exact (N.own b<|G.addrs b<|by simp[Dc.addrs]);have lx:=Dc.CH p;have V:=G.size;simp only[Dc.size]at V;have zO:=Dc.JP d J lk;refine⟨_,rfl,.leaf<|.int i,rfl,.inl ⟨i,rfl⟩,trivial,(by show 1<=900;decide),λm I s E=>⟨_,rfl,_,rfl,b,_,rfl,MW.k (k:=d0 k) (s.same _ _ eb)<|Ac<|by rw[Dc.bQ e.2.1];lia,?_⟩⟩;have nv:BF (Dc.kvs ks p) (d0 k)=none:=by
   rw[Dc.IP e.2.1];cases q2:(ks.zip p).lookup k with
   |none=>rfl
   |some x=>exact absurd (Dc.Ca q2).1 hk
  rw[LA _ nv];refine⟨_,rfl,fin m I _ b s E rfl (by simp[Dc.addrs]) ?_ (λa o ha h=>by rw[AH ha];exact h) λo u z=>by rw[AA]at z;cases z⟩;simp only[Dc.Gy,Dc.At];have nb:b∉Dc.AJ p:=by
   obtain⟨l,r,e1,_⟩:=Dc.FR (n:=Dc.tab b ks p) wt L.nd A;have:=L.nd;rw[e1]at this;have:=(i3.mp (i3.mp this).1).2.1;simp only[Dc.addrs]at this;exact(j0.mp this).1
  have X:Dc.EC (upd I b<|.dK<|Dc.kvs ks p++[(d0 k,m.val)]) p:=Dc.Bh p (λc C o h=>by rw[AH λz=>nb<|by rw[<-z];exact C];exact s.same _ _ h) e.2.2.2;have Y:m.At (upd I b<|.dK<|Dc.kvs ks p++[(d0 k,m.val)]):=Dc.Em m (λc C o h=>by rw[AH λz=>Dc.there N.at_ (G.addrs b<|by simp[Dc.addrs])<|by rw[<-z];exact s.new c C];exact h) s.at_;refine⟨.inl ?_,by simp[e.2.1],OH e.2.2.1 hk,(Dc.Bj _ _).mpr ⟨X,by simp only[Dc.EC];exact⟨Y,trivial⟩⟩⟩;rw[AA,Dc.Xt k m e.2.1]
theorem Tf{X:Addr}(F:Fq K "justs_in" 25 f fd)(T:Txt mg)(g:Df P w K mg base "gathered" lqk 4 (Ke X))(mI:mg "inner_nodes"=ι (.ref X)):Ab P w K mg base Bs 5 f fd lqq Ov:=by
 refine F.oq lqq λH _ _ A_ A hr h=>?_;obtain⟨G,v,a,rfl,sG,hv,J,hz,q⟩:=h;refine⟨_,(AD<|AM<|Ge (fv:=[]) (fs:=[]) rfl (.of<|by rfl) (BL<|Bc g hr<|AE (pv 0)<|AY<|Co (v:=.ref X) rfl mI rfl) (λC s0 H0 fp=>Gd<|AO BR (Bx K 0) AZ<|Aa _) λC s0 H0 fp=>(Bx K 0)),?_⟩;have hG:=Ak.QY a J;refine⟨_,rfl,G,v,a.pt,a.size,rfl,sG,hv,a.nd hG<|by lia,by lia,λp L l jS H1 Y np O vl bf ll=>?_⟩;have le:=vl.length;have B:=Yv (D:=Ak.lK) ⟨a,rfl,J⟩ (λt n h k=>h.eA k) bf;refine⟨p,rfl,⟨_,Ag.of O⟩,Up L.length (λi=>L.getD i .BB) (λD i r=>AF H1 r/\∃(n:List V)(o:List Pt),r D=ι (.lst n)/\n.length<=i/\AS G n o/\(∀d∈o,d.doc/\d.size<=10)/\∀j,j<i->∀d,l[j]?=ι (Ak.Ao d).pt->d∈o) (λD M=>⟨AF.new M,[],[],AA,bn _,.nil,(λd I=>nomatch I),λj Z=>absurd Z<|F1 _⟩) (λD i r Q ⟨s,_⟩=>⟨_,_,Ag.of<|s _ _ O,ACu Q⟩) (λD i r v H' Q ⟨s,_⟩ y=>?_) (λD r ⟨s,_⟩=>⟨_,Ag.of<|s _ _ O,bn _⟩) (λD i r M Q ⟨s,n,o,R,lu,N,S,U⟩=>?_) λD r M ⟨s,n,o,R,lu,N,S,U⟩=>?_⟩
 ·obtain⟨e,y⟩:=y;refine⟨?_,e⟩;rw[ci,y _<|Ag.of<|s _ _ O];rfl
 ·have gi:L[i]?=ι (L.getD i .BB):=by rw[ci,ACu Q];rfl
  obtain⟨t,ht,vt⟩:=vl.get gi;obtain⟨b,rfl,bo⟩:=B.ok t (ACx ht);generalize L.getD i .BB=y at vt⊢;obtain⟨t0,w0,rest,eO,k⟩:=vt.ak;have hs:=eO.up (sG.trans (Y.trans s));have next:(∀d,b≠.Ao d)->AF H1 r/\∃(n:List V)(o:List Pt),r D=ι (.lst n)/\n.length<=i+1/\AS G n o/\(∀d∈o,d.doc/\d.size<=10)/\∀j,j<i+1->∀d,l[j]?=ι (Ak.Ao d).pt->d∈o:=λnb=>⟨s,n,o,R,by lia,N,S,λj Z d I=>by
   by_cases c:j<i
   ·exact U j c d I
   ·have:j=i:=by lia
    subst this;rw[ht]at I;exact absurd (Ak.Hs _ _ (ACw I)) (nb d)⟩
  refine Az hs ?_;rcases k with _|⟨d,u,A⟩|⟨xs,m,u,A⟩|⟨ks,xs,ls,m,u,z,A,hz⟩
  ·exact BG<|next λd z=>nomatch z
  ·simp only[Ak.ok]at bo;refine DD ⟨_,rfl,t0,_,1,_,rfl,rfl,hs,CK,n,R,Ac<|by lia,s.put M,n++[u],o++[d],AA,by simp;lia,N.snoc A,λx E=>?_,λj Z x E=>?_⟩
   ·rcases db.mp E with E|E
    ·exact S x E
    ·rw[bi.mp E];exact bo.2
   ·by_cases c:j<i
    ·exact e9 _<|U j c x E
    ·have:j=i:=by lia
     subst this;rw[ht]at E;cases(Ak.Hs _ _<|ACw E);exact gl _<|bi.mpr rfl
  ·exact BG<|next λd z=>nomatch z
  ·exact BG<|next λd z=>nomatch z
 ·have lvu:=N.length;refine q D n o r (Y.trans s) (Y.free M) R N (by lia) S λd I=>?_;rcases Ak.WM hG bf d I with⟨j,h1,h2⟩|⟨j,b,h1,h2,_⟩
  ·exact U j (by lia) d h2
  ·have:=DR h2;lia
theorem Rf{M:Addr}(F:Fq K "leaves_in" 26 f fd)(T:Txt mg)(a:Df P w K mg base "gathered" lqk 4 (Ot M))(mO:mg "inner_of"=ι (.ref M)):Ab P w K mg base Bs 5 f fd ["docs"] eK:=by
 refine F.oq ["docs","leaves","part"] λH _ _ A_ d hr h=>?_;obtain⟨v,t,rfl,hv,hd,hz,q⟩:=h;refine⟨_,(AB (Ad 1 A_ IG) (AB (HQ (BL (Bc a hr (AE (pv 0) (AY (Co (v:=.ref M) rfl mO rfl))))) (Bp 2 A_) (AD (AV (CV (As (Av LL rfl T.isinstance Cg (AE (pv 2) (AY (Al (AE (Cp (v:=.ty "list") rfl T.list BU rfl) (AY (Cp (v:=.ty "dict") rfl T.dict CZ rfl))))))))) (AD (Ga d (pv 1) (pv 2) Dp rfl)) AL))) (AD (AM (pv 1))))),?_⟩;refine λu d=>?_;obtain⟨H1,eH,N,fu⟩:=HH (o:=.dK []) d;rw[eH];clear eH;dsimp only[Aj];refine⟨_,rfl,H,v,t,rfl,N,hv,hd,hz,λp es l H2 O np hp vl ll dl lv _=>?_⟩;have le:=vl.length;have Q:=O _ _ fu;have pu:p≠u:=Bw np fu;refine⟨p,rfl,⟨_,Ag.of hp⟩,Br (xs:=es) (λi G C=>∃(R:Option V)(kvs:List (Key×V)),G=[ι v,ι (.ref u),R]/\(∀b o,b≠u->H2 b=ι o->C b=ι o)/\C u=ι (.dK kvs)/\kvs.length<=i/\∀j,j<i->∀k,l[j]?=ι (.int k)->(BF kvs (v8 k)).isSome=true)
  ⟨ν,[],rfl,λ_ _ _ h=>h,Q,bn _,λj B=>absurd B (F1 _)⟩ (λi G C _ ⟨_,_,_,k,_⟩=>Ag.of (k _ _ pu hp)) ?_ ?_⟩
 ·refine λi x G C _ go hx h0=>DB λX hX=>?_;obtain⟨R,kvs,rfl,I,D,lk,J⟩:=h0;obtain⟨S,E,vx⟩:=vl.get hx;have hi:=DR hx;have U:=Pt.BC dl S<|ACx E;have Y:AF H C:=λb o e=>I b o (Bw e d)<|(N.trans O) _ _ e;subst hX;dsimp only[Aj];refine⟨_,rfl,An,.mk λg Hj hg Z L=>?_⟩;have s:=Z _ _ D;have y:∀b o,b≠u->H2 b=ι o->Hj b=ι o:=λb o n e=>Z _ _<|I b o n e;have A:=(vx.up Y).up Z;have skip:(∀k,S≠.int k)->∀j,j<i+1->∀k,l[j]?=ι (.int k)->(BF kvs<|v8 k).isSome=true:=λnb j B k m=>by
   by_cases c:j<i
   ·exact J j c k m
   ·have:j=i:=by lia
    subst this;rw[E]at m;exact absurd (ACw m)<|nb k
  cases S with
  |int i0=>
   cases A;refine⟨_,g,"int",rfl,L,.int _,_,rfl,CP ⟨_,rfl,_,rfl,u,_,rfl,MW.k (k:=v8 i0) s<|Ac<|by lia,?_⟩⟩;refine go.n ⟨_,_,rfl,λb o n e=>by rw[AH n];exact y b o n e,AA,by have:=Cw kvs (v8 i0)<|.bl true;lia,λj B k m=>?_⟩;rw[IF];split
   ·rfl
   ·rename_i ne
    by_cases c:j<i
    ·exact J j c k m
    ·have:j=i:=by lia
     subst this;rw[E]at m;cases m;exact absurd rfl ne
  |str s0=>
   cases A;refine⟨_,g,"str",rfl,L,.str _,_,rfl,CP ⟨_,rfl,_,rfl,u,_,rfl,MW.k (k:=d0 s0) s<|Ac<|by lia,?_⟩⟩;refine go.n ⟨_,_,rfl,λb o n e=>by rw[AH n];exact y b o n e,AA,by have:=Cw kvs (d0 s0)<|.bl true;lia,λj B k m=>?_⟩;rw[IF,if_neg λz=>nomatch z];exact skip (λk z=>nomatch z) j B k m
  |bl b=>simp[Pt.doc]at U
  |BB=>simp[Pt.doc]at U
  |tup xs=>simp[Pt.doc]at U
  |lst xs=>
   cases A with
   |lst h r=>exact⟨_,g,"list",rfl,L,.lst h,_,rfl,Ar (go.n ⟨_,_,rfl,y,s,by lia,skip λk z=>nomatch z⟩)⟩
  |BV ks xs=>
   cases A with
   |BV h m r=>exact⟨_,g,"dict",rfl,L,.dK h,_,rfl,Ar (go.n ⟨_,_,rfl,y,s,by lia,skip λk z=>nomatch z⟩)⟩
 ·rintro G C ⟨R,kvs,rfl,I,D,lk,J⟩;refine⟨_,rfl,q u kvs C (λb o e=>I b o (Bw e d)<|(N.trans O) _ _ e) d D (by lia) λk m=>?_⟩;obtain⟨j,B⟩:=G2<|lv _ m;exact J j (by have:=(DR B);lia) k B
theorem MI:FK lqr lqr (BA Dx):={}
theorem Rg{cM:Addr}(F:Fq K "sample_of" 28 f fd)(T:Txt mg)(R:Df P w K mg base "folded" lqB 8 (Uo P w K mg base fI))(l:Df P w K mg base "sample_part" lqt 4 (Us C))(vR:fd.code=.ref cM)(zP:D4 K cM TM=true)(rN:BM mg base)(mI:mg "inner_nodes"=ι (.ref fI)):Ab P w K mg base Bs 10 f fd lqr (Ut C TM aN aO):=by
 obtain⟨oA,oB,S,U,V,X⟩:=R.ex;obtain⟨eP,eQ,m,p,y,B⟩:=l.ex;refine F.ya vR MI (λvs H Q E h=>?_) λA outer s H vs En E tn hr h=>?_
 ·obtain⟨G,v,o,u,k0,N,a,rfl,sG,gT,hv,Ax,mG,go,gu,lv,rO,tab,q⟩:=h;rfl
 ·obtain⟨G,v,o,u,k0,N,a,rfl,sG,gT,hv,Ax,mG,go,gu,lv,rO,tab,q⟩:=h;have nd:=MI.nd;have hu:=Xj hr;have J:BX 8 _:=hr.mm;have cW:BX 4 _:=hr.mm;refine⟨_,(AD<|AM<|Yu X J rfl V S U .nil rfl<|AE (pv 0)<|AE (Co (v:=.ref fI) rfl mI rfl)<|AY<|iB rfl zP rN rfl rfl),?_⟩;refine⟨_,rfl,tab,λfl cl pm ctv I j nf vm rP zQ=>?_⟩;intro F0 fz;obtain⟨Z,hZ⟩:∃Z,Z=Ec (Nz Bs P w K mg base lqr "sample_of" (BA Dx) f (.ref cM) A outer s H E).dM:=⟨_,rfl⟩;rw[<-hZ];have zn:∀b∈Z,I b=none:=λb g=>by rw[hZ]at g;obtain⟨x,hx⟩:=Cu.mp g;exact fz.BB x b hx
  have zo:∀b∈Z,∃o,F0 b=ι (.BK o<|.own 0):=λb g=>by rw[hZ]at g;obtain⟨x,hx⟩:=Cu.mp g;obtain⟨o,_,e,_⟩:=fz.ni x b hx;exact⟨o,e⟩
  have m1:s.heap.objs.size+1∈Z:=by rw[hZ];exact Cu.mpr ⟨"leaves",rfl⟩
  obtain⟨o1,u1,e1,d1,r1⟩:=fz.val 1 "leaves" (.ref o) (s.heap.objs.size+1) rfl rfl rfl rfl;have M:AF I (NK Z F0 I):=λb o e=>by rw[By λg=>by rw[zn b g]at e;cases e];exact e
  have lne:=lv.ne;obtain⟨⟨dx,lfs,ho,_⟩,oC⟩:=id lv;have tT:∃D,H TM=ι (.Ju D):=by cases tab with|new h=>exact⟨_,h⟩|old _ _ _ _ h=>exact⟨_,h⟩
  have oT:o≠TM:=λz=>by obtain⟨D,e⟩:=tT;rw[z,e]at ho;cases ho
  have uT:u≠TM:=λz=>by obtain⟨D,e⟩:=tT;rw[z,e]at oC;cases oC
  have Y:=j _ _ oT ho;have mH:=j _ _ uT oC;have rQ:Lv C I o u N k0:=lv.up (Y.trans ho.symm)<|mH.trans oC.symm;have vn:Lv C (NK Z F0 I) o u N k0:=rQ.up ((M _ _ Y).trans Y.symm)<|(M _ _ mH).trans mH.symm;have aP:∀b z,NK Z F0 I b=ι z->(∀a b c,z≠.ins a b c)->(∀a,z≠.dK a)->b∉[o,u]:=λb z e n1 n2 g=>by
   rcases ca.mp g with rfl|g
   ·rw[M _ _ Y]at e;cases e;exact n1 _ _ _ rfl
   ·rw[bi.mp g,M _ _ mH]at e;cases e;exact n2 _ rfl
  have oE:∀b D w',NK Z F0 I b=ι (.BK D w')->CJ [o,u] (NK Z F0 I) b=ι (.BK D w'):=λb D w' e=>by
   rw[Aq<|aP b _ e (λ_ _ _ z=>nomatch z) λ_ z=>nomatch z];exact e
  have rR:AF G (CJ [o,u]<|NK Z F0 I):=λb D e=>by
   rw[Aq (λg=>by
    rcases ca.mp g with rfl|g
    ·rw[go]at e;cases e
    ·rw[bi.mp g,gu]at e;cases e)]
   exact M _ _<|j b D (Bw e gT)<|sG _ _ e
  have gz:∀b∈Z,G b=none:=λb g=>by
   cases h:G b with
   |none=>rfl
   |some o=>
    have:=j b o (Bw h gT)<|sG _ _ h;rw[zn b g]at this;cases this
  have x1:CJ [o,u] (NK Z F0 I) (s.heap.objs.size+1)=ι (.BK o1 (.own 0)):=oE _ _ _ (by rw[Ih m1];exact e1);have LH:=Qe.mk (H:=CJ [o,u] (NK Z F0 I)) (f:=fl) (cl:=[("leaves",s.heap.objs.size+1)]) (pm:=pm) (c:=cl) (ctv:=ctv) (fs:=["leaves"]) (ws:=[.ref o]) ⟨_,oE _ _ _ (M _ _ rP)⟩ (let⟨oc,uc,xs,tt,h,r⟩:=zQ;⟨oc,uc,xs,tt,oE _ _ _ (M _ _ h),r⟩) (λx hx=>by
   rw[bi.mp hx];exact⟨_,rfl⟩) fz.inj (λc hc=>by
   rw[bi.mp hc];exact⟨o1,_,x1,d1⟩) (λi x vv h1 h2=>by
   match i,h1,h2 with
   |0,h1,h2=>cases h1;cases h2;exact⟨_,o1,u1,rfl,x1,d1,r1⟩) rfl
  generalize rS:NK Z F0 I=Hx at M rR x1 LH vn aP oE⊢;have zc:∀{b:Addr},b∈([("leaves",s.heap.objs.size+1)]:List (Str×Addr)).map (·.2)->b∈Z:=λ{b} g=>by
   rw[bi.mp g];exact m1
  generalize hcz:([("leaves",s.heap.objs.size+1)]:List (Str×Addr))=O at LH zc rP;obtain⟨G',oG⟩:∃G',G'=CJ [o,u] Hx:=⟨_,rfl⟩;rw[<-oG]at LH rR x1;have zx:∀b∈O.map (·.2),∃o,G' b=ι (.BK o<|.own 0):=λb g=>by obtain⟨o,_,e,_⟩:=LH.fz b g;exact⟨o,e⟩
  have nZ:∀b∈[o,u],b∉O.map (·.2):=λb g hc=>by
   obtain⟨D,e⟩:=zx b hc;rw[oG,Dm g]at e;cases e
  have SI:=Qr.st C o u k0;have GL:=LH.ok (P:=P) (w:=w) (K:=K) (mg:=mg) (base:=base) (k:=6) (ps:=["node","told"]) (sp:=Ou nr Ak.eB [o,u] (Qr C o u k0) G') {} (λvs H Q E hj=>by obtain⟨_,_,_,_,_,_,_,_,_,rfl⟩:=hj;rfl) λvs H2 Q2 E2 hj=>by
   obtain⟨H0,nv,nt,L,ws,us,cs,fs,f0,rfl,sx,jZ,hD,hL,nL,zR,vo,z0,kd,pr,ig,iv,il,q2⟩:=hj;refine⟨[.ref o],LH.up sx,λA1 rT s1 mJ=>⟨_,Tz B (mJ.mono<|by decide) rfl y m p .nil Jj<|AE (pv 0)<|AE (pv 1)<|AY<|pv 2,?_⟩⟩;have zS:∀b∈O.map (·.2),∃o,H2 b=ι (.BK o<|.own 0):=λb g=>let⟨o,e⟩:=zx b g;⟨o,sx _ _ e⟩;have so:AF (CJ (O.map (·.2)) G') (CJ (O.map (·.2)) H2):=λb o e=>by obtain⟨h1,h2⟩:=CM e;rw[Aq h1];exact sx _ _ h2
   have nz:∀b o,H0 b=ν->H2 b=ι o->b∉O.map (·.2):=λb o h _ g=>by obtain⟨D,e⟩:=zx b g;rw[vo _ _ e]at h;cases h
   refine⟨_,rfl,_,rfl,_,rfl,o,u,k0,CJ (O.map (·.2)) G',nv,L,rfl,rO,CJ (O.map (·.2)) H0,nv,nt,L,ws,us,cs,fs,f0,rfl,so,jZ.Ww<|WE zx,hD,?_,Cc nL,λb hb=>?_,λb D e=>?_,λb g=>?_,kd,pr,?_,SI.up _ _ _ (λb g=>Aq<|nZ b g) iv,il,λw' b' f' H' bz vw mx zT zU zV=>?_⟩
   ·rw[Aq λg=>by obtain⟨D,e⟩:=zS L g;rw[hL]at e;cases e];exact hL
   ·by_cases g:b∈O.map (·.2)
    ·exact Dm g
    ·rw[Aq g]at hb;exact Cc<|zR b hb
   ·obtain⟨h1,h2⟩:=CM e;rw[Aq h1];exact vo _ _ h2
   ·rw[Aq<|nZ b g];exact z0 b g
   ·refine ig.up λb o e=>?_;cases h:H0 b with
    |some z=>rw[JU h]at e;cases e
    |none=>
     rw[BZ h]at e;rw[BZ<|Cc h,Aq<|nz b o h e];exact e
   ·refine q2 w' b' f' _ ⟨λb D nb e=>?_,λb e=>?_⟩ (vw.up λb o e=>?_) mx (SI.up _ _ _ (λb g=>By<|nZ b g) zT) zU
    ·by_cases g:b∈O.map (·.2)
     ·rw[Ih g];exact e
     ·rw[By g];exact bz.keep _ _ nb<|by rw[Aq g];exact e
    ·by_cases g:b∈O.map (·.2)
     ·rw[Ih g]at e;exact e
     ·rw[By g]at e;have:=bz.Fl b e;rw[Aq g]at this;exact this
    ·cases h:CJ (O.map (·.2)) H0 b with
     |some z=>rw[JU h]at e;cases e
     |none=>
      rw[BZ h]at e;have g:b∉O.map (·.2):=λg=>by rw[zV b g]at e;cases e
      rw[Aq g]at h;rw[BZ h,By g];exact e
  refine⟨nr,Ak.eB,[o,u],Qr C o u k0,G',v,a.pt,fl,_,_,rfl,λb D e=>by rw[oG]at e;exact(CM e).2,λb g=>by rw[oG];exact Dm g,hv.up rR,⟨a,rfl,Ax,mG⟩,λt h=>h.ye,λt us h k=>h.eA k,.inr ⟨_,_,_,M _ _ rP,rfl⟩,.all λus hl=>by obtain⟨y1,y2,rfl⟩:=(show∃y1 y2,us=[y1,y2]from by match us,hl with|[y1,y2],_=>exact⟨y1,y2,rfl⟩);rfl,GL,SI,Qr.start vn,λw' b' f' H4 bz vw mr zW=>?_⟩;obtain⟨a',em,mx⟩:=mr;have:=Ak.Hs _ _ em;subst this;have hT:∃o,I TM=ι o:=by cases vm with|new h=>exact⟨_,h⟩|old _ _ _ _ h=>exact⟨_,h⟩
  have rV:∀b,I b=ν->H b=none:=λb h=>by
   cases hh:H b with
   |none=>rfl
   |some z=>
    by_cases bt:b=TM
    ·obtain⟨D,e'⟩:=hT;rw[bt,e']at h;cases h
    ·rw[j b z bt hh]at h;cases h
  have S4:∀b z,b∉[o,u]->I b=ι z->CJ Z H4 b=ι z:=λb z n e=>by rw[Aq λg=>by rw[zn b g]at e;cases e];exact bz.keep _ _ n<|M _ _ e
  have zX:Ey aN aO TM (CJ Z H4):=by
   cases vm with
   |new h=>exact .new (S4 _ _ (aP _ _ (M _ _ h) (λ_ _ _ z=>nomatch z) (λ_ z=>nomatch z)) h)
   |old c oc xs t h hc d n=>exact .old c oc xs t (S4 _ _ (aP _ _ (M _ _ h) (λ_ _ _ z=>nomatch z) (λ_ z=>nomatch z)) h) (S4 _ _ (aP _ _ (M _ _ hc) (λ_ _ _ z=>nomatch z) (λ_ z=>nomatch z)) hc) d n
  refine q w' b' f' _ (λz e n1 n2 h=>S4 _ _ n2<|j z e n1 h) (λz h=>?_) zX (vw.up λb o e=>?_) mx<|SI.up _ _ _ (λb g=>Aq λmz=>?_) zW
  ·by_cases g:z∈Z
   ·exact rV _<|zn _ g
   ·rw[Aq g]at h;have:=bz.Fl z h;rw[<-rS,By g]at this;exact rV _ this
  ·cases h:Hx b with
   |some z=>rw[JU h]at e;cases e
   |none=>
    rw[BZ h]at e;have g:b∉Z:=λg=>by obtain⟨D,e'⟩:=zo b g;rw[<-rS,Ih g,e']at h;cases h
    rw[<-rS,By g]at h;rw[BZ<|rV _ h,Aq g];exact e
  ·have:=zn b mz;rcases ca.mp g with rfl|g
   ·rw[Y]at this;cases this
   ·rw[bi.mp g,mH]at this;cases this
theorem Mn{gF:Addr}(F:Fq K "sample_part" 29 f fd)(T:Txt mg)(g:Df P w K mg base "copy_of" lql 2 IX)(i:Df P w K mg base "filled" lqx 2 Qd)(cC:Tx K C)(mF:Meth K C "fresh" gF)(bF:Binds K J ["self"] [])(GF:Ab P w K mg base Bs 1 gF J ["self"] (Ow C)):Ab P w K mg base Bs 4 f fd lqt (Us C):=by
 refine F.oq lqt λH _ _ A_ c hr h=>?_;obtain⟨o,X,k0,G,v,L,rfl,rO,H0,v9,t,L9,ws,us,cs,fs,f0,e0,Y,zY,hD,hL,nL,x,sG0,z0,kd,pr,r,E,il,q⟩:=h;have rW:BX 1 _:=hr.mono (by decide);refine⟨_,(AB (AV (AO BR (Bx K 0) AZ<|Aa _) (AD<|AM<|Pl (pv 2) cC mF GF rW bF .nil Jj) AL)<|AB (AV (AO BR (Bx K 0) AZ<|Aa _) (AD<|AM<|Bc g hr<|AY<|Bx K 0) AL)<|AD<|AM<|Bc i hr<|AE (Bx K 0)<|AY<|pv 1),?_⟩;cases e0;obtain⟨a,rfl,j,y⟩:=hD;obtain⟨t0,w0,rest,eO,k⟩:=zY.ak;have A:=eO.up Y;obtain⟨B,Z,rfl⟩:=Ak.Uc j kd;have I:=Ur pr;have SI:=Qr.st C o X k0;have D:∀{l:List Int}{M Hb:Hp},AF M Hb->Qr C o X k0 l M->Qr C o X k0 l Hb:=λ{l M Hb} s h=>SI.up l M Hb (λb hb=>by obtain⟨z,e,_⟩:=SI.Fl l M h b hb;rw[e,s _ _ e]) h;refine Az A ?_;rcases k with _|⟨d,u,c⟩|⟨xs,m,u,c⟩|⟨ks,xs,ls,m,u,z,c,hz⟩
 ·have O:B=[]:=Z;subst O;cases I;rw[Z2,j9]at E il;obtain⟨⟨N,kvs,lv,r1,r2,r3⟩,Q,ze⟩:=E;obtain⟨⟨dx,ow,ho,_,_,zg,_⟩,_⟩:=id lv;refine DD ⟨_,rfl,o,dx,ow,rfl,ho,zg,o,X,N,kvs,rfl,lv,by lia,λk H' nk bz zh=>?_⟩;exact q _ (.int k) [k] H' bz (.int _) ⟨.any,rfl,.any k⟩ (Qr.new (N:=N) (H:=H) Q ze r1 r2 r3 nk zh)<|by simp
 ·have O:B=[]:=Z;subst O;cases I;rw[Z2,j9]at E;simp only[Ak.Be,Ak.wt]at j y;refine BG<|Az A<|DD ?_;refine⟨_,rfl,t0,_,1,_,rfl,rfl,A,CK,QW rfl (c.up Y) j y λw R n vw=>?_⟩;exact q w d [] R (.of n) (vw.up<|CT x λb o _ h=>h) ⟨.Ao d,rfl,.Ao d⟩ (by rw[j9];exact D n E)<|by simp
 ·have O:B=xs:=Z;subst O;refine BG<|Az A<|BG ?_;have lw:=r.length;have lc:=I.len;simp only[Ak.wt]at y;have:=Ak.CH B;have:=Ak.CI B;refine⟨_,rfl,t0,_,1,_,rfl,rfl,A,CK,_,rfl,.row u _ L ws rfl (c.up Y) hL (by lia) λp R n np hp=>?_⟩;exact q _ (.lst cs) fs.flatten R (.of n) (.lst (.inl<|by rw[BZ<|x p np];exact hp)<|r.up<|CT (λb h=>h) λb o _ h=>n _ _ h) ⟨.row B m,rfl,.row I⟩ (D n E)<|by lia
 ·refine BG<|Az A<|BG ?_;obtain⟨ss,pm,so,e⟩:=Z;simp only[Ak.Be]at j;obtain⟨o1,o2,o3,o4,o5,o6,o7⟩:=j;have la:B.length=ss.length:=by have:=congrArg pp e.symm;simpa using this
  have lks:=pm.length_eq;have lw:=r.length;have lc:=I.len;refine⟨_,rfl,t0,_,1,_,rfl,rfl,A,CK,_,rfl,.tab u ks _ L ws rfl (c.up Y) hL ⟨by rw[Ak.Ae,ap];exact o1,by lia⟩ (by lia) o2 λp S R n np U V hp=>?_⟩;have es:=GC V so<|U.trans pm.symm;subst es;have l3:S.length=ws.length:=by lia
  exact q _ (.BV S cs) fs.flatten R (.of n) (.BV (.inl<|by rw[BZ<|x p np];exact hp) (Ew l3)<|by rw[Ie l3];exact r.up<|CT (λb h=>h) λb o _ h=>n _ _ h) ⟨.tab ks xs ls m,rfl,.tab U V e I⟩ (D n E)<|by lia
theorem Tg{gI gF fE:Addr}{mK vp:j4}(F:Fq K "roomier" 30 f fd)(T:Txt mg)(E:Df P w K mg base "gathered" lqk 4 (U' fE))(ij:Df P w K mg base "put_at" lqE 4 Zl)(L:Df P w K mg base "justs_in" lqq 5 Ov)(G:Df P w K mg base "sample_of" lqr 10 (Ut C TM aN aO))(A:Df P w K mg base "free_steps" lqD 2 Qx)(O:Df P w K mg base "names_in" lqq 6 VE)(Q:Df P w K mg base "new_name" ["taken"] 2 NV)(M:Mk K C gI)(mC:mg "Leaves"=ι (.ref C))(rX:Binds K mK lqy [])(rY:Ab P w K mg base Bs 6 gI mK lqy (Uq C))(cC:Tx K C)(mF:Meth K C "fresh" gF)(bF:Binds K vp ["self"] [])(GF:Ab P w K mg base Bs 1 gF vp ["self"] (Ow C))(Wl:mg "set"=ν)(mE:mg "entries_within"=ι (.ref fE)):Ab P w K mg base Bs 11 f fd lqz (Ng TM aN aO):=by
 refine F.oq ["asks","avoid","names","leaves","least","leaf","wanted","told","entry","step"] λH _ _ A_ _ hr h=>?_;obtain⟨v,a,l,ws,ds,nl,Y,rfl,hv,Ax,hz,PX,aQ,hl,ig,hd,oH,PY,rZ,cX,tab,q⟩:=h;have zi:BX 7 _:=hr.mono (by decide);have rW:BX 1 _:=hr.mono (by decide);refine⟨_,(AB (Ad 3 A_<|ae M rY zi rfl mC rX .nil Jj<|AY<|AN Hd (Bc L hr<|AY<|pv 0)<|pv 1)<|AB (Ad 4 A_<|Bc G hr<|AE (pv 0)<|AY<|pv 3)<|AB (Ad 5 A_<|Pl (pv 3) cC mF GF rW bF .nil Jj)<|AB (Ad 6 A_<|AN Hd (Av (Ij rfl:Bo _ _ (TH P w)) rfl T.sorted IL<|AY<|BJ (NN rfl:Bo _ _ (ZA K P w)) rfl Wl eE<|AY<|pv 2)<|Af<|AY<|Bc Q hr<|AY<|AN Hd (Bc O hr<|AY<|pv 0)<|pv 2)<|AB (Ad 7 A_<|Af A')<|AB (HQ (BL<|Bc E hr<|AE (Al<|AE (Al A')<|AY<|pv 0)<|AY<|Co (v:=.ref fE) rfl mE rfl) (Bp 8 A_)<|AD<|HQ (BL<|Bc A hr<|AE (Bx K 8)<|AY<|pv 6) (Bp 9 A_)<|AD<|Ai<|bT K (pv 7)<|Bc ij hr<|AE (pv 4)<|AE (AN Gn (Bx K 8)<|Al<|AY<|pv 9)<|AY<|pv 5)<|AD<|AM<|pv 7),?_⟩;have hG:=Ak.QY a Ax;have mG:=Ak.QZ a Ax;obtain⟨tx,hT⟩:=tab.Ju;refine⟨_,rfl,H,v,a,rfl,AF.refl _,hv,Ax,hz,λp R js H1 s1 hp f1 vj lj dj aj=>?_⟩;have lje:=vj.length;have zk:=ig.length;have zm:=Pt.CH ds;refine⟨_,rfl,p,l,R,ws,rfl,rfl,f1,s1 _ _ hl,Au<|by lia,λp2 vq o dx ho vr ne=>?_⟩;obtain⟨Z,oI⟩:∃Z,Z=upd H1 p2 (.lst<|R++ws):=⟨_,rfl⟩;rw[<-oI]at ho vr⊢;have s12:AF H1 Z:=by rw[oI];exact AF.new vq
 have s2:=s1.trans s12;have e2:Z p2=ι (.lst<|R++ws):=by rw[oI];exact AA
 have S3:AF Z (upd (upd Z dx<|.own o) o<|.ins C dx []):=(AF.new vr).trans (AF.new<|by rw[AH<|k8 ne];exact ho);have vz:AF Z (UU o<|upd (upd Z dx<|.own o) o<|.ins C dx []):=λb e h=>by
  have nb:b≠o:=Bw h ho;unfold UU;rw[if_neg nb];exact S3 _ _ h
 have vl:Val Z (.ref p2) (.lst<|js++ds):=.lst (.inl e2)<|(vj.up s2).append<|ig.up s2;have zp:Pt.CF js:=Pt.EV λd hd=>(dj d hd).1;have zj:=Pt.Dj (n:=10) λd hd=>(dj d hd).2;refine⟨o,dx,.ref p2,.lst<|js++ds,rfl,AA,vl.up vz,Pt.GS zp hd,by simp only[Pt.size,Pt.DX];lia,λu kvs H4 bz zr lv lk has=>⟨rfl,?_⟩⟩;have zu:Z u=none:=S3.free zr;have v_:H o=none:=s2.free ho;have Zw:H u=none:=s2.free zu;have S4:AF Z H4:=λb e h=>bz.keep b e (λz=>by rw[bi.mp z,ho]at h;cases h)<|S3 _ _ h;have rg:=s2.trans S4;have tS:AF (CJ [TM] H) H4:=λb e h=>rg _ _ (CM h).2;dsimp only[Aj];have lxk:=lk;refine⟨_,rfl,_,rfl,CJ [TM] H,v,o,u,kvs,0,a,rfl,tS,Dm dL,hv.Ww<|Fc hT,hG,by lia,Cc v_,Cc Zw,lv,lk,tab.up rg,λwl b f H5 kp dm tb vw sm iv=>?_⟩;dsimp only[Aj];have fl:=sm.qy hG;obtain⟨bd,bt,bz5,_⟩:=sm.is hG aQ;obtain⟨⟨N5,rh,ri,r1,r2,r3⟩,wA,wB⟩:=iv;obtain⟨⟨zv,zw,wC,_,_,zz,_⟩,z_⟩:=id ri;refine⟨_,rfl,o,zv,zw,rfl,wC,zz,o,u,N5,rh,rfl,ri,by lia,λleaf S nk U wD=>?_⟩;dsimp only[Aj];have lY:=Qr.new (N:=N5) (H:=H5) wA wB r1 r2 r3 nk wD;have aP:∀b z,H5 b=ι z->(∀a b c,z≠.ins a b c)->(∀a,z≠.dK a)->b∉[o,u]:=λb z e n1 n2 mb=>by
  rcases ca.mp mb with rfl|mb
  ·rw[wC]at e;cases e;exact n1 _ _ _ rfl
  ·rw[bi.mp mb,z_]at e;cases e;exact n2 _ rfl
 have wF:Ey aN aO TM S:=by
  cases tb with
  |new h=>exact .new (U.keep _ _ (aP _ _ h (λ_ _ _ z=>nomatch z) (λ_ z=>nomatch z)) h)
  |old c oc xs t h hc d n=>exact .old c oc xs t (U.keep _ _ (aP _ _ h (λ_ _ _ z=>nomatch z) (λ_ z=>nomatch z)) h) (U.keep _ _ (aP _ _ hc (λ_ _ _ z=>nomatch z) (λ_ z=>nomatch z)) hc) d n
 have rj:∀z e,H z=ι e->z∉[o,u]:=λz e h m=>by
  rcases ca.mp m with rfl|m
  ·rw[v_]at h;cases h
  ·rw[bi.mp m,Zw]at h;cases h
 have K6:∀z e,z≠TM->H z=ι e->S z=ι e:=λz e n h=>U.keep _ _ (rj z e h)<|kp z e n (rj z e h)<|rg _ _ h;obtain⟨tx6,rB⟩:=wF.Ju;have v6:Val S v a.pt:=(hv.Ww<|Fc hT).up λb e h=>K6 b e (λz=>by rw[z,Dm dL]at h;cases h) (CM h).2;have wG:S nl=ι (.lst<|Y.map V.str):=K6 _ _ (Bw PY hT) PY;have w6:Val S wl b:=vw.up λz e h=>by
  cases h4:H4 z with
  |some y=>rw[JU h4]at h;cases h
  |none=>
   rw[BZ h4]at h;refine U.keep _ _ (λm=>?_) h;rcases ca.mp m with rfl|m
   ·obtain⟨⟨_,_,e,_⟩,_⟩:=lv;rw[e]at h4;cases h4
   ·rw[bi.mp m,lv.ud]at h4;cases h4
 have fo:∀x∈leaf::f,∀d,d∈a.Bb∨d∈ds->Pt.int x∉d.Ll:=λx hx d hd hm=>by
  have:=has x (by
   simp only[Pt.Ll];refine Pt.GQ.mpr ⟨d,db.mpr ?_,hm⟩;rcases hd with hd|hd
   ·exact .inl<|aj d hd
   ·exact .inr hd)
  rw[lY.no x<|by rcases ca.mp hx with rfl|hx;exact gl _<|bi.mpr rfl;exact e9 _ hx]at this;cases this
 have fn:(leaf::f).Nodup:=ww.nodup_iff.mp (show(f++[leaf]).Nodup from lY.nd);have F0:∀z,S z=ν->H z=none:=λz h=>by
  cases e:H z with
  |none=>rfl
  |some y=>
   by_cases c:z=TM
   ·rw[c,rB]at h;cases h
   ·rw[K6 z y c e]at h;cases h
 clear vw kp dm tb U aP rj lY wD ri r1 r2 r3 nk bz has lv lk S3 vz vl S4 tS wA wB e2 s12 oI;refine⟨_,rfl,nl,Y,rfl,Ag.of wG,by lia,λpS hS=>⟨pS,_,rfl,AA,by have:=Ol Y;lia,λpL ss H7 nL sL fL rk rm=>?_⟩⟩;have eR:Zk Y ss:=⟨rm,rk⟩;have wH:=eR.len;have s67:=(AF.new (o:=Y' P w pS (PU Y)) hS).trans sL;refine⟨_,rfl,v,a,rfl,v6.up s67,Ax,aQ,hz,λpN nn H8 s8 nN fN lN kN=>?_⟩;have s68:=s67.trans s8;refine⟨_,rfl,pN,nl,_,_,rfl,rfl,fN,s68 _ _ wG,t8 (Lj (by simp;lia)),λpC hC=>?_⟩;have sC:=AF.new (o:=.lst (nn.map V.str++Y.map V.str)) hC;have fC:upd H8 pC (.lst (nn.map V.str++Y.map V.str)) pC=ι (.lst ((nn++Y).map V.str)):=by rw[AA,io]
 generalize upd H8 pC (.lst<|nn.map V.str++Y.map V.str)=H9 at sC fC⊢;refine⟨pC,nn++Y,rfl,fC,by simp;lia,λw0 mL s10 wn wb=>?_⟩;have wns:w0∉Y:=λz=>wn<|gl _ z;have wkn:w0∉a.HP:=λz=>wn<|e9 _<|kN _ z;have s610:=(s68.trans sC).trans s10;refine⟨Aw,.mk λpW kc hW sW fW=>?_⟩;have s611:=s610.trans sW;refine⟨pL,pW,_,_,rfl,rfl,sW _ _<|s10 _ _<|sC _ _<|s8 _ _ fL,fW,AX<|by simp;lia,λpX hX=>?_⟩;have sX:=AF.new (o:=.lst<|ss.map V.str++[.str w0]) hX;have fX:upd kc pX (.lst<|ss.map V.str++[.str w0]) pX=ι (.lst<|(ss++[w0]).map V.str):=by rw[AA,io];rfl
 generalize upd kc pX (.lst<|ss.map V.str++[.str w0])=H12 at sX fX⊢;have s612:=s611.trans sX;dsimp only[Aj];have ro:∀n∈ss++[w0],CS n=true:=λn hn=>by
  rcases db.mp hn with hn|hn
  ·exact rZ n<|eR.mem.mp hn
  ·rw[bi.mp hn];exact wb
 have wI:(ss++[w0]).length<=11:=by simp;lia
 have put:=sm.put ro hG;generalize hwd:ss++[w0]=wd at fX ro wI put;refine⟨by decide,.mk λD wJ hD sD fD=>?_⟩;dsimp only[Aj];have s613:=s612.trans sD;have wL:=s612.free hD;refine⟨by decide,λpE hE=>⟨_,rfl,An,λpQ hQ=>?_⟩⟩;have sE:=AF.new (o:=.tup []) hE;have wM:upd wJ pE (.tup []) pE=ι (.tup []):=AA;generalize upd wJ pE (.tup [])=H14 at sE wM hQ⊢;obtain⟨H15,eH,sQ,fQ⟩:=HH (o:=.tup [.ref pE,v]) hQ;rw[eH];clear eH;have s:=sE.trans sQ;have s615:=s613.trans s;refine⟨S,.ref pQ,a,rfl,.of s615,⟨⟨pQ,pE,v,rfl,fQ,sQ _ _ wM,v6⟩⟩,hG,by lia,by lia,λpG ents bl H16 s16 nG fG pr bf lb al=>?_⟩;have rp:=(GU pr).1;have rq:=@(GU pr).2;have s616:=s615.trans s16;have ip:=s16 _ _<|s _ _ fD;have ry:=s16 _ _<|s _ _<|sD _ _ fX;have GD:pG≠D:=λz=>by have:=s _ _ fD;rw[z,this]at nG;cases nG
 have XD:pX≠D:=Bw fX hD;have nD:∀{b o},S b=ι o->b≠D:=λe z=>by rw[z,wL]at e;cases e
 have bm:∀q∈bl,q∈Ak.Fo [] a:=λq hq=>(bf.all hG).mem_iff.mpr hq;refine⟨pG,rfl,⟨_,Ag.of fG⟩,Br (K:=K) (xs:=ents) (λi σ Hi=>∃(o8 o9:Option V)(R:List Dc),σ=[ι v,ι (.ref l),ι (.ref nl),ι (.ref o),ι wl,ι (.int leaf),ι (.ref pX),ι (.ref D),o8,o9]/\(∀b e,b≠D->H16 b=ι e->Hi b=ι e)/\Hi D=ι (.lst (R.map Dc.val))/\Ct S Hi R/\D∉Dc.AJ R/\R.length<=11*i/\Paired (λ(e:Dc)(m:List Key×Key)=>Ak.One a e.tr f m.1 m.2 leaf) R ((bl.take i).flatMap λq=>(Ak.fst wd q.2).map λk=>(q.1,k)))
  ⟨ν,ν,[],rfl,λ_ _ _ h=>h,ip,.nil s616,(λz=>nomatch z),d9 _,.nil⟩ (λi σ Hi _ ⟨_,_,_,_,k,_⟩=>Ag.of (k _ _ GD fG)) ?_ ?_⟩
 ·refine λi x σ Hi _ go hx h0=>DB λX hX=>?_;obtain⟨o8,o9,R,rfl,mM,cY,Fi,rz,lei,one⟩:=h0;have hi:=DR hx;obtain⟨B,wN,en⟩:=rq hx;have r_:=ACx wN;obtain⟨qok,qwt,qdp⟩:=al B r_;obtain⟨e0,tp,nv,rfl,wO,mN,jZ⟩:=en.at_;have wQ:e0≠D:=Bw wO ip;have wR:tp≠D:=Bw mN ip;have se:=mM _ _ wQ wO;have st:=mM _ _ wR mN;have sx:=mM _ _ XD ry;have oJ:AF S Hi:=Fi.same;subst hX;dsimp only[Aj];refine⟨_,rfl,e0,_,1,_,rfl,rfl,BP.of se,CK,_,rfl,nv,B.2,pX,wd,rfl,jZ.up oJ,qok,qwt,sx,by lia,λpF H17 s17 nF fF=>?_⟩;have FD:pF≠D:=Bw nF cY;have F17:=Fi.up s17;have D17:=s17 _ _ cY;obtain⟨r,er,pq⟩:=put [] B<|bm B r_;rw[F6]at er;have step:(bl.take<|i+1).flatMap (λq=>(Ak.fst wd q.2).map λk=>(q.1,k))=(bl.take i).flatMap (λq=>(Ak.fst wd q.2).map λk=>(q.1,k))++(Ak.fst wd B.2).map λk=>(B.1,k):=by
   rw[j2,wN,Os];simp
  have lf:(Ak.fst wd B.2).length<=11:=by
   cases B.2 with
   |any=>simp[Ak.fst]
   |Ao d=>simp[Ak.fst]
   |row xs m=>cases m<;>simp[Ak.fst]
   |tab ks xs ls m=>
    cases m with
    |false=>simp[Ak.fst]
    |true=>
     simp only[Ak.fst,ap];exact j5 (R7 _ _) wI
  refine⟨pF,rfl,⟨_,Ag.of fF⟩,Br (K:=K) (xs:=(Ak.fst wd B.2).map kV) (λj σ Hj=>∃(o9:Option V)(g:List Dc),σ=[ι v,ι (.ref l),ι (.ref nl),ι (.ref o),ι wl,ι (.int leaf),ι (.ref pX),ι (.ref D),ι (.ref e0),o9]/\(∀b e,b≠D->H17 b=ι e->Hj b=ι e)/\Hj D=ι (.lst (g.map Dc.val))/\Ct S Hj g/\D∉Dc.AJ g/\g.length<=11*i+j/\Paired (λ(e:Dc)(m:List Key×Key)=>Ak.One a e.tr f m.1 m.2 leaf) g ((bl.take i).flatMap (λq=>(Ak.fst wd q.2).map λk=>(q.1,k))++((Ak.fst wd B.2).take j).map λk=>(B.1,k)))
   ⟨o9,R,rfl,λ_ _ _ h=>h,D17,F17,rz,by lia,by simpa using one⟩ (λj σ Hj _ ⟨_,_,_,k,_⟩=>Ag.of (k _ _ FD fF)) ?_ ?_⟩
  ·refine λj y σ Hj _ go hy h0=>DB λX hX=>?_;obtain⟨o9,g,rfl,mP,oK,Fj,sA,wU,I⟩:=h0;rw[bv]at hy;cases hk:(Ak.fst wd B.2)[j]? with
   |none=>rw[hk]at hy;cases hy
   |some k=>
    rw[hk]at hy;cases hy;have km:=ACx hk;have hj:=DR hk;have sej:=mP _ _ wQ<|s17 _ _ se;have stj:=mP _ _ wR<|s17 _ _ st;have s6j:AF S Hj:=Fj.same;subst hX;dsimp only[Aj];refine⟨_,rfl,.inl ⟨rfl,_,Ag.of oK⟩,_,rfl,_,rfl,e0,_,0,_,rfl,rfl,BP.of sej,YU,_,rfl,Aw,.mk λpT H18 hT sT fT=>⟨tp,pT,_,_,rfl,rfl,sT _ _ stj,fT,AX<|by rw[ap,i5];lia,λpP H19 s19 fP _=>?_⟩⟩;have J:=sT.trans s19;refine⟨_,rfl,wl,b,pP,B.1,k,leaf,(λt'=>Ak.One a t' f B.1 k leaf),rfl,w6.up<|s6j.trans J,bd,by lia,fP,λz hz=>?_,λd hd wf=>?_,λd' H20 Fd hR=>?_⟩
    ·rcases db.mp hz with hz|hz
     ·exact Ak.L' a [] hG (λz hz=>nomatch hz) B (bm B r_) z hz
     ·rw[bi.mp hz];exact Ak.Zi ro km
    ·rw[er];exact pq k km leaf d hd wf
    ·have sH:=J _ _ oK;have D20:=Fd.same _ _ sH;have nDd:D∉d'.addrs:=λz=>by rw[Fd.new D z]at sH;cases sH
     have wV:=(Fj.up J).snoc Fd;have ea:Dc.AJ (g++[d'])=Dc.AJ g++d'.addrs:=by rw[Dc.AQ];simp[Dc.AJ]
     have wW:D∉Dc.AJ (g++[d']):=by
      rw[ea];exact λz=>(db.mp z).elim sA nDd
     refine⟨D,g.map Dc.val,_,rfl,rfl,D20,Lj<|by rw[ap];lia,go.n ⟨_,g++[d'],rfl,λb e n h=>by rw[AH n];exact Fd.same _ _<|J _ _<|mP b e n h,by rw[AA,io];rfl,wV.frame (λb e h=>by rw[AH<|nD h];exact wV.same _ _ h) λc hc e h=>by rw[AH λz=>wW<|by rw[<-z];exact hc];exact h,wW,by simp;lia,?_⟩⟩;rw[j2,hk,io,<-ii];exact I.snoc hR
  ·rintro σ Hj ⟨o9,g,rfl,mP,oK,Fj,sA,wU,I⟩;rw[ap,im]at I;rw[ap]at wU;refine go.n ⟨_,_,g,rfl,λb e n h=>mP b e n<|s17 _ _<|mM b e n h,oK,Fj,sA,by lia,?_⟩;rw[step];exact I
 ·rintro σ Hi ⟨o8,o9,R,rfl,mM,cY,Fi,rz,lei,one⟩;rw[rp,im]at one;have oJ:AF S Hi:=Fi.same;refine⟨_,rfl,q D R f leaf bl ss w0 Hi (λz e n h=>oJ _ _<|K6 z e n h) (wF.up oJ) (F0 _ wL) cY ⟨Fi.at_,Fi.nd,Fi.own,λc hc=>F0 _<|Fi.new c hc,eR,wns,wkn,fn,fo,bf,lb,?_⟩ rz⟩;rw[hwd];exact one
theorem Jg(F:Fq K "entries_within" 31 f fd)(T:Txt mg)(j:Df P w K mg base "steps_of" lql 1 GK):Ab P w K mg base Bs 2 f fd ["entry"] eM:=by
 refine F.oq ["entry","path","node"] λH En _ A_ Gx hr h=>?_;obtain⟨G,v,qe,rfl,sG,en,Ax,Y,WA,q⟩:=h;refine⟨_,(AB (Dy (i:=1) A_ rfl (Op rfl)<|Bx K 0)<|AB (Dy (i:=2) A_ rfl (Op rfl)<|Bx K 0)<|AB (AV (AO (FL:Dr _ _ (Wv K true)) (Bx K 2) (Al<|AE AZ<|AY AZ) rfl) (AD<|AM<|Af A') AL)<|AD<|AM<|cmp ["path","node"] [1,2] (BL<|Bc j hr<|AY<|Bx K 2) λ_ _ _ _=>(Al<|AE (AN Gn (pv 1)<|Al<|AY<|pv 0)<|AY<|ED (Fp K (Bx K 2)<|pv 0)<|Nn Gx (Bx K 2)<|pv 0)),?_⟩;obtain⟨e,tp,nv,rfl,he,mN,jZ⟩:=en.at_;obtain⟨t,a⟩:=qe;dsimp only at Ax Y WA q mN jZ;refine⟨_,rfl,e,_,0,_,rfl,rfl,BP.of he,YU,?_⟩;dsimp only[Aj];refine⟨_,rfl,e,_,1,_,rfl,rfl,BP.of he,CK,?_⟩;dsimp only[Aj];obtain⟨Z,w0,rest,A,cs⟩:=jZ.ak;have ht:=A.DK sG;refine⟨_,rfl,Z,_,0,.str w0,rfl,rfl,ht,YU,An,λp hp=>⟨p,_,rfl,.inr<|BP.of AA,rfl,rfl,_,rfl,?_⟩⟩;have n:=AF.new (o:=.tup [.str "row",.str "table"]) hp;have ein:OD (.str w0) [.str "row",.str "table"]=decide (w0∈(lqv:List Str)):=DJ w0 lqv;generalize upd H p (.tup [.str "row",.str "table"])=H1 at n⊢;have U:∀{X:Hp},AF H X->Dl G X:=λs=>sG.trans<|.of s;show if(!OD _ _)=true then _ else _;rw[ein];obtain⟨tB,sJ⟩:∃tB:TE,tB=fun σ H Q=>Wu (gD K) (Wu (SK K) (IA 2)<|tC<|V.int 1) (IA 0) σ H Q∨Xe (Wu (SK K) (IA 2)<|tC<|V.int 1) (IA 0) σ H Q:=⟨_,rfl⟩;rw[<-sJ];have go:∀(l:List V)(qs:List (List Key×Ak))(B:Hp)(J:Addr),AF H B->B J=ι (.lst l)->l.length<=900->qs.length=l.length->Ak.Ent t a qs->(∀(i:Nat) z,l[i]?=ι z->∃k c x,z=kV k/\qs[i]?=ι (t++[k],c)/\Val G x c.pt/\∀X,AF B X->∀(R:VK),R x X->tB [ι z,ι<|.ref tp,ι<|.ref Z] X R)->
   DG (jN K J) JM (fx (D_ (Wu eF (IA 1) (fx (D_ (IA 0) JH))) (D_ tB JH))) [1,2] [ι (.ref e),ι (.ref tp),ι (.ref Z)] B En.rt:=λl qs B J L g C lq hE hi=>by
  refine IW l.length (λi=>l.getD i .BB) (λD i M=>B D=ν/\AF B M/\∃N,M D=ι (.lst N)/\N.length=i/\Paired (HG (K:=K) G M) N (qs.take i)) (λD hD=>⟨hD,AF.new hD,[],AA,rfl,.nil⟩) (λD i M O ⟨_,E,_⟩=>⟨_,_,Ag.of<|E _ _ g,ACu O⟩) (λD i M v H' O ⟨_,E,_⟩ y=>?_) (λD M ⟨_,E,_⟩=>⟨_,Ag.of<|E _ _ g,bn _⟩) (λD i M _ O ⟨hD,E,N,d3,ly,pr⟩=>?_) λD M _ ⟨hD,E,N,d3,ly,pr⟩=>?_
  ·obtain⟨e1,y⟩:=y;refine⟨?_,e1⟩;have:=y _<|Ag.of<|E _ _ g;rw[ci,this];rfl
  ·obtain⟨z,wX⟩:=B' l i O;rw[show l.getD i .BB=z by rw[ci,wX];rfl];obtain⟨k,c,x,rfl,hq,vx,hB⟩:=hi i z wX;refine⟨_,rfl,_,rfl,Aw,.mk λpS H4 hS sS fS=>?_⟩;have s04:=(L.trans E).trans sS;refine⟨tp,pS,_,_,rfl,rfl,s04 _ _ mN,fS,AX<|by rw[ap,i5];lia,λpP H5 s5 fP _=>?_⟩;refine hB H5 ((E.trans sS).trans s5) _ ⟨An,λpE wY=>?_⟩;have s6:=(sS.trans s5).trans<|AF.new (o:=.tup [.ref pP,x]) wY;have f6:upd H5 pE (.tup [.ref pP,x]) pE=ι (.tup [.ref pP,x]):=AA;have wZ:upd H5 pE (.tup [.ref pP,x]) pP=ι (.tup<|t.map kV++[kV k]):=AF.new wY _ _ fP;generalize upd H5 pE (.tup [.ref pP,x])=H6 at s6 f6 wZ⊢;have d6:=s6 _ _ d3;have up:∀b xs,H6 b=ι (.tup xs)->upd H6 D (.lst<|N++[.ref pE]) b=ι (.tup xs):=λb xs h=>by rw[AH<|Bw h d6];exact h
   refine⟨N,d6,w1 (by lia)<|Ac<|bn 1000,hD,(E.trans s6).put hD,N++[.ref pE],AA,by simp[ly],?_⟩;rw[j2,hq];refine RD (Oz pr λb xs h=>up _ _<|s6 _ _ h)<|.cons ⟨⟨pE,pP,x,rfl,up _ _ f6,by rw[io];exact up _ _ wZ,vx⟩⟩ .nil
  ·rw[<-lq,im]at pr;exact q D N qs M (L.trans E) (L.free hD) d3 hE pr
 rcases cs with _|⟨d,u,Zw⟩|⟨xs,m,u,hx⟩|⟨ks,xs,ls,m,u,z,hx,C⟩
 ·exact DD ⟨by decide,λp2 I=>q p2 [] [] _ (n.trans<|AF.new I) (n.free I) AA .any .nil⟩
 ·exact DD ⟨by decide,λp2 I=>q p2 [] [] _ (n.trans<|AF.new I) (n.free I) AA (.Ao d) .nil⟩
 ·refine BG ?_;obtain⟨a1,Rh,rfl,mJ,r1⟩:=hx.EG;have lv:=r1.length;rw[Ak.Ae,ap]at lv;have lx:=Ak.CH xs;have lw:=Ak.CI xs;simp only[Ak.wt]at Y;refine⟨_,rfl,Z,_,1,_,rfl,rfl,A.DK<|U n,CK,.ref a1,_,rfl,hx.DK<|U n,(by show(Ak.HN xs).length<=900;rw[Ak.Ae,ap];lia),λJ l B L npl g st=>?_⟩;have st:l=(oo (Ak.HN xs).length).map λ(i:Nat)=>V.int (i:Int):=st;rw[Ak.Ae,ap]at st;have ll:l.length=xs.length:=by rw[st,ap,M4]
  refine⟨J,rfl,⟨_,Ag.of g⟩,go l (Ak.Iw t 0 xs) B J (n.trans L) g (by lia) (by rw[Ak.Q_];exact ll.symm) (.row xs m) λi z C=>?_⟩;have hi:i<xs.length:=by have:=(DR C);lia
  have ez:z=.int (i:Int):=by
   rw[st,bv,Uf hi]at C;exact(ACw C).symm
  subst ez;obtain⟨x,Zx⟩:=B' Rh i (by lia);obtain⟨tx,g1,vx⟩:=r1.get Zx;obtain⟨b,hb⟩:=B' xs i hi;rw[Ak.Ae,bv,hb]at g1;cases g1;refine⟨.inl (i:Int),b,x,rfl,?_,vx,λX si R r=>?_⟩
  ·rw[Ak.RA hb,N0]
  ·rw[sJ];have sI:=(n.trans L).trans si;exact .inl ⟨_,rfl,Z,_,1,_,rfl,rfl,A.DK<|U sI,CK,_,rfl,a1,_,_,x,rfl,rfl,.inl<|(U sI).rd _ _ mJ,Am Zx,r⟩
 ·refine BG ?_;obtain⟨a1,Th,rfl,mJ,Np,r1⟩:=hx.FT;have S:=Ax;simp only[Ak.Be]at S;have lx:=Ak.CH xs;have lw:=Ak.CI xs;simp only[Ak.wt]at Y;refine⟨_,rfl,Z,_,1,_,rfl,rfl,A.DK<|U n,CK,.ref a1,_,rfl,hx.DK<|U n,⟨by rw[Ak.Ae,ap];exact S.1,U3 S.2.2.2.1<|by decide⟩,λJ l B L npl g st=>?_⟩;obtain⟨ss,rfl,pm,so⟩:=st;obtain⟨as,e1⟩:=Su (xs:=xs) S.1 (ss:=ss) λk hk=>pm.mem_iff.mp hk;have qx:as.length=ss.length:=by have:=congrArg pp e1.symm;simpa using this
  have wH:=pm.length_eq;refine⟨J,rfl,⟨_,Ag.of g⟩,go (ss.map V.str) (Ak.Iy t ss as) B J (n.trans L) g (by rw[ap];lia) (by unfold Ak.Iy;rw[ap,aax,ap];lia) (.tab m pm so e1) λi z C=>?_⟩;rw[bv]at C;cases hs:ss[i]? with
  |none=>rw[hs]at C;cases C
  |some s=>
   rw[hs]at C;cases C;have hi:=DR hs;obtain⟨b,hb⟩:=B' as i (by lia);have e3:lk ks xs s=ι b:=by
    have:=congrArg (λz=>z[i]?) e1;simp only[bv,hs,hb]at this;exact ACw this
   rcases Val.Ia Np r1 s with⟨x,tx,k1,k2,vx⟩|⟨_,k2⟩
   ·have e4:tx=b.pt:=by
     have:Pt.look ks (Ak.HN xs) s=(lk ks xs s).map Ak.pt:=by rw[Ak.Ae];exact JT Ak.pt
     rw[this,e3]at k2;exact(ACw k2).symm
    subst e4;refine⟨.inr s,b,x,rfl,?_,vx,λX si R r=>?_⟩
    ·unfold Ak.Iy;rw[bv,(A9 (z:=(s,b))).mpr ⟨hs,hb⟩];rfl
    ·rw[sJ];have sI:=(n.trans L).trans si;exact .inr ⟨_,rfl,Z,_,1,_,rfl,rfl,A.DK<|U sI,CK,_,rfl,a1,x,rfl,.inl ⟨Th,d0 s,(U sI).rd _ _ mJ,rfl,k1.symm⟩,r⟩
   ·have:Pt.look ks (Ak.HN xs) s=(lk ks xs s).map Ak.pt:=by rw[Ak.Ae];exact JT Ak.pt
    rw[this,e3]at k2;cases k2
theorem PJ(F:Fq K "free_steps" 32 f fd)(T:Txt mg)(j:Df P w K mg base "is_open" lqq 1 U_):Ab P w K mg base Bs 2 f fd lqD Qx:=by
 refine F.oq lqD λH _ _ _ U hr h=>?_;obtain⟨v,a,l,g,rfl,hv,X,cZ,hl,hn,q⟩:=h;refine⟨_,(AB (AV (CV<|As<|Bc j hr<|AY<|pv 0) (AD<|AM<|Af A') AL)<|AB (AV (AO BR (Bx K 0) AZ<|Aa _) (AD<|AM<|Af<|AY<|Ds K T<|Bx K 0) AL)<|AD<|AM<|Ge (fv:=lqq) (fs:=[0]) rfl (.of<|by rfl) (BL<|pv 1) (λC s0 H0 fp=>Gd<|PW.pt<|pw_and (Kp<|GZ U (pv 0)<|Bx K 1)<|pw_and1<|AO (FL:Dr _ _ (Wv K true)) (pv 0) (Bx K 1) rfl) λC s0 H0 fp=>(pv 0)),?_⟩;refine⟨_,rfl,v,a,rfl,hv,λY A=>⟨_,rfl,?_⟩⟩;have B:a.Oy=false->(Ak.fst g a)=[]:=λh=>by cases a<;>simp[Ak.Oy]at h<;>simp[Ak.fst,h]
 by_cases k:a.Oy=false
 ·rw[k];refine CP ⟨by decide,λp M=>q p _ (A.trans<|AF.new M) (A.free M) ?_⟩;rw[B k];exact AA
 have k:a.Oy=true:=by simpa using k
 rw[k];refine Ar ?_;clear B;obtain⟨Z,w0,rest,s,cs⟩:=(hv.up A).ak;rcases cs with _|⟨d,u,Zw⟩|⟨xs,m,u,hx⟩|⟨E,xs,ls,m,u,z,hx,hz⟩
 ·simp[Ak.Oy]at k
 ·simp[Ak.Oy]at k
 ·simp only[Ak.Oy]at k;subst k;obtain⟨a1,Rh,rfl,G,r1⟩:=hx.EG;have lv:=r1.length;rw[Ak.Ae,ap]at lv;refine Az s<|DD ⟨_,rfl,Z,_,1,_,rfl,rfl,s,CK,a1,_,rfl,.inl<|.inl G,Aw,λp M=>q p _ (A.trans<|AF.new M) (A.free M) ?_⟩;rw[lv];exact AA
 ·simp only[Ak.Oy]at k;subst k;simp only[Ak.Be]at X;obtain⟨a1,N,rfl,G,Np,r1⟩:=hx.FT;obtain⟨a2,vl,rfl,iq,r2⟩:=hz.EG;have cb:vl=ls.map V.str:=by
   have gen:∀{O:List V}{ls:List Str},AS Y O (ls.map Pt.str)->O=ls.map V.str:=by
    intro O ls
    induction ls generalizing O with
    |nil=>intro h;cases h;rfl
    |cons x r ih=>
     intro h;cases h with
     |cons h1 h2=>cases h1;rw[ge,ih h2]
   exact gen r2
  subst cb;have I:=A _ _ hl;refine Az s<|BG ⟨_,rfl,l,rfl,⟨_,Ag.of I⟩,?_⟩;have li:∀i,i<g.length->(g.map V.str)[i]?=ι (.str<|g.getD i ""):=λi D=>by
   rw[bv,ACu D,ci,ACu D];rfl
  have J:∀{t:Addr}{L:List V},Y t=ν->upd Y t (.lst L) l=ι (.lst<|g.map V.str):=λh=>by rw[AH<|AW I h];exact I
  refine Ek (n:=g.length) (λi=>.str<|g.getD i "") (λi=>.str<|g.getD i "") (λi=>decide (g.getD i ""∉E)&&decide (g.getD i ""∉ls)) (Au hn) (λi t L D b=>⟨_,_,Ag.of<|J b,li i D⟩) (λi t L v H' D b y=>?_) (λt L b=>⟨_,Ag.of<|J b,by rw[ap];exact bn _⟩) (λi t L R D b r=>?_) (λi t L R D b _ r=>⟨_,rfl,r⟩) λt b=>?_
  ·obtain⟨e,y⟩:=y;have:=y _<|Ag.of<|J b;rw[li i D]at this;exact⟨(ACw this).symm,e⟩
  ·have Q:=AF.new (o:=.lst L) b;refine⟨_,rfl,_,rfl,Z,_,1,_,rfl,rfl,s.up Q,CK,a1,_,rfl,.inl ⟨N,d0<|g.getD i "",G.up<|Q _,rfl,rfl⟩,_,rfl,?_⟩;rw[QU Np];generalize g.getD i ""=c at r⊢;by_cases S:c∈E
   ·rw[show(!decide (c∈E))=false by simp[S]];refine Ar ?_;rw[show(decide (c∉E)&&decide (c∉ls))=false by simp[S]]at r;exact r
   ·rw[show(!decide (c∈E))=true by simp[S]];refine CP ?_;refine⟨_,rfl,_,rfl,Z,_,2,_,rfl,rfl,s.up Q,at2,a2,_,rfl,.inl<|.inl<|iq.up<|Q _,rfl,?_,_,rfl,?_⟩
    ·rw[N2];exact r4.mpr λ_ _=>rfl
    ·show R (!OD _ _) _;rw[DJ];rw[show(decide (c∉E)&&decide (c∉ls))= !decide (c∈ls)by simp[S]]at r;exact r
  ·rw[JW g λn=>decide (n∉E)&&decide (n∉ls)];refine q t _ (A.trans<|AF.new b) (A.free b) ?_;rw[AA];simp only[Ak.fst,o0];rfl
theorem Ti{fO:Addr}(F:Fq K "names_in" 33 f fd)(T:Txt mg)(C:Df P w K mg base "gathered" lqk 4 (Ke fI))(G:Df P w K mg base "justs_in" lqq 5 Ov)(y:Df P w K mg base "gathered" lqk 4 (Ot fO))(mI:mg "inner_nodes"=ι (.ref fI))(mO:mg "inner_of"=ι (.ref fO)):Ab P w K mg base Bs 6 f fd lqq VE:=by
 refine F.oq ["asks","found","node","part"] λH _ _ A_ N hr h=>?_;obtain⟨v,a,rfl,hv,S,aQ,hz,q⟩:=h;refine⟨_,(AB (Ad 1 A_<|Af A')<|AB (HQ (BL<|Bc C hr<|AE (pv 0)<|AY<|Co (v:=.ref fI) rfl mI rfl) (Bp 2 A_)<|AD<|AV (AO BR (Bx K 2) AZ<|Aa _) (AD<|Ai<|NH K (pv 1)<|AN Kc (ED (BJ Cf rfl T.list BU<|AY<|Bx K 2)<|BJ (DM rfl) rfl T.list BU<|AY<|Bx K 2)<|Bx K 2) AL)<|AB (HQ (BL<|Bc y hr<|AE (Bc G hr<|AY<|pv 0)<|AY<|Co (v:=.ref fO) rfl mO rfl) (Bp 3 A_)<|AD<|AV (As<|RY K T (pv 3) T.dict CZ) (AD<|Ai<|NH K (pv 1)<|ED (BJ Cf rfl T.list BU<|AY<|pv 3)<|BJ (DM rfl) rfl T.list BU<|AY<|pv 3) AL)<|AD<|AM<|pv 1),?_⟩;have hG:=Ak.QY a S;refine⟨by decide,.mk λD H0 hD s0 f0=>?_⟩;have f0:H0 D=ι (.lst<|([]:List Str).map V.str):=f0;dsimp only[Aj];have J:∀(a b:List Str),a.map V.str++b.map V.str=(a++b).map V.str:=λa b=>by rw[io]
 have nD:∀{b o},H b=ι o->b≠D:=λe z=>by rw[z,hD]at e;cases e
 refine⟨_,rfl,H,v,a.pt,a.size,rfl,s0,hv,a.nd hG (by lia),by lia,λp es l jS H1 s1 np hp vl bf ll=>?_⟩;have le:=vl.length;have f1:=s1 _ _ f0;have s01:=s0.trans s1;have pD:p≠D:=Bw np f0;have B:=Yv (D:=Ak.lK) ⟨a,rfl,S⟩ (λt us h k=>h.eA k) bf;refine⟨p,rfl,⟨_,Ag.of hp⟩,Br (K:=K) (xs:=es) (λi O I=>∃(o2:Option V)(fs:List Str),O=[ι v,ι (.ref D),o2,ν]/\(∀b o,b≠D->H1 b=ι o->I b=ι o)/\I D=ι (.lst (fs.map V.str))/\fs.length<=120*i/\∀j,j<i->∀g xs ls m,l[j]?=ι (Ak.tab g xs ls m).pt->∀n∈g++ls,n∈fs)
  ⟨ν,[],rfl,λ_ _ _ h=>h,f1,d9 _,λj M=>absurd M (F1 _)⟩ (λi O I _ ⟨_,_,_,k,_⟩=>Ag.of (k _ _ pD hp)) ?_ ?_⟩
 ·refine λi x O I _ go hx h0=>DB λX hX=>?_;obtain⟨o2,fs,rfl,U,s,lf,hs⟩:=h0;have hi:=DR hx;obtain⟨t,Y,vt⟩:=vl.get hx;obtain⟨b,rfl,bo⟩:=B.ok t<|ACx Y;have ia:AF H I:=λb o e=>U b o (nD e)<|s01 _ _ e;obtain⟨t0,w0,rest,Z,k⟩:=(vt.up ia).ak;subst hX;dsimp only[Aj];have skip:(∀g xs ls m,b≠.tab g xs ls m)->∀j,j<i+1->∀g xs ls m,l[j]?=ι (Ak.tab g xs ls m).pt->∀n∈g++ls,n∈fs:=λnb j M g xs ls m e=>by
   by_cases c:j<i
   ·exact hs j c g xs ls m e
   ·have:j=i:=by lia
    subst this;rw[Y]at e;exact absurd (Ak.Hs _ _<|ACw e)<|nb g xs ls m
  refine⟨_,rfl,t0,_,0,_,rfl,rfl,Z,YU,rfl,_,rfl,?_⟩;rcases k with _|⟨d,u,N⟩|⟨xs,m,u,N⟩|⟨g,xs,ls,m,u,z,N,hz⟩
  ·exact BG<|go.n ⟨_,_,rfl,U,s,by lia,skip λ_ _ _ _ z=>nomatch z⟩
  ·exact BG<|go.n ⟨_,_,rfl,U,s,by lia,skip λ_ _ _ _ z=>nomatch z⟩
  ·exact BG<|go.n ⟨_,_,rfl,U,s,by lia,skip λ_ _ _ _ z=>nomatch z⟩
  ·simp only[Ak.ok]at bo;obtain⟨a1,L,rfl,Q,Np,r1⟩:=N.FT;obtain⟨a2,lX,rfl,iq,r2⟩:=hz.EG;have cb:=FY r2;subst cb;refine DD ⟨_,rfl,.inl ⟨rfl,_,Ag.of s⟩,.inr ⟨_,rfl,t0,_,1,_,rfl,rfl,Z,CK,a1,L,g,rfl,Q,Np,.mk λpK H2 hK sK fK=>?_⟩⟩;refine⟨_,rfl,t0,_,2,_,rfl,rfl,Z.up sK,at2,pK,a2,_,_,rfl,rfl,.inl fK,iq.up<|sK _,AX<|by rw[ap,ap];lia,.mk λpC H3 hC sC fC=>?_⟩;have D3:=sC _ _<|sK _ _ s;refine⟨D,pC,_,_,rfl,rfl,D3,fC,AX<|by simp;lia,go.n ⟨_,fs++(g++ls),rfl,DP U<|sK.trans sC,by rw[AA,J,J],by simp;lia,λj M sM sN ls' m' e n R=>?_⟩⟩;by_cases c:j<i
   ·exact e9 _<|hs j c sM sN ls' m' e n R
   ·have:j=i:=by lia
    subst this;rw[Y]at e;cases Ak.Hs _ _ (ACw e);exact gl _ R
 rintro O H2 ⟨o2,fs,rfl,U,eS,lf,hs⟩;have s02:AF H H2:=λb o e=>U b o (nD e)<|s01 _ _ e;refine⟨_,rfl,H,v,a,rfl,s02,hv,S,hz,λpJ eJ dJ H3 s3 nJ fJ vJ lJ dd jn=>?_⟩;have s23:=s02.trans s3;have dl:Pt.CF dJ:=Pt.EV λd hd=>(dd d hd).1;have zl:Pt.AI dJ<=10*dJ.length:=Pt.Dj λd hd=>(dd d hd).2;have JD:pJ≠D:=Bw nJ eS;have sh:AF H (UU D H3):=λb o e=>by rw[Sv<|nD e];exact s23 _ _ e
 refine⟨UU D H3,.ref pJ,.lst dJ,rfl,UW,.lst (.inl<|by rw[Sv JD];exact fJ)<|vJ.up sh,dl,by simp only[Pt.size];lia,λp4 wa l4 H4 s4 wc iZ we ll4 dl4 _ nm4=>?_⟩;simp only[Pt.size]at ll4;have le4:=we.length;have f4:=s4 _ _<|s3 _ _ eS;have p4D:p4≠D:=λz=>by have:=s3 _ _ eS;rw[z,this]at wc;cases wc
 have done:∀(A:List Str),(∀j,j<wa.length->∀g xs,l4[j]?=ι (.BV g xs)->∀n∈g,n∈A)->∀n∈a.HP,n∈fs++A:=λA hg n R=>by
  rcases Ak.Nj a n R with R|⟨d,h1,h2⟩
  ·refine e9 _ ?_;rcases Ak.cQ hG bf n R with⟨j,g,xs,ls,m,h1,h2,h3⟩|⟨j,b,h1,h2,_⟩
   ·exact hs j (by lia) g xs ls m h2 n h3
   ·have:=DR h2;lia
  ·obtain⟨g,xs,h3,h4⟩:=nm4 n<|Pt.Io.mpr ⟨d,jn d h1,h2⟩;obtain⟨j,M⟩:=G2 h3;exact gl _<|hg j (by have:=(DR M);lia) g xs M n h4
 refine⟨p4,rfl,⟨_,Ag.of iZ⟩,Br (K:=K) (xs:=wa) (λi O I=>∃(o3:Option V)(A:List Str),O=[ι v,ι (.ref D),o2,o3]/\(∀b o,b≠D->H4 b=ι o->I b=ι o)/\I D=ι (.lst ((fs++A).map V.str))/\A.length<=64*i/\∀j,j<i->∀g xs,l4[j]?=ι (.BV g xs)->∀n∈g,n∈A)
  ⟨ν,[],rfl,λ_ _ _ h=>h,by rw[j9];exact f4,d9 _,λj M=>absurd M (F1 _)⟩ (λi O I _ ⟨_,_,_,k,_⟩=>Ag.of (k _ _ p4D iZ)) ?_ ?_⟩
 ·refine λi x O I _ go hx h0=>DB λX hX=>?_;obtain⟨o3,A,rfl,E,s,lg,hg⟩:=h0;have hi:=DR hx;obtain⟨t,Y,vt⟩:=we.get hx;have dx:=Pt.BC dl4 t<|ACx Y;have vx:Val I x t:=vt.up λb o e=>by
   have n:b≠D:=λz=>by rw[z]at e;unfold UU at e;rw[if_pos rfl]at e;cases e
   rw[Sv n]at e;exact E b o n<|s4 _ _ e
  have skip:(∀g xs,t≠.BV g xs)->∀j,j<i+1->∀g xs,l4[j]?=ι (.BV g xs)->∀n∈g,n∈A:=λnb j M g xs e=>by
   by_cases c:j<i
   ·exact hg j c g xs e
   ·have:j=i:=by lia
    subst this;rw[Y]at e;exact absurd (ACw e)<|nb g xs
  subst hX;dsimp only[Aj];cases vx with
  |int i0=>exact⟨_,rfl,_,"dict","int",rfl,rfl,.n (.int _),_,rfl,Ar (go.n ⟨_,A,rfl,E,s,by lia,skip λ_ _ z=>nomatch z⟩)⟩
  |str s0=>exact⟨_,rfl,_,"dict","str",rfl,rfl,.n (.str _),_,rfl,Ar (go.n ⟨_,A,rfl,E,s,by lia,skip λ_ _ z=>nomatch z⟩)⟩
  |bl b=>simp[Pt.doc]at dx
  |BB=>simp[Pt.doc]at dx
  |tup _ _=>simp[Pt.doc]at dx
  |lst h r=>exact⟨_,rfl,_,"dict","list",rfl,rfl,.n (.lst h),_,rfl,Ar (go.n ⟨_,A,rfl,E,s,by lia,skip λ_ _ z=>nomatch z⟩)⟩
  |@BV a1 L g ts Q Np r1=>
   simp only[Pt.doc]at dx;refine⟨_,rfl,_,"dict","dict",rfl,rfl,.n<|.dK Q,_,rfl,CP ⟨_,rfl,.inl ⟨rfl,_,Ag.of s⟩,.inr ⟨_,rfl,a1,L,g,rfl,Q,Np,.mk λpK H5 hK sK fK=>?_⟩⟩⟩;have D5:=sK _ _ s;refine⟨D,pK,_,_,rfl,rfl,D5,fK,t8<|Lj<|by simp;lia,go.n ⟨_,A++g,rfl,DP E sK,by rw[AA,J,ii],by simp;lia,λj M sM sN e n R=>?_⟩⟩;by_cases c:j<i
   ·exact e9 _<|hg j c sM sN e n R
   ·have:j=i:=by lia
    subst this;rw[Y]at e;cases e;exact gl _ R
 ·rintro O I ⟨o3,A,rfl,E,s,lg,hg⟩;refine⟨_,rfl,q D (fs++A) I (λb o e=>E b o (nD e)<|s4 _ _<|s23 _ _ e) hD s (by simp;lia)<|done A hg⟩
theorem Tj{r:j4}(F:Fq K "new_name" 34 f r)(T:Txt mg)(a:Df P w K mg base "name_of" ["count"] 1 Qw):Ab P w K mg base Bs 2 f r ["taken"] NV:=by
 refine F.oq ["taken","count"] λH _ _ A_ _ s h=>?_;obtain⟨l,g,rfl,u,X,q⟩:=h;refine⟨_,(AB (Ad 1 A_ AG)<|AB (Fw L0 (AO (DV:Dr _ _ (Wv K false)) (Bc a s<|AY<|pv 1) (pv 0) rfl)<|AD<|Ad 1 A_<|AN Bi (pv 1) AG)<|AD<|AM<|Bc a s<|AY<|pv 1),?_⟩;dsimp only[Kq,Aj];refine IT (λm o t=>∃(c:Nat),o=[ι<|.ref l,ι<|.int (c:Int)]/\AF H t/\(∀i,i<c->Mj (Mi<|i+1)∈g)/\m=g.length+1-c) (g.length+1) ⟨0,rfl,AF.refl _,(λi v=>by lia),rfl⟩ ?_ ?_
 ·rintro m o t _ go ⟨c,rfl,x,j,rfl⟩;have Y:=Qv j;refine⟨_,rfl,c,rfl,by lia,λZ y=>?_⟩;have d:=x.trans y;refine⟨_,rfl,l,_,rfl,.inl<|Ag.of<|d _ _ u,rfl,by rw[N2];exact r4.mpr λ_ _=>rfl,_,rfl,?_⟩;show if OD _ _=true then _ else _;rw[DJ];by_cases k:Mj (Mi<|c+1)∈g
  ·refine Ck (decide_eq_true k) ?_;have b:∀i,i<c+1->Mj (Mi<|i+1)∈g:=λi v=>by
    by_cases e:i=c
    ·subst e;exact k
    ·exact j i<|by lia
   have:=Qv b;exact⟨_,rfl,_,_,rfl,rfl,go.n ⟨g.length+1-(c+1),by lia,c+1,by simp,d,b,rfl⟩⟩
  ·refine BN (decide_eq_false k) ?_;exact⟨_,rfl,c,rfl,by lia,λz A=>q _ z (d.trans A) k<|ZT<|by lia⟩
 ·rintro o H1 Q1 Q2 h ⟨B,e1,c1,C,D,E⟩;refine⟨B,e1,c1,C,D,λG I=>?_⟩;obtain⟨J,L,M,p,N,O,Q,R,S,U,V⟩:=E G I;exact⟨J,L,M,p,N,O,Q,R,S,U,h _ _ V⟩
theorem Wm(F:Fq K "name_of" 35 f i)(T:Txt mg)(s:∃t,mg "LETTERS"=ι (.str "abcdefghijklmnopqrstuvwxyz" t)):Ab P w K mg base Bs 1 f i ["count"] Qw:=by
 obtain⟨a,b⟩:=s;refine F.oq ["count","name","rest"] λH _ _ A_ _ G h=>?_;obtain⟨c,rfl,u,q⟩:=h;refine⟨_,(AB (Ad 1 A_<|ID Kz (Co (v:=.str "abcdefghijklmnopqrstuvwxyz") rfl b ⟨a,rfl⟩) (AN BE (pv 0)<|Av DE rfl T.len EQ<|AY<|Co (v:=.str "abcdefghijklmnopqrstuvwxyz") rfl b ⟨a,rfl⟩) λ_ _=>rfl)<|AB (Ad 2 A_<|AN CG (pv 0)<|Av DE rfl T.len EQ<|AY<|Co (v:=.str "abcdefghijklmnopqrstuvwxyz") rfl b ⟨a,rfl⟩)<|AB (Fw L0 (AO Tw (pv 2) AG<|Aa _)<|AB (Ad 1 A_<|AN Dz (ID Kz (Co (v:=.str "abcdefghijklmnopqrstuvwxyz") rfl b ⟨a,rfl⟩) (AN BE (AN Fy (pv 2) AG)<|Av DE rfl T.len EQ<|AY<|Co (v:=.str "abcdefghijklmnopqrstuvwxyz") rfl b ⟨a,rfl⟩) λ_ _=>rfl)<|pv 1)<|AD<|Ad 2 A_<|AN CG (AN Fy (pv 2) AG)<|Av DE rfl T.len EQ<|AY<|Co (v:=.str "abcdefghijklmnopqrstuvwxyz") rfl b ⟨a,rfl⟩)<|AD<|AM<|pv 1),?_⟩;have d:MZ.length<=sizeLine:=by rw[ES];decide
 have j:(0:Int)<((MZ.length:Nat):Int):=by rw[ES];decide
 have k:ju 0 ((MZ.length:Nat):Int):=by rw[ES];exact C_
 refine⟨_,rfl,MZ,rfl,d,_,_,rfl,rfl,j,MZ,_,97+c % 26,rfl,rfl,d,by rw[Ux];exact ZU<|V6 _<|by decide,?_⟩;dsimp only[Aj];rw[ZV];refine⟨_,rfl,MZ,rfl,d,_,_,rfl,rfl,k,?_⟩;dsimp only[Aj];rw[Uy];dsimp only[Kq];refine IT (λm g o=>∃(l:List Nat)(r:Nat),g=[ι<|.int (c:Int),ι<|.str<|Mj l,ι<|.int (r:Int)]/\o=H/\Mi (c+1)=Mi r++l/\m=r) (c/26) ⟨[c % 26],c/26,rfl,rfl,DO c,rfl⟩ ?_ ?_
 ·rintro m g o _ go ⟨l,r,rfl,rfl,e,rfl⟩;have I:=WW u e;refine⟨_,rfl,_,_,rfl,rfl,_,rfl,?_⟩;cases m with
  |zero=>
   refine BN (by simp) ?_;rw[E',F6]at e;exact⟨_,rfl,by rw[<-e];exact q _<|AF.refl _⟩
  |succ m=>
   have p:((m+1:Nat):Int)-1=(m:Int):=by lia
   refine Ck (by simp) ?_;refine⟨_,rfl,_,_,rfl,rfl,MZ,rfl,d,_,_,rfl,rfl,j,MZ,_,97+m % 26,rfl,rfl,d,by rw[p,Ux];exact ZU<|V6 _<|by decide,?_⟩;rw[ZV];refine⟨_,rfl,_,_,rfl,rfl,t8<|Ac<|by rw[Uz,Uz];simp only[i5];lia,?_⟩;rw[ZS];dsimp only[Aj];refine⟨_,rfl,_,_,rfl,rfl,MZ,rfl,d,_,_,rfl,rfl,k,?_⟩;rw[p,Uy];refine go.n ⟨m/26,by have:=T1 m 26;lia,m % 26::l,m/26,rfl,rfl,?_,rfl⟩;rw[e,DO,ii];rfl
 ·rintro g J L M h ⟨x,e1,y,z,A,B,C,D,E⟩;exact⟨x,e1,y,z,A,B,C,D,h _ _ E⟩
theorem cc(F:Fq K "_law_cell" 37 f c)(T:Txt mg):Ab P w K mg base Bs 1 f c lqu (X_ K):=by
 refine F.oq lqu λH _ _ _ _ j h=>?_;obtain⟨a,b,k,rfl,d,q⟩:=h;refine⟨_,(AB (AV (AO Jh (pv 1) (Ds K T<|pv 0)<|Aa _) (AD<|AM<|AN BE (Fp K (pv 0)<|pv 1)<|AN HW AG<|AN Rx AG AG) AL)<|AD<|AM<|AN Bi AG<|AN HW AG<|pv 1),?_⟩;refine⟨_,rfl,_,rfl,a,_,rfl,.inl d,_,_,rfl,rfl,_,rfl,?_⟩;refine Vf (λe=>?_) λe=>?_
 ·have g:k<b.length:=by
   have:=of_decide_eq_true e;rw[ap]at this;lia
  have i:(b.map V.int)[k]?=ι (.int b[k]):=by rw[bv,ACu g];rfl
  exact⟨_,rfl,_,rfl,a,_,_,_,rfl,rfl,d,Am i,_,_,rfl,rfl,⟨by decide,by decide,by decide⟩,_,_,rfl,rfl,.inl C_,_,_,rfl,rfl,Bq,q _<|F8 _<|by decide⟩
 ·exact⟨_,rfl,_,_,rfl,rfl,.inl C_,_,_,rfl,rfl,q _<|by lia⟩
theorem ir{o:j4}(F:Fq K "_law_mix" 38 f o)(T:Txt mg):Ab P w K mg base Bs 1 f o lqg YB:=by
 refine F.oq ["_law_cell_here","_law_k","_law_number","_law_j"] λH r _ A_ _ s h=>?_;obtain⟨c,k,rfl,t,q⟩:=h;refine⟨_,(AB (AV (PW.pt<|pw_and (AO BR (AN BE (pv 0) AG) AG<|Aa _)<|pw_and1<|AO jx (pv 0) (AN HW AG<|AN Rx AG AG)<|Aa _) (AB (Ad 2 A_<|AN CG (pv 0) AG)<|AB (HQ (BI rfl T.range<|AY<|pv 1) (Bp 3 A_)<|AD<|Ad 2 A_<|AN CG (pv 2) AG)<|AD<|AM<|AN BE (pv 2) AG) AL)<|AB (Ad 2 A_<|AN BE (AN HW (AN Bi (pv 0) AG) AG) AG)<|AB (Ad 2 A_<|AN BE (AN Bi (pv 2)<|AN HW (AN Bi (pv 1) AG) AG) AG)<|AB (Ad 2 A_<|AN BE (AN HW (pv 2)<|pv 2) AG)<|AB (Ad 2 A_<|AN BE (AN HW (AN Bi (pv 2) AG)<|AN Bi (AN CG (pv 2) AG) AG) AG)<|AD<|AM<|AN CG (pv 2) AG),?_⟩;have lo:∀x:Int,-(2 ^ 64)<x % 2305843009213693951/\x % 2305843009213693951<2 ^ 64:=λx=>by
  have b:=F8 x (show(2305843009213693951:Int)≠0 by decide);have d:=E7 x (show(0:Int)<2305843009213693951 by decide);constructor<;>lia
 have lo1:∀x:Int,-(2 ^ 64)<x % 999999999999999989+1/\x % 999999999999999989+1<2 ^ 64:=λx=>by
  have b:=F8 x (show(999999999999999989:Int)≠0 by decide);have d:=E7 x (show(0:Int)<999999999999999989 by decide);constructor<;>lia
 have p:¬(c % 4=0/\4*10 ^ 60<=c)->r.rt (.int<|(QH c k+1)*(QH c k/1000003+7) % 2305843009213693951/7919) H:=λh=>by
  have e:Vm c k=_:=if_neg h;rw[e]at q;exact q
 refine⟨_,rfl,_,_,rfl,rfl,Bq,rfl,_,rfl,?_⟩;refine Vf (λb=>?_) λb=>?_
 ·refine⟨_,rfl,_,_,rfl,rfl,⟨by decide,by decide,by decide⟩,_,_,rfl,rfl,.inl C_,_,_,rfl,rfl,_,rfl,?_⟩;have c4:c % 4=0:=V.int.inj<|of_decide_eq_true b;refine Vf (λd=>?_) (λd=>?_)
  ·have g:4*10 ^ 60<=c:=of_decide_eq_true d;have e:Vm c k=_:=if_pos ⟨c4,g⟩;rw[e]at q;refine⟨_,rfl,_,_,rfl,rfl,C_,_,rfl,_,rfl,by lia,by lia,Ce (lo:=0) (λi j l=>∃(m:Option V),j=[ι<|.int c,ι<|.int (k:Int),ι<|.int<|X' i<|c/4,m]/\l=H) ⟨ν,rfl,rfl⟩ ?_ ?_⟩
   ·rintro i j l _ go u ⟨m,rfl,rfl⟩;exact⟨_,rfl,_,_,rfl,rfl,C_,go.n ⟨_,rfl,rfl⟩⟩
   ·rintro j l ⟨m,rfl,rfl⟩;rw[pc];exact⟨_,rfl,_,_,rfl,rfl,Bq,q⟩
  ·have a:¬(c % 4=0/\4*10 ^ 60<=c):=λz=>d<|decide_eq_true z.2;exact⟨_,rfl,_,_,rfl,rfl,_,_,rfl,rfl,.inr C_,_,_,rfl,rfl,Bq,_,rfl,_,rfl,_,_,rfl,rfl,_,_,rfl,rfl,.inr C_,_,_,rfl,rfl,_,_,rfl,rfl,Bq,_,rfl,_,rfl,_,_,rfl,rfl,.inl<|lo _,_,_,rfl,rfl,Bq,_,rfl,_,_,rfl,rfl,_,rfl,_,_,rfl,rfl,C_,_,_,rfl,rfl,_,_,rfl,rfl,.inl<|lo1 _,_,_,rfl,rfl,Bq,_,rfl,_,_,rfl,rfl,C_,p a⟩
 ·refine Ar ?_;have a:¬(c % 4=0/\4*10 ^ 60<=c):=λz=>b<|decide_eq_true<|congrArg V.int z.1;exact⟨_,rfl,_,_,rfl,rfl,_,_,rfl,rfl,.inr C_,_,_,rfl,rfl,Bq,_,rfl,_,rfl,_,_,rfl,rfl,_,_,rfl,rfl,.inr C_,_,_,rfl,rfl,_,_,rfl,rfl,Bq,_,rfl,_,rfl,_,_,rfl,rfl,.inl<|lo _,_,_,rfl,rfl,Bq,_,rfl,_,_,rfl,rfl,_,rfl,_,_,rfl,rfl,C_,_,_,rfl,rfl,_,_,rfl,rfl,.inl<|lo1 _,_,_,rfl,rfl,Bq,_,rfl,_,_,rfl,rfl,C_,p a⟩
theorem cf(F:Fq K "_law_mix" 38 f a)(T:Txt mg):Ab P w K mg base Bs 1 f a lqg Jk:=(ir F T).imp λ_ _ _ _ h=>YC h
theorem Zy(F:Fq K "_law_names" 39 f fd)(T:Txt mg)(d:Df P w K mg base "_law_mix" lqg 1 Jk):Ab P w K mg base Bs 2 f fd lqA QT:=by
 refine F.oq ["_law_cell_here","_law_letters","_law_word","_law_k","_law_at","_law_first"] λH _ _ A_ _ Q h=>?_;obtain⟨c,rfl,q⟩:=h;refine⟨_,(AB (Dy (i:=1) A_ rfl (Op rfl) AZ)<|AB (Dy (i:=2) A_ rfl (Op rfl) AZ)<|AB (HQ (BI rfl T.range<|AY AG) (Bp 3 A_)<|AD<|Dy (i:=2) A_ rfl (Op rfl)<|AN Dz (AN Dz (pv 2)<|ID Kz (pv 1) (AN BE (Bc d Q<|AE (pv 0)<|AY<|pv 3) AG) λ_ _=>rfl)<|ID Kz (pv 1) (AN BE (AN CG (Bc d Q<|AE (pv 0)<|AY<|pv 3) AG) AG) λ_ _=>rfl)<|AB (Dy (i:=4) A_ rfl (Op rfl)<|AN BE (Bc d Q<|AE (pv 0)<|AY AG) AG)<|AB (Dy (i:=5) A_ rfl (Op rfl)<|Bc d Q<|AE (pv 0)<|AY AG)<|AB (AV (AO BR (AN BE (pv 5) AG) AG<|Aa _) (AD<|AM<|cmp ["_law_word","_law_first"] [2,5] (BI rfl T.range<|AY AG) λ_ _ _ _=>(D' OI (pv 1) GY<|EN<|AN Bi (AN Bi (pv 0) AG)<|AN BE (AN CG (pv 2) AG) AG)) AL)<|AD<|AM<|cmp ["_law_word","_law_letters","_law_at","_law_first"] [2,1,4,5] (BI rfl T.range<|AY AG) λ_ _ _ _=>(AN Dz (AN Dz (D' OI (pv 1) GY<|EN<|pv 3)<|ID Kz (pv 2) (AN BE (AN Bi (AN CG (pv 4) AG)<|pv 0) AG) λ_ _=>rfl)<|D' OI (pv 1) (EN<|AN Bi (pv 3) AG) GY)),?_⟩;have gen:∀(u:List V),(∀(j:Nat) v,u[j]?=ι v->∃y:Str,v=.str y)->∃S:List Str,u=S.map V.str:=by
  intro u
  induction u with
  |nil=>exact λ_=>⟨[],rfl⟩
  |cons v r ih=>
   intro h;obtain⟨y,rfl⟩:=h 0 v rfl;obtain⟨S,rfl⟩:=ih λj v b=>h (j+1) v (by simpa using b);exact⟨y::S,rfl⟩
 refine⟨4,rfl,by decide,by decide,Ce (lo:=0) (n:=4) (λi U g=>∃(W:Str)(ok:Option V),U=[ι<|.int c,ι<|.str MZ,ι<|.str W,ok,ν,ν]/\g=H/\(sgn W).length=2*i/\(sgn W).all UI=true) ⟨"",ν,rfl,rfl,rfl,rfl⟩ ?_ ?_⟩
 ·rintro i U g _ go x ⟨W,ok,rfl,rfl,wl,E⟩;have B:W.length=2*i:=by rw[<-EB];exact wl
  refine⟨_,rfl,_,rfl,_,rfl,_,rfl,c,i,by simp,by lia,λl _ _=>?_⟩;obtain⟨o,k,X⟩:=Sg (l % 26) (IQ _).1 (IQ _).2;have l1:(W++(⟨#[o]⟩:Str)).length<=8:=by rw[ab8];show _+1<=8;lia
  refine⟨_,_,rfl,rfl,Bq,MZ,_,o,rfl,rfl,by rw[ES];decide,k,_,_,rfl,rfl,t8<|Ac<|by show W.length+1<=1000;lia,_,rfl,_,rfl,_,rfl,c,i,by simp,by lia,λC _ _=>?_⟩;obtain⟨G,I,Y⟩:=Sg (C/26 % 26) (IQ _).1 (IQ _).2;refine⟨_,_,rfl,rfl,C_,_,_,rfl,rfl,Bq,MZ,_,G,rfl,rfl,by rw[ES];decide,I,_,_,rfl,rfl,t8<|Ac<|by show(W++(⟨#[o]⟩:Str)).length+1<=1000;lia,go.n ⟨_,_,rfl,rfl,?_,?_⟩⟩
  ·rw[CL,CL,b8,b8,wl];show 2*i+1+1=2*(i+1);lia
  ·rw[CL,CL];show(sgn W++[o]++[G]).all UI=true;simp[X,Y,E]
 ·rintro U g ⟨W,ok,rfl,rfl,t,E⟩;have t:(sgn W).length=8:=t;have B:W.length=8:=by rw[<-EB];exact t
  refine⟨_,rfl,c,4,rfl,by decide,λl _ _=>⟨_,_,rfl,rfl,Bq,?_⟩⟩;have b1:=HJ l (n:=8) (by decide);obtain⟨CK,J⟩:∃z:Nat,l % 8=(z:Int):=⟨(l % 8).toNat,by lia⟩;have b2:CK<8:=by lia
  refine⟨_,rfl,c,5,rfl,by decide,λC r20 _=>⟨_,rfl,_,_,rfl,rfl,Bq,rfl,_,rfl,?_⟩⟩;refine Vf (λ_=>?_) λ_=>?_
  ·have m5:=HJ (C/3) (n:=5) (by decide);obtain⟨a,p⟩:∃z:Int,z=C/3 % 5:=⟨_,rfl⟩;rw[<-p]at m5;refine⟨4,rfl,by decide,by decide,DH (n:=4) (λi=>.int<|0+(i:Int)) (λi v=>∃y:Str,v=.str y/\CS y=true/\((sgn y).length:Int)=(i:Int)+1+a) (by decide) (λi L x M=>x) (λi L v H' x M y=>⟨y.2,y.1⟩) (λL M=>bn _) (λi g R x N r=>?_) λZ g u A N d3 lv ov=>?_⟩
   ·refine⟨_,rfl,_,rfl,_,_,rfl,rfl,_,rfl,_,_,rfl,rfl,C_,_,_,rfl,rfl,Bq,_,_,rfl,rfl,_,rfl,W,rfl,by rw[B];decide,r _ g (AF.refl g) ⟨_,rfl,?_,?_⟩⟩
    ·rw[<-p];obtain⟨n,hn⟩:∃n:Nat,0+(i:Int)+1+a=(n:Int):=⟨(0+(i:Int)+1+a).toNat,by lia⟩;show LJ (sgn<|FM W ν<|some<|0+(i:Int)+1+a)=true;rw[hn,El,OJ];refine LK ?_ ?_ (QE E n)
     ·rw[re,t];lia
     ·rw[re,t];lia
    ·rw[<-p];obtain⟨n,hn⟩:∃n:Nat,0+(i:Int)+1+a=(n:Int):=⟨(0+(i:Int)+1+a).toNat,by lia⟩;rw[hn,El,OJ,re,t];lia
   ·obtain⟨D,rfl⟩:=gen u λj v b=>let⟨y,e,_⟩:=ov j v b;⟨y,e⟩;have s:∀(j:Nat) y,D[j]?=ι y->CS y=true/\((sgn y).length:Int)=(j:Int)+1+a:=λj y b=>by
     obtain⟨y',e,O,h2⟩:=ov j (.str y) (by rw[bv,b];rfl);cases e;exact⟨O,h2⟩
    refine q Z D g N A ⟨d3,by rw[<-lv,ap],QI (λj y=>((sgn y).length:Int)=(j:Int)+1+a) (λj y b=>(s j y b).2) λi j y hij _ p1 p2=>by lia,λy hy=>?_⟩;obtain⟨j,b,rfl⟩:=G1.mp hy;exact(s j _<|ACu b).1
  ·obtain⟨AAY,AAZ⟩:∃z:Int,z=l % 8:=⟨_,rfl⟩;obtain⟨a,p⟩:∃z:Int,z=C/3:=⟨_,rfl⟩;refine⟨4,rfl,by decide,by decide,DH (n:=4) (λi=>.int<|0+(i:Int)) (λi v=>∃y:Str,v=.str y/\CS y=true/\(sgn y)[CK]?=Xq[((a+(i:Int)) % 26).toNat]?) (by decide) (λi L x M=>x) (λi L v H' x M y=>⟨y.2,y.1⟩) (λL M=>bn _) (λi g R x N r=>?_) λZ g u A N d3 lv ov=>?_⟩
   ·obtain⟨o,k,X⟩:=Sg ((C/3+(0+(i:Int))) % 26) (IQ _).1 (IQ _).2;have l1:(FM W ν<|some<|l % 8).length<=8:=by rw[<-B];exact NE W _ _
    have l2:(FM W (ι<|l % 8+1) ν).length<=8:=by rw[<-B];exact NE W _ _
    have l3:(FM W ν (ι<|l % 8)++(⟨#[o]⟩:Str)).length<=9:=by rw[ab8];show _+1<=9;lia
    refine⟨_,rfl,_,rfl,_,rfl,W,rfl,by rw[B];decide,_,rfl,_,rfl,_,_,rfl,rfl,C_,_,rfl,_,_,rfl,rfl,_,_,rfl,rfl,Bq,MZ,_,o,rfl,rfl,by rw[ES];decide,k,_,_,rfl,rfl,?_,_,rfl,_,rfl,_,_,rfl,rfl,_,rfl,W,rfl,by rw[B];decide,_,_,rfl,rfl,?_,r _ g (AF.refl g) ⟨_,rfl,?_,?_⟩⟩
    ·exact t8<|Ac<|by show(FM W ν<|some<|l % 8).length+1<=1000;lia
    ·exact t8<|Ac<|by lia
    ·show LJ (sgn<|FM W ν (ι<|l % 8)++⟨#[o]⟩++FM W (ι<|l % 8+1) ν)=true;have e1:(CK:Int)+1=((CK+1:Nat):Int):=by lia
     rw[CL,CL,El,El,J,e1,OJ,Xr];have ec:sgn ⟨#[o]⟩=[o]:=rfl;rw[ec];refine LK ?_ ?_ ?_
     ·simp only[b8,re,w4,t,i5];lia
     ·simp only[b8,re,w4,t,i5];lia
     ·rw[acS,acS,QE E,Xs E];simp[X]
    ·rw[CL,CL,El,J,OJ];have ec:sgn ⟨#[o]⟩=[o]:=rfl;rw[ec];have lt:((sgn W).take CK).length=CK:=by rw[re,t];lia
     rw[g9<|by rw[b8,lt,i5];lia,jc<|by rw[lt];exact bn _,lt,Gc];rw[<-p]at k;have hb:=IQ<|a+(0+(i:Int));obtain⟨m,hm⟩:∃m:Nat,(a+(0+(i:Int))) % 26=(m:Int):=⟨((a+(0+(i:Int))) % 26).toNat,by lia⟩;have hz:(a+(i:Int)) % 26=(m:Int):=by rw[<-hm,N3]
     rw[hz,pc];rw[hm]at k;obtain⟨j',g1,g2,g3,_⟩:=KR k;have:j'=m:=by
      have AAa:m<(sgn MZ).length:=by show m<Xq.length;rw[OO];lia
      have q1:T' (sgn MZ).length (m:Int)=ι m:=by
       unfold T';rw[if_pos<|by lia,if_pos<|by lia,pc]
      have:=(KQ q1).1;rw[this]at g1;exact(ACw g1).symm
     rw[this]at g2;exact g2.symm
   ·obtain⟨D,rfl⟩:=gen u λj v b=>let⟨y,e,_⟩:=ov j v b;⟨y,e⟩;have s:∀(j:Nat) y,D[j]?=ι y->CS y=true/\(sgn y)[CK]?=Xq[((a+(j:Int)) % 26).toNat]?:=λj y b=>by
     obtain⟨y',e,O,h2⟩:=ov j (.str y) (by rw[bv,b];rfl);cases e;exact⟨O,h2⟩
    have l4:D.length=4:=by rw[<-lv,ap]
    refine q Z D g N A ⟨d3,l4,QI (λj y=>(sgn y)[CK]?=Xq[((a+(j:Int)) % 26).toNat]?) (λj y b=>(s j y b).2) λi j y hij b p1 p2=>?_,λy hy=>?_⟩
    ·rw[p1]at p2;have nl:Xq.Nodup:=by decide+kernel
     have hb:=(IQ<|a+(i:Int));have hb2:=(IQ<|a+(j:Int));have O:((a+(i:Int)) % 26).toNat<Xq.length:=by rw[OO];lia
     have:=(M5 O nl).mp p2;lia
    ·obtain⟨j,b,rfl⟩:=G1.mp hy;exact(s j _<|ACu b).1
theorem iu(F:Fq K "_law_doc" 40 f fd)(T:Txt mg)(I:Df P w K mg base "_law_mix" lqg 1 Jk):Ab P w K mg base Bs 2 f fd lqh Oa:=by
 refine F.oq ["_law_cell_here","_law_k","_law_names_here","_law_number","_law_small","_law_some"] λH En _ A_ _ hr h=>?_;obtain⟨c,k,n,ys,rfl,hk,m,q⟩:=h;refine⟨_,(AB (Ad 3 A_<|Bc I hr<|AE (pv 0)<|AY<|pv 1)<|AB (Ad 4 A_<|AN BE (AN CG (pv 3) AG) AG)<|AB (Ad 5 A_<|Af<|AE (AN Fy (pv 4) AG)<|AE (D' OI AZ (EN<|pv 4) GY)<|AE (Af A')<|AE IG<|AE (AN Bi (AN Rx AG AG)<|pv 3)<|AE (Af<|AY<|pv 4)<|AE (Af<|AE (Af A')<|AY AZ)<|AY<|KW (GA (Fp K (pv 2)<|AN BE (pv 4) AG) AG KU) rfl rfl (by simp)<|by simp)<|AB (Ad 5 A_<|AN Hd (pv 5)<|Af<|AE (KW (GA (Fp K (pv 2) AG) (Af A')<|GA (Fp K (pv 2) AG) AZ KU) rfl rfl (by simp)<|by simp)<|AE (pv 4)<|AE AZ<|AY<|Af<|AE (pv 4)<|AY IG)<|AD<|AM<|Fp K (pv 5)<|AN BE (pv 3) AG),?_⟩;have get:∀j:Nat,j<4->∃y,OA (ys.map V.str) (j:Int)=ι (.str y)/\ys[j]?=ι y/\CS y=true:=λj hj=>⟨ys[j]'(by rw[m.len];exact hj),Am<|by rw[bv,ACu<|by rw[m.len];exact hj];rfl,ACu<|by rw[m.len];exact hj,m.nb _<|B0 _⟩;obtain⟨d,a0,g0,b0⟩:=get 0 (by decide);obtain⟨g,a1,g1,b1⟩:=get 1 (by decide);have J:g≠d:=λz=>by
  rw[z,<-g0]at g1;have:=(M5 (by rw[m.len];decide) m.nd).mp g1;lia
 refine⟨_,rfl,_,rfl,c,k,rfl,hk,λr _ _=>⟨_,rfl,_,_,rfl,rfl,C_,_,_,rfl,rfl,Bq,?_⟩⟩;have m5:=HJ (r/12) (n:=5) (by decide);obtain⟨e,he⟩:∃e:Nat,r/12 % 5=(e:Int):=⟨(r/12 % 5).toNat,by lia⟩;have e5:e<5:=by lia
 rw[he];obtain⟨x,hx⟩:∃x,x=FM "abcde" (ι (e:Int)) none:=⟨_,rfl⟩;have lx:x.length<=100:=by
  have:=NE "abcde" (ι (e:Int)) ν;rw[<-hx]at this;exact j5 this<|by decide
 have tx:MY x=true:=by
  rw[hx];rcases e with _|_|_|_|_|e
  ·decide+kernel
  ·decide+kernel
  ·decide+kernel
  ·decide+kernel
  ·decide+kernel
  ·lia
 obtain⟨A,az,gz,bz⟩:∃y,OA (ys.map V.str) ((e:Int) % 4)=ι (.str y)/\True/\CS y=true:=by
  obtain⟨y,O,_,Q⟩:=get (e % 4) (V6 _<|by decide);exact⟨y,by rw[<-O];rfl,trivial,Q⟩
 refine⟨_,rfl,_,_,rfl,rfl,_,rfl,_,rfl,"abcde",rfl,by decide,?_⟩;rw[<-hx];refine⟨d9 _,λp1 R=>?_⟩;obtain⟨H2,a,t1,f1⟩:=HH (o:=.lst []) R;rw[a];clear a;refine λp2 S=>?_;obtain⟨H3,a,t2,f2⟩:=HH (o:=.dK []) S;rw[a];clear a;have U:=t1.trans t2;refine⟨_,_,rfl,rfl,⟨by decide,by decide,by decide⟩,_,rfl,_,_,rfl,rfl,?_⟩;obtain⟨X,hgr⟩:∃X:Int,X=(10:Int) ^ (30:Int).toNat+r:=⟨_,rfl⟩;rw[<-hgr];refine⟨_,rfl,Aw,λp3 Y=>?_⟩;obtain⟨H4,a,t3,f3⟩:=HH (o:=.lst [.int (e:Int)]) Y;rw[a];clear a;have Z:=U.trans t3;refine⟨d9 _,λp4 iZ=>?_⟩;obtain⟨H5,a,t4,f4⟩:=HH (o:=.lst []) iZ;rw[a];clear a;have t14:=Z.trans t4;refine⟨An,λp5 wg=>?_⟩;obtain⟨H6,a,t5,f5⟩:=HH (o:=.lst [.ref p4,.str "b"]) wg;rw[a];clear a;have B:=t14.trans t5;refine λl C=>?_;have t6:=AF.new (o:=.dK []) C;refine⟨_,rfl,_,rfl,_,_,rfl,rfl,Bq,n,_,_,_,rfl,rfl,Ag.of ((B.trans t6) _ _ m.at_),az,AA,[(d0 A,.int 1)],rfl,by simp,?_⟩;have m6:CW [] [((d0 A:Key),V.int 1)]=[(d0 A,.int 1)]:=rfl;rw[m6];have D:AF H6 (upd (upd H6 l (.dK [])) l (.dK [(d0 A,.int 1)])):=t6.put C;have f6:upd (upd H6 l (.dK [])) l (.dK [(d0 A,.int 1)]) l=ι (.dK [(d0 A,.int 1)]):=AA;generalize upd (upd H6 l (.dK [])) l (.dK [(d0 A,.int 1)])=H7 at D f6⊢;have t16:=B.trans D;refine⟨Au (show 8<=1000 by decide),λL hL=>?_⟩;obtain⟨H8,a,tL,fL⟩:=HH (o:=.lst [.int ((e:Int)-2),.str x,.ref p1,.ref p2,.int X,.ref p3,.ref p5,.ref l]) hL;rw[a];clear a;have i:=t16.trans tL;refine⟨_,rfl,λs E=>?_⟩;obtain⟨HA,a,t9,f9⟩:=HH (o:=.dK []) E;rw[a];clear a;refine⟨_,rfl,n,_,_,_,rfl,rfl,Ag.of ((i.trans t9) _ _ m.at_),a1,d9 _,λb G=>?_⟩;have tA:=AF.new (o:=.lst []) G;have fA:upd HA b (.lst []) b=ι (.lst []):=AA;refine⟨_,rfl,n,_,_,_,rfl,rfl,Ag.of (((i.trans t9).trans tA) _ _ m.at_),a0,tA _ _ f9,[(d0 g,.ref b),(d0 d,.str "a")],rfl,by simp,?_⟩;have m9:CW [] [((d0 g:Key),V.ref b),(d0 d,.str "a")]=[(d0 g,.ref b),(d0 d,.str "a")]:=FP _ _ (by
  have:(d0 g:Key)≠d0 d:=λz=>J (A5 z);simpa using this)
 rw[m9];have n9A:b≠s:=k8<|AW f9 G;have u:AF H8 (upd (upd HA b<|.lst []) s<|.dK [(d0 g,.ref b),(d0 d,.str "a")]):=(t9.trans tA).put E;have wh:upd (upd HA b<|.lst []) s (.dK [(d0 g,.ref b),(d0 d,.str "a")]) s=ι (.dK [(d0 g,.ref b),(d0 d,.str "a")]):=AA;have wj:upd (upd HA b<|.lst []) s (.dK [(d0 g,.ref b),(d0 d,.str "a")]) b=ι (.lst []):=by rw[AH n9A];exact fA
 have nA0:H b=none:=i.free<|t9.free G;generalize upd (upd HA b<|.lst []) s (.dK [(d0 g,.ref b),(d0 d,.str "a")])=HB at u wh wj⊢;have t19:=i.trans u;refine⟨_,rfl,_,rfl,λpB wm=>?_⟩;obtain⟨HC,a,tB,fB⟩:=HH (o:=.dK []) wm;rw[a];clear a;have wo:=t19.trans tB;refine⟨An,λpC wq=>?_⟩;obtain⟨HD,a,tC,fC⟩:=HH (o:=.lst [.int (e:Int),.ref pB]) wq;rw[a];clear a;have t1C:=wo.trans tC;refine⟨Au<|show 4<=1000 by decide,λM hM=>?_⟩;obtain⟨HE,a,tM,fM⟩:=HH (o:=.lst [.ref s,.int (e:Int),.str "",.ref pC]) hM;rw[a];clear a;have t1M:=t1C.trans tM;refine⟨L,M,_,_,rfl,rfl,(((u.trans tB).trans tC).trans tM) _ _ fL,fM,Au<|show 12<=1000 by decide,λN hN=>?_⟩;obtain⟨HF,a,tN,fN⟩:=HH (o:=.lst<|[.int<|(e:Int)-2,.str x,.ref p1,.ref p2,.int X,.ref p3,.ref p5,.ref l]++[.ref s,.int (e:Int),.str "",.ref pC]) hN;rw[a];clear a;have mb:=HJ r (n:=12) (by decide);obtain⟨v,hv,mv⟩:=IM (xs:=([V.int<|(e:Int)-2,.str x,.ref p1,.ref p2,.int X,.ref p3,.ref p5,.ref l]++[V.ref s,.int (e:Int),.str "",.ref pC]:List V)) mb.1 (by exact mb.2);refine⟨_,rfl,_,rfl,_,_,rfl,rfl,Bq,N,_,_,_,rfl,rfl,Ag.of fN,hv,?_⟩;have z:=t1M.trans tN;have sC:=tM.trans tN;have sB:=tC.trans sC;have s9:=tB.trans sB;have sL:=u.trans s9;have s6:=tL.trans sL;have s5:=D.trans s6;have s4:=t5.trans s5;have s3:=t4.trans s4;have s2:=t3.trans s3;have s1:=t2.trans s2;have new:∀{p:Addr}{o:HO},H p=ν->HF p=ι o->nw H HF p=ι o:=λO Q=>by rw[BZ O];exact Q
 have v1:=new R<|s1 _ _ f1;have v2:=new (t1.free S)<|s2 _ _ f2;have v3:=new (U.free Y)<|s3 _ _ f3;have v4:=new (Z.free iZ)<|s4 _ _ f4;have v5:=new (t14.free wg)<|s5 _ _ f5;have v6:=new (B.free C)<|s6 _ _ f6;have v9:=new (i.free E)<|s9 _ _ wh;have vA:=new nA0<|s9 _ _ wj;have vB:=new (t19.free wm)<|sB _ _ fB;have vC:=new (wo.free wq)<|sC _ _ fC;have k:∀t:Pt,Small H HF v t->En.rt v HF:=λt h=>q v t HF z h;simp only[jp,F6,ca,I9,or_false]at mv;have one:∀{P:Pt->Prop}{x:Pt},P x->∀y∈[x],P y:=λh y hy=>by rw[bi.mp hy];exact h
 have two:∀{P:Pt->Prop}{x y:Pt},P x->P y->∀z∈[x,y],P z:=λO Q z hz=>by
  rcases ca.mp hz with rfl|hz
  ·exact O
  ·rw[bi.mp hz];exact Q
 rcases mv with rfl|rfl|rfl|rfl|rfl|rfl|rfl|rfl|rfl|rfl|rfl|rfl
 ·exact k _ ⟨.int _,.one<|.int _,trivial,by simp[Pt.size],by simp[Pt.deep],trivial⟩
 ·exact k _ ⟨.str _,.one<|.str _,lx,by simp[Pt.size],by simp[Pt.deep],tx⟩
 ·exact k _ ⟨.lst (.inl v1) .nil,.one .nil,trivial,by simp[Pt.size,Pt.AI],by simp[Pt.deep,Pt.AR],trivial⟩
 ·exact k _ ⟨.BV (ks:=[]) (.inl v2) rfl .nil,.one .emp,by simp[Pt.doc,Pt.CF],by simp[Pt.size,Pt.AI],by simp[Pt.deep,Pt.AR],trivial⟩
 ·exact k _ ⟨.int _,.one<|.int _,trivial,by simp[Pt.size],by simp[Pt.deep],trivial⟩
 ·exact k _ ⟨.lst (.inl v3)<|.cons (.int _) .nil,.row<|one<|.int _,by simp[Pt.doc,Pt.CF],by simp[Pt.size,Pt.AI],by simp[Pt.deep,Pt.AR],⟨trivial,trivial⟩⟩
 ·exact k _ ⟨.lst (.inl v5)<|.cons (.lst (.inl v4) .nil)<|.cons (.str _) .nil,.row<|two .nil<|.str _,by simp only[Pt.doc,Pt.CF,and_true,true_and];decide,by simp[Pt.size,Pt.AI],by simp[Pt.deep,Pt.AR],⟨trivial,(by decide+kernel:MY "b"=true),trivial⟩⟩
 ·exact k _ ⟨.BV (ks:=[A]) (.inl v6) rfl<|.cons (.int _) .nil,.tab<|one<|.int _,by simp[Pt.doc,Pt.CF,bz],by simp[Pt.size,Pt.AI],by simp[Pt.deep,Pt.AR],⟨trivial,trivial⟩⟩
 ·exact k _ ⟨.BV (ks:=[g,d]) (.inl v9) rfl (.cons (.lst (.inl vA) .nil) (.cons (.str _) .nil)),.tab (two .nil (.str _)),by
   simp only[Pt.doc,Pt.CF,and_true,true_and];refine⟨rfl,by simpa using J,?_,by simp,by decide⟩;intro k hk;simp only[ca,I9,or_false]at hk;rcases hk with rfl|rfl
   ·exact b1
   ·exact b0,by simp[Pt.size,Pt.AI],by simp[Pt.deep,Pt.AR],⟨trivial,(by decide+kernel:MY "a"=true),trivial⟩⟩
 ·exact k _ ⟨.int _,.one<|.int _,trivial,by simp[Pt.size],by simp[Pt.deep],trivial⟩
 ·exact k _ ⟨.str _,.one<|.str _,by simp only[Pt.doc];decide,by simp[Pt.size],by simp[Pt.deep],(by decide+kernel:MY ""=true)⟩
 ·exact k _ ⟨.lst (.inl vC)<|.cons (.int _)<|.cons (.BV (ks:=[]) (.inl vB) rfl .nil) .nil,.row<|two (.int _) .emp,by simp[Pt.doc,Pt.CF],by simp[Pt.size,Pt.AI],by simp[Pt.deep,Pt.AR],⟨trivial,trivial,trivial⟩⟩
theorem cg(F:Fq K "_law_copy" 41 f fd)(T:Txt mg)(A:Df P w K mg base "_law_copy" lqj n (Ka n)):Ab P w K mg base Bs (n+1) f fd lqj (Ka (n+1)):=by
 refine F.oq lqj λH _ _ _ m hr h=>?_;obtain⟨v,t,rfl,hv,I,N,q⟩:=h;refine⟨_,(AB (AV (As<|RY K T (pv 0) T.list BU) (AD<|AM<|cmp [] [] (BL<|pv 0) λ_ _ _ _=>(Bc A hr<|AY<|pv 0)) AL)<|AB (AV (As<|RY K T (pv 0) T.tuple OM) (AD<|AM<|BJ MT rfl T.tuple OM<|AY<|cmp [] [] (Rw<|pv 0) λ_ _ _ _=>(Bc A hr<|AY<|pv 0)) AL)<|AB (AV (As<|RY K T (pv 0) T.dict CZ) (AD<|AM<|BJ (KD rfl) rfl T.dict CZ<|AY<|IV<|cmp lqj [0] (Ci<|pv 0) λ_ _ _ _=>(Al<|AE (pv 0)<|AY<|Bc A hr<|AY<|Nn m (pv 1)<|pv 0)) AL)<|AD<|AM<|pv 0),?_⟩;cases hv with
 |int i=>exact⟨_,rfl,_,"list","int",rfl,rfl,.n (.int i),_,rfl,Ar ⟨_,rfl,_,"tuple","int",rfl,rfl,.n (.int i),_,rfl,Ar ⟨_,rfl,_,"dict","int",rfl,rfl,.n (.int i),_,rfl,Ar ⟨_,rfl,q _ H (AF.refl H) (.int i)⟩⟩⟩⟩
 |str i=>exact⟨_,rfl,_,"list","str",rfl,rfl,.n (.str i),_,rfl,Ar ⟨_,rfl,_,"tuple","str",rfl,rfl,.n (.str i),_,rfl,Ar ⟨_,rfl,_,"dict","str",rfl,rfl,.n (.str i),_,rfl,Ar ⟨_,rfl,q _ H (AF.refl H) (.str i)⟩⟩⟩⟩
 |bl i=>exact⟨_,rfl,_,"list","bool",rfl,rfl,.n (.bl i),_,rfl,Ar ⟨_,rfl,_,"tuple","bool",rfl,rfl,.n (.bl i),_,rfl,Ar ⟨_,rfl,_,"dict","bool",rfl,rfl,.n (.bl i),_,rfl,Ar ⟨_,rfl,q _ H (AF.refl H) (.bl i)⟩⟩⟩⟩
 |BB=>exact⟨_,rfl,_,"list","NoneType",rfl,rfl,.n .BB,_,rfl,Ar ⟨_,rfl,_,"tuple","NoneType",rfl,rfl,.n .BB,_,rfl,Ar ⟨_,rfl,_,"dict","NoneType",rfl,rfl,.n .BB,_,rfl,Ar ⟨_,rfl,q _ H (AF.refl H) .BB⟩⟩⟩⟩
 |@lst a S B h r=>
  refine⟨_,rfl,_,"list","list",rfl,rfl,.n<|.lst h,_,rfl,CP ?_⟩;simp only[Pt.nice,Pt.deep]at I N;have lv:=r.length;refine⟨_,rfl,a,rfl,⟨_,.inl h⟩,?_⟩;refine Ib ν B.length (λi=>S.getD i .BB) (λi g d=>g=B.take i) (by lia) (λD C=>rfl) (λi g d D E s C c=>c) (λl z=>nomatch z) (λi g d G s c=>⟨_,_,.inl<|h.up<|s.same _,ACu<|by lia⟩) (λi g d v H' G s c y=>?_) (λg d s c=>⟨_,.inl<|h.up<|s.same _,by lia⟩) (λi g d R G s c U k=>?_) λD d E g C s V U Q c=>?_
  ·obtain⟨e,y⟩:=y;refine⟨?_,e⟩;have:=y _<|.inl<|h.up<|s.same _;rw[ci,this];rfl
  ·obtain⟨u,m⟩:=B' B i G;obtain⟨x,hx,vx⟩:=r.get' m;have J:=ACx m;have dx:=Pt.AU J;have ev:S.getD i .BB=x:=by rw[ci,hx];rfl
   rw[ev];refine⟨_,rfl,x,u,rfl,vx.up s.same,Pt.Gi I.2 u J,by lia,λw X Y Z=>k w u X (.of Y) Z ?_⟩;rw[c,j2,m];rfl
  ·rw[im]at c;subst c;exact q _ d s.same (.lst (.inl<|by rw[BZ C];exact V) Q)
 |@tup a S B h r=>
  refine⟨_,rfl,_,"list","tuple",rfl,rfl,.t h,_,rfl,Ar ⟨_,rfl,_,"tuple","tuple",rfl,rfl,.t h,_,rfl,CP ?_⟩⟩;simp only[Pt.nice,Pt.deep]at I N;have lv:=r.length;refine⟨_,rfl,a,rfl,⟨_,h⟩,?_⟩;refine Ib ν B.length (λi=>S.getD i .BB) (λi g d=>g=B.take i) (by lia) (λD C=>rfl) (λi g d D E s C c=>c) (λl z=>nomatch z) (λi g d G s c=>⟨_,_,h.up s.same,ACu<|by lia⟩) (λi g d v H' G s c y=>?_) (λg d s c=>⟨_,h.up s.same,by lia⟩) (λi g d R G s c U k=>?_) λD d E g C s V U Q c=>?_
  ·obtain⟨e,y⟩:=y;refine⟨?_,e⟩;have:=y _<|h.up s.same;rw[ci,this];rfl
  ·obtain⟨u,m⟩:=B' B i G;obtain⟨x,hx,vx⟩:=r.get' m;have J:=ACx m;have dx:=Pt.AU J;have ev:S.getD i .BB=x:=by rw[ci,hx];rfl
   rw[ev];refine⟨_,rfl,x,u,rfl,vx.up s.same,Pt.Gi I.2 u J,by lia,λw X Y Z=>k w u X (.of Y) Z ?_⟩;rw[c,j2,m];rfl
  ·rw[im]at c;subst c;refine⟨D,E,rfl,.inl ⟨Ag.of V,λp L=>?_⟩⟩;have q_:=s.same.free L;exact q _ _ (s.same.trans<|AF.new L) (.tup (BP.of<|by rw[BZ q_,AA])<|Q.up<|CT (λb h=>h) λb e h1 M=>by rw[AH<|Bw M L];exact M)
 |@BV a kvs O B h hk r=>
  refine⟨_,rfl,_,"list","dict",rfl,rfl,.n<|.dK h,_,rfl,Ar ⟨_,rfl,_,"tuple","dict",rfl,rfl,.n<|.dK h,_,rfl,Ar ⟨_,rfl,_,"dict","dict",rfl,rfl,.n<|.dK h,_,rfl,CP ?_⟩⟩⟩;simp only[Pt.nice,Pt.deep]at I N;obtain⟨nl,jV,n9,I⟩:=I;have kl:kvs.length=O.length:=DZ hk;refine⟨a,_,h,λo Hf F=>⟨_,rfl,a,o,_,rfl,F.at_,?_⟩⟩;refine V_ ν B.length (λi=>.str<|O.getD i "") O (λi g d=>g=B.take i) (by lia) (λD C=>rfl) (λi g d D E s C c=>c) (λl z=>nomatch z) (λi g d G s c=>⟨s.same _ _ F.at_,by lia⟩) (λi g d v H' G s c y=>?_) (λg d s c=>⟨s.same _ _ F.at_,by lia⟩) (λi g d R G s c U k=>?_) λD d qs E g C s V lq U tt Q c=>?_
  ·obtain⟨e,k,w',e1,e2⟩:=y;rw[(GN hk e1).2]at e2;exact⟨e2,e⟩
  ·obtain⟨x,u,g1,g2,g3⟩:=OZ hk r jV (i:=i) (by lia);have J:=ACx g2;have dx:=Pt.AU J;have rdp:GB H d:=F.rd.trans s.same.r;refine⟨_,rfl,_,rfl,_,rfl,a,x,rfl,.inl ⟨kvs,d0<|O.getD i "",rdp a _ h,rfl,g1.symm⟩,x,u,rfl,g3.DK<|(Dl.BK F).trans<|.of s.same,Pt.Gi I u J,by lia,λw X Y Z=>⟨An,λt ht=>k w u X t (.of Y) Z ?_ ht⟩⟩;rw[c,j2,g2];rfl
  ·refine⟨s.same _ _ F.at_,?_⟩;rw[im]at c;subst c;have sb:=F.back s.same;have ba:∀b,b≠a->back a H d b=d b:=λb hb=>CA hb;have Da:D≠a:=(F.free C).2;have lw:=Q.length;have el:O.length=E.length:=by lia
   refine⟨D,qs,KZ O E,rfl,Ag.of<|by rw[ba D Da];exact V,by rw[OY el];lia,λj k v e=>?_,by rw[OY el];lia,λp L=>?_⟩
   ·obtain⟨x,h1,M,h3⟩:=bU e;obtain⟨t,ht⟩:=B' qs j (by have:=(DR h1);lia);obtain⟨g2,g3⟩:=tt j t v ht M;refine⟨t,ht,?_⟩;rw[ba t (F.free g3).2,g2,h3,ci,h1];rfl
   ·rw[NI el jV];have hpH:H p=none:=sb.free L;have lX:AS (nw H (upd (back a H d) p (.dK (KZ O E)))) E g:=Q.up (CT (λb h=>(F.free h).1) λb e h1 M=>by
     have hb:=(F.free h1).2;have nb:b≠p:=λz=>by rw[z]at M hb;rw[ba p hb,M]at L;cases L
     rw[AH nb,ba b hb];exact M)
    exact q _ _ (sb.trans<|AF.new L)<|.BV (.inl<|by rw[BZ hpH,AA]) (Ew el)<|by rw[Ie el];exact lX
theorem Ri{f:Addr}{a:j4}(F:Fq K "_law_copy" 41 f a)(T:Txt mg)(b:Binds K a lqj [])(m:mg "_law_copy"=ι (.ref f)):∀n:Nat,Ab P w K mg base Bs n f a lqj (Ka n)
 |0=>Eo (λvs H Q E h=>by obtain⟨v,t,_,_,_,c,_⟩:=h;have:=Pt.CC t;lia)
 |n+1=>cg F T (Df.mk' F b m (Ri F T b m n))
theorem cj(F:Fq K "_law_ruin" 42 f fd)(T:Txt mg)(s:Df P w K mg base "_law_ruin" lqj n (Kh n)):Ab P w K mg base Bs (n+1) f fd lqj (Kh (n+1)):=by
 refine F.oq ["_law_thing","_law_name","_law_one"] λH _ tn A_ g hr h=>?_;obtain⟨G,v,t,c,rfl,kf,B,O,Q,hz,hw,q⟩:=h;refine⟨_,(AB (AV (As<|RY K T (pv 0) T.dict CZ) (AB (EU<|HQ (Ci<|pv 0) (Bp 1 A_)<|AD<|Ai<|Bc s hr<|AY<|Nn g (pv 0)<|pv 1)<|AD<|Ga g (pv 0) AZ AG rfl) AL)<|AB (AV (As<|Av (Ss:Bo _ _ (Yc K)) rfl T.isinstance Cg<|AE (pv 0)<|AY<|Al<|AE (Cp (v:=.ty "list") rfl T.list BU rfl)<|AY<|Cp (v:=.ty "tuple") rfl T.tuple OM rfl) (AD<|YE (HQ (BL<|pv 0) (Bp 2 A_)<|AD<|Ai<|Bc s hr<|AY<|pv 2)<|HQ (Rw<|pv 0) (Bp 2 A_)<|AD<|Ai<|Bc s hr<|AY<|pv 2) AL)<|AD<|AV (As<|RY K T (pv 0) T.list BU) (AD<|Ai<|bT K (pv 0) AG) AL),?_⟩;have q:=λH c f {σ}=>tn (σ:=σ)<|q H c f;rcases B.kinds with⟨T,ty,k1,k2,k3,k4⟩|⟨a,C,d,rfl,rfl,J,M⟩|⟨a,C,d,rfl,rfl,J,M⟩|⟨a,kvs,ks,d,rfl,rfl,J,hk,M⟩
 ·refine⟨_,rfl,_,"dict",T,rfl,rfl,ty _,_,rfl,BN k1 ⟨_,rfl,An,λp R=>⟨_,p,T,rfl,AA,ty _,_,rfl,BN k2 ⟨_,rfl,_,"list",T,rfl,rfl,ty _,_,rfl,BN k3 ?_⟩⟩⟩⟩;have m:=AF.new (o:=.tup [V.ty "list",V.ty "tuple"]) R;exact q _ ((hw.up m).mono (bn _)<|by lia)<|.of m
 ·simp only[Pt.Wx,Pt.Fm,Pt.size,Pt.KI]at O Q hz q;have la:=M.length;have lt:d.length<=Pt.AI d:=Pt.CH d;have hh:(Pt.lst d).Fm=1+Pt.GP d:=by simp only[Pt.Fm]
  obtain⟨u',S,Z⟩:=hw a (.lst C) _ trivial J B<|bn _;cases Z with
  |lst _ k hk=>
   obtain⟨us,ru,wt⟩:=Wt.lst M k;have lu:=ru.length;refine⟨_,rfl,_,"dict","list",rfl,rfl,.n (.lst (.inl S)),_,rfl,BN rfl ⟨_,rfl,An,λp R=>?_⟩⟩;have m:=AF.new (o:=.tup [V.ty "list",V.ty "tuple"]) R;have e1:=m _ _ S;have U:=hw.up m;refine⟨_,p,"list",rfl,AA,.n (.lst (.inl e1)),_,rfl,Ck rfl ?_⟩;generalize upd H p (.tup [V.ty "list",V.ty "tuple"])=H1 at m e1 U⊢;refine .inl ⟨_,rfl,a,rfl,⟨_,Ag.of e1⟩,Br (K:=K) (xs:=C++i9 k (.int 77)) (λi σ j=>∃(D E:Option V),σ=[ι (.ref a),D,E]/\Wn G (Pt.lst d).Fm (c+Pt.BO (us.take i)) j/\Jo G (Pt.GP d) H1 j)
    ⟨ν,ν,rfl,U,.refl⟩ (λi σ j _ ⟨_,_,_,_,f⟩=>Ag.of (f.at_ kf B (by lia) e1)) ?_ ?_⟩
   ·refine λi x σ j _ go Y h0=>DB λX hX=>?_;obtain⟨D,E,rfl,y,A⟩:=h0;obtain⟨u,g,vu⟩:=ru.get Y;have z1:=wt.size g;have z2:=wt.Fm g;subst hX;refine⟨_,rfl,G,x,u,c+Pt.BO (us.take i),rfl,kf,vu,wt.Wx O g,by lia,by lia,y.mono (by lia)<|bn _,λH2 N I=>?_⟩;refine go.n ⟨_,_,rfl,?_,A.trans<|I.mono z2⟩;rw[Pt.Hv g,<-X5];exact y.next kf N I<|by lia
   ·rintro σ j ⟨D,E,rfl,y,A⟩;have z3:=wt.take (C++i9 k (V.int 77)).length;have z4:=Pt.EH d (C++i9 k (V.int 77)).length;have ei:=A.at_ kf B (by lia) e1;refine⟨_,rfl,_,"list","list",rfl,rfl,.n<|.lst<|.inl ei,_,rfl,Ck rfl ⟨_,rfl,.inl ⟨rfl,_,Ag.of ei⟩,a,_,_,rfl,rfl,ei,Lj<|by rw[b8,aaJ];lia,?_⟩⟩;rw[ii,show i9 k (V.int 77)++[V.int 77]=i9 (k+1) (V.int 77)from(List.replicate_succ' ..).symm];exact q _ ((y.mono (bn _)<|by lia).change (u:=.lst C) trivial J<|.lst C (k+1)<|by lia)<|((Jo.of m).trans<|A.mono<|by lia).change (u:=.lst C) trivial J B<|bn _
 ·simp only[Pt.Wx,Pt.Fm,Pt.size,Pt.KI]at O Q hz q;have la:=M.length;have lt:d.length<=Pt.AI d:=Pt.CH d;have hh:(Pt.tup d).Fm=1+Pt.GP d:=by simp only[Pt.Fm]
  have tq:∀{j:Hp},Wn G (Pt.tup d).Fm (c+Pt.BO d) j->BP K j a C:=λw=>J.imp (λr=>by
   obtain⟨u',e,Z⟩:=w a (.tup C) _ trivial r B (bn _);cases Z;exact .inl e) id
  have w0:=hw.mono (bn _) (show c<=c+Pt.BO d by lia);refine⟨_,rfl,_,"dict","tuple",rfl,rfl,.t (tq w0),_,rfl,BN rfl ⟨_,rfl,An,λp R=>?_⟩⟩;have m:=AF.new (o:=.tup [V.ty "list",V.ty "tuple"]) R;have U:=hw.up m;refine⟨_,p,"tuple",rfl,AA,.t (tq (w0.up m)),_,rfl,Ck rfl ?_⟩;generalize upd H p (.tup [V.ty "list",V.ty "tuple"])=H1 at m U⊢;have mo:∀{j:Hp}{i:Nat},Wn G (Pt.tup d).Fm (c+Pt.BO (d.take i)) j->Wn G (Pt.tup d).Fm (c+Pt.BO d) j:=λ{j i} w=>w.mono (bn _) (by have:=Pt.EH d i;lia);refine .inr ⟨_,rfl,a,rfl,⟨_,tq (U.mono (bn _) (by lia))⟩,Ts (K:=K) (xs:=C) (λi σ j=>∃(D E:Option V),σ=[ι (.ref a),D,E]/\Wn G (Pt.tup d).Fm (c+Pt.BO (d.take i)) j/\Jo G (Pt.GP d) H1 j)
   ⟨ν,ν,rfl,U,.refl⟩ (λi σ j _ ⟨_,_,_,w,f⟩=>tq (mo w)) ?_ ?_⟩
  ·refine λi x σ j _ go Y h0=>DB λX hX=>?_;obtain⟨D,E,rfl,y,A⟩:=h0;obtain⟨u,g,vu⟩:=M.get Y;have wt:Wt d d:=λ_ _ h=>.inl h;have z1:=wt.size g;have z2:=wt.Fm g;subst hX;refine⟨_,rfl,G,x,u,c+Pt.BO (d.take i),rfl,kf,vu,wt.Wx O g,by lia,by lia,y.mono (by lia)<|bn _,λH2 N I=>?_⟩;refine go.n ⟨_,_,rfl,?_,A.trans<|I.mono z2⟩;rw[Pt.Hv g,<-X5];exact y.next kf N I<|by lia
  ·rintro σ j ⟨D,E,rfl,y,A⟩;exact⟨_,rfl,_,"list","tuple",rfl,rfl,.t<|tq<|mo y,_,rfl,BN rfl<|q _ (mo y)<|(Jo.of m).trans<|A.mono<|by lia⟩
 ·simp only[Pt.Wx,Pt.Fm,Pt.size,Pt.KI]at O Q hz q;have la:=M.length;have lt:d.length<=Pt.AI d:=Pt.CH d;rw[ap]at la;have hh:(Pt.BV ks d).Fm=1+Pt.GP d:=by simp only[Pt.Fm]
  obtain⟨u',S,Z⟩:=hw a (.dK kvs) _ trivial J B<|bn _;cases Z with
  |BV _ l wd=>
   have A_:(kvs.map (·.1)).Nodup:=by
    rw[hk];exact List.Pairwise.map _ (λa b h e=>h<|A5 e) O.1
   obtain⟨us,ru,wt⟩:=Wt.BV M wd;have lu:=ru.length;have wl:=wd.len;refine⟨_,rfl,_,"dict","dict",rfl,rfl,.n<|.dK<|.inl S,_,rfl,Ck rfl ⟨a,_,.inl S,λo Hf F=>⟨_,rfl,a,o,_,rfl,F.at_,?_⟩⟩⟩;have wf:Wn G (Pt.GP d) c Hf:=λb u t p r v z=>by
    have L:b≠a:=λe=>by
     subst e;have:=Val.iK kf _ B v;subst this;lia
    rw[F.ne b L];exact hw b u t p r v<|by lia
   refine EE (λi σ j=>∃(D E:Option V),σ=[ι<|.ref a,D,E]/\Wn G (Pt.GP d) (c+Pt.BO (us.take i)) j/\Jo G (Pt.GP d) Hf j)
    ⟨ν,ν,rfl,wf,.refl⟩ (λi σ j _ ⟨_,_,_,_,f⟩=>f.at_ kf B (by lia) F.at_) ?_ ?_
   ·refine λi key x σ j _ go Y h0=>DB λX hX=>?_;obtain⟨D,E,rfl,y,A⟩:=h0;obtain⟨u,g,vu⟩:=ru.get (show(l.map (·.2))[i]?=ι x by rw[bv,Y];rfl);have z1:=wt.size g;have z2:=wt.Fm g;have rd:Rd j a (.dK l):=.inr ⟨o,A.at_ kf B (by lia) F.at_⟩;subst hX;refine⟨_,rfl,_,rfl,a,x,rfl,.inl ⟨_,key,rd,rfl,(DN (wd.nd A_) Y).symm⟩,G,x,u,c+Pt.BO (us.take i),rfl,kf,vu,wt.Wx O.2 g,by lia,by lia,y.mono (by lia)<|bn _,λH2 N I=>?_⟩;refine go.n ⟨_,_,rfl,?_,A.trans<|I.mono z2⟩;rw[Pt.Hv g,<-X5];exact y.next kf N I<|by lia
   ·rintro σ j ⟨D,E,rfl,y,A⟩;have z3:=wt.take l.length;have z4:=Pt.EH d l.length;refine⟨A.at_ kf B (by lia) F.at_,?_⟩;have eb:back a H j a=ι (.dK l):=by rw[IU];exact S
    have wb:Wn G (Pt.BV ks d).Fm (c+Pt.BO d) (back a H j):=λb u t p r v z=>by
     by_cases L:b=a
     ·subst L;obtain⟨u',e,w⟩:=hw b u t p r v z;exact⟨u',by rw[IU];exact e,w.mono<|by lia⟩
     ·rw[CA L];rcases KM (Pt.GP d) t.Fm with z'|z'
      ·obtain⟨u',e,w⟩:=hw b u t p r v z;exact⟨u',A.at_ kf v z'<|by rw[F.ne b L];exact e,w.mono<|by lia⟩
      ·obtain⟨u',e,w⟩:=y b u t p r v z';exact⟨u',e,w.mono<|by lia⟩
    have fb:Jo G (Pt.BV ks d).Fm H (back a H j):=λb o' e=>by
     by_cases L:b=a
     ·subst L;exact .inl<|by rw[IU];exact e
     ·rw[CA L];exact(A b o'<|by rw[F.ne b L];exact e).imp id λ⟨u,t,p,r,v,z⟩=>⟨u,t,p,r,v,by lia⟩
    have N:=wb.change (u:=.dK kvs) trivial J<|.BV _ _ wd.put;have I:=fb.change (u:=.dK kvs) (u':=.dK<|putK l WK<|.int 77) trivial J B<|bn _;refine⟨_,rfl,a,_,rfl,MW.k (k:=WK) eb<|Lj<|by lia,?_⟩;have e2:upd (back a H j) a (.dK<|putK l WK<|.int 77) a=ι (.dK<|putK l WK<|.int 77):=AA;generalize upd (back a H j) a (.dK<|putK l WK<|.int 77)=H3 at N I e2⊢;refine⟨_,rfl,An,λp R=>?_⟩;have m:=AF.new (o:=.tup [V.ty "list",V.ty "tuple"]) R;exact⟨_,p,"dict",rfl,AA,.n<|.dK<|.inl<|m _ _ e2,_,rfl,BN rfl ⟨_,rfl,_,"list","dict",rfl,rfl,.n<|.dK<|.inl<|m _ _ e2,_,rfl,BN rfl<|q _ (N.up m)<|I.trans<|.of m⟩⟩
theorem Rj{f:Addr}{a:j4}(F:Fq K "_law_ruin" 42 f a)(T:Txt mg)(b:Binds K a lqj [])(m:mg "_law_ruin"=ι (.ref f)):∀n:Nat,Ab P w K mg base Bs n f a lqj (Kh n)
 |0=>Eo (λvs H Q E h=>by obtain⟨_,_,t,_,_,_,_,_,c,_⟩:=h;lia)
 |n+1=>cj F T (Df.mk' F b m (Rj F T b m n))
theorem ck(F:Fq K "_law_asks" 43 f fd)(T:Txt mg)(J:Df P w K mg base "_law_mix" lqg 1 Jk)(iw:Df P w K mg base "_law_doc" lqh 2 Oa)(M:Df P w K mg base "_law_asks" lqf n (Ob n)):Ab P w K mg base Bs (n+1) f fd lqf (Ob (n+1)):=by
 refine F.oq ["_law_cells","_law_deep","_law_names_here","_law_cell_here","_law_kind","_law_more_here","_law_told","_law_lacking","_law_k","_law_way"] λH En _ A_ Gx hr h=>?_;obtain⟨l,d,nm,E,ys,rfl,hd,hl,lc,nl,hn,q⟩:=h;refine⟨_,(AB (AV (AO (Se<|BX.JG hr) (pv 0) (Af A')<|Aa _) (AD<|AM<|Al<|AY AZ) AL)<|AB (Ad 3 A_<|ED (Pn AC aaE aaC XY (pv 0)<|AY AG)<|Xh (pv 0) AG ⟨rfl,rfl,rfl,rfl⟩)<|AB (Ad 4 A_<|AN BE (Bc J hr<|AE (pv 3)<|AY AG) AG)<|AB (Ad 5 A_<|FJ BR (AN BE (Bc J hr<|AE (pv 3)<|AY AG) AG) AG<|Aa _)<|AB (AV (PW.pt<|pw_or (AO BR (pv 4) AG<|Aa _)<|pw_or1<|PW.pt<|pw_and (AO BR (pv 1) AG<|Aa _)<|pw_and1<|AO Tw (pv 4) AG<|Aa _) (AD<|AM<|Al<|AY AZ) AL)<|AB (AV (AO Jh (pv 4) AG<|Aa _) (AD<|AM<|Al<|AE AZ<|AY<|Bc iw hr<|AE (pv 3)<|AE AG<|AY<|pv 2) AL)<|AB (AV (AO Jh (pv 4) AG<|Aa _) (AD<|AM<|Al<|AE AZ<|AE (cmp ["_law_cells","_law_names_here","_law_deep"] [0,2,1] (BI rfl T.range<|AY<|AN BE (Bc J hr<|AE (pv 3)<|AY AG) AG) λ_ _ _ _=>(Bc M hr<|AE (pv 1)<|AE (AN Fy (pv 3) AG)<|AY<|pv 2))<|AY<|pv 5) AL)<|AB (Ad 6 A_ IG)<|AB (Ad 7 A_<|Af A')<|AB (HQ (BI rfl T.range<|AY AG) (Bp 8 A_)<|AB (Ad 9 A_<|AN BE (AN CG (Bc J hr<|AE (pv 3)<|AY AG)<|Fp K (Af<|AE AG<|AE AG<|AE AG<|AY AG)<|pv 8) AG)<|AB (AV (AO Tw (pv 9) AG<|Aa _) (AD<|Ga Gx (pv 6) (Fp K (pv 2)<|pv 8) (Bc M hr<|AE (pv 0)<|AE (AN Fy (pv 1) AG)<|AY<|pv 2) rfl) AL)<|AD<|AV (AO BR (pv 9) AG<|Aa _) (AD<|Ai<|bT K (pv 7)<|Fp K (pv 2)<|pv 8) AL)<|AD<|AM<|Al<|AE AZ<|AE (pv 6)<|AE (Av (Oc rfl:Bo _ _ (Yj K)) rfl T.sorted IL<|AY<|pv 7)<|AY<|pv 5),?_⟩;have wu:H l≠none:=by rw[hl];exact λz=>nomatch z
 refine⟨_,rfl,d9 _,λpe wx=>⟨l,pe,_,rfl,rfl,Ag.of<|(AF.new wx) _ _ hl,Ag.of AA,_,rfl,?_⟩⟩;have se:=AF.new (o:=.lst []) wx;generalize upd H pe (.lst [])=H1 at se⊢;have Q:=se _ _ hl;cases E with
 |nil=>
  refine CP ⟨Aw,λp A=>?_⟩;have S:=se.free A;have lp:l≠p:=λz=>by rw[<-z,Q]at A;cases A
  exact q _ .any [] _ (.of<|se.trans<|AF.new A) (by rw[AH lp];exact Q) (bn _) (.tup (BP.of<|by rw[BZ S,AA])<|.cons (.str _) .nil) trivial (by simp[Ak.size]) (by simp[Ak.deep]) trivial
 |cons c E=>
  refine Ar ?_;refine .inl ⟨_,rfl,.inl ⟨rfl,_,Ag.of Q⟩,l,_,0,0,.int c,rfl,rfl,Q,by decide,by decide,(KQ<|by unfold T';rw[if_pos<|by decide,if_pos<|by simp];rfl).1,rfl,?_⟩;have u:Bt (ι l) H (upd H1 l<|.lst<|E.map V.int):=(Bt.of se).put;have C:upd H1 l (.lst<|E.map V.int) l=ι (.lst<|E.map V.int):=AA;show Kq _ _ _ _ (upd H1 l<|.lst<|E.map V.int);generalize upd H1 l (.lst<|E.map V.int)=H2 at u C⊢;have wz:=hn.but u nl;simp only[g6]at lc q;have mQ:∀{L U:Hp}{v:V}{t:Pt},Val (nw H2 L) v t->(∀b o,L b=ι o->U b=ι o)->Val (nw H U) v t:=λh s=>h.up (CT (λb h=>u.Fl b h) λb e _ h=>s b e h);refine⟨_,rfl,c,0,rfl,by decide,λr0 _ _=>⟨_,_,rfl,rfl,Bq,?_⟩⟩;have m8:=HJ r0 (n:=8) (by decide);generalize r0 % 8=kd at m8⊢;refine⟨_,rfl,c,2,rfl,by decide,λr2 _ _=>⟨_,_,rfl,rfl,Bq,rfl,?_⟩⟩;generalize decide (V.int (r2 % 2)=V.int 1)=mo;dsimp only[Aj];have mR:∀p,H2 p=ν->En.rt (.ref p) (upd H2 p<|.tup [.str "any"]):=λp A=>by
   have lp:l≠p:=λz=>by rw[<-z,C]at A;cases A
   exact q _ .any E _ (u.trans<|.of<|AF.new A) (by rw[AH lp];exact C) (by lia) (.tup (BP.of<|by rw[BZ<|u.Fl p A,AA])<|.cons (.str _) .nil) trivial (by simp[Ak.size]) (by simp[Ak.deep]) trivial
  refine Sh (t:=Rr _ _ _) (λH5=>H2=H5/\(d=0->kd<=2)) (λH5 ⟨e5,hk⟩=>?_) (λkey=>?_);rotate_left
  ·refine⟨_,rfl,rfl,_,rfl,GH (λ_=>CP ⟨Aw,mR⟩) λ_=>⟨_,rfl,rfl,_,rfl,GH (λh2=>?_) λh2=>?_⟩⟩
   ·refine⟨_,rfl,_,_,rfl,rfl,_,rfl,GH (λ_=>⟨Aw,mR⟩) λh3=>key H2 ⟨rfl,λ_=>?_⟩⟩;have:=of_decide_eq_false h3;lia
   ·refine Ar<|key H2 ⟨rfl,λz=>?_⟩;have:=of_decide_eq_false h2;subst z;exact absurd rfl this
  subst e5;refine⟨_,rfl,_,_,rfl,rfl,_,rfl,GH (λ_=>?_) λh3=>?_⟩
  ·refine⟨_,rfl,_,rfl,c,1,nm,ys,rfl,by decide,wz,λv t L s3 sm=>⟨An,λp A=>?_⟩⟩;have N:=s3.free A;have lp:l≠p:=λz=>by rw[<-z,C]at N;cases N
   refine q _ (.Ao t) E _ (u.trans<|.of<|s3.trans<|AF.new A) (by rw[AH lp];exact s3 _ _ C) (by lia) (.tup (BP.of<|by rw[BZ<|u.Fl p N,AA])<|.cons (.str _)<|.cons (mQ sm.val<|AF.new A) .nil) ?_ (by simp[Ak.size]) (by simp[Ak.deep]) sm.txt;simp only[Ak.ok];exact⟨sm.sm,sm.doc,by have:=sm.size;lia⟩
  have h3:=of_decide_eq_false h3;obtain⟨O,rfl⟩:∃O,d=O+1:=⟨d-1,by lia⟩;have ed:(((O+1:Nat):Int)-1)=(O:Int):=by lia
  refine⟨_,rfl,_,_,rfl,rfl,_,rfl,GH (λ_=>?_) λ_=>?_⟩
  ·refine⟨_,rfl,c,1,rfl,by decide,λr1 _ _=>⟨_,_,rfl,rfl,Bq,?_⟩⟩;have m4:=HJ r1 (n:=4) (by decide);obtain⟨k4,sP⟩:∃k:Nat,r1 % 4=(k:Int):=⟨(r1 % 4).toNat,by lia⟩;have AAi:k4<4:=by lia
   rw[sP];refine⟨k4,rfl,by lia,by lia,?_⟩;refine Ib (ι l) k4 (λi=>.int<|0+(i:Int)) (λi us L=>∃(I:List Ak)(g:List Int),us=Ak.HN I/\L l=ι (.lst<|g.map V.int)/\g.length<=E.length/\Ak.JC I/\Ak.AI I<=i+4*(E.length-g.length)/\Ak.AR I<=O+1/\Ak.Mc I) (by lia) (λD hD=>⟨[],E,rfl,by rw[AH λz=>by rw[<-z,C]at hD;cases hD];exact C,bn _,trivial,by simp[Ak.AI],by simp[Ak.AR],trivial⟩) (λi us L D ws bt hD ⟨I,g,h1,h2,h3⟩=>⟨I,g,h1,by rw[AH λz=>by rw[<-z,C]at hD;cases hD];exact h2,h3⟩) (λl' z=>by cases z;rw[C];exact λz=>nomatch z) (λi us L hi s iv=>hi) (λi us L v H' hi s iv y=>⟨y.2,y.1⟩) (λus L s iv=>bn _) (λi us L R hi bt ⟨I,g,e1,e2,e3,e4,e5,e6,e7⟩ lu k=>?_) λD L ws us hD bt d2 lu vl ⟨I,g,e1,e2,e3,e4,e5,e6,e7⟩=>?_
   ·refine⟨_,rfl,_,rfl,_,_,rfl,rfl,_,rfl,l,O,nm,g,ys,by rw[ed];rfl,by lia,e2,by lia,nl,wz.but bt nl,λv a w_ U Y hl4 le4 v4 ok4 sz4 dp4 fw4=>k v a.pt U Y v4 ⟨I++[a],w_,?_,hl4,by lia,Ak.FV e4<|Ak.Kb ok4,?_,?_,Ak.EX e7 ⟨fw4,trivial⟩⟩⟩
    ·rw[Ak.FU,e1];rfl
    ·rw[Ak.Bd,Ak.Gj];lia
    ·rw[Ak.Dt,Ak.Gm];lia
   ·refine⟨_,rfl,RX,λp A=>?_⟩;have N:=bt.Fl p A;have pD:D≠p:=λz=>by rw[<-z,d2]at A;cases A
    have lp:l≠p:=λz=>by rw[<-z,e2]at A;cases A
    subst e1;refine q _ (.row I mo) g _ ((u.trans bt).trans<|.of<|AF.new A) (by rw[AH lp];exact e2) (by lia) (.tup (BP.of<|by rw[BZ<|u.Fl p N,AA])<|.cons (.str _)<|.cons (.lst (.inl<|by rw[BZ<|u.Fl D hD,AH pD];exact d2)<|vl.up<|CT (λb h=>u.Fl b h) λb e _ h=>AF.new A b e h)<|.cons (.bl _) .nil) e4 ?_ ?_ e7
    ·simp only[Ak.size];lia
    ·simp only[Ak.deep];lia
  ·refine λp6 xA=>?_;obtain⟨L,eH,t6,f6⟩:=HH (o:=.dK []) xA;rw[eH];clear eH;refine⟨d9 _,.mk λp7 U hp7 t7 f7=>?_⟩;have Z:=t7 _ _ f6;have Y:Bt (ι l) H U:=u.trans (.of (t6.trans t7));have T0:Gz H U l p6 p7 ys (O+1) E.length 0 U [] [] [] E []:={
    n6:=u.Fl p6 xA
    n7:=u.Fl p7 (t6.free hp7)
    o6:=by rw[Z];exact λz=>nomatch z
    o7:=by rw[f7];exact λz=>nomatch z
    ne:=λz=>by rw[z,f7]at Z;cases Z
    hl:=wu
    h4:=Y.Fl
    bt:=Y
    dm:=λb h=>h
    e6:=Z
    e7:=f7
    el:=(t6.trans t7) _ _ C
    le:=bn _
    lw:=rfl
    la:=rfl
    vl:=.nil
    ok:=trivial
    fw:=trivial
    lm:=bn _
    sz:=by simp[Ak.AI]
    dp:=by simp[Ak.AR]
    ik:=λk h=>nomatch h
    il:=λk h=>nomatch h
    nk:=.nil
    dj:=λk h=>nomatch h
    l4:=bn _
    m4:=bn _
    nl:=.nil}
   refine⟨4,rfl,by decide,by decide,Ce (lo:=0) (n:=4) (λi σ Hi=>∃(ks:List Str)(I:List Ak)(ls:List Str)(g:List Int)(ws:List V)(o8 o9:Option V),σ=[ι (.ref l),ι (.int ((O+1:Nat):Int)),ι (.ref nm),ι (.int c),ι (.int kd),ι (.bl mo),ι (.ref p6),ι (.ref p7),o8,o9]/\Gz H U l p6 p7 ys (O+1) E.length i Hi ks I ls g ws)
    ⟨[],[],[],E,[],ν,ν,rfl,T0⟩ ?_ ?_⟩
   ·refine λi σ Hi _ go hi h0=>DB λX hX=>?_;obtain⟨ks,I,ls,g,ws,o8,o9,rfl,TI⟩:=h0;obtain⟨y,hy⟩:=B' ys i (by rw[hn.len];exact hi);have ay:OA (ys.map V.str) (0+(i:Int))=ι (.str y):=by
     rw[N3];exact Am<|by rw[bv,hy];rfl
    obtain⟨v4,hv4,xB⟩:=IM (xs:=[V.int 1,V.int 4,V.int 16,V.int 64]) (i:=0+(i:Int)) (by lia) (by simp only[g6,F7];lia);have vb:∃m:Int,v4=.int m/\0<m/\m<1073741824:=by
     simp only[ca,I9,or_false]at xB;rcases xB with rfl|rfl|rfl|rfl
     ·exact⟨_,rfl,by decide,by decide⟩
     ·exact⟨_,rfl,by decide,by decide⟩
     ·exact⟨_,rfl,by decide,by decide⟩
     ·exact⟨_,rfl,by decide,by decide⟩
    obtain⟨m,rfl,oM,cm⟩:=vb;subst hX;refine⟨_,rfl,c,1,rfl,by decide,λr1 _ _=>⟨Au<|show 4<=1000 by decide,λpl WA=>⟨_,rfl,pl,_,_,_,rfl,rfl,Ag.of AA,hv4,_,_,rfl,rfl,⟨oM,cm⟩,_,_,rfl,rfl,Bq,?_⟩⟩⟩;have B:=TI.up<|AF.new (o:=.lst [V.int 1,V.int 4,V.int 16,V.int 64]) WA;generalize upd Hi pl (.lst [V.int 1,V.int 4,V.int 16,V.int 64])=Hj at B⊢;clear TI;generalize r1/m % 4=wy;have sR:=hn.but B.bt nl;dsimp only[Aj];refine⟨_,rfl,_,_,rfl,rfl,_,rfl,GH (λh1=>?_) λh1=>?_⟩
    ·have h1:=of_decide_eq_true h1;refine⟨_,rfl,_,rfl,_,_,rfl,rfl,_,rfl,l,O,nm,g,ys,by rw[ed];rfl,by lia,B.el,by have:=B.le;lia,nl,sR,λv a w_ H5 xC sY le5 v5 ok5 sz5 dp5 fw5=>?_⟩;obtain⟨g1,g2,TI2⟩:=B.asked hy hn.nd xC sY le5 v5 ok5 sz5 dp5 fw5;have l4:=B.l4;refine⟨_,rfl,_,rfl,_,rfl,nm,_,_,_,rfl,rfl,Ag.of (sR.but xC nl).at_,ay,p6,_,rfl,.inl ⟨_,d0 y,g1,rfl,Ac<|by rw[OY B.lw];lia,rfl⟩,?_⟩;rw[g2];refine⟨_,rfl,rfl,_,rfl,BN (decide_eq_false λz=>?_)<|go.n ⟨_,_,_,_,_,_,_,rfl,TI2⟩⟩;have:=V.int.inj z;lia
    ·refine⟨_,rfl,rfl,_,rfl,GH (λ_=>?_) λ_=>go.n ⟨_,_,_,_,_,_,_,rfl,B.weak⟩⟩;have m4:=B.m4;exact⟨_,rfl,.inl ⟨rfl,_,Ag.of B.e7⟩,_,rfl,_,rfl,nm,_,_,_,rfl,rfl,Ag.of sR.at_,ay,p7,_,_,rfl,rfl,B.e7,Ac<|by rw[ap];lia,go.n ⟨_,_,_,_,_,_,_,rfl,B.qi hy hn.nd⟩⟩
   ·rintro σ Hi ⟨ks,I,ls,g,ws,o8,o9,rfl,TI⟩;have l4:=TI.l4;have m4:=TI.m4;refine⟨_,rfl,_,rfl,p7,ls,rfl,Ag.of TI.e7,by lia,λp8 ss H5 np8 s5 f8 pm so8=>⟨_,rfl,Au<|show 4<=1000 by decide,λp A=>?_⟩⟩;have nu:=s5.free A;have S:=TI.bt.Fl p nu;have p8p:p8≠p:=λz=>by rw[<-z,f8]at A;cases A
    have h8:H p8=none:=TI.bt.Fl p8 np8;have lp:l≠p:=λz=>wu (by rw[z];exact S);have p6p:p6≠p:=λz=>by have:=s5 _ _ TI.e6;rw[z,A]at this;cases this
    have s6:=s5.trans<|AF.new (o:=.tup [.str "table",.ref p6,.ref p8,.bl mo]) A;refine q _ (.tab ks I ss mo) g _ (TI.bt.trans<|.of s6) (s6 _ _ TI.el) (by have:=TI.le;lia) (.tup (BP.of<|by rw[BZ S,AA])<|.cons (.str _)<|.cons (.BV (.inl<|by rw[BZ TI.n6];exact s6 _ _ TI.e6) (Ew TI.lw) ?_)<|.cons (.lst (.inl<|by rw[BZ h8,AH p8p];exact f8) ?_)<|.cons (.bl _) .nil) ?_ ?_ ?_ ?_
    ·rw[Ie TI.lw];exact TI.vl.up<|CT (λb h=>TI.h4 b h) λb e _ h=>s6 _ _ h
    ·have gen:∀{G:Hp}(ls:List Str),AS G (ls.map V.str) (ls.map Pt.str):=by
      intro G ls
      induction ls with
      |nil=>exact .nil
      |cons x r ih=>exact .cons (.str x) ih
     exact gen ss
    ·simp only[Ak.ok];exact⟨TI.la,TI.nk,λk hk=>let⟨j,_,h2⟩:=TI.ik k hk;hn.nb k<|ACx h2,by lia,⟨by rw[pm.length_eq];lia,pm.nodup_iff.mpr TI.nl,so8⟩,λx hx=>TI.dj x<|pm.mem_iff.mp hx,TI.ok⟩
    ·have:=TI.sz;have:=TI.le;simp only[Ak.size];lia
    ·have:=TI.dp;simp only[Ak.deep];lia
    ·have:=TI.lm;exact⟨by rw[pm.length_eq];exact this,TI.fw⟩
theorem Rk{f:Addr}{d:j4}(F:Fq K "_law_asks" 43 f d)(T:Txt mg)(b:Binds K d lqf [])(m:mg "_law_asks"=ι (.ref f))(a:Df P w K mg base "_law_mix" lqg 1 Jk)(c:Df P w K mg base "_law_doc" lqh 2 Oa):∀n:Nat,Ab P w K mg base Bs n f d lqf (Ob n)
 |0=>Eo (λvs H Q E h=>by obtain⟨_,_,_,_,_,_,e,_⟩:=h;lia)
 |n+1=>ck F T a c (Df.mk' F b m (Rk F T b m a c n))
theorem cn(F:Fq K "_law_lets" 44 f fd)(T:Txt mg)(O:Df P w K mg base "_law_lets" lqa n (Km n)):Ab P w K mg base Bs (n+1) f fd lqa (Km (n+1)):=by
 refine F.oq ["_law_asks_here","_law_doc_here","_law_others"] λH _ _ A_ Gx hr h=>?_;obtain⟨v,y,a0,t,rfl,hv,hy,Z,dt,so,za,zt,sd,PX,q⟩:=h;refine gen (AB (AV (AO BR (Bx K 0) AZ<|Aa _) (AD<|AM Dp) AL)<|AB (AV (AO BR (Bx K 0) AZ<|Aa _) (AD<|AM<|FJ (iT (BX.units hr):Dr _ _ lQ) (Bx K 0) (pv 1)<|Aa _) AL)<|AB (AV (AO BR (Bx K 0) AZ<|Aa _) (AB (AV (PW.pt<|pw_or (CV<|As<|RY K T (pv 1) T.list BU)<|pw_or (AO Jh (Ds K T<|pv 1) (Ds K T<|Bx K 0)<|Aa _)<|pw_or1<|PW.pt<|pw_and (CV<|As<|Bx K 0)<|pw_and1<|AO Tw (Ds K T<|pv 1) (Ds K T<|Bx K 0)<|Aa _) (AD<|AM Dp) AL)<|AD<|AM<|Av (II rfl) rfl T.all UJ<|AY<|cmp ["_law_doc_here","_law_asks_here"] [1,0] (BI rfl T.range<|AY<|Ds K T<|Bx K 0) λ_ _ _ _=>(Bc O hr<|AE (Fp K (Bx K 2)<|pv 0)<|AY<|Fp K (pv 1)<|pv 0)) AL)<|AB (AV (CV<|As<|RY K T (pv 1) T.dict CZ) (AD<|AM Dp) AL)<|AB (EU<|FO (i:=2) (fv:=lqc) (fs:=[0]) rfl (.of<|by rfl) A_ rfl (X4 rfl) (Ci<|pv 1) (λC s0 H0 fp=>Gd<|Kp<|GZ Gx (pv 0)<|Bx K 1) λC s0 H0 fp=>(pv 0))<|AB (AV (PW.pt<|pw_or (AO Jh (AN Fy (Av NC rfl T.len EQ<|AY<|pv 1)<|Ds K T<|pv 2) (Av NC rfl T.len EQ<|AY<|Bx K 0)<|Aa _)<|pw_or1<|PW.pt<|pw_and (CV<|As<|Bx K 0)<|pw_and1<|AO (Xw<|BX.JG hr) (pv 2) (Af A')<|Aa _) (AD<|AM Dp) AL)<|AB (AV (AO (Xw<|BX.JG hr) (Ge (fv:=lqc) (fs:=[0]) rfl (.of<|by rfl) (BL<|pv 2) (λC s0 H0 fp=>Gd<|AO (DV:Dr _ _ (Wv K false)) (pv 0) (Bx K 1) rfl) λC s0 H0 fp=>(pv 0)) (Af A')<|Aa _) (AD<|AM Dp) AL)<|AD<|AM<|Av (II rfl) rfl T.all UJ<|AY<|IV<|cmp ["_law_doc_here","_law_asks_here"] [1,0] (Ci<|Bx K 0) λ_ _ _ _=>(Bc O hr<|AE (Nn Gx (Bx K 2)<|pv 0)<|AY<|Nn Gx (pv 1)<|pv 0)) λX hX=>?_;obtain⟨L,w0,rest,A,cs⟩:=hv.ak;have mS:∀{l:List Ak},(l.map λ_=>true).all id=true:=λ{l}=>by simp
 rcases cs with _|⟨d,u,Q⟩|⟨xs,m,u,Q⟩|⟨ks,xs,ls,m,u,z,Q,hz⟩
 ·subst hX;exact Az A<|DD<|q H<|AF.refl H
 ·cases so;subst hX;exact Az A<|BG<|Az A<|DD ⟨_,rfl,L,_,1,u,rfl,rfl,A,CK,_,rfl,_,Q,hy,dt,sd,q H<|AF.refl H⟩
 ·cases so with
  |@row _ _ M lx c so=>
  simp only[Ak.Be,Ak.deep,Ak.dp,Ak.wt,Pt.doc,Pt.size]at Z PX sd za dt zt;obtain⟨a,vs,rfl,ha,ra⟩:=Q.EG;obtain⟨b,ws,rfl,hb,rb⟩:=hy.EG;have la:=ra.length;rw[Ak.Ae,ap]at la;rw[Ak.Ae]at ra;have lb:=rb.length;have lz:=Pt.CH M;subst hX;refine Az A<|BG<|Az A<|BG<|Az A<|DD ?_;refine Sh (t:=Rr _ _ _) (λY=>Y=H) (λY e=>?_) (λS=>?_);rotate_left
  ·refine⟨_,rfl,_,"list","list",rfl,rfl,.n<|.lst hb,_,rfl,Ar ⟨_,rfl,b,_,rfl,.inl<|.inl hb,_,rfl,L,_,1,_,rfl,rfl,A,CK,a,_,rfl,.inl<|.inl ha,_,_,rfl,rfl,_,rfl,BN (decide_eq_false<|by lia) ⟨_,rfl,L,_,2,_,rfl,rfl,A,at2,_,rfl,?_⟩⟩⟩;cases m with
   |true=>exact Ar (Ar (S H rfl))
   |false=>
    have c:M.length=xs.length:=c.resolve_right λz=>nomatch z;exact CP ⟨_,rfl,b,_,rfl,.inl<|.inl hb,_,rfl,L,_,1,_,rfl,rfl,A,CK,a,_,rfl,.inl<|.inl ha,_,_,rfl,rfl,_,rfl,BN (decide_eq_false<|by lia)<|S H rfl⟩
  subst e;refine⟨_,rfl,L,_,1,_,rfl,rfl,A,CK,a,_,rfl,.inl<|.inl ha,vs.length,rfl,by lia,by lia,?_⟩;refine DH (n:=vs.length) (λi=>.int<|0+(i:Int)) (λi v=>∃p,xs[i]?=ι p/\v=.bl true) (Au<|by lia) (λi N g B=>g) (λi N v H' g B y=>⟨y.2,y.1⟩) (λN B=>bn _) (λi N R g B r=>?_) λD N rs G B d2 lr or=>?_
  ·rw[N3];obtain⟨x,hx⟩:=B' vs i g;obtain⟨y,hy⟩:=B' ws i (by lia);obtain⟨px,g1,vx⟩:=ra.get hx;obtain⟨py,g2,vy⟩:=rb.get hy;rw[bv]at g1;obtain⟨ax,E,rfl⟩:=K4.mp g1;have m1:=ACx E;have m2:=ACx g2;have d1:=Ak.AU m1;have d6:=Ak.FX m1;have z1:=Ak.Bu m1;have z2:=Pt.BD m2;exact⟨_,rfl,L,_,1,_,rfl,rfl,A.up B,CK,_,rfl,a,_,_,x,rfl,rfl,.inl<|ha.up<|B _,Am hx,_,rfl,_,rfl,b,_,_,y,rfl,rfl,.inl<|hb.up<|B _,Am hy,x,y,ax,py,rfl,vx.up B,vy.up B,Ak.Ap Z _ m1,Pt.BC dt _ m2,so i ax py E g2,by lia,by lia,by lia,by lia,λH3 s3=>r _ H3 s3 ⟨ax,E,rfl⟩⟩
  ·rw[UY (ps:=xs) (f:=λ_=>true) (vs:=rs) (by lia) or]at d2;refine⟨D,_,rfl,Ag.of d2,?_⟩;rw[mS];exact q N B
 ·cases so with
  |@tab _ _ ns os _ _ M ak fo nl c en so=>
  simp only[Ak.Be,Ak.deep,Ak.dp,Ak.wt,Pt.doc,Pt.size]at Z PX sd za dt zt;obtain⟨o1,o2,o3,o4,o5,o6,o7⟩:=Z;obtain⟨a,kvs,rfl,ha,oN,ra⟩:=Q.FT;obtain⟨l,vl,rfl,hl,rl⟩:=hz.EG;have cb:=FY rl;subst cb;obtain⟨b,kC,rfl,hb,sf,rb⟩:=hy.FT;have kl:kvs.length=ks.length:=DZ oN;have sg:kC.length=ns.length:=DZ sf;rw[Ak.Ae]at ra;subst hX;refine Az A<|BG<|Az A<|BG<|Az A<|BG ⟨_,rfl,_,"dict","dict",rfl,rfl,.n<|.dK hb,_,rfl,Ar ⟨b,kC,hb,λo Hf F=>⟨_,rfl,b,o,_,rfl,F.at_,?_⟩⟩⟩;refine Ek (n:=ns.length) (λi=>.str<|ns.getD i "") (λi=>.str<|ns.getD i "") (λi=> !decide (ns.getD i ""∈ks)) (Au<|by lia) (λi D M g G=>⟨by rw[AH<|AW F.at_ G];exact F.at_,by rw[sg];exact g⟩) (λi D M v H' g G y=>?_) (λD M G=>⟨by rw[AH<|AW F.at_ G];exact F.at_,sg.symm⟩) (λi D M R g G r=>?_) (λi D M R g G _ r=>⟨_,rfl,r⟩) λD G=>?_
  ·obtain⟨e,k,w',e1,e2⟩:=y;rw[(GN sf e1).2]at e2;exact⟨e2,e⟩
  ·have qb:Rd (upd Hf D<|.lst M) a (.dK kvs):=(F.rd _ _ ha).up λo e=>by rw[AH<|AW e G];exact e
   have htf:=(A.DK<|Dl.BK F).up<|AF.new (o:=.lst M) G;refine⟨_,rfl,_,rfl,L,_,1,_,rfl,rfl,htf,CK,a,_,rfl,.inl ⟨kvs,d0<|ns.getD i "",qb,rfl,rfl⟩,_,rfl,?_⟩;rw[QU oN];exact r
  ·have hD0:=F.free G;refine⟨by rw[AH<|AW F.at_ G];exact F.at_,?_⟩;rw[JW ns λn=> !decide (n∈ks),fo];have s1:AF H (back b H<|upd Hf D<|.lst<|os.map V.str):=F.back<|AF.new G;have fD:back b H (upd Hf D<|.lst<|os.map V.str) D=ι (.lst<|os.map V.str):=by rw[CA hD0.2,AA]
   generalize back b H (upd Hf D<|.lst<|os.map V.str)=H1 at s1 fD⊢;have mD:=A.up s1;dsimp only;refine Sh (t:=Rr _ _ _) (λY=>AF H1 Y) (λY s5=>?_) (λS=>?_);rotate_left
   ·refine⟨_,rfl,b,kC,rfl,hb.up<|s1 _,_,rfl,D,_,rfl,.inl<|Ag.of fD,_,_,rfl,rfl,_,rfl,L,_,1,_,rfl,rfl,mD,CK,a,kvs,rfl,ha.up<|s1 _,_,_,rfl,rfl,_,rfl,?_⟩;rw[sg,kl,ap];refine BN (decide_eq_false<|by lia) ⟨_,rfl,L,_,3,_,rfl,rfl,mD,Am (j:=3) rfl,_,rfl,?_⟩;cases m with
    |true=>exact Ar (Ar (S H1 (AF.refl _)))
    |false=>
     have c:os=[]:=c.resolve_right λz=>nomatch z;subst c;exact CP ⟨_,rfl,d9 _,λpe U=>⟨D,pe,_,rfl,rfl,Ag.of<|(AF.new U) _ _ fD,Ag.of AA,_,rfl,Ar<|S _<|AF.new U⟩⟩
   have s05:=s1.trans s5;have sq:=s5 _ _ fD;have sY:=hl.up<|s05 _;have li:∀i,i<os.length->(os.map V.str)[i]?=ι (.str<|os.getD i ""):=λi g=>by
    rw[bv,ACu g,ci,ACu g];rfl
   have mQ:∀{I:Addr}{zs:List V},Y I=ν->upd Y I (.lst zs) D=ι (.lst<|os.map V.str):=λh=>by rw[AH<|AW sq h];exact sq
   refine⟨_,rfl,D,rfl,⟨_,Ag.of sq⟩,?_⟩;refine Ek (n:=os.length) (λi=>.str<|os.getD i "") (λi=>.str<|os.getD i "") (λi=>decide<|os.getD i ""∈ls) (Au<|by lia) (λi I zs g s=>⟨_,_,Ag.of<|mQ s,li i g⟩) (λi I zs v H' g s y=>?_) (λI zs s=>⟨_,Ag.of<|mQ s,by rw[ap];exact bn _⟩) (λi I zs R g s r=>?_) (λi I zs R g s _ r=>⟨_,rfl,r⟩) λI s=>?_
   ·obtain⟨e,y⟩:=y;have:=y _<|Ag.of<|mQ s;rw[li i g]at this;exact⟨(ACw this).symm,e⟩
   ·have hl6:Rd (upd Y I<|.lst zs) l (.lst<|ls.map V.str):=sY.up λo e=>by rw[AH<|AW e s];exact e
    refine⟨_,rfl,_,rfl,L,_,2,_,rfl,rfl,(A.up s05).up<|AF.new (o:=.lst zs) s,at2,l,_,rfl,.inl<|.inl hl6,rfl,?_,_,rfl,?_⟩
    ·rw[N2];exact r4.mpr λ_ _=>rfl
    ·rw[DJ];exact r
   ·rw[JW os λn=>decide<|n∈ls,R3.mpr λn hn=>by simpa using nl n hn,B2];have s6:=s05.trans<|AF.new (o:=.lst []) s;have f6:upd Y I (.lst []) I=ι (.lst []):=AA;generalize upd Y I (.lst [])=H6 at s6 f6⊢;refine⟨d9 _,λpe U=>⟨I,pe,_,rfl,rfl,Ag.of<|(AF.new U) _ _ f6,Ag.of AA,_,rfl,Ar ?_⟩⟩;have s7:=s6.trans<|AF.new (o:=.lst []) U;generalize upd H6 pe (.lst [])=H7 at s7⊢;refine⟨a,kvs,ha.up<|s7 _,λo2' Hf2 F2=>⟨_,rfl,L,_,1,.ref a,rfl,rfl,(A.up s7).DK<|Dl.BK F2,CK,a,o2',_,rfl,F2.at_,?_⟩⟩;refine DH (n:=ks.length) (λi=>.str<|ks.getD i "") (λi v=>∃p,xs[i]?=ι p/\v=.bl true) (Au<|by lia) (λi N g B=>⟨B _ _ F2.at_,by lia⟩) (λi N v H' g B y=>?_) (λN B=>⟨B _ _ F2.at_,by lia⟩) (λi N R g B r=>?_) (λD3 N rs hD3 B d2 lr or=>?_)
    ·obtain⟨e,k,w',e1,e2⟩:=y;rw[(GN oN e1).2]at e2;exact⟨e2,e⟩
    ·have kp:Dl H N:=((Dl.of s7).trans<|Dl.BK F2).trans<|.of B;obtain⟨x,px,g1,g2,g3⟩:=OZ oN ra o2 g;rw[bv]at g2;obtain⟨ax,E,rfl⟩:=K4.mp g2;have hk:ks[i]?=ι (ks.getD i ""):=by rw[ci,ACu g];rfl
     generalize ks.getD i ""=J at*;obtain⟨j,hj⟩:=G2<|ak J<|ACx hk;obtain⟨ty,sr⟩:=B' M j (by have:=(DR hj);lia);have e3:lk ns M J=ι ty:=eN dt.1 dt.2.1 hj sr;rcases Val.Ia sf rb J with⟨y,ty',k1,k2,vy⟩|⟨_,k2⟩
     ·cases ACw (k2.symm.trans e3);have m1:=ACx E;have m2:=ACx sr;have d1:=Ak.AU m1;have d6:=Ak.FX m1;have z1:=Ak.Bu m1;have z2:=Pt.BD m2;exact⟨_,rfl,L,_,1,_,rfl,rfl,A.DK kp,CK,_,rfl,a,x,rfl,.inl ⟨kvs,d0 J,kp.rd _ _ ha,rfl,g1.symm⟩,_,rfl,_,rfl,b,y,rfl,.inl ⟨kC,d0 J,kp.rd _ _ hb,rfl,k1.symm⟩,x,y,ax,ty,rfl,g3.DK kp,vy.DK kp,Ak.Ap o7 _ m1,Pt.BC dt.2.2.2.2 _ m2,so j J ax ty hj sr<|eN o1 o2 hk E,by lia,by lia,by lia,by lia,λH3 s3=>r _ H3 s3 ⟨ax,E,rfl⟩⟩
     ·exact absurd (k2.symm.trans e3) λz=>nomatch z
    ·refine⟨B _ _ F2.at_,?_⟩;rw[UY (ps:=xs) (f:=λ_=>true) (vs:=rs) (by lia) or]at d2;have d3:back a H7 N D3=ι (.lst<|(xs.map λ_=>true).map V.bl):=by rw[CA (F2.free hD3).2];exact d2
     refine⟨D3,_,rfl,Ag.of d3,?_⟩;rw[mS];exact q _<|s7.trans<|F2.back B
theorem Rm{f:Addr}{c:j4}(F:Fq K "_law_lets" 44 f c)(T:Txt mg)(b:Binds K c lqa [])(m:mg "_law_lets"=ι (.ref f)):∀n:Nat,Ab P w K mg base Bs n f c lqa (Km n)
 |0=>Eo (λvs H Q E h=>by obtain⟨_,_,a,_,_,_,_,_,_,_,_,_,_,d,_⟩:=h;have:=Ak.CC a;lia)
 |n+1=>cn F T (Df.mk' F b m (Rm F T b m n))
theorem Zz(F:Fq K "_law_justs" 45 f fd)(T:Txt mg)(p:Df P w K mg base "_law_justs" lqc n (Iq n)):Ab P w K mg base Bs (n+1) f fd lqc (Iq (n+1)):=by
 refine F.oq lqp λH _ _ A_ Gx hr h=>?_;obtain⟨G,v,a,rfl,sG,hv,r,Z,PX,q⟩:=h;refine gen (AB (AV (AO BR (Bx K 0) AZ<|Aa _) (AD<|AM<|Af<|AY<|Bx K 0) AL)<|AB (Ad 1 A_<|Af A')<|AB (AV (AO BR (Bx K 0) AZ<|Aa _) (AD<|HQ (BL<|Bx K 0) (Bp 2 A_)<|AD<|Ai<|NH K (pv 1)<|Bc p hr<|AY<|pv 2) AL)<|AB (AV (AO BR (Bx K 0) AZ<|Aa _) (AD<|EU<|HQ (Ci<|Bx K 0) (Bp 3 A_)<|AD<|Ai<|NH K (pv 1)<|Bc p hr<|AY<|Nn Gx (Bx K 0)<|pv 3) AL)<|AD<|AM<|pv 1) λX M=>?_;obtain⟨S,w0,rest,c,cs⟩:=hv.ak;have A:=c.DK sG;have t:∀{k:Hp},AF H k->Dl G k:=λs=>sG.trans<|.of s;rcases cs with _|⟨d,u,Zw⟩|⟨xs,m,u,hx⟩|⟨ks,xs,ls,m,u,z,hx,hz⟩
 ·subst M;refine Az A ?_;refine BG ⟨by decide,.mk λD H1 B l U=>?_⟩;dsimp only[Aj];exact Az (BP.DK c<|t l)<|BG<|Az (BP.DK c<|t l)<|BG ⟨_,rfl,q D [] H1 l B U .nil<|d9 _⟩
 ·subst M;refine Az A ?_;refine DD ⟨_,rfl,S,_,1,_,rfl,rfl,A,CK,Aw,λD B=>?_⟩;exact q D [u] _ (AF.new B) B AA (.cons Zw .nil)<|by have:=Pt.size_pos d;simp only[Ak.wt,i5];lia
 ·simp only[Ak.Be,Ak.deep,Ak.wt,Ak.Bb]at r PX Z q;obtain⟨a1,Rh,rfl,I,Y⟩:=hx.EG;have lv:=Y.length;rw[Ak.Ae,ap]at lv;rw[Ak.Ae]at Y;subst M;refine Az A ?_;refine BG ⟨by decide,.mk λD H1 B l U=>?_⟩;dsimp only[Aj];refine Az (BP.DK c (t l)) (DD ?_);refine⟨_,rfl,S,_,1,_,rfl,rfl,BP.DK c (t l),CK,a1,rfl,⟨_,.inl ((t l).rd _ _ I)⟩,Br (K:=K) (xs:=Rh) (λi J k=>∃(o:List V)(o2:Option V),J=[ι (.ref S),ι (.ref D),o2,ν]/\AF H k/\k D=ι (.lst o)/\AS G o (Ak.B_ (xs.take i))/\o.length<=Ak.DU (xs.take i))
   ⟨[],ν,rfl,l,U,.nil,d9 _⟩ (λi J k _ ⟨_,_,_,s,_⟩=>.inl ((t s).rd _ _ I)) ?_ ?_⟩
  ·refine λi y J k _ go hy h0=>DB λX M=>?_;obtain⟨o,o2,rfl,x,j,L,lw⟩:=h0;obtain⟨ty,C,h2⟩:=Y.get hy;rw[bv]at C;cases E:xs[i]? with
   |none=>rw[E]at C;cases C
   |some b=>
    rw[E]at C;cases C;have O:=ACx E;obtain⟨z1,z2⟩:=Ak.Ez E;have zd:=Ak.AU O;have zb:=Ak.Bu O;subst M;refine⟨_,rfl,.inl ⟨rfl,_,Ag.of j⟩,_,rfl,G,y,b,rfl,t x,h2,Ak.Ap r b O,by lia,by lia,λD7 Q H7 s7 n7 f7 v7 l7=>?_⟩;have R:=s7 _ _ j;exact⟨D,D7,_,_,rfl,rfl,R,f7,AX<|by lia,go.n ⟨o++Q,_,rfl,(x.trans s7).put B,AA,by rw[Ak.Jr E];exact L.append v7,by rw[b8];lia⟩⟩
  ·rintro J k ⟨o,o2,rfl,x,j,L,lw⟩;rw[lv,im]at lw L;exact Az (BP.DK c<|t x)<|BG ⟨_,rfl,q D o k x B j L<|by lia⟩
 ·simp only[Ak.Be,Ak.deep,Ak.wt,Ak.Bb]at r PX Z q;obtain⟨a1,g,rfl,I,Np,Y⟩:=hx.FT;have kl:g.length=ks.length:=DZ Np;rw[Ak.Ae]at Y;have lx:ks.length=xs.length:=r.1;subst M;refine Az A ?_;refine BG ⟨by decide,.mk λD H1 B l U=>?_⟩;dsimp only[Aj];refine Az (BP.DK c<|t l)<|BG<|Az (BP.DK c<|t l)<|DD ?_;have N:=(t l).rd _ _ I;refine⟨a1,g,N,λoF Hf F=>⟨_,rfl,S,_,1,_,rfl,rfl,BP.DK c<|(t l).trans<|.BK F,CK,a1,oF,g,rfl,F.at_,?_⟩⟩;have Da:D≠a1:=GX N U;have Z_:Hf D=ι (.lst []):=by rw[F.ne D Da];exact U
  refine EE (λi J k=>∃(o:List V)(o3:Option V),J=[ι<|.ref S,ι<|.ref D,ν,o3]/\(∀b e,b≠D->Hf b=ι e->k b=ι e)/\k D=ι (.lst o)/\AS G o (Ak.B_<|xs.take i)/\o.length<=Ak.DU (xs.take i))
   ⟨[],ν,rfl,λb e _ h=>h,Z_,.nil,d9 _⟩ (λi J k _ ⟨_,_,_,s,_⟩=>s _ _ (k8 Da) F.at_) ?_ ?_
  ·refine λi key y J k _ go hy h0=>DB λX M=>?_;obtain⟨o,o3,rfl,x,j,L,lw⟩:=h0;have kf:Dl G Hf:=(t l).trans<|.BK F;have kI:Dl G k:=Je B sG kf x;obtain⟨ty,C,h2⟩:=Y.get (show(g.map (·.2))[i]?=ι y by rw[bv,hy];rfl);rw[bv]at C;cases E:xs[i]? with
   |none=>rw[E]at C;cases C
   |some b=>
    rw[E]at C;cases C;have O:=ACx E;obtain⟨z1,z2⟩:=Ak.Ez E;have zd:=Ak.AU O;have zb:=Ak.Bu O;have Wy:(g.map (·.1)).Nodup:=Jf Np r.2.1;have rd:Rd k a1 (.dK g):=.inr ⟨oF,x _ _ (k8 Da) F.at_⟩;subst M;refine⟨_,rfl,.inl ⟨rfl,_,Ag.of j⟩,_,rfl,S,_,1,_,rfl,rfl,BP.DK c kI,CK,_,rfl,a1,y,rfl,.inl ⟨_,key,rd,rfl,(DN Wy hy).symm⟩,G,y,b,rfl,kI,h2,Ak.Ap r.2.2.2.2.2.2 b O,by lia,by lia,λD7 Q H7 s7 n7 f7 v7 l7=>?_⟩;have R:=s7 _ _ j;exact⟨D,D7,_,_,rfl,rfl,R,f7,AX<|by lia,go.n ⟨o++Q,_,rfl,DP x s7,AA,by rw[Ak.Jr E];exact L.append v7,by rw[b8];lia⟩⟩
  ·rintro J k ⟨o,o3,rfl,x,j,L,lw⟩;rw[kl,lx,im]at lw L;refine⟨x _ _ (k8 Da) F.at_,_,rfl,q D o _ (FE F B l x) B (by rw[CA Da];exact j) L<|by lia⟩
theorem Nq{f:Addr}{c:j4}(F:Fq K "_law_justs" 45 f c)(T:Txt mg)(b:Binds K c lqc [])(m:mg "_law_justs"=ι (.ref f)):∀n:Nat,Ab P w K mg base Bs n f c lqc (Iq n)
 |0=>Eo (λvs H Q E h=>by obtain⟨_,_,a,_,_,_,_,_,d,_⟩:=h;have:=Ak.CC a;lia)
 |n+1=>Zz F T (Df.mk' F b m (Nq F T b m n))
theorem Tn(F:Fq K "_law_leaves" 46 f fd)(T:Txt mg)(g:Df P w K mg base "_law_leaves" lqb n (E_ n)):Ab P w K mg base Bs (n+1) f fd lqb (E_ (n+1)):=by
 refine F.oq ["_law_doc_here","_law_inner","_law_found","_law_one"] λH En _ A_ _ hr h=>?_;obtain⟨G,v,t,rfl,sG,hv,d,R,S,q⟩:=h;refine⟨_,(AB (AV (CV<|As<|Av LL rfl T.isinstance Cg<|AE (pv 0)<|AY<|Al<|AE (Cp (v:=.ty "list") rfl T.list BU rfl)<|AY<|Cp (v:=.ty "dict") rfl T.dict CZ rfl) (AD<|AM<|Af<|AY<|pv 0) AL)<|AB (Ad 1 A_<|pv 0)<|AB (AV (As<|Rq BY T (pv 0) T.dict CZ) (AD<|Ad 1 A_<|BJ (KJ rfl) rfl T.list BU<|AY<|cG P1 X9 PySem.F.type_dict_values TN<|pv 0) AL)<|AB (Ad 2 A_<|Af A')<|AB (HQ (BL<|pv 1) (Bp 3 A_)<|AD<|Ai<|NH K (pv 2)<|Bc g hr<|AY<|pv 3)<|AD<|AM<|pv 2),?_⟩;have kG:∀{u:Hp},AF H u->Dl G u:=λs=>sG.trans<|.of s;have loop:∀(a1:Addr)(A:List V)(j:List Pt)(m:Hp)(z0:Option V),AF H m->Rd m a1 (.lst A)->AS G A j->Pt.CF j->Pt.AI j<=899->Pt.AR j<=n->(∀p J L,AF H L->H p=ν->L p=ι (.lst J)->AS G J (Pt.Fn j)->J.length<=Pt.AI j->En.rt (.ref p) L)->Kq (aX (j_ JH)<|Aj 2) (Kq (fg (dO K<|IA 1) (Aj 3)<|dN<|kR K "list" OF (IA 2)<|D_ (Pk (E_ n) [] E0<|D_ (IA 3) JH) JH)<|jo<|IA 2) En [z0,ι<|.ref a1,ν,ν] m:=λa1 A j m z0 U Y r1 hd hz mT q2=>by
  have lv:=r1.length;refine⟨by decide,λD B=>?_⟩;have I:=U.free B;have O:=U.trans<|AF.new (o:=.lst []) B;have M:Rd (upd m D<|.lst []) a1 (.lst A):=Y.up λo e=>by rw[AH<|AW e B];exact e
  have f1:upd m D (.lst []) D=ι (.lst []):=AA;have Da:a1≠D:=λz=>by rcases Y with h|⟨o',h⟩<;>rw[z,B]at h<;>cases h
  generalize upd m D (.lst [])=H2 at O f1 M⊢;dsimp only[Aj];refine⟨_,rfl,a1,rfl,⟨_,.inl M⟩,Br (K:=K) (xs:=A) (λi σ u=>∃(N:List V)(o3:Option V),σ=[z0,ι (.ref a1),ι (.ref D),o3]/\AF H u/\Rd u a1 (.lst A)/\u D=ι (.lst N)/\AS G N (Pt.Fn (j.take i))/\N.length<=Pt.AI (j.take i))
   ⟨[],ν,rfl,O,M,f1,.nil,d9 _⟩ (λi σ u _ ⟨_,_,_,_,h,_⟩=>.inl h) ?_ ?_⟩
  ·refine λi y σ u _ go hy h0=>DB λX C=>?_;obtain⟨N,o3,rfl,si,Z,E,vw,lw⟩:=h0;obtain⟨b,hb,h2⟩:=r1.get hy;have bm:=ACx hb;obtain⟨z1,z2⟩:=Pt.Cy hb;have zd:=Pt.AU bm;have zb:=Pt.BD bm;subst C;refine⟨_,rfl,.inl ⟨rfl,_,Ag.of E⟩,_,rfl,G,y,b,rfl,kG si,h2,Pt.BC hd b bm,by lia,by lia,λD7 cp H7 s7 n7 f7 v7 l7=>?_⟩;have sy:=s7 _ _ E;exact⟨D,D7,_,_,rfl,rfl,sy,f7,AX<|by lia,go.n ⟨N++cp,_,rfl,(si.trans s7).put I,(Z.up<|s7 _).up λo e=>by rw[AH Da];exact e,AA,by rw[Pt.NT hb];exact vw.append v7,by rw[b8];lia⟩⟩
  ·rintro σ u ⟨N,o3,rfl,si,Z,E,vw,lw⟩;rw[lv,im]at lw vw;exact⟨_,rfl,q2 D N u si I E vw lw⟩
 have hvH:=hv.DK sG;cases hv with
 |int i=>
  refine⟨_,rfl,An,λx C=>?_⟩;have k:=AF.new (o:=.tup [V.ty "list",V.ty "dict"]) C;refine⟨_,x,"int",rfl,AA,.int i,_,rfl,CP ⟨_,rfl,Aw,λD I=>?_⟩⟩;exact q D [.int i] _ (k.trans<|AF.new I) (k.free I) AA (.cons (.int i) .nil) (bn _)
 |str i=>
  refine⟨_,rfl,An,λx C=>?_⟩;have k:=AF.new (o:=.tup [V.ty "list",V.ty "dict"]) C;refine⟨_,x,"str",rfl,AA,.str i,_,rfl,CP ⟨_,rfl,Aw,λD I=>?_⟩⟩;exact q D [.str i] _ (k.trans<|AF.new I) (k.free I) AA (.cons (.str i) .nil) (bn _)
 |bl i=>simp[Pt.doc]at d
 |BB=>simp[Pt.doc]at d
 |tup _ _=>simp[Pt.doc]at d
 |@lst a A j h r=>
  simp only[Pt.doc,Pt.deep,Pt.size,Pt.Ll]at d S R q;have hH:=sG.rd _ _ h;refine⟨_,rfl,An,λx C=>?_⟩;have k:=AF.new (o:=.tup [V.ty "list",V.ty "dict"]) C;have c:Rd (upd H x<|.tup [V.ty "list",V.ty "dict"]) a (.lst A):=hH.up<|k _;refine⟨_,x,"list",rfl,AA,.lst c,_,rfl,Ar ⟨_,rfl,?_⟩⟩;dsimp only[Aj];refine⟨_,rfl,_,"dict","list",rfl,rfl,.lst c,_,rfl,Ar ?_⟩;exact loop a A j _ _ k c r d (by lia) (by lia) λp J L O h1 h2 Q h4=>q p J L O h1 h2 Q (by lia)
 |@BV a kvs ks j h hk r=>
  simp only[Pt.doc,Pt.deep,Pt.size,Pt.Ll]at d S R q;have hH:=sG.rd _ _ h;refine⟨_,rfl,An,λx C=>?_⟩;have k:=AF.new (o:=.tup [V.ty "list",V.ty "dict"]) C;have c:Rd (upd H x<|.tup [V.ty "list",V.ty "dict"]) a (.dK kvs):=hH.up<|k _;refine⟨_,x,"dict",rfl,AA,.dK c,_,rfl,Ar ⟨_,rfl,?_⟩⟩;dsimp only[Aj];refine⟨_,rfl,_,"dict","dict",rfl,rfl,.dK c,_,rfl,CP ?_⟩;generalize upd H x (.tup [V.ty "list",V.ty "dict"])=m at k c⊢;refine⟨_,rfl,⟨a,kvs,rfl,c⟩,a,kvs,rfl,rfl,c,λpv hpv=>?_⟩;have s3:=AF.new (o:=Im pv a) hpv;have f3:upd m pv (Im pv a) pv=ι (Im pv a):=AA;have Q:Rd (upd m pv<|Im pv a) a (.dK kvs):=c.up<|s3 _;generalize upd m pv (Im pv a)=H3 at s3 f3 Q⊢;refine⟨pv,a,kvs,rfl,f3,Q,λl hl=>?_⟩;dsimp only[Aj];refine loop l (kvs.map (·.2)) j _ _ ((k.trans s3).trans<|AF.new hl) (.inl AA) r d.2.2.2.2 (by lia) (by lia) λp J L O h1 h2 Q h4=>q p J L O h1 h2 Q<|by lia
theorem Jt{f:Addr}{c:j4}(F:Fq K "_law_leaves" 46 f c)(T:Txt mg)(b:Binds K c lqb [])(m:mg "_law_leaves"=ι (.ref f)):∀n:Nat,Ab P w K mg base Bs n f c lqb (E_ n)
 |0=>Eo (λvs H Q E h=>by obtain⟨_,_,a,_,_,_,_,_,d,_⟩:=h;have:=Pt.CC a;lia)
 |n+1=>Tn F T (Df.mk' F b m (Jt F T b m n))
theorem cq{A:j4}(F:Fq K "_law_size" 47 f A)(T:Txt mg)(c:Df P w K mg base "_law_size" lqb n (Gr n)):Ab P w K mg base Bs (n+1) f A lqb (Gr (n+1)):=by
 refine F.oq lqb λH _ _ _ p B h=>?_;obtain⟨v,t,rfl,G,b,e,g,q⟩:=h;refine⟨_,(AB (AV (As<|RY K T (pv 0) T.list BU) (AD<|AM<|AN Bi AG<|Av (Ip rfl) rfl T.sum UK<|AY<|cmp [] [] (BL<|pv 0) λ_ _ _ _=>(Bc c B<|AY<|pv 0)) AL)<|AB (AV (As<|RY K T (pv 0) T.dict CZ) (AD<|AM<|AN Bi AG<|Av (Ip rfl) rfl T.sum UK<|AY<|IV<|cmp lqb [0] (Ci<|pv 0) λ_ _ _ _=>(Bc c B<|AY<|Nn p (pv 1)<|pv 0)) AL)<|AD<|AM AG),?_⟩;cases G with
 |int i=>exact⟨_,rfl,_,"list","int",rfl,rfl,.n (.int i),_,rfl,Ar ⟨_,rfl,_,"dict","int",rfl,rfl,.n (.int i),_,rfl,Ar (q H (AF.refl H))⟩⟩
 |str i=>exact⟨_,rfl,_,"list","str",rfl,rfl,.n (.str i),_,rfl,Ar ⟨_,rfl,_,"dict","str",rfl,rfl,.n (.str i),_,rfl,Ar (q H (AF.refl H))⟩⟩
 |bl i=>simp[Pt.doc]at b
 |BB=>simp[Pt.doc]at b
 |tup _ _=>simp[Pt.doc]at b
 |@lst a O d h r=>
  simp only[Pt.doc,Pt.deep,Pt.size]at b g e q;have Q:=r.length;have lt:=Pt.CH d;refine⟨_,rfl,_,"list","list",rfl,rfl,.n<|.lst h,_,rfl,CP ⟨_,rfl,a,rfl,⟨_,.inl h⟩,?_⟩⟩;refine NU (λt=>.int (t.size:Int)) h r (Au<|by lia) (λi x t l R C s u j k=>?_) λD l I j y=>?_
  ·have m:=ACx s;have J:=Pt.AU m;have z1:=Pt.BD m;exact⟨_,rfl,x,t,rfl,u.up j,Pt.BC b t m,by lia,by lia,k⟩
  ·refine⟨D,d.map λx=>(x.size:Int),rfl,Ag.of<|by rw[y,o0];rfl,_,_,rfl,rfl,?_⟩;rw[Lp,show(1:Int)+(Pt.AI d:Int)=((1+Pt.AI d:Nat):Int)by lia];exact q l j
 |@BV a kvs S d h L r=>
  simp only[Pt.doc,Pt.deep,Pt.size]at b g e q;have lt:=Pt.CH d;refine⟨_,rfl,_,"list","dict",rfl,rfl,.n<|.dK h,_,rfl,Ar ⟨_,rfl,_,"dict","dict",rfl,rfl,.n<|.dK h,_,rfl,CP ⟨a,kvs,h,λo U F=>⟨_,rfl,a,o,kvs,rfl,F.at_,?_⟩⟩⟩⟩;refine Lo (λt=>.int (t.size:Int)) F L r b.2.1 (Au<|by lia) (λi k x t l R M s C u E N=>?_) λD l I j z y=>?_
  ·have m:=ACx s;have J:=Pt.AU m;have z1:=Pt.BD m;exact⟨_,rfl,_,rfl,a,x,rfl,.inl ⟨kvs,d0 k,E.rd _ _ h,rfl,C.symm⟩,x,t,rfl,u.DK E,Pt.BC b.2.2.2.2 t m,by lia,by lia,N⟩
  ·refine⟨z,D,d.map λx=>(x.size:Int),rfl,Ag.of<|by rw[y,o0];rfl,_,_,rfl,rfl,?_⟩;rw[Lp,show(1:Int)+(Pt.AI d:Int)=((1+Pt.AI d:Nat):Int)by lia];exact q _ j
theorem MJ{f:Addr}{c:j4}(F:Fq K "_law_size" 47 f c)(T:Txt mg)(b:Binds K c lqb [])(m:mg "_law_size"=ι (.ref f)):∀n:Nat,Ab P w K mg base Bs n f c lqb (Gr n)
 |0=>Eo (λvs H Q E h=>by obtain⟨_,a,_,_,_,_,d,_⟩:=h;have:=Pt.CC a;lia)
 |n+1=>cq F T (Df.mk' F b m (MJ F T b m n))
theorem Z'{U:j4}(F:Fq K "_law_least" 48 f U)(T:Txt mg)(y:Df P w K mg base "_law_size" lqb 25 (Gr 25))(e:Df P w K mg base "_law_least" lqc n (Ir n)):Ab P w K mg base Bs (n+1) f U lqc (Ir (n+1)):=by
 refine F.oq lqc λH _ _ _ I J h=>?_;obtain⟨v,a,rfl,X,c,s,t,B,q⟩:=h;refine⟨_,(AB (AV (AO BR (Bx K 0) AZ<|Aa _) (AD<|AM<|Bc y J<|AY<|Bx K 0) AL)<|AB (AV (AO BR (Bx K 0) AZ<|Aa _) (AD<|AM<|AN Bi AG<|Av (Ip rfl) rfl T.sum UK<|AY<|cmp [] [] (BL<|Bx K 0) λ_ _ _ _=>(Bc e J<|AY<|pv 0)) AL)<|AB (AV (AO BR (Bx K 0) AZ<|Aa _) (AD<|AM<|AN Bi AG<|Av (Ip rfl) rfl T.sum UK<|AY<|IV<|cmp lqc [0] (Ci<|Bx K 0) λ_ _ _ _=>(Bc e J<|AY<|Nn I (Bx K 1)<|pv 0)) AL)<|AD<|AM AG),?_⟩;obtain⟨E,w0,rest,r,Y⟩:=X.ak;refine Az r ?_;rcases Y with _|⟨d,u,g⟩|⟨j,m,u,g⟩|⟨ks,j,ls,m,u,z,g,hz⟩
 ·refine BG<|Az r<|BG ?_;exact Az r<|BG<|q H<|AF.refl H
 ·simp only[Ak.Be,Ak.dp,Ak.wt]at c t s q;exact DD ⟨_,rfl,E,_,1,_,rfl,rfl,r,CK,u,d,rfl,g,c,s,t,q⟩
 ·simp only[Ak.Be,Ak.dp,Ak.deep,Ak.wt]at c t B s q;obtain⟨a1,Z,rfl,l,A⟩:=g.EG;have lv:=A.length;have lx:=Ak.CH j;have lw:=Ak.CI j;rw[Ak.Ae,ap]at lv;refine BG<|Az r<|DD ?_;refine⟨_,rfl,E,_,1,_,rfl,rfl,r,CK,a1,rfl,⟨_,.inl l⟩,?_⟩;rw[Ak.Ae]at A;refine TV (λb=>.int (b.wt:Int)) l A (Au<|by lia) (λi x b G R V L M C k=>?_) (λD G hD C N=>?_)
  ·have m:=ACx L;have d1:=Ak.AU m;have d6:=Ak.FX m;have z1:=Ak.Bu m;exact⟨_,rfl,x,b,rfl,M.up C,Ak.Ap c b m,by lia,by lia,by lia,k⟩
  ·refine⟨D,j.map λx=>(x.wt:Int),rfl,Ag.of<|by rw[N,o0];rfl,_,_,rfl,rfl,?_⟩;rw[TU,show(1:Int)+(Ak.DU j:Int)=((1+Ak.DU j:Nat):Int)by lia];exact q G C
 ·simp only[Ak.Be,Ak.dp,Ak.deep,Ak.wt]at c t B s q;obtain⟨a1,p,rfl,l,O,A⟩:=g.FT;have lx:=Ak.CH j;have lw:=Ak.CI j;refine BG<|Az r<|BG ?_;refine Az r<|DD ⟨a1,p,l,λo Hf F=>⟨_,rfl,E,_,1,_,rfl,rfl,r.DK<|Dl.BK F,CK,a1,o,p,rfl,F.at_,?_⟩⟩;rw[Ak.Ae]at A;refine Qu (λb=>.int (b.wt:Int)) F O A c.2.1 (Au<|by lia) (λi k x b G R hkk L V M Q k2=>?_) (λD G hD C S N=>?_)
  ·have m:=ACx L;have d1:=Ak.AU m;have d6:=Ak.FX m;have z1:=Ak.Bu m;exact⟨_,rfl,E,_,1,_,rfl,rfl,r.DK Q,CK,_,rfl,a1,x,rfl,.inl ⟨p,d0 k,Q.rd _ _ l,rfl,V.symm⟩,x,b,rfl,M.DK Q,Ak.Ap c.2.2.2.2.2.2 b m,by lia,by lia,by lia,k2⟩
  ·refine⟨S,D,j.map λx=>(x.wt:Int),rfl,Ag.of<|by rw[N,o0];rfl,_,_,rfl,rfl,?_⟩;rw[TU,show(1:Int)+(Ak.DU j:Int)=((1+Ak.DU j:Nat):Int)by lia];exact q _ C
theorem Nr{f:Addr}{d:j4}(F:Fq K "_law_least" 48 f d)(T:Txt mg)(b:Binds K d lqc [])(m:mg "_law_least"=ι (.ref f))(c:Df P w K mg base "_law_size" lqb 25 (Gr 25)):∀n:Nat,Ab P w K mg base Bs n f d lqc (Ir n)
 |0=>Eo (λvs H Q E h=>by obtain⟨_,a,_,_,_,_,_,e,_⟩:=h;have:=Ak.CC a;lia)
 |n+1=>Z' F T c (Df.mk' F b m (Nr F T b m c n))
theorem cu(F:Fq K "_law_free" 49 f fd)(T:Txt mg)(Y:Df P w K mg base "_law_free" lqa n (PB n)):Ab P w K mg base Bs (n+1) f fd lqa (PB (n+1)):=by
 refine F.oq ["_law_asks_here","_law_doc_here","_law_found","_law_k","_law_name"] λH _ _ A_ Gx hr h=>?_;obtain⟨G,v,y,a,b,rfl,sG,hv,hy,Ax,cZ,J,iy,ja,PX,q⟩:=h;refine gen (AB (AV (AO BR (Bx K 0) AZ<|Aa _) (AD<|AM<|Af<|AY<|pv 1) AL)<|AB (Ad 2 A_<|Af A')<|AB (AV (AO BR (Bx K 0) AZ<|Aa _) (AD<|HQ (BI rfl T.range<|AY<|Ds K T<|pv 1) (Bp 3 A_)<|AD<|Ai<|NH K (pv 2)<|Bc Y hr<|AE (Fp K (AN Kc (Bx K 0)<|AN XZ (Af<|AY<|Al<|AY AZ)<|Ds K T<|pv 1)<|pv 3)<|AY<|Fp K (pv 1)<|pv 3) AL)<|AB (AV (AO BR (Bx K 0) AZ<|Aa _) (AD<|EU<|HQ (Ci<|pv 1) (Bp 4 A_)<|AD<|Ai<|NH K (pv 2)<|Bc Y hr<|AE (Xg Gx (Bx K 0) (pv 4) (Al<|AY AZ) ⟨rfl,rfl,rfl,rfl⟩)<|AY<|Nn Gx (pv 1)<|pv 4) AL)<|AD<|AM<|pv 2) λX hX=>?_;obtain⟨t0,w0,rest,t,cs⟩:=hv.ak;have eO:=t.DK sG;have E:∀{r:Hp},AF H r->Dl G r:=λs=>sG.trans<|.of s;rcases cs with _|⟨d,u,Zw⟩|⟨xs,m,u,hx⟩|⟨ks,xs,ls,m,u,z,hx,hz⟩
 ·subst hX;refine Az eO ?_;refine DD ⟨_,rfl,Aw,λD U=>?_⟩;exact q D [y] _ (AF.new U) U AA (by rw[Ak.VA];exact .cons hy .nil) (Pt.size_pos b) λ_=>rfl
 ·subst hX;refine Az eO ?_;refine BG ⟨by decide,.mk λD H1 U L f1=>?_⟩;dsimp only[Aj];exact Az (BP.DK t<|E L)<|BG<|Az (BP.DK t<|E L)<|BG ⟨_,rfl,q D [] H1 L U f1 (by rw[Ak.RG];exact .nil) (d9 _) λz=>nomatch z⟩
 ·obtain⟨M,rfl,ln,le⟩:∃M,b=.lst M/\xs.length<=M.length/\∀(j:Nat) x y,xs[j]?=ι x->M[j]?=ι y->Ak.So x y:=by cases iy with|row l c h=>exact⟨_,rfl,l,h⟩
  simp only[Ak.Be,Ak.deep,Ak.an,Ak.wt,Ak.KL,Pt.doc,Pt.size]at Ax PX cZ q J ja;obtain⟨a1,Z,rfl,N,r1⟩:=hx.EG;obtain⟨a2,A,rfl,O,r2⟩:=hy.EG;have lv:=r1.length;rw[Ak.Ae,ap]at lv;have jY:=r2.length;have ly:=Pt.CH M;have lx:=Ak.CH xs;have lw:=Ak.CI xs;rw[Ak.Ae]at r1;subst hX;refine Az eO ?_;refine BG ⟨by decide,.mk λD H1 U L f1=>?_⟩;dsimp only[Aj];refine Az (BP.DK t (E L)) (DD ?_);refine⟨_,rfl,a2,_,rfl,.inl (.inl ((E L).rd _ _ O)),A.length,rfl,by lia,by lia,Ce (lo:=0) (n:=A.length) (λi σ r=>∃(C:List V)(o3:Option V),σ=[ι (.ref t0),ι (.ref a2),ι (.ref D),o3,ν]/\AF H r/\r D=ι (.lst C)/\AS G C (Ak.EK xs (M.take i))/\C.length<=Pt.AI (M.take i))
   ⟨[],ν,rfl,L,f1,by simp only[A3];cases xs<;>(simp only[Ak.EK];exact .nil),d9 _⟩ ?_ ?_⟩
  ·refine λi σ r _ go hi h0=>DB λX hX=>?_;obtain⟨C,o3,rfl,Q,p,vw,eU⟩:=h0;rw[N3];obtain⟨y,jb⟩:=B' A i hi;obtain⟨ty,g2,vy⟩:=r2.get jb;have dy:=Pt.BC J ty<|ACx g2;have zy:=Pt.BD<|ACx g2;obtain⟨z1,z2⟩:=Pt.Cy g2;have step:=Ak.Jc (xs:=xs) g2;subst hX;refine⟨_,rfl,.inl ⟨rfl,_,Ag.of p⟩,_,rfl,t0,_,1,_,rfl,rfl,BP.DK t<|E Q,CK,Aw,λk hT=>⟨Aw,λpL hL=>?_⟩⟩;have s2:=(AF.new (o:=.tup [V.str "any"]) hT).trans<|AF.new (o:=.lst [V.ref k]) hL;have fT:upd (upd r k<|.tup [V.str "any"]) pL (.lst [V.ref k]) k=ι (.tup [V.str "any"]):=AF.new hL _ _ AA;have f2:upd (upd r k<|.tup [V.str "any"]) pL (.lst [V.ref k]) pL=ι (.lst [V.ref k]):=AA;generalize upd (upd r k<|.tup [V.str "any"]) pL (.lst [V.ref k])=H2 at s2 f2 fT⊢;have xD:=Q.trans s2;refine⟨_,rfl,a2,_,rfl,.inl<|.inl<|(E xD).rd _ _ O,pL,(A.length:Int),_,rfl,rfl,f2,by lia,by lia,AX<|by simp only[i5];lia,λpR hR=>?_⟩;have s3:=AF.new (o:=.lst (i9 (A.length:Int).toNat [V.ref k]).flatten) hR;have f3:upd H2 pR (.lst (i9 (A.length:Int).toNat [V.ref k]).flatten) pR=ι (.lst (i9 (A.length:Int).toNat [V.ref k]).flatten):=AA;have lr:(i9 (A.length:Int).toNat [V.ref k]).flatten.length<=900:=by rw[len_rep];simp;lia
   have rat:Z.length<=i->((i9 (A.length:Int).toNat [V.ref k]).flatten)[i-Z.length]?=ι (.ref k):=λh=>iV h (by lia);generalize(i9 (A.length:Int).toNat [V.ref k]).flatten=rs at s3 f3 lr rat⊢;generalize upd H2 pR (.lst rs)=H3 at s3 f3⊢;have xE:=xD.trans s3;refine⟨a1,pR,Z,rs,rfl,rfl,(E xE).rd _ _ N,.inl f3,AX<|by lia,.mk λpC H4 hC s4 f4=>?_⟩;have R:=xE.trans s4;have g:=s4 _ _<|s3 _ _<|s2 _ _ p;have fT4:=s4 _ _<|s3 _ _ fT;by_cases c:i<Z.length
   ·obtain⟨x,Zx⟩:=B' Z i c;obtain⟨tx,g1,vx⟩:=r1.get Zx;obtain⟨b,hb⟩:=B' xs i (by lia);rw[bv,hb]at g1;cases g1;rw[hb]at step;have bm:=ACx hb;have zd:=Ak.AU bm;have zb:=Ak.Bu bm;have an:=Ak.Zj b;refine⟨_,rfl,pC,_,_,x,rfl,rfl,Ag.of f4,Am<|by rw[g9 c];exact Zx,_,rfl,_,rfl,a2,_,_,y,rfl,rfl,.inl<|(E R).rd _ _ O,Am jb,G,x,y,b,ty,rfl,E R,vx,vy,Ak.Ap Ax b bm,by lia,dy,le i b ty hb g2,by lia,by lia,λD7 cp H7 s7 n7 f7 v7 l7 _=>?_⟩;have I:=s7 _ _ g;exact⟨D,D7,_,_,rfl,rfl,I,f7,AX<|by lia,go.n ⟨C++cp,_,rfl,(R.trans s7).put U,AA,by rw[step];exact vw.append v7,by rw[b8];lia⟩⟩
   ·rw[Fk<|by lia]at step;have z0:=Pt.size_pos ty;refine⟨_,rfl,pC,_,_,.ref k,rfl,rfl,Ag.of f4,Am<|by rw[jc<|by lia];exact rat<|by lia,_,rfl,_,rfl,a2,_,_,y,rfl,rfl,.inl<|(E R).rd _ _ O,Am jb,H4,.ref k,y,.any,ty,rfl,.of<|AF.refl _,.tup (BP.of fT4)<|.cons (.str _) .nil,vy.DK<|E R,trivial,(by show 1<=900;decide),dy,.any _,by lia,(by simp only[Ak.deep,Ak.an];lia),λD7 cp H7 s7 n7 f7 v7 l7 e7=>?_⟩;have e7:=e7 rfl;subst e7;have I:=s7 _ _ g;exact⟨D,D7,_,_,rfl,rfl,I,f7,AX<|by simp;lia,go.n ⟨C++[y],_,rfl,(R.trans s7).put U,AA,by rw[step];exact vw.append<|.cons vy .nil,by rw[b8,i5];lia⟩⟩
  ·rintro σ r ⟨C,o3,rfl,Q,p,vw,eU⟩;rw[jY,im]at vw eU;exact Az (BP.DK t<|E Q)<|BG ⟨_,rfl,q D C r Q U p vw (by lia) λz=>nomatch z⟩
 ·simp only[Ak.Be]at Ax;obtain⟨ss,M,rfl,le⟩:∃ss M,b=.BV ss M/\∀(j:Nat) n x y,ss[j]?=ι n->M[j]?=ι y->lk ks xs n=ι x->Ak.So x y:=by cases iy with|tab a b l c e h=>exact⟨_,_,rfl,h⟩
  simp only[Ak.deep,Ak.an,Ak.wt,Ak.KL,Pt.doc]at PX cZ q J;have ll:=J.1;have Fo:=J.2.1;simp only[Pt.size]at ja q;obtain⟨a1,Th,rfl,N,Np,r1⟩:=hx.FT;obtain⟨a2,B,rfl,O,Ya,r2⟩:=hy.FT;have kl:B.length=ss.length:=DZ Ya;subst hX;refine Az eO ?_;refine BG ⟨by decide,.mk λD H1 U L f1=>?_⟩;dsimp only[Aj];refine Az (BP.DK t<|E L)<|BG<|Az (BP.DK t<|E L)<|DD ?_;have PK:=(E L).rd _ _ O;refine⟨a2,B,PK,λoF Hf F=>⟨_,rfl,a2,oF,B,rfl,F.at_,?_⟩⟩;have Da:D≠a2:=GX PK f1;have Z_:Hf D=ι (.lst []):=by rw[F.ne D Da];exact f1
  refine EE (λi σ r=>∃(C:List V)(o4:Option V),σ=[ι<|.ref t0,ι<|.ref a2,ι<|.ref D,ν,o4]/\(∀b e,b≠D->Hf b=ι e->r b=ι e)/\r D=ι (.lst C)/\AS G C (Ak.Ff ks xs (ss.take i)<|M.take i)/\C.length<=Pt.AI (M.take i))
   ⟨[],ν,rfl,λb e _ h=>h,Z_,by simp only[A3,Ak.Ff];exact .nil,d9 _⟩ (λi σ r _ ⟨_,_,_,s,_⟩=>s _ _ (k8 Da) F.at_) ?_ ?_
  ·refine λi key y σ r _ go hy h0=>DB λX hX=>?_;obtain⟨C,o4,rfl,Q,p,vw,lw⟩:=h0;have kf:Dl G Hf:=(E L).trans<|.BK F;have kI:Dl G r:=Je U sG kf Q;obtain⟨ty,h1,h2⟩:=r2.get (show(B.map (·.2))[i]?=ι y by rw[bv,hy];rfl);obtain⟨hi,ek⟩:=GN Ya hy;subst ek;have aR:ss[i]?=ι (ss.getD i ""):=by rw[ci,ACu hi];rfl
   generalize ss.getD i ""=S at aR hy⊢;have dy:=Pt.BC J.2.2.2.2 ty<|ACx h1;have zy:=Pt.BD<|ACx h1;obtain⟨z1,z2⟩:=Pt.Cy h1;have step:=Ak.NY (ks:=ks) (xs:=xs) aR h1;have Wy:(B.map (·.1)).Nodup:=Jf Ya Fo;have rd:Rd r a2 (.dK B):=.inr ⟨oF,Q _ _ (k8 Da) F.at_⟩;have mU:Pt.look ks (Ak.HN xs) S=(lk ks xs S).map Ak.pt:=by rw[Ak.Ae];exact JT Ak.pt
   rcases Val.Ia Np r1 S with⟨x,tx,k1,k2,vx⟩|⟨k1,k2⟩
   ·rw[mU]at k2;obtain⟨b,e3,e4⟩:=K4.mp k2;subst e4;rw[e3]at step;have bm:=(JS e3).2;have zd:=Ak.AU bm;have zb:=Ak.Bu bm;have an:=Ak.Zj b;subst hX;refine⟨_,rfl,.inl ⟨rfl,_,Ag.of p⟩,_,rfl,t0,_,1,_,rfl,rfl,BP.DK t kI,CK,a1,rfl,.inl ⟨_,kI.rd _ _ N⟩,_,rfl,Aw,λk hT=>⟨ι x,.inl ⟨Th,d0 S,(kI.rd _ _ N).up<|(AF.new hT) _,rfl,k1.symm⟩,?_⟩⟩;have sT:=AF.new (o:=.tup [V.str "any"]) hT;have g:=sT _ _ p;generalize upd r k (.tup [V.str "any"])=H4 at sT g⊢;have s_:=kI.trans<|.of sT;refine⟨_,rfl,_,rfl,a2,y,rfl,.inl ⟨_,_,rd.up<|sT _,rfl,(DN Wy hy).symm⟩,G,x,y,b,ty,rfl,s_,vx,h2,Ak.Ap Ax.2.2.2.2.2.2 b bm,by lia,dy,le i S b ty aR h1 e3,by lia,by lia,λD7 cp H7 s7 n7 f7 v7 l7 _=>?_⟩;have I:=s7 _ _ g;exact⟨D,D7,_,_,rfl,rfl,I,f7,AX<|by lia,go.n ⟨C++cp,_,rfl,DP Q<|sT.trans s7,AA,by rw[step];exact vw.append v7,by rw[b8];lia⟩⟩
   ·rw[mU]at k2;have e3:=Option.map_eq_none_iff.mp k2;rw[e3]at step;have z0:=Pt.size_pos ty;subst hX;refine⟨_,rfl,.inl ⟨rfl,_,Ag.of p⟩,_,rfl,t0,_,1,_,rfl,rfl,BP.DK t kI,CK,a1,rfl,.inl ⟨_,kI.rd _ _ N⟩,_,rfl,Aw,λk hT=>⟨ν,.inl ⟨Th,d0 S,(kI.rd _ _ N).up<|(AF.new hT) _,rfl,k1.symm⟩,?_⟩⟩;have sT:=AF.new (o:=.tup [V.str "any"]) hT;have fT:upd r k (.tup [V.str "any"]) k=ι (.tup [V.str "any"]):=AA;have g:=sT _ _ p;generalize upd r k (.tup [V.str "any"])=H4 at sT g fT⊢;have s_:=kI.trans<|.of sT;refine⟨_,rfl,_,rfl,a2,y,rfl,.inl ⟨_,_,rd.up<|sT _,rfl,(DN Wy hy).symm⟩,H4,.ref k,y,.any,ty,rfl,.of<|AF.refl _,.tup (BP.of fT)<|.cons (.str _) .nil,h2.DK s_,trivial,(by show 1<=900;decide),dy,.any _,by lia,(by simp only[Ak.deep,Ak.an];lia),λD7 cp H7 s7 n7 f7 v7 l7 e7=>?_⟩;have e7:=e7 rfl;subst e7;have I:=s7 _ _ g;exact⟨D,D7,_,_,rfl,rfl,I,f7,AX<|by simp;lia,go.n ⟨C++[y],_,rfl,DP Q<|sT.trans s7,AA,by rw[step];exact vw.append<|.cons h2 .nil,by rw[b8,i5];lia⟩⟩
  ·rintro σ r ⟨C,o4,rfl,Q,p,vw,lw⟩;rw[kl,im,ll,im]at vw;rw[kl,ll,im]at lw;refine⟨Q _ _ (k8 Da) F.at_,_,rfl,q D C _ (FE F U L Q) U (by rw[CA Da];exact p) vw (by lia) λz=>nomatch z⟩
theorem Rn{f:Addr}{c:j4}(F:Fq K "_law_free" 49 f c)(T:Txt mg)(b:Binds K c lqa [])(m:mg "_law_free"=ι (.ref f)):∀n:Nat,Ab P w K mg base Bs n f c lqa (PB n)
 |0=>Eo (λvs H Q E h=>by obtain⟨_,_,_,a,_,_,_,_,_,_,_,_,_,_,d,_⟩:=h;have:=Ak.CC a;lia)
 |n+1=>cu F T (Df.mk' F b m (Rn F T b m n))
theorem aA(F:Fq K "_law_fresh" 50 f fd)(T:Txt mg)(s:Df P w K mg base "_law_justs" lqc 25 (Iq 25))(c:Df P w K mg base "_law_leaves" lqb 25 (E_ 25))(G:Df P w K mg base "_law_free" lqa 25 (PB 25)):Ab P w K mg base Bs 26 f fd lqo RQ:=by
 refine F.oq ["_law_asks_here","_law_doc_here","_law_avoid","_law_free_here","_law_known_here","_law_one","_law_k"] λH _ _ A_ _ hr h=>?_;obtain⟨v,y,a,b,f0,l,ws,I,rfl,hv,hy,J,hz,hbd,iy,ja,hfp,PX,hl,O,hd,oH,xF,jV,no0,q⟩:=h;refine⟨_,(AB (Ad 3 A_<|Bc G hr<|AE (pv 0)<|AY<|pv 1)<|AB (Ad 4 A_<|Af A')<|AB (HQ (BL<|AN Kc (Bc s hr<|AY<|pv 0)<|pv 2) (Bp 5 A_)<|AD<|Ai<|NH K (pv 4)<|Bc c hr<|AY<|pv 5)<|AB (HQ (BI rfl T.range<|AY<|Ds K T<|pv 3) (Bp 6 A_)<|AB (AV (PW.pt<|pw_or (As<|Av (NS:Bo _ _ (ZM K)) rfl T.isinstance Cg<|AE (Fp K (pv 3)<|pv 6)<|AY<|Al<|AE (Cp (v:=.ty "list") rfl T.list BU rfl)<|AE (Cp (v:=.ty "dict") rfl T.dict CZ rfl)<|AY<|Cp (v:=.ty "bool") rfl T.bool Xy rfl)<|pw_or1<|CV<|As<|Av (NS:Bo _ _ (ZM K)) rfl T.isinstance Cg<|AE (Fp K (pv 3)<|pv 6)<|AY<|Al<|AE (Cp (v:=.ty "int") rfl T.int dW rfl)<|AY<|Cp (v:=.ty "str") rfl T.str NA rfl) (AD<|AM Dp) AL)<|AD<|AV (PW.pt<|pw_or (AO (DV:Dr _ _ (Wv K false)) (Fp K (pv 3)<|pv 6) (pv 4) rfl)<|pw_or1<|AO (DV:Dr _ _ (Wv K false)) (Fp K (pv 3)<|pv 6) (D' (r:=gH K) UB (pv 3) GY<|EN<|pv 6) rfl) (AD<|AM Dp) AL)<|AD<|AM Dp),?_⟩;have hG:=Ak.QY a J;have mG:=Ak.QZ a J;have mT:=Ak.Ub a J;obtain⟨dj,zj,pj⟩:=Ak.Uu a hG;have zk:=O.length;have zm:=Pt.CH I;have kr:=Dl.of<|AF.refl H;refine⟨_,rfl,_,rfl,H,v,y,a,b,rfl,kr,hv,hy,hG,by lia,hbd,iy,by lia,(by have:=Ak.Zj a;lia),λB es H1 s1 n3 f3 v3 l3 _=>?_⟩;dsimp only[Aj];obtain⟨g,eg,ng,hg⟩:=WO hfp;have ng:=ng jV;rw[eg]at v3;have ees:=ZP v3;subst ees;have lg:g.length<=801:=by rw[ap]at l3;lia
 refine⟨by decide,.mk λD H2 hD s2 f2=>?_⟩;dsimp only[Aj];have Q:=s1.trans s2;refine⟨_,rfl,H,v,a,rfl,.of Q,hv,hG,by lia,by lia,λpJ eJ H3 U nJ fJ vJ lJ=>?_⟩;have s03:=Q.trans U;refine⟨_,rfl,pJ,l,eJ,ws,rfl,rfl,.inl fJ,.inl<|s03 _ _ hl,AX<|by lia,.mk λpC H4 hC s4 f4=>?_⟩;have s14:=s2.trans<|U.trans s4;have fD4:=s4 _ _<|U _ _ f2;have DC:pC≠D:=λz=>by have:=U _ _ f2;rw[<-z,hC]at this;cases this
 have Y:AS H (eJ++ws) (a.Bb++I):=vJ.append O;have da:Pt.CF (a.Bb++I):=Pt.GS dj hd;have za:Pt.AI (a.Bb++I)<=860:=by rw[Pt.DX];lia
 have pa:Pt.AR (a.Bb++I)<=25:=by rw[Pt.Gp];lia
 have na:∀x∈g,Pt.int x∉Pt.Fn (a.Bb++I):=λx L hm=>by
  obtain⟨d,hd,h⟩:=Pt.GQ.mp hm;exact no0 x (hg x L) d (db.mp hd) h
 generalize a.Bb++I=al at Y da za pa na;generalize eJ++ws=ew at Y f4;have lva:=Y.length;refine⟨pC,rfl,⟨_,Ag.of f4⟩,Br (K:=K) (xs:=ew) (λi C k=>∃(M:List V)(Z:Option V),C=[ι v,ι y,ι (.ref l),ι (.ref B),ι (.ref D),Z,ν]/\AF H1 k/\k pC=ι (.lst ew)/\k D=ι (.lst M)/\AS H M (Pt.Fn (al.take i))/\M.length<=Pt.AI (al.take i))
  ⟨[],ν,rfl,s14,f4,fD4,.nil,d9 _⟩ (λi C k _ ⟨_,_,_,_,h,_⟩=>Ag.of h) ?_ ?_⟩
 ·refine λi x C k _ go L h0=>DB λX R=>?_;obtain⟨M,Z,rfl,E,hCi,u,vw,lw⟩:=h0;obtain⟨t,ht,vx⟩:=Y.get L;have m:=ACx ht;obtain⟨z1,z2⟩:=Pt.Cy ht;have zd:=Pt.AU m;have zb:=Pt.BD m;subst R;refine⟨_,rfl,.inl ⟨rfl,_,Ag.of u⟩,_,rfl,H,x,t,rfl,.of<|s1.trans E,vx,Pt.BC da t m,by lia,by lia,λD7 cp H7 s7 n7 f7 v7 l7=>?_⟩;have sy:=s7 _ _ u;exact⟨D,D7,_,_,rfl,rfl,sy,f7,AX<|by lia,go.n ⟨M++cp,_,rfl,(E.trans s7).put hD,by rw[AH DC];exact s7 _ _ hCi,AA,by rw[Pt.NT ht];exact vw.append v7,by rw[b8];lia⟩⟩
 rintro C H5 ⟨M,Z,rfl,s5,hC5,hD5,vw,lw⟩;rw[lva,im]at vw lw;obtain⟨fk,nk⟩:=Uv vw<|Pt.Gq al da;have S:=s5 _ _ f3;refine⟨_,rfl,B,_,rfl,.inl<|Ag.of S,(g.map V.int).length,rfl,by rw[ap];lia,by rw[ap];lia,Ce (lo:=0) (n:=(g.map V.int).length) (λi C k=>∃(o6:Option V),C=[ι v,ι y,ι<|.ref l,ι<|.ref B,ι<|.ref D,Z,o6]/\AF H5 k) ⟨ν,rfl,AF.refl _⟩ ?_ ?_⟩
 ·refine λi C k _ go hi h0=>DB λX R=>?_;obtain⟨o6,rfl,E⟩:=h0;rw[ap]at hi;rw[N3];obtain⟨x,L⟩:=B' g i hi;have A:(g.map V.int)[i]?=ι (.int x):=by rw[bv,L];rfl
  have xm:=ACx L;have p:=E _ _ S;have u:=E _ _ hD5;subst R;dsimp only[Aj];refine⟨_,rfl,_,rfl,B,_,_,_,rfl,rfl,Ag.of p,Am A,AX<|by decide,λpX R=>?_⟩;have sX:=AF.new (o:=.tup [V.ty "list",V.ty "dict",V.ty "bool"]) R;refine⟨_,pX,"int",["list","dict","bool"],false,rfl,AA,.int x,by kernel_rfl,_,rfl,Ar ?_⟩;generalize upd k pX (.tup [V.ty "list",V.ty "dict",V.ty "bool"])=H6 at sX⊢;refine⟨_,rfl,_,rfl,B,_,_,_,rfl,rfl,Ag.of<|sX _ _ p,Am A,AX<|by decide,λpY hY=>?_⟩;have N:=sX.trans<|AF.new (o:=.tup [V.ty "int",V.ty "str"]) hY;refine⟨_,pY,"int",["int","str"],true,rfl,AA,.int x,by kernel_rfl,_,rfl,Ar ?_⟩;generalize upd H6 pY (.tup [V.ty "int",V.ty "str"])=H7 at N⊢;refine⟨_,rfl,_,rfl,B,_,_,_,rfl,rfl,Ag.of<|N _ _ p,Am A,_,rfl,D,M,rfl,.inl<|Ag.of<|N _ _ u,rfl,fk,_,rfl,?_⟩;refine BN (nk x<|na x xm) ?_;refine⟨_,rfl,_,rfl,B,_,_,_,rfl,rfl,Ag.of<|N _ _ p,Am A,_,rfl,_,rfl,_,rfl,B,_,rfl,Ag.of<|N _ _ p,λpZ hZ=>?_⟩;have sZ:=N.trans<|AF.new (o:=.lst<|HY (g.map V.int) ν<|some (i:Int)) hZ;refine⟨pZ,_,rfl,.inl<|Ag.of AA,rfl,by rw[UG,<-abr];exact WQ _,_,rfl,?_⟩;refine BN ?_<|go.n ⟨_,rfl,E.trans sZ⟩;show OD _ _=false;rw[UG,<-abr];refine ints_in λhm=>?_;obtain⟨j,hj,e⟩:=T9 hm;rw[List.getElem_take]at e;have hj2:j<i:=by rw[re]at hj;lia
  have e2:=(ACv L).2;have:=(acB ng).mp<|e.trans e2.symm;lia
 ·rintro C k ⟨o6,rfl,E⟩;exact q k<|(s1.trans s5).trans E
theorem Wq{k:j4}(F:Fq K "_law_is_text" 51 f k)(T:Txt mg):Ab P w K mg base Bs 1 f k lqi Lq:=by
 refine F.oq lqi λH _ _ _ _ m h=>?_;obtain⟨x,lo,a,rfl,o,p,j,s,q⟩:=h;refine⟨_,(AB (AV (PW.pt<|pw_or (CV<|As<|Rq BY T (pv 0) T.str NA)<|pw_or1<|CV<|XM Pf Pf (pv 1) (Av DE rfl T.len EQ<|AY<|pv 0)<|pv 2) (AD<|AM Dp) AL)<|AD<|AM<|FJ (Se<|BX.JG m) (Ge (fv:=[]) (fs:=[]) rfl (.of<|by rfl) (gX<|pv 0) (λC t u z=>Gd<|AO Nw (pv 0) AZ rfl) λC t u z=>(pv 0)) (Af A')<|Aa _),?_⟩;have l:x.length<=sizeLine:=t8 (Ac<|by lia);refine⟨_,rfl,_,"str","str",rfl,rfl,.str x,_,rfl,Ar ⟨_,rfl,_,rfl,x,rfl,l,_,_,rfl,rfl,_,rfl,?_⟩⟩;have A:decide ((lo:Int)<=(x.length:Int))=true:=by simp;lia
 have B:decide ((x.length:Int)<=(a:Int))=true:=by simp;lia
 refine Ck A ⟨_,rfl,_,_,rfl,rfl,_,rfl,?_⟩;rw[B];refine Ar ⟨.str x,rfl,x,rfl,?_⟩;have lt:∀i,i<x.cps.size->UI (x.cps.getD i 0)=true:=λi a=>by
  refine r4.mp j _ ?_;rw[U6,ut a];exact aa6.mpr<|Rs a
 refine Ek (n:=x.cps.size) (λi=>.str ⟨#[x.cps.getD i 0]⟩) (λi=>.str ⟨#[x.cps.getD i 0]⟩) (λi=> !UI (x.cps.getD i 0)) ?_ (λi D g a b=>a) (λi D g v J a b y=>?_) (λD g b=>rfl) (λi D g R a b r=>?_) (λi D g R a b _ r=>⟨_,rfl,r⟩) λD b=>?_
 ·exact l
 ·obtain⟨e,c,E,G⟩:=y;subst e G;have:x.cps.getD i 0=c:=by rw[U6,E];rfl
  exact⟨by rw[this],rfl⟩
 ·refine⟨_,rfl,_,_,rfl,rfl,_,rfl,?_⟩;rw[StrLaws.found_one];exact r
 ·have e:(oo x.cps.size).filter (λi=> !UI (x.cps.getD i 0))=[]:=R3.mpr λi a=>by
   rw[lt i<|E3.mp a];simp
  rw[e];refine⟨d9 _,λI d=>⟨D,I,_,rfl,rfl,Ag.of<|(AF.new d) _ _ AA,Ag.of AA,?_⟩⟩;exact q _<|(AF.new b).trans<|AF.new d
theorem Wr(F:Fq K "_law_is_doc" 52 f J)(T:Txt mg)(c:Df P w K mg base "_law_is_text" lqi 1 Lq)(d:Df P w K mg base "_law_is_doc" lqb n (Iu n)):Ab P w K mg base Bs (n+1) f J lqb (Iu (n+1)):=by
 refine F.oq lqb λH _ _ _ A u h=>?_;obtain⟨v,t,rfl,Q,b,e,j,l,q⟩:=h;refine⟨_,(AB (AV (As<|RY K T (pv 0) T.list BU) (AD<|AM<|Av (II rfl) rfl T.all UJ<|AY<|cmp [] [] (BL<|pv 0) λ_ _ _ _=>(Bc d u<|AY<|pv 0)) AL)<|AB (AV (As<|RY K T (pv 0) T.dict CZ) (AD<|AM<|Av (II rfl) rfl T.all UJ<|AY<|IV<|cmp lqb [0] (Ci<|pv 0) λ_ _ _ _=>(Fu (Bc c u<|AE (pv 0)<|AE AG<|AY AG)<|Ft<|Bc d u<|AY<|Nn A (pv 1)<|pv 0)) AL)<|AB (AV (As<|RY K T (pv 0) T.str NA) (AD<|AM<|Bc c u<|AE (pv 0)<|AE AG<|AY AG) AL)<|AD<|AM<|Fu (RY K T (pv 0) T.int dW)<|Ft<|fZ<|RY K T (pv 0) T.bool Xy),?_⟩;cases Q with
 |int i=>
  exact⟨_,rfl,_,"list","int",rfl,rfl,.n<|.int i,_,rfl,Ar ⟨_,rfl,_,"dict","int",rfl,rfl,.n<|.int i,_,rfl,Ar ⟨_,rfl,_,"str","int",rfl,rfl,.n<|.int i,_,rfl,Ar ⟨_,rfl,_,"int","int",rfl,rfl,.n<|.int i,_,rfl,CP ⟨_,rfl,_,"bool","int",rfl,rfl,.n<|.int i,_,rfl,q H<|AF.refl H⟩⟩⟩⟩⟩
 |str x=>
  refine⟨_,rfl,_,"list","str",rfl,rfl,.n<|.str x,_,rfl,Ar ⟨_,rfl,_,"dict","str",rfl,rfl,.n<|.str x,_,rfl,Ar ⟨_,rfl,_,"str","str",rfl,rfl,.n<|.str x,_,rfl,CP ?_⟩⟩⟩;have y:MY x=true:=e;have S:=Xz y;refine⟨_,rfl,x,0,12,rfl,d9 _,S,?_,by decide,q⟩;unfold MY at y;rw[kt]at y;exact y.2
 |bl i=>simp[Pt.doc]at b
 |BB=>simp[Pt.doc]at b
 |tup _ _=>simp[Pt.doc]at b
 |@lst a vs g h r=>
  simp only[Pt.doc,Pt.txt,Pt.deep,Pt.size]at b e l j;have lv:=r.length;have lt:=Pt.CH g;refine⟨_,rfl,_,"list","list",rfl,rfl,.n<|.lst h,_,rfl,CP ⟨_,rfl,a,rfl,⟨_,.inl h⟩,?_⟩⟩;refine NU (λ_=>.bl true) h r (Au<|by lia) (λi x t z R L B C p k=>?_) λD z U p E=>?_
  ·have m:=ACx B;have V:=Pt.AU m;have z1:=Pt.BD m;exact⟨_,rfl,x,t,rfl,C.up p,Pt.BC b t m,Pt.Et e t m,by lia,by lia,k⟩
  ·refine⟨D,g.map λ_=>true,rfl,Ag.of<|by rw[E,o0];rfl,?_⟩;rw[show(g.map λ_=>true).all id=true by simp];exact q z p
 |@BV a kvs ks g h X r=>
  simp only[Pt.doc,Pt.txt,Pt.deep,Pt.size]at b e l j;have lt:=Pt.CH g;refine⟨_,rfl,_,"list","dict",rfl,rfl,.n<|.dK h,_,rfl,Ar ⟨_,rfl,_,"dict","dict",rfl,rfl,.n<|.dK h,_,rfl,CP ⟨a,kvs,h,λo Hf F=>⟨_,rfl,a,o,kvs,rfl,F.at_,?_⟩⟩⟩⟩;refine Lo (λ_=>.bl true) F X r b.2.1 (Au<|by lia) (λi k x t z R G B L C Y Z=>?_) λD z U p I E=>?_
  ·have m:=ACx B;have V:=Pt.AU m;have z1:=Pt.BD m;have nb:=b.2.2.1 k<|ACx G;obtain⟨M,N,n3⟩:=Mz nb;rw[EB]at M N;refine⟨_,rfl,k,1,8,rfl,M,N,n3,by decide,λH3 O=>?_⟩;have s:=Y.trans<|.of O;exact⟨_,rfl,CP ⟨_,rfl,_,rfl,a,x,rfl,.inl ⟨kvs,d0 k,s.rd _ _ h,rfl,L.symm⟩,x,t,rfl,C.DK s,Pt.BC b.2.2.2.2 t m,Pt.Et e t m,by lia,by lia,λH4 s4=>Z H4<|O.trans s4⟩⟩
  ·refine⟨I,D,g.map λ_=>true,rfl,Ag.of<|by rw[E,o0];rfl,?_⟩;rw[show(g.map λ_=>true).all id=true by simp];exact q _ p
theorem MK{f:Addr}{d:j4}(F:Fq K "_law_is_doc" 52 f d)(T:Txt mg)(b:Binds K d lqb [])(m:mg "_law_is_doc"=ι (.ref f))(c:Df P w K mg base "_law_is_text" lqi 1 Lq):∀n:Nat,Ab P w K mg base Bs n f d lqb (Iu n)
 |0=>Eo (λvs H Q E h=>by obtain⟨_,a,_,_,_,_,_,e,_⟩:=h;have:=Pt.CC a;lia)
 |n+1=>Wr F T c (Df.mk' F b m (MK F T b m c n))
theorem aB(F:Fq K "_law_known" 53 f fd)(T:Txt mg)(A:Df P w K mg base "_law_known" lqc n (Kj n)):Ab P w K mg base Bs (n+1) f fd lqc (Kj (n+1)):=by
 refine F.oq lqp λH _ _ A_ Gx hr h=>?_;obtain⟨v,a,rfl,hv,l,E,U,Y,q⟩:=h;refine⟨_,(AB (Ad 1 A_<|Af A')<|AB (AV (AO BR (Bx K 0) AZ<|Aa _) (AD<|HQ (BL<|Bx K 0) (Bp 2 A_)<|AD<|Ai<|NH K (pv 1)<|Bc A hr<|AY<|pv 2) AL)<|AB (AV (AO BR (Bx K 0) AZ<|Aa _) (AB (Ai<|NH K (pv 1)<|AN Kc (ED (BJ Cf rfl T.list BU<|AY<|Bx K 0)<|BJ (DM rfl) rfl T.list BU<|AY<|Bx K 0)<|Bx K 0)<|AD<|EU<|HQ (Ci<|Bx K 0) (Bp 3 A_)<|AD<|Ai<|NH K (pv 1)<|Bc A hr<|AY<|Nn Gx (Bx K 0)<|pv 3) AL)<|AB (AV (PW.pt<|pw_and (AO BR (Bx K 0) AZ<|Aa _)<|pw_and1<|As<|RY K T (Bx K 0) T.list BU) (AD<|HQ (BL<|Bx K 0) (Bp 2 A_)<|AD<|Ai<|NH K (pv 1)<|Bc A hr<|AY<|Al<|AE AZ<|AY<|pv 2) AL)<|AB (AV (PW.pt<|pw_and (AO BR (Bx K 0) AZ<|Aa _)<|pw_and1<|As<|RY K T (Bx K 0) T.dict CZ) (AB (Ai<|NH K (pv 1)<|ED (BJ Cf rfl T.list BU<|AY<|Bx K 0)<|BJ (DM rfl) rfl T.list BU<|AY<|Bx K 0)<|AD<|EU<|HQ (Ci<|Bx K 0) (Bp 3 A_)<|AD<|Ai<|NH K (pv 1)<|Bc A hr<|AY<|Al<|AE AZ<|AY<|Nn Gx (Bx K 0)<|pv 3) AL)<|AD<|AM<|pv 1),?_⟩;obtain⟨G,w0,rest,o,cs⟩:=hv.ak;have kG:∀{j:Hp},AF H j->Dl H j:=λs=>.of s;refine⟨by decide,.mk λD H1 M k f1=>?_⟩;dsimp only[Aj];have Q:∀(a b:List Str),a.map V.str++b.map V.str=(a++b).map V.str:=λa b=>by rw[io]
 refine gw λX S=>?_;rcases cs with _|⟨d,u,Zw⟩|⟨xs,m,u,hx⟩|⟨B,xs,ls,m,u,z,hx,hz⟩
 ·subst S;exact Az (o.up k)<|BG<|Az (o.up k)<|BG<|Az (o.up k)<|BG<|Ar<|Az (o.up k)<|BG<|Ar ⟨_,rfl,q D H1 k M f1<|d9 _⟩
 ·simp only[Ak.Be]at l;have E:d.txt:=E;simp only[Ak.dp,Ak.wt,Ak.HP]at Y U q;have jd:∀{j:Hp}{pT:Addr}{y:V}{b:Pt},j pT=ι (.tup [.str "just",y])->Val j y b->Val j (.ref pT) (Ak.Ao b).pt:=λh v=>.tup (BP.of h)<|.cons (.str _)<|.cons v .nil;subst S;refine Az (o.up k)<|BG<|Az (o.up k)<|BG<|Az (o.up k)<|DD ?_;cases Zw with
  |int i=>
   refine⟨_,rfl,G,_,1,_,rfl,rfl,o.up k,CK,_,"list","int",rfl,rfl,.n<|.int i,_,rfl,Ar ?_⟩;exact Az (o.up k) (DD ⟨_,rfl,G,_,1,_,rfl,rfl,o.up k,CK,_,"dict","int",rfl,rfl,.n<|.int i,_,rfl,Ar ⟨_,rfl,q D H1 k M f1<|d9 _⟩⟩)
  |str i=>
   refine⟨_,rfl,G,_,1,_,rfl,rfl,o.up k,CK,_,"list","str",rfl,rfl,.n<|.str i,_,rfl,Ar ?_⟩;exact Az (o.up k) (DD ⟨_,rfl,G,_,1,_,rfl,rfl,o.up k,CK,_,"dict","str",rfl,rfl,.n<|.str i,_,rfl,Ar ⟨_,rfl,q D H1 k M f1<|d9 _⟩⟩)
  |bl i=>simp[Pt.doc]at l
  |BB=>simp[Pt.doc]at l
  |tup _ _=>simp[Pt.doc]at l
  |@lst a1 Rh Z p r1=>
   simp only[Pt.doc,Pt.txt,Pt.deep,Pt.size,Pt.PV]at l E Y U q;have lv:=r1.length;have dl:=Pt.GV Z l;refine⟨_,rfl,G,_,1,_,rfl,rfl,o.up k,CK,_,"list","list",rfl,rfl,.n (.lst (p.up (k _))),_,rfl,CP ?_⟩;refine⟨_,rfl,G,_,1,_,rfl,rfl,o.up k,CK,a1,rfl,⟨_,.inl (p.up (k _))⟩,Br (K:=K) (xs:=Rh) (λi I j=>∃(o2:Option V),I=[ι (.ref G),ι (.ref D),o2,ν]/\AF H j/\j D=ι (.lst ((Pt.Ed (Z.take i)).map V.str))/\(Pt.Ed (Z.take i)).length<=5*Pt.AI (Z.take i))
    ⟨ν,rfl,k,f1,d9 _⟩ (λi I j _ ⟨_,_,s,_⟩=>.inl (p.up (s _))) ?_ ?_⟩
   ·refine λi y I j _ go hy h0=>DB λX S=>?_;obtain⟨o2,rfl,t,c,lw⟩:=h0;obtain⟨b,C,h2⟩:=r1.get hy;have J:=ACx C;obtain⟨z1,z2⟩:=Pt.Cy C;have zd:=Pt.AU J;have zb:=Pt.BD J;subst S;refine⟨_,rfl,.inl ⟨rfl,_,Ag.of c⟩,_,rfl,An,.mk λpT H5 hT sT fT=>?_⟩;have xG:=t.trans sT;refine⟨.ref pT,.Ao b,rfl,jd fT<|h2.up xG,Pt.BC l b J,Pt.Et E b J,by simp only[Ak.wt];lia,by simp only[Ak.dp];lia,λD7 H7 s7 n7 f7 l7=>?_⟩;simp only[Ak.HP,Ak.wt]at f7 l7;have N:=s7 _ _<|sT _ _ c;refine⟨D,D7,_,_,rfl,rfl,N,f7,AX<|by rw[ap,ap];lia,go.n ⟨_,rfl,(xG.trans s7).put M,?_,by rw[Pt.Gs C,b8];lia⟩⟩;rw[AA,Q,Pt.Gs C]
   ·rintro I j ⟨o2,rfl,t,c,lw⟩;rw[lv,im]at lw c;exact Az (o.up t) (DD ⟨_,rfl,G,_,1,_,rfl,rfl,o.up t,CK,_,"dict","list",rfl,rfl,.n<|.lst<|p.up<|t _,_,rfl,Ar ⟨_,rfl,q D j t M c<|by lia⟩⟩)
  |@BV a1 g B Z p O r1=>
   simp only[Pt.doc,Pt.txt,Pt.deep,Pt.size,Pt.PV]at l E Y U q;have dl:=Pt.GV Z l.2.2.2.2;have kl:g.length=B.length:=DZ O;have lx:B.length=Z.length:=l.1;refine⟨_,rfl,G,_,1,_,rfl,rfl,o.up k,CK,_,"list","dict",rfl,rfl,.n<|.dK<|p.up<|k _,_,rfl,Ar ?_⟩;refine Az (o.up k)<|DD ⟨_,rfl,G,_,1,_,rfl,rfl,o.up k,CK,_,"dict","dict",rfl,rfl,.n<|.dK<|p.up<|k _,_,rfl,CP ⟨_,rfl,.inl ⟨rfl,_,Ag.of f1⟩,.inr ⟨_,rfl,G,_,1,_,rfl,rfl,o.up k,CK,a1,g,B,rfl,p.up<|k _,O,.mk λpK H3 hK sK fK=>?_⟩⟩⟩;have s3:=k.trans sK;have D3:=sK _ _ f1;refine⟨D,pK,_,_,rfl,rfl,D3,fK,AX<|by simp;lia,?_⟩;have s4:AF H (upd H3 D<|.lst<|[]++B.map V.str):=s3.put M;have f4:upd H3 D (.lst<|[]++B.map V.str) D=ι (.lst<|B.map V.str):=by rw[AA];rfl
   generalize upd H3 D (.lst<|[]++B.map V.str)=H4 at s4 f4⊢;have L:=p.up<|s4 _;refine⟨a1,g,L,λoF Hf F=>⟨_,rfl,G,_,1,_,rfl,rfl,BP.DK o<|(kG s4).trans<|.BK F,CK,a1,oF,g,rfl,F.at_,?_⟩⟩;have Da:D≠a1:=GX L f4;have Z_:Hf D=ι (.lst<|B.map V.str):=by rw[F.ne D Da];exact f4
   refine EE (λi I j=>∃(o3:Option V),I=[ι<|.ref G,ι<|.ref D,ν,o3]/\(∀b e,b≠D->Hf b=ι e->j b=ι e)/\j D=ι (.lst<|(B++Pt.Ed (Z.take i)).map V.str)/\(Pt.Ed<|Z.take i).length<=5*Pt.AI (Z.take i))
    ⟨ν,rfl,λb e _ h=>h,by rw[A3];simpa[Pt.Ed]using Z_,d9 _⟩ (λi I j _ ⟨_,_,s,_⟩=>s _ _ (k8 Da) F.at_) ?_ ?_
   ·refine λi key y I j _ go hy h0=>DB λX S=>?_;obtain⟨o3,rfl,t,c,lw⟩:=h0;have kf:Dl H Hf:=(kG s4).trans<|.BK F;have kI:Dl H j:=Je M (.of<|AF.refl _) kf t;obtain⟨b,C,h2⟩:=r1.get (show(g.map (·.2))[i]?=ι y by rw[bv,hy];rfl);have J:=ACx C;obtain⟨z1,z2⟩:=Pt.Cy C;have zd:=Pt.AU J;have zb:=Pt.BD J;have Wy:(g.map (·.1)).Nodup:=Jf O l.2.1;have rd:Rd j a1 (.dK g):=.inr ⟨oF,t _ _ (k8 Da) F.at_⟩;subst S;refine⟨_,rfl,.inl ⟨rfl,_,Ag.of c⟩,_,rfl,G,_,1,_,rfl,rfl,BP.DK o kI,CK,_,rfl,a1,y,rfl,.inl ⟨_,key,rd,rfl,(DN Wy hy).symm⟩,An,.mk λpT H5 hT sT fT=>⟨.ref pT,.Ao b,rfl,jd fT<|(h2.DK kI).up sT,Pt.BC l.2.2.2.2 b J,Pt.Et E b J,by simp only[Ak.wt];lia,by simp only[Ak.dp];lia,λD7 H7 s7 n7 f7 l7=>?_⟩⟩;simp only[Ak.HP,Ak.wt]at f7 l7;have N:=s7 _ _<|sT _ _ c;refine⟨D,D7,_,_,rfl,rfl,N,f7,AX<|by simp only[ap,b8];lia,go.n ⟨_,rfl,DP t<|sT.trans s7,?_,by rw[Pt.Gs C,b8];lia⟩⟩;rw[AA,Q,Pt.Gs C,ii B]
   ·rintro I j ⟨o3,rfl,t,c,lw⟩;rw[kl,lx,im]at lw c;refine⟨t _ _ (k8 Da) F.at_,?_⟩;have sB:AF H (back a1 H4 j):=FE F M s4 t;have dB:back a1 H4 j D=ι (.lst<|(B++Pt.Ed Z).map V.str):=by rw[CA Da];exact c
    generalize back a1 H4 j=HB at sB dB⊢;exact⟨_,rfl,q D HB sB M dB<|by simp only[b8];lia⟩
 ·simp only[Ak.Be,Ak.ER,Ak.dp,Ak.wt,Ak.HP]at l E Y U q;obtain⟨a1,Rh,rfl,p,r1⟩:=hx.EG;have lv:=r1.length;rw[Ak.Ae,ap]at lv;rw[Ak.Ae]at r1;subst S;refine Az (o.up k) (DD ?_);refine⟨_,rfl,G,_,1,_,rfl,rfl,o.up k,CK,a1,rfl,⟨_,.inl (p.up (k _))⟩,Br (K:=K) (xs:=Rh) (λi I j=>∃(o2:Option V),I=[ι (.ref G),ι (.ref D),o2,ν]/\AF H j/\j D=ι (.lst ((Ak.EJ (xs.take i)).map V.str))/\(Ak.EJ (xs.take i)).length<=5*Ak.DU (xs.take i))
   ⟨ν,rfl,k,f1,d9 _⟩ (λi I j _ ⟨_,_,s,_⟩=>.inl (p.up (s _))) ?_ ?_⟩
  ·refine λi y I j _ go hy h0=>DB λX S=>?_;obtain⟨o2,rfl,t,c,lw⟩:=h0;obtain⟨ty,R,h2⟩:=r1.get hy;rw[bv]at R;cases C:xs[i]? with
   |none=>rw[C]at R;cases R
   |some b=>
    rw[C]at R;cases R;have J:=ACx C;obtain⟨z1,z2⟩:=Ak.Ez C;have zd:=Ak.FX J;have zb:=Ak.Bu J;subst S;refine⟨_,rfl,.inl ⟨rfl,_,Ag.of c⟩,_,rfl,y,b,rfl,h2.up t,Ak.Ap l b J,Ak.DL E b J,by lia,by lia,λD7 H7 s7 n7 f7 l7=>?_⟩;have N:=s7 _ _ c;refine⟨D,D7,_,_,rfl,rfl,N,f7,AX<|by rw[ap,ap];lia,go.n ⟨_,rfl,(t.trans s7).put M,?_,by rw[Ak.Gu C,b8];lia⟩⟩;rw[AA,Q,Ak.Gu C]
  ·rintro I j ⟨o2,rfl,t,c,lw⟩;rw[lv,im]at lw c;exact Az (o.up t)<|BG<|Az (o.up t)<|BG<|Ar<|Az (o.up t)<|BG<|Ar ⟨_,rfl,q D j t M c<|by lia⟩
 ·simp only[Ak.Be,Ak.ER,Ak.dp,Ak.wt,Ak.HP]at l E Y U q;obtain⟨a1,g,rfl,p,O,r1⟩:=hx.FT;obtain⟨a2,vl,rfl,iq,r2⟩:=hz.EG;have cb:vl=ls.map V.str:=by
   have gen:∀{vs:List V}{ls:List Str},AS H vs (ls.map Pt.str)->vs=ls.map V.str:=by
    intro vs ls
    induction ls generalizing vs with
    |nil=>intro h;cases h;rfl
    |cons x r ih=>
     intro h;cases h with
     |cons R h2=>cases R;rw[ge,ih h2]
   exact gen r2
  subst cb;have kl:g.length=B.length:=DZ O;rw[Ak.Ae]at r1;have lx:B.length=xs.length:=l.1;subst S;refine Az (o.up k)<|BG<|Az (o.up k)<|DD ⟨_,rfl,.inl ⟨rfl,_,Ag.of f1⟩,.inr ⟨_,rfl,G,_,1,_,rfl,rfl,o.up k,CK,a1,g,B,rfl,p.up<|k _,O,.mk λpK H2 hK sK fK=>?_⟩⟩;have s2:=k.trans sK;refine⟨_,rfl,G,_,2,_,rfl,rfl,o.up s2,at2,pK,a2,_,_,rfl,rfl,.inl fK,iq.up<|s2 _,AX<|by rw[ap,ap];lia,.mk λpC H3 hC sC fC=>?_⟩;have s3:=s2.trans sC;have D3:=sC _ _<|sK _ _ f1;refine⟨D,pC,_,_,rfl,rfl,D3,fC,AX<|by simp;lia,?_⟩;have s4:AF H (upd H3 D<|.lst<|[]++(B.map V.str++ls.map V.str)):=s3.put M;have f4:upd H3 D (.lst<|[]++(B.map V.str++ls.map V.str)) D=ι (.lst<|(B++ls).map V.str):=by rw[AA,io];rfl
  generalize upd H3 D (.lst<|[]++(B.map V.str++ls.map V.str))=H4 at s4 f4⊢;have L:=p.up<|s4 _;refine⟨a1,g,L,λoF Hf F=>⟨_,rfl,G,_,1,_,rfl,rfl,BP.DK o<|(kG s4).trans<|.BK F,CK,a1,oF,g,rfl,F.at_,?_⟩⟩;have Da:D≠a1:=GX L f4;have Z_:Hf D=ι (.lst<|(B++ls).map V.str):=by rw[F.ne D Da];exact f4
  refine EE (λi I j=>∃(o3:Option V),I=[ι<|.ref G,ι<|.ref D,ν,o3]/\(∀b e,b≠D->Hf b=ι e->j b=ι e)/\j D=ι (.lst<|(B++ls++Ak.EJ (xs.take i)).map V.str)/\(Ak.EJ<|xs.take i).length<=5*Ak.DU (xs.take i))
   ⟨ν,rfl,λb e _ h=>h,by rw[A3];simpa[Ak.EJ]using Z_,d9 _⟩ (λi I j _ ⟨_,_,s,_⟩=>s _ _ (k8 Da) F.at_) ?_ ?_
  ·refine λi key y I j _ go hy h0=>DB λX S=>?_;obtain⟨o3,rfl,t,c,lw⟩:=h0;have kf:Dl H Hf:=(kG s4).trans<|.BK F;have kI:Dl H j:=Je M (.of<|AF.refl _) kf t;obtain⟨ty,R,h2⟩:=r1.get (show(g.map (·.2))[i]?=ι y by rw[bv,hy];rfl);rw[bv]at R;cases C:xs[i]? with
   |none=>rw[C]at R;cases R
   |some b=>
    rw[C]at R;cases R;have J:=ACx C;obtain⟨z1,z2⟩:=Ak.Ez C;have zd:=Ak.FX J;have zb:=Ak.Bu J;have Wy:(g.map (·.1)).Nodup:=Jf O l.2.1;have rd:Rd j a1 (.dK g):=.inr ⟨oF,t _ _ (k8 Da) F.at_⟩;subst S;refine⟨_,rfl,.inl ⟨rfl,_,Ag.of c⟩,_,rfl,G,_,1,_,rfl,rfl,BP.DK o kI,CK,_,rfl,a1,y,rfl,.inl ⟨_,key,rd,rfl,(DN Wy hy).symm⟩,y,b,rfl,h2.DK kI,Ak.Ap l.2.2.2.2.2.2 b J,Ak.DL E.2 b J,by lia,by lia,λD7 H7 s7 n7 f7 l7=>?_⟩;have N:=s7 _ _ c;refine⟨D,D7,_,_,rfl,rfl,N,f7,AX<|by simp only[ap,b8];lia,go.n ⟨_,rfl,DP t s7,?_,by rw[Ak.Gu C,b8];lia⟩⟩;rw[AA,Q,Ak.Gu C,ii<|B++ls]
  ·rintro I j ⟨o3,rfl,t,c,lw⟩;rw[kl,lx,im]at lw c;refine⟨t _ _ (k8 Da) F.at_,?_⟩;have sB:AF H (back a1 H4 j):=FE F M s4 t;have dB:back a1 H4 j D=ι (.lst<|(B++ls++Ak.EJ xs).map V.str):=by rw[CA Da];exact c
   generalize back a1 H4 j=HB at sB dB⊢;exact Az (o.up sB)<|BG<|Ar<|Az (o.up sB)<|BG<|Ar ⟨_,rfl,q D HB sB M dB<|by simp only[b8];lia⟩
theorem Nt{f:Addr}{c:j4}(F:Fq K "_law_known" 53 f c)(T:Txt mg)(b:Binds K c lqc [])(m:mg "_law_known"=ι (.ref f)):∀n:Nat,Ab P w K mg base Bs n f c lqc (Kj n)
 |0=>Eo (λvs H Q E h=>by obtain⟨_,a,_,_,_,_,_,d,_⟩:=h;have:=Ak.CC a;have:=Ak.Ul a;lia)
 |n+1=>aB F T (Df.mk' F b m (Nt F T b m n))
theorem iz(F:Fq K "_law_due" 54 f fd)(T:Txt mg)(cw:Df P w K mg base "_law_due" lqe n (O' n))(Wl:mg "set"=ν):Ab P w K mg base Bs (n+1) f fd lqe (O' (n+1)):=by
 refine F.oq ["_law_asks_here","_law_path","_law_names_here","_law_due_here","_law_k","_law_name"] λH _ _ A_ Gx hr h=>?_;obtain⟨v,a,tp,nl,p,ns,ss,rfl,hv,R,cZ,PX,M,WA,PY,cX,eR,q⟩:=h;refine⟨_,(AB (Ad 3 A_<|Af A')<|AB (AV (AO BR (Bx K 0) AZ<|Aa _) (AB (AV (As<|Bx K 0) (AD<|Ai<|bT K (pv 3)<|Al<|AE (pv 1)<|AY<|Ds K T<|Bx K 0) AL)<|AD<|HQ (BI rfl T.range<|AY<|Ds K T<|Bx K 0) (Bp 4 A_)<|AD<|Ai<|NH K (pv 3)<|Bc cw hr<|AE (Fp K (Bx K 0)<|pv 4)<|AE (AN Gn (pv 1)<|Al<|AY<|pv 4)<|AY<|pv 2) AL)<|AB (AV (AO BR (Bx K 0) AZ<|Aa _) (AB (AV (As<|Bx K 0) (AB (Ai<|bT K (pv 3)<|Al<|AE (pv 1)<|AY AZ)<|AD<|Ai<|NH K (pv 3)<|Ge (fv:=["_law_path","_law_asks_here"]) (fs:=[1,0]) rfl (.of<|by rfl) (BL<|Av (Ij rfl:Bo _ _ (TH P w)) rfl T.sorted IL<|AY<|BJ (NN rfl:Bo _ _ (ZA K P w)) rfl Wl eE<|AY<|pv 2) (λC s0 H0 fp=>Gd<|PW.pt<|pw_and (Kp<|GZ Gx (pv 0)<|Bx K 2)<|pw_and1<|AO (FL:Dr _ _ (Wv K true)) (pv 0) (Bx K 2) rfl) λC s0 H0 fp=>(Al<|AE (pv 1)<|AY<|pv 0)) AL)<|AD<|EU<|HQ (Ci<|Bx K 0) (Bp 5 A_)<|AD<|Ai<|NH K (pv 3)<|Bc cw hr<|AE (Nn Gx (Bx K 0)<|pv 5)<|AE (AN Gn (pv 1)<|Al<|AY<|pv 5)<|AY<|pv 2) AL)<|AD<|AM<|pv 3),?_⟩;obtain⟨S,w0,rest,B,cs⟩:=hv.ak;have kG:∀{j:Hp},AF H j->Dl H j:=λs=>.of s;refine⟨by decide,.mk λD H1 Y E f1=>?_⟩;dsimp only[Aj];refine gw λX hX=>?_;rcases cs with _|⟨d,u,Zw⟩|⟨J,m,u,hx⟩|⟨Q,J,ls,m,u,z,hx,hz⟩
 ·subst hX;exact Az (B.up E)<|BG<|Az (B.up E)<|BG ⟨_,rfl,q D [] H1 E Y f1 .nil<|d9 _⟩
 ·subst hX;exact Az (B.up E)<|BG<|Az (B.up E)<|BG ⟨_,rfl,q D [] H1 E Y f1 .nil<|d9 _⟩
 ·simp only[Ak.Be,Ak.deep,Ak.wt]at R PX WA cZ q;obtain⟨a1,Rh,rfl,G,r1⟩:=hx.EG;have lv:=r1.length;rw[Ak.Ae,ap]at lv;rw[Ak.Ae]at r1;have lx:=Ak.CH J;have lw:=Ak.CI J;subst hX;refine Az (B.up E)<|DD ?_;refine Sr (t:=Rr _ _ _) (fun σ' H'=>∃g,σ'=[ι<|.ref S,ι<|.ref tp,ι<|.ref nl,ι<|.ref D,ν,ν]/\AF H H'/\H' D=ι (.lst g)/\Paired (Dw H') g (Ak.Iz ss (p,.row J m))/\g.length<=11) (fun σ' H2 ⟨oO,eσ,N,f2,v2,l2⟩=>?_) (λU=>?_);rotate_left
  ·refine⟨_,rfl,S,_,2,_,rfl,rfl,B.up E,at2,_,rfl,?_⟩;cases m with
   |false=>exact Ar (U _ _ ⟨[],rfl,E,f1,.nil,d9 _⟩)
   |true=>
    refine CP ⟨_,rfl,.inl ⟨rfl,_,Ag.of f1⟩,_,rfl,_,rfl,S,_,1,_,rfl,rfl,B.up E,CK,a1,_,rfl,.inl<|.inl<|G.up<|E _,An,.mk λpT H2 hT sT fT=>?_⟩;have f2:=sT _ _ f1;have N:=E.trans sT;refine⟨D,[],_,rfl,rfl,f2,Ac<|by simp,U _ _ ⟨[.ref pT],rfl,N.put Y,AA,.cons (Dw.up (.of (k:=.inl (J.length:Int)) (by rw[<-lv];exact fT)<|N _ _ M)<|Bn f2) .nil,by simp⟩⟩
  subst eσ;refine⟨_,rfl,S,_,1,_,rfl,rfl,B.up N,CK,a1,_,rfl,.inl (.inl (G.up (N _))),Rh.length,rfl,by lia,by lia,Ce (lo:=0) (n:=Rh.length) (λi σ j=>∃(g:List V)(o4:Option V),σ=[ι (.ref S),ι (.ref tp),ι (.ref nl),ι (.ref D),o4,ν]/\AF H j/\j D=ι (.lst g)/\Paired (Dw j) g (Ak.Iz ss (p,.row J m)++(Ak.Du p 0 (J.take i)).flatMap (Ak.Iz ss))/\g.length<=11+11*Ak.DU (J.take i))
   ⟨oO,ν,rfl,N,f2,by simpa[Ak.Du]using v2,by simp[Ak.DU];exact l2⟩ ?_ ?_⟩
  ·refine λi σ j _ go Z h0=>DB λX hX=>?_;obtain⟨g,o4,rfl,L,A,vw,eU⟩:=h0;rw[N3];obtain⟨x,Zx⟩:=B' Rh i Z;obtain⟨tx,g1,vx⟩:=r1.get Zx;obtain⟨b,hb⟩:=B' J i (by lia);rw[bv,hb]at g1;cases g1;have bm:=ACx hb;have zd:=Ak.AU bm;have zb:=Ak.Bu bm;obtain⟨z1,z2⟩:=Ak.Ez hb;subst hX;refine⟨_,rfl,.inl ⟨rfl,_,Ag.of A⟩,_,rfl,S,_,1,_,rfl,rfl,B.up L,CK,_,rfl,a1,_,_,x,rfl,rfl,.inl<|G.up<|L _,Am Zx,_,rfl,_,rfl,Aw,.mk λpS H4 hS sS fS=>?_⟩;have s4:=L.trans sS;refine⟨tp,pS,_,_,rfl,rfl,s4 _ _ M,fS,AX<|by rw[ap,i5];lia,λpP H5 s5 fP _=>?_⟩;have I:=s4.trans s5;refine⟨_,rfl,x,b,pP,nl,p++[.inl (i:Int)],ns,ss,rfl,vx.up I,Ak.Ap R b bm,by lia,by lia,by rw[fP,io];rfl,by rw[b8,i5];lia,I _ _ PY,cX,eR,λD7 cx H7 s7 n7 f7 v7 l7=>?_⟩;have O:=s7 _ _<|s5 _ _<|sS _ _ A;have s07:=(sS.trans s5).trans s7;refine⟨D,D7,_,_,rfl,rfl,O,f7,AX<|by lia,go.n ⟨g++cx,_,rfl,(I.trans s7).put Y,AA,?_,by rw[b8];lia⟩⟩;rw[Ak.We hb,Os,<-ii];exact EL (Bv vw λb zs h=>Bn O b zs<|s07 _ _ h)<|Bv v7<|Bn O
  ·rintro σ j ⟨g,o4,rfl,L,A,vw,eU⟩;rw[lv,im]at vw eU;refine Az (B.up L)<|BG ⟨_,rfl,q D g j L Y A ?_<|by lia⟩;unfold Ak.iR;rw[Ak.Fo,Ch];exact vw
 ·simp only[Ak.Be,Ak.deep,Ak.wt]at R PX WA cZ q;obtain⟨a1,c,rfl,G,Np,r1⟩:=hx.FT;obtain⟨a2,lX,rfl,iq,r2⟩:=hz.EG;have cb:=FY r2;subst cb;have kl:c.length=Q.length:=DZ Np;rw[Ak.Ae]at r1;have lx:Q.length=J.length:=R.1;subst hX;refine Az (B.up E)<|BG<|Az (B.up E)<|DD ?_;refine Sr (t:=Rr _ _ _) (fun σ' H'=>∃g,σ'=[ι<|.ref S,ι<|.ref tp,ι<|.ref nl,ι<|.ref D,ν,ν]/\AF H H'/\H' D=ι (.lst g)/\Paired (Dw H') g (Ak.Iz ss (p,.tab Q J ls m))/\g.length<=11) (fun σ' H2 ⟨oO,eσ,N,f2,v2,l2⟩=>?_) (λU=>?_);rotate_left
  ·refine⟨_,rfl,S,_,3,_,rfl,rfl,B.up E,rfl,_,rfl,?_⟩;cases m with
   |false=>exact Ar (U _ _ ⟨[],rfl,E,f1,.nil,d9 _⟩)
   |true=>
    refine CP ⟨_,rfl,.inl ⟨rfl,_,Ag.of f1⟩,_,rfl,An,.mk λpT H2 hT sT fT=>?_⟩;have f2:=sT _ _ f1;have N:=E.trans sT;refine⟨D,[],_,rfl,rfl,f2,Ac<|by simp,?_⟩;have s3:=N.put (o:=.lst<|[]++[.ref pT]) Y;have f3:upd H2 D (.lst<|[]++[.ref pT]) D=ι (.lst [.ref pT]):=AA;have v3:Dw (upd H2 D<|.lst<|[]++[.ref pT]) (.ref pT) (p,.inr ""):=Dw.up (.of (k:=.inr "") fT<|N _ _ M)<|Bn f2;generalize upd H2 D (.lst<|[]++[.ref pT])=H3 at s3 f3 v3⊢;refine⟨_,rfl,.inl ⟨rfl,_,Ag.of f3⟩,_,rfl,nl,ns,rfl,Ag.of<|s3 _ _ PY,by lia,λpS hS=>⟨pS,_,rfl,AA,by have:=Ol ns;lia,λpL l HL nL sL fL rk rm=>?_⟩⟩;have es':l=ss:=Zk.one ⟨rm,rk⟩ eR;subst es';have tD:=(AF.new (o:=Y' P w pS<|PU ns) hS).trans sL;have xH:=s3.trans tD;have wH:=eR.len;have li:∀i,i<l.length->(l.map V.str)[i]?=ι (.str<|l.getD i ""):=λi Z=>by
     rw[bv,ACu Z,ci,ACu Z];rfl
    refine⟨pL,rfl,⟨_,Ag.of fL⟩,Up l.length (λi=>.str<|l.getD i "") (λD2 i Hj=>AF HL Hj/\∃(ys:List V),Hj D2=ι (.lst ys)/\ys.length<=i/\Paired (Dw Hj) ys (((l.take i).filter λn=>decide (n∉Q)&&decide (n∉ls)).map λn=>(p,(d0 n:Key)))) (λD2 eS=>⟨AF.new eS,[],AA,bn _,by simpa using .nil⟩) (λD2 i Hj Z ⟨s,_⟩=>⟨_,_,Ag.of<|s _ _ fL,li i Z⟩) (λD2 i Hj v H' Z ⟨s,_⟩ y=>?_) (λD2 Hj ⟨s,_⟩=>⟨_,Ag.of<|s _ _ fL,by rw[ap];exact bn _⟩) (λD2 i Hj eS Z ⟨s,ys,mV,ly,py⟩=>?_) λD2 Hj eS ⟨s,ys,mV,ly,py⟩=>?_⟩
    ·obtain⟨e,y⟩:=y;refine⟨?_,e⟩;have:=y _<|Ag.of<|s _ _ fL;rw[li i Z]at this;exact(ACw this).symm
    ·have mW:=xH.trans s;have gi:l[i]?=ι (l.getD i ""):=by rw[ci,ACu Z];rfl
     rw[j2,gi];generalize l.getD i ""=r at*;refine⟨_,rfl,_,rfl,S,_,1,_,rfl,rfl,B.up mW,CK,a1,_,rfl,.inl ⟨c,d0 r,G.up<|mW _,rfl,rfl⟩,_,rfl,?_⟩;rw[QU Np];by_cases hm:r∈Q
     ·rw[show(!decide (r∈Q))=false by simp[hm]];refine Ar<|Ar ⟨s,ys,mV,by lia,?_⟩;rw[E6];simpa[hm]using py
     ·rw[show(!decide (r∈Q))=true by simp[hm]];refine CP ?_;refine⟨_,rfl,_,rfl,S,_,2,_,rfl,rfl,B.up mW,at2,a2,_,rfl,.inl<|.inl<|iq.up<|mW _,rfl,?_,_,rfl,?_⟩
      ·rw[N2];exact r4.mpr λ_ _=>rfl
      ·show if(!OD _ _)=true then _ else _;rw[DJ];by_cases cm:r∈ls
       ·refine BN (by simp[cm]) ⟨s,ys,mV,by lia,?_⟩;rw[E6];simpa[hm,cm]using py
       ·refine Ck (by simp[cm]) ⟨_,rfl,_,rfl,An,.mk λpU H5 hU sU fU=>?_⟩;have D5:=sU _ _ mV;refine⟨ys,D5,Ac<|by lia,(s.trans sU).put eS,ys++[.ref pU],AA,by simp;lia,?_⟩;rw[E6,io];have e1:((ι r).toList.filter λn=>decide (n∉Q)&&decide (n∉ls))=[r]:=by simp[hm,cm]
        rw[e1];exact EL (Bv py λb zs h=>Bn D5 b zs<|sU _ _ h)<|.cons (Dw.up (.of (k:=.inr r) fU<|sU _ _<|mW _ _ M)<|Bn D5) .nil
    ·rw[im]at py;have tE:=s _ _<|tD _ _ f3;refine⟨D,D2,_,_,rfl,rfl,tE,mV,AX<|by simp;lia,U _ _ ⟨[.ref pT]++ys,rfl,(xH.trans s).put Y,AA,?_,by simp;lia⟩⟩;exact .cons (v3.up λb zs h=>Bn tE b zs<|s _ _<|tD _ _ h)<|Bv py<|Bn tE
  subst eσ;have PK:=G.up<|N _;refine⟨a1,c,PK,λoF Hf F=>⟨_,rfl,S,_,1,_,rfl,rfl,BP.DK B<|(kG N).trans<|.BK F,CK,a1,oF,c,rfl,F.at_,?_⟩⟩;have Da:D≠a1:=GX PK f2;have Z_:Hf D=ι (.lst oO):=by rw[F.ne D Da];exact f2
  have tf:∀b zs,H2 b=ι (.tup zs)->Hf b=ι (.tup zs):=λb zs h=>by
   rw[F.ne b<|GX PK h];exact h
  have af:∀b o,b≠a1->H b=ι o->Hf b=ι o:=λb o n h=>by rw[F.ne b n];exact N _ _ h
  have ta:tp≠a1:=GX G M;have na:nl≠a1:=GX G PY;refine EE (λi σ j=>∃(g:List V)(o5:Option V),σ=[ι<|.ref S,ι<|.ref tp,ι<|.ref nl,ι<|.ref D,ν,o5]/\(∀b e,b≠D->Hf b=ι e->j b=ι e)/\j D=ι (.lst g)/\Paired (Dw j) g (Ak.Iz ss (p,.tab Q J ls m)++(Ak.Dv p (Q.take i)<|J.take i).flatMap (Ak.Iz ss))/\g.length<=11+11*Ak.DU (J.take i))
   ⟨oO,ν,rfl,λb e _ h=>h,Z_,by simpa[Ak.Dv]using Bv v2 tf,by simp[Ak.DU];exact l2⟩ (λi σ j _ ⟨_,_,_,s,_⟩=>s _ _ (k8 Da) F.at_) ?_ ?_
  ·refine λi U y σ j _ go hy h0=>DB λX hX=>?_;obtain⟨g,o5,rfl,L,A,vw,lw⟩:=h0;have kf:Dl H Hf:=(kG N).trans<|.BK F;have kI:Dl H j:=Je Y (.of<|AF.refl _) kf L;obtain⟨ty,h1,h2⟩:=r1.get (show(c.map (·.2))[i]?=ι y by rw[bv,hy];rfl);obtain⟨Z,ek⟩:=GN Np hy;subst ek;have aR:Q[i]?=ι (Q.getD i ""):=by rw[ci,ACu Z];rfl
   generalize Q.getD i ""=r at aR hy⊢;obtain⟨b,hb⟩:=B' J i (by lia);rw[bv,hb]at h1;cases h1;have bm:=ACx hb;have zd:=Ak.AU bm;have zb:=Ak.Bu bm;obtain⟨z1,z2⟩:=Ak.Ez hb;have Wy:(c.map (·.1)).Nodup:=Jf Np R.2.1;have rd:Rd j a1 (.dK c):=.inr ⟨oF,L _ _ (k8 Da) F.at_⟩;have oP:j tp=ι (.tup<|p.map kV):=L _ _ (Bw M Y)<|af _ _ ta M;have oQ:j nl=ι (.lst<|ns.map V.str):=L _ _ (Bw PY Y)<|af _ _ na PY;subst hX;refine⟨_,rfl,.inl ⟨rfl,_,Ag.of A⟩,_,rfl,S,_,1,_,rfl,rfl,BP.DK B kI,CK,_,rfl,a1,y,rfl,.inl ⟨_,_,rd,rfl,(DN Wy hy).symm⟩,_,rfl,_,rfl,Aw,.mk λpS H4 hS sS fS=>⟨tp,pS,_,_,rfl,rfl,sS _ _ oP,fS,AX<|by rw[ap,i5];lia,λpP H5 s5 fP _=>?_⟩⟩;have I:=sS.trans s5;refine⟨_,rfl,y,b,pP,nl,p++[.inr r],ns,ss,rfl,(h2.DK kI).up I,Ak.Ap R.2.2.2.2.2.2 b bm,by lia,by lia,by rw[fP,io];rfl,by rw[b8,i5];lia,I _ _ oQ,cX,eR,λD7 cx H7 s7 n7 f7 v7 l7=>?_⟩;have O:=s7 _ _<|I _ _ A;have s07:=I.trans s7;refine⟨D,D7,_,_,rfl,rfl,O,f7,AX<|by lia,go.n ⟨g++cx,_,rfl,DP L s07,AA,?_,by rw[b8];lia⟩⟩;rw[Ak.Nk aR hb,Os,<-ii];exact EL (Bv vw λb zs h=>Bn O b zs<|s07 _ _ h)<|Bv v7<|Bn O
  ·rintro σ j ⟨g,o5,rfl,L,A,vw,lw⟩;rw[kl,im,lx,im]at vw;rw[kl,lx,im]at lw;refine⟨L _ _ (k8 Da) F.at_,?_⟩;have tG:j a1=ι (.BK oF<|.dK c):=L _ _ (k8 Da) F.at_;have vB:Paired (Dw<|back a1 H2 j) g (Ak.iR ss p<|.tab Q J ls m):=by
    unfold Ak.iR;rw[Ak.Fo,Ch];refine Bv vw λb zs h=>?_;rw[CA<|Bw h tG];exact h
   have sB:AF H (back a1 H2 j):=FE F Y N L;have dB:back a1 H2 j D=ι (.lst g):=by rw[CA Da];exact A
   exact⟨_,rfl,q D g _ sB Y dB vB<|by lia⟩
theorem VL{f:Addr}{d:j4}(F:Fq K "_law_due" 54 f d)(T:Txt mg)(b:Binds K d lqe [])(m:mg "_law_due"=ι (.ref f))(c:mg "set"=ν):∀n:Nat,Ab P w K mg base Bs n f d lqe (O' n)
 |0=>Eo (λvs H Q E h=>by obtain⟨_,a,_,_,_,_,_,_,_,_,_,e,_⟩:=h;have:=Ak.CC a;lia)
 |n+1=>iz F T (Df.mk' F b m (VL F T b m c n)) c
theorem cy(F:Fq K "_law_more" 55 f fd)(T:Txt mg)(R:Df P w K mg base "_law_more" lqd n (Kl n)):Ab P w K mg base Bs (n+1) f fd lqd (Kl (n+1)):=by
 refine F.oq ["_law_asks_here","_law_doc_here","_law_path","_law_known_here","_law_found","_law_k","_law_name"] λH _ _ A_ Gx hr h=>?_;obtain⟨v,y,a,b,tp,nl,p,kn,rfl,hv,hy,S,M,iy,cZ,ja,PX,U,WA,PY,cX,q⟩:=h;refine⟨_,(AB (Ad 4 A_<|Af A')<|AB (AV (AO BR (Bx K 0) AZ<|Aa _) (AD<|HQ (BI rfl T.range<|AY<|Ds K T<|pv 1) (Bp 5 A_)<|AD<|AV (AO Jh (pv 5) (Ds K T<|Bx K 0)<|Aa _) (AD<|Ai<|NH K (pv 4)<|Bc R hr<|AE (Fp K (Bx K 0)<|pv 5)<|AE (Fp K (pv 1)<|pv 5)<|AE (AN Gn (pv 2)<|Al<|AY<|pv 5)<|AY<|pv 3)<|AD<|Ai<|bT K (pv 4)<|Al<|AE (pv 2)<|AY<|pv 5) AL)<|AB (AV (AO BR (Bx K 0) AZ<|Aa _) (AD<|EU<|HQ (Ci<|pv 1) (Bp 6 A_)<|AD<|AV (Kp<|SR Gx (pv 6)<|Bx K 0) (AD<|Ai<|NH K (pv 4)<|Bc R hr<|AE (Nn Gx (Bx K 0)<|pv 6)<|AE (Nn Gx (pv 1)<|pv 6)<|AE (AN Gn (pv 2)<|Al<|AY<|pv 6)<|AY<|pv 3)<|AD<|AV (AO (DV:Dr _ _ (Wv K false)) (pv 6) (pv 3) rfl) (AD<|Ai<|bT K (pv 4)<|Al<|AE (pv 2)<|AY<|pv 6)<|AD<|Ai<|bT K (pv 4)<|Al<|AE (pv 2)<|AY AZ) AL)<|AD<|AM<|pv 4),?_⟩;obtain⟨t0,w0,rest,O,cs⟩:=hv.ak;have kG:∀{t:Hp},AF H t->Dl H t:=λs=>.of s;refine⟨by decide,.mk λD H1 hD G f1=>?_⟩;dsimp only[Aj];refine gw λX hX=>?_;rcases cs with _|⟨d,u,Zw⟩|⟨xs,m,u,hx⟩|⟨ks,xs,ls,m,u,z,hx,hz⟩
 ·subst hX;exact Az (O.up G)<|BG<|Az (O.up G)<|BG ⟨_,rfl,q D [] H1 G hD f1 (by rw[Ak.Lw];exact .nil)<|d9 _⟩
 ·subst hX;exact Az (O.up G)<|BG<|Az (O.up G)<|BG ⟨_,rfl,q D [] H1 G hD f1 (by rw[Ak.Jd];exact .nil)<|d9 _⟩
 ·obtain⟨I,rfl,ln,le⟩:∃I,b=.lst I/\xs.length<=I.length/\∀(j:Nat) x y,xs[j]?=ι x->I[j]?=ι y->Ak.So x y:=by cases iy with|row l c h=>exact⟨_,rfl,l,h⟩
  simp only[Ak.Be,Ak.deep,Ak.wt,Ak.more,Pt.doc,Pt.size]at S PX WA cZ q M ja;obtain⟨a1,Rh,rfl,Y,r1⟩:=hx.EG;obtain⟨a2,tH,rfl,N,r2⟩:=hy.EG;have lv:=r1.length;rw[Ak.Ae,ap]at lv;rw[Ak.Ae]at r1;have jY:=r2.length;have ly:=Pt.CH I;subst hX;refine Az (O.up G) (DD ?_);refine⟨_,rfl,a2,_,rfl,.inl (.inl (N.up (G _))),tH.length,rfl,by lia,by lia,Ce (lo:=0) (n:=tH.length) (λi σ t=>∃(A:List V)(o5:Option V),σ=[ι (.ref t0),ι (.ref a2),ι (.ref tp),ι (.ref nl),ι (.ref D),o5,ν]/\AF H t/\t D=ι (.lst A)/\Paired (Dw t) A (Ak.Cd kn xs (I.take i) p 0)/\A.length<=Pt.AI (I.take i))
   ⟨[],ν,rfl,G,f1,by simp only[A3];cases xs<;>(simp only[Ak.Cd];exact .nil),d9 _⟩ ?_ ?_⟩
  ·refine λi σ t _ go hi h0=>DB λX hX=>?_;obtain⟨A,o5,rfl,C,g,Z,eU⟩:=h0;rw[N3];obtain⟨y,jb⟩:=B' tH i hi;obtain⟨ty,g2,vy⟩:=r2.get jb;have dy:=Pt.BC M ty<|ACx g2;have zy:=Pt.BD<|ACx g2;obtain⟨z1,z2⟩:=Pt.Cy g2;have step:=Ak.Hz (kn:=kn) (p:=p) (xs:=xs) (j:=0) g2;rw[N0]at step;subst hX;dsimp only[Aj];refine⟨_,rfl,_,rfl,t0,_,1,_,rfl,rfl,O.up C,CK,a1,_,rfl,.inl<|.inl<|Y.up<|C _,_,_,rfl,rfl,_,rfl,?_⟩;refine Vf (λc=>?_) (λc=>?_)
   ·have c:i<Rh.length:=by have:=of_decide_eq_true c;lia
    obtain⟨x,Zx⟩:=B' Rh i c;obtain⟨tx,g1,vx⟩:=r1.get Zx;obtain⟨b,hb⟩:=B' xs i (by lia);rw[bv,hb]at g1;cases g1;rw[hb]at step;have bm:=ACx hb;have zd:=Ak.AU bm;have zb:=Ak.Bu bm;refine⟨_,rfl,.inl ⟨rfl,_,Ag.of g⟩,_,rfl,t0,_,1,_,rfl,rfl,O.up C,CK,_,rfl,a1,_,_,x,rfl,rfl,.inl<|Y.up<|C _,Am Zx,_,rfl,_,rfl,a2,_,_,y,rfl,rfl,.inl<|N.up<|C _,Am jb,_,rfl,_,rfl,Aw,.mk λpS H4 hS sS fS=>?_⟩;have s4:=C.trans sS;refine⟨tp,pS,_,_,rfl,rfl,s4 _ _ U,fS,AX<|by rw[ap,i5];lia,λpP H5 s5 fP _=>?_⟩;have E:=s4.trans s5;refine⟨_,rfl,x,y,b,ty,pP,nl,p++[.inl (i:Int)],kn,rfl,vx.up E,vy.up E,Ak.Ap S b bm,dy,le i b ty hb g2,by lia,by lia,by lia,by rw[fP,io];rfl,by rw[b8,i5];lia,E _ _ PY,cX,λD7 cx H7 s7 n7 f7 v7 l7=>?_⟩;have J:=s7 _ _<|s5 _ _<|sS _ _ g;have s07:=(sS.trans s5).trans s7;refine⟨D,D7,_,_,rfl,rfl,J,f7,AX<|by lia,go.n ⟨A++cx,_,rfl,(E.trans s7).put hD,AA,?_,by rw[b8];lia⟩⟩;rw[step];exact EL (Bv Z λb zs h=>Bn J b zs<|s07 _ _ h)<|Bv v7<|Bn J
   ·have c:Rh.length<=i:=by
     refine ZB λz=>c<|decide_eq_true ?_;lia
    rw[Fk<|by lia]at step;have z0:=Pt.size_pos ty;refine⟨_,rfl,.inl ⟨rfl,_,Ag.of g⟩,_,rfl,_,rfl,An,.mk λQ H2 hT L fT=>?_⟩;have f2:=L _ _ g;have s2:=C.trans L;refine⟨D,A,_,rfl,rfl,f2,Ac<|by lia,go.n ⟨A++[.ref Q],_,rfl,s2.put hD,AA,?_,by simp;lia⟩⟩;rw[step];exact EL (Bv Z λb zs h=>Bn f2 b zs<|L _ _ h)<|.cons (Dw.up (.of (k:=.inl (i:Int)) fT<|s2 _ _ U)<|Bn f2) .nil
  ·rintro σ t ⟨A,o5,rfl,C,g,Z,eU⟩;rw[jY,im]at Z eU;exact Az (O.up C)<|BG ⟨_,rfl,q D A t C hD g Z<|by lia⟩
 ·simp only[Ak.Be]at S;obtain⟨ss,I,rfl,le⟩:∃ss I,b=.BV ss I/\∀(j:Nat) n x y,ss[j]?=ι n->I[j]?=ι y->lk ks xs n=ι x->Ak.So x y:=by cases iy with|tab a b l c e h=>exact⟨_,_,rfl,h⟩
  simp only[Ak.deep,Ak.wt,Ak.more,Pt.doc]at PX WA cZ q M;have ll:=M.1;have Fo:=M.2.1;simp only[Pt.size]at ja q;obtain⟨a1,Th,rfl,Y,Np,r1⟩:=hx.FT;obtain⟨a2,B,rfl,N,Ya,r2⟩:=hy.FT;have kl:B.length=ss.length:=DZ Ya;have PK:=N.up<|G _;subst hX;refine Az (O.up G)<|BG<|Az (O.up G)<|DD ⟨a2,B,PK,λoF Hf F=>⟨_,rfl,a2,oF,B,rfl,F.at_,?_⟩⟩;have Da:D≠a2:=GX PK f1;have Z_:Hf D=ι (.lst []):=by rw[F.ne D Da];exact f1
  have af:∀b o,b≠a2->H b=ι o->Hf b=ι o:=λb o n h=>by rw[F.ne b n];exact G _ _ h
  have ta:tp≠a2:=GX N U;have na:nl≠a2:=GX N PY;refine EE (λi σ t=>∃(A:List V)(o6:Option V),σ=[ι<|.ref t0,ι<|.ref a2,ι<|.ref tp,ι<|.ref nl,ι<|.ref D,ν,o6]/\(∀b e,b≠D->Hf b=ι e->t b=ι e)/\t D=ι (.lst A)/\Paired (Dw t) A (Ak.Cz kn ks xs (ss.take i) (I.take i) p)/\A.length<=Pt.AI (I.take i))
   ⟨[],ν,rfl,λb e _ h=>h,Z_,by simp only[A3,Ak.Cz];exact .nil,d9 _⟩ (λi σ t _ ⟨_,_,_,s,_⟩=>s _ _ (k8 Da) F.at_) ?_ ?_
  ·refine λi key y σ t _ go hy h0=>DB λX hX=>?_;obtain⟨A,o6,rfl,C,g,Z,lw⟩:=h0;have kf:Dl H Hf:=(kG G).trans<|.BK F;have kI:Dl H t:=Je hD (.of<|AF.refl _) kf C;obtain⟨ty,h1,h2⟩:=r2.get (show(B.map (·.2))[i]?=ι y by rw[bv,hy];rfl);obtain⟨hi,ek⟩:=GN Ya hy;subst ek;have aR:ss[i]?=ι (ss.getD i ""):=by rw[ci,ACu hi];rfl
   generalize ss.getD i ""=r at aR hy⊢;have dy:=Pt.BC M.2.2.2.2 ty<|ACx h1;have zy:=Pt.BD<|ACx h1;obtain⟨z1,z2⟩:=Pt.Cy h1;have z0:=Pt.size_pos ty;have lty:=Pt.CH I;have step:=Ak.Lx (kn:=kn) (p:=p) (ks:=ks) (xs:=xs) aR h1;have Wy:(B.map (·.1)).Nodup:=Jf Ya Fo;have rd:Rd t a2 (.dK B):=.inr ⟨oF,C _ _ (k8 Da) F.at_⟩;have oP:t tp=ι (.tup<|p.map kV):=C _ _ (Bw U hD)<|af _ _ ta U;have oQ:t nl=ι (.lst<|kn.map V.str):=C _ _ (Bw PY hD)<|af _ _ na PY;have mU:Pt.look ks (Ak.HN xs) r=(lk ks xs r).map Ak.pt:=by rw[Ak.Ae];exact JT Ak.pt
   subst hX;dsimp only[Aj];refine⟨_,rfl,_,rfl,t0,_,1,_,rfl,rfl,BP.DK O kI,CK,a1,_,rfl,.inl ⟨Th,d0 r,kI.rd _ _ Y,rfl,rfl⟩,_,rfl,?_⟩;rw[QU Np];have own:∀(k:Key)(Q:Addr)(H2:Hp),AF t H2->H2 Q=ι (.tup [.ref tp,kV k])->lk ks xs r=ν->Ak.FC kn (.inr r)=k->Paired (Dw<|upd H2 D<|.lst<|A++[.ref Q]) (A++[.ref Q]) (Ak.Cz kn ks xs (ss.take<|i+1) (I.take<|i+1) p):=λk Q H2 L fT e3 ek=>by
    have f2:=L _ _ g;rw[step,e3];refine EL (Bv Z λb zs h=>Bn f2 b zs<|L _ _ h)<|.cons (Dw.up ?_<|Bn f2) .nil;rw[ek];exact .of fT<|L _ _ oP
   by_cases hm:r∈ks
   ·rw[decide_eq_true hm];obtain⟨b,e3⟩:=UT S.1 hm;rcases Val.Ia Np r1 r with⟨x,tx,k1,k2,vx⟩|⟨k1,k2⟩
    ·rw[mU,e3]at k2;cases k2;rw[e3]at step;have bm:=(JS e3).2;have zd:=Ak.AU bm;have zb:=Ak.Bu bm;refine CP ⟨_,rfl,.inl ⟨rfl,_,Ag.of g⟩,_,rfl,t0,_,1,_,rfl,rfl,BP.DK O kI,CK,_,rfl,a1,x,rfl,.inl ⟨Th,d0 r,kI.rd _ _ Y,rfl,k1.symm⟩,_,rfl,_,rfl,a2,y,rfl,.inl ⟨_,_,rd,rfl,(DN Wy hy).symm⟩,_,rfl,_,rfl,Aw,.mk λpS H4 hS sS fS=>?_⟩;refine⟨tp,pS,_,_,rfl,rfl,sS _ _ oP,fS,AX<|by rw[ap,i5];lia,λpP H5 s5 fP _=>?_⟩;have E:=sS.trans s5;refine⟨_,rfl,x,y,b,ty,pP,nl,p++[.inr r],kn,rfl,(vx.DK kI).up E,(h2.DK kI).up E,Ak.Ap S.2.2.2.2.2.2 b bm,dy,le i r b ty aR h1 e3,by lia,by lia,by lia,by rw[fP,io];rfl,by rw[b8,i5];lia,E _ _ oQ,cX,λD7 cx H7 s7 n7 f7 v7 l7=>?_⟩;have J:=s7 _ _<|E _ _ g;have s07:=E.trans s7;refine⟨D,D7,_,_,rfl,rfl,J,f7,AX<|by lia,go.n ⟨A++cx,_,rfl,DP C s07,AA,?_,by rw[b8];lia⟩⟩;rw[step];exact EL (Bv Z λb zs h=>Bn J b zs<|s07 _ _ h)<|Bv v7<|Bn J
    ·rw[mU,e3]at k2;cases k2
   ·rw[decide_eq_false hm];have e3:=Za (xs:=xs) hm;refine Ar ⟨_,rfl,_,rfl,nl,_,rfl,.inl<|Ag.of oQ,rfl,by rw[N2];exact r4.mpr λ_ _=>rfl,_,rfl,?_⟩;show if OD (.str r) (kn.map V.str)=true then _ else _;rw[DJ];by_cases hk:r∈kn
    ·refine Ck (decide_eq_true hk) ⟨_,rfl,.inl ⟨rfl,_,Ag.of g⟩,_,rfl,_,rfl,An,.mk λQ H2 hT L fT=>?_⟩;exact⟨D,A,_,rfl,rfl,L _ _ g,Ac<|by lia,go.n ⟨A++[.ref Q],_,rfl,DP C L,AA,own _ Q H2 L fT e3<|by simp only[Ak.FC,if_pos hk],by simp;lia⟩⟩
    ·refine BN (decide_eq_false hk) ⟨_,rfl,.inl ⟨rfl,_,Ag.of g⟩,_,rfl,An,.mk λQ H2 hT L fT=>?_⟩;exact⟨D,A,_,rfl,rfl,L _ _ g,Ac<|by lia,go.n ⟨A++[.ref Q],_,rfl,DP C L,AA,own (.inr "") Q H2 L fT e3<|by simp only[Ak.FC,if_neg hk],by simp;lia⟩⟩
  ·rintro σ t ⟨A,o6,rfl,C,g,Z,lw⟩;rw[kl,im,ll,im]at Z;rw[kl,ll,im]at lw;refine⟨C _ _ (k8 Da) F.at_,?_⟩;have tG:t a2=ι (.BK oF<|.dK B):=C _ _ (k8 Da) F.at_;have vB:=Bv (H':=back a2 H1 t) Z λb zs h=>by
    rw[CA<|Bw h tG];exact h
   have sB:AF H (back a2 H1 t):=FE F hD G C;exact⟨_,rfl,q D A _ sB hD (by rw[CA Da];exact g) vB<|by lia⟩
theorem Ro{f:Addr}{c:j4}(F:Fq K "_law_more" 55 f c)(T:Txt mg)(b:Binds K c lqd [])(m:mg "_law_more"=ι (.ref f)):∀n:Nat,Ab P w K mg base Bs n f c lqd (Kl n)
 |0=>Eo (λvs H Q E h=>by obtain⟨_,_,a,_,_,_,_,_,_,_,_,_,_,_,_,_,d,_⟩:=h;have:=Ak.CC a;lia)
 |n+1=>cy F T (Df.mk' F b m (Ro F T b m n))
theorem aC(F:Fq K "_law_right" 56 f fd)(T:Txt mg)(N:Df P w K mg base "roomier" lqz 11 (Ng TM aN aO))(mX:Df P w K mg base "_law_ruin" lqj 50 (Kh 50))(mY:Df P w K mg base "_law_lets" lqa 50 (Km 50))(mZ:Df P w K mg base "_law_size" lqb 30 (Gr 30))(i_:Df P w K mg base "_law_least" lqc 48 (Ir 48))(jA:Df P w K mg base "_law_fresh" lqo 26 RQ)(Z:Df P w K mg base "_law_is_doc" lqb 30 (Iu 30))(jB:Df P w K mg base "_law_known" lqc 27 (Kj 27))(cw:Df P w K mg base "_law_due" lqe 25 (O' 25))(ma:Df P w K mg base "_law_more" lqd 25 (Kl 25)):Ab P w K mg base Bs 52 f fd lqn (Ni TM aN aO):=by
 refine F.oq ["_law_asks_here","_law_avoid","_law_names_here","_law_told","_law_known_here","_law_due_here","_law_doc_here","_law_more_here"] λH _ _ A_ _ O h=>?_;obtain⟨v,a,l,ws,ds,nl,ns,rfl,hv,Ax,hz,PX,aQ,hl,ig,hd,oH,xF,PY,rZ,cX,tab,q⟩:=h;refine⟨_,(AB (Ad 3 A_<|iI<|Bc N O<|AE (pv 0)<|AE (pv 1)<|AY<|pv 2)<|AB (AV (CV<|As<|Rq BY T (pv 3) T.list BU) (AD<|AM Dp) AL)<|AB (Ad 4 A_<|AN Hd (Bc jB O<|AY<|pv 0)<|pv 2)<|AB (Ad 5 A_<|Bc cw O<|AE (pv 0)<|AE (Al A')<|AY<|pv 2)<|AB (HQ (BL<|pv 3) (Bp 6 A_)<|AB (AV (PW.pt<|pw_or (CV<|As<|Bc Z O<|AY<|pv 6)<|pw_or (CV<|As<|Bc mY O<|AE (pv 0)<|AY<|pv 6)<|pw_or1<|AO dQ (Bc mZ O<|AY<|pv 6) (AN Bi (Bc i_ O<|AY<|pv 0) AG)<|Aa _) (AD<|AM Dp) AL)<|AB (Ad 7 A_<|Bc ma O<|AE (pv 0)<|AE (pv 6)<|AE (Al A')<|AY<|pv 4)<|AB (AV (PW.pt<|pw_or (AO dQ (Ds K T<|pv 7) AG<|Aa _)<|pw_or (AO (Wc<|BX.units O) (Fp K (pv 7) AG) (pv 5) rfl)<|pw_or1<|CV<|As<|Bc jA O<|AE (pv 0)<|AE (pv 6)<|AY<|pv 1) (AD<|AM Dp) AL)<|AB (Ai<|show PE _ _ (kR K _ _ _ _)from Pn AC X7 PySem.F.type_list_remove (Tb<|BX.units O) (pv 5) (AY<|Fp K (pv 7) AG))<|AD<|Ai<|Bc mX O<|AY<|pv 6)<|AD<|AM<|FJ (Se<|BX.JG O) (pv 5) (Af A')<|Aa _),?_⟩;have hG:=Ak.QY a Ax;have mG:=Ak.QZ a Ax;have mT:=Ak.Ub a Ax;have sw:=Ak.Oe a;obtain⟨tx,hT⟩:=tab.Ju;obtain⟨Gk,G⟩:∃Gk,Gk=CJ [TM] H:=⟨_,rfl⟩;have tJ:Gk TM=none:=by rw[G];exact Dm dL
 have sj:AF Gk H:=λb e h=>by rw[G]at h;exact(CM h).2
 have tK:Val Gk v a.pt:=by rw[G];exact hv.Ww<|Fc hT
 have hwk:AS Gk ws ds:=by rw[G];exact ig.Ww<|Fc hT
 have hlk:Gk l=ι (.lst ws):=by
  rw[G,Aq]
  ·exact hl
  ·exact λm=>by rw[bi.mp m,hT]at hl;cases hl
 have xI:Gk nl=ι (.lst<|ns.map V.str):=by
  rw[G,Aq]
  ·exact PY
  ·exact λm=>by rw[bi.mp m,hT]at PY;cases PY
 refine⟨_,rfl,_,rfl,_,rfl,v,a,l,ws,ds,nl,ns,rfl,hv,Ax,hz,PX,aQ,hl,ig,hd,oH,PY,rZ,cX,tab,λp I f i bl ss w0 H' keep tb' q_ hp R np kf=>?_⟩;have nTj:H TM≠none:=by rw[hT];exact λz=>nomatch z
 have kp:∀b o,b≠TM->H b=ι o->MM H H' b=ι o:=λb o n e=>by rw[Kg e];exact keep b o n e
 have sk:AF Gk (MM H H'):=λb o e=>kp b o (Bw e tJ)<|sj _ _ e;have xJ:=tb'.qt nTj;have J:=R.MM;have md:MM H H' p=ι (.lst<|I.map Dc.val):=Ja hp (λ_ _ z=>by cases z);generalize MM H H'=Hk at sk xJ kf kp J md⊢;dsimp only[Aj];refine⟨_,rfl,_,"list","list",rfl,rfl,.lst<|.inl md,_,rfl,Ar ⟨_,rfl,v,a,rfl,tK.up sk,hG,aQ,by lia,by lia,λpN H1 s1 nN fN lN=>⟨_,rfl,pN,nl,_,_,rfl,rfl,fN,s1 _ _<|sk _ _ xI,AX<|by simp;lia,λpC hC=>?_⟩⟩⟩;have sC:=AF.new (o:=.lst<|a.HP.map V.str++ns.map V.str) hC;have fC:upd H1 pC (.lst<|a.HP.map V.str++ns.map V.str) pC=ι (.lst<|(a.HP++ns).map V.str):=by rw[AA,io]
 generalize upd H1 pC (.lst<|a.HP.map V.str++ns.map V.str)=H2 at sC fC⊢;have sk2:=s1.trans sC;dsimp only[Aj];refine⟨_,rfl,by decide,.mk λpE H3 hE sE fE=>?_⟩;have Q:=sk2.trans sE;refine⟨_,rfl,v,a,pE,nl,[],ns,ss,rfl,tK.up<|sk.trans Q,hG,by lia,by lia,fE,by simp;lia,Q _ _<|sk _ _ xI,cX,R.jT,λC xK E sm oR xM vD lD=>?_⟩;dsimp only[Aj];have S:=Q.trans sm;have gkm:=sk.trans S;have me:Dc.EC Hk I:=J.at_;have mf:C∉Dc.AJ I:=λz=>Dc.JQ me z<|Q.free oR;have xN:Dc.EC E I:=Dc.Bh I (λc _ o h=>S _ _ h) me;have L:∀c∈Dc.AJ I,∀o u,E c≠ι (.BK o u):=λc U=>Ho (Dc.JQ me U) (J.own c U) λo=>S c o;have A:∀b e,b≠C->b∉Dc.AJ I->E b=ι e->CJ (C::Dc.AJ I) E b=ι e:=λb e n1 n2 h=>by
  rw[Aq λm=>(ca.mp m).elim n1 n2];exact h
 obtain⟨B,hB⟩:∃B,B=CJ (C::Dc.AJ I) E:=⟨_,rfl⟩;rw[<-hB]at A;have M:∀b e,Gk b=ι e->B b=ι e:=λb e h=>A b e (λz=>by have:=Q _ _<|sk _ _ h;rw[z,oR]at this;cases this) (λm=>by have:=sj _ _ h;rw[J.new b m]at this;cases this)<|gkm _ _ h;have mh:∀b e,Hk b=ν->b≠C->E b=ι e->B b=ι e:=λb e h n h'=>A b e n (λm=>Dc.JQ me m h) h';have pB:B p=ι (.lst<|I.map Dc.val):=A _ _ (λz=>by have:=Q _ _ md;rw[z,oR]at this;cases this) np<|S _ _ md;have CB:B pC=ι (.lst<|(a.HP++ns).map V.str):=mh _ _ (s1.free hC) (λz=>by have:=sE _ _ fC;rw[z,oR]at this;cases this)<|sm _ _<|sE _ _ fC;have nf:∀b u,E b=ι u->(∀xs,u≠.lst xs)->(∀kvs,u≠.dK kvs)->B b=ι u:=λb u h n1 n2=>by
  refine A _ _ (λz=>by rw[z,xM]at h;cases h;exact n1 _ rfl) (λm=>?_) h;rcases Dc.PD I xN b m with⟨xs,r⟩|⟨kvs,r⟩
  ·rcases r with r|⟨o,r⟩
   ·rw[h]at r;cases r;exact n1 _ rfl
   ·exact L b m _ _ r
  ·rcases r with r|⟨o,r⟩
   ·rw[h]at r;cases r;exact n2 _ rfl
   ·exact L b m _ _ r
 have kz:∀b zs,E b=ι (.tup zs)->B b=ι (.tup zs):=λb zs h=>nf _ _ h (λ_ z=>nomatch z) (λ_ z=>nomatch z);have tbB:Ey aN aO TM B:=by
  have T2:=xJ.up S;cases T2 with
  |new h=>exact .new (nf _ _ h (λ_ z=>nomatch z) (λ_ z=>nomatch z))
  |old c oc xs t h U d n=>exact .old c oc xs t (nf _ _ h (λ_ z=>nomatch z) (λ_ z=>nomatch z)) (nf _ _ U (λ_ z=>nomatch z) (λ_ z=>nomatch z)) d n
 have vDB:Paired (Dw B) xK (Ak.iR ss [] a):=Bv vD kz;have oS:Val B v a.pt:=tK.up M;have hwB:AS B ws ds:=hwk.up M;have hlB:=M _ _ hlk;have subB:∀i,AF B (CJ (C::Dc.AJ (I.take i)) E):=λi b e h=>by
  rw[hB]at h;obtain⟨h1,h2⟩:=CM h;rw[Aq λm=>h1<|(ca.mp m).elim (λz=>by rw[z];exact dL) λm=>b9 _<|Dc.RU m];exact h2
 obtain⟨kn,mi⟩:∃kn,kn=a.HP++ns:=⟨_,rfl⟩;rw[<-mi]at CB;obtain⟨ms,xO⟩:∃ms,ms=bl.flatMap λq=>(Ak.fst (ss++[w0]) q.2).map λk=>(q.1,k):=⟨_,rfl⟩;have one:=J.one;rw[<-xO]at one;have tP:=(Zp one).1;have gone:=@(Zp one).2;have pmD:(ms.map λm=>(m.1,Ak.FC kn m.2)).Perm (Ak.iR ss [] a):=by
  have:=Ak.Zd hG J.bf (kn:=kn) (ns:=ss) (w:=w0) (λn hn=>by rw[mi];exact gl _<|J.jT.mem.mp hn) (by rw[mi];exact λz=>(db.mp z).elim J.wk J.wn) (λn hn=>by rw[mi];exact e9 _ hn);rw[xO,List.map_flatMap];simp only[o0];exact this
 have lkn:kn.length<=5000:=by rw[mi,b8];lia
 clear mh A vD nf;have tQ:∀Y,AF B Y->∀z e,z≠TM->H z=ι e->Y z=ι e:=λY s z e n h=>s _ _ (M _ _ (by rw[G,Aq (λm=>n (bi.mp m))];exact h));refine⟨_,rfl,p,rfl,⟨_,Ag.of (S _ _ md)⟩,Br (K:=K) (xs:=I.map Dc.val) (λi σ Y=>∃(o6 o7:Option V)(xs:List V)(dl:List (List Key×Key)),σ=[ι v,ι (.ref l),ι (.ref nl),ι (.ref p),ι (.ref pC),ι (.ref C),o6,o7]/\AF (CJ (C::Dc.AJ (I.take i)) E) Y/\Y C=ι (.lst xs)/\Paired (Dw B) xs dl/\((ms.drop i).map λm=>(m.1,Ak.FC kn m.2)).Perm dl)
  ⟨ν,ν,xK,_,rfl,λb e h=>(CM h).2,xM,vDB,by rw[M8];exact pmD⟩ (λj σ Y _ ⟨_,_,_,_,_,s,_⟩=>Ag.of (((subB j).trans s) _ _ pB)) ?_ ?_⟩
 ·refine λj x σ Y _ go hx h0=>DB λX hX=>?_;obtain⟨o6,o7,xs,dl,rfl,si,cY,vD,pm⟩:=h0;rw[bv]at hx;cases g:I[j]? with
  |none=>rw[g]at hx;cases hx
  |some d=>
   rw[g]at hx;cases hx;obtain⟨m,hm,on⟩:=gone g;obtain⟨bd,bt,bz,bp⟩:=on.is hG aQ;have tR:=on.so;have D:=(subB j).trans si;have tU:d.At E:=Dc.Cq xN d (ACx g);have tV:d.At Hk:=Dc.Cq me d (ACx g);have ad:∀c∈d.addrs,∀o,E c=ι o->Y c=ι o:=λc U o h=>si _ _ (by
    obtain⟨h1,h2⟩:=Dc.Gv J.nd g U;rw[Aq (λz=>(ca.mp z).elim (λz=>mf (by rw[<-z];exact h1)) h2)];exact h)
   have vN:Val (only d.addrs E) d.val d.tr:=Zq tU;have kfn:KF K (only d.addrs E):=cR tV kf;have mj:cB (only d.addrs E) Y:=RV ad λc U=>L c (Dc.Gv J.nd g U).1;have Dd:C∉d.addrs:=λz=>mf (Dc.Gv J.nd g z).1;subst hX;dsimp only[Aj];refine⟨_,rfl,d.val,d.tr,rfl,mj.val vN,bd,bt,by lia,by lia,λH4 s4=>⟨_,rfl,Ar ⟨_,rfl,_,rfl,v,d.val,a,d.tr,rfl,oS.up<|D.trans s4,(mj.up s4).val vN,hG,bd,tR,by lia,by lia,by lia,by lia,λH5 s5=>⟨_,rfl,Ar ?_⟩⟩⟩⟩;have s45:=s4.trans s5;refine⟨_,rfl,d.val,d.tr,rfl,(mj.up s45).val vN,bd,by lia,by lia,λH6 s6=>?_⟩;have s46:=s45.trans s6;refine⟨_,rfl,v,a,rfl,oS.up<|D.trans s46,hG,by lia,by lia,by lia,λH7 s7=>?_⟩;have s47:=s46.trans s7;refine⟨_,_,rfl,rfl,rfl,_,rfl,BN (by rw[bz];simp) ⟨_,rfl,_,rfl,by decide,.mk λpE2 H8 hE2 sE2 fE2=>?_⟩⟩;have s48:=s47.trans sE2;refine⟨_,rfl,v,d.val,a,d.tr,pE2,pC,[],kn,rfl,oS.up<|D.trans s48,(mj.up s48).val vN,hG,bd,tR,by lia,by lia,by lia,fE2,by simp;lia,(D.trans s48) _ _ CB,by lia,λD7 cx H9 s9 n9 f9 v9 l9=>?_⟩;dsimp only[Aj];rw[on.more kn]at v9;obtain⟨y,ey,dy⟩:∃y,cx=[y]/\Dw H9 y (m.1,Ak.FC kn m.2):=by
    cases v9 with
    |cons h t=>cases t;exact⟨_,rfl,h⟩
   subst ey;have s49:=s48.trans s9;have oU:=D.trans s49;have D9:=s49 _ _ cY;have tdr:ms.drop j=m::ms.drop (j+1):=by
    have hj:=DR hm;rw[j3 hj];rw[ACu hj]at hm;rw[ACw hm]
   rw[tdr,ge]at pm;have mem:(m.1,Ak.FC kn m.2)∈dl:=pm.mem_iff.mp dL;have v99:Paired (Dw H9) xs dl:=Bv vD λb zs h=>oU _ _ h;refine⟨_,rfl,D7,_,rfl,.inl<|Ag.of f9,rfl,_,rfl,BN (by simp) ⟨_,rfl,D7,_,0,y,rfl,rfl,Ag.of f9,YU,_,rfl,C,xs,dl,_,rfl,D9,v99,dy,mem,_,rfl,Ar ⟨_,rfl,_,rfl,_,rfl,v,d.val,a,d.tr,i::f,l,ws,ds,rfl,oS.up oU,(mj.up s49).val vN,Ax,hz,bd,tR,by lia,on.KL,by lia,oU _ _ hlB,hwB.up oU,hd,oH,xF,J.fn,J.fo,λmL s10=>⟨_,rfl,Ar ?_⟩⟩⟩⟩;have s410:=s49.trans s10;have tW:=D.trans s410;have xP:=s410 _ _ cY;have tX:∀b zs,B b=ι (.tup zs)->mL b=ι (.tup zs):=λb zs h=>tW _ _ h;refine⟨_,rfl,.inl ⟨rfl,_,Ag.of xP⟩,_,rfl,D7,_,0,y,rfl,rfl,Ag.of<|s10 _ _ f9,YU,C,xs,dl,y,_,rfl,rfl,xP,Bv vD tX,dy.up λb zs h=>s10 _ _ h,mem,λjj ie=>?_⟩;have fU:upd mL C (.lst<|xs.eraseIdx jj) C=ι (.lst<|xs.eraseIdx jj):=AA;have aU:∀b e,b≠C->Y b=ι e->upd mL C (.lst<|xs.eraseIdx jj) b=ι e:=λb e n h=>by rw[AH n];exact s410 _ _ h
   generalize upd mL C (.lst<|xs.eraseIdx jj)=kc at fU aU⊢;have tY:cB (only d.addrs E) kc:=RV (λc U o h=>aU _ _ (λz=>Dd<|by rw[<-z];exact U)<|ad c U o h) λc U=>L c (Dc.Gv J.nd g U).1;have hg:=Pt.Ql d.tr;refine⟨_,rfl,only d.addrs E,d.val,d.tr,0,rfl,kfn,vN,Pt.eC _ bd,by lia,by lia,Wn.of tY _,λHL wn fr=>?_⟩;refine go.n ⟨_,_,xs.eraseIdx jj,dl.eraseIdx jj,rfl,?_,?_,Ta vD jj,(pm.trans<|RO ie).cons_inv⟩
   ·refine fr.out (λb e h=>?_) (λb e h=>MC λm=>?_)
    ·obtain⟨h1,h2⟩:=CM h;rw[Dc.GW g]at h1;refine aU _ _ (λz=>h1<|by rw[z];exact dL)<|si _ _ ?_;rw[Aq λm=>h1<|(ca.mp m).elim (λz=>by rw[z];exact dL) λm=>b9 _<|e9 _ m];exact h2
    ·obtain⟨h1,h2⟩:=CM h;rw[Dc.GW g]at h1;exact h1<|b9 _<|gl _ m
   ·rcases fr C _ fU with h|⟨u,t,_,r,_⟩
    ·exact h
    ·rcases r with r|⟨o,r⟩
     ·exact absurd (Gw r).1 Dd
     ·exact absurd (Gw r).1 Dd
 ·rintro σ Y ⟨o6,o7,xs,dl,rfl,si,cY,vD,pm⟩;have D:=(subB _).trans si;rw[ap,tP,J0,B2]at pm;have:=pm.nil_eq;subst this;cases vD;exact⟨_,rfl,by decide,.mk λpE H5 hE sE fE=>⟨C,pE,[],rfl,rfl,Ag.of<|sE _ _ cY,Ag.of fE,q H5 (tQ _<|D.trans sE)<|tbB.up<|D.trans sE⟩⟩
theorem aD(F:Fq K "_law_large" 57 f fd)(T:Txt mg)(d:Df P w K mg base "_law_mix" lqg 1 Jk):Ab P w K mg base Bs 2 f fd lqm UX:=by
 refine F.oq ["_law_asks_here","_law_cell_here","_law_names_here","_law_way","_law_number","_law_k","_law_more_here","_law_cells"] λH _ _ A_ _ Z h=>?_;obtain⟨v,a0,c,nm,ys,rfl,hv,Ax,za,da,aQ,hn,q⟩:=h;refine⟨_,(AB (Ad 3 A_<|AN BE (Bc d Z<|AE (pv 1)<|AY AG) AG)<|AB (Ad 4 A_<|Bc d Z<|AE (pv 1)<|AY AG)<|AB (AV (AO BR (pv 3) AG<|Aa _) (AD<|HQ (BI rfl T.range<|AY<|AN Bi AG<|AN BE (pv 4) AG) (Bp 5 A_)<|AB (Ad 6 A_<|FJ BR (AN BE (AN CG (Bc d Z<|AE (pv 1)<|AY AG)<|Fp K (@Af _ _ _ _<|Nm<|Nm<|Nm<|Nm<|Nm<|Nm<|Nm<|Nm<|Nm<|Nm A')<|pv 5) AG) AG<|Aa _)<|AD<|AV (AO BR (AN BE (AN CG (Bc d Z<|AE (pv 1)<|AY AG)<|Fp K (@Af _ _ _ _<|Nm<|Nm<|Nm<|Nm<|Nm<|Nm<|Nm<|Nm<|Nm<|Nm A')<|pv 5) AG) AG<|Aa _) (AD<|Ad 0 A_<|Al<|AE AZ<|AE (Af<|AY<|pv 0)<|AY<|pv 6)<|AD<|Ad 0 A_<|Al<|AE AZ<|AE (KW (GA (Fp K (pv 2)<|AN BE (pv 5) AG) (pv 0) KU) rfl rfl (by simp)<|by simp)<|AE (Af A')<|AY<|pv 6) AL)<|AB (AV (AO BR (pv 3) AG<|Aa _) (AB (FO (i:=7) (fv:=lqA) (fs:=[1]) rfl (.of<|by rfl) A_ rfl (X4 rfl) (BI rfl T.range<|AY<|AN Bi AG<|AN BE (pv 4) AG) (λ_ _ _ _=>KX) λC s0 H0 fp=>(Fp K (Af<|AE (Al<|AY AZ)<|AY<|Al<|AE AZ<|AY<|pv 0)<|AN BE (AN CG (Bc d Z<|AE (pv 1)<|AY AG)<|AN Bi (pv 0) AG) AG))<|AD<|Ad 0 A_<|Al<|AE AZ<|AE (AN Hd (pv 7)<|Af<|AY<|pv 0)<|AY<|FJ BR (AN BE (AN CG (pv 4) AG) AG) AG<|Aa _) AL)<|AD<|AM<|pv 0),?_⟩;refine⟨_,rfl,c,6,rfl,by decide,λr6 _ _=>⟨_,_,rfl,rfl,Bq,?_⟩⟩;generalize r6 % 8=wy;refine⟨_,rfl,c,7,rfl,by decide,λl _ _=>?_⟩;dsimp only[Aj];refine Sr (t:=Rr _ _ _) (fun σ' H1=>∃(w:V)(b:Ak)(B E:Option V),σ'=[ι w,ι<|.int c,ι<|.ref nm,ι<|.int wy,ι<|.int l,B,E,ν]/\AF H H1/\Val H1 w b.pt/\b.ok/\b.size<=67/\b.deep<=15/\b.ER/\(wy≠0->b.size<=57/\b.deep<=5)) (fun σ' H1 ⟨w,b,B,E,es,s1,U,G,bz,bd,I,bw⟩=>?_) (λkey=>?_);rotate_left
 ·refine⟨_,rfl,rfl,_,rfl,GH (λh0=>?_) λh0=>key _ _ ⟨v,a0,ν,ν,rfl,AF.refl H,hv,Ax,by lia,by lia,aQ,λ_=>⟨za,da⟩⟩⟩;have wy0:wy=0:=V.int.inj<|of_decide_eq_true h0;have m5:=HJ l (n:=5) (by decide);obtain⟨k5,xQ⟩:∃k:Nat,6+l % 5=(k:Int):=⟨(6+l % 5).toNat,by lia⟩;have k10:k5<=10:=by lia
  refine⟨_,rfl,_,_,rfl,rfl,Bq,_,_,rfl,rfl,?_⟩;rw[xQ];refine⟨k5,rfl,by lia,by lia,Ce (lo:=0) (n:=k5) (λi σ Hi=>∃(w:V)(b:Ak)(B E:Option V),σ=[ι w,ι<|.int c,ι<|.ref nm,ι<|.int wy,ι<|.int l,B,E,ν]/\AF H Hi/\Val Hi w b.pt/\b.ok/\b.size<=57+i/\b.deep<=5+i/\b.ER) ⟨v,a0,ν,ν,rfl,AF.refl H,hv,Ax,by lia,by lia,aQ⟩ ?_ ?_⟩
  ·refine λi σ Hi _ go hi h0=>DB λX hX=>?_;obtain⟨w,b,B,E,rfl,si,U,G,bz,bd,I⟩:=h0;obtain⟨L,hL⟩:∃L:List V,L=[V.int 1,.int 2,.int 4,.int 8,.int 16,.int 32,.int 64,.int 128,.int 256,.int 512]:=⟨_,rfl⟩;obtain⟨v4,J,p⟩:=IM (xs:=L) (i:=0+(i:Int)) (by lia) (by rw[hL];simp only[g6,F7];lia);have vb4:∃m:Int,v4=.int m/\0<m/\m<1073741824:=by
    rw[hL]at p;simp only[ca,I9,or_false]at p;rcases p with rfl|rfl|rfl|rfl|rfl|rfl|rfl|rfl|rfl|rfl<;>exact⟨_,rfl,by decide,by decide⟩
   obtain⟨m,rfl,oM,cm⟩:=vb4;rw[hL]at J;clear p hL;subst hX;refine⟨_,rfl,c,8,rfl,by decide,λr8 _ _=>⟨Au<|show 10<=1000 by decide,λpl WA=>⟨_,rfl,pl,_,_,_,rfl,rfl,Ag.of AA,J,_,_,rfl,rfl,⟨oM,cm⟩,_,_,rfl,rfl,Bq,rfl,?_⟩⟩⟩;have sl:=AF.new (o:=.lst [V.int 1,.int 2,.int 4,.int 8,.int 16,.int 32,.int 64,.int 128,.int 256,.int 512]) WA;generalize upd Hi pl (.lst [V.int 1,.int 2,.int 4,.int 8,.int 16,.int 32,.int 64,.int 128,.int 256,.int 512])=Hj at sl⊢;generalize decide (V.int (r8/m % 2)=V.int 1)=M;refine⟨_,rfl,c,9,rfl,by decide,λr9 _ _=>⟨Au<|show 10<=1000 by decide,λxR tZ=>⟨_,rfl,xR,_,_,_,rfl,rfl,Ag.of AA,J,_,_,rfl,rfl,⟨oM,cm⟩,_,_,rfl,rfl,Bq,rfl,_,rfl,?_⟩⟩⟩;have N:=AF.new (o:=.lst [V.int 1,.int 2,.int 4,.int 8,.int 16,.int 32,.int 64,.int 128,.int 256,.int 512]) tZ;generalize upd Hj xR (.lst [V.int 1,.int 2,.int 4,.int 8,.int 16,.int 32,.int 64,.int 128,.int 256,.int 512])=Y at N⊢;have sk:=(si.trans sl).trans N;have vk:=(U.up sl).up N;refine GH (λ_=>?_) λ_=>?_
   ·refine⟨_,rfl,Aw,λe g=>⟨_,rfl,RX,λp2 r=>?_⟩⟩;have t1:=AF.new (o:=.lst [w]) g;have u:upd Y e (.lst [w]) e=ι (.lst [w]):=AA;generalize upd Y e (.lst [w])=Hm at t1 u r⊢;have t2:=AF.new (o:=.tup [.str "row",.ref e,.bl M]) r;refine go.n ⟨.ref p2,.row [b] M,_,_,rfl,(sk.trans t1).trans t2,.tup (BP.of AA)<|.cons (.str _)<|.cons (.lst (.inl<|t2 _ _ u)<|.cons ((vk.up t1).up t2) .nil)<|.cons (.bl _) .nil,⟨G,trivial⟩,?_,?_,⟨I,trivial⟩⟩
    ·simp only[Ak.size,Ak.AI];lia
    ·simp only[Ak.deep,Ak.AR];lia
   ·have m4:=HJ (0+(i:Int)) (n:=4) (by decide);obtain⟨jj,ie⟩:∃j:Nat,(0+(i:Int)) % 4=(j:Int):=⟨((0+(i:Int)) % 4).toNat,by lia⟩;obtain⟨y,hy⟩:=B' ys jj (by rw[hn.len];lia);refine λe g=>?_;have t1:=AF.new (o:=.dK []) g;refine⟨_,rfl,_,rfl,_,_,rfl,rfl,Bq,nm,_,_,_,rfl,rfl,Ag.of<|(sk.trans t1) _ _ hn.at_,by rw[ie];exact Am<|by rw[bv,hy];rfl,_,rfl,AA,[(d0 y,w)],rfl,by simp,?_⟩;have m1:CW [] [((d0 y:Key),w)]=[(d0 y,w)]:=rfl;rw[m1];have ml:AF Y (upd (upd Y e<|.dK []) e<|.dK [(d0 y,w)]):=t1.put g;have u:upd (upd Y e<|.dK []) e (.dK [(d0 y,w)]) e=ι (.dK [(d0 y,w)]):=AA;generalize upd (upd Y e<|.dK []) e (.dK [(d0 y,w)])=Hm at ml u⊢;refine⟨d9 _,.mk λp2 Hn r t2 f2=>⟨_,rfl,Au<|show 4<=1000 by decide,λp3 O=>?_⟩⟩;have t3:=AF.new (o:=.tup [.str "table",.ref e,.ref p2,.bl M]) O;have t12:=ml.trans t2;refine go.n ⟨.ref p3,.tab [y] [b] [] M,_,_,rfl,(sk.trans t12).trans t3,.tup (BP.of AA)<|.cons (.str _)<|.cons (.BV (ks:=[y]) (.inl<|t3 _ _<|t2 _ _ u) rfl<|.cons ((vk.up t12).up t3) .nil)<|.cons (.lst (.inl<|t3 _ _ f2) .nil)<|.cons (.bl _) .nil,?_,?_,?_,⟨by simp,I,trivial⟩⟩
    ·simp only[Ak.ok];exact⟨rfl,by simp,λk hk=>by rw[bi.mp hk];exact hn.nb _<|ACx hy,by simp,⟨by simp,.nil,rfl⟩,λx hx=>(nomatch hx),G,trivial⟩
    ·simp only[Ak.size,Ak.AI];lia
    ·simp only[Ak.deep,Ak.AR];lia
  ·rintro σ Hi ⟨w,b,B,E,rfl,si,U,G,bz,bd,I⟩;exact key _ _ ⟨w,b,B,E,rfl,si,U,G,by lia,by lia,I,λz=>absurd wy0 z⟩
 subst es;refine⟨_,rfl,rfl,_,rfl,GH (λh1=>?_) λ_=>⟨_,rfl,q w b H1 s1 U G (by lia) bd I⟩⟩;have wy1:wy=1:=V.int.inj<|of_decide_eq_true h1;have bw:=bw (by lia);have m4:=HJ l (n:=4) (by decide);obtain⟨n4,mn⟩:∃k:Nat,9+l % 4=(k:Int):=⟨(9+l % 4).toNat,by lia⟩;have n12:n4<=12:=by lia
 refine⟨_,rfl,_,_,rfl,rfl,Bq,_,_,rfl,rfl,?_⟩;rw[mn];refine⟨n4,rfl,by lia,by lia,?_⟩;refine Ib ν n4 (λi=>.int<|0+(i:Int)) (λi Q S=>∃A:List Ak,Q=Ak.HN A/\Ak.JC A/\Ak.AI A<=i/\Ak.AR A<=1/\Ak.Mc A) (by lia) (λD hD=>⟨[],rfl,trivial,by simp[Ak.AI],by simp[Ak.AR],trivial⟩) (λi Q S D ws bt hD iv=>iv) (λl' z=>nomatch z) (λi Q S hi s iv=>hi) (λi Q S v H' hi s iv y=>⟨y.2,y.1⟩) (λQ S s iv=>bn _) (λi Q S R hi bt ⟨A,e1,e2,e3,e4,e5⟩ lu k=>?_) λD S ws Q hD bt d2 lu vl ⟨A,e1,e2,e3,e4,e5⟩=>?_
 ·refine⟨Aw,.mk λq1 H3 hq1 t1 u=>⟨_,rfl,An,.mk λq2 H4 hq2 t2 f2=>⟨An,.mk λq3 H5 hq3 t3 f3=>⟨_,rfl,c,8,rfl,by decide,λr8 _ _=>?_⟩⟩⟩⟩;have m2:=HJ (r8/(0+(i:Int)+1)) (n:=2) (by decide);obtain⟨v2,hv2,xS⟩:=IM (xs:=[V.ref q1,V.ref q2]) (i:=r8/(0+(i:Int)+1) % 2) m2.1 m2.2;refine⟨_,rfl,_,_,rfl,rfl,_,_,rfl,rfl,⟨by lia,by lia⟩,_,_,rfl,rfl,Bq,q3,_,_,_,rfl,rfl,Ag.of f3,hv2,?_⟩;have tt:=(t1.trans t2).trans t3;have add:∀a:Ak,a.ok->a.size=1->a.deep=1->Val (nw S H5) v2 a.pt->a.ER->R v2 H5:=λa h1 h2 h3 h4 h5=>k v2 a.pt H5 (.of tt) h4 ⟨A++[a],by rw[Ak.FU,e1];rfl,Ak.FV e2<|Ak.Kb h1,by rw[Ak.Bd,Ak.Gj];lia,by rw[Ak.Dt,Ak.Gm];lia,Ak.EX e5 ⟨h5,trivial⟩⟩;simp only[ca,I9,or_false]at xS;rcases xS with rfl|rfl
  ·exact add .any trivial rfl rfl (.tup (BP.of<|by rw[BZ hq1];exact(t2.trans t3) _ _ u)<|.cons (.str _) .nil) trivial
  ·exact add (.Ao<|.int<|0+(i:Int)) (by simp only[Ak.ok];exact⟨.one<|.int _,trivial,by simp[Pt.size]⟩) rfl rfl (.tup (BP.of<|by rw[BZ<|t1.free hq2];exact t3 _ _ f2)<|.cons (.str _)<|.cons (.int _) .nil) trivial
 ·subst e1;have s2:=bt.same;refine⟨_,rfl,_,rfl,Aw,.mk λe H3 g t1 u=>?_⟩;have lws:=vl.length;refine⟨D,e,_,_,rfl,rfl,t1 _ _ d2,u,Au<|by simp only[g6,F7];lia,.mk λp2 H4 r t2 f2=>⟨_,rfl,_,_,rfl,rfl,C_,_,_,rfl,rfl,Bq,rfl,RX,λp3 O=>?_⟩⟩;generalize decide (V.int (l/4 % 2)=V.int 1)=M;have t3:=AF.new (o:=.tup [.str "row",.ref p2,.bl M]) O;have tt:=(t1.trans t2).trans t3;refine⟨_,rfl,q (.ref p3) (.row (A++[b]) M) _ ((s1.trans s2).trans tt) (.tup (BP.of AA)<|.cons (.str _)<|.cons (.lst (.inl<|t3 _ _ f2) ?_)<|.cons (.bl _) .nil) (Ak.FV e2<|Ak.Kb G) ?_ ?_<|Ak.EX e5 ⟨I,trivial⟩⟩
  ·rw[Ak.FU];exact((vl.up OX).up tt).snoc<|(U.up s2).up tt
  ·simp only[Ak.size];rw[Ak.Bd,Ak.Gj];lia
  ·simp only[Ak.deep];rw[Ak.Dt,Ak.Gm];lia
theorem jC(F:Fq K "law" 58 f fd)(T:Txt mg)(g:Df P w K mg base "_law_cell" lqu 1 (X_ K))(L:Df P w K mg base "_law_mix" lqg 1 Jk)(Z:Df P w K mg base "_law_names" lqA 2 QT)(iw:Df P w K mg base "_law_doc" lqh 2 Oa)(mq:Df P w K mg base "_law_copy" lqj 50 (Ka 50))(mu:Df P w K mg base "_law_asks" lqf 10 (Ob 10))(A:Df P w K mg base "_law_right" lqn 52 (Ni TM aN aO))(jD:Df P w K mg base "_law_large" lqm 2 UX):Ab P w K mg base Bs 80 f fd lqF (MF K TM):=by
 refine F.oq ["_law_script","_law_names_here","_law_drawn","_law_asks_here","_law_cell_here","_law_avoid","_law_others","_law_told","_law_kept","_law_turn"] λH _ _ A_ Gx E h=>?_;obtain⟨a,ns,rfl,hS,hlen,hT,q⟩:=h;refine⟨_,(AB (Dy (i:=1) A_ rfl (Op rfl)<|Bc Z E<|AY<|Bc g E<|AE (pv 0)<|AY AG)<|AB (Ad 2 A_<|Bc mu E<|AE (cmp lqF [0] (BI rfl T.range<|AY AG) λ_ _ _ _=>(Bc g E<|AE (pv 1)<|AY<|AN Bi AG<|pv 0))<|AE AG<|AY<|pv 1)<|AB (Ad 3 A_<|Bc jD E<|AE (pv 2)<|AE (Bc g E<|AE (pv 0)<|AY AG)<|AY<|pv 1)<|AB (Dy (i:=4) A_ rfl (Op rfl)<|Bc g E<|AE (pv 0)<|AY AG)<|AB (FO (i:=5) (fv:=["_law_cell_here","_law_names_here"]) (fs:=[4,1]) rfl (.of<|by rfl) A_ rfl (X4 rfl) (BI rfl T.range<|AY<|AN BE (Bc L E<|AE (pv 4)<|AY AG) AG) (λ_ _ _ _=>KX) λC s0 H0 fp=>(Bc iw E<|AE (pv 1)<|AE (AN Bi AG<|pv 0)<|AY<|pv 2))<|AB (Dy (i:=6) A_ rfl (Op rfl)<|Af<|AE AZ<|AY AZ)<|AB (FO (i:=7) (fv:=["_law_names_here","_law_others","_law_cell_here"]) (fs:=[1,6,4]) rfl (.of<|by rfl) A_ rfl (X4 rfl) (BI rfl T.range<|AY<|AN BE (AN CG (Bc L E<|AE (pv 4)<|AY AG) AG) AG) (λ_ _ _ _=>KX) λC s0 H0 fp=>(Fp K (AN Hd (pv 1)<|pv 2)<|AN BE (Bc L E<|AE (pv 3)<|AY<|AN Bi AG<|pv 0) AG))<|AB (Ad 8 A_<|Bc mq E<|AY<|Al<|AE (pv 3)<|AE (pv 5)<|AY<|pv 7)<|AB (HQ (BI rfl T.range<|AY AG) (Bp 9 A_)<|AD<|AV (PW.pt<|pw_or (CV<|As<|Bc A E<|AE (pv 3)<|AE (pv 5)<|AY<|pv 7)<|pw_or1<|AO (iU (BX.units E):Dr _ _ lR) (Al<|AE (pv 3)<|AE (pv 5)<|AY<|pv 7) (pv 8)<|Aa _) (AD<|AM Dp) AL)<|AD<|AM<|Fu (Bc A E<|AE (pv 3)<|AE (Af A')<|AY<|pv 1)<|Ft<|Bc A E<|AE (Al<|AE AZ<|AE (KW (GA (Fp K (pv 1) AG) (pv 3) KU) rfl rfl (by simp)<|by simp)<|AE (Af A')<|AY Dp)<|AE (pv 5)<|AY<|pv 7),?_⟩;refine⟨_,rfl,a,ns,0,rfl,hS,λc0 _=>⟨c0,rfl,λnm M H1 s1 nn hn=>?_⟩⟩;refine⟨12,rfl,by decide,by decide,DH (n:=12) (λi=>.int<|0+(i:Int)) (λ_ v=>∃z:Int,v=.int z) (by decide) (λi S J s2=>J) (λi S v H' J s2 y=>⟨y.2,y.1⟩) (λS s2=>bn _) (λi S R J s2 r=>⟨_,rfl,_,rfl,_,_,rfl,rfl,a,ns,2+i,(by show[V.ref a,V.int<|2+(0+(i:Int))]=_;simp),(s1.trans s2).seq hS,λc _=>r _ S (AF.refl _) ⟨c,rfl⟩⟩) λD1 S Rh tj s2 d1 rQ ov1=>?_⟩;obtain⟨cs1,rfl⟩:=ints_of ov1;rw[ap]at rQ;have D1n:nm≠D1:=λz=>by rw[<-z,hn.at_]at tj;cases tj
 refine⟨_,rfl,D1,4,nm,cs1,M,rfl,by decide,d1,by lia,D1n,hn.up s2,λv1 a1 ABZ H3 bt3 hl3 le3 v3 ok3 sz3 dp3 fw3=>?_⟩;have s13:AF H1 H3:=bt3.over s2 tj;have S3:=s1.trans s13;have V1:Val H3 v1 a1.pt:=v3.up OX;refine⟨_,rfl,_,rfl,a,ns,0,rfl,S3.seq hS,λc1 _=>⟨_,rfl,v1,a1,c1,nm,M,rfl,V1,ok3,by lia,by lia,fw3,hn.up s13,λN b H4 s4 vb bo bz bd bf=>?_⟩⟩;have bG:=Ak.QY b bo;have bw:=Ak.QZ b bo;have bd2:=Ak.Ub b bo;have S4:=S3.trans s4;have mn:=(hn.up s13).up s4;clear V1 v3;refine⟨_,rfl,a,ns,1,rfl,S4.seq hS,λc4 _=>?_⟩;dsimp only[Aj];refine⟨_,rfl,c4,0,rfl,by decide,λr0 g0 g1=>?_⟩;obtain⟨k4,sP⟩:∃k:Nat,r0 % 4=(k:Int):=⟨(r0 % 4).toNat,by lia⟩;have hk3:k4<=3:=by lia
 refine⟨r0,4,rfl,rfl,by decide,?_⟩;rw[sP];refine⟨k4,rfl,by lia,by lia,?_⟩;refine WR ν k4 (λi=>.int<|0+(i:Int)) (λi G H5=>∀u∈G,u.doc/\u.size<=4/\u.deep<=2) (by lia) (λD hD u Gx=>nomatch Gx) (λi G S D ws s hD iv=>iv) (λl z=>nomatch z) (λi G S J s iv=>J) (λi G S v H' J s iv y=>⟨y.2,y.1⟩) (λG S s iv=>bn _) (λi G S R J s iv lu k=>?_) λDA H5 ws G hDA s5 d5 lu5 v5 oV=>?_
 ·refine⟨_,rfl,_,rfl,_,_,rfl,rfl,_,rfl,c4,1+i,nm,M,(by show[V.int c4,V.int<|1+(0+(i:Int)),V.ref nm]=_;simp),by lia,mn.up s.same,λv t H' s' sm=>?_⟩;refine k v t H' (.of s') sm.val λu Gx=>?_;rcases db.mp Gx with h|h
  ·exact iv u h
  ·rw[bi.mp h];exact⟨sm.doc,sm.size,sm.deep⟩
 have s45:AF H4 H5:=s5.same;have lw5:=v5.length;have z5:=Pt.Dj (n:=4) λd hd=>(oV d hd).2.1;have tm:Pt.CF G:=Pt.EV λd hd=>(oV d hd).1;have p5:Pt.AR G<=2:=Pt.GR λd hd=>(oV d hd).2.2;have v5:=v5.up<|OX (H:=upd H4 DA<|.lst []);clear oV;dsimp only[Aj];have S5:=S4.trans s45;have vb5:=vb.up s45;have hn5:=mn.up s45;refine⟨An,.mk λpO H6 hO sO fO=>?_⟩;dsimp only[Aj];have S6:=S5.trans sO;have oW:=hn5.up sO;refine⟨_,rfl,c4,0,rfl,by decide,λr1 _ _=>⟨r1,4,rfl,rfl,C_,r1/4,6,rfl,rfl,by decide,?_⟩⟩;obtain⟨k6,hk6⟩:∃k:Nat,r1/4 % 6=(k:Int):=⟨(r1/4 % 6).toNat,by lia⟩;have xQ:k6<=5:=by lia
 rw[hk6];refine⟨k6,rfl,by lia,by lia,?_⟩;refine IW k6 (λi=>.int<|0+(i:Int)) (λD i Hj=>H6 D=ν/\AF H6 Hj/\∃B:List Str,Hj D=ι (.lst<|B.map V.str)/\B.length=i/\∀t∈B,CS t=true) (λD hD=>⟨hD,AF.new hD,[],AA,rfl,λt ht=>nomatch ht⟩) (λD i Hj J _=>J) (λD i Hj v H' J _ y=>⟨y.2,y.1⟩) (λD Hj _=>bn _) (λD i Hj _ J ⟨hD,sj,B,fD,lt,nt⟩=>?_) λDT H7 _ ⟨hDT,s67,B,xT,lt,nt⟩=>?_
 ·refine⟨_,rfl,_,rfl,nm,pO,_,_,rfl,rfl,sj _ _ oW.at_,sj _ _ fO,Au<|by rw[ap,oW.len];decide,λpC hC=>?_⟩;have sC:=AF.new (o:=.lst<|M.map V.str++[.str "a",.str "q"]) hC;have fC:upd Hj pC (.lst<|M.map V.str++[.str "a",.str "q"]) pC=ι (.lst<|(M++(["a","q"]:List Str)).map V.str):=by rw[AA,io];rfl
  generalize upd Hj pC (.lst<|M.map V.str++[.str "a",.str "q"])=H8 at sC fC⊢;refine⟨_,rfl,_,rfl,_,_,rfl,rfl,c4,4+i,(by show[V.int c4,V.int<|4+(0+(i:Int))]=_;simp),by lia,λr2 _ _=>⟨r2,6,rfl,rfl,by decide,?_⟩⟩;obtain⟨k2,Ya⟩:∃k:Nat,r2 % 6=(k:Int):=⟨(r2 % 6).toNat,by lia⟩;have l6:(M++(["a","q"]:List Str)).length=6:=by rw[b8,oW.len];rfl
  obtain⟨x,U⟩:=B' (M++(["a","q"]:List Str)) k2 (by lia);have nx:CS x=true:=by
   rcases db.mp (ACx U)with h|h
   ·exact oW.nb x h
   ·rcases ca.mp h with rfl|h
    ·decide+kernel
    ·rw[bi.mp h];decide+kernel
  rw[Ya];have D8:=sC _ _ fD;refine⟨pC,_,_,.str x,rfl,rfl,Ag.of fC,Am<|by rw[bv,U];rfl,B.map V.str,D8,Ac<|by rw[ap];lia,hD,(sj.trans sC).put hD,B++[x],by rw[AA,io];rfl,by simp[lt],λt ht=>?_⟩;rcases db.mp ht with ht|ht
  ·exact nt t ht
  ·rw[bi.mp ht];exact nx
 dsimp only[Aj];have s47:=(s45.trans sO).trans s67;have S7:=S4.trans s47;have xU:=vb.up s47;have hn7:=mn.up s47;have d7:=s67 _ _<|sO _ _ d5;have v7:=(v5.up sO).up s67;have xV:∀X:Hp,AS X (B.map V.str) (B.map Pt.str):=λX=>Qc B;have dts:Pt.CF (B.map Pt.str):=Pt.EV λx U=>by
  obtain⟨t,ht,rfl⟩:=m7.mp U;have:=(Vl<|nt t ht).2;show t.length<=100;exact j5 this<|by decide
 have zts:Pt.AI (B.map Pt.str)<=5:=by
  have:=Pt.Dj (n:=1) (l:=B.map Pt.str) λx U=>by obtain⟨t,_,rfl⟩:=m7.mp U;exact bn _
  rw[ap]at this;lia
 have pts:Pt.AR (B.map Pt.str)<=1:=Pt.GR λx U=>by obtain⟨t,_,rfl⟩:=m7.mp U;exact bn _
 refine⟨_,rfl,_,rfl,_,rfl,RX,.mk λpT HE hpT tT fT=>?_⟩;have dpb:=Ak.dz b;have nb:=Ak.Qa b bG (by lia);obtain⟨tk,oX⟩:∃tk,tk=Pt.tup [b.pt,.lst G,.lst<|B.map Pt.str]:=⟨_,rfl⟩;have nK:tk.nice:=by
  rw[oX];simp only[Pt.nice,Pt.EY];exact⟨by simp,nb,Pt.Ic (.lst G) tm<|by simp only[Pt.size];lia,Pt.Ic (.lst<|B.map Pt.str) dts<|by simp only[Pt.size];lia,trivial⟩
 have dK:tk.deep<=40:=by rw[oX];simp only[Pt.deep,Pt.AR];lia
 refine⟨.ref pT,tk,rfl,by rw[oX];exact .tup (BP.of fT)<|.cons (xU.up tT)<|.cons (.lst (.inl<|tT _ _ d7)<|v7.up tT)<|.cons (.lst (.inl<|tT _ _ xT)<|xV _) .nil,nK,by lia,λwK HF sF vK=>?_⟩;have vKF:=vK.up OX;have SF:=tT.trans sF;have vbF:=xU.up SF;have dF:=SF _ _ d7;have tF:=SF _ _ xT;have vF:=v7.up SF;have O:HF TM=ι (.Ju #[]):=SF _ _<|S7 _ _ hT;have hnF:=hn7.up SF;clear vK;dsimp only[Aj];obtain⟨Q,I⟩:∃Q,Q=CJ [TM] HF:=⟨_,rfl⟩;have tJ:Q TM=none:=by rw[I];exact Dm dL
 have sj:AF Q HF:=λb e h=>by rw[I]at h;exact(CM h).2
 have oY:Val Q N b.pt:=by rw[I];exact vbF.Ww<|Fc O
 have xW:Val Q wK tk:=by rw[I];exact vKF.Ww<|Fc O
 have vk:AS Q ws G:=by rw[I];exact vF.Ww<|Fc O
 have lk:∀{p:Addr}{zs:List V},HF p=ι (.lst zs)->Q p=ι (.lst zs):=λ{p zs} h=>by
  rw[I,Aq]
  ·exact h
  ·exact λm=>by rw[bi.mp m,O]at h;cases h
 have dk:=lk dF;have tu:=lk tF;have nk:=lk hnF.at_;have xX:∀{Ha Hb:Hp},AF Q Ha->(∀z e,z≠TM->Ha z=ι e->Hb z=ι e)->AF Q Hb:=λ{Ha Hb} s k b e h=>k b e (Bw h tJ)<|s _ _ h;refine⟨2,rfl,by decide,by decide,Ce (lo:=0) (n:=2) (λi σ Hi=>∃(o9:Option V),σ=[ι<|.ref a,ι<|.ref nm,ι v1,ι N,ι<|.int c4,ι<|.ref DA,ι<|.ref pO,ι<|.ref DT,ι wK,o9]/\AF Q Hi/\Ey aN aO TM Hi) ⟨ν,rfl,sj,.new O⟩ ?_ ?_⟩
 ·refine λi σ Hi _ go J h0=>DB λX hX=>?_;obtain⟨o9,rfl,si,tw⟩:=h0;subst hX;dsimp only[Aj];refine⟨_,rfl,_,rfl,_,rfl,N,b,DA,ws,G,DT,B,rfl,oY.up si,bo,by lia,by lia,bf,si _ _ dk,vk.up si,tm,by lia,by lia,si _ _ tu,nt,by lia,tw,λH7 k7 tb7=>⟨_,rfl,Ar ?_⟩⟩;have s7:=xX si k7;refine⟨_,rfl,_,rfl,_,rfl,RX,.mk λpV H8 hpV sV fV=>?_⟩;have Y:=s7.trans sV;rw[oX]at xW dK;simp only[Pt.deep]at dK;exact⟨_,rfl,_,.tup (BP.of fV)<|.cons (oY.up Y)<|.cons (.lst (.inl<|Y _ _ dk)<|vk.up Y)<|.cons (.lst (.inl<|Y _ _ tu)<|xV _) .nil,xW.up Y,by lia,_,rfl,Ar<|go.n ⟨_,rfl,Y,tb7.up sV⟩⟩
 rintro σ Hi ⟨o9,rfl,si,tw⟩;refine⟨_,rfl,d9 _,.mk λpE H8 hpE sE fE=>?_⟩;have Y:=si.trans sE;refine⟨_,rfl,N,b,pE,[],[],nm,M,rfl,oY.up Y,bo,by lia,by lia,bf,fE,.nil,trivial,d9 _,d9 _,Y _ _ nk,hn.nb,by rw[hn.len];decide,tw.up sE,λH9 k9 tb9=>⟨_,rfl,CP ?_⟩⟩;have s9:=xX Y k9;obtain⟨y,hy⟩:=B' M 0 (by rw[hn.len];decide);refine λp1 xY=>?_;have t1:=AF.new (o:=.dK []) xY;refine⟨_,rfl,nm,_,0,_,rfl,rfl,Ag.of<|(s9.trans t1) _ _ nk,Am (j:=0)<|by rw[bv,hy];rfl,_,rfl,AA,[(d0 y,N)],rfl,by simp,?_⟩;have m1:CW [] [((d0 y:Key),N)]=[(d0 y,N)]:=rfl;rw[m1];have ml:AF H9 (upd (upd H9 p1<|.dK []) p1<|.dK [(d0 y,N)]):=t1.put xY;have f1:upd (upd H9 p1<|.dK []) p1 (.dK [(d0 y,N)]) p1=ι (.dK [(d0 y,N)]):=AA;generalize upd (upd H9 p1<|.dK []) p1 (.dK [(d0 y,N)])=Hm at ml f1⊢;refine⟨d9 _,.mk λp2 Hn vq t2 f2=>⟨Au<|show 4<=1000 by decide,.mk λp3 HX hp3 t3 f3=>?_⟩⟩;have t13:=(ml.trans t2).trans t3;have sX:=s9.trans t13;refine⟨_,rfl,_,rfl,.ref p3,.tab [y] [b] [] true,DA,ws,G,DT,B,rfl,.tup (BP.of f3)<|.cons (.str _)<|.cons (.BV (ks:=[y]) (.inl<|t3 _ _<|t2 _ _ f1) rfl<|.cons (oY.up sX) .nil)<|.cons (.lst (.inl<|t3 _ _ f2) .nil)<|.cons (.bl _) .nil,?_,by simp only[Ak.size,Ak.AI];lia,by simp only[Ak.deep,Ak.AR];lia,⟨by simp,bf,trivial⟩,sX _ _ dk,vk.up sX,tm,by lia,by lia,sX _ _ tu,nt,by lia,tb9.up t13,λHZ kZ tbZ=>q _⟩;simp only[Ak.ok];exact⟨rfl,by simp,λk hk=>by rw[bi.mp hk];exact hn.nb _<|ACx hy,by simp,⟨by simp,.nil,rfl⟩,λx U=>(nomatch U),bo,trivial⟩
theorem Mo(F:Px K "__init__" "Leaves.__init__" Dk f e)(T:Txt mg)(a:Df P w K mg base "leaves_in" ["docs"] 5 eK)(g:Tx K C)(m:Eb K C "used")(n:Eb K C "number"):Ab P w K mg base Bs 6 f e lqy (Uq C):=by
 refine F.oq lqy λH _ p _ b r h=>?_;obtain⟨o,c,v,t,rfl,i,s,x,y,q⟩:=h;refine⟨_,(AB (SD (pv 0) (Bc a r<|AY<|pv 1) rfl)<|AD<|SD (pv 0) AG rfl),?_⟩;have z:AF (UU o H) H:=UW;refine⟨_,rfl,v,t,rfl,s.up z,x,y,λu kvs B j k b lk A=>?_⟩;have d:=j _ _ i;refine⟨_,rfl,o,C,c,[],rfl,d,g,m,by decide,?_⟩;have l:u≠o:=Bw k i;refine⟨_,rfl,o,C,c,_,rfl,AA,g,n,w1 (Dg _ _ _)<|by decide,?_⟩;refine p<|q u kvs _ (((Bz.of j).put<|bi.mpr rfl).put<|bi.mpr rfl) k ⟨⟨c,_,AA,rfl,rfl,rfl,j5 (Dg _ _ _)<|j5 (acx<|Dg _ _ _)<|by decide⟩,?_⟩ lk A;rw[AH l,AH l];exact b
theorem ML(F:Px K "fresh" "Leaves.fresh" DQ f x)(T:Txt mg)(e:Tx K C)(y:Eb K C "used")(j:Eb K C "number"):Ab P w K mg base Bs 1 f x ["self"] (Ow C):=by
 refine F.oq ["self"] λH _ _ _ l hr h=>?_;obtain⟨o,u,N,kvs,rfl,A,D,q⟩:=h;refine⟨_,(AB (Fw L0 (Kp<|SR l (JF (pv 0)<|by rfl)<|JF (pv 0)<|by rfl)<|AD<|SD (pv 0) (AN Bi (JF (pv 0)<|by rfl) AG) rfl)<|AB (Ga l (JF (pv 0)<|by rfl) (JF (pv 0)<|by rfl) Dp rfl)<|AD<|AM<|JF (pv 0)<|by rfl),?_⟩;have ne:=A.ne;dsimp only[Kq];refine IT (λm v s=>∃a,v=[ι<|.ref o]/\Bz [o,u] H s/\Lv C s o u a kvs/\m=Jq a kvs) (Jq N kvs) ⟨N,rfl,.of<|AF.refl _,A,rfl⟩ ?_ ?_
 ·rintro m v s _ go ⟨a,rfl,B,⟨⟨c,fs,g,d,b,p,l1⟩,i⟩,rfl⟩;refine⟨_,rfl,o,C,c,fs,.int a,rfl,g,e,j,b,_,rfl,o,C,c,fs,.ref u,rfl,g,e,y,d,u,_,rfl,.inl ⟨kvs,v8 a,.inl i,rfl,rfl⟩,_,rfl,?_⟩;refine GH (λt=>?_) (λt=>?_)
  ·refine⟨_,rfl,o,C,c,fs,.int a,rfl,g,e,j,b,_,_,rfl,rfl,_,rfl,o,C,c,fs,rfl,g,e,j,by lia,?_⟩;refine go.n ⟨_,cF t,a+1,rfl,B.put dL,⟨⟨c,_,AA,?_,?_,?_,?_⟩,?_⟩,rfl⟩
   ·rw[De,if_neg<|by decide];exact d
   ·rw[De,if_pos rfl]
   ·rw[De,if_neg<|by decide];exact p
   ·rw[Qq b];exact l1
   ·rw[AH<|k8 ne];exact i
  ·have E:BF kvs (v8 a)=none:=by
    cases h:BF kvs (v8 a)with
    |none=>rfl
    |some z=>rw[h]at t;cases t
   refine⟨_,rfl,o,C,c,fs,.ref u,rfl,g,e,y,d,_,rfl,o,C,c,fs,.int a,rfl,g,e,j,b,u,_,rfl,MW.k (k:=v8 a) i<|w1 D<|by decide,?_⟩;have r:upd s u (.dK<|putK kvs (v8 a)<|.bl true) o=ι (.ins C c fs):=by rw[AH ne];exact g
   exact⟨_,rfl,o,C,c,fs,.int a,rfl,r,e,j,b,q a _ E (B.put<|b9 _<|bi.mpr rfl) ⟨⟨c,fs,r,d,b,p,l1⟩,AA⟩⟩
 ·rintro v H1 Q1 Q2 h ⟨G,e1,a1,I,J,L,M,O,Q,R,S,U,V,X,a2,Y,Z,f2,w2,y1,y2,y3,y4,y5,z1,z2,z3,z4,b1,z5,z6⟩;exact⟨G,e1,a1,I,J,L,M,O,Q,R,S,U,V,X,a2,Y,Z,f2,w2,y1,y2,y3,y4,y5,z1,z2,z3,z4,b1,z5,h _ _ z6⟩
end
end iY
namespace iY
open PySem L2
abbrev NZ(K:ACy)(x:Str):Prop:=B1 K ul x=ι ν
variable{P:List b7->Prop}
theorem ls{n:Nat}(h:∀a r,r.length=n->P (a::r)):∀us,us.length=n+1->P us:=λus e=>by
 cases us with
 |nil=>cases e
 |cons a r=>exact h a r (Nat.succ.inj e)
theorem lz(h:P []):∀us,us.length=0->P us:=λus e=>by
 cases us with
 |nil=>exact h
 |cons a r=>cases e
variable{mg:Str->Option b7}
theorem gn{K:ACy}{h:Heap}{x:Str}{st:Stmt}(X:K.In h)(G:h.Ns ul mg)(A:FA K x st)(ps:List Str)(b:∀(kV doc pm:b7) (an:Option Addr) (d ct:b7) (us:List b7),us.length=ps.length->adY (y6 x x (DF st) (CQ st) (BA st) .none kV doc pm an d ct) ⟨us,[]⟩=pure (ps.zip us):=by intro _ _ _ _ _ _;(repeat refine ls λ_=>?_);exact lz rfl):∃f c,Px K x x st f c/\Binds K c ps []/\mg x=ι (.ref f):=by
 obtain⟨f,c,F,a⟩:=A;exact⟨f,c,F,F.binds b,S2 X G a⟩
theorem dk{P:om}{w:u8}{K:ACy}{mg:Str->Option b7}{base:Heap}{x:Str}{st:Stmt}{n:Nat}{sp:Sp}{ps:List Str}(g:∃f a,Px K x x st f a/\Binds K a ps []/\mg x=ι (.ref f))(ok:∀f a,Px K x x st f a->Binds K a ps []->mg x=ι (.ref f)->Ab P w K mg base Bs n f a ps sp):Df P w K mg base x ps n sp:=by
 obtain⟨f,a,F,b,m⟩:=g;exact .mk' F b m<|ok f a F b m
variable{l:acQ}
theorem all_mk{w:u8}{K:ACy}{h:Heap}{fa f18 f47:Addr}(X:K.In h)(G:h.Ns ul mg)(hfa:mg "law"=ι (.ref fa)){t_ uA uB mw:Option Addr}{uC uD:Array (Option b7)}{uE uF uG uH jE uI uJ my m_ nA jF nB:b7}{qX:Tok}(h1:Fb K "gathered" 1)(h2:Fb K "folded" 2)(h3:Fb K "steps_of" 5)(h4:Fb K "inner_of" 6)(h5:Fb K "outer_copy" 7)(h6:Fb K "copy_of" 8)(h7:Fb K "holds" 13)(h8:Fb K "found_at" 14)(h9:Fb K "holder_in" 16)(h10:Fb K "inner_nodes" 17)(h11:Fb K "filled" 18)(h12:Fb K "is_open" 19)(h13:Fb K "holder_of" 21)(h14:Fb K "has_room" 22)(h15:Fb K "put_at" 23)(h16:Fb K "justs_in" 25)(h17:Fb K "leaves_in" 26)(a18:B1 K ul "sample_of"=ι (ι (.ref f18)))(l18:K.lookup f18=ι ⟨uE,t_,.func (y6 "sample_of" "sample_of" (DF Dx) (CQ Dx) (BA Dx) .none uF uG uH uA jE uI),uC⟩)(c18:x9 K jE "sample_of"=true)(k18:n8 K (.ref f18)=true)(h19:Fb K "sample_part" 29)(h20:Fb K "roomier" 30)(h21:Fb K "entries_within" 31)(h22:Fb K "free_steps" 32)(h23:Fb K "names_in" 33)(h24:Fb K "new_name" 34)(h25:Fb K "name_of" 35)(h26:Fb K "_law_cell" 37)(h27:Fb K "_law_mix" 38)(h28:Fb K "_law_names" 39)(h29:Fb K "_law_doc" 40)(h30:Fb K "_law_copy" 41)(h31:Fb K "_law_ruin" 42)(h32:Fb K "_law_asks" 43)(h33:Fb K "_law_lets" 44)(h34:Fb K "_law_justs" 45)(h35:Fb K "_law_leaves" 46)(h36:Fb K "_law_size" 47)(h37:Fb K "_law_least" 48)(h38:Fb K "_law_free" 49)(h39:Fb K "_law_fresh" 50)(h40:Fb K "_law_is_text" 51)(h41:Fb K "_law_is_doc" 52)(h42:Fb K "_law_known" 53)(h43:Fb K "_law_due" 54)(h44:Fb K "_law_more" 55)(h45:Fb K "_law_right" 56)(h46:Fb K "_law_large" 57)(a47:B1 K ul "law"=ι (ι (.ref f47)))(l47:K.lookup f47=ι ⟨uJ,uB,.func (y6 "law" "law" (DF Tc) (CQ Tc) (BA Tc) .none my m_ nA mw jF nB),uD⟩)(c47:x9 K jF "law"=true)(k47:n8 K (.ref f47)=true)(z1:NZ K "isinstance")(z2:NZ K "int")(z3:NZ K "bool")(z4:NZ K "str")(z5:NZ K "list")(z6:NZ K "dict")(z7:NZ K "tuple")(z8:NZ K "len")(z9:NZ K "range")(z10:NZ K "max")(z11:NZ K "min")(z12:NZ K "sorted")(z13:NZ K "all")(z14:NZ K "any")(z15:NZ K "reversed")(z16:NZ K "ValueError")(z17:NZ K "sum")(e1:B1 K ul "LETTERS"=ι (ι (.str "abcdefghijklmnopqrstuvwxyz" qX))){d nC nE:Addr}{uK uL uM uN:Option Addr}{uO uP:Array (Option b7)}{uQ uR uS uU nH uV uW uX uY uZ nM ua:b7}{K0:ACy}{cM TM:Addr}{xZ:Obj}(zZ:NZ K "zip")(ub:B1 K ul "Leaves"=ι (ι (.ref d)))(ue:q7 K (.ref d) "__init__"=ι (ι (.ref nC)))(oZ:K.lookup nC=ι ⟨uQ,uK,.func (y6 "__init__" "Leaves.__init__" (DF Dk) (CQ Dk) (BA Dk) .none uR uS uU uL nH uV),uO⟩)(ug:x9 K nH "Leaves.__init__"=true)(xk1:n8 K (.ref nC)=true)(uh:q7 K (.ref d) "fresh"=ι (ι (.ref nE)))(oe:K.lookup nE=ι ⟨uW,uM,.func (y6 "fresh" "Leaves.fresh" (DF DQ) (CQ DQ) (BA DQ) .none uX uY uZ uN nM ua),uP⟩)(ui:x9 K nM "Leaves.fresh"=true)(xa:n8 K (.ref nE)=true)(xm:aau K d=true)(uj:U2 K (.ref nC)=true)(uk:U2 K (.ref nE)=true)(um:n8 K (.ref d)=true)(uo:N4 K d ael=true)(uq:Q7 K d=true)(ur:X0 K d=true)(uu:q7 K (.ref d) "__setattr__"=ι (ι (.builtin "object.__setattr__")))(og:q7 K (.ref d) "used"=ι ν)(oh:q7 K (.ref d) "number"=ι ν)(jG:NZ K "set")(uv:jE=.ref cM)(tL:K0.lookup cM=ι xZ)(tO:tabOf xZ=ι TM)(tC:D4 K cM TM=true)(tT:K0.lookup TM=ι (E1 #[]))
  :∃(fd:j4)(c T:Addr),K0.lookup T=ι (E1 #[])/\D4 K c T=true/\(∀(s:d8)(v:b7),abO s fd ⟨[v],[]⟩ [("_law_script",v)])/\∀base:Heap,K.In base->base.Ns ul mg->BM mg base->Ab l.prog w K mg base Bs 80 fa fd lqF (MF K T):=by
 haveI:BW K:=⟨trivial⟩;have e:=hfa.symm.trans<|S2 X G a47;cases e;have gm:=λ{x:Str}{v:b7}(a:B1 K ul x=ι (ι v))=>S2 X G a;have T:Txt mg:=by constructor<;>(apply WP X G;assumption)
 have g1:=gn X G h1 lqk;have g3:=gn X G h3 lql;obtain⟨f4,d4,F4,b4,m4⟩:=gn X G h4 lql;obtain⟨f10,d10,oj,b10,m10⟩:=gn X G h10 lqw;have uw:=LD (st:=Dx) l18 c18 k18;have b18:=uw.binds (ps:=lqr) λ_ _ _ _ _ _=>by(repeat refine ls λ_=>?_);exact lz rfl
 have m18:=gm a18;obtain⟨f21,d21,xb,b21,m21⟩:=gn X G h21 ["entry"];have g36:=gn X G h36 lqb;have F47:=LD (st:=Tc) l47 c47 k47;have J:=S2 X G e1;have ux:=WP X G zZ;have mC:=S2 X G ub;have cC:=(⟨uo,uq,ur,uu⟩:Tx K d);have M:=(⟨xm,ue,uj,um⟩:Mk K d nC);have mF:=(⟨uh,uk,xa⟩:Meth K d "fresh" nE);have xc:=LD (st:=Dk) oZ ug xk1;have xf:=LD (st:=DQ) oe ui xa;have rX:=xc.binds (ps:=lqy) λ_ _ _ _ _ _=>by(repeat refine ls λ_=>?_);exact lz rfl
 have bF:=xf.binds (ps:=["self"]) λ_ _ _ _ _ _=>by(repeat refine ls λ_=>?_);exact lz rfl
 have Wl:=WP X G jG;refine⟨y6 "law" "law" (DF Tc) (CQ Tc) (BA Tc) .none my m_ nA mw jF nB,cM,TM,tT,tC,λs v=>.of_eq rfl,λbase _ _ rN=>?_⟩;have kk:=@Df.mk' l.prog w K mg base;have dk:=@dk l.prog w K mg base;have GF:=ML (P:=l.prog) (w:=w) (base:=base) xf T cC og oh;have f:=dk g3 λ_ _ F b m=>MG F T;have j:=dk g1 λ_ _ F b m=>Ml F T F4.kp b4<|MH F4 T f;have z:=dk (gn X G h17 ["docs"]) λ_ _ F b m=>Rf F T j m4;have rY:=Mo (P:=l.prog) (w:=w) (base:=base) xc T z cC og oh;have jH:=dk (gn X G h26 lqu) λ_ _ F b m=>cc F T;have o:=dk (gn X G h27 lqg) λ_ _ F b m=>cf F T;have cz:=dk (gn X G h28 lqA) λ_ _ F b m=>Zy F T o;have eV:=dk (gn X G h29 lqh) λ_ _ F b m=>iu F T o;have jI:=dk (gn X G h30 lqj) λ_ _ F b m=>Ri F T b m 50;have jJ:=dk (gn X G h32 lqf) λ_ _ F b m=>Rk F T b m o eV 10;have A:=dk g1 λ_ _ F b m=>Mm F T xb.kp b21<|Jg xb T f;have B:=dk g3 λ_ _ F b m=>PF F T;have r:=dk (gn X G h5 lql) λ_ _ F b m=>PH F T;have p:=dk (gn X G h6 lql) λ_ _ F b m=>Wi F T B r;have V:=dk (gn X G h7 ["doc","step"]) λ_ _ F b m=>Zu F T;have C:=dk (gn X G h8 lqs) λ_ _ F b m=>Td F T V;have u:=dk (gn X G h13 lqs) λ_ _ F b m=>Rc F T C;have D:=dk (gn X G h14 lqC) λ_ _ F b m=>Te F T;have Y:=dk (gn X G h15 lqE) λ_ _ F b m=>Zv F T p u D;have k:=kk F4 b4 m4<|MH F4 T f;have i:=dk (gn X G h9 lqw) λ_ _ F b m=>Ra F T;have g:=dk g1 λ_ _ F b m=>RZ F T oj.kp b10<|HR oj T k i;have n:=dk (gn X G h16 lqq) λ_ _ F b m=>Tf F T g m10;have L:=dk (gn X G h2 lqB) λ_ _ F b m=>Wh F T g oj.kp b10<|HR oj T k i;have N:=dk (gn X G h11 lqx) λ_ _ F b m=>Wj F T f ux;have q:=dk (gn X G h19 lqt) λ_ _ F b m=>Mn F T p N cC mF bF GF;have y:=kk uw b18 m18<|Rg uw T L q uv tC rN m10;have O:=dk (gn X G h12 lqq) λ_ _ F b m=>Wk F T;have t:=dk (gn X G h22 lqD) λ_ _ F b m=>PJ F T O;have E:=dk (gn X G h23 lqq) λ_ _ F b m=>Ti F T g n j m10 m4;have Q:=dk (gn X G h25 ["count"]) λ_ _ F b m=>Wm F T ⟨_,J⟩;have H:=dk (gn X G h24 ["taken"]) λ_ _ F b m=>Tj F T Q;have R:=dk (gn X G h20 lqz) λ_ _ F b m=>Tg F T A Y n y t E H M mC rX rY cC mF bF GF Wl m21;have c_:=dk (gn X G h31 lqj) λ_ _ F b m=>Rj F T b m 50;have dA:=dk (gn X G h33 lqa) λ_ _ F b m=>Rm F T b m 50;have dC:=dk g36 λ_ _ F b m=>MJ F T b m 30;have dD:=dk g36 λ_ _ F b m=>MJ F T b m 25;have Z:=dk (gn X G h37 lqc) λ_ _ F b m=>Nr F T b m dD 48;have aE:=dk (gn X G h34 lqc) λ_ _ F b m=>Nq F T b m 25;have I:=dk (gn X G h35 lqb) λ_ _ F b m=>Jt F T b m 25;have dE:=dk (gn X G h38 lqa) λ_ _ F b m=>Rn F T b m 25;have aF:=dk (gn X G h39 lqo) λ_ _ F b m=>aA F T aE I dE;have S:=dk (gn X G h40 lqi) λ_ _ F b m=>Wq F T;have U:=dk (gn X G h41 lqb) λ_ _ F b m=>MK F T b m S 30;have aG:=dk (gn X G h42 lqc) λ_ _ F b m=>Nt F T b m 27;have jK:=dk (gn X G h43 lqe) λ_ _ F b m=>VL F T b m Wl 25;have dG:=dk (gn X G h44 lqd) λ_ _ F b m=>Ro F T b m 25;have dH:=dk (gn X G h45 lqn) λ_ _ F b m=>aC F T R c_ dA dC Z aF U aG jK dG;have aH:=dk (gn X G h46 lqm) λ_ _ F b m=>aD F T o;exact jC F47 T jH o cz eV jI jJ dH aH
theorem walkZ{q:om}{loose:List Str}{g:(Str->Option b7)->Heap->Prop}{d:DefRec}{K:adP->ACy}{as:List Addr}{n t:Nat}(e:∀P:adP,as=V3 (λx=>x.fst) (K P))(i:l.most=ι 63)(a:d.params.defaults=[])(F:∀(w:u8) (mg:Str->Option b7) (fa:Addr) (h:Heap),(Kn (K w.params)).In h->h.Ns ul mg->mg d.name=ι (.ref fa)->
   ∃(b:j4) (c T:Addr),(K w.params).lookup T=ι (E1 #[])/\D4 (Kn (K w.params)) c T=true/\(∀(s:d8) (u:b7),abO s b ⟨[u],[]⟩ [("_law_script",u)])/\
    ∀base:Heap,(Kn (K w.params)).In base->base.Ns ul mg->BM mg base->Ab l.prog w (Kn (K w.params)) mg base Bs 80 fa b lqF (MF (Kn (K w.params)) T)):
  adD q loose g (PySem.W.X.obsZ as) (PySem.W.X.valZ K n t) l.row.toRowW d [] (λf vs=>adf f vs):=Zs e i a ⟨rfl,by decide,by decide,rfl⟩ F
end iY
def PySem.W.Fast.tw538138800960998483:=0
def PySem.W.Fast.tw17725286102523088286:=0
def PySem.W.Fast.tw383903614666445376:=0
def PySem.W.Fast.tw1083834754131021056:=0
def PySem.W.Fast.tw12169857455438064138:=0
def PySem.W.Fast.tw2509584433350642136:=0
def PySem.W.Fast.tw12499149758512027538:=0
def PySem.W.Fast.tw16897940750279799339:=0
def PySem.W.Fast.tw15515057686734606926:=0
def PySem.W.Fast.tw18215335226994298755:=0
def PySem.W.Fast.tw1825224092824855971:=0
def PySem.W.Fast.tw9526260107400884832:=0
def PySem.W.Fast.tw16062540026686834662:=0
def PySem.W.Fast.tw831280758218479493:=0
def PySem.W.Fast.tw12112534562940837060:=0
def PySem.W.Fast.tw16193176185982922844:=0
def PySem.W.Fast.tw3068282366210024650:=0
def PySem.W.Fast.tw17708233949546559768:=0
def PySem.W.Fast.tw14970945299486825253:=0
def PySem.W.Fast.tw1896079561063996158:=0
def PySem.W.Fast.tw11533060693397299504:=0
def PySem.W.Fast.tw2915984104129985083:=0
def PySem.W.Fast.tw2034441996524065090:=0
def PySem.W.Fast.tw9760293245053669149:=0
def PySem.W.Fast.tw10293746930477642264:=0
def PySem.W.Fast.tw16874998776659822249:=0
def PySem.W.Fast.tw15180998987741230484:=0
def PySem.W.Fast.tw4107059060174008762:=0
def PySem.W.Fast.tw672670067123659454:=0
def PySem.W.Fast.tw12734325084253942658:=0
def PySem.W.Fast.tw1021197852584567863:=0
def PySem.W.Fast.tw15193390360669045570:=0
def PySem.W.Fast.tw17581136709791241148:=0
def PySem.W.Fast.tw8533468763868350517:=0
def PySem.W.Fast.tw11485233557861928583:=0
def PySem.W.Fast.tw6424013060852278149:=0
def PySem.W.Fast.tw140024685845911848:=0
def PySem.W.Fast.tw4726349421132765228:=0
def PySem.W.Fast.tw5398565356160536236:=0
def PySem.W.Fast.tw1606886375776227258:=0
def PySem.W.Fast.tw5295482270964848040:=0
def PySem.W.Fast.tw15357187210656308243:=0
def PySem.W.Fast.tw6073782362779385416:=0
def PySem.W.Fast.tw9728478632760693067:=0
def PySem.W.Fast.tw15070907156417256870:=0
def PySem.W.Fast.tw256712475354732973:=0
def PySem.W.Fast.tw1462672232293372036:=0
def PySem.W.Fast.tw5853333995059564918:=0
def PySem.W.Fast.tw11645390276112046503:=0
def PySem.W.Fast.tw12189999672805353696:=0
def PySem.W.Fast.tw634606560898792437:=0
def PySem.W.Fast.tw9953037223710776785:=0
def PySem.W.Fast.tw1544711493435695611:=0
def PySem.W.Fast.tw10991001961731331594:=0
def PySem.W.Fast.tw15733394138883807857:=0
def PySem.W.Fast.tw6841381716347239620:=0
def PySem.W.Fast.tw9611131022269270232:=0
def PySem.W.Fast.tw15997464518843815780:=0
def PySem.W.Fast.tw12996451807018107955:=0
def PySem.W.Fast.tw2462600730402224952:=0
def PySem.W.Fast.tw11886778316772446246:=0
def PySem.W.Fast.tw7436094034784046517:=0
def PySem.W.Fast.tw12544498914457089526:=0
def PySem.W.Fast.tw11095657602932258262:=0
def PySem.W.Fast.tw16968735958027206397:=0
def PySem.W.Fast.tw18195532090068465376:=0
def PySem.W.Fast.tw13160301045250573271:=0
def PySem.W.Fast.tw8272023577977527899:=0
def PySem.W.Fast.tw13418247369844838162:=0
def PySem.W.Fast.tw16168527443858138547:=0
def PySem.W.Fast.tw508854125967409598:=0
def PySem.W.Fast.tw16899876308992193134:=0
def PySem.W.Fast.tw4257314466479952739:=0
def PySem.W.Fast.tw879032646637754896:=0
def PySem.W.Fast.tw16373319847628909493:=0
def PySem.W.Fast.tw9603656729991581761:=0
def PySem.W.Fast.tw334444853764991469:=0
def PySem.W.Fast.tw9625766384929041254:=0
def PySem.W.Fast.tw17954561531953816023:=0
def PySem.W.Fast.tw9819650288635616061:=0
def PySem.W.Fast.tw7134691915128807869:=0
def PySem.W.Fast.tw4158841607562950452:=0
def PySem.W.Fast.tw5670449104360299213:=0
def PySem.W.Fast.tw3941910697105093363:=0
def PySem.W.Fast.tw1534138952190650757:=0
def PySem.W.Fast.tw8893961381657535354:=0
def PySem.W.Fast.tw89915722126144039:=0
def PySem.W.Fast.tw4324363119215008183:=0
def PySem.W.Fast.tw3802861801890966397:=0
def PySem.W.Fast.tw2363018659499211113:=0
open PySem PySem.W PyProof.Rows
set_option maxRecDepth 100000 in
set_option maxHeartbeats 0 in
theorem PySem.Challenge.cw_patchbough_k45_one_thing_more_holds : PySem.Challenge.rw_patchbough_k45_one_thing_more.Holds := by
 w_on;o_law;z_head;(case hw=>w_witness2)
 k_fill
 refine iY.walkZ (l:=PySem.Challenge.rw_patchbough_k45_one_thing_more) (fun _=>rfl) rfl rfl ?F
 case F=>
  intro w c fa h b G a
  refine' iY.all_mk b G a (L2.fa ?a1 ?l1 ?c1) (L2.fa ?a2 ?l2 ?c2) (L2.fa ?a3 ?l3 ?c3) (L2.fa ?a4 ?l4 ?c4) (L2.fa ?a5 ?l5 ?c5) (L2.fa ?a6 ?l6 ?c6) (L2.fa ?a7 ?l7 ?c7) (L2.fa ?a8 ?l8 ?c8) (L2.fa ?a9 ?l9 ?c9) (L2.fa ?a10 ?l10 ?c10) (L2.fa ?a11 ?l11 ?c11) (L2.fa ?a12 ?l12 ?c12) (L2.fa ?a13 ?l13 ?c13) (L2.fa ?a14 ?l14 ?c14) (L2.fa ?a15 ?l15 ?c15) (L2.fa ?a16 ?l16 ?c16) (L2.fa ?a17 ?l17 ?c17) (L2.Bk ?a18) (L2.EM ?l18 rfl) (L2.MD ?c18) (L2.ME ?l18) (L2.fa ?a19 ?l19 ?c19) (L2.fa ?a20 ?l20 ?c20) (L2.fa ?a21 ?l21 ?c21) (L2.fa ?a22 ?l22 ?c22) (L2.fa ?a23 ?l23 ?c23) (L2.fa ?a24 ?l24 ?c24) (L2.fa ?a25 ?l25 ?c25) (L2.fa ?a26 ?l26 ?c26) (L2.fa ?a27 ?l27 ?c27) (L2.fa ?a28 ?l28 ?c28) (L2.fa ?a29 ?l29 ?c29) (L2.fa ?a30 ?l30 ?c30) (L2.fa ?a31 ?l31 ?c31) (L2.fa ?a32 ?l32 ?c32) (L2.fa ?a33 ?l33 ?c33) (L2.fa ?a34 ?l34 ?c34) (L2.fa ?a35 ?l35 ?c35) (L2.fa ?a36 ?l36 ?c36) (L2.fa ?a37 ?l37 ?c37) (L2.fa ?a38 ?l38 ?c38) (L2.fa ?a39 ?l39 ?c39) (L2.fa ?a40 ?l40 ?c40) (L2.fa ?a41 ?l41 ?c41) (L2.fa ?a42 ?l42 ?c42) (L2.fa ?a43 ?l43 ?c43) (L2.fa ?a44 ?l44 ?c44) (L2.fa ?a45 ?l45 ?c45) (L2.fa ?a46 ?l46 ?c46) (L2.Bk ?a47) (L2.EM ?l47 rfl) (L2.MD ?c47) (L2.ME ?l47) (L2.Bk ?z1) (L2.Bk ?z2) (L2.Bk ?z3) (L2.Bk ?z4) (L2.Bk ?z5) (L2.Bk ?z6) (L2.Bk ?z7) (L2.Bk ?z8) (L2.Bk ?z9) (L2.Bk ?z10) (L2.Bk ?z11) (L2.Bk ?z12) (L2.Bk ?z13) (L2.Bk ?z14) (L2.Bk ?z15) (L2.Bk ?z16) (L2.Bk ?z17) (L2.Bk ?e1) (L2.Bk ?zZ) (L2.Bk ?ub) (L2.Zt ?ue) (L2.EM ?oZ rfl) (L2.MD ?ug) (L2.ME ?oZ) (L2.Zt ?uh) (L2.EM ?oe rfl) (L2.MD ?ui) (L2.ME ?oe) ?xm ?uj ?uk ?um ?uo ?uq ?ur ?uu ?og ?oh (L2.Bk ?jG) ?uv ?tL ?tO ?tC ?tT
  (case a1|l1|c1|a2|l2|c2|a3|l3|c3|a4|l4|c4|a5|l5|c5|a6|l6|c6|a7|l7|c7|a8|l8|c8|a9|l9|c9|a10|l10|c10|a11|l11|c11|a12|l12|c12|a13|l13|c13|a14|l14|c14|a15|l15|c15|a16|l16|c16|a17|l17|c17|a18|l18|c18|a19|l19|c19|a20|l20|c20|a21|l21|c21|a22|l22|c22|a23|l23|c23|a24|l24|c24|a25|l25|c25|a26|l26|c26|a27|l27|c27|a28|l28|c28|a29|l29|c29|a30|l30|c30|a31|l31|c31|a32|l32|c32|a33|l33|c33|a34|l34|c34|a35|l35|c35|a36|l36|c36|a37|l37|c37|a38|l38|c38|a39|l39|c39|a40|l40|c40|a41|l41|c41|a42|l42|c42|a43|l43|c43|a44|l44|c44|a45|l45|c45|a46|l46|c46|a47|l47|c47|z1|z2|z3|z4|z5|z6|z7|z8|z9|z10|z11|z12|z13|z14|z15|z16|z17|e1|zZ|ub|ue|oZ|ug|uh|oe|ui=>k_is)
  (case xm=>kernel_rfl)
  (case uj=>kernel_rfl)
  (case uk=>kernel_rfl)
  (case um=>kernel_rfl)
  (case uo=>kernel_rfl)
  (case uq=>kernel_rfl)
  (case ur=>kernel_rfl)
  (case uu=>kernel_rfl)
  (case og=>kernel_rfl)
  (case oh=>kernel_rfl)
  (case jG=>k_is)
  (case uv=>exact rfl)
  (case tL=>k_is)
  (case tO=>exact rfl)
  (case tC=>kernel_rfl)
  (case tT=>k_is)
#print axioms PySem.Challenge.cw_patchbough_k45_one_thing_more_holds
