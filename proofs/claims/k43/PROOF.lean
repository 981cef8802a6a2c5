import PyProof.Rows.All
import Wide.All
import OpenK.AllK
import Wide.FinOn
import Lean
import PyProof.EqAt
import PyProof.EqKinds
import PyProof.TupleCall
import PyProof.ReprRoads
import PyProof.ReprBulk
import PyProof.ZipIter
import KE.KItemsList
import PyProof.P3Eq
import KE.KEqDict
import PyProof.Rows.Range3
import PyProof.Rows.SetFrom
import KE.KDictList
import PySem.Challenge.RW_patchbough_k43_what_both_let_in
set_option compiler.extract_closed false
set_option bootstrap.genMatcherCode false
noncomputable section
set_option Elab.async false
set_option linter.all false
set_option maxRecDepth 100000
set_option maxHeartbeats 40000000
open Option renaming some->ι,none->ν
open Array renaming length_toList->pY,getElem?_eq_getElem->t8,getElem?_toList->u6,toArray_toList->IR,getD_eq_getD_getElem?->O7,forIn_toList->R9,isEmpty_iff_size_eq_zero->U8,toList_push->aam,getElem_mem->acT,replicate->adz,size_map->ad6,toList->aeG,getD->ae3
open Bool renaming and_eq_true->fy,false_ne_true->pc,eq_iff_iff->ul,true_and->zk,false_eq_true->FB,false_and->F7,and_false->F8,or_eq_true->J4,and_true->Q5,and_comm->Q6,not_eq_true'->T8,not_eq_true->U7,not_false->ZB,eq_false_iff->aal,not_true->aca,and_self->acb,or_false->aem,false_or->aen,true_or->aeF
open False renaming elim->Do
open ForInStep renaming yield->N8
open Function renaming comp->aar
open Int renaming natCast_nonneg->wT,toNat_of_nonneg->x5,lt_of_le_of_lt->zi,toNat_natCast->A8,emod_nonneg->B7,emod_lt_of_pos->D5,ofNat_le->F5,le_trans->F6,ofNat_lt->G9,toNat->Y2,eq_ofNat_of_zero_le->aaK,zero_add->aaT,add_nonneg->ad3
open List renaming length_map->bi,getElem?_map->b6,getD_eq_getElem?_getD->b7,mem_cons_of_mem->cr,size_toArray->d7,mem_cons_self->d9,mem_singleton->io,map_cons->jp,length_cons->j3,mem_cons->j4,range->j9,getElem?_of_mem->p9,length_append->q5,getElem?_append_left->q8,mem_append->rc,all_eq_true->re,replicate->r4,length->sw,map_append->sU,nodup_cons->u4,map_map->u5,mem_map->u7,take_add_one->u8,getElem?_zip_eq_some->u9,eq_nil_of_length_eq_zero->wE,length_range->wS,getElem?_append_right->w8,take_length->xL,length_singleton->x9,lookup_cons->y6,zip_cons_cons->zh,mem_range->zw,append_assoc->zx,mem_map_of_mem->A1,map_congr_left->A2,nodup_append->A7,drop_eq_getElem_cons->A9,length_nil->B6,length_take->B8,filterMap_cons->Ch,length_filter_le->C4,cons_append->D7,getElem?_set_self->D8,mem_append_right->EQ,mem_filter->E5,length_set->E6,filter_cons->FS,getElem?_set_ne->F0,length_eq_zero_iff->F1,replicate_succ->Gc,getElem_mem->G7,all_map->G8,dropLast_concat_getLast->J5,take_succ_cons->J6,getElem?_range->J7,all_cons->K4,any_eq_true->K6,perm_ext_iff_of_nodup->K7,of_mem_zip->L3,mem_append_left->L7,not_mem_nil->M9,ext_getElem->No,range_succ_eq_map->N2,nil_append->N6,find?_cons->N7,any_cons->On,mem_iff_getElem?->O0,getElem?_eq_none->O1,getElem?_inj->O5,flatten_cons->O6,eq_of_mem_replicate->Q7,length_zip->Rs,all_append->R0,lookup_append->R6,filter_append->R7,filter_cons_of_neg->SL,length_filter_eq_length_iff->Uf,eraseIdxIfInBounds_toArray->UF,range'_succ->U6,filter->V8,mem_of_mem_take->Wp,take_append_of_le_length->WP,range_succ->W7,forIn_cons->W8,foldl_cons->W9,toList_toArray->X7,getD_cons_zero->X8,filter_eq_self->X9,pairwise_cons->Z3,mem_filterMap->Z4,getElem_range->Z5,length_eraseIdx_of_lt->Z6,getElem?_eq_none_iff->aaa,findIdx?_eq_none_iff->aab,lookup->aae,take_sublist->aak,getElem?_take_of_lt->aau,getElem_map->aaF,map_nil->aaS,take_of_length_le->aa0,filter_eq_nil_iff->aa1,drop_of_length_le->aa2,take_append_drop->abi,length_replicate->abj,range'->abo,drop_zero->abA,mem_iff_getElem->abI,length_dropLast->abJ,length_reverse->abV,length_pos_iff->abW,length_flatten->abX,filter_sublist->abY,take_nil->ab9,getElem?_take->acp,getElem?_tail->acq,filterMap_map->acr,any_map->acF,foldl_append->acM,filter_congr->acN,any_eq_false->acO,length_drop->ac9,sum_append->adr,append_nil->ads,foldl->adQ,take_zero->ad0,forIn_nil->ad1,filterMap->ad2,map_take->aei,map->aeL
open List.cons renaming injEq->E7
open Nat renaming le_trans->am,le_of_eq->bm,lt_of_lt_of_le->bn,le_refl->bv,le_add_right->ci,le_add_left->d0,lt_of_le_of_lt->d8,add_le_add_right->gl,le_of_lt->gt,add_le_add_left->im,zero_le->j5,ne_of_lt->j7,le_add_right_of_le->lM,add_le_add->tz,le_max_right->y4,max_le->y9,le_max_left->A3,lt_succ_of_le->A6,ne_of_gt->C6,lt_or_ge->C7,lt_irrefl->E2,lt_trans->E4,min_le_left->J3,mul_le_mul_left->M5,not_lt_zero->N5,lt_succ_of_lt->O4,sub_self->Tk,add_comm->Tl,min_le_right->U4,lt_succ_self->U5,add_assoc->V3,le_succ->V7,add_right_comm->Z2,lt_trichotomy->aaj,mod_lt->aaO,sub_zero->aaQ,min_self->aaR,sub_eq_zero_of_le->abh,not_succ_le_self->abH,not_lt->acg,add_sub_cancel->aco,succ->acx,le_succ_of_le->acL,le_of_not_lt->ac8,min_eq_left->adp,le_antisymm->adq,zero_add->aeD,mul_comm->aeE,div_one->aeQ
open Ne renaming symm->zn
open Option renaming map_eq_some_iff->At,getD_some->A5,getD_none->G6,isSome_iff_exists->M0,isNone->Q3,isSome_some->R5,isSome_map->aai,map_some->aa8,isSome_none->acn,toList->aeh,none->aeP,map->ae2
open Or renaming inr->O9,inl->Y3
open Prod renaming fst->aaC,snd->abl,mk->ae5
open PyProof.Rows renaming callWith_type1->y0,sortedS->KB,StrsAre->K0,sortedHeap->Y5,AllBare->aad,envOfC->aan,subscriptTail_builtinR->aaX,list_sort_treeK->aa5,entry_list_sort->aa6,arrOf->abk,sorted_out_str->abq,sortedHeap_old->abr,slot_list_sort->abt,args_list_sort->abx,sortedS->abG,subscriptTail->ab4,strKind_oneLt->ab5,sortedHeap_at->ab6,plain_sorted->acB,keyKind_strs->acC,entry_sorted->acD,args_sorted1->acE,callWith_builtin1->adf,kind_sorted->adk,IntsAre->adA,size_push'->adL,boot_range->adO,Subscript_->adP,IsTup->aeJ
open PyProof.Rows.F renaming plain_set_update_loop->J9,entry_set_update_loop->Q1
open PySem renaming wpAny_bind->be,wpAny_pure->b9,Value->ce,Shared->fx,wpAny->i9,model->m7,starEach->q7,wpAny_holding->ut,bootBuiltins->v7,Program->wv,strKind->wP,wpAny_setState_of->x6,wpAny_call_entry->y3,World->y8,mainGlobals->zj,codeAny_builtin->zr,compareOp->AC,FuncData->AT,rawInt->B0,wpAny_setField_rec->B2,wpAny_ite_split->B5,mem_of_lookup->B9,Expr->C5,wpAny_truthy_bool->C9,sysModules->D9,builtinLookup_eq_fast->Ev,plainId_quiet->E1,wpAny_Call_Name_kw->Fa,wpAny_isInstance->FM,wpAny_richCompare_same_room->F3,eval->GM,Around->G1,wpAny_mono->G3,call_meets->G4,wpAny_forIn_list->G5,wpAny_dictEntries->I9,foldedSetIterable->J0,codeAny->KM,wpAny_passesOwn->K9,typeLookup_type->L0,wpAny_typeOf->L4,wpAny_storeSet_of->L5,fits_of_scanBound->L6,wpAny_rule->L8,SetTable->M6,wpAny_getItem_str_slice->NE,backTo->N1,binaryOp->N3,wpAny_updateSeq->N4,pyNext->Op,wpAny_notOrdered_dict->Os,wpAny_pyIter_list->O2,wpAny_newObj_type->O3,typeLookup->Ps,typeIs_str->PP,typeIs_int->P0,valueAt->P4,cellsFrom->P5,behindInMarks->Q2,tupleKind_room_in1->R1,getattributeRaised->R3,sliceBounds->Sc,sizeLine_eq->SB,wpAny_callSpecial?_slot->SC,holding->S2,setAddHashed->S5,codeAny_mono->S9,wpAny_seqItems->TD,isSubtype_type->TW,boot_len->T2,IsPair->UV,wpAny_askSetting->U3,attributeBase->V0,ZipApart->V4,wpAny_of_eq->V5,wpAny_field->V6,merged->W0,wpAny_specialOf->W1,wpAny_execs_nil->W2,wpAny_dictEpoch->W3,post_val_or_str->W4,letOwnedTupleGo->W5,wpAny_setEntries_of->X2,pushCells->Y1,wpAny_load->Y4,assignEach->Y6,entryFor_alias->Y7,wpAny_dictSetHashed_pairs->Z8,Keyword->aac,wpAny_setEpoch_of->aaf,wpAny_comprehension_free->aas,setField->aaz,relayAll->aaA,entryFor->aaB,updateSeq->aaD,swapsWith->aaE,relabel->aaL,wpAny_pyNext_range_end->aaU,wpAny_pyIter_rangeiter->aaV,wpAny_nextOf_list_item->aaW,wpAny_isTrue_Compare1->abb,subscripted->abm,keywordEach->abn,IsRangeIter->abp,setAddHashedIn->abu,newFunctionEnv->abv,callType_codes->abw,lookup_relabel_local->abE,codeAny_call_builtin->abF,setNext->abM,callerA->abN,BindsTo->abO,tupleKind->abP,seqItems?->abQ,pickOrder->abR,isSubtype->abS,DictEntry->abT,wpAny_standAt->ab1,wpAny_newList->ab2,wpAny_attempt->ab3,assign->acd,isInstance->ace,call->acf,wpAny_pyIter_range->ach,sub_AttributeError->aci,findBy_of_findIdx?->acj,getItem->acv,raiseNew->acw,sub_set_self->acy,setNextDrawn->acz,seqIndex_neg->acA,wpAny_pyIter_slot->acG,wpAny_assign_Name->acH,slot_list_getitem->acI,Result->acU,putSet_of->acV,wpAny_setScan_of->acW,wpAny_pyIter_zip->acX,wpAny_execs_cons->acY,merged_take_succ->acZ,merged_length_le->ac0,kt_code_dict_new->ac1,entryFor_of_tree->ac2,atKey->adg,wpAny_alloc->adh,seqIndex_of->adi,richCompare->adj,codeAny_of_tree->adl,bindL->adD,bindC->adE,isTrue->adF,argsOk->adG,getAttr?->adH,backToKw->adI,wpAny_call->adJ,wpAny_Name->adK,checkCount->adM,builtinsNs->adN,wpAny_tryCatch->adR,wpAny_runValue->adS,wpAny_newTuple->adT,wpAny_Compare1->adU,isSubtype_stop->adV,fitsIndex_both->adW,firstArgMember->adX,signature?_of->ad8,setWalkUnseen->ad9,rangeSize_one->aea,intBits_le_64->aeb,evalPart_none->aec,call_list_seq->aed,KeyKind->aeg,table->aep,seqIndex?->aeq,drawOrder->aer,PassesOwn->aes,pyIter->aex,newExc->aey,spliced->aez,dictSet->aeA,Builtin->aeB,Within->aeC,bindArgs->aeK
open PySem.Around renaming under_plainId->xz
open PySem.AutoSeq1 renaming sub_tuple_tuple->Q9
open PySem.Builtin.Dict renaming dictSlotArgs->K8,updateFrom->N0,selfAndRest->aax,addKeywords->aay,pairItems->aa4,samePairs->aeH,showsAll->aeI
open PySem.Builtin.Frozenset renaming isAnySet->D6,updateFrom->E8,addrOf->IN,copyOf->aav,baseOf->aaw,unchanged->adC,newClass->ad7,sizeOf->aeo,slot1->aeu,slot0->aev,merge->aew
open PySem.Builtin.List renaming listExtendWith->Db,listLengthHint->K2,listTooLong->M2,listSameRef->M3,listItems->aa3,listUpdate->aet
open PySem.Builtin.Range renaming rangeSize->S0,small->ab0,rangeFitsLong->adB
open PySem.Builtin.SmallTypes renaming ownedTupleIsFree->E3,nextOf->P9
open PySem.Builtin.Tuple renaming tupleCompareSizes->M4
open PySem.Calls renaming call_function_entry->P8,spliced_cons->R8,spliced_nil->T7,callWith_builtin->T9,Name_function_global->Z7,evalArgs_plain->abL
open PySem.F renaming plainAttrs_list->x8,type_list_pop->C2,slot_list_pop->C3,called_set->Fk,plain_extend_loop->G2,slot_list_getattribute->Q8,slot_zip_getattribute->SZ,slot_dict_eq->V9,slot_zip_next->XV,slot_tuple_eq->X0,slot_dict_eq_refl->Y0,slot_list_eq->Y9,entry_extend_loop->Z9,slot_dict_values->aat,args_list_eq_2->aaG,plain_list_iadd->aaI,plainAttrs_dict->aaJ,args_dict_eq_2->aaZ,sub_list_dict->aa9,entry_list_eq->aba,slot_set_iter->abd,slot_dict_pop->abe,plain_set_new->abf,entry_dict_eq->abg,sub_str_dict->abB,sub_int_dict->abC,slot_dict_eq->abD,kt_typeCall_dict_1->abK,slot_set_or->abU,slot_list_eq_refl->abZ,slot_str_eq_refl->acs,slot_int_eq_refl->act,args_dict_init_2->acu,entry_dict_init->acQ,args_zip_next_1->acR,args_tuple_eq_2->acS,kt_called_dict->ada,entry_zip_next->adb,entry_tuple_eq->adc,entry_list_pop->ade,sub_dict_list->adt,slot_tuple_ne->adu,slot_list_pop->adv,slot_int_rmul->adw,args_str_eq_2->adx,args_int_eq_2->ady,entry_str_eq->ad4,entry_int_eq->ad5,slot_str_eq->aek,slot_int_eq->ael
open PySem.Heap renaming get?_push_of_some->ca,lt_size->ii,get?_push_size->j8,get?_update_self->A0,get?_update_other->B4,SameBut->C8,size_push->P1,NewExcOf->aej
open PySem.Heap.SameBut renaming update->J8,refl->acP
open PySem.NameKind renaming free->Ix,cell->Q4
open PySem.Obj renaming mapSeq->F4,putSet->U2,ExactSet->aaP
open PySem.Paired renaming length->N9,snoc->aeO
open PySem.PassesOwn renaming never->Re
open PySem.SeqAt renaming rc_eq_decline_or->F9,RcAt->U1,wpAny_isSame_ref_other'->WF,eq_list_lengthsAt->aaH,EqAt->aaN,eq_listAt->adn
open PySem.SeqAt.EqAt renaming same->W6,str_str->Z0,str_int->ack,int_str->acl,none_bool->aeR,bool_none->aeS,bool_bool->aeT,str_none->aeU,str_bool->aeV,none_str->aeW,none_int->aeX,int_none->aeY,int_bool->aeZ,bool_str->ae0,bool_int->ae1,int_int->ae4
open PySem.SetTable renaming sizeAbove->B3,bits->L9,grown->M8,turns->T1,below->Y8,layClean->aag,laid->aao,fits->aap,leap->ab7,fill->ab8,relaid->adm
open PySem.SetTable.below renaming go->T4
open PySem.SetTable.layClean renaming free->zy
open PySem.Spec renaming ltCps->O8
open PySem.Txt renaming slice_le->P6,slice->U0
open PySem.Value renaming ref->n0,bool->B1,none->J1,isStrOf->K3,str->K5,int->M7,isStrOf_shape->Q0,type->aaM,builtin->aee,isInt->aeM,float->aeN
open PySem.W renaming kia_one->zv,keepIn->A4,kia_tup->J2,fnOf->K1,nsIn->P7,kitx_tuple->R4,codeIn->T3,kitx_list->T5,kitx_dict->T6,mg_none_of->Z1,methodObj->aah,mg_of->aaq,cellsFrom_some->aaY,instObj->aa7,lookIn->aby,kitOne->abz,callWith_K->acm,kitx_none->acJ,kitx_bool->acK,plainGet->ac3,kitx_str->ac4,kitx_int->ac5,kdl_dict->ac6,kdl_call->ac7,OpenLaw->ado,kitAny->adY,findIn->adZ,WalkO->aef
open Std.Legacy.Range renaming forIn_eq_forIn_range'->P3,size->abc
open Sum renaming inr->e9,inl->U9
open Sum.inr renaming inj->G0
open True renaming intro->E9
open Option renaming some->Z
theorem W{α:Sort _}{a:α}:a=a:=rfl
theorem ac{p:Prop}(h:p:=by decide):p:=h
theorem z_{p:Prop}(h:p:=by lia):p:=h
theorem GE{p:Prop}(h:p:=by simp):p:=h
theorem GT{p q:Prop}(h:p)(e:p->q:=by intro h;simpa using h):q:=e h
theorem zc{α:Type _}{l:List α}{i:Nat}(h:i<l.length):l[i]?=Z l[i]:=List.getElem?_eq_getElem h
theorem zd{α:Type _}{l:List α}{i:Nat}{a:α}(h:l[i]?=Z a):∃h:i<l.length,l[i]=a:=List.getElem?_eq_some_iff.mp h
theorem ze{α:Type _}{a b:α}(h:Z a=Z b):a=b:=Option.some.inj h
theorem zf{α:Type _}{l:List α}{i:Nat}{a:α}(h:l[i]?=Z a):a∈l:=List.mem_of_getElem? h
abbrev zg:=PySem.W.Frag
namespace L2
open PySem PySem.Spec PyProof.Rows
abbrev Key:=Sum Int Str
abbrev lqa:List Str:=["_law_asks_here","_law_cells","_law_names_here"]
abbrev lqb:List Str:=["_law_cell_here","_law_k"]
abbrev lqc:List Str:=["_law_doc_here","_law_cell_here","_law_deep","_law_names_here"]
abbrev lqd:List Str:=["_law_cell_here","_law_k","_law_names_here"]
abbrev lqe:List Str:=["_law_cells","_law_deep","_law_names_here"]
abbrev lqf:List Str:=["_law_one","_law_other"]
abbrev lqg:List Str:=["one","other"]
abbrev lqh:List Str:=["_law_asks_here","_law_told","_law_way","_law_cell_here","_law_names_here"]
abbrev lqi:List Str:=["_law_asks_here","_law_doc_here"]
abbrev lqj:List Str:=["_law_thing"]
abbrev lqk:List Str:=["_law_asks_here"]
abbrev lql:List Str:=["doc"]
abbrev lqm:List Str:=["_law_asks_here","_law_cell_here","_law_names_here"]
abbrev lqn:List Str:=["asks","doc"]
abbrev lqo:List Str:=["root","inner","join"]
abbrev lqp:List Str:=["count","least","more"]
abbrev lqq:List Str:=["_law_script"]
abbrev lqr:List Str:=["names","lacking","more"]
abbrev lqs:List Str:=["holder","told"]
abbrev lqt:List Str:=["_law_cells","_law_names_here","_law_asks_here"]
abbrev lqu:List Str:=["node"]
abbrev lqv:List Str:=["_law_script","_law_k"]
abbrev lqw:List Str:=["root","inner"]
abbrev lqx:List Str:=["asks","told"]
abbrev lqy:List Str:=["asks","step"]
abbrev lqz:List Str:=["_law_cell_here"]
abbrev lqA:List Str:=["cells","more"]
abbrev lqB:List Str:=["asks","count"]
abbrev lqC:List Str:=["asks","names"]
abbrev lqD:List Str:=["pair","told"]
noncomputable def KJ:Key->ce->Bool
 | .inl k,v=>aeM k v| .inr x,v=>K3 x v
noncomputable def lN(w:y8):Key->Int
 | .inl k=>hashInt k| .inr x=>hashStr w x
theorem Bc:∀{k:Key}{v:ce},KJ k v=true->(∃i t,k=U9 i/\v=M7 i t)∨(∃x t,k=e9 x/\v=K5 x t)
 | .inl i,v,h=>by
  obtain⟨t,e⟩:=Value.isInt_shape (k:=i) (v:=v) h;exact .inl ⟨i,t,W,e⟩
 | .inr x,v,h=>by
  obtain⟨t,e⟩:=Q0 (x:=x) (v:=v) h;exact .inr ⟨x,t,W,e⟩
theorem UN(i:Int)(t:Tok):KJ (.inl i) (.int i t)=true:=by simp[KJ,aeM]
theorem UO(x:Str)(t:Tok):KJ (.inr x) (.str x t)=true:=by simp[KJ,K3]
theorem cX(a b:Int):decide ((U9 a:Key)=U9 b)=(a==b):=by
 by_cases e:a=b
 .subst e;simp
 .have h:¬(U9 a:Key)=U9 b:=λq=>e<|Sum.inl.inj q;rw[decide_eq_false h];exact(beq_eq_false_iff_ne.mpr e).symm
theorem cY(a b:Str):decide ((e9 a:Key)=e9 b)=decide (a=b):=by
 by_cases e:a=b
 .subst e;simp
 .have h:¬(e9 a:Key)=e9 b:=λq=>e<|G0 q;rw[decide_eq_false h,decide_eq_false e]
theorem cZ(a:Int)(b:Str):decide ((U9 a:Key)=e9 b)=false:=decide_eq_false λq=>nomatch q
theorem cb(a:Str)(b:Int):decide ((e9 a:Key)=U9 b)=false:=decide_eq_false λq=>nomatch q
def An(prog:wv)(w:y8):aeg prog w Key where
 is:=KJ
 hash:=lN w
 inj:=λv a b ha hb=>by
  rcases Bc ha with⟨i,t,rfl,rfl⟩|⟨x,t,rfl,rfl⟩
  .rcases Bc hb with⟨j,u,rfl,e⟩|⟨y,u,rfl,e⟩
   .injection e with e1 _;rw[e1]
   .exact nomatch e
  .rcases Bc hb with⟨j,u,rfl,e⟩|⟨y,u,rfl,e⟩
   .exact nomatch e
   .injection e with e1 _;rw[e1]
 byValue:=λk v h=>by
  rcases Bc h with⟨i,t,rfl,rfl⟩|⟨x,t,rfl,rfl⟩<;>rfl
 pyHash:=λhv h=>by
  rcases Bc hv with⟨i,t,rfl,rfl⟩|⟨x,t,rfl,rfl⟩
  .exact wpAny_pyHash_int h
  .exact wpAny_pyHash_str h
 eqBool:=λhu hv h=>by
  rcases Bc hu with⟨i,t,rfl,rfl⟩|⟨x,t,rfl,rfl⟩
  .rcases Bc hv with⟨j,u,rfl,rfl⟩|⟨y,u,rfl,rfl⟩
   .rw[cX]at h;exact wpAny_eqBool_int h
   .rw[cZ]at h;exact acl i t y u _ _ _ _ h
  .rcases Bc hv with⟨j,u,rfl,rfl⟩|⟨y,u,rfl,rfl⟩
   .rw[cb]at h;exact ack x t j u _ _ _ _ h
   .rw[cY]at h;exact wpAny_eqBool_str h
 «strs»:=λk x t v h=>by
  rcases Bc h with⟨i,u,rfl,e⟩|⟨y,u,rfl,e⟩
  .exact nomatch e
  .injection e with e1 _;subst e1;cases v<;>rfl
theorem Oc(prog:wv)(w:y8)(i:Int)(t:Tok):(An prog w).is (.inl i) (.int i t)=true:=UN i t
theorem Od(prog:wv)(w:y8)(x:Str)(t:Tok):(An prog w).is (.inr x) (.str x t)=true:=UO x t
inductive V where
 |AZ|bl (b:Bool)|int (i:Int)|str (x:Str)|UP (b:Array UInt8)|fz (b:UInt64)|ref (a:Addr)|ty (n:String)
 deriving DecidableEq
def RelV:V->ce->Prop
 | .AZ,u=>u=J1| .bl b,u=>u=B1 b| .int i,u=>∃t,u=M7 i t| .str x,u=>∃t,u=K5 x t| .UP b,u=>∃t,u=Value.bytes b t| .fz b,u=>∃t,u=aeN b t| .ref a,u=>u=n0 a| .ty n,u=>u=aaM n
abbrev Vals:List V->List ce->Prop:=Paired RelV
theorem Vals.length{xs:List V}{us:List ce}(r:Vals xs us):xs.length=us.length:=N9 r
variable{us:List ce}{xs:List V}
theorem Vals.inv{x:V}(r:Vals (x::xs) us):∃u c,us=u::c/\RelV x u/\Vals xs c:=by
 cases r with
 |cons a b=>exact⟨_,_,W,a,b⟩
theorem Vals.get{i:Nat}{x:V}(r:Vals xs us)(e:xs[i]?=Z x):∃u,us[i]?=Z u/\RelV x u:=by
 induction r generalizing i with
 |nil=>rw[List.getElem?_nil]at e;exact nomatch e
 |cons a b c=>
  cases i with
  |zero=>exact⟨_,W,ze e▸a⟩|succ j=>exact c (i:=j) e
theorem Vals.set{x:V}{u:ce}(r:RelV x u):∀{xs:List V}{us:List ce}(i:Nat),Vals xs us->Vals (xs.set i x) (us.set i u)
 |_,_,_,.nil=>.nil|_,_,0,.cons _ t=>.cons r t|_,_,i+1,.cons q t=>.cons q (Vals.set r i t)
theorem Vals.append{ys:List V}{ws:List ce}(r:Vals xs us)(s:Vals ys ws):Vals (xs++ys) (us++ws):=by
 induction r with
 |nil=>exact s|cons a _ b=>exact .cons a b
theorem Vals.take:∀{xs:List V}{us:List ce}(n:Nat),Vals xs us->Vals (xs.take n) (us.take n)
 |_,_,0,_=>.nil|_,_,_+1,.nil=>.nil|_,_,n+1,.cons r t=>.cons r (Vals.take n t)
theorem Vals.drop:∀{xs:List V}{us:List ce}(n:Nat),Vals xs us->Vals (xs.drop n) (us.drop n)
 |_,_,0,r=>r|_,_,_+1,.nil=>.nil|_,_,n+1,.cons _ t=>Vals.drop n t
def JS:Option V->Option ce->Prop
 |some v,Z u=>RelV v u|none,ν=>True|_,_=>False
def KV{a:Type}:List (a×V)->List (a×ce)->Prop:=Paired λ(p:a×V)(q:a×ce)=>p.1=q.1/\RelV p.2 q.2
noncomputable def kV:Key->V
 | .inl i=>.int i| .inr x=>.str x
inductive HO where
 |lst (xs:List V)
 |tup (xs:List V)
 |dK (kvs:List (Key×V))|dT (kvs:List (List Key×V))
 |set (S:Int->Bool) (n:Nat)
 |ins (C a:Addr) (fs:List (Str×V))
 |own (x:Addr)
 |xd (fs:List (Str×V))
 |met (f x:Addr)
 |bW (lo b:Int)
 |Ca (o:Obj) (u:HO)
 |cc (ps:Array ce)
 |ext (c:Heap->Prop)
abbrev Hp:=Addr->Option HO
def upd(H:Hp)(a:Addr)(o:HO):Hp:=λb=>if b=a then Z o else H b
def OZ(H:Hp)(o:HO)(Q:V->Hp->Prop):Prop:=∀p,H p=ν->Q (.ref p) (upd H p o)
variable{H:Hp}{a:Addr}{o:HO}
theorem AD:upd H a o a=Z o:=by unfold upd;rw[if_pos W]
variable{b:Addr}
theorem AH(h:b≠a):upd H a o b=H b:=by unfold upd;rw[if_neg h]
theorem Yy{u:HO}:upd (upd H a o) a u=upd H a u:=by
 funext b;unfold upd;split<;>rfl
theorem GY{u:HO}(h:H a=Z o)(h':H b=Z u)(d:o≠u):a≠b:=by
 intro e;subst e;rw[h]at h';exact d<|ze h'
theorem Al(h:H a=Z o)(h':H b=ν):a≠b:=by
 intro e;subst e;rw[h]at h';cases h'
section
variable(P:wv) (w:y8)
def Av(H:Hp)(h:Heap)(a:Addr):HO->Prop
 | .lst xs=>xs.length<=sizeLine/\∃(its:List ce)(n:Nat),Vals xs its/\h.get? a=Z {cls:=.type "list",data:=.seq its.toArray n}| .tup xs=>xs.length<=sizeLine/\∃its:List ce,Vals xs its/\aeJ h a its.toArray| .dK b=>b.length<=sizeLine/\(a==D9)=false/\∃g,KV b g/\h.DictOf (An P w) a g| .dT b=>b.length<=sizeLine/\(a==D9)=false/\∃xs:List (List Key×Addr×ce),
   Paired (λ(p:List Key×V)(q:List Key×Addr×ce)=>p.1=q.1/\H q.2.1=Z (.tup (p.1.map kV))/\RelV p.2 q.2.2) b xs/\
   ∃o i l,h.get? a=Z o/\o.ExactDict/\o.data=.dict i l/\i.toList=xs.map (entryOfKey (abP (An P w)))/\(xs.map (·.1)).Nodup
 | .set S n=>h.SetOf (intKind P w) a S n| .ins C d fs=>H d=Z (.own a)/\fs.length<=1000/\d≠a/\h.get? a=Z (aa7 C d)/\
   ∃c,h.Ns1 d c/\(∀f,JS (fs.lookup f) (c f))/\aeC c (fs.map (·.1))
 | .own _=>∃o,h.get? a=Z o| .xd fs=>∃c,h.Ns1 a c/\∀f,JS (fs.lookup f) (c f)| .bW lo m=>∃t u v,h.get? a=Z {cls:=.type "range",data:=.fields #[.int lo t,.int m u,.int 1 v]}
 | .Ca o u=>h.get? a=Z o/\Av H h a u| .cc r=>h.get? a=Z {cls:=.none,data:=.fields r}| .met f x=>h.get? a=Z (aah (.ref f) (.ref x))| .ext e=>e h/\(∃o,h.get? a=Z o)/\∀j k:Heap,e j->(∀o,j.get? a=Z o->k.get? a=Z o)->e k
def Ge(H:Hp)(h:Heap):Prop:=∀a o,H a=Z o->Av P w H h a o
end
variable{P:wv}{w:y8}{h h':Heap}{H':Hp}
section
theorem Av.lt(x:Av P w H h a o):a<h.objs.size:=by
 cases o with
 |lst c=>obtain⟨_,_,_,_,e⟩:=x;exact ii e
 |tup c=>obtain⟨_,_,_,p⟩:=x;exact p.lt
 |dK b=>obtain⟨_,_,_,_,o,_,_,e,_⟩:=x;exact ii e
 |dT b=>obtain⟨_,_,_,_,o,_,_,e,_⟩:=x;exact ii e
 |set S n=>obtain⟨o,_,_,_,e,_⟩:=x;exact ii e
 |ins C d fs=>obtain⟨_,_,_,e,_⟩:=x;exact ii e
 |own y=>obtain⟨_,e⟩:=x;exact ii e
 |xd fs=>obtain⟨_,⟨_,_,_,e,_⟩,_⟩:=x;exact ii e
 |bW lo g=>obtain⟨_,_,_,e⟩:=x;exact ii e
 |Ca i u=>obtain⟨e,_⟩:=x;exact ii e
 |cc j=>exact ii (show h.get? a=Z _ from x)|met f y=>exact ii (show h.get? a=Z _ from x)|ext k=>obtain⟨_,⟨_,e⟩,_⟩:=x;exact ii e
theorem Paired.UQ{e g:Type}{F G:e->g->Prop}{c:List e}{d:List g}(r:Paired F c d)(f:∀a b,F a b->G a b):Paired G c d:=by
 induction r with
 |nil=>exact .nil|cons a _ i=>exact .cons (f _ _ a) i
theorem Av.Oe(x:Av P w H h a o)(k:∀b u,(b=a∨H b=Z (.own a))->h.get? b=Z u->h'.get? b=Z u)(D:∀b,H b=Z (.own a)->H' b=Z (.own a))(E:∀b xs,H b=Z (.tup xs)->H' b=Z (.tup xs)):Av P w H' h' a o:=by
 induction o with
 |lst xs=>obtain⟨z,l,n,r,e⟩:=x;exact⟨z,l,n,r,k _ _ (.inl W) e⟩
 |tup xs=>obtain⟨z,l,r,g,e,c⟩:=x;exact⟨z,l,r,g,k _ _ (.inl W) e,c⟩
 |dK m=>obtain⟨z,y,F,r,g,i,j,e,c⟩:=x;exact⟨z,y,F,r,g,i,j,k _ _ (.inl W) e,c⟩
 |dT m=>
  obtain⟨z,y,xs,r,g,i,j,e,c⟩:=x;exact⟨z,y,xs,Paired.UQ r λp q z=>⟨z.1,E _ _ z.2.1,z.2.2⟩,g,i,j,k _ _ (.inl W) e,c⟩
 |set S n=>obtain⟨g,i,j,t,e,c⟩:=x;exact⟨g,i,j,t,k _ _ (.inl W) e,c⟩
 |ins C J fs=>
  obtain⟨d,z,ne,e,s,⟨A,i,j,G,c⟩,r⟩:=x;exact⟨D _ d,z,ne,k _ _ (.inl W) e,s,⟨A,i,j,k _ _ (.inr d) G,c⟩,r⟩
 |own y=>obtain⟨g,e⟩:=x;exact⟨g,k _ _ (.inl W) e⟩
 |xd fs=>obtain⟨s,⟨A,i,j,e,c⟩,r⟩:=x;exact⟨s,⟨A,i,j,k _ _ (.inl W) e,c⟩,r⟩
 |bW lo K=>obtain⟨t,u,v,e⟩:=x;exact⟨t,u,v,k _ _ (.inl W) e⟩
 |Ca g u I=>obtain⟨e,q⟩:=x;exact⟨k _ _ (.inl W) e,I q⟩
 |cc B=>
  have e:h.get? a=Z {cls:=.none,data:=.fields B}:=x;show h'.get? a=Z {cls:=.none,data:=.fields B};exact k a _ (.inl W) e
 |met f y=>
  have e:h.get? a=Z (aah (.ref f)<|.ref y):=x;show h'.get? a=Z (aah (.ref f)<|.ref y);exact k a _ (.inl W) e
 |ext L=>obtain⟨p,⟨o,e⟩,st⟩:=x;exact⟨st _ _ p λo q=>k _ _ (.inl W) q,⟨o,k _ _ (.inl W) e⟩,st⟩
theorem Ge.lt(x:Ge P w H h)(e:H a=Z o):a<h.objs.size:=(x a o e).lt
theorem Ge.fresh(x:Ge P w H h)(e:h.objs.size<=a):H a=none:=by
 cases q:H a with
 |none=>rfl|some u=>exact absurd (bn (x.lt q) e) (E2 _)
theorem Ge.kept(x:Ge P w H h)(k:∀b u,h.get? b=Z u->h'.get? b=Z u):Ge P w H h':=λa o e=>
 (x a o e).Oe (λb u _ q=>k b u q) (λ_ q=>q) λ_ _ q=>q
theorem Ge.laid(x:Ge P w H h)(k:∀b u,h.get? b=Z u->h'.get? b=Z u)(g:h.objs.size<=a)(new:Av P w (upd H a o) h' a o):Ge P w (upd H a o) h':=λb u e=>by
 have d:=x.fresh g;by_cases f:b=a
 .subst f;rw[AD]at e;cases e;exact new
 .rw[AH f]at e;exact(x b u e).Oe (λc v _ q=>k c v q) (λc q=>by rw[AH<|Al q d];exact q) λc i q=>by rw[AH<|Al q d];exact q
end
def Rd(H:Hp)(a:Addr)(u:HO):Prop:=H a=Z u∨∃o,H a=Z (.Ca o u)
theorem Rd.ok{u:HO}(r:Rd H a u)(x:Ge P w H h):Av P w H h a u:=by
 rcases r with r|⟨o,r⟩
 .exact x a u r
 .obtain⟨_,q⟩:=x a _ r;exact q
def gW:Option HO->Prop
 |some (.lst _)=>True|some (.dK _)=>True|some (.dT _)=>True|some (.set _ _)=>True|some (.ins _ _ _)=>True|some (.ext _)=>True|_=>False
section
variable {x e:Addr} {o':HO}
theorem Ge.write(ok:Ge P w H h)(g:gW (H x))(n:e=x∨H e=Z (.own x))(k:∀b u,b≠e->h.get? b=Z u->h'.get? b=Z u)(m:∃u,h'.get? e=Z u)(new:Av P w (upd H x o') h' x o'):Ge P w (upd H x o') h':=λb u q=>by
 have d:∀c y,H c=Z (.own y)->c≠x:=λc y r z=>by subst z;rw[r]at g;exact g
 have f:∀c i,H c=Z (.tup i)->c≠x:=λc i r z=>by subst z;rw[r]at g;exact g
 by_cases j:b=x
 .subst j;rw[AD]at q;cases q;exact new
 .rw[AH j]at q;by_cases a:b=e
  .have o:H b=Z (.own x):=by
    rcases n with z|z
    .exact absurd (a.trans z) j
    .rw[a];exact z
   rw[q]at o;cases o;obtain⟨v,p⟩:=m;exact⟨v,by rw[a];exact p⟩
  .refine(ok b u q).Oe (λc v l r=>k c v ?_ r) (λc r=>by rw[AH<|d c b r];exact r) λc i r=>by rw[AH<|f c i r];exact r
   rcases l with rfl|l
   .exact a
   .rintro rfl;rcases n with z|z
    .exact d c b l z
    .rw[l]at z;cases z;exact j W
end
structure Un(fs ex:List Addr)(H H':Hp)(h h':Heap):Prop where
 keep:∀b o,h.get? b=Z o->H b=ν->b∉fs->b∉ex->h'.get? b=Z o
 slot:∀b o,h.get? b=Z o->H b=ν->b∈fs->b∉ex->∃sl,h'.get? b=Z {o with slots:=sl}
 free:∀b o,h.get? b=Z o->H b=ν->b∉ex->H' b=ν
 there:∀b o,h.get? b=Z o->b∉ex->∃o',h'.get? b=Z o'
 KL:∀b xs,H b=Z (.tup xs)->H' b=Z (.tup xs)
 IW:∀b o u,H b=Z (.Ca o u)->H' b=Z (.Ca o u)
 Lj:∀b ps,H b=Z (.cc ps)->∃more,H' b=Z (.cc (ps++more))
section
variable{fs sV ex yX:List Addr} {H1 H2:Hp} {h1 h2:Heap} {x e:Addr} 
theorem Un.any(u:Un fs ex H H1 h h1){c:Obj}(q:h.get? b=Z c)(n:H b=ν)(d:b∉ex):∃sl,h1.get? b=Z {c with slots:=sl}:=by
 by_cases f:b∈fs
 .exact u.slot b c q n f d
 .exact⟨c.slots,u.keep b c q n f d⟩
theorem Un.kept(k:∀b u,h.get? b=Z u->h'.get? b=Z u):Un fs ex H H h h':=
 ⟨λb c q _ _ _=>k b c q,λb c q _ _ _=>⟨c.slots,k b c q⟩,λ_ _ _ n _=>n,λb c q _=>⟨c,k b c q⟩,λ_ _ q=>q,λ_ _ _ q=>q,λ_ d q=>⟨#[],by rw[q];simp⟩⟩
theorem Un.refl:Un fs ex H H h h:=Un.kept λ_ _ q=>q
theorem Un.laid(k:∀b u,h.get? b=Z u->h'.get? b=Z u)(hp:h.objs.size<=a)(hn:H a=ν):Un fs ex H (upd H a o) h h' where
 keep:=λb u q _ _ _=>k b u q
 slot:=λb u q _ _ _=>⟨u.slots,k b u q⟩
 free:=λb u q n _=>by rw[AH (j7 (bn (ii q) hp))];exact n
 there:=λb u q _=>⟨u,k b u q⟩
 KL:=λb xs q=>by rw[AH (Al q hn)];exact q
 IW:=λb u xs q=>by rw[AH (Al q hn)];exact q
 Lj:=λb ps q=>⟨#[],by rw[AH (Al q hn),q];simp⟩
theorem Un.write(d:gW (H x))(l:e=x∨H e=Z (.own x))(k:∀b u,b≠e->h.get? b=Z u->h'.get? b=Z u)(f:∃u,h'.get? e=Z u):Un fs ex H (upd H x o) h h':=by
 have i:∀b,H b=ν->b≠x:=λb n z=>by subst z;rw[n]at d;exact d
 have j:∀b,H b=ν->b≠e:=λb n z=>by
  subst z;rcases l with r|r
  .exact i b n r
  .rw[n]at r;cases r
 have g:∀b u,H b=Z u->¬gW (Z u)->b≠x:=λb u q nm z=>by subst z;rw[q]at d;exact nm d
 refine⟨λb u q n _ _=>k b u (j b n) q,λb u q n _ _=>⟨u.slots,k b u (j b n) q⟩,λb u q n _=>by rw[AH (i b n)];exact n,λb u q _=>?_,
  λb m q=>by rw[AH (g b _ q λz=>z)];exact q,λb u m q=>by rw[AH (g b _ q λz=>z)];exact q,λb p q=>⟨#[],by rw[AH (g b _ q λz=>z),q];simp⟩⟩
 by_cases c:b=e
 .subst c;exact f
 .exact⟨u,k b u c q⟩
end
def js(h:Heap)(H:Hp):List Addr:=(j9 h.objs.size).filter λa=>(H a).isSome
def ND(h:Heap)(H:Hp):Heap:=PySem.W.hideAll h<|js h H
theorem UR(h:Heap)(H:Hp):(ND h H).objs.size=h.objs.size:=PySem.W.hideAll_size _ _
theorem Vz{o:Obj}(e:h.get? b=Z o)(n:H b=ν):(ND h H).get? b=Z o:=
 PySem.W.hideAll_get _ e λa=>by
  have q:(H b).isSome=true:=(E5.mp a).2;rw[n]at q;simp at q
theorem Yz{o:Obj}(e:(ND h H).get? b=Z o):h.get? b=Z o/\H b=none:=by
 have a:h.get? b=Z o:=PySem.W.of_hideAll (js h H) e;refine⟨a,?_⟩;cases q:H b with
 |none=>rfl|some x=>
  have c:b∈js h H:=E5.mpr ⟨zw.mpr<|ii a,by simp[q]⟩;have z:(ND h H).get? b=none:=PySem.W.hideAll_none (js h H) c;rw[z]at e;cases e
def Y_(g h:Heap)(L:Addr):List (Addr×Obj):=(j9 h.objs.size).filterMap λa=>if a=L∨(g.get? a).isSome=true then ν else(h.get? a).map λo=>(a,o)
def rest(g h:Heap)(L d:Addr):List (Addr×Obj):=(Y_ g h L).filter λp=>decide<|p.1≠d
structure Mod(K:zg)(mg:Str->Option ce)(base:Heap):Prop where
 gX:K.In base
 glob:base.Ns zj mg
 blt:∃mb,base.Ns adN mb/\∀x:Str,x≠"__name__"->mb x=v7 x
 nolimit:base.NoLimit
structure Cx where
 prog:wv
 w:y8
 K:zg
 mg:Str->Option ce
 base:Heap
 A:G1
 N:List Str
 s₀:fx
 H₀:Hp
 env:Env
 outer:List Env
 stack:List Env
 ex:List Addr
 fn:Str->Bool
 calm:Bool
 pn:List (Addr×Obj)
 xe:ce->fx->Prop
def V_(l:List Env):List Addr:=l.filterMap (·.frame)
abbrev Cx.fs(X:Cx):List Addr:=V_ X.outer
def jt(a:Scope)(x:Str):Prop:=a.names.lookup x=Z .local∨a.names.lookup x=Z .cell∨a.names.lookup x=Z .free
def Loc(a:Scope)(x:Str):Prop:=a.names.lookup x=Z .local∨a.names.lookup x=Z .cell
def Look(env:Env)(h:Heap)(m:Str->Option ce)(x:Str)(u:ce):Prop:= (env.kindOf x=Z .local/\m x=Z u)∨((env.kindOf x=Z .cell∨env.kindOf x=Z .free)/\∃c,env.cells.lookup x=Z c/\h.IsCell c (Z u))
structure Cx.Ok(X:Cx):Prop where
 mod:Mod X.K X.mg X.base
 kind:X.env.scope.kind=.function
 glob:X.env.globals=zj
 blt:X.env.builtins=adN
 above:X.s₀.heap.objs.size<=X.env.locals
 inj:∀x y c,X.env.cells.lookup x=Z c->X.env.cells.lookup y=Z c->x=y
 has:∀x,(X.env.kindOf x=Z .cell∨X.env.kindOf x=Z .free)->∃c,X.env.cells.lookup x=Z c
 gY:∀x c,X.fn x=true->X.env.cells.lookup x=Z c->X.s₀.heap.objs.size<=c
 hd:X.calm=true->X.A.handled=ν
 frames:X.A.frames=Z X.stack
 ju:X.stack=X.outer∨(X.stack=X.env::X.outer/\X.env.frame=Z X.env.locals)
 jv:∀b∈X.ex,b≠X.env.locals/\∀x c,X.env.cells.lookup x=Z c->c≠b
 bs:∀b o,X.base.get? b=Z o->X.s₀.heap.get? b=Z o/\X.H₀ b=ν
 bX:X.base.objs.size<=X.s₀.heap.objs.size
 V':∀b o,X.base.get? b=Z o->b∉X.ex
 WA:∀b∈X.ex,b∉X.fs
 KN:X.s₀.heap.FunFrames X.base X.outer
 f_:∀b∈X.fs,X.H₀ b=ν
structure Inv(X:Cx)(pins:List (Addr×Obj))(σ:List (Option V))(H:Hp)(s:fx):Prop where
 ok:X.Ok
 os:s.os=X.s₀.os
 bare:aad s.gens
 base:Un X.fs X.ex X.H₀ H X.s₀.heap s.heap
 loc:∃m,s.heap.Ns X.env.locals m/\∀(i:Nat)(x:Str)(v:V),X.N[i]?=Z x->σ[i]?=Z (Z v)->jt X.env.scope x->∃u,RelV v u/\Look X.env s.heap m x u
 cell:∀x c,X.env.cells.lookup x=Z c->∃v,s.heap.IsCell c v
 free:H X.env.locals=ν
 EL:∀x c,X.env.cells.lookup x=Z c->H c=ν
 pin:∀p∈X.pn++pins,s.heap.get? p.1=Z p.2/\H p.1=ν/\p.1≠X.env.locals/\p.1∉X.fs/\∀v,p.2.data≠.cell v
 BN:Ge X.prog X.w H s.heap
 len:σ.length=X.N.length
variable{pins:List (Addr×Obj)}{E:ce->fx->Prop}{s:fx}{X:Cx}{A:G1}{u:ce}{x:Str}{ch:List Addr}{g':Array GenState}{M:Model}{t':Nat}{v:V}{N:List Str}{d':Drawn}
section
variable {σ:List (Option V)} 
theorem Cx.Ok.lO(ok:X.Ok){o:Obj}(e:X.base.get? b=Z o):b∉X.fs:=λa=>by
 have:=(ok.KN.mem a).1;rw[e]at this;cases this
theorem Inv.bs(I:Inv X pins σ H s):∀b o,X.base.get? b=Z o->s.heap.get? b=Z o/\H b=none:=λb o e=>
 ⟨I.base.keep b o (I.ok.bs b o e).1 (I.ok.bs b o e).2 (I.ok.lO e) (I.ok.V' b o e),I.base.free b o (I.ok.bs b o e).1 (I.ok.bs b o e).2 (I.ok.V' b o e)⟩
theorem Inv.bk(I:Inv X pins σ H s):∀b o,X.base.get? b=Z o->s.heap.get? b=Z o:=λb o e=>(I.bs b o e).1
theorem Inv.mod(I:Inv X pins σ H s):Mod X.K X.mg X.base:=I.ok.mod
theorem Inv.G'(I:Inv X pins σ H s):X.K.In s.heap:=I.ok.mod.gX.keeps I.bk
theorem Inv.lt(I:Inv X pins σ H s):X.env.locals<s.heap.objs.size:=let⟨_,a,_⟩:=I.loc;a.lt
theorem Inv.sz(I:Inv X pins σ H s):X.s₀.heap.objs.size<=s.heap.objs.size:=am I.ok.above<|gt I.lt
theorem Inv.lP(I:Inv X pins σ H s)(h:s.heap.objs.size<=a):a∉X.fs:=λb=>by
 obtain⟨_,o,c,_⟩:=I.ok.KN.mem b;exact absurd (bn (ii c)<|am I.sz h)<|E2 _
theorem Inv.cf(I:Inv X pins σ H s):∀x c,X.env.cells.lookup x=Z c->c≠X.env.locals:=λx c e z=>by
 obtain⟨v,o,d,f⟩:=I.cell x c e;obtain⟨m,⟨g,h,i,a,b,_⟩,_⟩:=I.loc;rw[z,a]at d;cases d;rw[b]at f;cases f
theorem Inv.KN(I:Inv X pins σ H s):s.heap.FunFrames X.base X.outer:=by
 have all:∀(l:List Env),(∀b∈V_ l,b∈X.fs)->X.s₀.heap.FunFrames X.base l->s.heap.FunFrames X.base l:=by
  intro l
  induction l with
  |nil=>intro _ _;trivial|cons env r g=>
   intro f h;obtain⟨i,⟨L,o,a,j,k,m⟩,n⟩:=h;have c:L∈X.fs:=f L (by unfold V_;rw[Ch,a];exact d9);obtain⟨p,e⟩:=I.base.slot L o k (I.ok.f_ L c) c λz=>I.ok.WA L z c;exact⟨i,⟨L,_,a,j,e,m⟩,g (λb d=>f b<|by unfold V_;rw[Ch,a];exact cr _ d) n⟩
 exact all X.outer (λ_ d=>d) I.ok.KN
theorem Inv.stack(I:Inv X pins σ H s):s.heap.FunFrames X.base X.stack:=by
 rcases I.ok.ju with e|⟨e,a⟩
 .rw[e];exact I.KN
 .rw[e];obtain⟨m,b,_⟩:=I.loc;refine .cons (by rw[I.ok.kind];decide) a b ?_ I.KN;exact Heap.get?_none_of_le<|am I.ok.bX I.ok.above
theorem Inv.RG(I:Inv X pins σ H s):∀b∈V_ X.stack,b∈X.env.locals::X.fs:=λb a=>by
 rcases I.ok.ju with e|⟨e,c⟩
 .rw[e]at a;exact cr _ a
 .rw[e]at a;unfold V_ at a;rw[Ch,c]at a;exact a
theorem Inv.So(I:Inv X pins σ H s):∀b∈V_ X.stack,H b=none:=λb a=>by
 rcases j4.mp (I.RG b a)with e|a
 .rw[e];exact I.free
 .obtain⟨_,o,c,_⟩:=I.ok.KN.mem a;exact I.base.free b o c (I.ok.f_ b a) λz=>I.ok.WA b z a
theorem Inv.step(I:Inv X pins σ H s)(f:∀b∈ch,(b∈X.ex∨X.s₀.heap.objs.size<=b)/\b≠X.env.locals/\(∀x c,X.env.cells.lookup x=Z c->c≠b)/\∀p∈X.pn++pins,p.1≠b)(keep:∀b o,b≠X.env.locals->b∉X.fs->b∉ch->s.heap.get? b=Z o->H b=ν->h'.get? b=Z o)(slot:∀b o,b≠X.env.locals->b∈X.fs->b∉ch->s.heap.get? b=Z o->H b=ν->∃sl,h'.get? b=Z {o with slots:=sl})(free:∀b o,b∉ch->s.heap.get? b=Z o->H b=ν->H' b=ν)(there:∀b o,b∉ch->s.heap.get? b=Z o->∃B,h'.get? b=Z B)(KL:∀b t,H b=Z (.tup t)->H' b=Z (.tup t))(IW:∀b o u,H b=Z (.Ca o u)->H' b=Z (.Ca o u))(Lj:∀b E,H b=Z (.cc E)->∃more,H' b=Z (.cc (E++more)))(M:∀m,s.heap.Ns X.env.locals m->h'.Ns X.env.locals m)(F:Ge X.prog X.w H' h')(N:aad g'):
  Inv X pins σ H' {s with heap:=h',gens:=g',drawn:=d',toks:=t'}:=by
 have C:∀b o,X.s₀.heap.get? b=Z o->b≠X.env.locals:=λb o e=>j7<|bn (ii e) I.ok.above;have h:∀b o,X.s₀.heap.get? b=Z o->b∉X.ex->b∉ch:=λb o e a y=>by
  rcases(f b y).1 with z|z
  .exact a z
  .exact absurd (bn (ii e) z)<|E2 _
 have cellK:∀x c,X.env.cells.lookup x=Z c->∀v,s.heap.IsCell c v->h'.IsCell c v:=λx c e v ⟨o,A,G⟩=>by
  have g:c∉ch:=λz=>(f c z).2.2.1 x c e W;by_cases K:c∈X.fs
  .obtain⟨sl,q⟩:=slot c o (I.cf x c e) K g A<|I.EL x c e;exact⟨_,q,G⟩
  .exact⟨o,keep c o (I.cf x c e) K g A<|I.EL x c e,G⟩
 refine⟨I.ok,I.os,N,⟨λb o e n y a=>?_,λb o e n y a=>?_,λb o e n a=>?_,λb o e a=>?_,λb t e=>KL b t<|I.base.KL b t e,λb o t e=>IW b o t<|I.base.IW b o t e,λb E e=>?_⟩,?_,λx c e=>?_,?_,λx c e=>?_,λp L=>?_,F,I.len⟩
 .exact keep b o (C b o e) y (h b o e a) (I.base.keep b o e n y a)<|I.base.free b o e n a
 .obtain⟨sl,j⟩:=I.base.slot b o e n y a;obtain⟨J,D⟩:=slot b _ (C b o e) y (h b o e a) j<|I.base.free b o e n a;exact⟨J,D⟩
 .obtain⟨B,j⟩:=I.base.there b o e a;exact free b B (h b o e a) j<|I.base.free b o e n a
 .obtain⟨B,j⟩:=I.base.there b o e a;exact there b B (h b o e a) j
 .obtain⟨O,j⟩:=I.base.Lj b E e;obtain⟨P,D⟩:=Lj b _ j;exact⟨O++P,by rw[D,Array.append_assoc]⟩
 .obtain⟨m,Q,R⟩:=I.loc;refine⟨m,M m Q,λi x v j D S=>?_⟩;obtain⟨u,r,l⟩:=R i x v j D S;refine⟨u,r,?_⟩;rcases l with l|⟨k,c,e,z⟩
  .exact .inl l
  .exact .inr ⟨k,c,e,cellK x c e _ z⟩
 .obtain⟨v,z⟩:=I.cell x c e;exact⟨v,cellK x c e v z⟩
 .obtain⟨m,⟨o,_,_,A,_⟩,_⟩:=I.loc;exact free _ o (λz=>(f _ z).2.1 W) A I.free
 .obtain⟨v,o,A,G⟩:=I.cell x c e;exact free c o (λz=>(f c z).2.2.1 x c e W) A<|I.EL x c e
 .obtain⟨e,n,ne,nf,d⟩:=I.pin p L;have g:p.1∉ch:=λz=>(f p.1 z).2.2.2 p L W;exact⟨keep p.1 p.2 ne nf g e n,free p.1 p.2 g e n,ne,nf,d⟩
theorem Inv.un(I:Inv X pins σ H s)(u:Un X.fs [] H H' s.heap h')(c:Ge X.prog X.w H' h'):Inv X pins σ H' {s with heap:=h',toks:=t'}:=by
 obtain⟨m,⟨o,l,p,h,r⟩,_⟩:=id I.loc;obtain⟨q,i⟩:=u.any h I.free GE;exact I.step (g':=s.gens) (d':=s.drawn) (ch:=[]) (λ_ z=>nomatch z) (λb o _ d _ e n=>u.keep b o e n d GE) (λb o _ d _ e n=>u.slot b o e n d GE) (λb o _ e n=>u.free b o e n GE) (λb o _ e=>u.there b o e GE) u.KL u.IW u.Lj (λt j=>by
  obtain⟨v,f,g,a,k⟩:=j;rw[h]at a;cases a;exact⟨_,f,g,i,k⟩) c I.bare
theorem Inv.call(I:Inv X pins σ H s)(u:Un (V_ X.stack) ch H H' s.heap h')(g:Ge X.prog X.w H' h')(l:aad g')(d:∀b∈ch,(b∈X.ex∨X.s₀.heap.objs.size<=b)/\b≠X.env.locals/\(∀x c,X.env.cells.lookup x=Z c->c≠b)/\∀p∈X.pn++pins,p.1≠b):
  Inv X pins σ H' {s with heap:=h',gens:=g',drawn:=d',toks:=t'}:=by
 obtain⟨m,⟨o,y,A,k,r⟩,_⟩:=id I.loc;obtain⟨B,h⟩:=u.any k I.free λz=>(d _ z).2.1 W;exact I.step (ch:=ch) d (λb o h q a e n=>u.keep b o e n (λz=>(j4.mp (I.RG b z)).elim h q) a) (λb o _ _ a e n=>u.any e n a) (λb o a e n=>u.free b o e n a) (λb o a e=>u.there b o e a) u.KL u.IW u.Lj (λC t=>by
  obtain⟨D,i,j,f,v⟩:=t;rw[k]at f;cases f;exact⟨_,i,j,h,v⟩) g l
theorem Inv.turned(I:Inv X pins σ H s)(k:∀b o,b≠a->s.heap.get? b=Z o->h'.get? b=Z o)(h:H a=ν)(g:a≠X.env.locals)(i:a∈X.ex∨X.s₀.heap.objs.size<=a)(j:∀x c,X.env.cells.lookup x=Z c->c≠a)(l:∀p∈X.pn++pins,p.1≠a):Inv X pins σ H {s with heap:=h',toks:=t'}:=by
 have f:∀b u,H b=Z u->b≠a:=λb u e z=>by rw[z,h]at e;cases e
 refine I.step (g':=s.gens) (d':=s.drawn) (ch:=[a]) (λb t=>?_) (λb o _ _ d e _=>k b o (λz=>d<|by simp[z]) e) (λb o _ _ d e _=>⟨o.slots,k b o (λz=>d<|by simp[z]) e⟩) (λ_ _ _ _ n=>n) (λb o d e=>⟨o,k b o (λz=>d<|by simp[z]) e⟩) (λ_ _ e=>e) (λ_ _ _ e=>e) (λb C e=>⟨#[],by rw[e];simp⟩) (λm w=>?_) (λb u e=>?_) I.bare
 .have e:b=a:=GT t
  subst e;exact⟨i,g,j,l⟩
 .obtain⟨o,y,A,B,r⟩:=w;exact⟨o,y,A,k _ o (zn g) B,r⟩
 .refine(I.BN b u e).Oe (λc v d q=>k c v ?_ q) (λ_ q=>q) λ_ _ q=>q;rcases d with z|z
  .rw[z];exact f b u e
  .exact f c _ z
theorem Inv.tok(I:Inv X pins σ H s)(t:Nat):Inv X pins σ H {s with toks:=t}:=I.un (h':=s.heap) (t':=t) Un.refl I.BN
theorem Inv.kept{t':Nat}(I:Inv X pins σ H s)(k:∀b u,s.heap.get? b=Z u->h'.get? b=Z u):Inv X pins σ H {s with heap:=h',toks:=t'}:=I.un (Un.kept k)<|I.BN.kept k
theorem Inv.laid{a:Addr}{o:HO}{t':Nat}(I:Inv X pins σ H s)(k:∀b u,s.heap.get? b=Z u->h'.get? b=Z u)(c:s.heap.objs.size<=a)(new:Av X.prog X.w (upd H a o) h' a o):
  Inv X pins σ (upd H a o) {s with heap:=h',toks:=t'}:=I.un (Un.laid k c (I.BN.fresh c)) (I.BN.laid k c new)
theorem Inv.write{x e:Addr}{o:HO}{t':Nat}(I:Inv X pins σ H s)(c:gW (H x))(d:e=x∨H e=Z (.own x))(k:∀b u,b≠e->s.heap.get? b=Z u->h'.get? b=Z u)(a:∃u,h'.get? e=Z u)(new:Av X.prog X.w (upd H x o) h' x o):Inv X pins σ (upd H x o) {s with heap:=h',toks:=t'}:=I.un (Un.write c d k a)<|I.BN.write c d k a new
theorem Inv.Sq{a:List (Addr×Obj)}(I:Inv X pins σ H s)(h:∀p∈a,s.heap.get? p.1=Z p.2/\H p.1=ν/\p.1≠X.env.locals/\p.1∉X.fs/\∀v,p.2.data≠.cell v):Inv X a σ H s:=
 ⟨I.ok,I.os,I.bare,I.base,I.loc,I.cell,I.free,I.EL,λp b=>(rc.mp b).elim (λz=>I.pin p (L7 _ z)) (h p),I.BN,I.len⟩
theorem Of(c:N.Nodup){i j:Nat}(a:N[i]?=Z x)(b:N[j]?=Z x):i=j:=by
 obtain⟨f,d⟩:=zd a;obtain⟨g,e⟩:=zd b;exact(List.getElem_inj c).mp<|d.trans e.symm
theorem MC{i:Nat}{Q:Unit->fx->Prop}(I:Inv X pins σ H s)(hN:X.N.Nodup)(L:X.N[i]?=Z x)(t:Loc X.env.scope x)(r:RelV v u)(h:∀ζ,Inv X pins (σ.set i (Z v)) H ζ->(∃a,C8 a s.heap ζ.heap/\(a=X.env.locals∨X.env.cells.lookup x=Z a))->Q () ζ)(hf:X.fn x=true∨X.env.scope.names.lookup x=Z .local:=by first|exact .inl rfl|exact .inr rfl|assumption):i9 M A (storeName X.env x u) Q E s:=by
 obtain⟨m,ξ,hl⟩:=id I.loc;have O:(X.env.scope.kind==.class||(X.env.scope.kind==.module&&X.env.locals !=X.env.globals))=false:=by rw[I.ok.kind];rfl
 have D:i<σ.length:=by rw[I.len];exact(zd L).1
 have cf:=I.cf;have tracked:∀{a:Addr}{h':Heap},(∃o,s.heap.get? a=Z o/\H a=ν)->C8 a s.heap h'->Ge X.prog X.w H h':=λ{a h'} ha f b ob e=>by
  obtain⟨_,_,B⟩:=ha;refine(I.BN b ob e).Oe (λc U l q=>(f.2 c ?_).trans q) (λ_ q=>q) λ_ _ q=>q;rintro rfl;rcases l with rfl|l
  .rw[B]at e;cases e
  .rw[B]at l;cases l
 rcases t with F|F
 .refine wpAny_storeName_local F ξ (λh' sW f=>?_) O;obtain⟨oL,_,_,sX,_⟩:=id ξ;refine h _ ⟨I.ok,I.os,I.bare,⟨λb o e n G t=>?_,λb o e n G t=>?_,I.base.free,λb o e t=>?_,I.base.KL,I.base.IW,I.base.Lj⟩,⟨_,sW,λj y v' g C e3=>?_⟩,λy c e=>?_,I.free,I.EL,λp hp=>?_,tracked ⟨oL,sX,I.free⟩ f,GT I.len⟩ ⟨_,f,.inl W⟩
  .exact(f.2 b<|j7<|bn (ii e) I.ok.above).trans<|I.base.keep b o e n G t
  .obtain⟨sl,g⟩:=I.base.slot b o e n G t;exact⟨sl,(f.2 b<|j7<|bn (ii e) I.ok.above).trans g⟩
  .obtain⟨o',g⟩:=I.base.there b o e t;exact⟨o',(f.2 b<|j7<|bn (ii e) I.ok.above).trans g⟩
  .by_cases J:j=i
   .subst J;rw[L]at g;cases g;rw[D8 D]at C;cases C;exact⟨u,r,.inl ⟨F,GE⟩⟩
   .rw[F0<|zn J]at C;obtain⟨u',r',q⟩:=hl j y v' g C e3;refine⟨u',r',?_⟩;rcases q with⟨k,e⟩|⟨k,c,e,z⟩
    .refine .inl ⟨k,?_⟩;have:y≠x:=λe=>J<|Of hN g<|e▸L;simp[this,e]
    .exact .inr ⟨k,c,e,z.sameBut f<|cf y c e⟩
  .obtain⟨U,z⟩:=I.cell y c e;exact⟨U,z.sameBut f<|cf y c e⟩
  .obtain⟨e,n,ne,nf,d⟩:=I.pin p hp;exact⟨(f.2 p.1 ne).trans e,n,ne,nf,d⟩
 .have K:X.fn x=true:=by
   rcases hf with z|z
   .exact z
   .rw[z]at F;cases F
  obtain⟨c,l⟩:=I.ok.has x<|.inl F;obtain⟨U,z⟩:=I.cell x c l;refine wpAny_storeName_cell I.ok.kind F l z (λh' P f=>?_);obtain⟨oc,R,S⟩:=id z;refine h {s with heap:=h'} ⟨I.ok,I.os,I.bare,⟨λb o e n G t=>?_,λb o e n G t=>?_,I.base.free,λb o e t=>?_,I.base.KL,I.base.IW,I.base.Lj⟩,⟨m,ξ.sameBut f<|zn<|cf x c l,λj y v' g C e3=>?_⟩,λy Y e=>?_,I.free,I.EL,λp hp=>?_,tracked ⟨oc,R,I.EL x c l⟩ f,GT I.len⟩ ⟨c,f,.inr l⟩
  .exact(f.2 b<|j7<|bn (ii e)<|I.ok.gY x c K l).trans<|I.base.keep b o e n G t
  .obtain⟨sl,g⟩:=I.base.slot b o e n G t;exact⟨sl,(f.2 b<|j7<|bn (ii e)<|I.ok.gY x c K l).trans g⟩
  .obtain⟨o',g⟩:=I.base.there b o e t;exact⟨o',(f.2 b<|j7<|bn (ii e)<|I.ok.gY x c K l).trans g⟩
  .by_cases J:j=i
   .subst J;rw[L]at g;cases g;rw[D8 D]at C;cases C;exact⟨u,r,.inr ⟨.inl F,c,l,P⟩⟩
   .rw[F0<|zn J]at C;obtain⟨u',r',q⟩:=hl j y v' g C e3;refine⟨u',r',?_⟩;rcases q with q|⟨k,Y,e,z'⟩
    .exact .inl q
    .refine .inr ⟨k,Y,e,z'.sameBut f ?_⟩;rintro rfl;exact J<|Of hN g<|I.ok.inj _ _ _ e l▸L
  .by_cases T:Y=c
   .subst T;exact⟨_,P⟩
   .obtain⟨w2,z2⟩:=I.cell y Y e;exact⟨w2,z2.sameBut f T⟩
  .obtain⟨e,n,ne,nf,d⟩:=I.pin p hp;refine⟨(f.2 p.1 ?_).trans e,n,ne,nf,d⟩;intro q;rw[q,R]at e;have q':oc=p.2:=ze e;exact d U<|by rw[<-q'];exact S
theorem Og{i:Nat}{Q:Unit->fx->Prop}(I:Inv X pins σ H s)(b:X.N.Nodup)(c:X.N[i]?=Z x)(d:Loc X.env.scope x)(r:RelV v u)(h:∀a,Inv X pins (σ.set i (Z v)) H a->Q () a)(e:X.fn x=true∨X.env.scope.names.lookup x=Z .local:=by first|exact .inl rfl|exact .inr rfl|assumption):i9 M A (storeName X.env x u) Q E s:=
 MC I b c d r (λa f _=>h a f) e
theorem Inv.gZ{a:fx}(I:Inv X pins σ H s)(g:a.os=s.os)(u:Un (V_ X.stack) ch H H' s.heap a.heap)(d:Ge X.prog X.w H' a.heap)(h:aad a.gens)(f:∀b∈ch,(b∈X.ex∨X.s₀.heap.objs.size<=b)/\b≠X.env.locals/\(∀x c,X.env.cells.lookup x=Z c->c≠b)/\∀p∈X.pn++pins,p.1≠b):Inv X pins σ H' a:=by
 obtain⟨h',g',d',t',i⟩:=a;have e:i=s.os:=g;subst e;exact I.call (g':=g') (t':=t') (d':=d') u d h f
end
abbrev XK:=ce->Option Addr->Hp->Prop
abbrev St:=List<|Option V
abbrev VK:=V->Hp->Prop
abbrev TE:=St->Hp->VK->Prop
abbrev TT:=St->Hp->(Bool->Hp->Prop)->Prop
abbrev TA:=St->Hp->(List V->Hp->Prop)->Prop
structure Ends where
 nx:St->Hp->Prop
 rt:VK
 bk:St->Hp->Prop:=λ_ _=>False
 ct:St->Hp->Prop:=λ_ _=>False
abbrev TS:=Ends->St->Hp->Prop
inductive pZ(x:V)(H:Hp)(Q:Bool->Hp->Prop):Prop|mk(c:Bool)(e:x=.bl c)(q:Q c H)
inductive lQ(a:TE)(σ:St)(x:V)(H:Hp)(Q:VK):Prop|mk(c:Bool)(e:x=.bl c)(q:if c=true then a σ H Q else Q (.bl false) H)
inductive sY(a:TE)(σ:St)(x:V)(H:Hp)(Q:VK):Prop|mk(c:Bool)(e:x=.bl c)(q:if c=true then Q (.bl true) H else a σ H Q)
inductive sZ(x:V)(H:Hp)(Q:Option Int->Hp->Prop):Prop|mk(i:Int)(e:x=.int i)(q:Q (Z i) H)
inductive EP(X:Cx)(pins:List (Addr×Obj))(σ:St)(Q:VK)(u:ce)(b:fx):Prop|mk(v:V)(a:Hp)(I:Inv X pins σ a b)(r:RelV v u)(q:Q v a)
inductive TP(X:Cx)(pins:List (Addr×Obj))(σ:St)(Q:Bool->Hp->Prop)(b:Bool)(c:fx):Prop|mk(a:Hp)(I:Inv X pins σ a c)(q:Q b a)
inductive AP(X:Cx)(pins:List (Addr×Obj))(σ:St)(Q:List V->Hp->Prop)(us:List ce)(b:fx):Prop|mk(vs:List V)(a:Hp)(I:Inv X pins σ a b)(r:Vals vs us)(q:Q vs a)
variable{σ:St}{G:Prop}
theorem EP.elim{Q:VK}{b:fx}(h:EP X pins σ Q u b)(k:∀(v:V) (a:Hp),Inv X pins σ a b->RelV v u->Q v a->G):G:=by
 cases h with
 |mk v a I r q=>exact k v a I r q
theorem AP.elim{Q:List V->Hp->Prop}{b:fx}(h:AP X pins σ Q us b)(k:∀(vs:List V) (a:Hp),Inv X pins σ a b->Vals vs us->Q vs a->G):G:=by
 cases h with
 |mk v a I r q=>exact k v a I r q
theorem TP.elim{Q:Bool->Hp->Prop}{b:Bool}{c:fx}(h:TP X pins σ Q b c)(k:∀a:Hp,Inv X pins σ a c->Q b a->G):G:=by
 cases h with
 |mk a I q=>exact k a I q
inductive lR(X:Cx)(pins:List (Addr×Obj))(N:St->Hp->Prop)(b:fx):Prop|mk(σ:St)(a:Hp)(I:Inv X pins σ a b)(q:N σ a)
inductive sf(X:Cx)(pins:List (Addr×Obj))(Q:VK)(u:ce)(b:fx):Prop|mk(v:V)(σ:St)(a:Hp)(I:Inv X pins σ a b)(r:RelV v u)(q:Q v a)
def SP(X:Cx)(pins:List (Addr×Obj))(D:Ends)(f:Flow)(a:fx):Prop:=
 match f with
 | .next=>lR X pins D.nx a| .brk=>lR X pins D.bk a| .cont=>lR X pins D.ct a| .ret u=>sf X pins D.rt u a
def PE(X:Cx)(e:C5)(t:TE):Prop:=
 ∀(pins:List (Addr×Obj))(s:fx)(a:St)(H:Hp)(Q:VK),Inv X pins a H s->t a H Q->i9 (m7 X.prog X.w) X.A (GM e X.env) (EP X pins a Q) X.xe s
def PT(X:Cx)(e:C5)(t:TT):Prop:=
 ∀(pins:List (Addr×Obj))(s:fx)(a:St)(H:Hp)(Q:Bool->Hp->Prop),Inv X pins a H s->t a H Q->i9 (m7 X.prog X.w) X.A (adF e X.env (GM e X.env)) (TP X pins a Q) X.xe s
def PW(X:Cx)(e:C5)(t:TT):Prop:=
 ∀(whole:Sem ce)(pins:List (Addr×Obj))(s:fx)(a:St)(H:Hp)(Q:Bool->Hp->Prop),Inv X pins a H s->t a H Q->i9 (m7 X.prog X.w) X.A (adF e X.env whole) (TP X pins a Q) X.xe s
variable{e:C5}
theorem PW.pt{t:TT}(h:PW X e t):PT X e t:=h _
def PA(X:Cx)(es:List C5)(t:TA):Prop:=
 ∀(pos:Pos)(pins:List (Addr×Obj))(s:fx)(a:St)(H:Hp)(Q:List V->Hp->Prop),Inv X pins a H s->t a H Q->i9 (m7 X.prog X.w) X.A (aez (N1 pos (q7 es X.env))) (AP X pins a Q) X.xe s
def PS(X:Cx)(st:Stmt)(t:TS):Prop:=
 ∀(pins:List (Addr×Obj))(s:fx)(a:St)(H:Hp)(D:Ends),Inv X pins a H s->t D a H->i9 (m7 X.prog X.w) X.A (exec st X.env) (SP X pins D) X.xe s
def Oh(X:Cx)(st:List Stmt)(t:TS):Prop:=
 ∀(pins:List (Addr×Obj))(s:fx)(a:St)(H:Hp)(D:Ends),Inv X pins a H s->t D a H->i9 (m7 X.prog X.w) X.A (execs st X.env) (SP X pins D) X.xe s
theorem BF{b:Type}{t:Sem b}{Q c:b->fx->Prop}(h:i9 M A t Q E s)(d:∀a s,Q a s->c a s):i9 M A t c E s:=G3 h d λ_ _ x=>x
variable{pos:Pos}{Q:ce->fx->Prop}{op:CmpOp}{c:C5}{ta t tb:TE}
section
inductive gb(i:Nat)(σ:St)(H:Hp)(Q:VK):Prop|mk(v:_)(a:σ[i]?=Z (Z v))(b:Q v H)
def GV(i:Nat):TE:=λa H Q=>gb i a H Q
def tC(v:V):TE:=λ_ H Q=>Q v H
theorem cg{i:Nat}(j:X.N[i]?=Z x)(k:jt X.env.scope x)(d:(x==("__debug__":Str))=false:=by decide)(f:(x==("__classdict__":Str))=false:=by decide):PE X (.Name x pos) (GV i):=by
 intro pins s n H Q I h;obtain⟨v,e,h⟩:=h;obtain⟨m,o,p⟩:=I.loc;obtain⟨u,r,l⟩:=p i x v j e k;have fin:EP X pins n Q u s:=⟨v,H,I,r,h⟩;rcases l with⟨b,q⟩|⟨b,c,g,a⟩
 .exact adK (wpAny_loadName_local I.ok.kind b o q fin) d
 .rcases b with b|b
  .exact adK (wpAny_loadName_cell I.ok.kind b g a fin) d
  .exact adK (wpAny_loadName_free I.ok.kind b g a fin f) d
theorem AG{i j pos}:PE X (.Constant (.int i) j pos) (tC (.int i)):=λ_ _ _ H _ I h=>wpAny_Constant_int ⟨.int i,H,I.tok _,⟨_,W⟩,h⟩
theorem Bp{d j pos}:PE X (.Constant (.bool d) j pos) (tC (.bl d)):=λ_ _ _ H _ I h=>Constant_bool ⟨.bl d,H,I,W,h⟩
theorem Dx{j pos}:PE X (.Constant .none j pos) (tC .AZ):=λ_ _ _ H _ I h=>Constant_none ⟨.AZ,H,I,W,h⟩
theorem AS{x j pos}:PE X (.Constant (.str x) j pos) (tC (.str x)):=λ_ _ _ H _ I h=>Calls.Constant_str ⟨.str x,H,I.tok _,⟨_,W⟩,h⟩
def Gl(X:Cx)(x:Str):Prop:=X.env.kindOf x=Z .globalImplicit
theorem Sr(I:Inv X pins σ H s)(a:Gl X x)(b:X.mg x=Z u)(h:Q u s)(c:(x==("__debug__":Str))=false:=by decide):i9 (m7 X.prog X.w) X.A (GM (.Name x pos) X.env) Q E s:=
 Z7 I.ok.kind a (Calls.loadGlobal_global (by rw[I.ok.glob];exact I.mod.glob.keeps I.bk) b h) c
theorem EX(I:Inv X pins σ H s)(a:Gl X x)(b:X.mg x=ν)(c:v7 x=Z u)(h:Q u s)(d:x≠"__name__":=by decide)(e:(x==("__debug__":Str))=false:=by decide):i9 (m7 X.prog X.w) X.A (GM (.Name x pos) X.env) Q E s:=by
 obtain⟨i,f,g⟩:=I.mod.blt;exact Z7 I.ok.kind a (Calls.loadGlobal_builtin (by rw[I.ok.glob];exact I.mod.glob.keeps I.bk) b (by rw[I.ok.blt];exact f.keeps I.bk) ((g x d).trans c) h) e
theorem F_(a:Gl X x)(b:X.mg x=Z u)(r:RelV v u)(c:(x==("__debug__":Str))=false:=by decide):PE X (.Name x pos) (tC v):=
 λ_ _ _ H _ I h=>Sr I a b ⟨v,H,I,r,h⟩ c
theorem NF(a:Gl X x)(b:X.mg x=ν)(c:v7 x=Z u)(r:RelV v u)(d:x≠"__name__":=by decide)(e:(x==("__debug__":Str))=false:=by decide):PE X (.Name x pos) (tC v):=
 λ_ _ _ H _ I h=>EX I a b c ⟨v,H,I,r,h⟩ d e
variable{a b:C5} 
def PC(X:Cx)(op:CmpOp)(a b:C5)(t:TE):Prop:=
 ∀(pins:List (Addr×Obj))(s:fx)(e:St)(H:Hp)(Q:VK),Inv X pins e H s->t e H Q->
  i9 (m7 X.prog X.w) X.A (GM a X.env) (λv c=>i9 (m7 X.prog X.w) X.A (GM b X.env) (λu d=>i9 (m7 X.prog X.w) X.A (AC op v u) (EP X pins e Q) X.xe d) X.xe c) X.xe s
def tB(t:TE):TT:=λc H Q=>t c H λx d=>pZ x d Q
theorem NG(h:PC X op a b t)(d:Q2 op b=false:=by first|exact c _ ac ac|rfl):PE X (.Compare a [op] [b] pos) t:=λpins s e H Q I hw=>adU (h pins s e H Q I hw) d
theorem Gf(h:PC X op a b t)(f:Q2 op b=false:=by first|exact e _ ac ac|rfl):PT X (.Compare a [op] [b] pos) (tB t):=by
 intro pins s g H Q I hw;refine abb (BF (h pins s g H _ I hw) λv o f=>BF f λu p i=>BF i λc r j=>j.elim λx k l m n=>?_) f;obtain⟨d,rfl,q⟩:=n;cases m;exact C9 ⟨k,l,q⟩
theorem Ag(h:PE X e t)(c:∀whole,adF e X.env whole=(do let v<-whole;standAt e.pos;S2 [v] (truthy v)):=by intro _;rfl):PT X e (tB t):=by
 intro pins s f H Q I hw;refine isTrue_plain (BF (h pins s f H _ I hw) λv m g=>g.elim λx i j k l=>?_)<|c _;obtain⟨d,rfl,q⟩:=l;cases k;exact C9 ⟨i,j,q⟩
variable{tA jx:TT} {rest:List C5}
def lS(t u:TT):TT:=λd H Q=>t d H λc e=>if c=true then u d e Q else Q false e
def sg(t u:TT):TT:=λd H Q=>t d H λc e=>if c=true then Q true e else u d e Q
def lT(t:TT):TT:=λd H Q=>t d H λc e=>Q (!c) e
theorem pw_and1(d:PT X a tA):PW X (.BoolOp .And [a] pos) tA:=by
 intro g pins s f H Q I h;refine isTrue_and (BF (d pins s f H Q I h) λc i e=>?_);cases c with
 |true=>exact isTrue_and_nil e|false=>exact e
theorem pw_or1(d:PT X a tA):PW X (.BoolOp .Or [a] pos) tA:=by
 intro g pins s f H Q I h;refine isTrue_or (BF (d pins s f H Q I h) λc i e=>?_);cases c with
 |false=>exact isTrue_or_nil e|true=>exact e
theorem pw_and(i:PT X a tA)(j:PW X (.BoolOp .And (b::rest) pos) jx):PW X (.BoolOp .And (a::b::rest) pos) (lS tA jx):=by
 intro k pins s d H Q I h;refine isTrue_and (BF (i pins s d H _ I h) λc l m=>m.elim λe f g=>?_);cases c with
 |true=>exact j k pins l d e Q f g|false=>exact⟨e,f,g⟩
theorem pw_or(i:PT X a tA)(j:PW X (.BoolOp .Or (b::rest) pos) jx):PW X (.BoolOp .Or (a::b::rest) pos) (sg tA jx):=by
 intro k pins s d H Q I h;refine isTrue_or (BF (i pins s d H _ I h) λc l m=>m.elim λe f g=>?_);cases c with
 |true=>exact⟨e,f,g⟩|false=>exact j k pins l d e Q f g
theorem Cj(e:PT X a tA):PT X (.UnaryOp .Not a pos) (lT tA):=by
 intro pins s f H Q I h;exact isTrue_not<|BF (e pins s f H (λc d=>Q (!c) d) I h) λc k g=>g.elim λd i j=>⟨d,i,j⟩
def gc(ta tb:TE):TE:=λc H Q=>ta c H λx d=>lQ tb c x d Q
def lU(ta tb:TE):TE:=λc H Q=>ta c H λx d=>sY tb c x d Q
theorem Bw{d}(h:PE X a t):PE X (.BoolOp d [a] pos) t:=λpins s c H Q I hw=>BoolOp_one<|h pins s c H Q I hw
theorem Cb(i:PE X a ta)(j:PE X (.BoolOp .And (b::rest) pos) tb):PE X (.BoolOp .And (a::b::rest) pos) (gc ta tb):=by
 intro pins s e H Q I h;refine BoolOp_and (BF (i pins s e H _ I h) λv k l=>l.elim λx f g m d=>?_);obtain⟨c,rfl,d⟩:=d;cases m;refine C9 ?_;cases c with
 |true=>exact j pins k e f Q g d|false=>exact⟨.bl false,f,g,W,d⟩
theorem Oi(i:PE X a ta)(j:PE X (.BoolOp .Or (b::rest) pos) tb):PE X (.BoolOp .Or (a::b::rest) pos) (lU ta tb):=by
 intro pins s e H Q I h;refine BoolOp_or (BF (i pins s e H _ I h) λv k l=>l.elim λx f g m d=>?_);obtain⟨c,rfl,d⟩:=d;cases m;refine C9 ?_;cases c with
 |false=>exact j pins k e f Q g d|true=>exact⟨.bl true,f,g,W,d⟩
def sx(t:TT)(ta tb:TE):TE:=λd H Q=>t d H λc e=>if c=true then ta d e Q else tb d e Q
theorem Oj(k:PT X c tA)(l:PE X a ta)(m:PE X b tb):PE X (.IfExp c a b pos) (sx tA ta tb):=by
 intro pins s e H Q I h;refine wpAny_IfExp (BF (k pins s e H _ I h) λd f n=>n.elim λg i j=>?_);cases d with
 |true=>exact l pins f e g Q i j|false=>exact m pins f e g Q i j
end
def Ab(K:zg)(H:Hp)(a:Addr)(xs:List V):Prop:=
 Rd H a (.lst xs)∨
  ∃(o:Obj)(b:Array ce)(n:Nat),K.lookup a=Z o/\o.cls=.type "list"/\o.dict=ν/\o.data=.seq b n/\b.size<=sizeLine/\Vals xs b.toList
def BO(K:zg)(H:Hp)(a:Addr)(xs:List V):Prop:=
 Rd H a (.tup xs)∨
  ∃(o:Obj)(b:Array ce)(n:Nat),K.lookup a=Z o/\o.cls=.type "tuple"/\o.data=.seq b n/\b.size<=sizeLine/\Vals xs b.toList
noncomputable def lV:ce->Option V
 | .none=>Z .AZ| .bool b=>Z (.bl b)| .int i _=>Z (.int i)| .str x _=>Z (.str x)| .bytes b _=>Z (.UP b)| .float b _=>Z (.fz b)| .ref a=>Z (.ref a)| .type n=>Z (.ty n)|_=>ν
theorem RelV.abs{x:V}(r:RelV x u):lV u=Z x:=by
 cases x with
 |AZ=>cases r;rfl|bl _=>cases r;rfl|int _=>obtain⟨t,rfl⟩:=r;rfl
 |str _=>obtain⟨t,rfl⟩:=r;rfl
 |UP _=>obtain⟨t,rfl⟩:=r;rfl
 |fz _=>obtain⟨t,rfl⟩:=r;rfl
 |ref _=>cases r;rfl|ty _=>cases r;rfl
theorem RelV.inj{x y:V}(r:RelV x u)(q:RelV y u):x=y:=ze<|r.abs.symm.trans q.abs
theorem Vals.inj{xs ys:List V}{us:List ce}(r:Vals xs us)(s:Vals ys us):xs=ys:=by
 induction r generalizing ys with
 |nil=>exact(wE (N9 s)).symm|cons a _ b=>
  cases ys with
  |nil=>exact absurd (N9 s) (Nat.succ_ne_zero _).symm|cons y f=>
   obtain⟨u,g,e,h,t⟩:=Vals.inv s;injection e with c d;subst c d;rw[a.inj h,b t]
variable{K:zg}
section
variable {ys:List V}
theorem Ab.of(h:H a=Z (.lst xs)):Ab K H a xs:=.inl<|.inl h
theorem BO.of(h:H a=Z (.tup xs)):BO K H a xs:=.inl<|.inl h
theorem Inv.list(I:Inv X pins σ H s)(h:Ab X.K H a xs):∃its:List ce,Vals xs its/\PlainL s.heap a its.toArray/\xs.length<=sizeLine:=by
 rcases h with h|⟨o,its,n,b,c,d,f,g,r⟩
 .obtain⟨z,its,n,r,e⟩:=h.ok I.BN;exact⟨its,r,⟨_,n,e,W,W,W⟩,z⟩
 .refine⟨its.toList,r,⟨o,n,I.G' a o b,c,d,GT f⟩,?_⟩;have e:=r.length;simp only[pY]at e;lia
theorem Inv.tuple(I:Inv X pins σ H s)(h:BO X.K H a xs):∃its:List ce,Vals xs its/\aeJ s.heap a its.toArray/\xs.length<=sizeLine:=by
 rcases h with h|⟨o,its,n,b,c,d,f,r⟩
 .obtain⟨z,its,r,p⟩:=h.ok I.BN;exact⟨its,r,p,z⟩
 .refine⟨its.toList,r,⟨o,I.G' a o b,c,n,GT d⟩,?_⟩;have e:=r.length;simp only[pY]at e;lia
theorem Inv.WB(I:Inv X pins σ H s)(h:Ab X.K H a xs)(h':Ab X.K H a ys):xs=ys:=by
 obtain⟨c,r,⟨o,n,e,_,_,d⟩,_⟩:=I.list h;obtain⟨b,i,⟨k,l,f,_,_,g⟩,_⟩:=I.list h';rw[e]at f;cases f;rw[d]at g;injection g with j _;have:c=b:=GT<|congrArg aeG j
 subst this;exact r.inj i
theorem Inv.US(I:Inv X pins σ H s)(h:BO X.K H a xs)(h':BO X.K H a ys):xs=ys:=by
 obtain⟨c,r,⟨o,e,_,n,d⟩,_⟩:=I.tuple h;obtain⟨b,i,⟨k,f,_,l,g⟩,_⟩:=I.tuple h';rw[e]at f;cases f;rw[d]at g;injection g with j _;have:c=b:=GT<|congrArg aeG j
 subst this;exact r.inj i
end
abbrev Cx.Lk(X:Cx)(E:ce->fx->Prop):Cx:={X with xe:=E}
abbrev Cx.gg(X:Cx):Cx:=X.Lk λ_ _=>False
theorem Cx.Ok.Lk(ok:X.Ok)(E:ce->fx->Prop):(X.Lk E).Ok:=
 ⟨ok.mod,ok.kind,ok.glob,ok.blt,ok.above,ok.inj,ok.has,ok.gY,ok.hd,ok.frames,ok.ju,ok.jv,ok.bs,ok.bX,ok.V',ok.WA,ok.KN,ok.f_⟩
theorem Cx.Ok.FP(ok:(X.Lk E).Ok):X.Ok:=
 ⟨ok.mod,ok.kind,ok.glob,ok.blt,ok.above,ok.inj,ok.has,ok.gY,ok.hd,ok.frames,ok.ju,ok.jv,ok.bs,ok.bX,ok.V',ok.WA,ok.KN,ok.f_⟩
section
theorem Inv.Lk(I:Inv X pins σ H s)(E:ce->fx->Prop):Inv (X.Lk E) pins σ H s:=⟨I.ok.Lk E,I.os,I.bare,I.base,I.loc,I.cell,I.free,I.EL,I.pin,I.BN,I.len⟩
theorem Inv.FP(I:Inv (X.Lk E) pins σ H s):Inv X pins σ H s:=⟨I.ok.FP,I.os,I.bare,I.base,I.loc,I.cell,I.free,I.EL,I.pin,I.BN,I.len⟩
theorem SP.FP{D:Ends}{f:Flow}{c:fx}(h:SP (X.Lk E) pins D f c):SP X pins D f c:=by
 cases f with
 |next=>obtain⟨a,b,I,q⟩:=h;exact⟨a,b,I.FP,q⟩
 |brk=>obtain⟨a,b,I,q⟩:=h;exact⟨a,b,I.FP,q⟩
 |cont=>obtain⟨a,b,I,q⟩:=h;exact⟨a,b,I.FP,q⟩
 |ret u=>obtain⟨v,a,b,I,r,q⟩:=h;exact⟨v,a,b,I.FP,r,q⟩
theorem Oh.gg{st:List Stmt}{t:TS}(h:Oh X.gg st t):Oh X st t:=λpins s σ H D I hw=>
 G3 (h pins s σ H D (I.Lk _) hw) (λ_ _ q=>q.FP) λ_ _ z=>Do z
end
variable{te:TE}
section
variable {st:Stmt} {rest:List Stmt} {t u:TS} 
def Ss:TS:=λD a H=>D.nx a H
def JT(t u:TS):TS:=λD a H=>t {D with nx:=u D} a H
theorem AJ:Oh X [] Ss:=λ_ _ a H _ I h=>W2 ⟨a,H,I,h⟩
theorem AA(b:PS X st t)(c:Oh X rest u):Oh X (st::rest) (JT t u):=by
 intro pins s d H D I h;refine acY (BF (b pins s d H {D with nx:=u D} I h) λf g q=>?_);cases f with
 |next=>
  obtain⟨a,i,j,q⟩:=q;exact c pins g a i D j q
 |ret v=>exact q|brk=>exact q|cont=>exact q
theorem AE(a:PS X st t):Oh X [st] t:=by
 intro pins s b H D I h;refine acY (BF (a pins s b H D I h) λf c q=>?_);cases f with
 |next=>exact W2 q|ret v=>exact q|brk=>exact q|cont=>exact q
theorem Inv.quiet(I:Inv X pins σ H s):interactive X.env=false:=by simp[interactive,I.ok.kind]
def gh(te:TE):TS:=λD a H=>te a H λ_ b=>D.nx a b
theorem Bq(b:PE X e te)(hs:aaE e ν pos.line X.env=pure false:=by rfl):PS X (.Expr e pos) (gh te):=by
 intro pins s a H D I h;exact wpAny_Expr_any (BF (b pins s a H _ I h) λv i c=>c.elim λx d f j g=>⟨a,d,f,g⟩) I.quiet hs
def gj(te:TE):TS:=λD a H=>te a H D.rt
theorem AI(b:PE X e te):PS X (.Return (Z e) pos) (gj te):=by
 intro pins s a H D I h;exact wpAny_Return_some<|BF (b pins s a H _ I h) λv j c=>c.elim λx d f g i=>⟨x,a,d,f,g,i⟩
def Er(c:TT)(t u:TS):TS:=λD a H=>c a H λb d=>if b=true then t D a d else u D a d
theorem AO{a b:List Stmt}{g:TT}(m:PT X c g)(n:Oh X a t)(o:Oh X b u):PS X (.If c a b pos) (Er g t u):=by
 intro pins s f H D I h;refine wpAny_If (BF (m pins s f H _ I h) λd i p=>p.elim λj k l=>?_);cases d with
 |true=>exact n pins i f j D k l|false=>exact o pins i f j D k l
end
abbrev TG:=V->St->Hp->(St->Hp->Prop)->Prop
abbrev Y':=List V->St->Hp->(St->Hp->Prop)->Prop
def PG(X:Cx)(target:C5)(t:TG):Prop:=
 ∀(pins:List (Addr×Obj))(s:fx)(b:St)(H:Hp)(v:V)(u:ce)(Q:St->Hp->Prop),Inv X pins b H s->RelV v u->t v b H Q->
  i9 (m7 X.prog X.w) X.A (acd target X.env u) (λ_ d=>∃a c,Inv X pins a c d/\Q a c) X.xe s
def jy(X:Cx)(ts:List C5)(t:Y'):Prop:=
 ∀(pins:List (Addr×Obj))(s:fx)(b:St)(H:Hp)(c:List V)(d:List ce)(Q:St->Hp->Prop),Inv X pins b H s->Vals c d->t c b H Q->
  i9 (m7 X.prog X.w) X.A (assignInOrder ((Y6 ts X.env).map (·.2)) d) (λ_ f=>∃a e,Inv X pins a e f/\Q a e) X.xe s
abbrev cj:=V->V->V->Hp->(Hp->Prop)->Prop
def gp(X:Cx)(t:cj):Prop:=
 ∀(pins:List (Addr×Obj))(s:fx)(a:St)(H:Hp)(o i v:V)(ov b u:ce)(Q:Hp->Prop),Inv X pins a H s->RelV o ov->RelV i b->RelV v u->t o i v H Q->
  i9 (m7 X.prog X.w) X.A (setItem ov b u) (λ_ d=>∃c,Inv X pins a c d/\Q c) X.xe s
variable{es:List C5}{n:Nat}{pos':Pos}
section
def BY(i:Nat):TG:=λv a H Q=>Q (a.set i<|some v) H
theorem NH{i:Nat}(a:X.N.Nodup)(b:X.N[i]?=Z x)(c:Loc X.env.scope x)(d:X.fn x=true∨X.env.scope.names.lookup x=Z .local:=by first|exact .inl rfl|exact .inr rfl|assumption):PG X (.Name x pos) (BY i):=by
 intro pins s f H v u Q I r h;exact acH<|Og I a b c r (λg e=>⟨_,H,e,h⟩) d
def gq:Y':=λa b H Q=>a=[]/\Q b H
inductive ck(t:TG)(u:Y')(vs:List V)(σ:St)(H:Hp)(Q:(St->Hp->Prop)):Prop|mk(v r:_)(c:vs=v::r)(d:t v σ H λa b=>u r a b Q)
def WC(t:TG)(u:Y'):Y':=λa b H Q=>ck t u a b H Q
theorem ZA:jy X [] gq:=by
 intro pins s a H b c Q I r h;obtain⟨e,h⟩:=h;subst e;cases r;exact assignInOrder_nil ⟨a,H,I,h⟩
theorem Ol{t:TG}{u:Y'}(b:PG X e t)(c:jy X es u)(hs:(Y6 (e::es) X.env).map (·.2)=acd e X.env::(Y6 es X.env).map (·.2):=by rfl):jy X (e::es) (WC t u):=by
 intro pins s d H m n Q I r h;obtain⟨v,o,f,h⟩:=h;subst f;cases r with
 |cons r g=>
  rw[hs];refine assignInOrder_cons (BF (b pins s d H _ _ _ I r h) λ_ i ⟨a,j,k,l⟩=>?_);exact c pins i a j _ _ Q k g l
inductive gr(K:zg)(n:Nat)(t:Y')(v:V)(σ:St)(H:Hp)(Q:(St->Hp->Prop)):Prop|mk(a xs:_)(b:v=.ref a)(c:BO K H a xs)(d:xs.length=n)(e:t xs σ H Q)
def gs(K:zg)(n:Nat)(t:Y'):TG:=λv a H Q=>gr K n t v a H Q
theorem cm{k:Nat}{t:Y'}(g:X.calm=true)(h:jy X es t)(i:(Y6 es X.env).length=n:=by rfl)(c:(Y6 es X.env).findIdx? (·.1)=none:=by rfl):PG X (.Tuple es k pos) (gs X.K n t):=by
 intro pins s d H v u Q I r hw;obtain⟨a,j,l,m,p,hw⟩:=hw;subst l;cases r;obtain⟨q,f,w,A⟩:=I.tuple m;refine assign_Tuple_tuple (I.ok.hd g) w (by simp[i,<-p,f.length]) c λx y=>?_;have z:Inv X pins d H {s with heap:=x}:=I.kept (t':=s.toks) λb o e=>y b o (j7<|ii e) e;exact h pins _ d H j _ Q z (GT f) hw
def lW(b c:TE)(t:cj):TG:=λv a H Q=>b a H λo d=>c a d λi e=>t o i v e λf=>Q a f
theorem RH{o i:C5}{d e:TE}{t:cj}(f:PE X o d)(g:PE X i e)(hs:gp X t)(j:∀v,acd (.Subscript o i pos) X.env v=(do
   let ov<-S2 [v] (GM o X.env)
   let a<-S2 [v,ov] (GM i X.env)
   standAt pos
   S2 [v,ov,a] (setItem ov a v)
   release [v,ov,a] []):=by intro _;rfl):PG X (.Subscript o i pos) (lW d e t):=by
 intro pins s b H v u Q I r h;rw[j];refine be (ut<|BF (f pins s b H _ I h) λov k c=>c.elim λx l m n p=>?_);refine be (ut<|BF (g pins k b l _ m p) λa q c=>c.elim λy w z A B=>?_);refine be (ab1<|be<|ut<|BF (hs pins q b w x y v ov a u _ z n A r B) λ_ F ⟨C,D,E⟩=>?_);exact wpAny_release ⟨b,C,D,E⟩
def ZC(b:TE)(g:TG):TS:=λD a H=>b a H λx c=>g x a c D.nx
theorem RI{a:C5}{c:TE}{g:TG}(f:PE X e c)(i:PG X a g)(hs:swapsWithSole [a] e pos.line X.env=pure false:=by rfl)(hw:swappedStores [a] e X.env=pure none:=by rfl)(j:(Y6 [a] X.env).map (·.2)=[acd a X.env]:=by rfl):PS X (.Assign [a] e pos) (ZC c g):=by
 intro pins s d H D I h;refine wpAny_Assign_stores (BF (f pins s d H _ I h) λv k l=>l.elim λx m n o p=>?_) hs hw;rw[j];exact BF (i pins k d m x v _ n o p) λ_ u ⟨b,q,r,t⟩=>⟨b,q,r,t⟩
theorem DD{i:Nat}{a:TE}(b:X.N.Nodup)(c:X.N[i]?=Z x)(d:Loc X.env.scope x)(f:PE X e a)(hs:aaE e (Z (.Name x pos')) pos.line X.env=pure false:=by rfl)(g:X.fn x=true∨X.env.scope.names.lookup x=Z .local:=by first|exact .inl rfl|exact .inr rfl|assumption):
  PS X (.Assign [.Name x pos'] e pos) (ZC a (BY i)):=by
 intro pins s j H D I h;refine wpAny_Assign_Name (BF (f pins s j H _ I h) λv q k=>k.elim λy l m n o=>?_) hs;exact Og m b c d n (λr p=>⟨_,l,p,o⟩) g
end
variable{body:List Stmt}
section
inductive ZD(c:TT)(g:TS)(D:Ends)(σ:St)(H:Hp):Prop|mk(ξ:Nat->St->Hp->Prop)(h:(∃m,ξ m σ H))(i:∀m σ H,ξ m σ H->c σ H λb d=>if b=true then∃N:St->Hp->Prop,(∀a e,N a e->∃f,f<m/\ξ f a e)/\g {D with nx:=N,ct:=N,bk:=D.nx} σ d else D.nx σ d)
def WD(c:TT)(a:TS):TS:=λD b H=>ZD c a D b H
theorem HP{q:TT}{r:TS}(t:aes (m7 X.prog X.w) X.A X.env X.xe)(C:PT X c q)(E:Oh X body r):PS X (.While c body [] pos) (WD q r):=by
 intro pins s F H D I h;obtain⟨ξ,⟨G,J⟩,turn⟩:=h;refine wpAny_While<|codeAny_whileLoop (λn K=>∃e u,Inv X pins e u K/\ξ n e u) ?_ G ⟨F,H,I,J⟩;rintro n L ⟨d,x,M,O⟩;refine K9 t (BF (C pins L d x _ M<|turn n d x O) λb P Q=>Q.elim λy z i=>?_);cases b with
 |true=>
  obtain⟨N,B,i⟩:=i;rw[if_pos W];refine K9 t (BF (E pins P d y _ z i) λf R j=>?_);cases f with
  |next=>
   obtain⟨a,g,k,l⟩:=j;obtain⟨m,o,p⟩:=B a g l;exact⟨m,o,a,g,k,p⟩
  |cont=>
   obtain⟨a,g,k,l⟩:=j;obtain⟨m,o,p⟩:=B a g l;exact⟨m,o,a,g,k,p⟩
  |brk=>exact j|ret v=>exact j
 |false=>
  rw[if_neg pc];exact W2 ⟨d,y,z,i⟩
end
structure It where
 go:Nat->Hp->Prop
 Vw:Nat->Hp->V->Hp->Prop
 stop:Nat->Hp->Prop
def IX(X:Cx)(pins:List (Addr×Obj))(H:Hp)(b:Addr):Prop:=
 H b=ν/\b≠X.env.locals/\b∉X.fs/\(b∈X.ex∨X.s₀.heap.objs.size<=b)/\(∀x c,X.env.cells.lookup x=Z c->c≠b)/\∀p∈X.pn++pins,p.1≠b
theorem Inv.UT{d:Hp}(I:Inv X pins σ H s)(a:s.heap.objs.size<=b)(f:d b=ν):IX X pins d b:=by
 refine⟨f,C6<|bn I.lt a,I.lP a,.inr<|am I.sz a,λx c e z=>?_,λp g z=>?_⟩
 .obtain⟨v,q⟩:=I.cell x c e;exact absurd (bn q.lt<|by rw[z];exact a)<|E2 _
 .exact absurd (bn (ii (I.pin p g).1)<|by rw[z];exact a)<|E2 _
structure Turn(P:wv)(w:y8)(K:zg)(tg:C5)(J:It)(fp:List Addr)(it:Addr)(tn:Nat->Heap->Prop):Prop where
 mem:it∈fp
 obj:∀i h,tn i h->∀b∈fp,∃o,h.get? b=Z o/\∀v,o.data≠.cell v
 keep:∀i h h',tn i h->(∀b∈fp,∀o,h.get? b=Z o->h'.get? b=Z o)->tn i h'
 item:∀(X:Cx),X.prog=P->X.w=w->X.K=K->X.calm=true->∀(i:Nat)(pins:List (Addr×Obj))(s:fx)(σ:St)(H:Hp)(E:ce->fx->Prop),Inv X pins σ H s->(∀b∈fp,IX X pins H b)->tn i s.heap->J.go i H->
  i9 (m7 P w) X.A (Op (.ref it)) (λr s1=>∃u,r=Z u/\
   i9 (m7 P w) X.A (W5 tg (.ref it) u) (λ_ s2=>∃x H',Inv X pins σ H' s2/\RelV x u/\J.Vw i H x H'/\tn (i+1) s2.heap/\∀b∈fp,H' b=ν) E s1) E s
 done:∀(X:Cx),X.prog=P->X.w=w->X.K=K->X.calm=true->∀(i:Nat)(pins:List (Addr×Obj))(s:fx)(σ:St)(H:Hp)(E:ce->fx->Prop),Inv X pins σ H s->(∀b∈fp,IX X pins H b)->tn i s.heap->J.stop i H->
  i9 (m7 P w) X.A (Op (.ref it)) (λr s1=>r=ν/\Inv X pins σ H s1) E s
 self:∀(A:G1)(i:Nat)(s:fx)(Q:ce->fx->Prop)(E:ce->fx->Prop),tn i s.heap->Q (.ref it) s->i9 (m7 P w) A (aex (.ref it)) Q E s
abbrev TI:=St->Hp->(It->Hp->Prop)->Prop
inductive lX(X:Cx)(pins:List (Addr×Obj))(σ:St)(j:C5)(R:It->Hp->Prop)(a:ce)(d:fx):Prop|mk(g:Addr)(h:List Addr)(i:Nat->Heap->Prop)(J:It)(c:Hp)(e:a=.ref g)(I:Inv X pins σ c d)(t:Turn X.prog X.w X.K j J h g i)(z:i 0 d.heap)(f:∀b∈h,IX X pins c b)(q:R J c)
def PI(X:Cx)(b iter:C5)(c:TI):Prop:=
 ∀(pins:List (Addr×Obj))(s:fx)(a:St)(H:Hp)(R:It->Hp->Prop),Inv X pins a H s->c a H R->
  i9 (m7 X.prog X.w) X.A (GM iter X.env) (λv d=>i9 (m7 X.prog X.w) X.A (aex v) (lX X pins a b R) X.xe d) X.xe s
theorem Om{b:C5}{c:Addr}{o:Obj}{n:String}{vs:Array ce}{Q:Unit->fx->Prop}(d:s.heap.get? c=Z o)(e:o.cls=.type n)(f:o.data=.fields vs)(g:["enumerate","zip","dict_itemiterator","dict_reverseitemiterator","odict_iterator","itertools.zip_longest","itertools.pairwise"].contains n=false)(a:Q () s):i9 M A (W5 b (.ref c) u) Q E s:=by
 unfold W5;cases b<;>first
  |exact b9 a
  |(cases u<;>first
    |exact b9 a
    |(refine be (Y4 d ?_)
      rw[e,f];show i9 M A (if(["enumerate","zip","dict_itemiterator","dict_reverseitemiterator","odict_iterator","itertools.zip_longest","itertools.pairwise"].contains n&&vs[0]?==Z (B0 _))=true then _ else _) Q E s;rw[if_neg (by intro h;rw[g,F7]at h;cases h)];exact b9 a))
def lY(K:zg)(a:Addr):It:=
 ⟨λi H=>∃b x,Ab K H a b/\b[i]?=Z x,λi H x c=>c=H/\∀b,Ab K H a b->b[i]?=Z x,λi H=>∃b,Ab K H a b/\b.length<=i⟩
def lZ(K:zg)(a:Addr):It:=
 ⟨λi H=>∃b x,BO K H a b/\b[i]?=Z x,λi H x c=>c=H/\∀b,BO K H a b->b[i]?=Z x,λi H=>∃b,BO K H a b/\b.length<=i⟩
def j_(lo:Int)(n:Nat):It:=⟨λi _=>i<n,λi H x a=>a=H/\x=.int (lo+i),λi _=>n<=i⟩
variable{tg:C5}
theorem UU(a it:Addr):Turn P w K tg (lY K a) [it] it (λi h=>h.IsListIter it a i)where
 mem:=by simp
 obj:=λi h st b hb=>by
  have e:b=it:=GT hb
  subst e;obtain⟨o,e,c,d⟩:=st;exact⟨o,e,λv z=>by rw[d]at z;cases z⟩
 keep:=λi h h' st k=>st.at λo e=>k it GE o e
 item:=by
  intro X hP hw hK hc i pins s σ H E I hf st hg;subst hP hw hK;obtain⟨xs,x,hq,hx⟩:=hg;obtain⟨its,rv,p,hz⟩:=I.list hq;obtain⟨u,hu,ru⟩:=rv.get hx;obtain⟨f0,f1,f2,f3,f4,f5⟩:=hf it GE;refine wpAny_pyNext_list_item st p.isList (x:=u) (GT hu) λh' Su sb=>?_;have I1:Inv X pins σ H {s with heap:=h'}:=I.turned (t':=s.toks) (λb o hb e=>(sb.2 b hb).trans e) f0 f1 f3 f4 f5;obtain⟨o,e,c,d⟩:=id Su;exact⟨u,W,Om (s:={s with heap:=h'}) e c d ac ⟨x,H,I1,ru,⟨W,λys hy=>by rw[I.WB hy hq];exact hx⟩,Su,λb hb=>(hf b hb).1⟩⟩
 done:=by
  intro X hP hw hK hc i pins s σ H E I hf st hg;subst hP hw hK;obtain⟨xs,hq,hx⟩:=hg;obtain⟨its,rv,p,hz⟩:=I.list hq;obtain⟨f0,f1,f2,f3,f4,f5⟩:=hf it GE;have hl:=rv.length;exact wpAny_pyNext_list_end (I.ok.hd hc) st p.isList (by simp;lia) λh' eb=>⟨W,I.turned (t':=s.toks) (λb o hb e=>eb b o hb e) f0 f1 f3 f4 f5⟩
 self:=λ_ _ _ _ _ st h=>wpAny_pyIter_listiter st h
theorem RJ(a it:Addr):Turn P w K tg (lZ K a) [it] it (λi h=>h.IsTupleIter it a i)where
 mem:=by simp
 obj:=λi h st b hb=>by
  have e:b=it:=GT hb
  subst e;obtain⟨o,e,c,d⟩:=st;exact⟨o,e,λv z=>by rw[d]at z;cases z⟩
 keep:=λi h h' st k=>st.at λo e=>k it GE o e
 item:=by
  intro X hP hw hK hc i pins s σ H E I hf st hg;subst hP hw hK;obtain⟨xs,x,hq,hx⟩:=hg;obtain⟨its,rv,p,hz⟩:=I.tuple hq;obtain⟨u,hu,ru⟩:=rv.get hx;obtain⟨f0,f1,f2,f3,f4,f5⟩:=hf it GE;refine wpAny_pyNext_tuple_item st (show s.heap.IsTuple a its.toArray from p) (x:=u) (GT hu) λh' Su sb=>?_;have I1:Inv X pins σ H {s with heap:=h'}:=I.turned (t':=s.toks) (λb o hb e=>(sb.2 b hb).trans e) f0 f1 f3 f4 f5;obtain⟨o,e,c,d⟩:=id Su;exact⟨u,W,Om (s:={s with heap:=h'}) e c d ac ⟨x,H,I1,ru,⟨W,λys hy=>by rw[I.US hy hq];exact hx⟩,Su,λb hb=>(hf b hb).1⟩⟩
 done:=by
  intro X hP hw hK hc i pins s σ H E I hf st hg;subst hP hw hK;obtain⟨xs,hq,hx⟩:=hg;obtain⟨its,rv,p,hz⟩:=I.tuple hq;obtain⟨f0,f1,f2,f3,f4,f5⟩:=hf it GE;have hl:=rv.length;exact wpAny_pyNext_tuple_end (I.ok.hd hc) st (show s.heap.IsTuple a its.toArray from p) (by simp;lia) λh' eb=>⟨W,I.turned (t':=s.toks) (λb o hb e=>eb b o hb e) f0 f1 f3 f4 f5⟩
 self:=λ_ _ _ _ _ st h=>wpAny_pyIter_tupleiter st h
theorem RK(it:Addr)(lo:Int)(n:Nat):Turn P w K tg (j_ lo n) [it] it (λi h=>abp h it (lo+(i:Nat)*1) ((n:Int)-(i:Nat)) 1)where
 mem:=by simp
 obj:=λi h st b hb=>by
  have e:b=it:=GT hb
  subst e;exact⟨_,st,λv z=>by
   have z':Data.fields _=Data.cell v:=z;cases z'⟩
 keep:=λi h h' st k=>k it GE _ st
 item:=by
  intro X hP hw hK hc i pins s σ H E I hf st hg;subst hP hw hK;obtain⟨f0,f1,f2,f3,f4,f5⟩:=hf it GE;have ξ:=Walks.range (prog:=X.prog) (w:=X.w) (I.ok.hd hc) it lo 1 n;refine ξ.item i s _ _ hg st λv h' tk hv Su kk=>?_;obtain⟨t,rfl⟩:=hv;have I1:Inv X pins σ H {s with heap:=h',toks:=tk}:=I.turned (λb o hb e=>kk b o (GT hb) e) f0 f1 f3 f4 f5;refine⟨_,W,Om (s:={s with heap:=h',toks:=tk}) (n:="range_iterator") Su W W ac ⟨.int<|lo+i,H,I1,⟨t,?_⟩,⟨W,W⟩,Su,λb hb=>(hf b hb).1⟩⟩;rw[Int.mul_one]
 done:=by
  intro X hP hw hK hc i pins s σ H E I hf st hg;subst hP hw hK;obtain⟨f0,f1,f2,f3,f4,f5⟩:=hf it GE;exact aaU (I.ok.hd hc) st (by have:n<=i:=hg;lia) λh' eb=>⟨W,I.turned (t':=s.toks) (λb o hb e=>eb b o hb e) f0 f1 f3 f4 f5⟩
 self:=λ_ _ _ _ _ st h=>aaV st h
variable{p:Pos}
section
def gu(K:zg)(c:TE):TI:=λd H R=>c d H λx b=>∃a,x=.ref a/\(∃e,Ab K b a e)/\R (lY K a) b
def lg(K:zg)(c:TE):TI:=λd H R=>c d H λx b=>∃a,x=.ref a/\(∃e,BO K b a e)/\R (lZ K a) b
theorem BQ{l:C5}{f:TE}(hl:PE X l f):PI X tg l (gu X.K f):=by
 intro pins s g H R I h;refine BF (hl pins s g H _ I h) λv c i=>i.elim λx j d k m=>?_;obtain⟨a,e,⟨u,n⟩,q⟩:=m;subst e;cases k;obtain⟨r,w,p,y⟩:=d.list n;refine O2 p.isList ?_;refine⟨c.heap.objs.size,[c.heap.objs.size],_,_,j,W,d.kept (t':=c.toks) λb o e=>ca _ e,UU a _,⟨_,j8 _ W,W,W⟩,λb t=>?_,q⟩;have e:b=c.heap.objs.size:=GT t
 subst e;exact d.UT (bv _)<|d.BN.fresh<|bv _
theorem WE{l:C5}{g:TE}(hl:PE X l g):PI X tg l (lg X.K g):=by
 intro pins s i H R I h;refine BF (hl pins s i H _ I h) λv c j=>j.elim λx k d m n=>?_;obtain⟨a,e,⟨u,r⟩,q⟩:=n;subst e;cases m;obtain⟨f,w,p,y⟩:=d.tuple r;refine wpAny_pyIter_tuple (show c.heap.IsTuple a f.toArray from p) ?_;refine⟨c.heap.objs.size,[c.heap.objs.size],_,_,k,W,d.kept (t':=c.toks) λb o e=>ca _ e,RJ a _,⟨_,j8 _ W,W,W⟩,λb t=>?_,q⟩;have e:b=c.heap.objs.size:=GT t
 subst e;exact d.UT (bv _)<|d.BN.fresh<|bv _
theorem WG{R:It->Hp->Prop}{lo a:Int}{t u v:Tok}{tk:Nat}(I:Inv X pins σ H s)(d: -(2 ^ 62)<=lo)(f:lo<2 ^ 62)(g: -(2 ^ 62)<=a)(h4:a<2 ^ 62)(q:R (j_ lo (a-lo).toNat) H):i9 (m7 X.prog X.w) X.A (aex (.ref s.heap.objs.size)) (lX X pins σ tg R) E {s with heap:=s.heap.push {cls:=.type "range",data:=.fields #[.int lo t,.int a u,.int 1 v]},toks:=tk}:=by
 refine ach (IsRange.new ..) (small_one d f g h4) ?_;have c:Inv X pins σ H {s with heap:=s.heap.push {cls:=.type "range",data:=.fields #[.int lo t,.int a u,.int 1 v]},toks:=tk}:=I.kept λb o e=>ca _ e;refine⟨(s.heap.push {cls:=.type "range",data:=.fields #[.int lo t,.int a u,.int 1 v]}).objs.size,[(s.heap.push {cls:=.type "range",data:=.fields #[.int lo t,.int a u,.int 1 v]}).objs.size],_,_,H,W,
  c.kept (t':=tk) λb o e=>ca _ e,RK _ lo (a-lo).toNat,?_,λb h=>?_,q⟩
 .have i:lo+((0:Nat):Int)*1=lo:=by simp
  have j:(((a-lo).toNat:Nat):Int)-((0:Nat):Int)=S0 lo a 1:=by rw[aea];split<;>lia
  show abp _ _ (lo+((0:Nat):Int)*1) ((((a-lo).toNat:Nat):Int)-((0:Nat):Int)) 1;rw[i,j];exact j8 _ W
 .have e:b=(s.heap.push {cls:=.type "range",data:=.fields #[.int lo t,.int a u,.int 1 v]}).objs.size:=GT h
  subst e;exact c.UT (bv _)<|c.BN.fresh<|bv _
def WH(a:TA):TI:=λb H R=>a b H λc d=>∃j:Int,c=[.int j]/\ -(2 ^ 62)<=j/\j<2 ^ 62/\R (j_ 0 j.toNat) d
theorem BU{a:C5}{c:TA}(d:Gl X "range")(f:X.mg "range"=ν)(g:PA X [a] c)(hs:q7 [a] X.env=[(false,GM a X.env)]:=by rfl):PI X tg (.Call (.Name "range" p) [a] [] pos) (WH c):=by
 intro pins s i H R I h;refine Call_<|EX I d f adO<|y0 (BF (g pos pins s i H _ I h) λu v k=>k.elim λw x l m b=>?_) hs W;obtain⟨j,e,b,n,q⟩:=b;subst e;cases m with
 |cons r o=>
  cases o;obtain⟨t,rfl⟩:=r;exact call_range_1<|WG l z_ z_ b n<|by simpa using q
structure Go(D:Ends)(P:St->Hp->Prop)(e:Ends):Prop where
 n:∀{σ H},P σ H->e.nx σ H
 r:∀{v H},D.rt v H->e.rt v H
def UW(J:It)(g:TG)(e:TS)(D:Ends)(σ:St)(f:Hp):Prop:=∃ξ:Nat->Nat->St->Hp->Prop,(∃m,ξ 0 m σ f)/\∀i m σ H,ξ i m σ H-> (J.stop i H/\D.nx σ H)∨(J.go i H/\∃N:St->Hp->Prop,(∀a b,N a b->∃d,d<m/\ξ (i+1) d a b)/\∀x b,J.Vw i H x b->g x σ b λc h=>e {D with nx:=N,ct:=N,bk:=D.nx} c h)
def gw(b:TI)(g:TG)(c:TS):TS:=λD a H=>b a H λJ d=>UW J g c D a d
def KO(a:List Addr)(h:Heap):List (Addr×Obj):=a.filterMap λb=>(h.get? b).map λo=>(b,o)
theorem Es{a:List Addr}{o:Obj}(c:b∈a)(e:h.get? b=Z o):(b,o)∈KO a h:=Z4.mpr ⟨b,c,by rw[e];rfl⟩
theorem UX{a:List Addr}{p:Addr×Obj}(c:p∈KO a h):p.1∈a/\h.get? p.1=Z p.2:=by
 obtain⟨b,d,e⟩:=Z4.mp c;cases q:h.get? b with
 |none=>rw[q]at e;cases e|some o=>
  rw[q]at e;have f:(b,o)=p:=ze e;subst f;exact⟨d,q⟩
theorem Inv.pinned{a:List Addr}(I:Inv X pins σ H s)(g:∀b∈a,IX X pins H b)(h:∀b∈a,∃o,s.heap.get? b=Z o/\∀v,o.data≠.cell v):Inv X (pins++KO a s.heap) σ H s:=
 I.Sq λp i=>(rc.mp i).elim (λz=>I.pin p (EQ _ z)) λz=>by
  obtain⟨c,e⟩:=UX z;obtain⟨j,k,l,_⟩:=g p.1 c;obtain⟨o,f,d⟩:=h p.1 c;rw[e]at f;cases f;exact⟨e,j,k,l,d⟩
theorem Inv.FQ{pl:List (Addr×Obj)}(I:Inv X (pins++pl) σ H s):Inv X pins σ H s:=I.Sq λp a=>I.pin p<|EQ _<|L7 _ a
theorem cn{iter:C5}{S:TI}{g:TG}{U:TS}(B:aes (m7 X.prog X.w) X.A X.env X.xe)(V:X.calm=true)(hi:PI X tg iter S)(hg:PG X tg g)(c:Oh X body U)(hs:∀x,J0 iter X.env x=pure x:=by intro _;rfl):PS X (.For tg iter body [] pos) (gw S g U):=by
 intro pins s Y H D I h;refine wpAny_For (BF (hi pins s Y H _ I h) λv s1 h1=>BF h1 λyY s2 h2=>?_) hs;obtain⟨it,C,ζ,J,H2,e,I2,T,L,f2,ξ,⟨m0,w0⟩,turn⟩:=h2;subst e;have j:∀{t:Hp},(∀b∈C,t b=ν)->∀b∈C,IX X pins t b:=λhn b c=>⟨hn b c,(f2 b c).2⟩;refine codeAny_forLoop_any (λn s'=>∃i k t,Inv X pins k t s'/\ζ i s'.heap/\(∀b∈C,t b=ν)/\ξ i n k t) ?_ m0 ⟨0,Y,H2,I2,L,λb c=>(f2 b c).1,w0⟩;rintro n s3 ⟨i,l,K,I3,E,F,w3⟩;rcases turn i n l K w3 with⟨stop,qn⟩|⟨go,N,hN,step⟩
 .refine K9 B (BF (T.done X W W W V i pins s3 l K X.xe I3 (j F) E stop) λr s4 ⟨M,I4⟩=>?_);subst M;exact W2 ⟨l,K,I4,qn⟩
 .refine K9 B (BF (T.item X W W W V i pins s3 l K X.xe I3 (j F) E go) λr s4 ⟨u,M,h4⟩=>?_);subst M;refine K9 B (BF h4 λ_ s5 ⟨x,H5,I5,r5,y5,z,O⟩=>?_);have P:=I5.pinned (j O)<|T.obj _ _ z;refine K9 B (BF (hg _ s5 l H5 x u _ P r5<|step x H5 y5) λ_ s6 ⟨Q,H6,I6,q6⟩=>?_);refine K9 B (BF (c _ s6 Q H6 _ I6 q6) λf R y=>?_);have again:∀{a:St}{p:Hp},Inv X (pins++KO C s5.heap) a p R->N a p->∃m,m<n/\∃i k t,Inv X pins k t R/\ζ i R.heap/\(∀b∈C,t b=ν)/\ξ i m k t:=λ{a p} q G=>by
   obtain⟨m',hm,w7⟩:=hN a p G;refine⟨m',hm,i+1,a,p,q.FQ,T.keep _ _ _ z λb c o e=>(q.pin (b,o)<|EQ _<|EQ _<|Es c e).1,λb c=>?_,w7⟩;obtain⟨o,e,d⟩:=T.obj _ _ z b c;exact(q.pin (b,o)<|EQ _<|EQ _<|Es c e).2.1
  cases f with
  |next=>obtain⟨a,p,q,G⟩:=y;exact again q G
  |cont=>obtain⟨a,p,q,G⟩:=y;exact again q G
  |brk=>obtain⟨a,p,q,y⟩:=y;exact⟨a,p,q.FQ,y⟩
  |ret v=>obtain⟨x7,a,p,q,r7,y⟩:=y;exact⟨x7,a,p,q.FQ,r7,y⟩
end
variable{D:Ends}
theorem Dy{g:TG}{c:TS}(Pv:Nat->St->Hp->Prop)(d:Pv 0 σ H)(hl:∀i σ H,i<=xs.length->Pv i σ H->Ab K H a xs)(hs:∀i x σ H e,Go D (Pv (i+1)) e->xs[i]?=Z x->Pv i σ H->g x σ H (c e))(f:∀σ H,Pv xs.length σ H->D.nx σ H):
  UW (lY K a) g c D σ H:=by
 refine⟨λi m σ H=>m=xs.length-i/\i<=xs.length/\Pv i σ H,⟨xs.length,GE,j5 _,d⟩,?_⟩;rintro i m σ H ⟨rfl,h,p⟩;have q:=hl i σ H h p;by_cases b:i<xs.length
 .refine .inr ⟨⟨xs,xs[i],q,by simp[b]⟩,Pv<|i+1,λj k l=>⟨xs.length-(i+1),z_,W,b,l⟩,λx k y=>?_⟩;obtain⟨e,y⟩:=y;subst e;exact hs i x σ _ _ ⟨id,id⟩ (y xs q) p
 .have e:i=xs.length:=by lia
  subst e;exact .inl ⟨⟨xs,q,bv _⟩,f σ H p⟩
theorem ZE{g:TG}{c:TS}(Pv:Nat->St->Hp->Prop)(d:Pv 0 σ H)(hl:∀i σ H,i<=xs.length->Pv i σ H->BO K H a xs)(hs:∀i x σ H e,Go D (Pv (i+1)) e->xs[i]?=Z x->Pv i σ H->g x σ H (c e))(f:∀σ H,Pv xs.length σ H->D.nx σ H):
  UW (lZ K a) g c D σ H:=by
 refine⟨λi m σ H=>m=xs.length-i/\i<=xs.length/\Pv i σ H,⟨xs.length,GE,j5 _,d⟩,?_⟩;rintro i m σ H ⟨rfl,h,p⟩;have q:=hl i σ H h p;by_cases b:i<xs.length
 .refine .inr ⟨⟨xs,xs[i],q,by simp[b]⟩,Pv<|i+1,λj k l=>⟨xs.length-(i+1),z_,W,b,l⟩,λx k y=>?_⟩;obtain⟨e,y⟩:=y;subst e;exact hs i x σ _ _ ⟨id,id⟩ (y xs q) p
 .have e:i=xs.length:=by lia
  subst e;exact .inl ⟨⟨xs,q,bv _⟩,f σ H p⟩
theorem Du{lo:Int}{g:TG}{b:TS}(Pv:Nat->St->Hp->Prop)(c:Pv 0 σ H)(hs:∀i σ H e,Go D (Pv (i+1)) e->i<n->Pv i σ H->g (.int (lo+i)) σ H (b e))(d:∀σ H,Pv n σ H->D.nx σ H):
  UW (j_ lo n) g b D σ H:=by
 refine⟨λi m σ H=>m=n-i/\i<=n/\Pv i σ H,⟨n,GE,j5 _,c⟩,?_⟩;rintro i m σ H ⟨rfl,k,p⟩;by_cases a:i<n
 .refine .inr ⟨a,Pv<|i+1,λf h j=>⟨n-(i+1),z_,W,a,j⟩,λx h y=>?_⟩;obtain⟨e,y⟩:=y;subst e y;exact hs i σ _ _ ⟨id,id⟩ a p
 .have e:i=n:=by lia
  subst e;exact .inl ⟨bv _,d σ H p⟩
abbrev R2:=V->V->Hp->VK->Prop
def DA(X:Cx)(f:ce->ce->Sem ce)(r:R2):Prop:=
 ∀(pins:List (Addr×Obj))(s:fx)(a:St)(H:Hp)(x y:V)(v u:ce)(Q:VK),Inv X pins a H s->RelV x v->RelV y u->r x y H Q->
  i9 (m7 X.prog X.w) X.A (f v u) (EP X pins a Q) X.xe s
def lh(X:Cx)(f:ce->Sem ce)(r:V->Hp->VK->Prop):Prop:=
 ∀(pins:List (Addr×Obj))(s:fx)(a:St)(H:Hp)(x:V)(v:ce)(Q:VK),Inv X pins a H s->RelV x v->r x H Q->
  i9 (m7 X.prog X.w) X.A (f v) (EP X pins a Q) X.xe s
def Ba(X:Cx)(f:ce)(r:List V->Hp->VK->Prop):Prop:=
 ∀(pins:List (Addr×Obj))(s:fx)(a:St)(H:Hp)(b:List V)(c:List ce)(Q:VK),Inv X pins a H s->Vals b c->r b H Q->
  i9 (m7 X.prog X.w) X.A (call f c) (EP X pins a Q) X.xe s
def lj(X:Cx)(r:V->Hp->(Bool->Hp->Prop)->Prop):Prop:=
 ∀(pins:List (Addr×Obj))(s:fx)(a:St)(H:Hp)(x:V)(v:ce)(Q:Bool->Hp->Prop),Inv X pins a H s->RelV x v->r x H Q->
  i9 (m7 X.prog X.w) X.A (truthy v) (TP X pins a Q) X.xe s
def Oo(r:R2)(b c:TE):TE:=λa H Q=>b a H λx d=>c a d λy e=>r x y e Q
def sy(r:V->Hp->VK->Prop)(a:TE):TE:=λb H Q=>a b H λx c=>r x c Q
inductive s_(C:Int->Int->Prop)(g:Int->Int->V)(x y:V)(H:Hp)(Q:VK):Prop|mk(i j:_)(a:x=.int i)(b:y=.int j)(c:C i j)(d:Q (g i j) H)
def rI(C:Int->Int->Prop)(g:Int->Int->V):R2:=λx y H Q=>s_ C g x y H Q
inductive l_(g:Int->Int->V)(x y:V)(H:Hp)(Q:VK):Prop|mk(i j:_)(a:x=.int i)(b:y=.int j)(c:Q (g i j) H)
def ZF(g:Int->Int->V):R2:=λx y H Q=>l_ g x y H Q
inductive tD(g:Int->V)(x:V)(H:Hp)(Q:VK):Prop|mk(i:_)(a:x=.int i)(b:Q (g i) H)
def rU(g:Int->V):V->Hp->VK->Prop:=λx H Q=>tD g x H Q
variable{f:ce->ce->Sem ce}{g:Int->Int->Int}
section
variable {a b:C5} {tc:TE} 
theorem cq(l:PE X a ta)(m:PE X b tb){R:V->V->Hp->Prop}(I:Inv X pins σ H s)(h:ta σ H λx j=>tb σ j λy d=>R x y d)(n:∀v u i x y d,Inv X pins σ d i->RelV x v->RelV y u->R x y d->i9 (m7 X.prog X.w) X.A (f v u) Q X.xe i):
  i9 (m7 X.prog X.w) X.A (GM a X.env) (λv e=>i9 (m7 X.prog X.w) X.A (GM b X.env) (λu g=>i9 (m7 X.prog X.w) X.A (f v u) Q X.xe g) X.xe e) X.xe s:=by
 refine BF (l pins s σ H _ I h) λv o k=>k.elim λx j p q r=>?_;refine BF (m pins o σ j _ p r) λu i k=>k.elim λy d t z B=>?_;exact n v u i x y d t q z B
theorem AN{op:Operator}{r:R2}(d:DA X (N3 op) r)(e:PE X a ta)(f:PE X b tb):PE X (.BinOp a op b pos) (Oo r ta tb):=by
 intro pins s g H Q I h;exact wpAny_BinOp<|cq e f I h λv u i x y j k l m q=>d pins i g j x y v u Q k l m q
theorem Oq{op:UnaryOp}{r:V->Hp->VK->Prop}(e:lh X (unaryOp op) r)(f:PE X a ta):PE X (.UnaryOp op a pos) (sy r ta):=by
 intro pins s d H Q I h;exact UnaryOp_<|BF (f pins s d H _ I h) λv g i=>i.elim λx j k l m=>e pins g d j x v Q k l m
theorem kA{C:Int->Int->Prop}(rule:∀(i j:Int) (t u:Tok) (s:fx) (Q:ce->fx->Prop) (E:ce->fx->Prop),C i j->Q (.int (g i j) s.toks) {s with toks:=s.toks+1}->i9 (m7 X.prog X.w) X.A (f (.int i t) (.int j u)) Q E s):
  DA X f (rI C λi j=>.int (g i j)):=by
 intro pins s m H x y v u Q I d e h;obtain⟨i,j,rfl,rfl,k,q⟩:=h;obtain⟨t,rfl⟩:=d;obtain⟨l,rfl⟩:=e;exact rule i j t l s _ _ k ⟨.int<|g i j,H,I.tok _,⟨_,W⟩,q⟩
theorem gx  (rule:∀(i j:Int)(t u:Tok)(s:fx)(Q:ce->fx->Prop)(E:ce->fx->Prop),Q (.int (g i j) s.toks) {s with toks:=s.toks+1}->i9 (m7 X.prog X.w) X.A (f (.int i t) (.int j u)) Q E s):
  DA X f (ZF λi j=>.int (g i j)):=by
 intro pins s l H x y v u Q I d e h;obtain⟨i,j,rfl,rfl,q⟩:=h;obtain⟨t,rfl⟩:=d;obtain⟨k,rfl⟩:=e;exact rule i j t k s _ _ ⟨.int<|g i j,H,I.tok _,⟨_,W⟩,q⟩
theorem ZH{g:Int->Int->Bool}(rule:∀(i j:Int) (t u:Tok) (s:fx) (Q:ce->fx->Prop) (E:ce->fx->Prop),Q (.bool (g i j)) s->i9 (m7 X.prog X.w) X.A (f (.int i t) (.int j u)) Q E s):
  DA X f (ZF λi j=>.bl (g i j)):=by
 intro pins s l H x y v u Q I d e h;obtain⟨i,j,rfl,rfl,q⟩:=h;obtain⟨t,rfl⟩:=d;obtain⟨k,rfl⟩:=e;exact rule i j t k s _ _ ⟨.bl<|g i j,H,I,W,q⟩
def mB(i j:Int):Prop:=0<j/\j<1073741824
def mC(i j:Int):Prop:=0<=j/\j<=1000000/\i.natAbs<2 ^ 64
def cu(i j:Int):Prop:=(-(2 ^ 64)<i/\i<2 ^ 64)∨(-(2 ^ 64)<j/\j<2 ^ 64)
theorem cu.ok{i j:Int}(h:cu i j):IntMulOk i j:=by
 rcases h with⟨d,e⟩|⟨d,e⟩
 .exact .of_left<|aeb d e
 .exact .of_right<|aeb d e
theorem Bm:DA X (N3 .Add) (ZF λi j=>.int (i+j)):=gx λ_ _ _ _ _ _ _ q=>add_int q
theorem IY:DA X (N3 .Sub) (ZF λi j=>.int (i-j)):=gx λ_ _ _ _ _ _ _ q=>sub_int q
theorem FR:DA X (N3 .Mult) (rI cu λi j=>.int (i*j)):=kA λ_ _ _ _ _ _ _ d q=>mul_int q d.ok
theorem Bb:DA X (N3 .FloorDiv) (rI mB λi j=>.int (i/j)):=kA λi j _ _ _ _ _ d q=>by
 have e:(0:Int)<j:=d.1;have f:j<1073741824:=d.2;exact floordiv_int z_ (by rw[Int.fdiv_eq_ediv_of_nonneg i z_];exact q)<|.inl<|PyProof.noPylong_small z_
theorem Aq:DA X (N3 .Mod) (rI (λ_ j=>0<j) λi j=>.int (i % j)):=kA λi j _ _ _ _ _ d q=>by
 have e:(0:Int)<j:=d;exact mod_int' z_<|by rw[Int.fmod_eq_emod_of_nonneg i z_];exact q
theorem RL:DA X (N3 .Pow) (rI mC λi j=>.int (i ^ j.toNat)):=kA λ_ _ _ _ _ _ _ d q=>pow_int_small d.1 d.2.1 d.2.2 q
theorem tE{f:ce->Sem ce}{g:Int->Int}(rule:∀(i:Int) (t:Tok) (s:fx) (Q:ce->fx->Prop) (E:ce->fx->Prop),Q (.int (g i) s.toks) {s with toks:=s.toks+1}->i9 (m7 X.prog X.w) X.A (f (.int i t)) Q E s):
  lh X f (rU λi=>.int (g i)):=by
 intro pins s e H x v Q I d h;obtain⟨i,rfl,q⟩:=h;obtain⟨t,rfl⟩:=d;exact rule i t s _ _ ⟨.int<|g i,H,I.tok _,⟨_,W⟩,q⟩
theorem KP:lh X (unaryOp .USub) (rU λi=>.int (-i)):=tE λ_ _ _ _ _ q=>neg_int q
end
noncomputable def gy:V->V->Bool
 | .AZ,.AZ=>true| .AZ,.int _=>true| .int _,.AZ=>true| .AZ,.bl _=>true| .bl _,.AZ=>true| .AZ,.str _=>true| .str _,.AZ=>true
 | .int _,.int _=>true| .bl _,.bl _=>true| .str _,.str _=>true| .UP _,.UP _=>true
 | .int _,.str _=>true| .str _,.int _=>true| .bl _,.str _=>true| .str _,.bl _=>true
 |_,_=>false
def mD:R2:=λx y H Q=>gy x y=true/\Q (.bl<|decide<|x=y) H
def tF:R2:=λx y H Q=>gy x y=true/\Q (.bl<|!decide (x=y)) H
theorem Sv{i j:Int}:decide (V.int i=V.int j)=(i==j):=by
 rw[ul];simp
theorem WI{i j:Bool}:decide (V.bl i=V.bl j)=(i==j):=by
 rw[ul];simp
theorem Sw{i j:Str}:decide (V.str i=V.str j)=(i==j):=by
 rw[ul];simp
theorem Sx{i j:Array UInt8}:decide (V.UP i=V.UP j)=(i.toList==j.toList):=by
 rw[ul];cases i;cases j;simp
section
variable {a b:C5} {tc:TE} 
theorem BG{Q:VK}{k d:Bool}(I:Inv X pins σ H s)(q:Q (.bl k) H)(e:k=d):EP X pins σ Q (.bool d) s:=by
 subst e;exact⟨.bl k,H,I,W,q⟩
theorem Aj:DA X (AC .Eq) mD:=by
 intro pins s k H x y v u Q I g d h;obtain⟨f,q⟩:=h;cases x with
 |AZ=>
  cases g;cases y with
  |AZ=>cases d;exact PySem.EqNone.eq_none_none (BG I q GE)|bl j=>cases d;exact PySem.EqNone.eq_none_bool (BG I q GE)|int j=>obtain⟨e,rfl⟩:=d;exact PySem.EqNone.eq_none_int (BG I q GE)
  |str j=>obtain⟨e,rfl⟩:=d;exact PySem.EqNone.eq_none_str (BG I q GE)
  |_=>exact absurd (show false=true from f) pc
 |bl i=>
  cases g;cases y with
  |AZ=>cases d;exact PySem.EqNone.eq_bool_none (BG I q GE)|bl j=>cases d;exact eq_bool (BG I q WI)|str j=>obtain⟨e,rfl⟩:=d;exact PySem.EqMixed.eq_bool_str (BG I q GE)
  |_=>exact absurd (show false=true from f) pc
 |int i=>
  obtain⟨t,rfl⟩:=g;cases y with
  |AZ=>cases d;exact PySem.EqNone.eq_int_none (BG I q GE)|int j=>obtain⟨e,rfl⟩:=d;exact eq_int (BG I q Sv)
  |str j=>obtain⟨e,rfl⟩:=d;exact PySem.EqMixed.eq_int_str (BG I q GE)
  |_=>exact absurd (show false=true from f) pc
 |str i=>
  obtain⟨t,rfl⟩:=g;cases y with
  |AZ=>cases d;exact PySem.EqNone.eq_str_none (BG I q GE)|bl j=>cases d;exact PySem.EqMixed.eq_str_bool (BG I q GE)|int j=>obtain⟨e,rfl⟩:=d;exact PySem.EqMixed.eq_str_int (BG I q GE)
  |str j=>obtain⟨e,rfl⟩:=d;exact eq_str (BG I q Sw)
  |_=>exact absurd (show false=true from f) pc
 |UP i=>
  obtain⟨t,rfl⟩:=g;cases y with
  |UP j=>obtain⟨e,rfl⟩:=d;exact PySem.W.eq_bytes (BG I q Sx)
  |_=>exact absurd (show false=true from f) pc
 |_=>cases y<;>exact absurd (show false=true from f) pc
theorem KQ:DA X (AC .NotEq) tF:=by
 intro pins s k H x y v u Q I g d h;obtain⟨f,q⟩:=h;cases x with
 |AZ=>
  cases g;cases y with
  |AZ=>cases d;exact PySem.EqNone.ne_none_none (BG I q GE)|bl j=>cases d;exact PySem.EqNone.ne_none_bool (BG I q GE)|int j=>obtain⟨e,rfl⟩:=d;exact PySem.EqNone.ne_none_int (BG I q GE)
  |str j=>obtain⟨e,rfl⟩:=d;exact PySem.EqNone.ne_none_str (BG I q GE)
  |_=>exact absurd (show false=true from f) pc
 |bl i=>
  cases g;cases y with
  |AZ=>cases d;exact PySem.EqNone.ne_bool_none (BG I q GE)|bl j=>cases d;exact ne_bool (BG I q (congrArg not WI))|str j=>obtain⟨e,rfl⟩:=d;exact PySem.EqMixed.ne_bool_str (BG I q GE)
  |_=>exact absurd (show false=true from f) pc
 |int i=>
  obtain⟨t,rfl⟩:=g;cases y with
  |AZ=>cases d;exact PySem.EqNone.ne_int_none (BG I q GE)|int j=>obtain⟨e,rfl⟩:=d;exact ne_int (BG I q (congrArg not Sv))
  |str j=>obtain⟨e,rfl⟩:=d;exact PySem.EqMixed.ne_int_str (BG I q GE)
  |_=>exact absurd (show false=true from f) pc
 |str i=>
  obtain⟨t,rfl⟩:=g;cases y with
  |AZ=>cases d;exact PySem.EqNone.ne_str_none (BG I q GE)|bl j=>cases d;exact PySem.EqMixed.ne_str_bool (BG I q GE)|int j=>obtain⟨e,rfl⟩:=d;exact PySem.EqMixed.ne_str_int (BG I q GE)
  |str j=>obtain⟨e,rfl⟩:=d;exact ne_str (BG I q (congrArg not Sw))
  |_=>exact absurd (show false=true from f) pc
 |UP i=>
  obtain⟨t,rfl⟩:=g;cases y with
  |UP j=>obtain⟨e,rfl⟩:=d;exact PySem.W.ne_bytes (BG I q (congrArg not Sx))
  |_=>exact absurd (show false=true from f) pc
 |_=>cases y<;>exact absurd (show false=true from f) pc
theorem FT:DA X (AC .Lt) (ZF λi j=>.bl (decide (i<j))):=ZH λ_ _ _ _ _ _ _ q=>lt_int q
theorem bY:DA X (AC .LtE) (ZF λi j=>.bl (decide (i<=j))):=ZH λ_ _ _ _ _ _ _ q=>le_int q
theorem Ot:DA X (AC .Gt) (ZF λi j=>.bl (decide (j<i))):=ZH λ_ _ _ _ _ _ _ q=>gt_int q
theorem g_:DA X (AC .GtE) (ZF λi j=>.bl (decide (j<=i))):=ZH λ_ _ _ _ _ _ _ q=>ge_int q
theorem NI:DA X (AC .Is) (λx y H Q=>y=.AZ/\Q (.bl (decide (x=.AZ))) H):=by
 intro pins s f H x y v u Q I d e h;obtain⟨rfl,q⟩:=h;cases e;refine is_none_gen<|BG I q ?_;cases x<;>first
  |(cases d;rfl)
  |(obtain⟨t,rfl⟩:=d;rfl)
theorem Sy:DA X (AC .IsNot) (λx y H Q=>y=.AZ/\Q (.bl (!decide (x=.AZ))) H):=by
 intro pins s f H x y v u Q I d e h;obtain⟨rfl,q⟩:=h;cases e;refine isnot_none_gen<|BG I q ?_;cases x<;>first
  |(cases d;rfl)
  |(obtain⟨t,rfl⟩:=d;rfl)
theorem AL(b:C5)(h:op≠.In:=by decide)(d:op≠.NotIn:=by decide):Q2 op b=false:=by
 have e:(op==CmpOp.In)=false:=by cases op<;>first|rfl|exact absurd rfl h
 have f:(op==CmpOp.NotIn)=false:=by cases op<;>first|rfl|exact absurd rfl d
 cases b<;>simp[Q2,e,f]
theorem BD{r:R2}(d:DA X (AC op) r)(e:PE X a ta)(f:PE X b tb)(g:Q2 op b=false):PE X (.Compare a [op] [b] pos) (Oo r ta tb):=by
 intro pins s i H Q I h;exact adU (cq e f I h λv u j x y k l m n q=>d pins j i k x y v u Q l m n q) g
def WJ(t:TE):TT:=λd H Q=>t d H λx e=>pZ x e Q
theorem AK{r:R2}(f:DA X (AC op) r)(g:PE X a ta)(i:PE X b tb)(j:Q2 op b=false):PT X (.Compare a [op] [b] pos) (WJ (Oo r ta tb)):=by
 intro pins s d H Q I h;refine abb (BF (g pins s d H _ I h) λv l m=>m.elim λx n o p q=>BF (i pins l d n _ o q) λu t ⟨y,w,A,B,C⟩=>
  BF (f pins t d w x y v u _ A p B C) λc J ⟨z,D,E,F,k,e,G⟩=>?_) j
 subst e;cases F;exact C9 ⟨D,E,G⟩
def cv(r f:R2)(ta tb tc:TE):TE:=λd H Q=>ta d H λx g=>tb d g λy h=>r x y h λz e=>∃k,z=.bl k/\ (if k=true then tc d e λi j=>f y i j Q else Q (.bl false) e)
theorem WK{f:CmpOp}{r l:R2}(q:DA X (AC op) r)(i:DA X (AC f) l)(t:PE X a ta)(w:PE X b tb)(A:PE X c tc)(B:lastMarks [op,f] [b,c]=false:=by with_unfolding_all rfl):PE X (.Compare a [op,f] [b,c] pos) (cv r l ta tb tc):=by
 intro pins s g H Q I h;refine Compare_chain (BF (t pins s g H _ I h) λv C j=>j.elim λx D E F G=>chain_link (BF (w pins C g D _ E G) λu J ⟨y,K,L,m,M⟩=>
  BF (q pins J g K x y v u _ L F m M) λd N ⟨z,n,o,O,k,e,p⟩=>?_)) B
 subst e;cases O;refine C9 ?_;cases k with
 |false=>exact ite_ff ⟨.bl false,n,o,W,p⟩|true=>exact ite_tt (chain_last (BF (A pins N g n _ o p) λP R j=>j.elim λS T U V Y=>i pins R g T y S u P Q U m V Y))
def hC(K:zg)(x:V)(H:Hp)(k:Bool):Prop:=
 match x with
 | .AZ=>k=false| .bl b=>k=b| .int i=>k=(i !=0)| .str y=>y.length<=sizeLine/\k=((y.length:Int) !=0)| .UP y=>y.size<=sizeLine/\k=((y.size:Int) !=0)| .ref p=>(∃d,Ab K H p d/\k= !d.isEmpty)∨(∃d,BO K H p d/\k= !d.isEmpty)∨∃e,H p=Z (.dK e)/\k= !e.isEmpty|_=>False
theorem RM{d:Type}{kvs:List (d×V)}{vs:List (d×ce)}(r:KV kvs vs):(!vs.isEmpty)= !kvs.isEmpty:=by
 cases r<;>rfl
theorem KR{its:List ce}(r:Vals xs its):(!its.toArray.isEmpty)= !xs.isEmpty:=by
 cases r<;>simp
theorem IZ:(sizeLine:Nat)<2 ^ 63:=by rw[SB];decide
theorem cx:lj X (λx H Q=>∃k,hC X.K x H k/\Q k H):=by
 intro pins s B H x v Q I j h;obtain⟨k,e,q⟩:=h;have C:=IZ;have D:sizeLine=16777216:=SB;cases x with
 |AZ=>
  cases j;have d:k=false:=e;subst d;exact truthy_none ⟨H,I,q⟩
 |bl b=>
  cases j;have d:k=b:=e;subst d;exact C9 ⟨H,I,q⟩
 |int i=>
  obtain⟨t,rfl⟩:=j;have d:k=(i !=0):=e;subst d;exact PySem.P.truthy_int ⟨H,I,q⟩
 |str y=>
  obtain⟨t,rfl⟩:=j;obtain⟨z,d⟩:y.length<=sizeLine/\k=((y.length:Int) !=0):=e;subst d;exact PySem.P.truthy_str z_ ⟨H,I.tok _,q⟩
 |UP y=>
  obtain⟨t,rfl⟩:=j;obtain⟨z,d⟩:y.size<=sizeLine/\k=((y.size:Int) !=0):=e;subst d;exact PySem.W.truthy_bytes z_ ⟨H,I.tok _,q⟩
 |ref p=>
  cases j;have d:(∃g,Ab X.K H p g/\k= !g.isEmpty)∨(∃g,BO X.K H p g/\k= !g.isEmpty)∨∃f,H p=Z (.dK f)/\k= !f.isEmpty:=e;rcases d with⟨g,l,d⟩|⟨g,l,d⟩|⟨f,l,d⟩
  .subst d;obtain⟨o,r,pl,u⟩:=I.list l;have hlen:=r.length;exact wpAny_truthy_list pl.isList (by simp only[d7];lia) ⟨H,I.tok _,by rw[KR r];exact q⟩
  .subst d;obtain⟨o,r,pl,u⟩:=I.tuple l;have hlen:=r.length;exact truthy_tuple pl (by simp only[d7];lia) ⟨H,I.tok _,by rw[KR r];exact q⟩
  .subst d;obtain⟨u,A,n,r,m⟩:f.length<=sizeLine/\(p==D9)=false/\∃n,KV f n/\s.heap.DictOf (An X.prog X.w) p n:=I.BN p _ l;have hlen:f.length=n.length:=N9 r;exact wpAny_truthy_dict A m z_ ⟨H,I.tok _,by rw[RM r];exact q⟩
 |_=>exact(show False from e).elim
theorem KS(e:PE X a ta)(f:∀whole,adF a X.env whole=(do let v<-whole;standAt a.pos;S2 [v] (truthy v))):
  PT X a (fun σ H Q=>ta σ H λx d=>∃k,hC X.K x d k/\Q k d):=by
 intro pins s σ H Q I h;exact isTrue_plain (BF (e pins s σ H _ I h) λv g i=>i.elim λx j l m n=>cx pins g σ j x v Q l m n)<|f _
inductive Ll(x y:V)(H:Hp)(Q:VK):Prop|mk(i j:_)(d:x=.str i)(e:y=.str j)(f:i.length+j.length<=sizeLine)(g:Q (.str (i++j)) H)
def NJ:V->V->Hp->VK->Prop:=λx y H Q=>Ll x y H Q
theorem Et:DA X (N3 .Add) NJ:=by
 intro pins s k H x y v u Q I d e h;obtain⟨i,j,rfl,rfl,f,q⟩:=h;obtain⟨t,rfl⟩:=d;obtain⟨g,rfl⟩:=e;exact add_str (λg l=>⟨.str<|i++j,H,I.tok _,⟨_,W⟩,q⟩) f
theorem vals1{x:V}(r:Vals [x] us):∃u,us=[u]/\RelV x u:=by
 cases r with
 |cons d e=>cases e;exact⟨_,W,d⟩
theorem vals2{x y:V}(r:Vals [x,y] us):∃u d,us=[u,d]/\RelV x u/\RelV y d:=by
 cases r with
 |cons e f=>
  cases f with
  |cons g h=>cases h;exact⟨_,_,W,e,g⟩
inductive NK(xs:List V)(H:Hp)(Q:VK):Prop|mk(i j:_)(d:xs=[.int i,.int j])(e:Q (.int (if j>i then j else i)) H)
def Ou:List V->Hp->VK->Prop:=λd H Q=>NK d H Q
theorem MD(e:X.calm=true):Ba X (.builtin "max") Ou:=by
 intro pins s f H g l Q I r h;obtain⟨i,j,rfl,q⟩:=h;obtain⟨u,m,rfl,⟨t,rfl⟩,⟨n,rfl⟩⟩:=vals2 r;refine max_two_ints (I.ok.hd e) λo p k=>⟨_,H,I.kept k,?_,q⟩;by_cases d:j>i
 .rw[if_pos d,if_pos d];exact⟨_,W⟩
 .rw[if_neg d,if_neg d];exact⟨_,W⟩
inductive NL(xs:List V)(H:Hp)(Q:VK):Prop|mk(i j:_)(d:xs=[.int i,.int j])(e:Q (.int (if j<i then j else i)) H)
def Ov:List V->Hp->VK->Prop:=λd H Q=>NL d H Q
theorem UY(e:X.calm=true):Ba X (.builtin "min") Ov:=by
 intro pins s f H g l Q I r h;obtain⟨i,j,rfl,q⟩:=h;obtain⟨u,m,rfl,⟨t,rfl⟩,⟨n,rfl⟩⟩:=vals2 r;refine min_two_ints (I.ok.hd e) λo p k=>⟨_,H,I.kept k,?_,q⟩;by_cases d:j<i
 .rw[if_pos d,if_pos d];exact⟨_,W⟩
 .rw[if_neg d,if_neg d];exact⟨_,W⟩
theorem ME:Ba X (.type "int") (λxs H Q=>(∃i,xs=[.int i]/\Q (.int i) H)∨∃k,xs=[.bl k]/\Q (.int (if k then 1 else 0)) H):=by
 intro pins s e H xs f Q I r h;rcases h with⟨i,rfl,q⟩|⟨k,rfl,q⟩
 .obtain⟨u,rfl,t,rfl⟩:=vals1 r;exact call_int_int ⟨.int i,H,I,⟨_,W⟩,q⟩
 .obtain⟨u,rfl,d⟩:=vals1 r;cases d;exact call_int_bool ⟨.int<|if k then 1 else 0,H,I.tok _,⟨_,W⟩,q⟩
end
structure cy(h:Heap)(x dx C:Addr)(mA:Str->Option ce):Prop where
 obj:h.get? x=Z (aa7 C dx)
 ns:h.Ns1 dx mA
 ne:dx≠x
theorem UZ{c:Addr}{d:Str->Option ce}(n:h.Ns1 c d):∃f,h.get? c=Z f/\∀name,aby name f=Z (d name):=by
 obtain⟨o,g,r,i,j,k,_,l⟩:=n;refine⟨o,i,λname=>?_⟩;have e:=l name;unfold nsFind findBy at e;rw[<-Array.find?_toList]at e;unfold aby;rw[j];dsimp only;split
 .rename_i y q
  rw[q]at e;exact congrArg Z e
 .rename_i q
  rw[q]at e;have a:g.toList.any (·.refKey)=false:=by
   rw[acO];intro y m;obtain⟨z,t,b⟩:=k y<|Array.mem_toList_iff.mp m;simp[DictEntry.refKey,b]
  have p:¬g.toList.any (·.refKey)=true:=by rw[a];exact pc
  rw[if_neg p];exact congrArg Z e
variable{C:Addr}
theorem cy.look{x:Addr}{c:Str->Option ce}(I:cy h x b C c):∃a,PySem.W.InstAt h x (aa7 C b) C (Z a)/\∀name,aby name a=Z (c name):=
 let⟨a,d,e⟩:=UZ I.ns
 ⟨a,⟨I.obj,W,W,d⟩,e⟩
variable{dx:Addr}
section
variable{prog:wv} {x f:Addr} {mA:Str->Option ce} {name:Str} {v:ce}
end
theorem JS.some_of{o:Option ce}(r:JS (Z v) o):∃u,o=Z u/\RelV v u:=by
 cases o with
 |none=>exact(show False from r).elim|some u=>exact⟨u,W,r⟩
section
variable {fs sV:List (Str×V)}
theorem ZI(c:Ge P w H h)(e:H a=Z (.ins C dx fs)):∃b,cy h a dx C b/\(∀f,JS (fs.lookup f) (b f))/\aeC b (fs.map (·.1))/\fs.length<=1000/\H dx=Z (.own a):=by
 obtain⟨d,z,ne,g,b,n,r,q⟩:=(show Av P w H h a (.ins C dx fs)from c a _ e);exact⟨b,⟨g,n,ne⟩,r,q,z,d⟩
end
structure mE(K:zg)(C:Addr):Prop where
 pg:ac3 K C Str.empty=true
 hd:PySem.W.hasDictIn K C=true
 po:PySem.W.plainOver K C=true
 sa:adZ K (.ref C) "__setattr__"=Z (Z (.builtin "object.__setattr__"))
theorem mE.get(c:mE K C)(f:Str):ac3 K C f=true:=c.pg
section
variable {fs:List (Str×V)} {f:Str} 
end
section
variable {o value:C5} {f:Str} {mF:Pos} {tv:TE}
end
section
variable {c:ce} {b:Bool}
inductive JU(K:zg)(H:Hp):V->ce->Prop where
 |AZ:JU K H .AZ (.type "NoneType")
 |bl (x:Bool):JU K H (.bl x) (.type "bool")
 |int (i:Int):JU K H (.int i) (.type "int")
 |str (x:Str):JU K H (.str x) (.type "str")
 |fz (x:UInt64):JU K H (.fz x) (.type "float")
 |lst {a:Addr} {xs:List V} (e:H a=Z (.lst xs)):JU K H (.ref a) (.type "list")
 |Ca {a:Addr} {o:Obj} {xs:List V} (e:H a=Z (.Ca o (.lst xs))):JU K H (.ref a) (.type "list")
 |tup {a:Addr} {xs:List V} (e:H a=Z (.tup xs)):JU K H (.ref a) (.type "tuple")
 |dK {a:Addr} {kvs:List (Key×V)} (e:H a=Z (.dK kvs)):JU K H (.ref a) (.type "dict")
 |dT {a:Addr} {kvs:List (List Key×V)} (e:H a=Z (.dT kvs)):JU K H (.ref a) (.type "dict")
 |ins {a C d:Addr} {fs:List (Str×V)} (e:H a=Z (.ins C d fs)) (cl:mE K C) (g:adZ K (.ref C) "__class__"=Z (Z (.builtin "object.__class__"))) (h:PySem.W.specialIn K (.builtin "object.__class__") "__get__"=Z (Z (.builtin "getset_descriptor.__get__"))) (f:PySem.W.takesIn K (.builtin "object.__class__")=Z true) (j:PySem.W.mroIn K C (.type "object")=Z true):JU K H (.ref a) (.ref C)
theorem Ec{x:V}{t:ce}(I:Inv X pins σ H s)(d:RelV x u)(ty:JU X.K H x t)(e:abz X.K t c=Z b)(h:∀tk,Q (.bool b) {s with toks:=tk}):
  i9 (m7 X.prog X.w) A (call (.builtin "isinstance") [u,c]) Q E s:=by
 cases ty with
 |AZ=>cases(show u=J1 from d);exact zv acJ I.G' E9 e (λz=>nomatch z) h
 |bl y=>cases(show u=B1 y from d);exact zv acK I.G' E9 e (λz=>nomatch z) h
 |int i=>obtain⟨t,q⟩:=(show∃t,u=M7 i t from d);cases q;exact zv ac5 I.G' E9 e (λz=>nomatch z) h
 |str y=>obtain⟨t,q⟩:=(show∃t,u=K5 y t from d);cases q;exact zv ac4 I.G' E9 e (λz=>nomatch z) h
 |fz y=>obtain⟨t,q⟩:=(show∃t,u=aeN y t from d);cases q;exact zv PySem.W.kitx_float I.G' E9 e (λz=>nomatch z) h
 |@lst a k f=>
  cases(show u=n0 a from d);obtain⟨_,_,n,_,g⟩:=(show Av X.prog X.w H s.heap a (.lst k)from I.BN a _ f);exact zv T5 I.G' ⟨_,g,W⟩ e (λz=>nomatch z) h
 |@Ca a v k f=>
  cases(show u=n0 a from d);obtain⟨_,_,_,n,_,g⟩:=(show Av X.prog X.w H s.heap a (.Ca v<|.lst k)from I.BN a _ f);exact zv T5 I.G' ⟨_,g,W⟩ e (λz=>nomatch z) h
 |@tup a k f=>
  cases(show u=n0 a from d);obtain⟨_,_,_,p⟩:=(show Av X.prog X.w H s.heap a (.tup k)from I.BN a _ f);obtain⟨o,g,l,_⟩:=p;exact zv R4 I.G' ⟨o,g,l⟩ e (λz=>nomatch z) h
 |@dK a j f=>
  cases(show u=n0 a from d);obtain⟨_,_,M,_,p⟩:=(show Av X.prog X.w H s.heap a (.dK j)from I.BN a _ f);obtain⟨o,B,D,g,l,_⟩:=p;exact zv T6 I.G' ⟨o,g,l.1⟩ e (λz=>nomatch z) h
 |@dT a j f=>
  cases(show u=n0 a from d);obtain⟨_,_,k,_,o,B,D,g,l,_⟩:=(show Av X.prog X.w H s.heap a (.dT j)from I.BN a _ f);exact zv T6 I.G' ⟨o,g,l.1⟩ e (λz=>nomatch z) h
 |@ins a C N fs f r F G m L=>
  cases(show u=n0 a from d);obtain⟨P,O,_⟩:=ZI I.BN f;obtain⟨R,J,_⟩:=O.look;exact zv (PySem.W.kitx_own (r.get _) r.hd F G m L) I.G' J e (λz=>nomatch z) h
end
structure Bn(k:Nat)(A:G1):Prop where
 hd:A.handled=ν
 dp:A.depth+3*k+5<recursionLimit
 un:A.units+16*k+200<cLine
 gd:A.guards=Z []
theorem Bn.mono{j k:Nat}(r:Bn k A)(h:j<=k):Bn j A:=⟨r.hd,by have:=r.dp;lia,by have:=r.un;lia,r.gd⟩
theorem Bn.deeper{k:Nat}(r:Bn (k+1) A)(env:Env):Bn k (A.deeper env):=
 ⟨r.hd,by have:=r.dp;show A.depth+1+3*k+5<_;lia,by have:=r.un;show A.units+3+16*k+200<_;lia,r.gd⟩
theorem Bn.depth{k:Nat}(r:Bn k A):A.depth<recursionLimit:=by have:=r.dp;lia
theorem Bn.units{k:Nat}(r:Bn k A):A.units+64<cLine:=by have:=r.un;lia
theorem Bn.Dd{k:Nat}(r:Bn k A):A.units<cLine:=by have:=r.un;lia
def Ia:TA:=λ_ H Q=>Q [] H
def DB(b:TE)(c:TA):TA:=λa H Q=>b a H λx d=>c a d λe f=>Q (x::e) f
section
variable {t:TA} 
theorem BL:PA X [] Ia:=λ_ _ _ _ H Q I h=>T7 ⟨[],H,I,.nil,h⟩
theorem AB(c:PE X e te)(d:PA X es t)(hs:q7 (e::es) X.env=(false,GM e X.env)::q7 es X.env:=by rfl):PA X (e::es) (DB te t):=by
 intro pos pins s b H Q I h;rw[hs];show i9 _ _ (aez ((false,GM e X.env)::N1 pos (q7 es X.env))) _ _ s;refine R8 (BF (c pins s b H _ I h) λu f a=>a.elim λx g i j k=>?_);exact BF (d pos pins f b g _ i k) λq r a=>a.elim λl m n o p=>⟨x::l,m,n,.cons j o,p⟩
def mG(t:TA):TE:=λb H Q=>t b H λa c=>a.length<=sizeLine/\OZ c (.tup a) Q
def mH(t:TA):TE:=λb H Q=>t b H λa c=>a.length<=sizeLine/\OZ c (.lst a) Q
theorem Ao{m}(h:PA X es t):PE X (.Tuple es m pos) (mG t):=by
 intro pins s g H Q I i;refine wpAny_Tuple_spliced (BF (h pos pins s g H _ I i) λj a ⟨k,c,d,r,z,q⟩=>⟨by rw[<-r.length];exact z,?_⟩);have l:c a.heap.objs.size=none:=d.BN.fresh<|bv _;refine⟨.ref a.heap.objs.size,upd c a.heap.objs.size<|.tup k,d.laid (t':=a.toks) (λb u e=>ca _ e) (bv _) ?_,W,q _ l⟩;exact⟨z,j,r,⟨_,j8 _ W,W,_,W⟩⟩
theorem Ap(h:PA X es t):PE X (.List es pos) (mH t):=by
 intro pins s f H Q I g;refine wpAny_List_spliced (BF (h pos pins s f H _ I g) λi a ⟨j,c,d,r,z,q⟩=>⟨by rw[<-r.length];exact z,?_⟩);have k:c a.heap.objs.size=none:=d.BN.fresh<|bv _;refine⟨.ref a.heap.objs.size,upd c a.heap.objs.size<|.lst j,d.laid (t':=a.toks) (λb u e=>ca _ e) (bv _) ?_,W,q _ k⟩;exact⟨z,i,0,r,j8 _ W⟩
end
abbrev Sp:=List V->Hp->VK->XK->Prop
abbrev Ua:=List Env->Hp->fx->XK->ce->fx->Prop
structure ZJ(P:wv)(w:y8)(K:zg)(mg:Str->Option ce)(base:Heap)(A:G1)(outer:List Env)(s:fx)(H:Hp):Prop where
 frames:A.frames=Z outer
 mod:Mod K mg base
 bs:∀b o,base.get? b=Z o->s.heap.get? b=Z o/\H b=ν
 bX:base.objs.size<=s.heap.objs.size
 KN:s.heap.FunFrames base outer
 f_:∀b∈V_ outer,H b=ν
 BN:Ge P w H s.heap
 bare:aad s.gens
inductive CE(outer:List Env)(P:wv)(w:y8)(H:Hp)(s:fx)(Q:VK)(u:ce)(a:fx):Prop|mk(v:V)(b:Hp)(os:a.os=s.os)(bare:aad a.gens)(un:Un (V_ outer) [] H b s.heap a.heap)(c:Ge P w b a.heap)(r:RelV v u)(q:Q v b)
def CR(CX:Ua)(outer:List Env)(P:wv)(w:y8)(H:Hp)(s:fx)(Q:VK)(E:XK)(r:acU)(a:fx):Prop:=
 match r with
 | .ok (.ret u)=>CE outer P w H s Q u a| .ok _=>False| .error e=>CX outer H s E e a
structure Ar(P:wv)(w:y8)(K:zg)(mg:Str->Option ce)(base:Heap)(CX:Ua)(k:Nat)(f:Addr)(fd:AT)(ps:List Str)(sp:Sp):Prop where
 len:∀vs H Q E,sp vs H Q E->vs.length=ps.length
 run:∀(A:G1)(outer:List Env)(s:fx)(H:Hp)(args:Args)(us:List ce)(vs:List V)(Q:VK)(E:XK),Bn k A->ZJ P w K mg base A outer s H->abO s fd args (ps.zip us)->Vals vs us->sp vs H Q E->
  KM (m7 P w) A (.call (.ref f) args) (CR CX outer P w H s Q E) s
variable{ps:List Str}{mg:Str->Option ce}{fd:AT}{CX:Ua}{base:Heap}{sp:Sp}
theorem Ar.imp{k:Nat}{f:Addr}{a:Sp}(F:Ar P w K mg base CX k f fd ps sp)(h:∀vs H Q E,a vs H Q E->sp vs H Q E):Ar P w K mg base CX k f fd ps a:=
 ⟨λvs H Q E q=>F.len vs H Q E (h _ _ _ _ q),λA outer s H args b vs Q E c d e g i=>F.run A outer s H args b vs Q E c d e g (h _ _ _ _ i)⟩
section
variable {s':fx}
theorem Inv.mI(I:Inv X pins σ H s):ZJ X.prog X.w X.K X.mg X.base X.A X.stack s H:=
 ⟨I.ok.frames,I.ok.mod,I.bs,am I.ok.bX I.sz,I.stack,I.So,I.BN,I.bare⟩
theorem Inv.after{Q:VK}(I:Inv X pins σ H s)(h:CE X.stack X.prog X.w H s Q u s'):EP X pins σ Q u s':=by
 obtain⟨v,e,os,bare,un,a,r,q⟩:=h;obtain⟨f,g,d,t,c⟩:=s';obtain rfl:c=s.os:=os;exact⟨v,e,I.call (h':=f) (g':=g) (d':=d) (t':=t) (ch:=[]) un a bare λb z=>absurd z GE,r,q⟩
end
def Ow(sp:Sp)(a:List V)(E:XK)(t:TA):TE:=λb H Q=>t b H λc d=>sp (c++a) d Q E
def Binds(K:zg)(fd:AT)(ps:List Str)(b:List ce):Prop:=
 ∀(s:fx)(a:List ce),K.In s.heap->(a++b).length=ps.length->abO s fd ⟨a,[]⟩ (ps.zip (a++b))
theorem Binds.all(h:∀us:List ce,us.length=ps.length->aeK fd ⟨us,[]⟩=pure (ps.zip us)):Binds K fd ps []:=λs us _ a=>by
 rw[ads]at a⊢;exact .of_eq<|h us a
def Passes(CX:Ua)(X:Cx)(E:XK):Prop:=∀(pins:List (Addr×Obj))(b:St)(H:Hp)(s:fx)(e:ce)(a:fx),Inv X pins b H s->CX X.stack H s E e a->X.xe e a
variable{vs:List V}
section
variable {k:Nat} {f:Addr} {ZK:List V} {ds:List ce} {E:XK} {m:Str} {apos:Pos} {o:C5} {t:TA}
theorem WL{Q:VK}(F:Ar X.prog X.w X.K X.mg X.base CX k f fd ps sp)(c:Bn k X.A)(d:Binds X.K fd ps ds)(g:Vals ZK ds)(i:Passes CX X E)(I:Inv X pins σ H s)(r:Vals vs us)(h:sp (vs++ZK) H Q E):i9 (m7 X.prog X.w) X.A (call (.ref f) us) (EP X pins σ Q) X.xe s:=by
 have b:Vals (vs++ZK) (us++ds):=r.append g;have j:(us++ds).length=ps.length:=by rw[<-b.length];exact F.len _ _ _ _ h
 refine adJ (S9 (F.run X.A X.stack s H ⟨us,[]⟩ (us++ds) (vs++ZK) Q E c I.mI (d s us I.G' j) b h) λr l a=>?_);cases r with
 |error e=>exact i pins σ H s e l I a|ok n=>
  cases n with
  |ret u=>exact I.after a|next=>exact Do a|brk=>exact Do a|cont=>exact Do a
theorem ZL(F:Ar X.prog X.w X.K X.mg X.base CX k f fd ps sp)(d:Bn k X.A)(g:Gl X x)(i:X.mg x=Z (.ref f))(j:A4 X.K (.ref f)=true)(l:Binds X.K fd ps ds)(n:Vals ZK ds)(u:Passes CX X E)(v:PA X (e::es) t)(a:(x==("__debug__":Str))=false:=by decide)(y:q7 (e::es) X.env=(false,GM e X.env)::q7 es X.env:=by rfl)(b:(N1 pos (q7 es X.env)).any (·.1)=false:=by rfl):
  PE X (.Call (.Name x p) (e::es) [] pos) (Ow sp ZK E t):=by
 intro pins s z H Q I h;refine Fa<|Sr I g i ?_ a;refine acm (h₀:=X.base) I.ok.mod.gX j (BF (v pos pins s z H _ I h) λD G B=>B.elim λJ L c r q=>⟨c.G',?_⟩) y b;exact WL F d l n u c r q
end
section
variable {k:Nat} {f:Addr} {ks:List Str} {E:XK} {m:Str} {apos tG:Pos} {o:C5} {bZ:List aac} {t tk:TA} {nm:Option Str}
variable{g:List ce->List ce->List ce} {gV:List V->List V->List V}
end
structure HQ(N P:List Str)(sc:Scope):Prop where
 kind:sc.kind=.function:=by rfl
 co:sc.isCoroutine=false:=by rfl
 gen:sc.isGenerator=false:=by rfl
 nd:N.Nodup:=by decide+kernel
 pre:N.take P.length=P:=by rfl
 par:∀x∈P,sc.names.lookup x=Z .local∨sc.names.lookup x=Z .cell:=by decide+kernel
 cz:∀y∈sc.names,y.2≠.free:=by decide+kernel
theorem MF{kindOf:Str->Option NameKind}{x:Str}:∀{binds:List (Str×ce)}{m:Str->Option ce},(∀v,(x,v)∉binds)->adD kindOf binds m x=m x
 |[],_,_=>rfl|(n,v)::r,m,h=>by
  unfold adD;rw[MF λw hw=>h w<|cr _ hw];split
  .have:x≠n:=by rintro rfl;exact h v d9
   simp[this]
  .rfl
theorem MG{kindOf:Str->Option NameKind}{x:Str}:∀{binds:List (Str×ce)}{m:Str->Option ce},(∀v,(x,v)∉binds)->adE kindOf binds m x=m x
 |[],_,_=>rfl|(n,v)::r,m,h=>by
  unfold adE;rw[MG λw hw=>h w<|cr _ hw];split
  .rfl
  .have:x≠n:=by rintro rfl;exact h v d9
   simp[this]
theorem MH{kindOf:Str->Option NameKind}{x:Str}{v:ce}:∀{j:List Str}{l:List ce}{i:Nat}{m:Str->Option ce},j.Nodup->j[i]?=Z x->l[i]?=Z v->kindOf x=Z .local->
  adD kindOf (j.zip l) m x=Z v
 |[],_,_,_,_,h,_,_=>by simp at h|_::_,[],_,_,_,_,h,_=>by simp at h|p::j,w::l,0,m,nd,a,b,c=>by
  simp at a b;subst a;subst b;show adD kindOf ((p,w)::j.zip l) m p=_;unfold adD;rw[MF λv d=>(u4.mp nd).1 (L3 d).1,if_pos c];simp
 |p::j,w::l,i+1,m,nd,a,b,c=>by
  show adD kindOf ((p,w)::j.zip l) m x=_;unfold adD;exact MH (i:=i) (u4.mp nd).2 (GT a) (GT b) c
theorem MI{kindOf:Str->Option NameKind}{x:Str}{v:ce}:∀{j:List Str}{l:List ce}{i:Nat}{m:Str->Option ce},j.Nodup->j[i]?=Z x->l[i]?=Z v->kindOf x≠Z .local->
  adE kindOf (j.zip l) m x=Z v
 |[],_,_,_,_,h,_,_=>by simp at h|_::_,[],_,_,_,_,h,_=>by simp at h|p::j,w::l,0,m,nd,a,b,c=>by
  simp at a b;subst a;subst b;show adE kindOf ((p,w)::j.zip l) m p=_;unfold adE;rw[MG λv d=>(u4.mp nd).1 (L3 d).1,if_neg c];simp
 |p::j,w::l,i+1,m,nd,a,b,c=>by
  show adE kindOf ((p,w)::j.zip l) m x=_;unfold adE;exact MI (i:=i) (u4.mp nd).2 (GT a) (GT b) c
def start(N:List Str)(vs:List V):St:=vs.map Z++r4 (N.length-vs.length) ν
def RN(CX:Ua)(P:wv)(w:y8)(K:zg)(mg:Str->Option ce)(base:Heap)(N:List Str)(qual:Str)(scope:Scope)(f:Addr)(cd:ce)(A:G1)(outer:List Env)(s:fx)(H:Hp)(E:XK):Cx where
 prog:=P
 w:=w
 K:=K
 mg:=mg
 base:=base
 A:=A.deeper (aan qual scope s.heap.objs.size f cd)
 N:=N
 s₀:=s
 H₀:=H
 env:=aan qual scope s.heap.objs.size f cd
 outer:=outer
 stack:=aan qual scope s.heap.objs.size f cd::outer
 ex:=[]
 calm:=true
 fn:=λ_=>true
 pn:=[]
 xe:=λe s'=>i9 (m7 P w) (A.deeper (aan qual scope s.heap.objs.size f cd)) (leaving (aan qual scope s.heap.objs.size f cd) e) (λ_ kB=>CX outer H s E e kB) (λe' kB=>CX outer H s E e' kB) s'
theorem Ox{a:Scope}(h:a.names.lookup x=Z .cell):∃c,(P5 n a.names []).lookup x=Z c:=by
 have q:=aaY a.names n []<|.inl h;exact M0.mp q
variable{scope:Scope}
theorem Ub{qual:Str}{f:Addr}{t:ce}{outer:List Env}{D:fx}{E:XK}(S:HQ N ps scope)(I:A.handled=ν)(g:ZJ P w K mg base A outer s H)(hl:vs.length=ps.length)(r:Vals vs us)(x:InCallC s s.heap.objs.size (adD (aan qual scope s.heap.objs.size f t).kindOf (ps.zip us) λ_=>ν) (P5 (s.heap.objs.size+1) scope.names []) (adE (aan qual scope s.heap.objs.size f t).kindOf (ps.zip us) λ_=>ν) D):
  Inv (RN CX P w K mg base N qual scope f t A outer s H E) [] (start N vs) H D:=by
 have J:ps.length<=N.length:=by have:=congrArg sw S.pre;rw[B8]at this;lia
 obtain⟨B,O,rfl,F⟩:=x.done;have j:∀b:Addr,b∉(RN CX P w K mg base N qual scope f t A outer s H E).ex:=λb z=>absurd (show b∈([]:List Addr)from z) GE;refine⟨⟨g.mod,S.kind,W,W,bv _,λy z c B d=>?_,λy l=>?_,λy c _ h=>?_,λ_=>I,Around.frames_deeper g.frames,.inr ⟨W,W⟩,λb z=>absurd z (j b),g.bs,g.bX,λb _ _=>j b,λb z=>absurd z (j b),g.KN,g.f_⟩,
  rfl,g.bare,Un.kept F,⟨_,x.toInCall.ns,λi y v B d Q=>?_⟩,λy c h=>⟨_,x.cell y c h⟩,g.BN.fresh (bv _),λy c h=>?_,λp m=>absurd (show p∈([]:List (Addr×Obj))from m) GE,g.BN.kept F,?_⟩
 .exact name_of_addr x.apart (B9 B)<|B9 d
 .have l:scope.names.lookup y=Z .cell∨scope.names.lookup y=Z .free:=l;rcases l with l|l
  .exact Ox l
  .exact absurd W<|S.cz _<|B9 l
 .exact gt<|x.above y c<|B9 h
 .have C:i<vs.length:=by
   unfold start at d;by_cases C:i<vs.length
   .exact C
   .rw[w8<|GT C]at d;rw[List.getElem?_replicate]at d;split at d<;>cases d
  have L:vs[i]?=Z v:=by
   unfold start at d;rw[q8<|GT C,b6]at d;cases e:vs[i]? with
   |none=>rw[e]at d;cases d|some a=>rw[e]at d;cases d;rfl
  obtain⟨u,G,M⟩:=r.get L;have m:ps[i]?=Z y:=by
   rw[<-S.pre,aau z_];exact B
  have o:ps.Nodup:=by rw[<-S.pre];exact S.nd.sublist<|aak _ _
  refine⟨u,M,?_⟩;rcases S.par y (zf m)with k|k
  .exact .inl ⟨k,MH o m G k⟩
  .obtain⟨c,e⟩:=Ox (n:=s.heap.objs.size+1) k;refine .inr ⟨.inl k,c,e,?_⟩;have q:=x.cell y c e;rw[MI o m G<|by show scope.names.lookup y≠_;rw[k];decide]at q;exact q
 .exact g.BN.fresh<|gt<|x.above y c<|B9 h
 .unfold start;show _=N.length;rw[q5,bi,abj];lia
theorem hG{k:Nat}{f:Addr}{name qual:Str}{params:Arguments}{F kV doc G a ct R:ce}{L T:Option Addr}{m:Array (Option ce)}(lk:K.lookup f=Z ⟨R,T,.func (K1 name qual params body scope F kV doc G L a ct),m⟩)(p:T3 K a qual=true)(S:HQ N ps scope)(len:∀vs H Q E,sp vs H Q E->vs.length=ps.length)(g:∀(A:G1) (outer:List Env) (s:fx) (H:Hp) (vs:List V) (Q:VK) (E:XK),Bn k (A.deeper (aan qual scope s.heap.objs.size f a))->sp vs H Q E->
   ∃t,Oh (RN CX P w K mg base N qual scope f a A outer s H E) body t/\t {nx:=λ_ d=>Q .AZ d,rt:=Q} (start N vs) H):
  Ar P w K mg base CX (k+1) f (K1 name qual params body scope F kV doc G L a ct) ps sp:=by
 refine⟨len,λA outer s H args U vs Q E z j X r l=>?_⟩;have Y:=len _ _ _ _ l;have M:K.In s.heap:=j.mod.gX.keeps λb o e=>(j.bs b o e).1;have B:s.heap.NoLimit:=j.mod.nolimit.keeps λb o e=>(j.bs b o e).1;have h:∀y∈ps.zip U,scope.names.lookup y.1=Z .local∨(scope.names.lookup y.1=Z .cell/\((P5 (s.heap.objs.size+1) scope.names []).lookup y.1).isSome=true):=λ⟨n,v⟩ ζ=>by
  rcases S.par n (L3 ζ).1 with q|q
  .exact .inl q
  .exact .inr ⟨q,aaY _ _ _<|.inl q⟩
 refine codeAny_call_function z.depth (M _ _ lk) W S.co S.gen W (PySem.W.codeRec_of M p)<|X _ _ _ _ ?_;refine wpAny_newFunctionEnv_cells S.kind h λenv he O x=>?_;subst he;refine⟨B.keeps x.toInCall.keep,codeAny_func ?_⟩;obtain⟨t,ht,hq⟩:=g A outer s H vs Q E (z.deeper _) l;have I:Inv (RN CX P w K mg base N qual scope f a A outer s H E) [] (start N vs) H O:=Ub S z.hd j Y r x;refine G3 (ht [] O (start N vs) H _ I hq) (λfl C i=>?_) λe C i=>i;have fin:∀{c:St}{d:Hp}{v:V}{u:ce},Inv (RN CX P w K mg base N qual scope f a A outer s H E) [] c d C->RelV v u->Q v d->CE outer P w H s Q u C:=
  λ{c d v u} J D q=>⟨v,d,J.os,J.bare,J.base,J.BN,D,q⟩
 cases fl with
 |ret u=>
  obtain⟨v,c,d,J,D,q⟩:=i;exact fin J D q
 |next=>
  obtain⟨c,d,J,q⟩:=i;exact fin (v:=V.AZ) (u:=J1) J W q
 |brk=>
  obtain⟨_,_,_,q⟩:=i;exact Do q
 |cont=>
  obtain⟨_,_,_,q⟩:=i;exact Do q
section
variable {t:TA} {id T:String} {r:List V->Hp->VK->Prop}
def c_(r:List V->Hp->VK->Prop)(t:TA):TE:=λa H Q=>t a H λb c=>r b c Q
theorem Am(d:Ba X (.builtin id) r)(f:Gl X x)(g:X.mg x=ν)(i:v7 x=Z (.builtin id))(j:PA X (e::es) t)(k:x≠"__name__":=by decide)(a:(x==("__debug__":Str))=false:=by decide)(l:q7 (e::es) X.env=(false,GM e X.env)::q7 es X.env:=by rfl)(b:(N1 pos (q7 es X.env)).any (·.1)=false:=by rfl):PE X (.Call (.Name x p) (e::es) [] pos) (c_ r t):=by
 intro pins s c H Q I h;refine Fa<|EX I f g i ?_ k a;exact adf (BF (j pos pins s c H _ I h) λm n o=>o.elim λq u v w y=>d pins n c u q m Q v w y) l b
theorem Ai(d:Ba X (.type T) r)(f:Gl X x)(g:X.mg x=ν)(i:v7 x=Z (.type T))(j:PA X (e::es) t)(k:x≠"__name__":=by decide)(a:(x==("__debug__":Str))=false:=by decide)(l:q7 (e::es) X.env=(false,GM e X.env)::q7 es X.env:=by rfl)(b:(N1 pos (q7 es X.env)).any (·.1)=false:=by rfl):PE X (.Call (.Name x p) (e::es) [] pos) (c_ r t):=by
 intro pins s c H Q I h;refine Fa<|EX I f g i ?_ k a;exact y0 (BF (j pos pins s c H _ I h) λm n o=>o.elim λq u v w y=>d pins n c u q m Q v w y) l b
end
end L2
namespace HT
open PySem PyProof.Rows
section
open PySem.SeqAt
open PySem.AutoSeq1 (wpAny_loadPart')
open PySem.MeetsSeq PySem.MeetsSeq2 PySem.MeetsSeq3
end
section
variable{prog:wv} {w:y8} {A:G1} {E:ce->fx->Prop} {s:fx}
noncomputable def MJ(n d:Nat):Option Int->Nat
 |none=>d|some v=>if v<0 then(v+(n:Int)).toNat else min v.toNat n
theorem WM(n d:Nat):MJ n d ν=d:=rfl
theorem Sz(n d k:Nat):MJ n d (Z (k:Int))=min k n:=by
 show(if(k:Int)<0 then((k:Int)+(n:Int)).toNat else min (k:Int).toNat n)=min k n;rw[if_neg z_,A8]
end
end HT
namespace L2
open PySem PySem.Spec PyProof.Rows
abbrev TO:=St->Hp->(Option Int->Hp->Prop)->Prop
def PO(X:Cx)(e:Option C5)(t:TO):Prop:=
 ∀(pins:List (Addr×Obj))(s:fx)(a:St)(H:Hp)(Q:Option Int->Hp->Prop),Inv X pins a H s->t a H Q->
  i9 (m7 X.prog X.w) X.A (evalPart e X.env) (λu c=>∃o b,Inv X pins a b c/\IsPart u o/\Q o b) X.xe s
def ZM:TO:=λ_ H Q=>Q ν H
def hJ(t:TE):TO:=λa H Q=>t a H λx b=>sZ x b Q
variable{X:Cx}{pos:Pos}{e:C5}
section
variable {te:TE} {lo hi:Option C5} {tl th:TO} {p2:Pos}
theorem Eu:PO X ν ZM:=by
 intro pins s a H Q I h;rw[aec];exact b9 ⟨ν,H,I,.none,h⟩
theorem Dp(h:PE X e te):PO X (Z e) (hJ te):=by
 intro pins s a H Q I hw;rw[evalPart_some];refine BF (h pins s a H _ I hw) λu j b=>b.elim λx c d f g=>?_;obtain⟨i,rfl,q⟩:=g;obtain⟨t,rfl⟩:=f;exact⟨Z i,c,d,.int i t,q⟩
def mJ(X:Cx)(r:V->Option Int->Option Int->Hp->VK->Prop):Prop:=
 ∀(pins:List (Addr×Obj))(s:fx)(a:St)(H:Hp)(x:V)(v b c:ce)(lo hi:Option Int)(d:Addr)(Q:VK),Inv X pins a H s->RelV x v->s.heap.IsSliceOf d b c .none->IsPart b lo->IsPart c hi->r x lo hi H Q->
  ∃T id,Ps (.type T) "__getitem__"=pure (Z (.builtin id))/\s.TypeIs v T/\i9 (m7 X.prog X.w) X.A (acv v (.ref d)) (EP X pins a Q) X.xe s
def tH(r:V->Option Int->Option Int->Hp->VK->Prop)(te:TE)(tl th:TO):TE:=λa H Q=>te a H λx b=>tl a b λl c=>th a c λu d=>r x l u d Q
theorem DP{r:V->Option Int->Option Int->Hp->VK->Prop}(i:mJ X r)(j:PE X e te)(hl:PO X lo tl)(k:PO X hi th):PE X (.Subscript e (.Slice lo hi ν p2) pos) (tH r te tl th):=by
 intro pins s c H Q I h;refine adP (BF (j pins s c H _ I h) λv m n=>n.elim λx o p t y=>?_);refine wpAny_Slice (BF (hl pins m c o _ p y) λd z ⟨l,B,C,pl,D⟩=>BF (k pins z c B _ C D) λf a ⟨u,g,E,F,G⟩=>?_);rw[aec];refine b9 ?_;have J:Inv X pins c g {a with heap:=a.heap.push {cls:=.type "slice",data:=.fields #[d,f,.none]}}:=E.kept (t':=a.toks) λb N q=>ca _ q;obtain⟨T,id,K,L,M⟩:=i pins {a with heap:=a.heap.push {cls:=.type "slice",data:=.fields #[d,f,.none]}} c g x v d f l u a.heap.objs.size Q J t (Heap.IsSliceOf.new ..) pl F G;show i9 (m7 X.prog X.w) X.A (ab4 e (.Slice lo hi ν p2) v<|.ref a.heap.objs.size) (EP X pins c Q) X.xe {a with heap:=a.heap.push {cls:=.type "slice",data:=.fields #[d,f,.none]}};exact tail_any (ops:=[.ref a.heap.objs.size,v]) L K M<|by with_unfolding_all rfl
def JV(xs:List V)(lo hi:Option Int):List V:=(xs.drop<|HT.MJ xs.length 0 lo).take<|HT.MJ xs.length xs.length hi-HT.MJ xs.length 0 lo
theorem Oy(xs:List V)(lo hi:Option Int):(JV xs lo hi).length<=xs.length:=by
 unfold JV;rw[B8,ac9];lia
end
def Uc(n:Nat)(i:Int):Option Nat:=if 0<=i then(if i<n then Z i.toNat else ν)else if-(n:Int)<=i then Z (i+n).toNat else ν
def Oz{a:Type}(xs:List a)(i:Int):Option a:=(Uc xs.length i).bind λj=>xs[j]?
variable{n:Nat}
theorem HS{i:Int}{j:Nat}(h:Uc n i=Z j):aeq i n=Z j/\j<n/\ -(n:Int)<=i/\i<n:=by
 unfold Uc at h;by_cases b:0<=i
 .rw[if_pos b]at h;by_cases a:i<n
  .rw[if_pos a]at h;have e:i.toNat=j:=ze h;exact⟨by rw[adi b a,e],z_,z_,a⟩
  .rw[if_neg a]at h;cases h
 .rw[if_neg b]at h;by_cases a: -(n:Int)<=i
  .rw[if_pos a]at h;have e:(i+n).toNat=j:=ze h;exact⟨by rw[acA z_ a,e],z_,a,z_⟩
  .rw[if_neg a]at h;cases h
theorem NM{a:Type}{xs:List a}{i:Int}{v:a}(h:Oz xs i=Z v):∃j,aeq i xs.length=Z j/\xs[j]?=Z v/\j<xs.length/\ -(xs.length:Int)<=i/\i<xs.length:=by
 unfold Oz at h;cases e:Uc xs.length i with
 |none=>rw[e]at h;cases h|some j=>
  rw[e]at h;obtain⟨b,c,d,f⟩:=HS e;exact⟨j,b,h,c,d,f⟩
theorem Aa{a:Type}{xs:List a}{j:Nat}{v:a}(h:xs[j]?=Z v):Oz xs (j:Int)=Z v:=by
 have b:j<xs.length:=(zd h).1;have e:Uc xs.length (j:Int)=Z j:=by
  unfold Uc;rw[if_pos z_,if_pos z_];simp
 unfold Oz;rw[e];exact h
def S_(b:C5):Prop:=∀o i,abm b false o i=operate [o,i] (acv o i)
def kC(X:Cx)(r:R2):Prop:=
 ∀(value slice:C5)(pins:List (Addr×Obj))(s:fx)(a:St)(H:Hp)(x y:V)(v u:ce)(Q:VK),Inv X pins a H s->RelV x v->RelV y u->r x y H Q->
  abm slice false v u=operate [v,u] (acv v u)->i9 (m7 X.prog X.w) X.A (ab4 value slice v u) (EP X pins a Q) X.xe s
def pd(X:Cx)(id:String)(r:V->List V->Hp->VK->Prop):Prop:=
 ∀(pins:List (Addr×Obj))(s:fx)(a:St)(H:Hp)(x:V)(b:List V)(v:ce)(c:List ce)(Q:VK),Inv X pins a H s->RelV x v->Vals b c->r x b H Q->
  i9 (m7 X.prog X.w) X.A (call (.builtin id) (v::c)) (EP X pins a Q) X.xe s
variable{pins:List (Addr×Obj)}{s:fx}{H:Hp}{u:ce}{A:G1}{σ:St}{y x:V}{its:List ce}{T:String}
section
variable {a b:C5} {ta tb:TE} 
theorem MK{r:R2}(c:kC X r)(d:PE X a ta)(e:PE X b tb)(hs:S_ b):PE X (.Subscript a b pos) (Oo r ta tb):=by
 intro pins s f H Q I h;exact adP<|cq d e I h λv u g x y i j k l q=>c a b pins g f i x y v u Q j k l q<|hs _ _
inductive hU(K:zg)(x y:V)(H:Hp)(Q:VK):Prop|mk(p xs i v:_)(c:x=.ref p)(d:y=.int i)(e:Ab K H p xs)(f:Oz xs i=Z v)(g:Q v H)
def WN(K:zg):R2:=λx y H Q=>hU K x y H Q
inductive hV(K:zg)(x y:V)(H:Hp)(Q:VK):Prop|mk(p xs i v:_)(c:x=.ref p)(d:y=.int i)(e:BO K H p xs)(f:Oz xs i=Z v)(g:Q v H)
def RO(K:zg):R2:=λx y H Q=>hV K x y H Q
inductive hW(x y:V)(H:Hp)(Q:VK):Prop|mk(z i c:_)(d:x=.str z)(e:y=.int i)(f:z.length<=sizeLine)(g:Oz z.cps.toList i=Z c)(h:Q (.str ⟨#[c]⟩) H)
def mK:R2:=λx y H Q=>hW x y H Q
theorem ZN:kC X (WN X.K):=by
 intro value slice pins s g H x y v u Q I n o h k;obtain⟨p,J,i,z,rfl,rfl,A,B,q⟩:=h;cases n;obtain⟨t,rfl⟩:=o;obtain⟨d,r,pl,L⟩:=I.list A;obtain⟨j,c,C,M,D,E⟩:=NM B;obtain⟨w,l,e⟩:=r.get C;have F:=r.length;have N:=IZ;have fin:EP X pins g Q w s:=⟨z,H,I,e,q⟩;by_cases m:0<=i
 .have f:i.toNat=j:=by
   rw[adi m E]at c;exact ze c
  exact item_listR pl.isList m z_ (by rw[f];simpa using l) fin k
 .have f:(i+(d.toArray.size:Int)).toNat=j:=by
   rw[acA z_ D]at c;rw[d7,<-F];exact ze c
  exact aaX (x:=w) pl.isList.typeIs acI.lookup (wpAny_getItem_list_neg (Q:=λr G=>r=w/\EP X pins g Q r G) pl.isList z_ (by rw[d7]<;>lia) z_ (by rw[f];simpa using l) ⟨W,fin⟩) k
theorem WO:kC X (RO X.K):=by
 intro value slice pins s d H x y v u Q I e f h g;obtain⟨p,D,i,z,rfl,rfl,k,l,q⟩:=h;cases e;obtain⟨t,rfl⟩:=f;obtain⟨m,r,pl,E⟩:=I.tuple k;obtain⟨j,n,o,F,G,J⟩:=NM l;obtain⟨w,A,c⟩:=r.get o;have B:=r.length;have L:=IZ;have fin:EP X pins d Q w s:=⟨z,H,I,c,q⟩;exact aaX (x:=w) pl.typeIs slot_tuple_getitem.lookup (getItem_tuple (j:=j) (Q:=λr C=>r=w/\EP X pins d Q r C) pl z_ z_ (by rw[d7,<-B];exact n) (GT A) ⟨W,fin⟩) g
theorem RP:kC X mK:=by
 intro value slice pins s w H x y v u Q I e f h g;obtain⟨z,i,c,rfl,rfl,A,k,q⟩:=h;obtain⟨t,rfl⟩:=e;obtain⟨B,rfl⟩:=f;obtain⟨j,d,l,C,m,n⟩:=NM k;have o:z.cps.toList.length=z.length:=by simp[Str.length]
 rw[o]at d m n;have D:=IZ;exact tail_any (PP s z t) slot_str_getitem.lookup (getItem_str (c:=c) (by
  have p:decide (i< -(2 ^ 63:Int))=false:=decide_eq_false z_;have r:decide (i≥2 ^ 63)=false:=decide_eq_false z_;rw[p,r,aem]) (by rw[d];simpa using l) ⟨.str ⟨#[c]⟩,H,I.tok _,⟨_,W⟩,q⟩) g
theorem RQ(its:List ce)(n j:Nat)(u:ce):F4 (·.setIfInBounds j u) {cls:=.type "list",data:=.seq its.toArray n}={cls:=.type "list",data:=.seq (its.set j u).toArray n}:=by
 simp[F4]
theorem Inv.lst{pins:List (Addr×Obj)}{σ:St}{H:Hp}{s:fx}{p:Addr}{xs:List V}(I:Inv X pins σ H s)(h:H p=Z (.lst xs)):
  ∃(its:List ce)(n:Nat),Vals xs its/\s.heap.get? p=Z {cls:=.type "list",data:=.seq its.toArray n}/\xs.length<=sizeLine:=by
 obtain⟨z,its,n,r,e⟩:=I.BN p _ h;exact⟨its,n,r,e,z⟩
theorem Inv.dA{p:Addr}{xs ys:List V}{its':List ce}{c:Nat}{f:Obj->Obj}(I:Inv X pins σ H s)(h:H p=Z (.lst xs))(g:s.heap.get? p=Z {cls:=.type "list",data:=.seq its.toArray n})(d:f {cls:=.type "list",data:=.seq its.toArray n}={cls:=.type "list",data:=.seq its'.toArray c})(r:Vals ys its')(i:ys.length<=sizeLine)(t:Nat):
  Inv X pins σ (upd H p (.lst ys)) {s with heap:=s.heap.update p f,toks:=t}:=by
 have e:(s.heap.update p f).get? p=Z {cls:=.type "list",data:=.seq its'.toArray c}:=by
  rw[A0 f g<|by rw[d]<;>rfl,d]
 refine I.write (x:=p) (e:=p) (by rw[h];trivial) (.inl W) (λb u j q=>(B4 _ _<|zn j).trans q) ⟨_,e⟩ ?_;exact⟨i,its',c,r,e⟩
inductive dB(o i v:V)(H:Hp)(Q:(Hp->Prop)):Prop|mk(p xs k j:_)(c:o=.ref p)(d:i=.int k)(e:H p=Z (.lst xs))(f:Uc xs.length k=Z j)(g:Q (upd H p (.lst (xs.set j v))))
def hY:V->V->V->Hp->(Hp->Prop)->Prop:=λo i v H Q=>dB o i v H Q
theorem set_list:gp X hY:=by
 intro pins s z H o i v ov G u Q I A B C h;obtain⟨p,D,k,j,rfl,rfl,l,E,q⟩:=h;cases A;obtain⟨t,rfl⟩:=B;obtain⟨c,n,r,e,F⟩:=I.lst l;obtain⟨d,J,m,w⟩:=HS E;have f:=r.length;have K:=IZ;have x:Inv X pins z (upd H p<|.lst<|D.set j v) {s with heap:=s.heap.update p (F4 (·.setIfInBounds j u))}:=
  I.dA l e (RQ c n j u) (r.set C j) (by rw[E6];exact F) s.toks
 by_cases y:0<=k
 .have g:k.toNat=j:=by
   rw[adi y w]at d;exact ze d
  exact PySem.W.ki_setAt e y z_ (by rw[d7,<-f];exact w)<|by rw[g];exact⟨_,x,q⟩
 .have g:(k+(c.toArray.size:Int)).toNat=j:=by
   rw[acA z_ m]at d;rw[d7,<-f];exact ze d
  exact PySem.W.ki_setBack e z_ (by rw[d7,<-f];exact m) z_<|by rw[g];exact⟨_,x,q⟩
theorem NN(lo c:Option Int)(n:Nat):(Sc lo c ν n).1=((HT.MJ n 0 lo:Nat):Int)/\(Sc lo c ν n).2.1=((HT.MJ n n c:Nat):Int)/\(Sc lo c ν n).2.2=1:=by
 refine⟨?_,?_,W⟩
 .cases lo with
  |none=>simp[Sc,HT.MJ]|some i=>
   simp only[Sc,HT.MJ,G6,show(1:Int)>0 by decide,if_true];by_cases h:i<0
   .simp only[h,if_true]<;>lia
   .simp only[h,if_false]<;>lia
 .cases c with
  |none=>simp[Sc,HT.MJ]|some i=>
   simp only[Sc,HT.MJ,G6,show(1:Int)>0 by decide,if_true];by_cases h:i<0
   .simp only[h,if_true]<;>lia
   .simp only[h,if_false]<;>lia
theorem Lm(its:List ce)(lo c:Option Int):slicePick its.toArray lo c ν=((its.drop (HT.MJ its.length 0 lo)).take (HT.MJ its.length its.length c-HT.MJ its.length 0 lo)).toArray:=by
 obtain⟨d,e,f⟩:=NN lo c its.toArray.size;unfold slicePick;rw[d,e,f];simp only[sliceRange_one,pick_run,d7]<;>rfl
inductive hZ(K:zg)(x:V)(lo c:Option Int)(H:Hp)(Q:VK):Prop|mk(a xs:_)(d:x=.ref a)(e:Ab K H a xs)(f:OZ H (.lst (JV xs lo c)) Q)
def WQ(K:zg):V->Option Int->Option Int->Hp->VK->Prop:=λx lo c H Q=>hZ K x lo c H Q
theorem Jm:mJ X (WQ X.K):=by
 intro pins s m H x v n p lo d t Q I f g pl i h;obtain⟨a,c,rfl,j,q⟩:=h;cases f;obtain⟨k,r,e,l⟩:=I.list j;have hlen:=r.length;refine⟨"list",_,acI.lookup,e.isList.typeIs,?_⟩;refine wpAny_getItem_list_slice e.isList g pl i .none GE ?_ (by rw[d7]<;>lia);rw[Lm,<-hlen];refine⟨.ref s.heap.objs.size,_,I.laid (t':=s.toks) (o:=.lst<|JV c lo d) (λb u q=>ca _ q) (bv _) ?_,W,q _<|I.BN.fresh<|bv _⟩;exact⟨am (Oy c lo d) l,_,0,(r.drop<|HT.MJ c.length 0 lo).take<|HT.MJ c.length c.length d-HT.MJ c.length 0 lo,j8 _ W⟩
noncomputable def Dk:V->Bool
 | .AZ=>true| .bl _=>true| .int _=>true| .str _=>true|_=>false
noncomputable def O_:V->V->Bool
 | .AZ,.AZ=>true| .bl a,.bl b=>a==b| .bl a,.int b=>(if a then 1 else 0)==b| .int a,.bl b=>a==(if b then 1 else 0)| .int a,.int b=>a==b| .str a,.str b=>a==b|_,_=>false
theorem WR{v:ce}(e:RelV y u)(c:RelV x v)(g:Dk y=true)(f:Dk x=true):aaN A s u v (O_ y x):=by
 cases y with
 |AZ=>
  cases e;cases x with
  |AZ=>cases c;exact W6 _|bl b=>cases c;exact aeR b|int b=>obtain⟨t,rfl⟩:=c;exact aeX b t
  |str b=>obtain⟨t,rfl⟩:=c;exact aeW b t
  |_=>exact absurd (show false=true from f) pc
 |bl a=>
  cases e;cases x with
  |AZ=>cases c;exact aeS a|bl b=>cases c;exact aeT a b|int b=>obtain⟨t,rfl⟩:=c;exact ae1 a b t
  |str b=>obtain⟨t,rfl⟩:=c;exact ae0 a b t
  |_=>exact absurd (show false=true from f) pc
 |int a=>
  obtain⟨d,rfl⟩:=e;cases x with
  |AZ=>cases c;exact aeY a d|bl b=>cases c;exact aeZ a d b|int b=>obtain⟨t,rfl⟩:=c;exact ae4 a d b t
  |str b=>obtain⟨t,rfl⟩:=c;exact acl a d b t
  |_=>exact absurd (show false=true from f) pc
 |str a=>
  obtain⟨d,rfl⟩:=e;cases x with
  |AZ=>cases c;exact aeU a d|bl b=>cases c;exact aeV a d b|int b=>obtain⟨t,rfl⟩:=c;exact ack a d b t
  |str b=>obtain⟨t,rfl⟩:=c;exact Z0 a d b t
  |_=>exact absurd (show false=true from f) pc
 |_=>exact absurd (show false=true from g) pc
def RS(x:V)(u:ce):Bool:=match u with
 | .none=>O_ .AZ x| .bool b=>O_ (.bl b) x| .int i _=>O_ (.int i) x| .str z _=>O_ (.str z) x|_=>false
theorem WS(r:RelV y u)(f:Dk y=true):RS x u=O_ y x:=by
 cases y with
 |AZ=>cases r;rfl|bl b=>cases r;rfl|int i=>obtain⟨t,rfl⟩:=r;rfl
 |str z=>obtain⟨t,rfl⟩:=r;rfl
 |_=>exact absurd (show false=true from f) pc
theorem HU{x:V}:∀{xs:List V}{us:List ce},Vals xs us->xs.all Dk=true->us.any (RS x)=xs.any λy=>O_ y x
 |_,_,.nil,_=>rfl|y::xs,u::us,.cons r t,f=>by
  rw[K4,fy]at f;rw[On,On,WS r f.1,HU t f.2]
theorem FU{A:G1}{s:fx}{x:V}{v:ce}(d:RelV x v)(e:Dk x=true):∀{xs:List V}{us:List ce},Vals xs us->xs.all Dk=true->∀u∈us,aaN A s u v (RS x u)
 |_,_,.nil,_=>λu c=>by cases c|y::xs,u::us,.cons r t,f=>λu' c=>by
  rw[K4,fy]at f;rcases j4.mp c with rfl|c
  .rw[WS r f.1];exact WR r d f.1 e
  .exact FU d e t f.2 u' c
def Yr(x:V)(xs:List V):Bool:=xs.any λy=>O_ y x
inductive mL(K:zg)(c:Bool)(x y:V)(H:Hp)(Q:VK):Prop|mk(p xs:_)(d:y=.ref p)(e:(Ab K H p xs∨BO K H p xs))(f:Dk x=true)(g:xs.all Dk=true)(h:Q (.bl (if c then !Yr x xs else Yr x xs)) H)
def WT(K:zg)(c:Bool):R2:=λx y H Q=>mL K c x y H Q
theorem Dv:DA X (AC .In) (WT X.K false):=by
 intro pins s j H x y v u Q I e g h;obtain⟨p,k,rfl,d,f,fs,q⟩:=h;cases g;rcases d with d|d
 .obtain⟨c,r,pl,i⟩:=I.list d;refine SeqAt.in_listAt (RS x) pl.isList (λw hw=>FU e f r fs w<|GT hw) ⟨.bl _,H,I,W,?_⟩;rw[show c.toArray.any (RS x)=c.any (RS x)by simp,HU r fs];exact q
 .obtain⟨c,r,pl,i⟩:=I.tuple d;refine SeqAt.in_tupleAt (RS x) pl (λw hw=>FU e f r fs w<|GT hw) ⟨.bl _,H,I,W,?_⟩;rw[show c.toArray.any (RS x)=c.any (RS x)by simp,HU r fs];exact q
theorem Ew:DA X (AC .NotIn) (WT X.K true):=by
 intro pins s j H x y v u Q I e g h;obtain⟨p,k,rfl,d,f,fs,q⟩:=h;cases g;rcases d with d|d
 .obtain⟨c,r,pl,i⟩:=I.list d;refine SeqAt.notIn_listAt (RS x) pl.isList (λw hw=>FU e f r fs w<|GT hw) ⟨.bl _,H,I,W,?_⟩;rw[show c.toArray.any (RS x)=c.any (RS x)by simp,HU r fs];exact q
 .obtain⟨c,r,pl,i⟩:=I.tuple d;refine SeqAt.notIn_tupleAt (RS x) pl (λw hw=>FU e f r fs w<|GT hw) ⟨.bl _,H,I,W,?_⟩;rw[show c.toArray.any (RS x)=c.any (RS x)by simp,HU r fs];exact q
inductive JW(K:zg)(xs:List V)(H:Hp)(Q:VK):Prop|mk(p ys:_)(c:xs=[.ref p])(d:(Ab K H p ys∨BO K H p ys))(e:Q (.int ys.length) H)
def Dz(K:zg):List V->Hp->VK->Prop:=λc H Q=>JW K c H Q
theorem NO:Ba X (.builtin "len") (Dz X.K):=by
 intro pins s j H k l Q I r h;obtain⟨p,f,rfl,c,q⟩:=h;obtain⟨u,rfl,g⟩:=vals1 r;cases g;have m:=IZ;rcases c with c|c
 .obtain⟨d,e,pl,i⟩:=I.list c;have hlen:=e.length;exact Calls.call_len_list pl.isList (by simp only[d7]<;>lia) ⟨.int f.length,H,I.tok _,⟨s.toks+1,by rw[d7,hlen]⟩,q⟩
 .obtain⟨d,e,pl,i⟩:=I.tuple c;have hlen:=e.length;exact len_tuple pl (by simp only[d7]<;>lia) ⟨.int f.length,H,I.tok _,⟨s.toks+1,by rw[d7,hlen]⟩,q⟩
inductive JX(K:zg)(xs:List V)(H:Hp)(Q:VK):Prop|mk(p ys:_)(c:xs=[.ref p])(d:(Ab K H p ys∨BO K H p ys))(e:OZ H (.lst ys) Q)
def KU(K:zg):List V->Hp->VK->Prop:=λc H Q=>JX K c H Q
theorem Br:Ba X (.type "list") (KU X.K):=by
 intro pins s y H A B Q I r h;obtain⟨p,l,rfl,i,q⟩:=h;obtain⟨u,rfl,z⟩:=vals1 r;cases z;have fin:∀(c:List ce),Vals l c->l.length<=sizeLine->∀(d:Heap)(f:Nat),(∀b x,s.heap.get? b=Z x->d.get? b=Z x)->
   d.get? s.heap.objs.size=Z {cls:=.type "list",dict:=ν,data:=.seq c.toArray f,slots:= #[]}->EP X pins y Q (.ref s.heap.objs.size) {s with heap:=d}:=λc g j d f k e=>
  ⟨.ref s.heap.objs.size,_,I.laid (t':=s.toks) k (bv _) (show Av X.prog X.w _ d _ (.lst l)from⟨j,c,f,g,e⟩),W,q _ (I.BN.fresh (bv _))⟩
 rcases i with i|i
 .obtain⟨c,g,pl,j⟩:=I.list i;have hlen:=g.length;obtain⟨o,m,t,n,v⟩:=pl.isList;exact aed p (.inl W) m t v (λd f k e=>fin c g j d f k e)<|by simp only[d7]<;>lia
 .obtain⟨c,g,pl,j⟩:=I.tuple i;have hlen:=g.length;obtain⟨o,m,t,n,v⟩:=pl;exact aed p (.inr W) m t v (λd f k e=>fin c g j d f k e)<|by simp only[d7]<;>lia
inductive Ib(K:zg)(xs:List V)(H:Hp)(Q:VK):Prop|mk(p ys:_)(c:xs=[.ref p])(d:((Ab K H p ys/\∀l,H l=ν->Q (.ref l) (upd H l (.tup ys)))∨(BO K H p ys/\Q (.ref p) H)))
def JY(K:zg):List V->Hp->VK->Prop:=λc H Q=>Ib K c H Q
theorem Ln:Ba X (.type "tuple") (JY X.K):=by
 intro pins s i H v x Q I r h;obtain⟨p,j,rfl,h⟩:=h;obtain⟨u,rfl,m⟩:=vals1 r;cases m;rcases h with⟨f,q⟩|⟨f,q⟩
 .obtain⟨c,g,pl,k⟩:=I.list f;have hlen:=g.length;refine call_tuple_list pl.isList (λd n=>?_) (by simp only[d7]<;>lia);have l:Inv X pins i H {s with heap:=d}:=I.kept (t':=s.toks) n;have t:Inv X pins i (upd H d.objs.size<|.tup j) {s with heap:=d.push {cls:=.type "tuple",data:=.seq c.toArray}}:=
   l.laid (t':=s.toks) (λb o e=>ca _ e) (bv _) (show Av X.prog X.w _ _ _ (.tup j)from⟨k,c,g,IsTup.new _ _⟩)
  exact⟨.ref d.objs.size,_,t,W,q _<|l.BN.fresh<|bv _⟩
 .obtain⟨c,g,pl,k⟩:=I.tuple f;exact call_tuple_same pl ⟨.ref p,H,I,W,q⟩
def mM(K:zg)(T:String)(x:V)(H:Hp):Prop:=match x with
 | .str _=>T="str"| .int _=>T="int"| .ref p=>(T="list"/\∃d,Ab K H p d)∨(T="tuple"/\∃o,K.lookup p=Z o/\o.cls=.type "tuple"/\o.dict=ν)∨ (T="dict"/\((∃c,H p=Z (.dK c))∨∃c,H p=Z (.dT c)))∨(T="set"/\∃S n,H p=Z (.set S n))|_=>False
theorem WU{v:ce}(I:Inv X pins σ H s)(r:RelV x v)(ty:mM X.K T x H):
  s.TypeIs v T/\∀a,v=.ref a->∃k,s.heap.get? a=Z k/\k.dict=none:=by
 cases x with
 |str z=>
  obtain⟨t,rfl⟩:=r;cases(show T="str"from ty);exact⟨PP s z t,λ_ e=>nomatch e⟩
 |int i=>
  obtain⟨t,rfl⟩:=r;cases(show T="int"from ty);exact⟨P0 s i t,λ_ e=>nomatch e⟩
 |ref p=>
  cases r;rcases ty with⟨rfl,u,l⟩|⟨rfl,o,d,m,g⟩|⟨rfl,d⟩|⟨rfl,S,n,d⟩
  .obtain⟨q,_,pl,_⟩:=I.list l;refine⟨pl.isList.typeIs,λa e=>?_⟩;cases e;obtain⟨o,n,e,c,g,_⟩:=pl;exact⟨o,e,g⟩
  .refine⟨⟨o,I.G' p o d,m⟩,λa e=>?_⟩;cases e;exact⟨o,I.G' _ o d,g⟩
  .have z:∃o,s.heap.get? p=Z o/\o.ExactDict:=by
    rcases d with⟨h,d⟩|⟨h,d⟩
    .obtain⟨_,_,_,_,o,_,_,e,f,_⟩:=I.BN p _ d;exact⟨o,e,f⟩
    .obtain⟨_,_,_,_,o,_,_,e,f,_⟩:=I.BN p _ d;exact⟨o,e,f⟩
   obtain⟨o,e,f⟩:=z;refine⟨⟨o,e,f.1⟩,λa j=>?_⟩;cases j;exact⟨o,e,f.2.1⟩
  .obtain⟨o,_,_,_,e,f,_⟩:=I.BN p _ d;refine⟨⟨o,e,f.1⟩,λa j=>?_⟩;cases j;exact⟨o,e,f.2.1⟩
 |_=>exact Do ty
def mN(K:zg)(T:String)(r:V->List V->Hp->VK->Prop)(d:TE):TE:=λe H Q=>d e H λx c=>mM K T x c/\r x [] c Q
def mO(K:zg)(T:String)(r:V->List V->Hp->VK->Prop)(e:TE)(t:TA):TE:=λc H Q=>e c H λx d=>mM K T x d/\t c d λf g=>r x f g Q
variable{o:C5} {es:List C5} {to:TE} {t:TA} {name:Str} {apos DQ:Pos} {id:String} {r:V->List V->Hp->VK->Prop}
theorem NP(k:PlainAttrs T)(slot:Slot T name id)(f:typeOf (.builtin id)=pure (.type "method_descriptor"))(l:pd X id r)(m:PE X o to)(c:V0 o name X.env (GM o X.env)=GM o X.env:=by rfl)(d:(apos.endLine==DQ.line)=true:=by rfl):PE X (.Call (.Attribute o name apos) [] [] DQ) (mN X.K T r to):=by
 intro pins s g H Q I h;refine wpAny_Call_method0_late c d (BF (m pins s g H _ I h) λv n ⟨x,p,i,j,ty,q⟩=>?_);obtain⟨u,w⟩:=WU i j ty;exact⟨T,id,k,slot,f,u,w,T9 W<|PySem.evalArgs_none<|l pins n g p x [] v [] Q i j .nil q⟩
theorem KW(m:PlainAttrs T)(slot:Slot T name id)(i:typeOf (.builtin id)=pure (.type "method_descriptor"))(n:pd X id r)(p:PE X o to)(q:PA X (e::es) t)(d:V0 o name X.env (GM o X.env)=GM o X.env:=by rfl)(g:((N1 DQ (q7 (e::es) X.env)).all (λx=> !x.1)&&(adI DQ (abn [] X.env)).all (λx=>x.1.isSome)
   &&decide ((e::es).length+([]:List aac).length+(if([]:List aac).isEmpty then 0 else 1)<30))=true:=by rfl)(f:(apos.endLine==DQ.line)=true:=by rfl)(u:q7 (e::es) X.env=(false,GM e X.env)::q7 es X.env:=by rfl)(c:(N1 DQ (q7 es X.env)).any (·.1)=false:=by rfl):
  PE X (.Call (.Attribute o name apos) (e::es) [] DQ) (mO X.K T r to t):=by
 intro pins s j H Q I h;refine wpAny_Call_method_late d g f W (BF (p pins s j H _ I h) λv w ⟨x,y,k,l,ty,z⟩=>?_);obtain⟨A,B⟩:=WU k l ty;refine⟨T,id,m,slot,i,A,B,?_⟩;have hA:=q DQ pins w j y _ k z;rw[u]at hA⊢;refine T9 (by show(false||(N1 DQ<|q7 es X.env).any (·.1))=false;rw[c]<;>rfl) (abL ?_);exact BF hA λC D E=>E.elim λF G J L M=>n pins D j G x F v C Q J l L M
end
def h_(X:Cx)(id:String)(r:V->List V->Hp->VK->Prop):Prop:=
 ∀(pins:List (Addr×Obj))(s:fx)(a:St)(H:Hp)(x:V)(b:List V)(v:ce)(c:List ce)(Q:VK),Inv X pins a H s->RelV x v->Vals b c->r x b H Q->
  i9 (m7 X.prog X.w) X.A (call (.builtin id) (v::c)) (EP X pins a Q) X.xe s
variable{us:List ce}
theorem Vals.zero(r:Vals [] us):us=[]:=wE (N9 r).symm
theorem Vals.one(r:Vals [x] us):∃u,us=[u]/\RelV x u:=by
 obtain⟨u,a,rfl,h,t⟩:=r.inv;rw[t.zero];exact⟨u,W,h⟩
theorem Vals.dropLast{xs:List V}(h:Vals xs us):Vals xs.dropLast us.dropLast:=by
 induction h with
 |nil=>exact .nil|cons r t a=>
  cases t with
  |nil=>exact .nil|cons q b=>exact .cons r a
theorem Vals.eraseIdx:∀{xs:List V}{us:List ce}(i:Nat),Vals xs us->Vals (xs.eraseIdx i) (us.eraseIdx i)
 |_,_,_,.nil=>.nil|_,_,0,.cons _ t=>t|_,_,i+1,.cons r t=>.cons r (Vals.eraseIdx i t)
theorem Vals.rep{xs:List V}{us:List ce}(h:Vals xs us):∀k:Nat,Vals (r4 k xs).flatten (r4 k us).flatten
 |0=>.nil|k+1=>by
  rw[Gc,Gc,O6,O6];exact Vals.append h<|Vals.rep h k
theorem RT{a:Type}(l:List a):l.eraseIdx (l.length-1)=l.dropLast:=List.eraseIdx_length_sub_one
theorem ML{a:Type}:∀(l:List a)(i:Nat),(l.eraseIdx i).length<=l.length
 |[],_=>bv _|_::_,0=>V7 _|_::r,i+1=>Nat.succ_le_succ (ML r i)
theorem foldl_rep(its:List ce):∀(k:Nat)(a:List ce),
  adQ (λb c=>b++c) a.toArray (r4 k its.toArray)=(a++(r4 k its).flatten).toArray
 |0,a=>by simp|k+1,a=>by
  have e:a.toArray++its.toArray=(a++its).toArray:=by simp
  have d:(a++its)++(r4 k its).flatten=a++(r4 (k+1) its).flatten:=by
   rw[Gc,O6,zx]
  rw[<-d,<-foldl_rep its k (a++its),<-e,Gc,W9]
variable{t':Nat}
section
variable {l b:Addr} {xs ys zs:List V}
theorem Inv.ZO{its':List ce}{f:Array ce->Array ce}(I:Inv X pins σ H s)(a:H l=Z (.lst xs))(e:s.heap.get? l=Z {cls:=.type "list",data:=.seq its.toArray n})(c:f its.toArray=its'.toArray)(d:Vals ys its')(g:ys.length<=sizeLine):
  Inv X pins σ (upd H l (.lst ys)) {s with heap:=s.heap.update l (F4 f),toks:=t'}:=by
 have q:=PySem.IsL.update e f;rw[c]at q;refine I.write (x:=l) (e:=l) (by rw[a];exact trivial) (.inl W) (λj u h i=>(B4 s.heap (F4 f)<|zn h).trans i) ⟨_,q⟩ ?_;exact⟨g,its',_,d,q⟩
theorem Inv.ZP(I:Inv X pins σ H s)(a:Vals ys its)(hz:ys.length<=sizeLine):
  Inv X pins σ (upd H s.heap.objs.size (.lst ys)) {s with heap:=s.heap.push {cls:=.type "list",data:=.seq its.toArray},toks:=t'}:=
 I.laid (λ_ _ q=>ca _ q) (bv _) ⟨hz,its,0,a,j8 _ W⟩
theorem Inv.fresh(I:Inv X pins σ H s):H s.heap.objs.size=none:=I.BN.fresh<|bv _
theorem Inv.O'(I:Inv X pins σ H s)(a:H l=Z (.lst xs)):xs.length<=sizeLine/\∃(its:List ce)(n:Nat),Vals xs its/\xs.length=its.length/\s.heap.get? l=Z {cls:=.type "list",data:=.seq its.toArray n}:=by
 obtain⟨z,its,n,r,e⟩:=I.BN l _ a;exact⟨z,its,n,r,r.length,e⟩
theorem PB(h:n<=sizeLine):M2 n=false:=by
 unfold M2;exact decide_eq_false z_
end
section
inductive WV(x:V)(vs:List V)(H:Hp)(Q:VK):Prop|mk(l xs y:_)(a:x=.ref l)(b:vs=[y])(c:H l=Z (.lst xs))(d:xs.length<sizeLine)(e:Q .AZ (upd H l (.lst (xs++[y]))))
def S':V->List V->Hp->VK->Prop:=λx a H Q=>WV x a H Q
theorem MM:h_ X "list.append" S':=by
 intro pins s g H x i v j Q I c d h;obtain⟨l,k,y,rfl,rfl,b,m,q⟩:=h;cases c;obtain⟨u,rfl,f⟩:=d.one;obtain⟨z,a,n,r,o,e⟩:=I.O' b;refine G4 F.slot_list_append ⟨_,e,W⟩ F.entry_list_append (F.args_list_append_2 _ _) (PySem.list_append l a.toArray n u<|by rw[d7];lia) ⟨e,?_⟩;refine⟨.AZ,_,I.ZO (its':=a++[u]) b e GE (r.append<|.cons f .nil) ?_,W,q⟩;rw[q5,x9];lia
inductive WW(x:V)(vs:List V)(H:Hp)(Q:VK):Prop|mk(l b xs zs:_)(a:x=.ref l)(c:vs=[.ref b])(d:H l=Z (.lst xs))(e:H b=Z (.lst zs))(f:xs.length+zs.length<=sizeLine)(g:Q .AZ (upd H l (.lst (xs++zs))))
def NQ:V->List V->Hp->VK->Prop:=λx a H Q=>WW x a H Q
theorem Ud:h_ X "list.extend" NQ:=by
 intro pins s y H x A v B Q I i j h;obtain⟨l,b,C,D,rfl,rfl,g,k,E,q⟩:=h;cases i;obtain⟨u,rfl,m⟩:=j.one;cases m;obtain⟨z,c,n,r,G,e⟩:=I.O' g;obtain⟨z2,a,o,p,t,w⟩:=I.O' k;have f:c.toArray.size+a.toArray.size<=sizeLine:=by rw[d7,d7];lia
 have d:¬(!c.toArray.isEmpty&&M2 (c.toArray.size+a.toArray.size))=true:=by
  rw[PB f,F8];exact pc
 refine G4 F.slot_list_extend ⟨_,e,W⟩ F.entry_list_extend (F.args_list_extend_2 _ _) (AutoSeq1.list_extend_list_list_0 l c.toArray n b a.toArray o d (by rw[d7];lia) z_) ⟨e,w,?_⟩;refine⟨.AZ,_,I.ZO (its':=c++a) g e GE (r.append p) ?_,W,q⟩;rw[q5];lia
inductive iA(x:V)(vs:List V)(H:Hp)(Q:VK):Prop|mk(l xs y:_)(a:x=.ref l)(b:vs=[])(c:H l=Z (.lst xs))(d:xs[xs.length-1]?=Z y)(e:Q y (upd H l (.lst xs.dropLast)))
def mP:V->List V->Hp->VK->Prop:=λx a H Q=>iA x a H Q
theorem RU:h_ X "list.pop" mP:=by
 intro pins s o H x p v t Q I f g h;obtain⟨l,w,y,rfl,rfl,d,i,q⟩:=h;cases f;have b:=g.zero;subst b;obtain⟨z,a,n,r,j,e⟩:=I.O' d;obtain⟨u,k,m⟩:=r.get i;have c:a.toArray[a.toArray.size-1]?=Z u:=by
  show a.toArray[a.length-1]?=Z u;rw[<-u6,<-j];exact k
 refine G4 adv ⟨_,e,W⟩ ade (F.args_list_pop_1 _) (MeetsSeq.list_pop_last l a.toArray n u c<|by rw[d7];lia) ⟨e,?_⟩;refine⟨y,_,I.ZO (its':=a.dropLast) d e ?_ r.dropLast ?_,m,q⟩
 .show a.toArray.eraseIdxIfInBounds (a.toArray.size-1)=a.dropLast.toArray;rw[d7,UF,RT]
 .rw[abJ];lia
inductive ZQ(x:V)(vs:List V)(H:Hp)(Q:VK):Prop|mk(l xs i k y:_)(a:x=.ref l)(b:vs=[.int i])(c:H l=Z (.lst xs))(d: -(2 ^ 63)<=i)(e:i<2 ^ 63)(f:aeq i xs.length=Z k)(g:xs[k]?=Z y)(h:Q y (upd H l (.lst (xs.eraseIdx k))))
def dC:V->List V->Hp->VK->Prop:=λx a H Q=>ZQ x a H Q
theorem FV:h_ X "list.pop" dC:=by
 intro pins s C H x D v E Q I d f h;obtain⟨l,g,i,k,y,rfl,rfl,c,j,m,o,p,q⟩:=h;cases d;obtain⟨u,rfl,A⟩:=f.one;obtain⟨t,rfl⟩:=A;obtain⟨z,a,n,r,B,e⟩:=I.O' c;obtain⟨w,hw,b⟩:=r.get p;refine G4 adv ⟨_,e,W⟩ ade (F.args_list_pop_2 _ _) (MeetsSeq.list_pop_at l a.toArray n i t k w (adW j m) (by rw[d7,<-B];exact o) (by rw[<-u6];exact hw)<|by rw[d7];lia) ⟨e,?_⟩;refine⟨y,_,I.ZO (its':=a.eraseIdx k) c e ?_ (r.eraseIdx k) ?_,b,q⟩
 .show a.toArray.eraseIdxIfInBounds k=(a.eraseIdx k).toArray;rw[UF]
 .have:=ML g k;lia
inductive iB(x y:V)(H:Hp)(Q:VK):Prop|mk(l b xs zs:_)(a:x=.ref l)(c:y=.ref b)(d:H l=Z (.lst xs))(e:H b=Z (.lst zs))(f:xs.length+zs.length<=sizeLine)(g:OZ H (.lst (xs++zs)) Q)
def iC:R2:=λx y H Q=>iB x y H Q
theorem RV:DA X (N3 .Add) iC:=by
 intro pins s p H x y v u Q I d f h;obtain⟨l,b,t,w,rfl,rfl,g,i,A,q⟩:=h;cases d;cases f;obtain⟨z,c,n,r,B,e⟩:=I.O' g;obtain⟨z2,a,C,j,k,m⟩:=I.O' i;refine PySem.P.add_list e m ?_ (by rw[d7,d7];lia);have o:c.toArray++a.toArray=(c++a).toArray:=by simp
 rw[o];exact⟨.ref _,_,I.ZP (t':=s.toks) (r.append j)<|by rw[q5];lia,W,q _ I.fresh⟩
inductive iD(x y:V)(H:Hp)(Q:VK):Prop|mk(l k xs:_)(a:x=.ref l)(b:y=.int k)(c:H l=Z (.lst xs))(d: -(2 ^ 63)<=k)(e:k<2 ^ 63)(f:xs.length*k.toNat<=sizeLine)(g:OZ H (.lst (r4 k.toNat xs).flatten) Q)
def iE:R2:=λx y H Q=>iD x y H Q
theorem len_rep{a:Type}(xs:List a)(k:Nat):(r4 k xs).flatten.length=k*xs.length:=by
 induction k with
 |zero=>simp|succ k b=>rw[Gc,O6,q5,b,Nat.succ_mul,Tl]
theorem WX:DA X (N3 .Mult) iE:=by
 intro pins s J H x y v u Q I p w h;obtain⟨l,k,K,rfl,rfl,A,B,C,o,q⟩:=h;cases p;obtain⟨t,rfl⟩:=w;obtain⟨z,b,n,r,D,e⟩:=I.O' A;have hlen:b.toArray.size*k.toNat<=sizeLine:=by rw[d7,<-D];exact o
 have d:¬b.toArray.size*k.toNat>(2 ^ 63-1)/8:=by
  have:(sizeLine:Nat)<=(2 ^ 63-1)/8:=by decide
  lia
 have f:¬(!Builtin.List.listFitsIndex k)=true:=by
  rw[adW B C];exact pc
 have c:¬M2 (b.toArray.size*k.toNat)=true:=by
  rw[PB hlen];exact pc
 have g:adQ (λi j=>i++j) #[] (r4 (if b.toArray.isEmpty=true then 0 else k.toNat) b.toArray)=(r4 k.toNat b).flatten.toArray:=by
  have E:∀m:Nat,adQ (λi j=>i++j) #[] (r4 m b.toArray)=(r4 m b).flatten.toArray:=λm=>by
   have:=foldl_rep b m [];rw[N6]at this;exact this
  rw[E];cases b with
  |nil=>simp|cons a L=>rw[if_neg GE]
 refine wpAny_binaryOp_repeat_ref (T:="list") (U:="int") ac ⟨_,e,W⟩ (λG=>P0 G k t) noFill_list_mul F.fills_int_mul adw repeat_list F.slot_int_index.lookup (G4 adw (P0 s k t) F.entry_int_rmul (F.args_int_rmul_2 _ _) (int___rmul___int_list k t l b.toArray n)
   ⟨e,W,⟨_,e,W⟩,G4 F.slot_list_mul ⟨_,e,W⟩ F.entry_list_mul (F.args_list_mul_2 _ _) (AutoListH.list___mul___list_int_3 l b.toArray n k t f d c) ⟨e,?_⟩⟩)
 rw[g];exact⟨.ref _,_,I.ZP (t':=s.toks) (r.rep k.toNat)<|by rw[len_rep,aeE];exact o,W,q _ I.fresh⟩
end
variable{E:ce->fx->Prop}{w:y8}{prog:wv}
section
end
section
end
variable{o:Option V}
section
variable{κ:Type} [DecidableEq κ]
def CG(kvs:List (κ×V))(k:κ):Option V:=(kvs.find? λa=>decide<|a.1=k).map (·.2)
def putK(kvs:List (κ×V))(k:κ)(v:V):List (κ×V):=
 if(kvs.any λa=>decide (a.1=k))=true then kvs.map (λa=>if a.1=k then(a.1,v)else a)else kvs++[(k,v)]
def Ed(kvs:List (κ×V))(k:κ):List (κ×V):=kvs.filter λa=>decide<|a.1≠k
theorem D_{p:κ×V}{r:List (κ×V)}{k:κ}(e:p.1=k):CG (p::r) k=Z p.2:=by simp[CG,N7,e]
theorem D'{p:κ×V}{r:List (κ×V)}{k:κ}(e:¬p.1=k):CG (p::r) k=CG r k:=by simp[CG,N7,e]
theorem EA(k:κ):∀kvs:List (κ×V),(kvs.any λa=>decide (a.1=k))=(CG kvs k).isSome
 |[]=>rfl|p::r=>by
  rw[On];by_cases e:p.1=k
  .simp only[D_ e,decide_eq_true e,aeF,R5]
  .rw[D' e,decide_eq_false e,aen];exact EA k r
theorem FW(kvs:List (κ×V))(k:κ)(v:V):(putK kvs k v).length<=kvs.length+1:=by
 unfold putK;split
 .rw[bi];lia
 .rw[q5,j3,B6];lia
theorem PD{kvs:List (κ×V)}{k:κ}(v:V)(h:CG kvs k=ν):putK kvs k v=kvs++[(k,v)]:=by
 unfold putK;rw[EA,h];exact if_neg ac
theorem JS.Ee{u:Option ce}(r:JS o u):o.isSome=u.isSome:=by
 cases o with
 |none=>cases u with
  |none=>rfl|some _=>exact(show False from r).elim
 |some _=>cases u with
  |none=>exact(show False from r).elim|some _=>rfl
theorem KV.val{kvs:List (κ×V)}{vs:List (κ×ce)}(r:KV kvs vs)(k:κ):JS (CG kvs k) (P4 vs k):=by
 unfold KV at r
 induction r with
 |nil=>exact E9|@cons p q i a h t f=>
  obtain⟨d,g⟩:=h;by_cases e:p.1=k
  .have c:q.1=k:=d.symm.trans e;have b:P4 (q::a) k=Z q.2:=by simp[P4,N7,c]
   rw[D_ e,b];exact g
  .have c:¬q.1=k:=λz=>e<|d.trans z;have b:P4 (q::a) k=P4 a k:=by simp[P4,N7,c]
   rw[D' e,b];exact f
theorem KV.any{kvs:List (κ×V)}{vs:List (κ×ce)}(r:KV kvs vs)(k:κ):(kvs.any λa=>decide (a.1=k))=vs.any λa=>decide (a.1=k):=by
 unfold KV at r
 induction r with
 |nil=>rfl|cons h t b=>rw[On,On,b,h.1]
theorem KV.dD{kvs:List (κ×V)}{vs:List (κ×ce)}(r:KV kvs vs)(k:κ)(c:RelV y u):
  KV (kvs.map λa=>if a.1=k then(a.1,y)else a) (vs.map λa=>if a.1=k then(a.1,u)else a):=by
 unfold KV at r⊢
 induction r with
 |nil=>exact .nil|@cons p q g i h t d=>
  rw[jp,jp];refine .cons ?_ d;obtain⟨b,f⟩:=h;by_cases e:p.1=k
  .rw[if_pos e,if_pos<|b.symm.trans e];exact⟨b,c⟩
  .rw[if_neg e,if_neg λz=>e<|b.trans z];exact⟨b,f⟩
theorem KV.put{kvs:List (κ×V)}{vs:List (κ×ce)}(r:KV kvs vs)(k:κ)(a:RelV y u):KV (putK kvs k y) (stored vs k u):=by
 unfold putK stored;rw[r.any k];by_cases e:(vs.any λb=>decide<|b.1=k)=true
 .rw[if_pos e,if_pos e];exact r.dD k a
 .rw[if_neg e,if_neg e];exact aeO r ⟨W,a⟩
theorem KV.drop{kvs:List (κ×V)}{vs:List (κ×ce)}(r:KV kvs vs)(k:κ):KV (Ed kvs k) (without vs k):=by
 unfold KV at r⊢;unfold Ed without
 induction r with
 |nil=>exact .nil|@cons p q i j h t d=>
  obtain⟨c,f⟩:=h;rw[FS,FS];by_cases e:p.1=k
  .have a:¬decide (p.1≠k)=true:=by simp[e]
   have b:¬decide (q.1≠k)=true:=by simp[c.symm.trans e]
   rw[if_neg a,if_neg b];exact d
  .have g:¬q.1=k:=λz=>e<|c.trans z;have a:decide (p.1≠k)=true:=by simp[e]
   have b:decide (q.1≠k)=true:=by simp[g]
   rw[if_pos a,if_pos b];exact .cons ⟨c,f⟩ d
theorem KV.keys{kvs:List (κ×V)}{vs:List (κ×ce)}(r:KV kvs vs):kvs.map (·.1)=vs.map (·.1):=by
 unfold KV at r
 induction r with
 |nil=>rfl|cons h t a=>rw[jp,jp,a,h.1]
theorem KV.length{kvs:List (κ×V)}{vs:List (κ×ce)}(r:KV kvs vs):kvs.length=vs.length:=N9 r
theorem WY(kvs:List (κ×V))(k:κ):(Ed kvs k).length<=kvs.length:=C4 _ _
end
variable{P:wv}
theorem HV{k:Key}(r:RelV (kV k) u):(An P w).is k u=true:=by
 cases k with
 |inl i=>obtain⟨t,e⟩:=(show∃t,u=M7 i t from r);subst e;exact Oc P w i t
 |inr x=>obtain⟨t,e⟩:=(show∃t,u=K5 x t from r);subst e;exact Od P w x t
theorem MN{P:wv}{w:y8}:∀{ks:List Key}{us:List ce},Vals (ks.map kV) us->ItemsAre (An P w) ks us
 |[],_,r=>by rw[aaS]at r;cases r;exact .nil|k::ks,_,r=>by
  rw[jp]at r;cases r with
  |cons h t=>exact .cons (HV h) (MN t)
abbrev KT(H:Hp):List (List Key×V)->List (List Key×Addr×ce)->Prop:=Paired λp q=>p.1=q.1/\H q.2.1=Z (.tup<|p.1.map kV)/\RelV p.2 q.2.2
variable{kvs:List (List Key×V)}{xs:List (List Key×Addr×ce)}
theorem KT.val(r:KT H kvs xs)(k:List Key):JS (CG kvs k) ((adg xs k).map (·.2)):=by
 induction r with
 |nil=>exact E9|@cons p q i a h t f=>
  obtain⟨d,_,g⟩:=h;by_cases e:p.1=k
  .have c:q.1=k:=d.symm.trans e;have b:adg (q::a) k=Z q.2:=by simp[adg,N7,c]
   rw[D_ e,b];exact g
  .have c:¬q.1=k:=λz=>e<|d.trans z;have b:adg (q::a) k=adg a k:=by simp[adg,N7,c]
   rw[D' e,b];exact f
theorem KT.dD(r:KT H kvs xs)(k:List Key)(d:RelV y u):
  KT H (kvs.map λb=>if b.1=k then(b.1,y)else b) (xs.map (putAt k u)):=by
 induction r with
 |nil=>exact .nil|@cons p q i j h t f=>
  rw[jp,jp];refine .cons ?_ f;obtain⟨a,c,g⟩:=h;unfold putAt;by_cases e:p.1=k
  .rw[if_pos e,if_pos<|a.symm.trans e];exact⟨a,c,d⟩
  .rw[if_neg e,if_neg λz=>e<|a.trans z];exact⟨a,c,g⟩
theorem KT.put(r:KT H kvs xs)(k:List Key){b:Addr}(c:H b=Z (.tup (k.map kV)))(a:RelV y u):
  KT H (putK kvs k y) (storedH xs k b u):=by
 have e:(kvs.any λd=>decide<|d.1=k)=(adg xs k).isSome:=by
  rw[EA,(r.val k).Ee,aai]
 unfold putK storedH;rw[e];by_cases q:(adg xs k).isSome=true
 .rw[if_pos q,if_pos q];exact r.dD k a
 .rw[if_neg q,if_neg q];exact aeO r ⟨W,c,a⟩
theorem KT.keeps{a:Hp}(r:KT H kvs xs)(c:∀b ys,H b=Z (.tup ys)->a b=Z (.tup ys)):KT a kvs xs:=
 Paired.UQ r λ_ _ z=>⟨z.1,c _ _ z.2.1,z.2.2⟩
variable{a:Addr}
section
variable {h:Heap} 
theorem bc{u:HO}(ok:Ge P w H h)(e:Rd H a u):Av P w H h a u:=e.ok ok
theorem EM{kvs:List (Key×V)}(ok:Ge P w H h)(e:Rd H a (.dK kvs)):kvs.length<=sizeLine/\(a==D9)=false/\∃vs,KV kvs vs/\h.DictOf (An P w) a vs:=
 show Av P w H h a (.dK kvs)from bc ok e
theorem WZ{kvs:List (Key×V)}(ok:Ge P w H h)(e:H a=Z (.dK kvs)):kvs.length<=sizeLine/\(a==D9)=false/\∃vs,KV kvs vs/\h.DictOf (An P w) a vs:=EM ok<|.inl e
theorem KX{ks:List Key}(ok:Ge P w H h)(e:H a=Z (.tup (ks.map kV))):(abP (An P w)).is h ks a:=by
 obtain⟨_,b,r,o,c,d,n,f⟩:=(show Av P w H h a (.tup<|ks.map kV)from ok a _ e);exact⟨o,b.toArray,n,c,d,f,GT<|MN r⟩
theorem MO(ok:Ge P w H h)(e:Rd H a (.dT kvs)):kvs.length<=sizeLine/\(a==D9)=false/\
  ∃xs,KT H kvs xs/\h.DictOfH (abP (An P w)) a xs:=by
 obtain⟨z,y,xs,r,o,d,f,g,i,j,k,n⟩:=(show Av P w H h a (.dT kvs)from bc ok e);refine⟨z,y,xs,r,o,d,f,g,i,j,k,λx b=>?_,n⟩;have all:∀{l:List (List Key×V)}{m:List (List Key×Addr×ce)},KT H l m->∀x∈m,(abP<|An P w).is h x.1 x.2.1:=by
  intro l m q
  induction q with
  |nil=>intro x b;exact nomatch b
  |@cons p q u v c t s=>
   intro x b;rcases j4.mp b with e|b
   .subst e;exact KX ok<|by rw[<-c.1];exact c.2.1
   .exact s x b
 exact all r x b
theorem iF(ok:Ge P w H h)(e:H a=Z (.dT kvs)):kvs.length<=sizeLine/\(a==D9)=false/\
  ∃xs,KT H kvs xs/\h.DictOfH (abP (An P w)) a xs:=MO ok (.inl e)
end
def PF(H:Hp)(a:Addr)(y:V)(r:Option V):Prop:= (∃c k,Rd H a (.dK c)/\y=kV k/\r=CG c k)∨∃c k b,Rd H a (.dT c)/\y=.ref b/\H b=Z (.tup<|k.map kV)/\r=CG c k
def Ue(H:Hp)(a:Addr)(y v:V)(d:Hp):Prop:= (∃c k,H a=Z (.dK c)/\y=kV k/\c.length<sizeLine/\d=upd H a (.dK<|putK c k v))∨
 ∃c k b,H a=Z (.dT c)/\y=.ref b/\H b=Z (.tup (k.map kV))/\c.length<sizeLine/\d=upd H a (.dT (putK c k v))
theorem Ue.k{H:Hp}{a:Addr}{kvs:List (Key×V)}{k:Key}{v:V}(e:H a=Z (.dK kvs))(hl:kvs.length<sizeLine):Ue H a (kV k) v (upd H a (.dK (putK kvs k v))):=.inl ⟨kvs,k,e,W,hl,W⟩
variable{Q:ce->fx->Prop}{h':Heap}
section
variable {v:V} {r:ce} 
theorem Inv.big(I:Inv X pins σ H s):D9<s.heap.objs.size:=by
 have h:zj<s.heap.objs.size:=(I.mod.glob.keeps I.bk).lt;exact E4 ac h
theorem Ug(x:A.units+1<cLine)(I:Inv X pins σ H s)(g:PF H a y (Z v))(q:RelV y u)(h:∀f t,Inv X pins σ H t->RelV v f->Q f t):
  i9 (m7 X.prog X.w) A (acv (.ref a) u) Q E s:=by
 rcases g with⟨i,k,e,j,l⟩|⟨i,k,b,e,j,B,l⟩
 .subst j;obtain⟨z,C,D,c,m⟩:=EM I.BN e;obtain⟨f,hw,d⟩:=JS.some_of (v:=v) (o:=P4 D k) (by rw[l];exact c.val k);exact wpAny_getItem_of (HV q) m.mapOf hw<|h f _ (I.tok _) d
 .subst j;cases(show u=n0 b from q);obtain⟨z,C,F,c,m⟩:=MO I.BN e;obtain⟨f,hw,d⟩:=JS.some_of (v:=v) (o:=(adg F k).map (·.2)) (by rw[l];exact c.val k);obtain⟨p,G,n⟩:=At.mp hw;refine wpAny_getItem_heap (R1 x) (KX I.BN B) m G ?_;rw[n];exact h f _ (I.tok _) d
theorem mQ(p:A.units+1<cLine)(I:Inv X pins σ H s)(g:PF H a y o)(m:RelV y u)(h:∀n,Inv X pins σ H n->Q (.bool o.isSome) n):
  i9 (m7 X.prog X.w) A (AC .In u (.ref a)) Q E s:=by
 rcases g with⟨d,k,e,f,l⟩|⟨d,k,b,e,f,t,l⟩
 .subst f;obtain⟨z,i,x,c,j⟩:=EM I.BN e;refine wpAny_in_of (HV m) i j.mapOf ?_;rw[<-(c.val k).Ee,<-l];exact h _<|I.tok _
 .subst f;cases(show u=n0 b from m);obtain⟨z,i,B,c,j⟩:=MO I.BN e;refine wpAny_in_heap (R1 p) (KX I.BN t) i j ?_;have q:=(c.val k).Ee;rw[aai]at q;rw[<-q,<-l];exact h _<|I.tok _
theorem ZR(p:A.units+1<cLine)(I:Inv X pins σ H s)(g:PF H a y o)(m:RelV y u)(h:∀n,Inv X pins σ H n->Q (.bool (!o.isSome)) n):
  i9 (m7 X.prog X.w) A (AC .NotIn u (.ref a)) Q E s:=by
 rcases g with⟨d,k,e,f,l⟩|⟨d,k,b,e,f,t,l⟩
 .subst f;obtain⟨z,i,x,c,j⟩:=EM I.BN e;refine wpAny_notIn_of (HV m) i j.mapOf ?_;rw[<-(c.val k).Ee,<-l];exact h _<|I.tok _
 .subst f;cases(show u=n0 b from m);obtain⟨z,i,B,c,j⟩:=MO I.BN e;refine wpAny_notIn_heap (R1 p) (KX I.BN t) i j ?_;have q:=(c.val k).Ee;rw[aai]at q;rw[<-q,<-l];exact h _<|I.tok _
theorem Jn{c:HO}(I:Inv X pins σ H s)(d:gW (H a))(hs:C8 a s.heap h')(f:∃q,h'.get? a=Z q)(new:Av X.prog X.w (upd H a c) h' a c):
  Inv X pins σ (upd H a c) {s with heap:=h',toks:=t'}:=
 I.write (x:=a) (e:=a) d (.inl W) (λb q g z=>(hs.2 b g).trans z) f new
theorem Ic{c:Hp}{kvs:List (Key×V)}{vs:List (Key×ce)}(z:kvs.length<=sizeLine)(d:(a==D9)=false)(b:KV kvs vs)(e:h'.DictOf (An P w) a vs):
  Av P w c h' a (.dK kvs):=⟨z,d,vs,b,e⟩
theorem Uh{D:Hp}{Q:Unit->fx->Prop}(N:A.units+1<cLine)(I:Inv X pins σ H s)(g:Ue H a y v D)(F:RelV y u)(G:RelV v r)(h:∀J,Inv X pins σ D J->Q () J):
  i9 (m7 X.prog X.w) A (setItem (.ref a) u r) Q E s:=by
 rcases g with⟨d,k,e,m,l,n⟩|⟨d,k,b,e,m,K,l,n⟩
 .subst m n;obtain⟨z,p,O,f,t⟩:=WZ I.BN e;have x:O.length<=sizeLine:=by rw[<-f.length];exact z
  have B:(putK d k v).length<=sizeLine:=by have:=FW d k v;lia
  refine wpAny_setItem_pairs (hsz:=x) (HV F) t λL i C=>h _ ?_;have P:∃q,L.get? a=Z q:=let⟨q,_,_,j,_⟩:=i;⟨q,j⟩;exact Jn I (by rw[e];exact E9) C P<|Ic B p (f.put k G) i
 .subst m n;cases(show u=n0 b from F);obtain⟨z,p,R,f,t⟩:=iF I.BN e;have x:R.length<=sizeLine:=by rw[<-N9 f];exact z
  have B:(putK d k v).length<=sizeLine:=by have:=FW d k v;lia
  refine wpAny_setItem_heap (hsz:=x) (R1 N) (KX I.BN K) t λL i C=>h _ ?_;obtain⟨q,S,T,j,U,Y,ζ,_,ξ⟩:=i;refine Jn I (by rw[e];exact E9) C ⟨q,j⟩ ⟨B,p,_,(f.put k K G).keeps λc ys M=>?_,q,S,T,j,U,Y,ζ,ξ⟩;rw[AH<|GY M e λz=>nomatch z];exact M
end
section
variable {kvs:List (Key×V)} {k:Key} 
theorem iG{v:V}{more:List ce}(I:Inv X pins σ H s)(e:H a=Z (.dK kvs))(f:RelV (kV k) u)(l:CG kvs k=Z v)(j:more=[]∨∃x,more=[x])(h:∀c m,Inv X pins σ (upd H a (.dK (Ed kvs k))) m->RelV v c->Q c m):i9 (m7 X.prog X.w) A (call (.builtin "dict.pop") (.ref a::u::more)) Q E s:=by
 obtain⟨z,r,n,b,p⟩:=WZ I.BN e;obtain⟨c,hw,g⟩:=JS.some_of (v:=v) (o:=P4 n k) (by rw[<-l];exact b.val k);have y:(keyPart u).isSome=true:=by
  cases k with
  |inl i=>obtain⟨t,q⟩:=(show∃t,u=M7 i t from f);subst q;rfl
  |inr x=>obtain⟨t,q⟩:=(show∃t,u=K5 x t from f);subst q;rfl
 have B:adG "dict.pop" ⟨.ref a::u::more,[]⟩:=by
  rcases j with q|⟨x,q⟩
  .subst q;exact PySem.F.args_dict_pop_2 _ _
  .subst q;exact PySem.F.args_dict_pop_3 _ _ _
 refine call_meetsIn abe p.typeIs PySem.F.entry_dict_pop B (meets_dict_pop_there (An X.prog X.w) a (HV f) more j y)
  ⟨n,c,p,by rw[<-b.length];exact z,hw,λC d D=>h c _ ?_ g⟩
 have G:∃q,C.get? a=Z q:=let⟨q,_,_,J,_⟩:=d;⟨q,J⟩;exact Jn I (by rw[e];exact E9) D G<|Ic (am (WY kvs k) z) r (b.drop k) d
theorem iH(I:Inv X pins σ H s)(e:Rd H a (.dK kvs))(h:∀t c,Inv X pins σ H c->Q (.int kvs.length t) c):i9 (m7 X.prog X.w) A (call (.builtin "len") [.ref a]) Q E s:=by
 obtain⟨z,d,g,b,f⟩:=EM I.BN e;refine call_len_dict d f (by rw[<-b.length];rw[SB]at z;lia) ?_;rw[<-b.length];exact h _ _<|I.tok _
end
def dE(i:C5):Prop:=∀ov a,abm i false ov a=operate [ov,a] (acv ov a)
variable{value:C5}
theorem ZS{env:Env}{slice:C5}{id:String}(hl:Ps (.type T) "__getitem__"=pure (Z (.builtin id)))(hs:dE slice)(h:i9 (m7 prog w) A (GM value env) (λo c=>i9 (m7 prog w) A (GM slice env) (λi a=>a.TypeIs o T/\i9 (m7 prog w) A (acv o i) Q E a) E c) E s):
  i9 (m7 prog w) A (GM (.Subscript value slice pos) env) Q E s:=by
 refine adP (G3 h (λo c e=>G3 e (λi a b=>?_) λ_ _ x=>x) λ_ _ x=>x);obtain⟨g,b⟩:=b;unfold ab4;refine be ?_;rw[getitemInPython_of_ne g.not_modules];refine be<|W1 g hl ?_;have fin:i9 (m7 prog w) A (abm slice false o i) (λr d=>i9 (m7 prog w) A (letTemporaryGo value o r>>=λ_=>pure r) Q E d) E a:=by
  rw[hs o i];exact wpAny_operating<|G3 b (λr d f=>be<|wpAny_letTemporaryGo<|b9 f) λ_ _ x=>x
 first
  |exact b9 (be fin)
  |exact be (b9 (be fin))
  |exact be fin
theorem PH(I:Inv X pins σ H s)(g:PF H a y o):s.TypeIs (.ref a) "dict":=by
 rcases g with⟨c,k,e,_,_⟩|⟨c,k,b,e,_,_,_⟩
 .obtain⟨_,_,f,_,d⟩:=EM I.BN e;exact d.typeIs
 .obtain⟨_,_,h,_,d⟩:=MO I.BN e;exact d.typeIs
inductive tJ(x y:V)(H:Hp)(Q:VK):Prop|mk(a:Addr)(v:V)(e:x=.ref a)(g:PF H a y (Z v))(q:Q v H)
inductive tK(x y:V)(H:Hp)(Q:VK):Prop|mk(a:Addr)(o:Option V)(e:x=.ref a)(g:PF H a y o)(q:Q (.bl o.isSome) H)
inductive tO(x y:V)(H:Hp)(Q:VK):Prop|mk(a:Addr)(o:Option V)(e:x=.ref a)(g:PF H a y o)(q:Q (.bl (!o.isSome)) H)
def Wa(b ty:TE):TE:=λa H Q=>b a H λx c=>ty a c λy d=>tJ x y d Q
def mR(ty b:TE):TE:=λa H Q=>ty a H λy c=>b a c λx d=>tK x y d Q
def ZT(ty b:TE):TE:=λa H Q=>ty a H λy c=>b a c λx d=>tO x y d Q
def iI(d ty e:TE):TS:=λD b H=>e b H λv f=>d b f λx g=>ty b g λy h=>∃a c,x=.ref a/\Ue h a y v c/\D.nx b c
section
variable {o i:C5} {pos' mF:Pos} {td ty tv:TE}
theorem ZU(f:X.A.units+1<cLine)(j:PE X o td)(k:PE X i ty)(hs:dE i):PE X (.Subscript o i pos) (Wa td ty):=by
 intro pins s c H Q I h;refine ZS PySem.F.slot_dict_getitem.lookup hs (BF (j pins s c H _ I h) λu l m=>m.elim λx n p q r=>BF (k pins l c n _ p r) λD E ⟨y,t,d,w,a,v,z,g,B⟩=>?_);subst z;obtain rfl:u=n0 a:=q;exact⟨PH d g,Ug f d g w λG J C b=>⟨v,t,C,b,B⟩⟩
theorem Ie(c:X.A.units+1<cLine)(d:PE X i ty)(f:PE X o td):PC X .In i o (mR ty td):=by
 intro pins s b H Q I h;refine BF (d pins s b H _ I h) λB j k=>k.elim λy l m n p=>BF (f pins j b l _ m p) λu C ⟨x,q,r,t,a,ov,v,g,w⟩=>?_;subst v;obtain rfl:u=n0 a:=t;exact mQ c r g n λD z=>⟨.bl ov.isSome,q,z,W,w⟩
theorem Ef(c:X.A.units+1<cLine)(d:PE X i ty)(f:PE X o td):PC X .NotIn i o (ZT ty td):=by
 intro pins s b H Q I h;refine BF (d pins s b H _ I h) λB j k=>k.elim λy l m n p=>BF (f pins j b l _ m p) λu C ⟨x,q,r,t,a,ov,v,g,w⟩=>?_;subst v;obtain rfl:u=n0 a:=t;exact ZR c r g n λD z=>⟨.bl<|!ov.isSome,q,z,W,w⟩
theorem Ex(d:X.A.units+1<cLine)(f:PE X o td)(j:PE X i ty)(k:PE X value tv)(hs:aaE value (Z (.Subscript o i pos')) pos.line X.env=pure false):
  PS X (.Assign [.Subscript o i pos'] value pos) (iI td ty tv):=by
 intro pins s b H D I h;refine wpAny_Assign_Subscript (BF (k pins s b H _ I h) λr l c=>c.elim λv m n p q=>BF (f pins l b m _ n q) λu t c=>c.elim λx w z B C=>BF (j pins t b w _ z C) λM N ⟨y,O,E,F,a,G,J,g,K⟩=>?_) hs;subst J;obtain rfl:u=n0 a:=B;exact Uh d E g F p λP L=>⟨b,G,L,K⟩
end
theorem PJ(h:Heap)(a:D9<h.objs.size):Av P w H (h.push {cls:=.type "dict",data:=.dict #[]}) h.objs.size (.dK []):=
 ⟨j5 _,beq_eq_false_iff_ne.mpr (zn (j7 a)),[],.nil,Heap.DictOf.new h⟩
def dF:TE:=λ_ H Q=>OZ H (.dK []) Q
section
theorem KY:PE X (.Dict [] [] pos) dF:=λpins s b H Q I h=>
 wpAny_Dict_empty ⟨.ref s.heap.objs.size,_,I.laid (a:=s.heap.objs.size) (o:=.dK []) (t':=s.toks) (λ_ _ q=>ca _ q) (bv _) (PJ s.heap I.big),W,h _ (I.BN.fresh (bv _))⟩
end
def RW:List (TE×TE)->St->Hp->(List (V×V)->Hp->Prop)->Prop
 |[],_,H,Q=>Q [] H|(tk,a)::r,σ,H,Q=>tk σ H λx b=>a σ b λy c=>RW r σ c λps d=>Q ((x,y)::ps) d
abbrev VV:List (V×V)->List (ce×ce)->Prop:=Paired λp q=>RelV p.1 q.1/\RelV p.2 q.2
def kD(X:Cx)(pos:Pos)(keys:List (Option C5))(values:List C5)(a:List (TE×TE)):Prop:=
 ∀(pins:List (Addr×Obj))(s:fx)(b:St)(H:Hp)(Q:List (V×V)->Hp->Prop),Inv X pins b H s->RW a b H Q->
  i9 (m7 X.prog X.w) X.A (evalPairs (pairTrees keys values X.env pos)) (λe f=>∃c d,Inv X pins b d f/\VV c e/\Q c d) X.xe s
theorem NR:kD X pos [] [] []:=λpins s a H Q I h=>pairTrees_nil_walk ⟨[],H,I,.nil,h⟩
theorem HW{k v:C5}{ks:List (Option C5)}{vs:List C5}{tk d:TE}{a:List (TE×TE)}(e:PE X k tk)(f:PE X v d)(g:kD X pos ks vs a):
  kD X pos (Z k::ks) (v::vs) ((tk,d)::a):=λpins s b H Q I h=>
 pairTrees_cons_walk (BF (e pins s b H _ I h) λu i j=>j.elim λx l m n o=>BF (f pins i b l _ m o) λD p ⟨y,q,r,t,w⟩=>
  BF (g pins p b q _ r w) λE F ⟨z,A,B,c,C⟩=>⟨(x,y)::z,A,B,.cons ⟨n,t⟩ c,C⟩)
def CN(kvs more:List (Key×V)):List (Key×V):=more.foldl (λa b=>putK a b.1 b.2) kvs
theorem KV.merge:∀{more:List (Key×V)}{rs:List (Key×ce)}{f:List (Key×V)}{vs:List (Key×ce)},KV more rs->KV f vs->KV (CN f more) (W0 vs rs):=by
 intro more rs f vs r;unfold KV at r
 induction r generalizing f vs with
 |nil=>intro q;exact q|@cons p q c d h t a=>
  intro b;have e:KV (putK f p.1 p.2) (stored vs q.1 q.2):=by
   have:=b.put p.1 h.2;rw[<-h.1];exact this
  exact a e
theorem DM:∀(more kvs:List (Key×V)),(CN kvs more).length<=kvs.length+more.length
 |[],kvs=>by show kvs.length<=kvs.length+0;lia|p::r,kvs=>by
  have a:=DM r<|putK kvs p.1 p.2;have b:=FW kvs p.1 p.2;show(CN (putK kvs p.1 p.2) r).length<=_;rw[j3];lia
theorem KZ{P:wv}{w:y8}:∀{g:List (Key×V)}{ws:List (ce×ce)},VV (g.map λd=>(kV d.1,d.2)) ws->∃rs,Carries (An P w) ws rs/\KV g rs
 |[],_,r=>by rw[aaS]at r;cases r;exact⟨[],E9,.nil⟩|p::g,_,r=>by
  rw[jp]at r;cases r with
  |@cons a b as bs h t=>
   obtain⟨rs,c,q⟩:=KZ (P:=P) (w:=w) t;obtain⟨f,e⟩:=b;exact⟨(p.1,e)::rs,⟨HV h.1,W,c⟩,.cons ⟨W,h.2⟩ q⟩
def iJ(b:List (TE×TE)):TE:=λe H Q=>∀p,H p=ν->RW b e (upd H p<|.dK []) λf c=>c p=Z (.dK [])/\∃a:List (Key×V),f=a.map (λd=>(kV d.1,d.2))/\a.length<=15/\Q (.ref p) (upd c p<|.dK<|CN [] a)
theorem NS{keys:List (Option C5)}{values:List C5}{b:List (TE×TE)}(h:kD X pos keys values b)(d:keys.all (·.isSome)=true)(hl:keys.length=values.length)(l:keys≠[])(i:keys.length<=15):PE X (.Dict keys values pos) (iJ b):=by
 intro pins s m H Q I q;have n:=I.BN.fresh<|bv s.heap.objs.size;have p:=I.laid (a:=s.heap.objs.size) (o:=.dK []) (h':=s.heap.push {cls:=.type "dict",data:=.dict #[]}) (t':=s.toks) (λ_ _ q=>ca _ q) (bv _)<|PJ s.heap I.big;refine wpAny_Dict_walk (knd:=An X.prog X.w) d hl l i (BF (h pins _ m _ _ p<|q _ n) λJ K ⟨L,M,k,j,e,f,r,lk,t⟩=>?_);subst r;obtain⟨u,c,v⟩:=KZ (P:=X.prog) (w:=X.w) j;obtain⟨z,x,y,A,B⟩:=WZ k.BN e;cases A;refine⟨u,c,B,λh' g C=>⟨.ref s.heap.objs.size,_,?_,W,t⟩⟩;have D:(CN [] f).length<=sizeLine:=by
  have E:=DM f [];rw[B6]at E;rw[SB];lia
 have F:∃q,h'.get? s.heap.objs.size=Z q:=let⟨q,_,_,G,_⟩:=g;⟨q,G⟩;exact Jn k (by rw[e];exact E9) C F<|Ic D x (v.merge .nil) g
structure M1(X:Cx)(o:C5)(m:Str)(apos:Pos)(e:C5)(DQ:Pos):Prop where
 base:V0 o m X.env (GM o X.env)=GM o X.env
 F':((N1 DQ (q7 [e] X.env)).all (λx=> !x.1)&&(adI DQ (abn [] X.env)).all (λx=>x.1.isSome)
  &&decide (([e]:List C5).length+([]:List aac).length+(if([]:List aac).isEmpty then 0 else 1)<30))=true
 line:(apos.endLine==DQ.line)=true
 trees:N1 DQ (q7 [e] X.env)=[(false,GM e X.env)]
def pf(H:Hp)(a:Addr):Prop:=(∃b,Rd H a<|.dK b)∨∃b,Rd H a<|.dT b
theorem dG(I:Inv X pins σ H s)(d:pf H a):
  s.TypeIs (.ref a) "dict"/\(∀b,n0 a=.ref b->∃c,s.heap.get? b=Z c/\c.dict=ν)/\(a==D9)=false:=by
 rcases d with⟨g,e⟩|⟨g,e⟩
 .obtain⟨_,h,k,_,f⟩:=EM I.BN e;refine⟨f.typeIs,λb q=>?_,h⟩;cases q;obtain⟨c,_,_,i,j,_⟩:=f;exact⟨c,i,j.2.1⟩
 .obtain⟨_,h,l,_,f⟩:=MO I.BN e;refine⟨f.typeIs,λb q=>?_,h⟩;cases q;obtain⟨c,_,_,i,j,_⟩:=f;exact⟨c,i,j.2.1⟩
section
variable {d:V} {r:ce} 
end
def dH(f ty:TE):TE:=λc H Q=>f c H λx d=>∃a,x=.ref a/\pf d a/\ty c d λy e=>∃b k v,e a=Z (.dK b)/\y=kV k/\CG b k=Z v/\Q v (upd e a<|.dK<|Ed b k)
section
variable {o f:C5} {apos DQ:Pos} {td ty tx:TE}
theorem FX(i:PE X o td)(j:PE X e ty)(m:M1 X o "pop" apos e DQ):PE X (.Call (.Attribute o "pop" apos) [e] [] DQ) (dH td ty):=by
 intro pins s c H Q I h;refine wpAny_Call_method m.base m.F' m.line aaJ abe PySem.F.type_dict_pop (BF (i pins s c H _ I h) λu n ⟨x,p,g,q,a,r,d,t⟩=>?_);subst r;obtain rfl:u=n0 a:=q;obtain⟨t1,t2,_⟩:=dG g d;refine⟨t1,t2,?_⟩;rw[m.trees];refine T9 W (abL<|R8<|BF (j pins n c p _ g t) λG J ⟨y,K,w,z,A,k,v,B,C,l,D⟩=>T7 ?_);subst C;exact iG w B z l (.inl W) λL M E b=>⟨v,_,E,b,D⟩
end
section
variable {kvs:List (Key×V)} 
theorem Wb(I:Inv X pins σ H s)(e:Rd H a (.dK kvs))(h:∀p f,H p=ν->Inv X pins σ (upd H p (.dK kvs)) f->Q (.ref p) f):i9 (m7 X.prog X.w) A (call (.type "dict") [.ref a]) Q E s:=by
 obtain⟨z,i,l,c,j⟩:=EM I.BN e;refine kt_call_dict i j (by rw[<-c.length];exact z) λm d k=>?_;refine h _ _ (I.BN.fresh<|bv _)<|I.laid (a:=s.heap.objs.size) (o:=.dK kvs) (t':=s.toks) (λb q g=>?_) (bv _)<|Ic z (beq_eq_false_iff_ne.mpr<|zn<|j7 I.big) c d;exact(k.2 b<|j7<|ii g).trans<|ca _ g
end
section
end
end L2
namespace ph
open PySem PySem.W PySem.Calls PyProof.Rows
variable{P:Params}
theorem JZ{h:Heap}:∀(ns:List Int)(vs:List ce),WellAll P h vs (ns.map WData.int)->adA vs ns:=by
 intro ns
 induction ns with
 |nil=>
  intro vs w;rw[aaS]at w;cases w;exact .nil
 |cons n ns c=>
  intro vs w;rw[jp]at w;cases w with
  |cons a b=>
   cases a;exact .cons _ _<|c _ b
variable{l:OpenLaw}
theorem Ui{n:Nat}(k:l.most=Z n){h:Heap}{args:List WData}{vals:List ce}(b:l.row.toRowW.claim.pre args=true)(g:WellAll P h vals args):
  ∃a vs ns,vals=[n0 a]/\args=[WData.list (ns.map WData.int)]/\h.get? a=Z {cls:=.type "list",data:=.seq vs.toArray}/\adA vs ns/\ns.length<=n:=by
 have i:WShape.hasAll [] args [.list .int]=true:=(pre_splitW b).1;have j:l.pre.holds [] {args:=args}=true:=(pre_splitW b).2;obtain⟨d,r,rfl,m,o⟩:=hasAllW_cons i;obtain rfl:=hasAllW_nil o;obtain⟨w,rfl,p⟩:=hasW_list m;obtain⟨ns,rfl⟩:=items_int p;have hlen:ns.length<=n:=by
  unfold OpenLaw.pre at j;have e:(WTm.not<|.lt (.lit<|.int (n:Int))<|.len<|.arg 0).holds [] {args:=[.list<|ns.map .int]}=true:=by
   have e:=(holds_andW j).1;rw[k]at e;exact e
  have f:=condW_of e<|w_not<|w_lt w_lit<|w_len_list<|w_arg W;rw[bi]at f;refine ac8 λq=>?_;have s:(n:Int)<((ns.length:Nat):Int):=by lia
  first
   |(rw[decide_eq_true s]at f;exact absurd f ac)
   |(simp at f;lia)
 cases g with
 |cons t u=>
  cases u;cases t with
  |list v c=>exact⟨_,_,ns,W,W,v,JZ ns _ c,hlen⟩
theorem Uj(l:OpenLaw)(args:List WData):l.row.toRowW.claim.post args (.bool true) args=true:=
 postW_of (r:=l.row.toRowW) (X:=(true==true)) (show WShape.has [] (.bool true) .bool=true by first|rfl|decide|simp[WShape.has,WShape.arms,WShape.armsAll]) (show(WTm.eq .res (.lit (.bool true))).value [] {args:=args,res:=Z (.bool true),after:=args}=Z (.bool (true==true))from w_eq_bool (w_res W) w_lit) W
theorem PK{n:Nat}{q:wv}{loose:List Str}{t:(Str->Option ce)->Heap->Prop}{YP:y8->Heap->Prop}{d:DefRec}(x:l.most=Z n)(i:d.params.defaults=[])(call:∀(w:y8) (s₀ b:fx) (mg j:Str->Option ce) (fa:Addr) (o:Obj) (k g doc:ce) (a:Addr) (vs:List ce) (ns:List Int),
   Ground q loose [] t w s₀ mg j b.heap->YP w b.heap->
   b.heap.get? fa=Z o->o.data=.func (docDef d.name d.params d.body d.scope k g doc)->b.heap.CodeRec g d.name->mg d.name=Z (.ref fa)->
   b.heap.get? a=Z {cls:=.type "list",data:=.seq vs.toArray}->adA vs ns->ns.length<=n->b.gens= #[]->
   KM (m7 l.prog w) abN (.call (.ref fa) ⟨[.ref a],[]⟩) (λr h=>r=.ok (.ret (.bool true))/\OldK b.heap h.heap/\h.os=b.os/\aad h.gens) b):
  WalkO q loose t YP l.row.toRowW d [] (λf vs=>acf f vs):=by
 intro w s₀ b mg j G Y fa o k g doc y kV z A m u p B args vals K c v C s D;obtain rfl:y=.none:=Dflts.none u i;obtain rfl:kV=.none:=Dflts.noKw u;obtain⟨a,vs,ns,rfl,rfl,e,hints,hlen⟩:=Ui x c s;refine enter_call (S9 (call w s₀ b mg j fa o k g doc a vs ns G Y z (fd_plain A) m p e hints hlen B) λr h E=>?_);obtain⟨rfl,F,H,I⟩:=E;exact⟨.inl ⟨.bool true,.bool true,[],W,λ_=>rfl,.bool true,Uj l _,λ_=>⟨List.Pairwise.nil,λ_ J=>(nomatch J)⟩⟩,F,H,I⟩
section
variable{prog:wv} {w:y8} {A:G1} {E:ce->fx->Prop} {s:fx} {K:Frag}
end
end ph
namespace L2
open PySem PySem.Spec PyProof.Rows
variable{vs:List ce}{ns:List Int}
theorem Uk(h:adA vs ns):Vals (ns.map V.int) vs:=by
 induction h with
 |nil=>exact .nil|cons n t _ a=>exact .cons ⟨t,W⟩ a
def dI(H:Hp):Prop:=∀b,H b=ν∨∃o a,H b=Z (.Ca o<|.lst a)
variable{x:Str}{fd:AT}{mg:Str->Option ce}{w:y8}{a:Addr}{P:wv}{K:zg}
theorem Wc{J:Str->Option ce}{CX:Ua}{k:Nat}{fa:Addr}{sp:Sp}{c:fx}(S:K.In c.heap)(p:c.heap.Ns zj mg)(g:c.heap.Ns adN J)(L:∀x:Str,x≠"__name__"->J x=v7 x)(t:c.heap.NoLimit)(hg:c.gens= #[])(I:c.heap.get? a=Z {cls:=.type "list",data:=.seq vs.toArray})(T:adA vs ns)(U:ns.length<=sizeLine)(hr:Bn k abN)(F:∀base:Heap,K.In base->base.Ns zj mg->Ar P w K mg base CX k fa fd [x] sp)(l:∀(s:fx) (u:ce),abO s fd ⟨[u],[]⟩ [(x,u)])(M:∀H:Hp,dI H->Ab K H a (ns.map V.int)->sp [.ref a] H (λv _=>v=.bl true) λ_ _ _=>False)(N:∀H e i,CX [] H c (λ_ _ _=>False) e i->False):
  KM (m7 P w) abN (.call (.ref fa) ⟨[.ref a],[]⟩) (λr i=>r=.ok (.ret (.bool true))/\OldK c.heap i.heap/\i.os=c.os/\aad i.gens) c:=by
 have X:=Uk T;have y:=T.length;have core:∀H:Hp,dI H->Ab K H a (ns.map V.int)->Ge P w H c.heap->(∀b,H b≠ν->b=a)->(H a≠ν->K.lookup a=ν)->
   KM (m7 P w) abN (.call (.ref fa) ⟨[.ref a],[]⟩) (λr i=>r=.ok (.ret (.bool true))/\OldK c.heap i.heap/\i.os=c.os/\aad i.gens) c:=by
  intro H Y hS A hA hK;have f:∀{b:Addr}{o:Obj},c.heap.get? b=Z o->H b=ν->(ND c.heap H).get? b=Z o:=λe n=>Vz e n;have O:∀{b:Addr}{o:Obj}{B:Array abT}{C:Nat},c.heap.get? b=Z o->o.data=.dict B C->H b=none:=λ{b o B C} e d=>by
   cases q:H b with
   |none=>rfl|some u=>
    have Q:b=a:=hA b (by rw[q];simp);subst Q;rw[I]at e;cases e;have d':Data.seq vs.toArray _=Data.dict B C:=d;cases d'
  have j:∀{b:Addr}{m:Str->Option ce},c.heap.Ns b m->(ND c.heap H).Ns b m:=λ{b m} ⟨o,B,C,e,d,r⟩=>⟨o,B,C,f e (O e d),d,r⟩;have D:K.In (ND c.heap H):=λb o e=>f (S b o e) (by
   cases q:H b with
   |none=>rfl|some u=>
    have Q:b=a:=hA b (by rw[q];simp);subst Q;rw[hK (by rw[q];simp)]at e;cases e)
  have hM:Mod K mg (ND c.heap H):=⟨D,j p,⟨J,j g,L⟩,let⟨mc,h1,h2⟩:=t;⟨mc,j h1,h2⟩⟩;have e0:ZJ P w K mg (ND c.heap H) abN [] c H:=⟨W,hM,λb o e=>Yz e,bm<|UR _ _,trivial,λb g=>absurd (show b∈([]:List Addr)from g) GE,A,.of_eq hg⟩;refine S9 ((F _ D<|j p).run abN [] c H ⟨[.ref a],[]⟩ [.ref a] [.ref a] _ _ hr e0 (l c<|.ref a) (.cons W .nil)<|M H Y hS) λr i h=>?_;cases r with
  |error e=>exact(N H e i h).elim|ok fl=>
   cases fl with
   |next=>exact Do h|brk=>exact Do h|cont=>exact Do h|ret u=>
    obtain⟨v,H',os,bare,un,E,r',q⟩:=h;have q':v=.bl true:=q;subst q';obtain rfl:u=B1 true:=r';refine⟨W,OldK.of_keep λb o e=>?_,os,bare⟩;cases q:H b with
    |none=>exact un.keep b o e q (by intro z;exact absurd (show b∈([]:List Addr)from z) GE) GE|some u=>
     rcases Y b with z|⟨ob,xs,z⟩
     .rw[q]at z;cases z
     .have z2:=un.IW b ob _ z;obtain⟨ζ,_⟩:=A b _ z;obtain⟨e2,_⟩:=E b _ z2;rw[e]at ζ;cases ζ;exact e2
 cases R:K.lookup a with
 |some o=>
  have e:=S a o R;rw[I]at e;cases e;refine core (λ_=>ν) (λ_=>.inl W) (.inr ⟨_,vs.toArray,_,R,W,W,W,by rw[d7,y];exact U,GT X⟩) (λb u z=>by have G:(ν:Option HO)=Z u:=z;cases G) (λb z=>absurd W z) λz=>absurd W z
 |none=>
  refine core (λb=>if b=a then Z (.Ca {cls:=.type "list",data:=.seq vs.toArray}<|.lst<|ns.map V.int)else ν) (λb=>?_) (.inl<|.inr ⟨{cls:=.type "list",data:=.seq vs.toArray},if_pos W⟩) (λb u z=>?_) (λb z=>?_) λ_=>R
  .by_cases g:b=a
   .exact .inr ⟨_,_,if_pos g⟩
   .exact .inl<|if_neg g
  .by_cases g:b=a
   .have G:=(if_pos g).symm.trans z;cases G;subst g;exact⟨I,by rw[bi];exact U,vs,_,X,I⟩
   .have G:=(if_neg g).symm.trans z;cases G
  .by_cases g:b=a
   .exact g
   .exact absurd (if_neg g) z
theorem ZV{l:ado}{n k:Nat}{q:wv}{loose:List Str}{B:(Str->Option ce)->Heap->Prop}{YP:y8->Heap->Prop}{d:DefRec}{K:Params->zg}{CX:y8->Ua}{sp:y8->Sp}(C:l.most=Z n)(j:n<=sizeLine)(m:d.params.defaults=[])(D:Bn k abN)(E:∀(w:y8) (h:Heap),YP w h->(K w.params).In h)(F:∀(w:y8) (mg:Str->Option ce) (fa:Addr) (h:Heap),(K w.params).In h->h.Ns zj mg->mg d.name=Z (.ref fa)->
   ∃fd:AT,(∀(s:fx) (u:ce),abO s fd ⟨[u],[]⟩ [(x,u)])/\
    ∀base:Heap,(K w.params).In base->base.Ns zj mg->Ar l.prog w (K w.params) mg base (CX w) k fa fd [x] (sp w))(p:∀(w:y8) (H:Hp) (a:Addr) (ns:List Int),ns.length<=n->dI H->Ab (K w.params) H a (ns.map V.int)->sp w [.ref a] H (λv _=>v=.bl true) λ_ _ _=>False)(r:∀(w:y8) (H:Hp) (s:fx) (e:ce) (t:fx),CX w [] H s (λ_ _ _=>False) e t->False):
  aef q loose B YP l.row.toRowW d [] (λf vs=>acf f vs):=by
 refine ph.PK C m λw z c mg P fa o Q R doc a vs ns G Y S U I y i hints hlen J=>?_;have A:=E w _ Y;obtain⟨fd,L,M⟩:=F w mg fa _ A G.T.g y;exact Wc A G.T.g G.T.b G.T.builtins G.T.nolimit J i hints (am hlen j) D M L (λH N O=>p w H a ns hlen N O) λH e t=>r w H c e t
def EN(s:Stmt):Arguments:=match s with
 | .FunctionDef _ a _ _ _ _ _ _ _ _=>a|_=>{posonlyargs:=[],args:=[],vararg:=ν,kwonlyargs:=[],kw_defaults:=[],kwarg:=ν,defaults:=[]}
def DN(s:Stmt):List Stmt:=match s with
 | .FunctionDef _ _ b _ _ _ _ _ _ _=>b|_=>[]
def Bg(s:Stmt):Scope:=match s with
 | .FunctionDef _ _ _ _ _ _ a _ _ _=>a|_=>{kind:=.function,names:=[],isGenerator:=false,isCoroutine:=false}
abbrev CA:Ua:=λ_ _ _ _ _ _=>False
abbrev E0:XK:=λ_ _ _=>False
variable{X:Cx}
theorem TB:Passes CA X E0:=λ_ _ _ _ _ _ _ h=>h.elim
structure Ul(K:zg)(x qual:Str)(st:Stmt)(f:Addr)(fd:AT):Prop where
 ex:∃(oc:ce)(od:Option Addr)(kV doc pm:ce)(an:Option Addr)(pj ct:ce)(tP:Array (Option ce)),
  fd=K1 x qual (EN st) (DN st) (Bg st) .none kV doc pm an pj ct/\K.lookup f=Z ⟨oc,od,.func fd,tP⟩/\T3 K pj qual=true
 kp:A4 K (.ref f)=true
variable{qual:Str}{st:Stmt}{f:Addr}
section
variable {base:Heap}
theorem Ul.ok{N ps:List Str}{k:Nat}{sp:Sp}(F:Ul K x qual st f fd)(S:HQ N ps (Bg st))(len:∀vs H Q E,sp vs H Q E->vs.length=ps.length)(b:∀(a:ce) (A:G1) (outer:List Env) (s:fx) (H:Hp) (vs:List V) (e:Ends) (E:XK),(∀{σ H},e.rt .AZ H->e.nx σ H)->Bn k (A.deeper (aan qual (Bg st) s.heap.objs.size f a))->sp vs H e.rt E->
   ∃t,Oh (RN CA P w K mg base N qual (Bg st) f a A outer s H E).gg (DN st) t/\t e (start N vs) H):Ar P w K mg base CA (k+1) f fd ps sp:=by
 obtain⟨l,m,kV,doc,n,o,a,p,g,rfl,lk,c⟩:=F.ex;refine hG lk c S len λA outer s H vs Q E i d=>?_;obtain⟨t,h,q⟩:=b a A outer s H vs {nx:=λ_ j=>Q .AZ j,rt:=Q} E id i d;exact⟨t,h.gg,q⟩
theorem Ul.binds{ps:List Str}(F:Ul K x qual st f fd)(h:∀(kV doc b:ce) (c:Option Addr) (a ct:ce) (us:List ce),us.length=ps.length->aeK (K1 x qual (EN st) (DN st) (Bg st) .none kV doc b c a ct) ⟨us,[]⟩=pure (ps.zip us)):Binds K fd ps []:=by
 obtain⟨g,i,kV,doc,b,c,a,ct,d,rfl,lk,e⟩:=F.ex;exact .all<|h kV doc b c a ct
theorem We{g:ce}{h d:Option Addr}{b:Array (Option ce)}{kV doc e a ct:ce}(l:K.lookup f=Z ⟨g,h,.func (K1 x qual (EN st) (DN st) (Bg st) .none kV doc e d a ct),b⟩)(c:T3 K a qual=true)(k:A4 K (.ref f)=true):Ul K x qual st f (K1 x qual (EN st) (DN st) (Bg st) .none kV doc e d a ct):=⟨⟨g,h,kV,doc,e,d,a,ct,b,W,l,c⟩,k⟩
end
variable{A:G1}
theorem bg{k:Nat}(a:Bn k A):A.units+1<cLine:=d8 (im (by decide:1<=64) _) a.units
theorem Aw{n:Nat}(h:n<=1000):n<sizeLine:=d8 h ac
variable{pos:Pos}
section
theorem pv(i:Nat)(b:X.N[i]?=Z x:=by rfl)(c:jt X.env.scope x:=by first|exact Y3 rfl|exact O9 (Y3 rfl)|exact O9 (O9 rfl))(d:(x==("__debug__":Str))=false:=by decide)(a:(x==("__classdict__":Str))=false:=by decide):PE X (.Name x pos) (GV i):=cg b c d a
end
theorem AQ{A B:Prop}(h:B):if false=true then A else B:=by
 rw[if_neg pc];exact h
theorem As{A B:Prop}(h:A):if true=true then A else B:=by
 rw[if_pos W];exact h
theorem Wf{c A B:Prop}[Decidable c](a:c->A)(b:¬c->B):if c then A else B:=by
 by_cases h:c
 .rw[if_pos h];exact a h
 .rw[if_neg h];exact b h
def AF(H a:Hp):Prop:=∀b o,H b=Z o->a b=Z o
theorem AF.refl(H:Hp):AF H H:=λ_ _ h=>h
variable{H:Hp}
theorem AF.trans{d e:Hp}(a:AF H d)(b:AF d e):AF H e:=λc o h=>b c o<|a c o h
theorem AF.free{a:Hp}(e:AF H a){l:Addr}(h:a l=aeP):H l=aeP:=by
 cases q:H l with
 |none=>rfl|some o=>
  rw[e l o q]at h;cases h
theorem AF.seq{b:Hp}{xs:List V}(e:AF H b)(h:Ab K H a xs):Ab K b a xs:=by
 rcases h with(h|⟨o,h⟩)|h
 .exact .inl<|.inl<|e _ _ h
 .exact .inl<|.inr ⟨o,e _ _ h⟩
 .exact .inr h
section
variable{κ:Type} [DecidableEq κ]
theorem PL{kvs:List (κ×V)}{k:κ}(h:CG kvs k=ν):¬k∈kvs.map (·.1):=by
 intro m;obtain⟨p,a,e⟩:=u7.mp m;have q:(kvs.any λb=>decide<|b.1=k)=true:=K6.mpr ⟨p,a,decide_eq_true e⟩;rw[EA,h]at q;exact absurd q GE
theorem NT{kvs:List (κ×V)}{k:κ}{v:V}(h:CG kvs k=Z v):k∈kvs.map (·.1):=by
 have q:(kvs.any λa=>decide<|a.1=k)=true:=by
  rw[EA,h]
  all_goals rfl
 obtain⟨p,b,e⟩:=K6.mp q;exact u7.mpr ⟨p,b,of_decide_eq_true e⟩
theorem MP{p:κ×V}{r:List (κ×V)}{k:κ}(e:p.1=k):Ed (p::r) k=Ed r k:=by
 unfold Ed;rw[FS,if_neg<|by simp[e]]
theorem MQ{p:κ×V}{r:List (κ×V)}{k:κ}(e:¬p.1=k):Ed (p::r) k=p::Ed r k:=by
 unfold Ed;rw[FS,if_pos<|by simp[e]]
end
variable{s:fx}{scope:Scope}
theorem RX{prog:wv}{R:acU->fx->Prop}{a f iter:C5}{d:List C5}{g b:ce}{env:Env}(e:Nat->fx->Prop)(step:∀n s,e n s->i9 (m7 prog w) A (Op g) (λr p=>match r with
   |none=>R (.ok .next) p|some v=>i9 (m7 prog w) A (W5 f g v) (λ_ u=>i9 (m7 prog w) A (acd f env v) (λ_ B=>
     i9 (m7 prog w) A (forIn d true λc r=>if r=true then do let ok<-adF c env (GM c env);pure (N8 ok)else pure (N8 r)) (λok i=>
      if ok=true then i9 (m7 prog w) A (GM a env) (λy j=>i9 (m7 prog w) A (call (.builtin "list.append") [b,y]) (λ_ l=>∃m,m<n/\e m l) (λ_ _=>False) j) (λ_ _=>False) i
      else∃m,m<n/\e m i) (λ_ _=>False) B) (λ_ _=>False) u) (λ_ _=>False) p) (λ_ _=>False) s)(n:Nat)(h:e n s):KM (m7 prog w) A (.compLoop (.ListComp a [⟨f,iter,d,0⟩] scope pos) 0 g b env) R s:=by
 have up:∀{C:Type}{t:Sem C}{Q:C->fx->Prop}{E:ce->fx->Prop}{s:fx},i9 (m7 prog w) A t Q (λ_ _=>False) s->i9 (m7 prog w) A t Q E s:=
  λh=>G3 h (λ_ _ q=>q) λ_ _ z=>z.elim
 refine codeAny_loop W e (λk s F=>?_) n h;show i9 _ A ((compTurn (.ListComp a [⟨f,iter,d,0⟩] scope pos) 0 g b env).onRaise λx=>do noteFrame x env;theTreesLotGoes x) _ _ s;refine wpAny_noted ?_;rw[compTurn_list];refine be (ab1<|be<|G3 (up<|step k s F) (λr p D=>?_) λ_ _ z=>z);cases r with
 |none=>exact b9 D|some v=>
  refine be (G3 (up D) (λ_ u G=>?_) λ_ _ z=>z);refine be (G3 (up G) (λ_ B H=>?_) λ_ _ z=>z);refine be (G3 (up H) (λok i o=>?_) λ_ _ z=>z);cases ok with
  |false=>exact b9 ⟨W,o⟩|true=>
   have o:i9 (m7 prog w) A (GM a env) (λy j=>i9 (m7 prog w) A (call (.builtin "list.append") [b,y]) (λ_ l=>∃m,m<k/\e m l) (λ_ _=>False) j) (λ_ _=>False) i:=o;exact be<|be<|G3 (up o) (λy j I=>be<|G3 (up I) (λ_ l J=>b9<|b9 ⟨W,J⟩) λ_ _ z=>z) λ_ _ z=>z
noncomputable def DR(cells:List (Str×Addr)):List (Str×NameKind)->List (Str×Addr)->List (Str×Addr)
 |[],a=>a|(n,k)::r,a=>if k==.free then DR cells r ((n,(cells.lookup n).getD 0)::a)else DR cells r a
theorem Ey{x:Str}:∀(names:List (Str×NameKind))(a:List (Str×Addr)),(∀p∈names,p.2=.free->∃c,cells.lookup p.1=Z c)-> (∀y d,a.lookup y=Z d->cells.lookup y=Z d)->(DR cells names a).lookup x=Z c->cells.lookup x=Z c
 |[],a=>λ_ g h=>g x c h|(n,k)::r,a=>λi g h=>by
  unfold DR at h;by_cases j:(k==Ix)=true
  .rw[if_pos j]at h;have o:k=.free:=GT j
   obtain⟨d,q⟩:=i (n,k) d9 o;refine Ey r _ (λp l=>i p<|cr _ l) (λy e f=>?_) h;rw[y6]at f;cases b:y==n with
   |true=>
    rw[b]at f;have:y=n:=GT b
    subst this;have m:aae y cells=Z d:=q;rw[m]at f⊢;exact f
   |false=>
    rw[b]at f;exact g y e f
  .rw[if_neg j]at h;exact Ey r a (λp l=>i p<|cr _ l) g h
theorem GA:∀(names:List (Str×NameKind))(a:List (Str×Addr)),((a.lookup x).isSome=true∨(x,Ix)∈names)->((DR cells names a).lookup x).isSome=true
 |[],a,h=>h.elim (λz=>z) λz=>nomatch z
 |(n,k)::r,a,h=>by
  unfold DR;by_cases b:(k==Ix)=true
  .rw[if_pos b];refine GA r _ ?_;rcases h with h|h
   .refine .inl ?_;rw[y6];cases x==n<;>simp[h]
   .rcases j4.mp h with e|e
    .refine .inl ?_;have:x=n:=congrArg aaC e;subst this;rw[y6];simp
    .exact .inr e
  .rw[if_neg b];refine GA r _ ?_;rcases h with h|h
   .exact .inl h
   .rcases j4.mp h with e|e
    .have:Ix=k:=congrArg abl e;subst this;exact absurd W b
    .exact .inr e
theorem Eg(h:∀p∈scope.names,p.2=.free->∃c,env.cells.lookup p.1=Z c):closureFor scope env=pure (DR env.cells scope.names []):=by
 have go:∀(names:List (Str×NameKind))(b:List (Str×Addr)),(∀p∈names,p.2=.free->∃c,env.cells.lookup p.1=Z c)-> (forIn names b (λ(x:Str×NameKind) r=>if(x.2==Ix)=true then do let a<-cellOf env x.1;pure (N8 ((x.1,a)::r))else pure (N8 r)):Sem (List<|Str×Addr))=pure (DR env.cells names b):=by
  intro names
  induction names with
  |nil=>intro b _;rfl|cons p r j=>
   intro b f;obtain⟨n,k⟩:=p;rw[W8];unfold DR;by_cases g:(k==Ix)=true
   .have l:k=.free:=GT g
    obtain⟨c,d⟩:=f (n,k) d9 l;have d:aae n env.cells=Z c:=d;have e:cellOf env n=pure c:=by unfold cellOf;rw[d]
    simp only[g,if_true,e,d,A5];exact j _ λp i=>f p<|cr _ i
   .simp only[g,if_false];exact j _ λp i=>f p<|cr _ i
 unfold closureFor;exact Eq.trans (congrArg (λt:Sem (List<|Str×Addr)=>t>>=λm=>pure m)<|go scope.names [] h) W
def PM(env:Env)(n:Str)(k:NameKind):NameKind:=if(k==.free&&env.scope.kind==.function&&env.kindOf n==Z .cell)=true then .cell else k
theorem HX{g:Str->NameKind->NameKind}(y:Str):∀names:List (Str×NameKind),(names.map λp=>(p.1,g p.1 p.2)).lookup y=(names.lookup y).map (g y)
 |[]=>rfl|(n,k)::r=>by
  rw[jp,y6,y6];cases e:y==n with
  |true=>
   have:y=n:=GT e
   subst this;rfl
  |false=>exact HX y r
theorem EB(scope:Scope)(env:Env)(y:Str):(aaL scope env).names.lookup y=(scope.names.lookup y).map (PM env y):=by
 have e:(aaL scope env).names=scope.names.map λp=>(p.1,PM env p.1 p.2):=by
  unfold aaL;refine A2 λp _=>?_;obtain⟨n,k⟩:=p;show(if(k==Ix&&env.scope.kind==.function&&env.kindOf n==Z .cell)=true then(n,Q4)else(n,k))=(n,if(k==Ix&&env.scope.kind==.function&&env.kindOf n==Z .cell)=true then Q4 else k);by_cases h:(k==Ix&&env.scope.kind==.function&&env.kindOf n==Z .cell)=true
  .rw[if_pos h,if_pos h]
  .rw[if_neg h,if_neg h]
 rw[e];exact HX y _
def Ce(σ:St)(fs:List Nat):St:=fs.map λi=>(σ[i]?).join
variable{σ:St}
theorem Um{fs:List Nat}{j:Nat}{v:V}(h:(Ce σ fs)[j]?=Z (Z v)):∃i,fs[j]?=Z i/\σ[i]?=Z (Z v):=by
 unfold Ce at h;rw[b6]at h;cases e:fs[j]? with
 |none=>rw[e]at h;cases h|some i=>
  rw[e]at h;refine⟨i,W,?_⟩;have a:(σ[i]?).join=Z v:=ze h;cases b:σ[i]? with
  |none=>rw[b]at a;cases a|some o=>
   rw[b]at a;have a:o=Z v:=a;rw[a]
noncomputable def kindB:Bool->NameKind
 |true=>.cell|false=>.local
noncomputable def dJ:Bool->Str->List (Str×NameKind)
 |true,x=>[(x,.cell)]|false,_=>[]
noncomputable def Ja:Bool->Str->Addr->List (Str×Addr)
 |true,x,C=>[(x,C+1)]|false,_,_=>[]
theorem Gg:∀(names:List (Str×NameKind))(n:Nat)(a:List (Str×Addr))(h:Heap),names.filter (λp=>p.2==.cell)=[]->P5 n names a=a/\Y1 h names=h
 |[],_,_,_,_=>⟨W,W⟩|(y,k)::r,n,a,h,e=>by
  rw[FS]at e;cases b:k==Q4 with
  |true=>rw[b]at e;simp at e|false=>
   rw[b]at e;unfold P5 Y1;rw[b];exact Gg r n a h<|by simpa using e
theorem MR:∀(names:List (Str×NameKind))(n:Nat)(a:List (Str×Addr))(h:Heap),names.filter (λp=>p.2==.cell)=[(x,.cell)]->P5 n names a=(x,n)::a/\Y1 h names=h.push {cls:=.type "cell",data:=.cell ν}
 |[],_,_,_,e=>by simp at e|(y,k)::r,n,a,h,e=>by
  rw[FS]at e;cases b:k==Q4 with
  |true=>
   rw[b]at e;simp only[if_true,E7,Prod.mk.injEq]at e;unfold P5 Y1;rw[b];simp only[if_true];obtain⟨c,d⟩:=Gg r (n+1) ((y,n)::a) (h.push {cls:=.type "cell",data:=.cell ν}) e.2;rw[c,d,e.1.1];exact⟨W,W⟩
  |false=>
   rw[b]at e;unfold P5 Y1;rw[b];exact MR r n a h<|by simpa using e
variable{E:ce->fx->Prop}
theorem Ka{M:Model}{globals:Addr}{cl:List (Str×Addr)}{outer:Env}{Q:Env->fx->Prop}(g:scope.names.filter (λp=>p.2==.cell)=dJ b x)(h:∀h':Heap,h'.Ns s.heap.objs.size (λ_=>ν)->(∀a o,s.heap.get? a=Z o->h'.get? a=Z o)->(b=true->h'.IsCell (s.heap.objs.size+1) ν)->
   Q {scope,locals:=s.heap.objs.size,globals,cells:=Ja b x s.heap.objs.size++cl,qual,func:=ν,code:=outer.code,frame:=outer.frame,builtins:=outer.builtins} {s with heap:=h'}):
  i9 M A (abv scope globals cl [] qual ν .none (Z outer)) Q E s:=by
 simp only[abv,R5,if_true];refine be<|adh ?_;refine be<|wpAny_layCells _ (λname kind cells=>by cases c:kind==Q4<;>simp[c]) _ _ _ _ ?_;rw[ad1];refine be<|b9<|b9 ?_;have sz:(s.heap.push {cls:=.type "dict",data:=.dict #[]}).objs.size=s.heap.objs.size+1:=P1 ..;cases b with
 |false=>
  obtain⟨d,f⟩:=Gg scope.names (s.heap.push {cls:=.type "dict",data:=.dict #[]}).objs.size cl (s.heap.push {cls:=.type "dict",data:=.dict #[]}) g;show Q {scope:=_,locals:=_,globals:=_,cells:=P5 (s.heap.push {cls:=.type "dict",data:=.dict #[]}).objs.size scope.names cl,qual:=_,func:=_,code:=_,frame:=_,builtins:=_} {s with heap:=Y1 (s.heap.push {cls:=.type "dict",data:=.dict #[]}) scope.names};rw[d,f];exact h _ (Heap.Ns.new s.heap<|.type "dict") (λa o e=>ca _ e) (λz=>nomatch z)
 |true=>
  obtain⟨d,f⟩:=MR scope.names (s.heap.push {cls:=.type "dict",data:=.dict #[]}).objs.size cl (s.heap.push {cls:=.type "dict",data:=.dict #[]}) g;show Q {scope:=_,locals:=_,globals:=_,cells:=P5 (s.heap.push {cls:=.type "dict",data:=.dict #[]}).objs.size scope.names cl,qual:=_,func:=_,code:=_,frame:=_,builtins:=_} {s with heap:=Y1 (s.heap.push {cls:=.type "dict",data:=.dict #[]}) scope.names};rw[d,f,sz];exact h _ ((Heap.Ns.new s.heap<|.type "dict").push _) (λa o e=>ca _<|ca _ e) λ_=>⟨_,by rw[<-sz];exact j8 _ W,W⟩
structure DE(X:Cx)(scope:Scope)(x:Str)(fv:List Str)(fs:List Nat)(b:Bool:=false):Prop where
 kind:scope.kind=.function
 pw:scope.names.filter (λp=>p.2==.cell)=dJ b x
 names:∀p∈scope.names,p.2=.local->scope.names.lookup p.1=Z .local
 tg:scope.names.lookup x=Z (kindB b)
 free:∀p∈scope.names,p.2=.free->X.env.scope.names.lookup p.1=Z .cell
 nd:(x::fv).Nodup
 tQ:∀(j:Nat) y,fv[j]?=Z y->∃i,fs[j]?=Z i/\X.N[i]?=Z y/\scope.names.lookup y=Z .free
 len:fv.length=fs.length
def TC(a:Scope)(N:List Str)(scope:Scope)(x:Str)(fv:List Str)(fs:List Nat)(b:Bool:=false):Bool:=
 scope.kind==.function&&scope.names.filter (λp=>p.2==.cell)==dJ b x&&(scope.names.all λp=>p.2 !=.local||scope.names.lookup p.1==Z .local)&&scope.names.lookup x==Z (kindB b)&&
 (scope.names.all λp=>p.2 !=.free||a.names.lookup p.1==Z .cell)&&decide (x::fv).Nodup&&fs.map (N[·]?)==fv.map Z&&(fv.all λy=>scope.names.lookup y==Z .free)
theorem DE.of(h:TC X.env.scope X.N scope x fv fs b=true):DE X scope x fv fs b:=by
 unfold TC at h;simp only[fy,re,J4,bne_iff_ne,beq_iff_eq,decide_eq_true_eq]at h;obtain⟨⟨⟨⟨⟨⟨⟨i,k⟩,m⟩,n⟩,o⟩,q⟩,g⟩,r⟩:=h;have hlen:fs.length=fv.length:=by
  have:=congrArg sw g;simpa using this
 refine⟨i,k,λp c d=>(m p c).resolve_left λz=>z d,n,λp c d=>(o p c).resolve_left λz=>z d,q,λj y e=>?_,hlen.symm⟩;have s:j<fv.length:=(zd e).1;have f:=congrArg (λl=>l[j]?) g;simp only[b6,e]at f;have a:j<fs.length:=by lia
 rw[zc a]at f;refine⟨fs[j],zc a,?_,r y<|zf e⟩;simpa using f
abbrev Ck(X:Cx)(ex:List (Str×Addr))(N':List Str)(scope:Scope)(C:Addr)(s0:fx)(H0:Hp)(fp:List Addr):Cx where
 prog:=X.prog
 w:=X.w
 K:=X.K
 mg:=X.mg
 base:=X.base
 A:=X.A
 N:=N'
 s₀:=s0
 H₀:=H0
 env:=compEnvC scope (ex++DR X.env.cells scope.names []) C X.env
 outer:=X.stack
 stack:=X.stack
 ex:=fp
 fn:=λy=>(ex.lookup y).isSome
 calm:=X.calm
 pn:=[]
 xe:=λ_ _=>False
abbrev PN(X:Cx)(a:List Str)(scope:Scope)(C:Addr)(b:fx)(c:Hp)(d:List Addr):Cx:=Ck X [] a scope C b c d
variable{pins:List (Addr×Obj)}{fv:List Str}
section
variable {H':Hp} {s':fx} {fs:List Nat} {fp:List Addr} {b:Bool}
theorem DE.cells(ok:DE X scope x fv fs b)(I:Inv X pins σ H s):∀p∈scope.names,p.2=.free->∃c,X.env.cells.lookup p.1=Z c:=λp a d=>I.ok.has p.1<|.inl<|ok.free p a d
theorem DE.look(ok:DE X scope x fv fs b)(I:Inv X pins σ H s)(h:(DR X.env.cells scope.names []).lookup y=Z c):X.env.cells.lookup y=Z c:=
 Ey scope.names [] (ok.cells I) (λ_ _ z=>by cases z) h
theorem Kb(h:(Ja b x C).lookup y=Z c):b=true/\y=x/\c=C+1:=by
 cases b with
 |false=>cases h|true=>
  have h:(aae y [(x,C+1)])=Z c:=h;rw[y6]at h;cases e:y==x with
  |true=>rw[e]at h;cases h;exact⟨W,eq_of_beq e,W⟩|false=>rw[e]at h;cases h
theorem RY(ok:DE X scope x fv fs b)(I:Inv X pins σ H s)(E:∀b∈fp,IX X pins H b)(A:∀b∈fp,∃o,s.heap.get? b=Z o){w:Heap}{m:Str->Option ce}{tk:Nat}(R:w.Ns s.heap.objs.size m)(kept:∀b o,s.heap.get? b=Z o->w.get? b=Z o)(B:b=true->w.IsCell (s.heap.objs.size+1) ν):Inv (Ck X (Ja b x s.heap.objs.size) (x::fv) scope s.heap.objs.size s H fp) [] (ν::Ce σ fs) H {s with heap:=w,toks:=tk}:=by
 have C:∀{y c},(Ja b x s.heap.objs.size++DR X.env.cells scope.names []).lookup y=Z c->X.env.cells.lookup y=Z c∨(b=true/\y=x/\c=s.heap.objs.size+1):=λ{y c} h=>by
  rw[R6]at h;cases e:(Ja b x s.heap.objs.size).lookup y with
  |some d=>rw[e]at h;cases h;exact .inr (Kb e)|none=>rw[e]at h;exact .inl (ok.look I (GT h))
 have lt:∀{y c},X.env.cells.lookup y=Z c->c<s.heap.objs.size:=λh=>by obtain⟨_,o,n,_⟩:=I.cell _ _ h;exact ii n
 have G:X.env.scope.kind=.function:=I.ok.kind;refine⟨⟨I.ok.mod,ok.kind,I.ok.glob,I.ok.blt,bv _,λy z c w S=>?_,λy f=>?_,λy c t h=>?_,I.ok.hd,I.ok.frames,.inl W,λb g=>⟨?_,λy c e z=>?_⟩,I.bs,
  am I.ok.bX I.sz,λb o e g=>?_,λb g J=>?_,I.stack,I.So⟩,W,I.bare,Un.kept kept,⟨m,R,λi y v F q e3=>?_⟩,λy c e=>?_,I.fresh,λy c e=>?_,λp T=>absurd (show p∈([]:List (Addr×Obj))from T) GE,I.BN.kept kept,?_⟩
 .rcases C w with a|⟨_,a1,a2⟩<;>rcases C S with d|⟨_,U,d2⟩
  .exact I.ok.inj y z c a d
  .have:=lt a;lia
  .have:=lt d;lia
  .rw[a1,U]
 .have f:(aaL scope X.env).names.lookup y=Z .cell∨(aaL scope X.env).names.lookup y=Z .free:=f;rw[EB]at f;cases e:scope.names.lookup y with
  |none=>rw[e]at f;rcases f with z|z<;>cases z
  |some k=>
   show∃c,(Ja b x s.heap.objs.size++DR X.env.cells scope.names []).lookup y=Z c;rw[R6];rw[e]at f;have f:PM X.env y k=.cell∨PM X.env y k=.free:=f.elim (λz=>.inl<|ze z) λz=>.inr<|ze z;by_cases K:k=.free
   .subst K;have:=GA (cells:=X.env.cells) scope.names []<|.inr<|B9 e;obtain⟨c,Y⟩:=M0.mp this;rw[Y];cases(Ja b x s.heap.objs.size).lookup y<;>exact⟨_,W⟩
   .have q:PM X.env y k=k:=by
     unfold PM;have:(k==Ix)=false:=GT K
     rw[this];rfl
    rw[q]at f;rcases f with z|z
    .subst z;have L:(y,Q4)∈scope.names.filter (λp=>p.2==.cell):=E5.mpr ⟨B9 e,W⟩;rw[ok.pw]at L;cases b with
     |false=>cases L|true=>
      have:y=x:=congrArg aaC<|io.mp L;subst this;exact⟨s.heap.objs.size+1,by show(aae y [(y,s.heap.objs.size+1)]).or _=_;rw[y6];simp⟩
    .exact absurd z K
 .have t:((Ja b x s.heap.objs.size).lookup y).isSome=true:=t;obtain⟨d,hd⟩:=M0.mp t;have h:(Ja b x s.heap.objs.size++DR X.env.cells scope.names []).lookup y=Z c:=h;rw[R6,hd]at h;cases h;obtain⟨_,_,rfl⟩:=Kb hd;exact V7 _
 .obtain⟨o,n⟩:=A b g;exact j7<|ii n
 .rcases C e with a|⟨_,_,a2⟩
  .exact(E b g).2.2.2.2.1 y c a z
  .obtain⟨o,n⟩:=A b g;have:=ii n;lia
 .rcases(E b g).2.2.2.1 with z|z
  .exact I.ok.V' b o e z
  .exact absurd (bn (ii e)<|am I.ok.bX z)<|E2 _
 .rcases j4.mp (I.RG b J)with z|z
  .exact(E b g).2.1 z
  .exact(E b g).2.2.1 z
 .cases i with
  |zero=>
   have q:(Z ν:Option (Option V))=Z (Z v):=q;cases q
  |succ j=>
   have F:fv[j]?=Z y:=F;have q:(Ce σ fs)[j]?=Z (Z v):=q;obtain⟨i,ζ,ξ⟩:=Um q;obtain⟨i',Q,g4,M⟩:=ok.tQ j y F;rw[ζ]at Q;cases Q;have N:X.env.scope.names.lookup y=Z .cell:=ok.free (y,.free) (B9 M) W;obtain⟨m0,_,O⟩:=I.loc;obtain⟨u,r,l⟩:=O i y v g4 ξ<|.inr<|.inl N;refine⟨u,r,?_⟩;rcases l with⟨k,_⟩|⟨_,c,e,o,n,hd⟩
   .have k:X.env.scope.names.lookup y=Z .local:=k;rw[N]at k;cases k
   .obtain⟨c',D⟩:=M0.mp<|GA (cells:=X.env.cells) scope.names []<|.inr<|B9 M;have:=ok.look I D;rw[e]at this;cases this;have ny:(Ja b x s.heap.objs.size).lookup y=none:=by
     cases ey:(Ja b x s.heap.objs.size).lookup y with
     |none=>rfl|some d=>
      obtain⟨_,z,_⟩:=Kb ey;exact absurd (show x∈fv from z▸zf (l:=fv) (show fv[j]?=Z y from F)) (u4.mp ok.nd).1
    refine .inr ⟨.inl ?_,c,by show(Ja b x s.heap.objs.size++DR X.env.cells scope.names []).lookup y=Z c;rw[R6,ny];exact D,o,kept _ _ n,hd⟩;show(aaL scope X.env).names.lookup y=Z .cell;rw[EB,M];show Z (PM X.env y .free)=_;have P:X.env.kindOf y=Z .cell:=N;unfold PM;rw[G,P];rfl
 .rcases C e with a|⟨g,_,rfl⟩
  .obtain⟨v,o,n,hd⟩:=I.cell y c a;exact⟨v,o,kept _ _ n,hd⟩
  .exact⟨ν,B g⟩
 .rcases C e with a|⟨_,_,rfl⟩
  .exact I.EL y c a
  .exact I.BN.fresh<|V7 _
 .show(ν::Ce σ fs).length=(x::fv).length;simp[Ce,ok.len]
theorem RZ(I:Inv X pins σ H s)(a:∀b∈fp,IX X pins H b)(c:Inv (Ck X ex g scope C s H fp) [] e H' s'):Inv X pins σ H' s':=
 I.gZ (ch:=fp) c.os c.base c.BN c.bare λb d=>⟨(a b d).2.2.2.1,(a b d).2.1,(a b d).2.2.2.2.1,(a b d).2.2.2.2.2⟩
theorem Inv.off(I:Inv X pins σ H s)(f:IX X pins H C)(hs:C8 C s.heap h'):Inv X pins σ H {s with heap:=h'}:=
 I.turned (t':=s.toks) (λb o a e=>hs.extBut b o a e) f.1 (λz=>f.2.1 z) f.2.2.2.1 f.2.2.2.2.1 f.2.2.2.2.2
end
def dO(X:Cx)(a:List C5)(t:TT):Prop:=
 ∀(pins:List (Addr×Obj))(s:fx)(b:St)(H:Hp)(Q:Bool->Hp->Prop),Inv X pins b H s->t b H Q->
  i9 (m7 X.prog X.w) X.A (forIn a true λc r=>if r=true then do let ok<-adF c X.env (GM c X.env);pure (N8 ok)else pure (N8 r)) (TP X pins b Q) X.xe s
def Jb:TT:=λ_ H Q=>Q true H
theorem HY:dO X [] Jb:=λ_ _ _ H _ I h=>wpAny_tests_nil ⟨H,I,h⟩
theorem GB(h:PT X c t):dO X [c] t:=λpins s a H Q I q=>wpAny_tests_one<|h pins s a H Q I q
def EC(J:It)(g:TT)(h:TE)(fs:List Nat)(σ:St)(H:Hp)(Q:VK):Prop:=∀D,H D=ν->∃ξ:Nat->Nat->Hp->Prop,(∃m,ξ 0 m (upd H D (.lst [])))/\∀i m a,ξ i m a-> (J.stop i a/\Q (.ref D) a)∨(J.go i a/\∀v d,J.Vw i a v d->g (Z v::Ce σ fs) d λok e=>
  if ok=true then h (Z v::Ce σ fs) e λy f=>∃c,f D=Z (.lst c)/\c.length<sizeLine/\∃b,b<m/\ξ (i+1) b (upd f D (.lst (c++[y])))else∃b,b<m/\ξ (i+1) b e)
def Kc(b:TI)(c:TT)(d:TE)(fs:List Nat):TE:=λa H Q=>b a H λJ e=>EC J c d fs a e Q
variable{Q:VK}{J:It}
section
variable {elt iter:C5} {px:Pos} {ifs:List C5} {fs:List Nat} {wi:TI} {te:TE} {tc:TT}
theorem PQ(hc:X.calm=true)(ok:DE X scope x fv fs b)(tR:∀C s0 H0 f,dO (Ck X (Ja b x C) (x::fv) scope C s0 H0 f) ifs tc)(he:∀C s0 H0 f,PE (Ck X (Ja b x C) (x::fv) scope C s0 H0 f) elt te){it:Addr}{f:List Addr}{G:Nat->Heap->Prop}(I:Inv X pins σ H s)(T:Turn X.prog X.w X.K (.Name x px) J f it G)(st:G 0 s.heap)(hf:∀b∈f,IX X pins H b)(rd:EC J tc te fs σ H Q){RR:ce->Addr->acU->fx->Prop}(tS:∀D C z g,Inv X pins σ g z->IX X pins g C->(∃m,z.heap.Ns C m)->Q (.ref D) g->RR (.ref D) C (.ok .next) z):
  i9 (m7 X.prog X.w) X.A (newList []) (λL c=>i9 (m7 X.prog X.w) X.A (abv scope X.env.globals (DR X.env.cells scope.names []) [] X.env.qual ν .none (Z X.env)) (λj s4=>
   KM (m7 X.prog X.w) X.A (.compStart (.ListComp elt [⟨.Name x px,iter,ifs,0⟩] scope pos) 0 (.ref it) L {j with scope:=aaL scope X.env}) (RR L j.locals) s4) E c) E s:=by
 obtain⟨ξ,⟨m0,w0⟩,turn⟩:=rd s.heap.objs.size I.fresh;have ζ:Inv X pins σ (upd H s.heap.objs.size<|.lst []) {s with heap:=s.heap.push {cls:=.type "list",dict:=ν,data:=.seq ([]:List ce).toArray}}:=I.ZP (its:=[]) (ys:=[]) (t':=s.toks) .nil<|j5 _;refine O3 ?_;show i9 _ _ _ _ _ ({s with heap:=s.heap.push {cls:=.type "list",dict:=ν,data:=.seq ([]:List ce).toArray}}:fx);generalize tW:({s with heap:=s.heap.push {cls:=.type "list",dict:=ν,data:=.seq ([]:List ce).toArray}}:fx)=c at ζ⊢;refine Ka ok.pw λh1 tX kept M=>?_;have eh:c.heap=s.heap.push {cls:=.type "list",dict:=ν,data:=.seq ([]:List ce).toArray}:=by rw[<-tW]
 have N:∀b o,s.heap.get? b=Z o->c.heap.get? b=Z o:=λb o e=>by rw[eh];exact ca _ e
 have tY:∀b∈f,∃o,c.heap.get? b=Z o:=λb d=>let⟨o,ho,_⟩:=T.obj 0 _ st b d;⟨o,N b o ho⟩;have tZ:∀b∈f,b≠s.heap.objs.size:=λb d=>let⟨o,ho,_⟩:=T.obj 0 _ st b d;j7<|ii ho;have k:∀b∈f,IX X pins (upd H s.heap.objs.size<|.lst []) b:=λb d=>⟨by rw[AH<|tZ b d];exact(hf b d).1,(hf b d).2⟩;have I4:=RY (tk:=c.toks) ok ζ k tY tX kept M;have O:G 0 h1:=T.keep 0 _ _ st λb d o e=>kept b o<|N b o e;have h:∀{g:Hp},(∀b∈f,g b=ν)->∀a∈f,IX (Ck X (Ja b x c.heap.objs.size) (x::fv) scope c.heap.objs.size c (upd H s.heap.objs.size<|.lst []) f) [] g a:=λhn b d=>
  ⟨hn b d,(I4.ok.jv b d).1,I4.ok.WA b d,.inl d,(I4.ok.jv b d).2,λp hp=>absurd hp GE⟩
 have hg:PG (Ck X (Ja b x c.heap.objs.size) (x::fv) scope c.heap.objs.size c (upd H s.heap.objs.size<|.lst []) f) (.Name x px) (BY 0):=by
  have tg:=ok.tg;cases b with
  |false=>exact NH ok.nd W (.inl (abE tg)) (.inr (abE tg))|true=>exact NH ok.nd W (.inr (show(aaL scope X.env).names.lookup x=_ from by rw[EB,tg];rfl)) (.inl (show(aae x [(x,c.heap.objs.size+1)]).isSome=true from by rw[y6];simp))
 have loop:KM (m7 X.prog X.w) X.A (.compLoop (.ListComp elt [⟨.Name x px,iter,ifs,0⟩] scope pos) 0 (.ref it) (.ref s.heap.objs.size)<|compEnvC scope (Ja b x c.heap.objs.size++DR X.env.cells scope.names []) c.heap.objs.size X.env) (RR (.ref s.heap.objs.size) c.heap.objs.size)
   {c with heap:=h1}:=by
  refine RX (λn z=>∃i o g,Inv (Ck X (Ja b x c.heap.objs.size) (x::fv) scope c.heap.objs.size c (upd H s.heap.objs.size<|.lst []) f) [] (o::Ce σ fs) g z/\G i z.heap/\(∀b∈f,g b=ν)/\ξ i n g) ?_ m0
   ⟨0,ν,_,I4,O,λb d=>(k b d).1,w0⟩
  rintro n s5 ⟨i,o,H5,I5,P,R,w5⟩;rcases turn i n H5 w5 with⟨stop,q⟩|⟨go,step⟩
  .refine BF (T.done (Ck X (Ja b x c.heap.objs.size) (x::fv) scope c.heap.objs.size c (upd H s.heap.objs.size<|.lst []) f) W W W hc i [] s5 _ H5 _ I5 (h R) P stop) λr s6 ⟨hr,I6⟩=>?_;subst hr;obtain⟨m,hm,_⟩:=I6.loc;exact tS _ _ s6 H5 (RZ ζ k I6) (ζ.UT (bv _) I6.free) ⟨m,hm⟩ q
  .refine BF (T.item (Ck X (Ja b x c.heap.objs.size) (x::fv) scope c.heap.objs.size c (upd H s.heap.objs.size<|.lst []) f) W W W hc i [] s5 _ H5 _ I5 (h R) P go) λr s6 ⟨u,hr,h6⟩=>?_;subst hr;refine BF h6 λ_ s7 ⟨v,H7,I7,r7,y7,l,tj⟩=>?_;have tm:=I7.pinned (h tj)<|T.obj _ _ l;have back:∀{S:St}{B:Hp}{U:fx},Inv (Ck X (Ja b x c.heap.objs.size) (x::fv) scope c.heap.objs.size c (upd H s.heap.objs.size<|.lst []) f) ([]++KO f s7.heap) S B U->G (i+1) U.heap/\∀b∈f,B b=none:=λ{S B U} F=>
    ⟨T.keep _ _ _ l λb d o e=>(F.pin (b,o) (Es d e)).1,λb d=>by
     obtain⟨o,e,_⟩:=T.obj _ _ l b d;exact(F.pin (b,o) (Es d e)).2.1⟩
   refine BF (hg _ s7 _ H7 v u (fun σ2 H2=>σ2=Z v::Ce σ fs/\H2=H7) tm r7 ⟨W,W⟩) λ_ s8 ⟨σ8,H8,I8,e8,tu⟩=>?_;subst e8 tu;refine BF (tR _ _ _ _ _ s8 _ H8 _ I8<|step v H8 y7) λok U ⟨B,F,q9⟩=>?_;cases ok with
   |false=>
    obtain⟨m',t,w9⟩:=q9;obtain⟨b1,b2⟩:=back F;exact⟨m',t,i+1,Z v,B,F.FQ,b1,b2,w9⟩
   |true=>
    refine BF (he _ _ _ _ _ U _ B _ F q9) λy s10 ⟨yv,V,t_,r10,ys,hD,hz,m',t,w10⟩=>?_;refine BF (MM _ s10 _ V (.ref s.heap.objs.size) [yv] (.ref s.heap.objs.size) [y] (λ_ g=>g=upd V s.heap.objs.size (.lst<|ys++[yv])) t_ W (.cons r10 .nil) ⟨_,ys,yv,W,W,hD,hz,W⟩) λ_ s11 ⟨_,yZ,Y,_,e11⟩=>?_;subst e11;obtain⟨b1,b2⟩:=back Y;exact⟨m',t,i+1,Z v,_,Y.FQ,b1,b2,w10⟩
 exact codeAny_compStart_list loop<|T.self _ 0 _ _ _ O loop
theorem Wg(b:Bool)(i:X.calm=true)(ok:DE X scope x fv fs b)(j:PI X (.Name x px) iter wi)(c:∀C d e a,dO (Ck X (Ja b x C) (x::fv) scope C d e a) ifs tc)(k:∀C d e a,PE (Ck X (Ja b x C) (x::fv) scope C d e a) elt te)(hs:∀x,J0 iter X.env x=pure x:=by intro _;rfl):PE X (.ListComp elt [⟨.Name x px,iter,ifs,0⟩] scope pos) (Kc wi tc te fs):=by
 intro pins s l H Q I h;rw[eval_ListComp];refine aas (use:=ν) W hs (Eg<|ok.cells I) ok.kind ok.names (BF (j pins s l H _ I h) λA B n=>BF n λo E p=>?_);obtain⟨F,a,G,J,K,rfl,r,T,f,t,u⟩:=p;exact PQ i ok c k r T f t u λD C L v w y ⟨m,z⟩ q=>⟨m,z,λM g=>⟨.ref D,v,w.off y g,W,q⟩⟩
theorem HZ(e:X.calm=true)(ok:DE X scope x fv fs)(f:PI X (.Name x px) iter wi)(a:∀C b c d,dO (PN X (x::fv) scope C b c d) ifs tc)(g:∀C b c d,PE (PN X (x::fv) scope C b c d) elt te)(hs:∀x,J0 iter X.env x=pure x:=by intro _;rfl):PE X (.ListComp elt [⟨.Name x px,iter,ifs,0⟩] scope pos) (Kc wi tc te fs):=Wg false e ok f a g hs
theorem PR(b:Bool){d c:Pos}(L:X.calm=true)(ok:DE X scope x fv fs b)(M:X.N.Nodup)(l:X.N[i]?=Z y)(O:Loc X.env.scope y)(P:PI X (.Name x px) iter wi)(n:∀C o p j,dO (Ck X (Ja b x C) (x::fv) scope C o p j) ifs tc)(R:∀C o p j,PE (Ck X (Ja b x C) (x::fv) scope C o p j) elt te)(r:aaE (.ListComp elt [⟨.Name x px,iter,ifs,0⟩] scope pos) (Z (.Name y d)) c.line X.env=pure true:=by rfl)(t:X.fn y=true∨X.env.scope.names.lookup y=Z .local:=by first|exact .inl rfl|exact .inr rfl|assumption)(S:∀x,J0 iter X.env x=pure x:=by intro _;rfl):PS X (.Assign [.Name y d] (.ListComp elt [⟨.Name x px,iter,ifs,0⟩] scope pos) c) (λD f H=>Kc wi tc te fs f H λv g=>D.nx (f.set i (Z v)) g):=by
 intro pins s f H D I h;rw[exec_Assign_Name_used _ _ _ _ r];refine be<|ab1<|be ?_;show i9 _ X.A (comprehension (.ListComp elt [⟨.Name x px,iter,ifs,0⟩] scope pos) scope X.env _ (newList []) false (GM iter X.env) (Z<|acd (.Name y d) X.env)>>=λ_=>pure ()) _ _ s;refine be (BF (aas (use:=Z<|acd (.Name y d) X.env) (Q:=λ_ k=>SP X pins D .next k) W S (Eg<|ok.cells I) ok.kind ok.names<|BF (P pins s f H _ I h) λxv s1 U=>BF U λV s2 Y=>?_) λ_ k ζ=>b9<|b9 ζ);obtain⟨it,j,tn,J,H2,rfl,ξ,T,u,f2,rd⟩:=Y;refine PQ (Q:=λv g=>D.nx (f.set i<|some v) g) L ok n R ξ T u f2 rd λK C k g I' w ⟨m,hm⟩ q=>?_;show i9 _ X.A (acd (.Name y d) X.env<|.ref K) _ _ k;refine acH<|MC I' M l O (v:=.ref K) W (λkB B ⟨a,E,ha⟩=>?_) t;have F:C≠a:=by
  rcases ha with z|z
  .rw[z];exact w.2.1
  .exact λe=>w.2.2.2.2.1 y a z e.symm
 exact⟨m,hm.sameBut E F,λh' G=>⟨_,g,B.off w G,q⟩⟩
theorem DF{j a:Pos}(l:X.calm=true)(ok:DE X scope x fv fs)(m:X.N.Nodup)(b:X.N[i]?=Z y)(n:Loc X.env.scope y)(o:PI X (.Name x px) iter wi)(c:∀C d e f,dO (PN X (x::fv) scope C d e f) ifs tc)(p:∀C d e f,PE (PN X (x::fv) scope C d e f) elt te)(g:aaE (.ListComp elt [⟨.Name x px,iter,ifs,0⟩] scope pos) (Z (.Name y j)) a.line X.env=pure true:=by rfl)(h:X.fn y=true∨X.env.scope.names.lookup y=Z .local:=by first|exact .inl rfl|exact .inr rfl|assumption)(q:∀x,J0 iter X.env x=pure x:=by intro _;rfl):PS X (.Assign [.Name y j] (.ListComp elt [⟨.Name x px,iter,ifs,0⟩] scope pos) a) (λD k H=>Kc wi tc te fs k H λv r=>D.nx (k.set i (Z v)) r):=PR false l ok m b n o c p g h q
end
theorem DG{k:TT}{f:TE}{fs:List Nat}(item g:Nat->V)(p:Nat->Bool)(z:n<=sizeLine)(h:∀i D ys,i<n->H D=ν->J.go i (upd H D (.lst ys)))(r:∀i D ys v l,i<n->H D=ν->J.Vw i (upd H D (.lst ys)) v l->v=item i/\l=upd H D (.lst ys))(j:∀D ys,H D=ν->J.stop n (upd H D (.lst ys)))(s:∀i D ys (R:Bool->Hp->Prop),i<n->H D=ν->R (p i) (upd H D (.lst ys))->k (Z (item i)::Ce σ fs) (upd H D (.lst ys)) R)(t:∀i D ys (R:VK),i<n->H D=ν->p i=true->R (g i) (upd H D (.lst ys))->f (Z (item i)::Ce σ fs) (upd H D (.lst ys)) R)(u:∀D,H D=ν->Q (.ref D) (upd H D (.lst (((j9 n).filter p).map g)))):
  EC J k f fs σ H Q:=by
 intro D c;refine⟨λi m o=>m=n-i/\i<=n/\o=upd H D (.lst<|((j9 i).filter p).map g),⟨n,GE⟩,?_⟩;rintro i m o ⟨rfl,A,rfl⟩;by_cases a:i<n
 .refine .inr ⟨h i D _ a c,λv w x=>?_⟩;obtain⟨rfl,rfl⟩:=r i D _ v w a c x;refine s i D _ _ a c ?_;have q:∀b,p i=b->((j9<|i+1).filter p).map g=((j9 i).filter p).map g++(if b=true then[g i]else[]):=λb d=>by
   rw[W7,R7,sU];cases b with
   |true=>simp[d]|false=>simp[d]
  cases d:p i with
  |false=>
   show∃y,y<n-i/\_;refine⟨n-(i+1),z_,W,a,?_⟩;rw[q false d];simp
  |true=>
   show f _ _ _;refine t i D _ _ a c d ⟨_,AD,?_,n-(i+1),z_,W,a,?_⟩
   .rw[bi];have:=C4 p<|j9 i;rw[wS]at this;lia
   .rw[Yy,q true d];simp
 .have e:i=n:=by lia
  subst e;exact .inl ⟨j D _ c,u D c⟩
theorem AF.put(s:AF H c)(h:H D=ν):AF H (upd c D o):=λb u e=>by
 rw[AH<|Al e h];exact s b u e
theorem AF.new(h:H D=ν):AF H (upd H D o):=(AF.refl H).put h
theorem BH{a:Type _}(l:List a)(i:Nat)(h:i<l.length):∃x,l[i]?=Z x:=⟨_,zc h⟩
theorem Cd{a:Type _}{l:List a}{i:Nat}{x:a}(h:l[i]?=Z x):i<l.length:=(zd h).1
theorem EK{b:Addr}{r c:Option HO}(h:H a=r)(h':H b=c)(n:r≠c:=by first|exact Option.some_ne_none _|nofun):a≠b:=λz=>n<|by rw[<-h,<-h',z]
theorem OZ.mk{o:HO}(k:∀p a,H p=ν->AF H a->a p=Z o->Q (.ref p) a):OZ H o Q:=λp b=>k p _ b (AF.new b) AD
theorem MS{s:TT}{k:TE}{fs:List Nat}(item g:Nat->V)(p:Nat->Bool)(E:n<=sizeLine)(l:∀i a,i<n->AF H a->J.go i a)(x:∀i a v t,i<n->AF H a->J.Vw i a v t->v=item i/\t=a)(o:∀a,AF H a->J.stop n a)(y:∀i a (R:Bool->Hp->Prop),i<n->AF H a->(∀f,AF a f->R (p i) f)->s (Z (item i)::Ce σ fs) a R)(z:∀i a (R:VK),i<n->AF H a->p i=true->(∀f,AF a f->R (g i) f)->k (Z (item i)::Ce σ fs) a R)(A:∀D a,H D=ν->AF H a->a D=Z (.lst (((j9 n).filter p).map g))->Q (.ref D) a):
  EC J s k fs σ H Q:=by
 intro D q;refine⟨λi m a=>m=n-i/\i<=n/\AF H a/\a D=Z (.lst<|((j9 i).filter p).map g),⟨n,GE,j5 _,AF.new q,AD⟩,?_⟩;rintro i m a ⟨rfl,F,d,r⟩;by_cases c:i<n
 .refine .inr ⟨l i a c d,λv f B=>?_⟩;obtain⟨rfl,rfl⟩:=x i a v f c d B;have u:∀b,p i=b->((j9<|i+1).filter p).map g=((j9 i).filter p).map g++(if b=true then[g i]else[]):=λb h=>by
   rw[W7,R7,sU];cases b with
   |true=>simp[h]|false=>simp[h]
  refine y i _ _ c d λG j=>?_;cases h:p i with
  |false=>
   show∃C,C<n-i/\_;refine⟨n-(i+1),z_,W,c,d.trans j,?_⟩;rw[u false h,j _ _ r];simp
  |true=>
   show k _ _ _;refine z i _ _ c (d.trans j) h λI w=>⟨_,w _ _<|j _ _ r,?_,n-(i+1),z_,W,c,((d.trans j).trans w).put q,?_⟩
   .rw[bi];have:=C4 p<|j9 i;rw[wS]at this;lia
   .rw[AD,u true h];simp
 .have e:i=n:=by lia
  subst e;exact .inl ⟨o a d,A D a q d r⟩
theorem CO{g:TE}{fs:List Nat}(item:Nat->V)(Ok:Nat->V->Prop)(E:n<=sizeLine)(h:∀i a,i<n->AF H a->J.go i a)(w:∀i a v p,i<n->AF H a->J.Vw i a v p->v=item i/\p=a)(k:∀a,AF H a->J.stop n a)(x:∀i a (R:VK),i<n->AF H a->(∀y f,AF a f->Ok i y->R y f)->g (Z (item i)::Ce σ fs) a R)(A:∀D a ys,H D=ν->AF H a->a D=Z (.lst ys)->ys.length=n->(∀(i:Nat) y,ys[i]?=Z y->Ok i y)->Q (.ref D) a):
  EC J Jb g fs σ H Q:=by
 intro D l;refine⟨λi m a=>m=n-i/\i<=n/\AF H a/\∃ys,a D=Z (.lst ys)/\ys.length=i/\∀(j:Nat) y,ys[j]?=Z y->Ok j y,⟨n,GE,j5 _,AF.new l,[],AD,W,λj y z=>by simp at z⟩,?_⟩;rintro i m a ⟨rfl,F,d,ys,r,s,t⟩;by_cases b:i<n
 .refine .inr ⟨h i a b d,λv f B=>?_⟩;obtain⟨rfl,rfl⟩:=w i a v f b d B;show g _ _ _;refine x i _ _ b d λy G u o=>⟨ys,u _ _ r,z_,n-(i+1),z_,W,b,(d.trans u).put l,ys++[y],AD,by simp[s],λj z c=>?_⟩;by_cases C:j<ys.length
  .rw[q8 C]at c;exact t j z c
  .rw[w8 z_]at c;have e:j-ys.length=0:=by
    cases q:j-ys.length with
    |zero=>rfl|succ I=>rw[q]at c;simp at c
   rw[e]at c;have:y=z:=GT c
   subst this;have:j=i:=by lia
   subst this;exact o
 .have e:i=n:=by lia
  subst e;exact .inl ⟨k a d,A D a ys l d r s t⟩
open Builtin Builtin.Str
section
inductive iK(x:V)(lo a:Option Int)(H:Hp)(Q:VK):Prop|mk(z:_)(b:x=.str z)(c:z.length<=sizeLine)(d:Q (.str (U0 z lo a)) H)
def mS:V->Option Int->Option Int->Hp->VK->Prop:=λx lo a H Q=>iK x lo a H Q
theorem NU:mJ X mS:=by
 intro pins s g H x v o p lo m r Q I n a pl e h;obtain⟨z,rfl,b,q⟩:=h;obtain⟨t,rfl⟩:=n;refine⟨"str",_,F.slot_str_getitem.lookup,PP _ _ _,?_⟩;have fin:∀c k,EP X pins g Q (.str (U0 z lo m) c) {s with toks:=k}:=λc k=>⟨.str _,H,I.tok k,⟨c,W⟩,q⟩;cases pl with
 |none=>
  cases e with
  |none=>exact NE (l:=ν) (u:=ν) (st:=ν) a W (W4 ⟨am (P6 z _ _) b,fin⟩)|int j d=>exact NE (l:=ν) (u:=Z (j,d)) (st:=ν) a W (W4 ⟨am (P6 z _ _) b,fin⟩)
 |int i f=>
  cases e with
  |none=>exact NE (l:=Z (i,f)) (u:=ν) (st:=ν) a W (W4 ⟨am (P6 z _ _) b,fin⟩)|int j d=>exact NE (l:=Z (i,f)) (u:=Z (j,d)) (st:=ν) a W (W4 ⟨am (P6 z _ _) b,fin⟩)
end
section
variable {tg:C5}
inductive PU(K:zg)(xs:List V)(H:Hp)(Q:VK):Prop|mk(p:Addr)(bs:List Bool)(a:xs=[.ref p])(b:Ab K H p (bs.map V.bl))(c:Q (.bl (bs.all id)) H)
def Ke(K:zg):List V->Hp->VK->Prop:=λa H Q=>PU K a H Q
theorem Eh(x:X.calm=true):Ba X (.builtin "all") (Ke X.K):=by
 intro pins s L H M N Q I r h;obtain⟨p,bs,rfl,y,q⟩:=h;obtain⟨u,rfl,l⟩:=vals1 r;cases l;obtain⟨d,m,pl,O⟩:=I.list y;obtain⟨B,f,g⟩:=id pl.isList;have n:p<s.heap.objs.size:=ii f;have t:X.A.in1.handled=none:=I.ok.hd x;have hlen:d.toArray.size=bs.length:=by rw[d7,<-m.length,bi]
 refine call_all_walk<|O2 pl.isList ⟨s.heap.objs.size,_,_,_,_,_,λi=>bs.getD i true,W,Walks.list t s.heap.objs.size p (j7 n) d.toArray,⟨⟨_,j8 _ W,W,W⟩,⟨B,ca _ f,g⟩⟩,?_,λP C kept=>?_⟩
 .intro i v D E R j k;have j:d[i]?=Z v:=GT j
  have c:i<bs.length:=by
   have:=Cd j;rw[<-m.length,bi]at this;exact this
  have e:(bs.map V.bl)[i]?=Z (V.bl bs[i]):=by rw[b6,zc c];rfl
  obtain⟨u,w,l⟩:=m.get e;rw[j]at w;cases w;cases l;have F:bs.getD i true=bs[i]:=by rw[b7,zc c];rfl
  have k:E (bs.getD i true) D:=k;rw[F]at k;exact C9 k
 .refine⟨.bl<|bs.all id,H,I.kept (t':=C) λb o e=>kept b o (λz=>?_)<|ca _ e,?_,q⟩
  .have G:b=s.heap.objs.size:=GT z
   exact j7 (ii e) G
  .show B1 _=B1 _;congr 1;rw[hlen,ul,re,re];constructor
   .intro a b J;obtain⟨i,c,rfl⟩:=abI.mp J;have:=a i<|zw.mpr c;rw[b7,zc c]at this;exact this
   .intro a i c;have c:=zw.mp c;rw[b7,zc c];exact a _<|G7 c
end
section
end
end L2
namespace HT
open PySem PyProof.Rows
section
variable{prog:wv} {w:y8} {A:G1} {E:ce->fx->Prop} {s:fx}
end
end HT
namespace L2
open PySem PySem.Spec PyProof.Rows
variable{X:Cx}
section
end
inductive Ra(H:Hp):V->String->Prop where
 |AZ:Ra H .AZ "NoneType"
 |bl (b:Bool):Ra H (.bl b) "bool"
 |int (i:Int):Ra H (.int i) "int"
 |str (x:Str):Ra H (.str x) "str"
 |lst {a:Addr} {xs:List V} (e:Rd H a (.lst xs)):Ra H (.ref a) "list"
 |tup {a:Addr} {xs:List V} (e:H a=Z (.tup xs)):Ra H (.ref a) "tuple"
 |dK {a:Addr} {kvs:List (Key×V)} (e:Rd H a (.dK kvs)):Ra H (.ref a) "dict"
theorem Rd.up(h:Rd H a u)(s:∀o,H a=Z o->b a=Z o):Rd b a u:=by
 rcases h with h|⟨o,h⟩
 .exact .inl<|s _ h
 .exact .inr ⟨o,s _ h⟩
def Uo(T c:String):Bool:=T==c||(T=="bool"&&c=="int")
def ZW(c:String):Bool:=["int","bool","str","list","tuple","dict"].contains c
variable{K:zg}{H:Hp}
theorem TF{v:V}{T c:String}(h:Ra H v T)(a:ZW c=true):abz K (.type T) (.type c)=Z (Uo T c):=by
 have a:c="int"∨c="bool"∨c="str"∨c="list"∨c="tuple"∨c="dict":=by
  unfold ZW at a;simpa using a
 cases h<;>rcases a with rfl|rfl|rfl|rfl|rfl|rfl<;>kernel_rfl
variable{E Q:ce->fx->Prop}{A:G1}
section
inductive iL(xs:List V)(H:Hp)(Q:VK):Prop|mk(x c T:_)(a:xs=[x,.ty c])(b:ZW c=true)(d:Ra H x T)(e:Q (.bl (Uo T c)) H)
def mT:List V->Hp->VK->Prop:=λa H Q=>iL a H Q
theorem PV(I:Inv X pins σ H s)(d:RelV x u)(ty:Ra H x T)(e:abz X.K (.type T) (.type c)=Z b)(h:∀tk,Q (.bool b) {s with toks:=tk}):
  i9 (m7 X.prog X.w) A (call (.builtin "isinstance") [u,.type c]) Q E s:=by
 cases ty with
 |AZ=>exact Ec I d .AZ e h|bl y=>exact Ec I d (.bl y) e h|int i=>exact Ec I d (.int i) e h|str y=>exact Ec I d (.str y) e h|tup f=>exact Ec I d (.tup f) e h|@lst a k f=>
  cases(show u=n0 a from d);obtain⟨_,_,n,_,g⟩:=(show Av X.prog X.w H s.heap a (.lst k)from f.ok I.BN);exact zv T5 I.G' ⟨_,g,W⟩ e (λz=>nomatch z) h
 |@dK a j f=>
  cases(show u=n0 a from d);obtain⟨_,_,m,_,p⟩:=(show Av X.prog X.w H s.heap a (.dK j)from f.ok I.BN);obtain⟨o,q,r,g,l,_⟩:=p;exact zv T6 I.G' ⟨o,g,l.1⟩ e (λz=>nomatch z) h
theorem CK:Ba X (.builtin "isinstance") mT:=by
 intro pins s f H g i Q I r h;obtain⟨x,c,T,rfl,b,ty,q⟩:=h;obtain⟨u,j,rfl,d,a⟩:=vals2 r;cases a;exact PV I d ty (TF ty b) λe=>⟨.bl _,H,I.tok e,W,q⟩
end
open Builtin Builtin.Str
abbrev sgn(x:Str):List Nat:=x.cps.toList
def dP:List Nat:=sgn "abcdefghijklmnopqrstuvwxyz"
def pz(c:Nat):Bool:=decide<|c∈dP
theorem Ez(x y:Str):sgn (x++y)=sgn x++sgn y:=by
 show(x.cps++y.cps).toList=_;exact Array.toList_append
def iM(l:List Nat):Bool:=decide (1<=l.length)&&decide (l.length<=8)&&l.all pz
def p_(x:Str):Bool:=iM<|sgn x
namespace Dc
end Dc
variable{pins:List (Addr×Obj)}{P:wv}{w:y8}{s:fx}
section
inductive Up(K:zg)(x y:V)(H:Hp)(Q:VK):Prop|mk(a b:Addr)(xs:List V)(c:x=.ref a)(d:y=.ref b)(e:Ab K H a xs)(f:Ab K H b [])(g:Q (.bl xs.isEmpty) H)
def Wh(K:zg):V->V->Hp->VK->Prop:=λx y H Q=>Up K x y H Q
theorem Wi(c:X.A.units<cLine):DA X (AC .Eq) (Wh X.K):=by
 intro pins s w H x y v u Q I k l h;obtain⟨a,b,m,rfl,rfl,n,o,q⟩:=h;cases k;cases l;obtain⟨p,d,f,_⟩:=I.list n;obtain⟨g,r,i,_⟩:=I.list o;cases r;have l1:=d.length;cases m with
 |nil=>
  cases d;exact adn (e:=λ_=>true) f.isList i.isList W c (λj t _=>absurd t GE) ⟨.bl true,H,I,W,q⟩
 |cons z B=>
  refine aaH f.isList i.isList ?_ c ⟨.bl false,H,I,W,q⟩;rw[d7,<-l1];simp
inductive Uq(K:zg)(x y:V)(H:Hp)(Q:VK):Prop|mk(a b:Addr)(xs:List V)(c:x=.ref a)(d:y=.ref b)(e:Ab K H a xs)(f:Ab K H b [])(g:Q (.bl (!xs.isEmpty)) H)
def Wj(K:zg):V->V->Hp->VK->Prop:=λx y H Q=>Uq K x y H Q
theorem FY(c:X.A.units<cLine):DA X (AC .NotEq) (Wj X.K):=by
 intro pins s w H x y v u Q I k l h;obtain⟨a,b,m,rfl,rfl,n,o,q⟩:=h;cases k;cases l;obtain⟨p,d,f,_⟩:=I.list n;obtain⟨g,r,i,_⟩:=I.list o;cases r;have l1:=d.length;cases m with
 |nil=>
  cases d;exact SeqAt.RcNeAt.lists (e:=λ_=>true) f.isList i.isList W c (λj t _=>absurd t GE) _ _ _ _ ⟨.bl false,H,I,W,q⟩
 |cons z B=>
  refine SeqAt.RcNeAt.lists_lengths f.isList i.isList ?_ c _ _ _ _ ⟨.bl true,H,I,W,q⟩;rw[d7,<-l1];simp
def GW(xs ys:List V):Bool:=((j9<|min xs.length ys.length).all λj=>O_ (xs.getD j .AZ)<|ys.getD j .AZ)&&xs.length==ys.length
theorem Rb{σ:St}{x:V}{u:ce}{T:String}{m:Addr}{r:Option Addr}{its:List ce}{n:Nat}{sl:Array (Option ce)}{b:Bool}(I:Inv X pins σ H s)(d:RelV x u)(ty:Ra H x T)(c:s.heap.get? m=Z ⟨.type "tuple",r,.seq its.toArray n,sl⟩)(e:adY X.K (.type T) its=Z b)(h:∀tk,Q (.bool b) {s with toks:=tk}):
  i9 (m7 X.prog X.w) A (call (.builtin "isinstance") [u,.ref m]) Q E s:=by
 cases ty with
 |AZ=>cases(show u=J1 from d);exact J2 acJ I.G' E9 c e (λz=>nomatch z) h
 |bl y=>cases(show u=B1 y from d);exact J2 acK I.G' E9 c e (λz=>nomatch z) h
 |int i=>obtain⟨t,q⟩:=(show∃t,u=M7 i t from d);cases q;exact J2 ac5 I.G' E9 c e (λz=>nomatch z) h
 |str y=>obtain⟨t,q⟩:=(show∃t,u=K5 y t from d);cases q;exact J2 ac4 I.G' E9 c e (λz=>nomatch z) h
 |@lst a j f=>
  cases(show u=n0 a from d);obtain⟨_,_,n,_,g⟩:=(show Av X.prog X.w H s.heap a (.lst j)from f.ok I.BN);exact J2 T5 I.G' ⟨_,g,W⟩ c e (λz=>nomatch z) h
 |@tup a j f=>
  cases(show u=n0 a from d);obtain⟨_,_,_,p⟩:=(show Av X.prog X.w H s.heap a (.tup j)from I.BN a _ f);obtain⟨o,g,k,_⟩:=p;exact J2 R4 I.G' ⟨o,g,k⟩ c e (λz=>nomatch z) h
 |@dK a l f=>
  cases(show u=n0 a from d);obtain⟨_,_,v,_,p⟩:=(show Av X.prog X.w H s.heap a (.dK l)from f.ok I.BN);obtain⟨o,B,C,g,k,_⟩:=p;exact J2 T6 I.G' ⟨o,g,k.1⟩ c e (λz=>nomatch z) h
theorem MT{vs:List (Key×ce)}{ss:List Str}(b:vs.map (·.1)=ss.map e9){ws:List ce}(hl:ws.length=vs.length)(g:∀(j:Nat) (v:ce),ws[j]?=Z v->∃k x,vs[j]?=Z (k,x)/\(An P w).is k v=true):K0 ws ss:=by
 induction ss generalizing vs ws with
 |nil=>
  have:vs=[]:=by cases vs with|nil=>rfl|cons a r=>simp at b
  subst this;have:ws=[]:=wE hl;subst this;exact .nil
 |cons x r h=>
  cases vs with
  |nil=>simp at b|cons a vs=>
   simp only[jp,E7]at b;cases ws with
   |nil=>simp at hl|cons u ws=>
    obtain⟨k,y,e,c⟩:=g 0 u W;have e:a=(k,y):=GT e
    subst e;have d:k=e9 x:=b.1;subst d;have c:KJ (e9 x) u=true:=c;rcases Bc c with⟨i,t,f,_⟩|⟨z,t,f,l⟩
    .cases f
    .cases f;subst l;exact .cons _ t<|h b.2 (GT hl) λj v m=>g (j+1) v<|by simpa using m
theorem GC(h:K0 us ys):Vals (ys.map V.str) us:=by
 induction h with
 |nil=>exact .nil|cons n t _ a=>exact .cons ⟨t,W⟩ a
inductive Jc(xs:List V)(H:Hp)(Q:VK):Prop|mk(d:Addr)(b:List (Key×V))(ss:List Str)(e:xs=[.ref d])(f:Rd H d (.dK b))(g:b.map (·.1)=ss.map e9)(h:b.length<64)(i:∀(p:Addr) (a:List Str) (c:Hp),H p=ν->AF H c->c p=Z (.lst (a.map V.str))->a.Perm ss->KB a=true->Q (.ref p) c)
def Kf:List V->Hp->VK->Prop:=λa H Q=>Jc a H Q
theorem CT(T:X.calm=true):Ba X (.builtin "sorted") Kf:=by
 intro pins s σ H xs us Q I r h;obtain⟨d,U,F,rfl,hd,G,p,q⟩:=h;obtain⟨u,rfl,Y⟩:=vals1 r;cases Y;obtain⟨z,ζ,k,l,dd⟩:=EM I.BN hd;have t:X.A.in1.handled=none:=I.ok.hd T;have n:k.length=U.length:=l.length.symm;have x:k.map (·.1)=F.map e9:=by rw[<-G];exact(KV.keys l).symm
 obtain⟨ep,y⟩:=dd.dictAt;have J:k.length<=sizeLine:=by rw[n];exact z
 refine P8 adk acB acD (acE _) ?_;unfold aeB.«sorted»;refine be (m:=adM "sorted" 1 1 _) (b9<|be<|PySem.W.kdu_collect (ac6 (knd:=An X.prog X.w) (kvs:=k) (ep:=ep) ζ) t y J λc K a keep items=>?_);have B:a.toList.length=k.length:=by rw[pY];exact items.1
 have C:K0 a.toList F:=MT (P:=X.prog) (w:=X.w) x B λj v e=>items.2 j v (by rw[<-u6];exact e);refine be (ab2 ?_<|by rw[B];exact J);have f:(c.push {cls:=.type "list",data:=.seq a.toList.toArray}).get? c.objs.size=Z (seqObj "list" a.toList.toArray 0):=j8 _ W;refine be<|ut<|y3 abt ⟨_,f,W⟩ aa6 (aa5 ab5 f C.keysOf (λL M rest e=>acC<|by rw[<-e];exact C) (by rw[B,n];exact p) λg a1 a2=>⟨_,W,?_⟩)<|abx _;obtain⟨i,b1,N,b3⟩:=abq C a1 a2;obtain⟨ee,he⟩:=ab6 (out:=(abk g).map (·.2)) f;refine b9 ⟨_,W,?_⟩;have D:(c.push {cls:=.type "list",data:=.seq a.toList.toArray}).objs.size=c.objs.size+1:=adL ..;have O:=I.kept (t':=K) keep;have k2:∀b o,c.get? b=Z o->(Y5 (c.push {cls:=.type "list",data:=.seq a.toList.toArray}) c.objs.size a.toList ((abk g).map (·.2))).get? b=Z o:=λb o e=>by
  have R:b<c.objs.size:=ii e;rw[abr (j7 R)<|by rw[D];exact O4 R];exact ca _ e
 have E:i.length<=sizeLine:=by
  rw[N.length_eq];have:=congrArg sw G;rw[bi,bi]at this;rw[<-this];exact z
 have new:Av X.prog X.w (upd H c.objs.size<|.lst<|i.map V.str) (Y5 (c.push {cls:=.type "list",data:=.seq a.toList.toArray}) c.objs.size a.toList ((abk g).map (·.2))) c.objs.size (.lst<|i.map V.str):=
  ⟨by rw[bi];exact E,((abk g).map (·.2)).toList,ee,GC b1,by rw[IR];exact he⟩
 have S:H c.objs.size=none:=O.fresh;exact⟨.ref c.objs.size,_,O.laid (t':=K) k2 (bv _) new,W,q _ i _ S (AF.new S) AD N b3⟩
end
structure Txt(mg:Str->Option ce):Prop where
 isinstance:mg "isinstance"=ν
 int:mg "int"=ν
 bool:mg "bool"=ν
 str:mg "str"=ν
 list:mg "list"=ν
 dict:mg "dict"=ν
 tuple:mg "tuple"=ν
 len:mg "len"=ν
 range:mg "range"=ν
 max:mg "max"=ν
 min:mg "min"=ν
 sorted:mg "sorted"=ν
 all:mg "all"=ν
 any:mg "any"=ν
 reversed:mg "reversed"=ν
 ValueError:mg "ValueError"=ν
 sum:mg "sum"=ν
theorem Hd:v7 "isinstance"=Z (.builtin "isinstance"):=by decide+kernel
theorem bh:v7 "int"=Z (.type "int"):=by decide+kernel
theorem Wk:v7 "bool"=Z (.type "bool"):=by decide+kernel
theorem iN:v7 "str"=Z (.type "str"):=by decide+kernel
theorem BR:v7 "list"=Z (.type "list"):=by decide+kernel
theorem CC:v7 "dict"=Z (.type "dict"):=by decide+kernel
theorem E_:v7 "tuple"=Z (.type "tuple"):=by decide+kernel
theorem bj:v7 "max"=Z (.builtin "max"):=by decide+kernel
theorem iO:v7 "min"=Z (.builtin "min"):=by decide+kernel
theorem CP:v7 "sorted"=Z (.builtin "sorted"):=by decide+kernel
theorem MU:v7 "all"=Z (.builtin "all"):=by decide+kernel
theorem TH:v7 "any"=Z (.builtin "any"):=by decide+kernel
theorem BP{c:Bool}{A B:Prop}(a:c=false)(h:B):if c=true then A else B:=by
 rw[a];exact AQ h
theorem Bf{c:Bool}{A B:Prop}(a:c=true)(h:A):if c=true then A else B:=by
 rw[a];exact As h
theorem FZ{xs:List c}(b:0<=i)(d:i<(xs.length:Int)):∃v,Oz xs i=Z v/\v∈xs:=by
 obtain⟨n,rfl⟩:=aaK b;have a:n<xs.length:=by lia
 exact⟨xs[n],Aa<|zc a,G7 a⟩
inductive uA(P:wv)(w:y8)(K:zg)(mg:Str->Option ce)(base:Heap)(x:Str)(ps:List Str)(n:Nat)(sp:Sp):Prop|mk(f:Addr)(fd:AT)(k:A4 K (.ref f)=true)(b:Binds K fd ps [])(m:mg x=Z (.ref f))(G:Ar P w K mg base CA n f fd ps sp)
structure Df(P:wv)(w:y8)(K:zg)(mg:Str->Option ce)(base:Heap)(x:Str)(ps:List Str)(n:Nat)(sp:Sp):Prop where
 ex:uA P w K mg base x ps n sp
variable{mg:Str->Option ce}{ps:List Str}{fd:AT}{base:Heap}{st:Stmt}
theorem Df.mk'{x q:Str}{n:Nat}{sp:Sp}{f:Addr}(F:Ul K x q st f fd)(b:Binds K fd ps [])(m:mg x=Z (.ref f))(G:Ar P w K mg base CA n f fd ps sp):Df P w K mg base x ps n sp:=⟨⟨f,fd,F.kp,b,m,G⟩⟩
theorem Dl(r:Int)(h:0<n):0<=r % n/\r % n<n:=⟨B7 _ z_,D5 _ h⟩
def mU(x:Str):Bool:=decide (x.length<=12)&&(sgn x).all pz
def qA(v:V):Prop:=(∃i:Int,v=.int i/\i.natAbs<2 ^ 400)∨∃x:Str,v=.str x/\mU x=true
namespace Dc
end Dc
abbrev f':Str:="abcdefghijklmnopqrstuvwxyz"
theorem NV:f'.length=26:=by decide+kernel
theorem ZX:dP.length=26:=by decide+kernel
theorem iP(r:Int):0<=r % 26/\r % 26<26:=⟨B7 _ ac,D5 _ ac⟩
inductive ZY(K:zg)(vs:List V)(H:Hp)(Q:VK)(b:XK):Prop|mk(a:Addr)(ns:List Int)(k:Nat)(c:vs=[.ref a,.int (k:Int)])(d:Ab K H a (ns.map V.int))(e:∀r:Int,0<=r->Q (.int r) H)
def Rc(K:zg):Sp:=λb H Q a=>ZY K b H Q a
inductive dQ(vs:List V)(H:Hp)(Q:VK)(a:XK):Prop|mk(c:Int)(k:Nat)(b:vs=[.int c,.int (k:Int)])(d:k<=1000)(e:∀r:Int,0<=r->r<2305843009213693951->Q (.int r) H)
def EO:Sp:=λb H Q a=>dQ b H Q a
noncomputable def Wl:Nat->Int->Int
 |0,n=>n|k+1,n=>Wl k n/1000000
def PX(c:Int)(k:Nat):Int:=(((c+3)*1181783497276652981 % 2305843009213693951+((k:Int)+1)*614889782588491411) % 2305843009213693951)*(((c+3)*1181783497276652981 % 2305843009213693951+((k:Int)+1)*614889782588491411) % 2305843009213693951) % 999999999999999989
def Ur(c:Int)(k:Nat):Int:=if c % 4=0/\4*10 ^ 60<=c then Wl k (c/4) % 1000000 else(PX c k+1)*(PX c k/1000003+7) % 2305843009213693951/7919
theorem Wm(c:Int)(k:Nat):0<=Ur c k/\Ur c k<2305843009213693951:=by
 unfold Ur;split
 .have a:=B7 (Wl k<|c/4) (show(1000000:Int)≠0 by decide);have b:=D5 (Wl k<|c/4) (show(0:Int)<1000000 by decide);lia
 .have a:=B7 ((PX c k+1)*(PX c k/1000003+7)) (show(2305843009213693951:Int)≠0 by decide);have b:=D5 ((PX c k+1)*(PX c k/1000003+7)) (show(0:Int)<2305843009213693951 by decide);lia
inductive ZZ(vs:List V)(H:Hp)(Q:VK)(a:XK):Prop|mk(c:Int)(k:Nat)(b:vs=[.int c,.int (k:Int)])(d:k<=1000)(e:Q (.int (Ur c k)) H)
def Wq:Sp:=λb H Q a=>ZZ b H Q a
theorem Wr(h:EO vs H b d):Wq vs H b d:=by
 obtain⟨c,k,e,a,q⟩:=h;exact⟨c,k,e,a,q _ (Wm c k).1 (Wm c k).2⟩
theorem Ws{ys:List Str}(P:Nat->Str->Prop)(h:∀(j:Nat) y,ys[j]?=Z y->P j y)(inj:∀(i j:Nat) y,i<j->j<ys.length->P i y->P j y->False):ys.Nodup:=by
 refine List.pairwise_iff_getElem.mpr λi j d b a e=>?_;have f:=h i _<|zc d;have c:=h j _<|zc b;rw[<-e]at c;exact inj i j _ a b f c
inductive dR(K:zg)(vs:List V)(H:Hp)(Q:VK)(b:XK):Prop|mk(a:Addr)(ns:List Int)(d:vs=[.ref a])(e:Ab K H a (ns.map V.int))(f:ns.length<=63)(g:∀c,Q (.bl true) c)
def PY(K:zg):Sp:=λb H Q a=>dR K b H Q a
theorem AX(h:n<=1000):n<=sizeLine:=gt<|Aw h
theorem Ac:[x,y].length<=sizeLine:=AX<|show 2<=1000 by decide
theorem BZ:[x].length<=sizeLine:=AX<|show 1<=1000 by decide
theorem Us(us:List V)(a:V):JV (us++[a]) ν (Z (-1))=us:=by
 have b:HT.MJ (us++[a]).length (us++[a]).length (Z<|-1)=us.length:=by
  simp only[HT.MJ,q5,x9];rw[if_pos ac];lia
 unfold JV;rw[b,HT.WM,abA,aaQ];exact List.take_left
theorem GZ{f:Addr}{sp:Sp}(a:∀vs H Q E,¬sp vs H Q E):Ar P w K mg base CA 0 f fd ps sp:=
 ⟨λvs H Q E h=>absurd h (a vs H Q E),λA outer s H args b vs Q E _ _ _ _ h=>absurd h (a vs H Q E)⟩
theorem Rf(R:Hp->Prop)(k:∀a,R a->u D σ a)(h:(∀a,R a->u D σ a)->t {D with nx:=u D} σ H):JT t u D σ H:=h k
namespace Dc
end Dc
section
variable {σ:St} {a:Addr} {kvs:List (Key×V)}
theorem Inv.freeze(I:Inv X pins σ H s)(e:H a=Z (.dK kvs)):∃o,s.heap.get? a=Z o/\Inv X pins σ (upd H a (.Ca o (.dK kvs))) s:=by
 have ok:=(show Av X.prog X.w H s.heap a (.dK kvs)from I.BN a _ e);obtain⟨z,g,h,i,o,j,k,f,r⟩:=id ok;refine⟨o,f,?_⟩;have c:∀b u,H b=Z u->u≠.dK kvs->b≠a:=λb u q n w=>by
  subst w;rw[e]at q;exact n (ze q).symm
 have un:Un X.fs [] H (upd H a<|.Ca o<|.dK kvs) s.heap s.heap:=
  ⟨λb d q _ _ _=>q,λb d q _ _ _=>⟨d.slots,q⟩,λb d q n _=>(AH (λw=>by subst w;rw[e]at n;cases n)).trans n,λb d q _=>⟨d,q⟩,
   λb l q=>(AH (c b _ q (by intro z;cases z))).trans q,λb d u q=>(AH (c b _ q (by intro z;cases z))).trans q,λb m q=>⟨#[],by rw[AH (c b _ q (by intro z;cases z)),q];simp⟩⟩
 have BN:Ge X.prog X.w (upd H a<|.Ca o<|.dK kvs) s.heap:=I.BN.write (by rw[e];trivial) (.inl W) (λb u _ q=>q) ⟨o,f⟩ ⟨f,ok⟩;exact I.un (h':=s.heap) (t':=s.toks) un BN
theorem Inv.Wu(I:Inv X pins σ H s)(e:H a=Z (.Ca o (.dK kvs)))(nf:∀o u,X.H₀ a≠Z (.Ca o u)):Inv X pins σ (upd H a (.dK kvs)) s:=by
 have ok:=(show Av X.prog X.w H s.heap a (.Ca o<|.dK kvs)from I.BN a _ e);have d:∀b u,H b=Z u->u≠.Ca o (.dK kvs)->b≠a:=λb u q n w=>by
  subst w;rw[e]at q;exact n (ze q).symm
 have f:∀b,H b=ν->b≠a:=λb n w=>by subst w;rw[e]at n;cases n
 have B:=I.base;refine⟨I.ok,I.os,I.bare,⟨B.keep,B.slot,λb g q n i=>(AH (f b (B.free b g q n i))).trans (B.free b g q n i),B.there,λb h q=>(AH (d b _ (B.KL b h q) (by intro z;cases z))).trans (B.KL b h q),
  λb g u q=>(AH (λw=>nf g u (by rw[<-w];exact q))).trans (B.IW b g u q),λb m q=>?_⟩,I.loc,I.cell,(AH (f _ I.free)).trans I.free,λx c q=>(AH (f _ (I.EL x c q))).trans (I.EL x c q),
  λp t=>let⟨y,j,A⟩:=I.pin p t;⟨y,(AH (f _ j)).trans j,A⟩,λb u q=>?_,I.len⟩
 .obtain⟨more,k⟩:=B.Lj b m q;exact⟨more,(AH<|d b _ k<|by intro z;cases z).trans k⟩
 .by_cases l:b=a
  .subst l;rw[AD]at q;cases q;exact ok.2
  .rw[AH l]at q;exact(I.BN b u q).Oe (λc v _ r=>r) (λc r=>(AH<|d c _ r<|by intro z;cases z).trans r) λc h r=>(AH<|d c _ r<|by intro z;cases z).trans r
theorem Inv.nf(I:Inv X pins σ H s)(e:H a=Z (.dK kvs)):∀o u,X.H₀ a≠Z (.Ca o u):=λo u q=>by
 have:=I.base.IW a o u q;rw[e]at this;cases this
end
def NW(a:Addr)(o:Obj)(kvs:List (Key×V))(k:Hp->Prop):Hp->Prop:=λH=>H a=Z (.Ca o<|.dK kvs)/\k (upd H a<|.dK kvs)
inductive dS(t:TE)(σ:St)(H:Hp)(Q:VK):Prop|mk(a kvs:_)(b:H a=Z (.dK kvs))(c:∀o,t σ (upd H a (.Ca o (.dK kvs))) λv=>NW a o kvs (Q v))
def iQ(t:TE):TE:=λa H Q=>dS t a H Q
inductive dU(t:TS)(D:Ends)(σ:St)(H:Hp):Prop|mk(a kvs:_)(b:H a=Z (.dK kvs))(c:∀o,t ⟨fun σ=>NW a o kvs (D.nx σ),λv=>NW a o kvs (D.rt v),fun σ=>NW a o kvs (D.bk σ),fun σ=>NW a o kvs (D.ct σ)⟩ σ (upd H a (.Ca o (.dK kvs))))
def iR(t:TS):TS:=λD a H=>dU t D a H
section
theorem dV(h:PE X e t):PE X e (iQ t):=by
 rintro pins s c H Q I ⟨a,d,b,f⟩;obtain⟨o,m,g⟩:=I.freeze b;exact BF (h pins s c _ _ g<|f o) λu n ⟨v,p,i,j,k,l⟩=>⟨v,_,i.Wu k<|I.nf b,j,l⟩
theorem dW{t:TS}(h:PS X st t):PS X st (iR t):=by
 rintro pins s k H D I ⟨a,l,g,m⟩;obtain⟨o,q,n⟩:=I.freeze g;refine BF (h pins s k _ _ n<|m o) λf r i=>?_;cases f with
 |next=>obtain⟨b,j,c,d,e⟩:=i;exact⟨b,_,c.Wu d (I.nf g),e⟩
 |brk=>obtain⟨b,j,c,d,e⟩:=i;exact⟨b,_,c.Wu d (I.nf g),e⟩
 |cont=>obtain⟨b,j,c,d,e⟩:=i;exact⟨b,_,c.Wu d (I.nf g),e⟩
 |ret u=>obtain⟨v,b,j,c,p,d,e⟩:=i;exact⟨v,b,_,c.Wu d (I.nf g),p,e⟩
theorem Cm(h:PE X e t)(h':PE X e u):PE X e (fun σ H Q=>t σ H Q∨u σ H Q):=by
 rintro pins s σ H Q I (q|q)
 .exact h pins s σ H Q I q
 .exact h' pins s σ H Q I q
theorem Rg(h:PS X e t)(h':PS X e u):PS X e (λD σ H=>t D σ H∨u D σ H):=by
 rintro pins s σ H D I (q|q)
 .exact h pins s σ H D I q
 .exact h' pins s σ H D I q
end
def kE(a:Addr)(o:Obj)(kvs:List (Key×V)):It:=
 ⟨λi H=>H a=Z (.Ca o (.dK kvs))/\i<kvs.length,λi H x b=>b=H/\∃k v,kvs[i]?=Z (k,v)/\x=kV k,λi H=>H a=Z (.Ca o (.dK kvs))/\i=kvs.length⟩
def iS(d:TE):TI:=λe H R=>d e H λx c=>∃a o b,x=.ref a/\c a=Z (.Ca o<|.dK b)/\R (kE a o b) c
theorem Za(h:(An P w).is k u=true):RelV (kV k) u:=by
 rcases Bc (k:=k) (v:=u) h with⟨i,t,rfl,rfl⟩|⟨x,t,rfl,rfl⟩
 .exact⟨t,W⟩
 .exact⟨t,W⟩
theorem Ut{tg:C5}(RB:a≠it)(rel:KV kvs vs)(hD:∀h:Heap,h.get? a=Z o->h.DictAt (An P w) a vs ep):
  Turn P w K tg (kE a o kvs) [it] it (λi h=>h.IsKeyIter it a i vs.length ep)where
 mem:=by simp
 obj:=λi h st b hb=>by
  have e:b=it:=GT hb
  subst e;obtain⟨ob,h1,_,h3⟩:=st;exact⟨ob,h1,λv z=>by rw[h3]at z;cases z⟩
 keep:=λi h h' st k=>st.at λob e=>k it GE ob e
 item:=λX hp hw _ hc i pins s σ H E I hf st go=>by
  subst hp hw;have f:=hf it GE;obtain⟨ga,gi⟩:=go;have mV:=hD s.heap (show Av X.prog X.w H s.heap a (.Ca o<|.dK kvs)from I.BN a _ ga).1;refine(Walks.dictKeys (knd:=An X.prog X.w) (I.ok.hd hc) it a RB vs ep).item i s _ E (by rw[<-rel.length];exact gi) ⟨st,mV⟩ λv h' tk hP Su kept=>?_;obtain⟨k,x,uB,hk⟩:=hP;obtain⟨ob,h1,h2,h3⟩:=Su.1;have uC:∃y,kvs[i]?=Z (k,y):=by
   have e:=congrArg (λl=>l[i]?)<|KV.keys rel;simp only[b6,uB,zc gi]at e;have e:kvs[i].1=k:=GT e
   exact⟨kvs[i].2,by rw[zc gi,<-e]⟩
  obtain⟨y,hy⟩:=uC;refine⟨v,W,Om (o:=ob) h1 h2 h3 ac ⟨kV k,H,I.turned (λb uD hb e=>kept b uD (by simp[hb]) e) f.1 f.2.1 f.2.2.2.1 f.2.2.2.2.1 f.2.2.2.2.2,Za hk,⟨W,k,y,hy,W⟩,Su.1,λb hb=>?_⟩⟩;have e:b=it:=GT hb
  subst e;exact f.1
 done:=λX hp hw _ hc i pins s σ H E I hf st stop=>by
  subst hp hw;have f:=hf it GE;obtain⟨ga,gi⟩:=stop;have gi:i=vs.length:=by rw[gi];exact rel.length
  subst gi;have mV:=hD s.heap (show Av X.prog X.w H s.heap a (.Ca o<|.dK kvs)from I.BN a _ ga).1;refine(Walks.dictKeys (knd:=An X.prog X.w) (I.ok.hd hc) it a RB vs ep).done s _ E ⟨st,mV⟩ λh' tk kept=>?_;exact⟨W,I.turned (λb ob hb e=>kept b ob (by simp[hb]) e) f.1 f.2.1 f.2.2.2.1 f.2.2.2.2.1 f.2.2.2.2.2⟩
 self:=λA i s Q E st hQ=>wpAny_pyIter_keyiter st hQ
section
variable {tg:C5}
theorem ER(hl:PE X l p):PI X tg l (iS p):=by
 intro pins s r H R I h;refine BF (hl pins s r H _ I h) λv c t=>t.elim λx m i u y=>?_;obtain⟨a,o,d,rfl,A,q⟩:=y;cases u;have ok:=(show Av X.prog X.w m c.heap a (.Ca o (.dK d))from i.BN a _ A);obtain⟨n,z,B,G,j,C⟩:=ok;obtain⟨J,f⟩:=C.dictAt;obtain⟨K,D,g,E⟩:=id f;rw[n]at g;cases g;have k:a<c.heap.objs.size:=ii n;refine wpAny_pyIter_dict B f ⟨c.heap.objs.size,[c.heap.objs.size],_,kE a o d,m,W,i.kept (t':=c.toks) λb L e=>ca _ e,
  Ut (j7 k) j (λh e=>⟨o,D,e,E⟩),⟨_,j8 _ W,W,W⟩,λb F=>?_,q⟩
 have e:b=c.heap.objs.size:=GT F
 subst e;exact i.UT (bv _) i.fresh
end
theorem PZ{g:TG}{d:TS}{D:Ends}(Pv:Nat->St->Hp->Prop)(f:Pv 0 σ H)(hl:∀i σ H,i<=kvs.length->Pv i σ H->H a=Z (.Ca o (.dK kvs)))(hs:∀i k v σ H e,Go D (Pv (i+1)) e->kvs[i]?=Z (k,v)->Pv i σ H->g (kV k) σ H (d e))(h:∀σ H,Pv kvs.length σ H->D.nx σ H):
  UW (kE a o kvs) g d D σ H:=by
 refine⟨λi m σ H=>m=kvs.length-i/\i<=kvs.length/\Pv i σ H,⟨kvs.length,GE,j5 _,f⟩,?_⟩;rintro i m σ H ⟨rfl,j,p⟩;have q:=hl i σ H j p;by_cases b:i<kvs.length
 .refine .inr ⟨⟨q,b⟩,Pv<|i+1,λl n r=>⟨kvs.length-(i+1),z_,W,b,r⟩,λx n y=>?_⟩;obtain⟨e,k,v,c,rfl⟩:=y;subst e;exact hs i k v σ _ _ ⟨id,id⟩ c p
 .have e:i=kvs.length:=by lia
  subst e;exact .inl ⟨⟨q,W⟩,h σ H p⟩
def Fc(H a:Hp):Prop:=∀b u,Rd H b u->Rd a b u
theorem AF.r(s:AF H a):Fc H a:=λb u r=>r.up λo=>s b o
theorem Fc.trans(s:Fc H a)(t:Fc a c):Fc H c:=λb u r=>t b u<|s b u r
theorem Fc.Ca{H:Hp}{a:Addr}{o:Obj}{kvs:List (Key×V)}(e:H a=Z (.dK kvs)):Fc H (upd H a (.Ca o (.dK kvs))):=λb u r=>by
 by_cases c:b=a
 .subst c;rcases r with r|⟨d,r⟩
  .rw[e]at r;cases r;exact .inr ⟨o,AD⟩
  .rw[e]at r;cases r
 .exact r.up λd q=>(AH c).trans q
end L2
namespace PySem
open PyProof.Rows PySem.F PySem.Spec
theorem Kg:Ps (.type "list") "keys"=pure none:=by rw[L0,Ev];kernel_rfl
variable{prog:wv}{A:G1}
theorem Kh{w:y8}{E:ce->fx->Prop}{s:fx}{a:Addr}{o:Obj}{xs:Array ce}{k:Nat}{Q:Option ce->fx->Prop}(j:s.heap.get? a=Z o)(l:o.cls=.type "list")(b:o.data=.seq xs k)(m:o.dict=ν)(hA:A.handled=ν)(h:∀h' tk e,aej s.heap h' e "AttributeError"->Q ν {s with heap:=h',toks:=tk}):
  i9 (m7 prog w) A (adH (.ref a) "keys") Q E s:=by
 obtain⟨c,Ah,p,q⟩:=o;simp only at l b m;subst l b m;obtain⟨r,g,d,tk,os⟩:=s;have n:∀f,(⟨r,g,d,f,os⟩:fx).TypeIs (.ref a) "list":=λ_=>⟨_,j,W⟩;have t:=aci;have u:=Q8.lookup;have v:=Q8.bind<|.ref a;have x:=am_list_getattr_none;unfold adH getAttrBy? getAttrBy
 repeat (any_goals (first|assumption|exact n _|((with_reducible show i9 _ _ (call (aee "list.__getattribute__") _ _) _ _ _);refine G4 Q8 (n _) am_entry_list_getattribute (F.args_list_getattribute_2 _ _) (meets_getattribute_miss_list a xs k q "keys" _ Kg (by decide+kernel) (by decide+kernel)) ⟨j,hA,λh' f e i=>?_⟩)|wp_step))
 obtain⟨y,z,B⟩:=i.there;show i9 _ _ (R3 _ _ _ _ _ _ _) _ _ _;unfold R3
 repeat (any_goals (first|assumption|wp_step))
 exact h _ _ _ i.of
theorem Cg:aaB aep "dict.update.loop"=Z Builtin.«dict.update.loop»:=ac2<|by kernel_rfl
theorem BV:plainId "dict.update.loop"=true:=by decide+kernel
section
variable {w:y8} {K:Type} [DecidableEq K] {knd:KeyKind prog w K} {R:acU->fx->Prop}
theorem Uu(hh:A.handled=ν)(F:l≠I)(h:d≠I)(G:d≠l)(hlen:items.size=more.length)(hsz:more.length<=100000):
  ∀(k i:Nat)(s:fx),more.length-i=k->i<=more.length->s.heap.IsListIter I l i->s.heap.IsList l items->s.heap.DictOf knd d (W0 [] (more.take i))-> (∀(j:Nat) x c,more[j]?=Z (x,c)->∃t a,items[j]?=Z (.ref t)/\t≠d/\t≠I/\aeJ s.heap t #[a,c]/\knd.is x a=true)-> (∀h' tk,h'.DictOf knd d (W0 [] more)->(∀b o,b≠d->b≠I->s.heap.get? b=Z o->h'.get? b=Z o)->R (.ok (.ret .none)) {s with heap:=h',toks:=tk})->
   KM (m7 prog w) A (.builtin "dict.update.loop" ⟨[.ref d,.ref I,B0 (i:Int),.none],[]⟩) R s:=by
 have ξ:=Walks.list (prog:=prog) (w:=w) (A:=A.in1) hh I l F items;intro k
 induction k with
 |zero=>
  intro i s hk hi m H D J L;have M:i=more.length:=by lia
  subst M;refine zr Cg ?_;rw[xz BV _];show i9 _ A.in1 (Op (.ref I)>>=_) _ _ s;refine be (ξ.done s _ _ (by rw[hlen];exact⟨m,H⟩) λh' tk kept=>?_);rw[xL]at D;obtain⟨o,N,O,P,r⟩:=D;show i9 _ A.in1 (aay d []>>=_) _ _ _;exact be (b9<|b9<|L h' tk ⟨o,N,O,kept _ _ (by simp[h]) P,r⟩ λb o _ hb e=>kept b o (by simp[hb]) e)
 |succ k ih=>
  intro i s hk hi m H D J L;have n:i<more.length:=by lia
  obtain⟨⟨x,c⟩,hm⟩:∃p,more[i]?=Z p:=⟨_,zc n⟩;obtain⟨t,a,ht,td,tI,tup,f⟩:=J i x c hm;refine zr Cg ?_;rw[xz BV _];show i9 _ A.in1 (Op (.ref I)>>=_) _ _ s;refine be (ξ.item i s _ _ (by rw[hlen];exact n) ⟨m,H⟩ λv h' tk hv y kept=>?_);rw[ht]at hv;cases hv;obtain⟨ot,Q,q,nt,z⟩:=tup;have g:h'.get? t=Z ot:=kept _ _ (by simp[tI]) Q;have hT:({s with heap:=h',toks:=tk}:fx).TypeIs (.ref t) "tuple":=⟨_,g,q⟩;obtain⟨ct,dt,dat,slt⟩:=ot;simp only at q z;subst q z;obtain⟨o,N,O,P,r⟩:=id D;have S:h'.DictOf knd d (W0 []<|more.take i):=⟨o,N,O,kept _ _ (by simp[h]) P,r⟩;have T:(W0 []<|more.take i).length<=sizeLine:=by
   have:=ac0 ([]:List (K×ce))<|more.take i;rw[B8,B6]at this;have e:sizeLine=16777216:=SB;lia
  show i9 _ A.in1 (S2 [n0 t] _>>=_) _ _ _;refine be<|ut<|be<|adR ?_;unfold aa4;refine be<|L4 hT ?_;rw[if_pos ac];unfold abQ;refine be ?_;refine be<|Y4 g ?_;refine b9<|b9 ?_;show i9 _ A.in1 (S2 [a,c]<|aeA d a c) _ _ _;refine ut ?_;unfold aeA
  try with_reducible refine ut ?_
  refine be<|knd.pyHash f ?_;refine Z8 (hsz:=T) f S λh2 B u=>?_;have e1:stored (W0 []<|more.take i) x c=W0 [] (more.take<|i+1):=(acZ [] more i (x,c) hm).symm;rw[e1]at B;have kp:∀b o,b≠d->b≠I->s.heap.get? b=Z o->h2.get? b=Z o:=λb o E U e=>by
   rw[u.2 b E];exact kept b o (by simp[U]) e
  have ic:((i:Int)+1)=((i+1:Nat):Int):=by simp
  refine b9 ⟨E1 BV _,?_⟩;rw[ic];refine ih (i+1) _ z_ n (y.1.at λo e=>by rw[u.2 I<|zn h];exact e) (y.2.at λo e=>by rw[u.2 l<|zn G];exact e) B (λj k2 v2 hj=>?_) (λU V X Y=>L U V X λb o E h4 e=>Y b o E h4<|kp b o E h4 e);obtain⟨t2,C,a1,a2,a3,⟨ζ,b1,b2⟩,a5⟩:=J j k2 v2 hj;exact⟨t2,C,a1,a2,a3,⟨ζ,kp _ _ a2 a3 b1,b2⟩,a5⟩
end
end PySem
namespace L2
open PySem PySem.Spec PyProof.Rows
variable{X:Cx}
section
inductive Zb(K:zg)(xs:List V)(H:Hp)(Q:VK):Prop|mk(l:Addr)(ts:List Addr)(kvs:List (Key×V))(a:xs=[.ref l])(b:Ab K H l (ts.map V.ref))(c:ts.length=kvs.length)(d:(∀(j:Nat) k v,kvs[j]?=Z (k,v)->∃t,ts[j]?=Z t/\H t=Z (.tup [kV k,v])))(e:kvs.length<=1000)(f:OZ H (.dK (CN [] kvs)) Q)
def dX(K:zg):List V->Hp->VK->Prop:=λa H Q=>Zb K a H Q
theorem De(hc:X.calm=true):Ba X (.type "dict") (dX X.K):=by
 intro pins s σ H xs us Q I r h;obtain⟨l,g,c,rfl,hl,hlen,hp,hz,q⟩:=h;obtain⟨u,rfl,ru⟩:=vals1 r;cases ru;obtain⟨x,rv,pl,_⟩:=I.list hl;obtain⟨ol,nl,M,y,ζ,D⟩:=id pl;have N:X.A.in1.handled=none:=I.ok.hd hc;refine abw (Q₁:=λO C=>O=.ref s.heap.objs.size/\C={s with heap:=s.heap.push {cls:=.type "dict",data:=.dict #[]}}) ada (abK _) acQ (ac1 _ ⟨W,W⟩) ?_;rintro O C ⟨rfl,rfl⟩;have i:(s.heap.push {cls:=.type "dict",data:=.dict #[]}).DictOf (An X.prog X.w) s.heap.objs.size []:=Heap.DictOf.new s.heap;refine⟨i.typeIs,acu _ _,?_⟩;unfold Builtin.«dict.__init__»;refine be ?_;unfold aax;refine be<|Os i.typeIs ?_;show i9 _ _ (pure (s.heap.objs.size,[n0 l])) _ _ _;refine b9 ?_;show i9 _ _ (N0 "dict.__init__" s.heap.objs.size (.ref l) [] .none) _ _ _;unfold N0;have d:(s.heap.push {cls:=.type "dict",data:=.dict #[]}).get? l=Z ol:=ca _ M;have ξ:({s with heap:=s.heap.push {cls:=.type "dict",data:=.dict #[]}}:fx).TypeIs (.ref l) "list":=⟨_,d,y⟩;refine be<|L4 ξ ?_;rw[if_pos ac];refine be (Kh d y D ζ N λE uE e1 ne1=>?_);rw[if_pos<|show(Q3 (ν:Option ce))=true from W];have m:∀b o,(s.heap.push {cls:=.type "dict",data:=.dict #[]}).get? b=Z o->E.get? b=Z o:=ne1.keeps;have P:∀b o,s.heap.get? b=Z o->E.get? b=Z o:=λb o e=>m b o<|ca _ e;have Zc:E.IsList l x.toArray:=⟨ol,m _ _ d,y,nl,D⟩;refine be<|L8 ?_;refine be<|O2 Zc ?_;refine b9 ⟨E1 BV _,?_⟩;obtain⟨od,es,ep,R,rd⟩:=id i;have B:s.heap.objs.size<E.objs.size:=ii<|m _ _ R;have S:l<s.heap.objs.size:=ii M;have uF:∀c:List (Key×V),(∀p∈c,∃(t:Addr),H t=Z (.tup [kV p.1,p.2]))->True:=λ_ _=>trivial;have G:∀(t:Addr) k v,H t=Z (.tup [kV k,v])->∃a f,aeJ s.heap t #[a,f]/\(An X.prog X.w).is k a=true/\RelV v f:=λt k v e=>by
  obtain⟨z,r2,tp,_⟩:=I.tuple<|BO.of e;cases r2 with
  |cons ra rr=>
   cases rr with
   |cons rb rr=>
    cases rr;exact⟨_,_,tp,HV ra,rb⟩
 obtain⟨more,J⟩:∃more:List (Key×ce),KV c more/\∀(j:Nat) n f,more[j]?=Z (n,f)->∃t a,g[j]?=Z t/\aeJ s.heap t #[a,f]/\(An X.prog X.w).is n a=true:=by
  have gen:∀(c:List (Key×V))(g:List Addr),(∀(j:Nat) k v,c[j]?=Z (k,v)->∃t,g[j]?=Z t/\H t=Z (.tup [kV k,v]))->
    ∃more:List (Key×ce),KV c more/\∀(j:Nat) n f,more[j]?=Z (n,f)->∃t a,g[j]?=Z t/\aeJ s.heap t #[a,f]/\(An X.prog X.w).is n a=true:=by
   intro c
   induction c with
   |nil=>exact λg _=>⟨[],.nil,λj n f e=>by simp at e⟩|cons p r ih=>
    intro g h;obtain⟨k,v⟩:=p;obtain⟨t,e1,e2⟩:=h 0 k v W;obtain⟨a,f,a1,a2,a3⟩:=G t k v e2;obtain⟨more,b1,b2⟩:=ih g.tail (λj k v e=>by
     obtain⟨t,c1,c2⟩:=h (j+1) k v (GT e);exact⟨t,by rw[acq];exact c1,c2⟩)
    refine⟨(k,f)::more,.cons ⟨W,a3⟩ b1,λj n T e=>?_⟩;cases j with
    |zero=>
     have e:(k,f)=(n,T):=GT e
     cases e;exact⟨t,a,e1,a1,a2⟩
    |succ j=>
     obtain⟨t,a,c1,c2,c3⟩:=b2 j n T (GT e);exact⟨t,a,by rw[acq]at c1;exact c1,c2,c3⟩
  exact gen c g hp
 obtain⟨L,hm⟩:=J;have U:x.length=g.length:=by rw[<-rv.length,bi]
 have Y:∀(j:Nat) t,g[j]?=Z t->x.toArray[j]?=Z (.ref t):=λj t e=>by
  obtain⟨u,E,h2⟩:=rv.get (show(g.map V.ref)[j]?=Z (.ref t)by rw[b6,e];rfl);cases h2;simpa using E
 show KM _ _ (.builtin "dict.update.loop" ⟨[.ref s.heap.objs.size,.ref E.objs.size,B0 ((0:Nat):Int),.none],[]⟩) _ _;refine Uu (knd:=An X.prog X.w) (l:=l) (items:=x.toArray) (more:=more) N (j7<|E4 S B) (j7 B) (C6 S) (by rw[d7,U,hlen];exact L.length) (by rw[<-L.length];exact am hz ac) more.length 0 _ GE (j5 _)
  ⟨_,j8 _ W,W,W⟩ ⟨ol,ca _ (m _ _ d),y,nl,D⟩ ⟨od,es,ep,ca _ (m _ _ R),rd⟩ (λj n f e=>?_) (λh2 mW hd2 mX=>⟨W,?_⟩)
 .obtain⟨t,a,c1,⟨ot,c2,uG⟩,c3⟩:=hm j n f e;have:t<s.heap.objs.size:=ii c2;exact⟨t,a,Y j t c1,j7 this,j7<|E4 this B,⟨ot,ca _<|P _ _ c2,uG⟩,c3⟩
 .have mY:(CN [] c).length<=sizeLine:=by
   have:=DM c [];exact AX<|by simp at this;exact am this hz
  refine⟨.ref s.heap.objs.size,_,I.laid (t':=mW) (λb o e=>?_) (bv _)<|Ic mY (beq_eq_false_iff_ne.mpr<|zn<|j7 I.big) (KV.merge L .nil) hd2,W,q _ I.fresh⟩;have:=ii e;exact mX b o (j7 this) (j7<|E4 this B)<|ca _<|P _ _ e
end
theorem Wv(h:Dk x=true):O_ x x=true:=by
 cases x with
 |AZ=>rfl|bl b=>exact beq_self_eq_true b|int i=>exact beq_self_eq_true i|str s=>exact beq_self_eq_true s|_=>cases h
theorem MV(h:∀z∈xs,Dk z=true):GW xs xs=true:=by
 unfold GW;rw[aaR,fy];refine⟨re.mpr λj a=>?_,beq_self_eq_true _⟩;have a:=zw.mp a;rw[b7,zc a];exact Wv<|h _<|G7 a
variable{s:fx}{A:G1}{pos:Pos}
section
theorem MW{pins:List (Addr×Obj)}{σ:St}{H:Hp}(d:Vals xs its)(e:Vals ys a)(f:∀z∈xs,Dk z=true)(g:∀z∈ys,Dk z=true)(j:Nat)(h:j<its.toArray.size)(i:j<a.toArray.size):aaN A s its.toArray[j] a.toArray[j] (O_ (xs.getD j .AZ) (ys.getD j .AZ)):=by
 have k:its.toArray.size=xs.length:=by rw[d7];exact d.length.symm
 have l:a.toArray.size=ys.length:=by rw[d7];exact e.length.symm
 have b:j<xs.length:=by rw[<-k];exact h
 have c:j<ys.length:=by rw[<-l];exact i
 obtain⟨m,n,o⟩:=d.get<|zc b;obtain⟨p,q,r⟩:=e.get<|zc c;have t:its.toArray[j]=m:=by
  have:=(zd n).2;simpa using this
 have u:a.toArray[j]=p:=by
  have:=(zd q).2;simpa using this
 rw[t,u];have v:xs.getD j .AZ=xs[j]:=by rw[b7,zc b];rfl
 have w:ys.getD j .AZ=ys[j]:=by rw[b7,zc c];rfl
 rw[v,w];exact WR o r (f _<|G7 b)<|g _<|G7 c
inductive iT(K:zg)(c:Bool)(x y:V)(H:Hp)(Q:VK):Prop|mk(a b:Addr)(xs ys:List V)(d:x=.ref a)(e:y=.ref b)(f:Ab K H a xs)(g:Ab K H b ys)(h:(∀z∈xs,Dk z=true))(i:(∀z∈ys,Dk z=true))(j:Q (.bl (if c then !GW xs ys else GW xs ys)) H)
def iU(K:zg)(a:Bool):R2:=λx y H Q=>iT K a x y H Q
theorem dY(l:X.A.units<cLine):DA X (AC .Eq) (iU X.K false):=by
 intro pins s σ H x y v u Q I t w h;obtain⟨a,b,c,d,rfl,rfl,z,B,C,D,q⟩:=h;cases t;cases w;obtain⟨i,m,n,_⟩:=I.list z;obtain⟨f,o,p,_⟩:=I.list B;have k:i.toArray.size=c.length:=by rw[d7];exact m.length.symm
 have r:f.toArray.size=d.length:=by rw[d7];exact o.length.symm
 by_cases g:c.length=d.length
 .refine adn (e:=λj=>O_ (c.getD j .AZ)<|d.getD j .AZ) n.isList p.isList (by rw[k,r,g]) l (λj E F=>MW (pins:=pins) (σ:=σ) (H:=H) m o C D j E F) ?_;refine⟨.bl<|GW c d,H,I,?_,q⟩;show B1 _=B1 _;congr 1;unfold GW;rw[k,g,aaR,beq_self_eq_true,Q5]
 .refine aaH n.isList p.isList (by rw[k,r];simpa using g) l ⟨.bl<|GW c d,H,I,?_,q⟩;show B1 _=B1 _;congr 1;unfold GW;rw[beq_eq_false_iff_ne.mpr g,F8]
theorem dZ(l:X.A.units<cLine):DA X (AC .NotEq) (iU X.K true):=by
 intro pins s σ H x y v u Q I t w h;obtain⟨a,b,c,d,rfl,rfl,z,B,C,D,q⟩:=h;cases t;cases w;obtain⟨i,m,n,_⟩:=I.list z;obtain⟨f,o,p,_⟩:=I.list B;have k:i.toArray.size=c.length:=by rw[d7];exact m.length.symm
 have r:f.toArray.size=d.length:=by rw[d7];exact o.length.symm
 by_cases g:c.length=d.length
 .refine SeqAt.RcNeAt.lists (e:=λj=>O_ (c.getD j .AZ)<|d.getD j .AZ) n.isList p.isList (by rw[k,r,g]) l (λj E F=>MW (pins:=pins) (σ:=σ) (H:=H) m o C D j E F) _ _ _ _ ?_;refine⟨.bl<|!GW c d,H,I,?_,q⟩;show B1 _=B1 _;congr 2;unfold GW;rw[k,g,aaR,beq_self_eq_true,Q5]
 .refine SeqAt.RcNeAt.lists_lengths n.isList p.isList (by rw[k,r];simpa using g) l _ _ _ _ ⟨.bl<|!GW c d,H,I,?_,q⟩;show B1 _=B1 _;congr 1;unfold GW;rw[beq_eq_false_iff_ne.mpr g,F8];rfl
theorem Ki{p:Pos}(k:Gl X "range")(l:X.mg "range"=ν)(m:PA X [a] n)(hs:q7 [a] X.env=[(false,GM a X.env)]:=by rfl):
  PE X (.Call (.Name "range" p) [a] [] pos) (λd H Q=>n d H λf c=>∃j:Int,f=[.int j]/\∀r,c r=ν->Q (.ref r) (upd c r (.bW 0 j))):=by
 intro pins s d H Q I h;refine Call_<|EX I k l adO<|y0 (BF (m pos pins s d H _ I h) λy g u=>u.elim λf c i v w=>?_) hs W;obtain⟨j,e,q⟩:=w;subst e;cases v with
 |cons r x=>
  cases x;obtain⟨t,rfl⟩:=r;exact call_range_1 ⟨.ref g.heap.objs.size,upd c g.heap.objs.size<|.bW 0 j,i.laid (λb o e=>ca _ e) (bv _) ⟨_,_,_,j8 _ W⟩,W,q _ i.fresh⟩
inductive Ig(xs:List V)(H:Hp)(Q:VK):Prop|mk(r:Addr)(n:Nat)(a:xs=[.ref r])(b:H r=Z (.bW 0 (n:Int)))(c:n<=1000)(d:OZ H (.lst ((j9 n).map λ(i:Nat)=>V.int (i:Int))) Q)
def Jd:List V->Hp->VK->Prop:=λa H Q=>Ig a H Q
theorem EY(p:X.calm=true):Ba X (.type "list") Jd:=by
 intro pins s K H L M Q I r h;obtain⟨g,n,rfl,x,j,q⟩:=h;obtain⟨u,rfl,y⟩:=vals1 r;cases y;obtain⟨t,u,v,e⟩:=(show Av X.prog X.w H s.heap g (.bW 0 (n:Int))from I.BN g _ x);have f:X.A.handled=none:=I.ok.hd p;refine call_list_range (n:=n) f e (small_one z_ z_ (F6 ac<|wT _)<|zi (F5.mpr j) ac) (by rw[aea];split<;>lia) z_ λB C c D E F k=>?_;have G:((j9 n).map λ(i:Nat)=>V.int (i:Int)).length<=sizeLine:=by rw[bi,wS];exact AX j
 refine⟨.ref s.heap.objs.size,_,I.laid (t':=C) E (bv _)<|show Av X.prog X.w _ B _ (.lst _)from⟨G,c.toList,D,?_,by rw[IR];exact F⟩,W,q _ I.fresh⟩;have gen:∀(n:Nat)(l:List ce),l.length=n->(∀(i:Nat) v,l[i]?=Z v->∃t,v=M7 (0+(i:Int)*1) t)->Vals ((j9 n).map λ(i:Nat)=>V.int (i:Int)) l:=by
  intro n
  induction n with
  |zero=>intro l b _;rw[wE b];exact .nil|succ n J=>
   intro l b m;have a:l≠[]:=λz=>by rw[z]at b;cases b
   have o:l=l.dropLast++[l.getLast a]:=(J5 a).symm;rw[W7,sU,o];refine(J l.dropLast (by rw[abJ,b];rfl) λi v d=>?_).append<|.cons ?_ .nil
   .refine m i v ?_;rw[o,q8<|(Cd d)];exact d
   .have:l[n]?=Z (l.getLast a):=by
     rw[List.getLast_eq_getElem];have:l.length-1=n:=by lia
     rw[zc<|bn (A6<|bv _)<|bm b.symm];congr 1;simp[this]
    obtain⟨t,e⟩:=m n _ this;exact⟨t,by rw[e];congr 1;lia⟩
 exact gen n c.toList (by rw[pY];exact k.1) λi v d=>k.2 i v<|by rw[<-u6];exact d
inductive He(xs:List V)(H:Hp)(Q:VK):Prop|mk(a kvs:_)(b:xs=[.ref a])(c:Rd H a (.dK kvs))(d:OZ H (.dK kvs) Q)
def Ih:List V->Hp->VK->Prop:=λa H Q=>He a H Q
theorem ED:Ba X (.type "dict") Ih:=by
 intro pins s g H i j Q I r h;obtain⟨a,b,rfl,c,q⟩:=h;obtain⟨u,rfl,d⟩:=vals1 r;cases d;exact Wb I c λp k e f=>⟨.ref p,_,f,W,q p e⟩
inductive NX(xs:List V)(H:Hp)(Q:VK):Prop|mk(a kvs:_)(b:xs=[V.ref a])(c:Rd H a (.dK kvs))(d:Q (.int kvs.length) H)
def Pa:List V->Hp->VK->Prop:=λa H Q=>NX a H Q
theorem GD:Ba X (.builtin "len") Pa:=by
 intro pins s f H g i Q I r h;obtain⟨a,b,rfl,c,q⟩:=h;obtain⟨u,rfl,d⟩:=vals1 r;cases d;exact iH I c λt j e=>⟨.int b.length,H,e,⟨t,W⟩,q⟩
end
theorem Rh:∀a b:List Nat,O8 a b=false->O8 b a=false->a=b
 |[],[]=>λ_ _=>rfl|[],y::t=>λh _=>by simp[O8]at h|x::r,[]=>λ_ h=>by simp[O8]at h|x::r,y::t=>λc d=>by
  simp only[O8,Bool.or_eq_false_iff,decide_eq_false_iff_not,Bool.and_eq_false_iff]at c d;have e:x=y:=by lia
  subst e;simp at c d;rw[Rh r t c d]
theorem bp:∀a b c:List Nat,O8 a b=true->O8 b c=true->O8 a c=true
 |[],[],c=>λh _=>by simp[O8]at h|[],y::t,[]=>λ_ h=>by simp[O8]at h|[],y::t,z::u=>λ_ _=>by simp[O8]|x::r,[],c=>λh _=>by simp[O8]at h|x::r,y::t,[]=>λ_ h=>by simp[O8]at h|x::r,y::t,z::u=>λd e=>by
  simp only[O8,J4,decide_eq_true_eq,fy,beq_iff_eq]at d e⊢;rcases d with d|⟨d,f⟩<;>rcases e with e|⟨e,g⟩
  .left;exact bn d<|gt e
  .left;exact bn d<|bm e
  .left;exact d8 (bm d) e
  .right;exact⟨d.trans e,bp r t u f g⟩
theorem iV(a b c:List Nat)(g:O8 b a=false)(d:O8 c b=false):O8 c a=false:=by
 cases e:O8 c a with
 |false=>rfl|true=>
  cases f:O8 a b with
  |true=>rw[bp c a b e f]at d;cases d|false=>rw[Rh a b f g]at e;rw[e]at d;cases d
theorem MX:∀(p:Str)(l:List Str),risingS p l=true->(∀x∈l,O8 x.cps.toList p.cps.toList=false)/\l.Pairwise λa b=>O8 b.cps.toList a.cps.toList=false
 |_,[],_=>⟨λx c=>(nomatch c),.nil⟩
 |p,y::r,h=>by
  simp only[risingS,fy,T8]at h;obtain⟨d,e⟩:=MX y r h.2;refine⟨λx c=>?_,.cons d e⟩;rcases j4.mp c with rfl|c
  .exact h.1
  .exact iV _ _ _ h.1<|d x c
theorem Kj(h:KB l=true):l.Pairwise λa b=>O8 b.cps.toList a.cps.toList=false:=by
 cases l with
 |nil=>exact .nil|cons x r=>obtain⟨c,d⟩:=MX x r h;exact .cons c d
variable{y:Str}
theorem Zd{x:Str}(h:x.cps.toList=y.cps.toList):x=y:=by
 cases x;cases y;simp only at h;congr 1;exact Array.toList_inj.mp h
theorem Kk:∀{a b:List Str},(a.Pairwise λa b=>O8 b.cps.toList a.cps.toList=false)->(b.Pairwise λa b=>O8 b.cps.toList a.cps.toList=false)->a.Perm b->a=b
 |[],b=>λ_ _ p=>(List.nil_perm.mp p).symm|x::r,[]=>λ_ _ p=>by have:=p.length_eq;simp at this|x::r,y::t=>λf g p=>by
  obtain⟨a1,a2⟩:=Z3.mp f;obtain⟨h,i⟩:=Z3.mp g;have e:x=y:=by
   have c:x∈y::t:=p.mem_iff.mp d9;have d:y∈x::r:=p.mem_iff.mpr d9;rcases j4.mp c with c|c
   .exact c
   .rcases j4.mp d with d|d
    .exact d.symm
    .exact Zd<|Rh _ _ (h x c)<|a1 y d
  subst e;rw[Kk a2 i<|List.Perm.cons_inv p]
theorem Bs(c:KB a=true)(d:KB b=true)(p:a.Perm b):a=b:=Kk (Kj c) (Kj d) p
namespace Dc
end Dc
theorem Jo{c:TT}{h:TS}{D:Ends}(ξ:Nat->St->Hp->Prop)(i:Nat)(k:ξ i σ H)(hs:∀m σ H e,Go D (λa f=>∃d,d<m/\ξ d a f) e->ξ m σ H->c σ H λb g=>if b=true then h e σ g else D.nx σ g)(mono:∀σ H Q j,(∀b g,Q b g->j b g)->c σ H Q->c σ H j):WD c h D σ H:=by
 refine⟨ξ,⟨i,k⟩,λm σ H p=>?_⟩;refine mono σ H _ _ (λb g q=>?_)<|hs m σ H {D with nx:=λa f=>∃d,d<m/\ξ d a f,ct:=λa f=>∃d,d<m/\ξ d a f,bk:=D.nx} ⟨id,id⟩ p;cases b with
 |true=>exact⟨_,λa f z=>z,q⟩|false=>exact q
def back(a:Addr)(H c:Hp):Hp:=λb=>if b=a then H a else c b
theorem Dq(h:b≠a):back a H c b=c b:=if_neg h
theorem Jp:back a H b a=H a:=if_pos W
theorem Pb(e:H a=Z u):back a H c=upd c a u:=by
 funext b;unfold back upd;split
 .exact e
 .rfl
theorem Ei(e:H a=c a):back a H c=c:=by
 funext b;unfold back;split
 .rename_i h;rw[h,e]
 .rfl
structure Ri(a:Addr)(o:Obj)(kvs:List (Key×V))(H Hf:Hp):Prop where
 at_:Hf a=Z (.Ca o (.dK kvs))
 rd:Fc H Hf
 ne:∀b,b≠a->Hf b=H b
 mZ:Rd H a (.dK kvs)
theorem Ri.free(F:Ri a o kvs H d)(h:d b=ν):H b=ν/\b≠a:=by
 have c:b≠a:=λz=>by rw[z,F.at_]at h;cases h
 rw[F.ne b c]at h;exact⟨h,c⟩
theorem Ri.back(F:Ri a o kvs H d)(s:AF d f):AF H (back a H f):=λb u e=>by
 by_cases c:b=a
 .subst c;rw[Jp];exact e
 .rw[Dq c];exact s b u<|by rw[F.ne b c];exact e
inductive Ze(t:TE)(σ:St)(H:Hp)(Q:VK):Prop|mk(a kvs:_)(d:Rd H a (.dK kvs))(e:∀o b,Ri a o kvs H b->t σ b λv c=>c a=Z (.Ca o (.dK kvs))/\Q v (back a H c))
def df(t:TE):TE:=λa H Q=>Ze t a H Q
inductive Zf(t:TS)(D:Ends)(σ:St)(H:Hp):Prop|mk(a kvs:_)(d:Rd H a (.dK kvs))(e:∀o c,Ri a o kvs H c->t ⟨fun σ b=>b a=Z (.Ca o (.dK kvs))/\D.nx σ (back a H b),λv b=>b a=Z (.Ca o (.dK kvs))/\D.rt v (back a H b),fun σ b=>b a=Z (.Ca o (.dK kvs))/\D.bk σ (back a H b),fun σ b=>b a=Z (.Ca o (.dK kvs))/\D.ct σ (back a H b)⟩ σ c)
def dh(t:TS):TS:=λD a H=>Zf t D a H
theorem Ri.of(e:H a=Z (.dK kvs)):Ri a o kvs H (upd H a (.Ca o (.dK kvs))):=⟨AD,Fc.Ca e,λb c=>AH c,.inl e⟩
theorem Ri.same(e:H a=Z (.Ca o (.dK kvs))):Ri a o kvs H H:=⟨e,λ_ _ r=>r,λ_ _=>rfl,.inr ⟨o,e⟩⟩
section
theorem Hg(h:PE X e t):PE X e (df t):=by
 rintro pins s d H Q I ⟨a,b,r,f⟩;rcases r with r|⟨o,r⟩
 .refine dV h pins s d H Q I ⟨a,b,r,λo=>?_⟩;have:=f o _<|Ri.of r;have e:(λv c=>c a=Z (.Ca o<|.dK b)/\Q v (back a H c))=λv=>NW a o b (Q v):=by
   funext v c;unfold NW;rw[Pb r]
  rw[e]at this;exact this
 .refine BF (h pins s d H _ I<|f o H<|Ri.same r) λu m ⟨v,i,j,k,l,g⟩=>⟨v,i,j,k,?_⟩;rw[Ei<|r.trans l.symm]at g;exact g
theorem NY{st:Stmt}{t:TS}(h:PS X st t):PS X st (dh t):=by
 rintro pins s n H D I ⟨a,d,r,p⟩;rcases r with r|⟨o,r⟩
 .refine dW h pins s n H D I ⟨a,d,r,λo=>?_⟩;have:=p o _<|Ri.of r;have e:∀k:Hp->Prop,(λl=>l a=Z (.Ca o<|.dK d)/\k (back a H l))=NW a o d k:=λk=>by
   funext l;unfold NW;rw[Pb r]
  simp only[<-e];exact this
 .refine BF (h pins s n H _ I<|p o H<|Ri.same r) λf w j=>?_;cases f with
  |next=>obtain⟨b,m,g,i,c⟩:=j;rw[Ei (r.trans i.symm)]at c;exact⟨b,_,g,c⟩
  |brk=>obtain⟨b,m,g,i,c⟩:=j;rw[Ei (r.trans i.symm)]at c;exact⟨b,_,g,c⟩
  |cont=>obtain⟨b,m,g,i,c⟩:=j;rw[Ei (r.trans i.symm)]at c;exact⟨b,_,g,c⟩
  |ret u=>obtain⟨v,b,m,g,q,i,c⟩:=j;rw[Ei (r.trans i.symm)]at c;exact⟨v,b,_,g,q,c⟩
end
variable{σ:St}
theorem Jq{J:It}{q:TE}{fs:List Nat}{Q:VK}(n:Nat)(item:Nat->V)(P:Addr->Nat->Hp->Prop)(t:∀D,H D=ν->P D 0 (upd H D (.lst [])))(j:∀D i d,i<n->P D i d->J.go i d)(u:∀D i d v r,i<n->P D i d->J.Vw i d v r->v=item i/\r=d)(k:∀D d,P D n d->J.stop n d)(w:∀D i d,H D=ν->i<n->P D i d->q (Z (item i)::Ce σ fs) d λy f=>∃ys,f D=Z (.lst ys)/\ys.length<sizeLine/\P D (i+1) (upd f D (.lst (ys++[y]))))(x:∀D d,H D=ν->P D n d->Q (.ref D) d):EC J Jb q fs σ H Q:=by
 intro D l;refine⟨λi m d=>m=n-i/\i<=n/\P D i d,⟨n,W,j5 _,t D l⟩,?_⟩;rintro i m d ⟨rfl,z,p⟩;by_cases g:i<n
 .refine .inr ⟨j D i d g p,λv s y=>?_⟩;obtain⟨rfl,rfl⟩:=u D i d v s g p y;unfold Jb;dsimp only;rw[if_pos W];have h:=w D i s l g p;have e:(λ(y:V)(f:Hp)=>∃ys,f D=Z (.lst ys)/\ys.length<sizeLine/\∃o,o<n-i/\o=n-(i+1)/\i+1<=n/\P D (i+1) (upd f D<|.lst<|ys++[y]))=λy f=>∃ys,f D=Z (.lst ys)/\ys.length<sizeLine/\P D (i+1) (upd f D<|.lst<|ys++[y]):=by
   funext y f;refine propext ⟨λ⟨ys,a,b,o,_,_,_,c⟩=>⟨ys,a,b,c⟩,λ⟨ys,a,b,c⟩=>⟨ys,a,b,n-(i+1),z_,W,g,c⟩⟩
  rw[<-e]at h;exact h
 .have e:i=n:=by lia
  subst e;exact .inl ⟨k D d p,x D d l p⟩
theorem E':∀(more kvs:List (Key×V)),((kvs++more).map (·.1)).Nodup->CN kvs more=kvs++more
 |[],kvs,_=>by simp[CN]|p::r,kvs,h=>by
  have a:CG kvs p.1=none:=by
   cases e:CG kvs p.1 with
   |none=>rfl|some v=>
    have:=NT e;rw[sU,jp]at h;obtain⟨_,_,b⟩:=A7.mp h;exact absurd W<|b p.1 this p.1 d9
  show CN (putK kvs p.1 p.2) r=_;rw[PD p.2 a,E' r (kvs++[(p.1,p.2)])<|GT h];simp
namespace Dc
end Dc
def iW(ks:List Str)(vs:List V):List (Key×V):=(ks.zip vs).map λp=>(e9 p.1,p.2)
theorem Pc:∀{ks:List Str}{vs:List V}{j:Nat}{k:Str},ks.length=vs.length->ks.Nodup->ks[j]?=Z k->CG (iW ks vs) (e9 k)=vs[j]?
 |[],_,_,_=>λ_ _ h=>by simp at h|y::r,[],_,_=>λh _ _=>by simp at h|y::r,v::vs,0,k=>λ_ _ h=>by
  simp at h;subst h;exact D_ W
 |y::r,v::vs,j+1,k=>λhl nd h=>by
  obtain⟨b,c⟩:=u4.mp nd;have a:r[j]?=Z k:=GT h
  have ne:¬(e9 y:Key)=e9 k:=λz=>b (by rw[G0 z];exact zf a);show CG ((e9 y,v)::iW r vs) (e9 k)=_;rw[D' ne,Pc (GT hl) c a];simp
namespace Dc
end Dc
namespace Dc
end Dc
namespace Dc
end Dc
section
variable {CX:Ua} {k:Nat} {f:Addr} {fd:AT} {ps:List Str} {ds:List ce} {ZK:List V} {sp:Sp} {E:XK} {x:Str} {p:Pos} {e:C5} {es:List C5} {t:TA} {tf:TE}
theorem Kl(i:PE X (.Name x p) tf)(F:Ar X.prog X.w X.K X.mg X.base CX k f fd ps sp)(j:Bn k X.A)(l:A4 X.K (.ref f)=true)(m:Binds X.K fd ps ds)(n:Vals ZK ds)(o:Passes CX X E)(y:PA X (e::es) t)(z:q7 (e::es) X.env=(false,GM e X.env)::q7 es X.env:=by rfl)(b:(N1 pos (q7 es X.env)).any (·.1)=false:=by rfl):
  PE X (.Call (.Name x p) (e::es) [] pos) (λa H Q=>tf a H λv c=>v=.ref f/\Ow sp ZK E t a c Q):=by
 intro pins s a H Q I h;refine Fa (BF (i pins s a H _ I h) λu B ⟨v,C,d,D,G,q⟩=>?_);subst G;cases(show u=n0 f from D);refine acm (h₀:=X.base) d.ok.mod.gX l (BF (y pos pins B a C _ d q) λL M J=>J.elim λN c g r q=>⟨g.G',?_⟩) z b;exact WL F j m n o g r q
end
variable{H:Hp}{e:Ends}
theorem hide{a b:TS}(h:∀c,Go e (b e) c->a c σ H):JT a b e σ H:=h {e with nx:=b e} ⟨id,id⟩
theorem gen{b:List Stmt}{t:TS}(p:Oh X b t)(h:∀T,T=t->T e σ H):∃t,Oh X b t/\t e σ H:=⟨t,p,h _ W⟩
theorem Lo{g:TG}{t:TS}{x:V}(h:∀X,X=t->g x σ H (X e)):g x σ H (t e):=h _ W
theorem CH(K:zg){e:C5}{a:TE}{p:Pos}(T:Txt X.mg)(h:PE X e a)(c:Gl X "len":=by rfl)(b:q7 [e] X.env=(false,GM e X.env)::q7 [] X.env:=by rfl)(d:X.K=K:=by rfl):PE X (.Call (.Name "len" p) [e] [] pos) (c_ (Dz K) (DB a Ia)):=by
 subst d;exact Am NO c T.len T2 (AB h BL b) ac ac b
section
variable {o e:C5} {to te:TE} {apos DQ:Pos}
theorem kG(K:zg)(f:PE X o to)(g:PE X e te)(c:((N1 DQ (q7 [e] X.env)).all (λx=> !x.1)&&(adI DQ (abn [] X.env)).all (λx=>x.1.isSome)
   &&decide ([e].length+([]:List aac).length+(if([]:List aac).isEmpty then 0 else 1)<30))=true:=by rfl)(a:V0 o "extend" X.env (GM o X.env)=GM o X.env:=by rfl)(b:(apos.endLine==DQ.line)=true:=by rfl)(d:q7 [e] X.env=(false,GM e X.env)::q7 [] X.env:=by rfl)(h:X.K=K:=by rfl):
  PE X (.Call (.Attribute o "extend" apos) [e] [] DQ) (mO K "list" NQ to (DB te Ia)):=by
 subst h;exact KW x8 PySem.F.slot_list_extend PySem.F.type_list_extend Ud f (AB g BL d) a c b d W
theorem gA(K:zg)(f:PE X o to)(g:PE X e te)(c:((N1 DQ (q7 [e] X.env)).all (λx=> !x.1)&&(adI DQ (abn [] X.env)).all (λx=>x.1.isSome)
   &&decide ([e].length+([]:List aac).length+(if([]:List aac).isEmpty then 0 else 1)<30))=true:=by rfl)(a:V0 o "append" X.env (GM o X.env)=GM o X.env:=by rfl)(b:(apos.endLine==DQ.line)=true:=by rfl)(d:q7 [e] X.env=(false,GM e X.env)::q7 [] X.env:=by rfl)(h:X.K=K:=by rfl):
  PE X (.Call (.Attribute o "append" apos) [e] [] DQ) (mO K "list" S' to (DB te Ia)):=by
 subst h;exact KW x8 PySem.F.slot_list_append PySem.F.type_list_append MM f (AB g BL d) a c b d W
end
variable{pins:List (Addr×Obj)}{its:List ce}{j:Nat}
section
theorem Ww{u:ce}(g:its[j]?=Z u)(h:j<its.toArray.size):its.toArray[j]=u:=by
 have:=(zd g).2;simpa using this
theorem Zg{xs:List V}(r:Vals xs its)(h:j<its.toArray.size):∃x,xs[j]?=Z x/\RelV x its.toArray[j]:=by
 have e:its.toArray.size=xs.length:=by rw[d7];exact r.length.symm
 have a:j<xs.length:=by rw[<-e];exact h
 obtain⟨u,g,b⟩:=r.get<|zc a;exact⟨_,zc a,by rw[Ww g h];exact b⟩
end
noncomputable def uH:Key->PyData
 | .inl i=>.int i| .inr x=>.str x
variable{a:Type}
theorem Zh{kvs:List (a×V)}{vs:List (a×ce)}(r:KV kvs vs):Vals (kvs.map (·.2)) (vs.map (·.2)):=by
 unfold KV at r
 induction r with
 |nil=>exact .nil|cons h _ b=>exact .cons h.2 b
theorem C':Oz (x::r) 0=Z x:=Aa (j:=0) W
theorem CL:Oz (x::b::r) 1=Z b:=Aa (j:=1) W
theorem at2:Oz (x::b::z::r) 2=Z z:=Aa (j:=2) W
theorem Bh{c:Bool}{A B:Prop}(a:c=true->A)(b:c=false->B):if c=true then A else B:=by
 cases c with
 |true=>exact As (a W)|false=>exact AQ (b W)
theorem Dg(R:St->Hp->Prop)(k:∀a b,R a b->u D a b)(h:(∀a b,R a b->u D a b)->t {D with nx:=u D} c H):JT t u D c H:=h k
theorem DS(w:Str):∀ws:List Str,Yr (.str w) (ws.map V.str)=decide (w∈ws)
 |[]=>by simp[Yr]|x::ws=>by
  have a:=DS w ws;simp only[Yr,jp,On]at a⊢;rw[a];by_cases e:w=x
  .subst e;simp[O_]
  .have b:¬x=w:=λz=>e z.symm;simp[O_,e,b]
noncomputable def TK:List ce->List Str->Bool
 |[],[]=>true| .str x _::us,y::ys=>x==y&&TK us ys|_,_=>false
def Wx(K:zg)(a:Addr)(ws:List Str):Bool:=match K.lookup a with
 |some o=>o.cls==.type "tuple"&&(match o.data with
  | .seq b _=>decide (b.size<=1000)&&TK b.toList ws|_=>false)
 |none=>false
theorem MY:∀{us:List ce}{ws:List Str},TK us ws=true->Vals (ws.map V.str) us
 |[],[],_=>.nil|[],_::_,h=>by cases h|u::us,[],h=>by cases u<;>cases h|u::us,y::ys,h=>by
  cases u with
  |str x t=>
   have g:(x==y&&TK us ys)=true:=h;simp only[fy,beq_iff_eq]at g;obtain⟨e,g⟩:=g;subst e;exact .cons ⟨t,W⟩ (MY g)
  |_=>cases h
variable{K:zg}
theorem BO.qC{a:Addr}{ws:List Str}(h:Wx K a ws=true)(H:Hp):BO K H a (ws.map V.str):=by
 unfold Wx at h;split at h
 .rename_i o lk
  simp only[fy,beq_iff_eq]at h;obtain⟨c,h⟩:=h;split at h
  .rename_i b n d
   simp only[fy,decide_eq_true_eq]at h;exact .inr ⟨o,b,n,lk,c,d,AX h.1,MY h.2⟩
  .cases h
 .cases h
variable{Q E:ce->fx->Prop}{prog:wv}{i:Nat}{w:y8}{l1 l2 z S:Addr}{f:Bool}
section
abbrev Uv(h:Heap)(z TI TO T:Addr)(f:Bool):Prop:=
 h.get? z=Z {cls:=.type "zip",dict:=ν,data:=.fields #[B0 T,.bool f,.bool false,.ref TI,.ref TO],slots:= #[]}
theorem Pd{TI TO T:Addr}{e:Obj}{Q:Bool->fx->Prop}(hz:Uv s.heap z TI TO T f)(g:s.heap.get? T=Z e)(d:∀h',Uv h' z TI TO T true->C8 z s.heap h'->Q false {s with heap:=h'}):i9 (m7 prog w) A (E3 (.ref z)) Q E s:=by
 unfold E3;refine be<|V6 hz W (x:=B0 T) W ?_;show i9 _ _ (loadIfAlive ((T:Int).toNat)>>=_) _ _ _;rw[A8];refine be<|PySem.W.kdx_alive g ?_;show i9 _ _ (field (.ref z) 1>>=_) _ _ _;refine be<|V6 hz W (x:=.bool f) W ?_;cases f with
 |true=>
  show i9 _ _ (pure false) _ _ _;exact b9 (d s.heap hz<|acP _ _)
 |false=>
  show i9 _ _ (aaz (.ref z) 1 (.bool true)>>=_) _ _ _;exact be<|B2 hz GE λc a b=>b9<|d c a b
theorem Lp{TI TO h i T:Addr}{u:Obj}{k1 k2:Nat}{xs ys:Array ce}{x y:ce}(D:V4 z TI TO h i l1 l2)(hz:Uv s.heap z TI TO T f)(B:s.heap.get? T=Z u)(n:UV s.heap TI (.ref h) (.ref i))(C:s.heap.IsListIter h l1 k1)(F:s.heap.IsListIter i l2 k2)(p:s.heap.IsList l1 xs)(q:s.heap.IsList l2 ys)(G:xs[k1]?=Z x)(H:ys[k2]?=Z y)(I:∀h',Uv h' z TI TO T true->h'.IsListIter h l1 (k1+1)->h'.IsListIter i l2 (k2+1)->UV h' s.heap.objs.size x y->h'.objs.size=s.heap.objs.size+1-> (∀c o,c≠z->c≠h->c≠i->s.heap.get? c=Z o->h'.get? c=Z o)->Q (.ref s.heap.objs.size) {s with heap:=h'}):
  i9 (m7 prog w) A (Builtin.«zip.__next__» ⟨[.ref z],[]⟩) (λfin J=>∃v,fin=.done (.ret v)/\Q v J) E s:=by
 show i9 _ _ (field (.ref z) 2>>=_) _ _ _;refine be<|V6 hz W (x:=.bool false) W ?_;show i9 _ _ (field (.ref z) 3>>=_) _ _ _;refine be<|V6 hz W (x:=.ref TI) W ?_;refine be<|TD n W ?_;show i9 _ _ (E3 (.ref z)>>=_) _ _ _;refine be (Pd hz B λr j a=>?_);simp only[FB,if_false];refine be ?_;rw[<-R9];show i9 _ _ (forIn [n0 h,n0 i] _ _) _ _ _;rw[W8];refine be<|be<|ut ?_;show i9 _ _ (P9 (.ref h)>>=_) _ _ _;refine be (aaW (C.extBut a.extBut D.i1z) (p.extBut a.extBut D.l1z) G λt k b=>b9 ?_);refine b9 ?_;dsimp only;rw[W8];refine be<|be<|ut ?_;show i9 _ _ (P9 (.ref i)>>=_) _ _ _;refine be (aaW ((F.extBut a.extBut D.i2z).extBut b.extBut D.i12.symm) ((q.extBut a.extBut D.l2z).extBut b.extBut D.l2i1) H λg l d=>b9 ?_);refine b9 ?_;dsimp only;rw[ad1];refine b9 ?_;show i9 _ _ (newTuple [x,y]>>=_) _ _ _;refine be<|adT ?_;have m:g.objs.size=s.heap.objs.size:=by rw[d.1,b.1,a.1]
 refine b9 ⟨_,W,?_⟩;show Q (.ref g.objs.size) _;rw[m];have up:∀c o,c≠z->c≠h->c≠i->s.heap.get? c=Z o->(g.push {cls:=.type "tuple",data:=.seq #[x,y]}).get? c=Z o:=λc o c1 c2 c3 e=>
  ca _ (d.extBut _ _ c3 (b.extBut _ _ c2 (a.extBut _ _ c1 e)))
 refine I _ (ca _<|d.extBut _ _ D.i2z.symm<|b.extBut _ _ D.i1z.symm j) ((k.extBut d.extBut D.i12).at λo e=>ca _ e) (l.at λo e=>ca _ e) ?_ (by rw[P1,m]) up;have this:(g.push {cls:=.type "tuple",data:=.seq #[x,y]}).get? g.objs.size=Z {cls:=.type "tuple",data:=.seq #[x,y]}:=j8 _ W;rw[m]at this;exact this
theorem Na{TI TO d i T:Addr}{n:Obj}{k1:Nat}{xs:Array ce}{Q:Fin->fx->Prop}(p:A.handled=ν)(D:V4 z TI TO d i l1 l2)(hz:Uv s.heap z TI TO T f)(q:s.heap.get? T=Z n)(j:UV s.heap TI (.ref d) (.ref i))(r:s.heap.IsListIter d l1 k1)(k:s.heap.IsList l1 xs)(g:xs[k1]?=ν)(t:∀h' e,(∀c o,c≠z->c≠d->s.heap.get? c=Z o->h'.get? c=Z o)->(∃o,h'.get? e=Z o/\o.cls=.type "StopIteration")->E (.ref e) {s with heap:=h'}):
  i9 (m7 prog w) A (Builtin.«zip.__next__» ⟨[.ref z],[]⟩) Q E s:=by
 show i9 _ _ (field (.ref z) 2>>=_) _ _ _;refine be<|V6 hz W (x:=.bool false) W ?_;show i9 _ _ (field (.ref z) 3>>=_) _ _ _;refine be<|V6 hz W (x:=.ref TI) W ?_;refine be<|TD j W ?_;show i9 _ _ (E3 (.ref z)>>=_) _ _ _;refine be (Pd hz q λm l a=>?_);simp only[FB,if_false];refine be ?_;rw[<-R9];show i9 _ _ (forIn [n0 d,n0 i] _ _) _ _ _;rw[W8];refine be<|be<|ut ?_;show i9 _ _ (P9 (.ref d)>>=_) _ _ _;refine be<|wpAny_nextOf_list_end p (r.extBut a.extBut D.i1z) (k.extBut a.extBut D.l1z) g λh e b u=>t h e (λc o c1 c2 x=>b _ _ c2<|a.extBut _ _ c1 x) u
structure Zi(h:Heap)(z TI TO i1 i2 l1 l2 S:Addr)(i:Nat)(xs ys:Array ce):Prop where
 st:(i=0/\IsZip h z TI TO .none/\∃a b,UV h TO a b)∨∃T f oT,Uv h z TI TO T f/\h.get? T=Z oT/\T≠z/\T≠i1/\T≠i2/\T≠S
 ti:UV h TI (.ref i1) (.ref i2)
 h1:h.IsListIter i1 l1 i
 h2:h.IsListIter i2 l2 i
 L1:h.IsList l1 xs
 L2:h.IsList l2 ys
theorem Zi.keep{h h':Heap}{TI TO d g:Addr}{xs ys:Array ce}(x:Zi h z TI TO d g l1 l2 S i xs ys)(c:∀b o,b≠S->h.get? b=Z o->h'.get? b=Z o)(n:z≠S/\TI≠S/\TO≠S/\d≠S/\g≠S/\l1≠S/\l2≠S):Zi h' z TI TO d g l1 l2 S i xs ys:=by
 obtain⟨st,k,l,m,p,L2⟩:=x;refine⟨?_,c _ _ n.2.1 k,l.at λo e=>c _ o n.2.2.2.1 e,m.at λo e=>c _ o n.2.2.2.2.1 e,p.at λo e=>c _ o n.2.2.2.2.2.1 e,L2.at λo e=>c _ o n.2.2.2.2.2.2 e⟩;rcases st with⟨e,j,a,b,q⟩|⟨T,f,r,j,t,t1,t2,t3,t4⟩
 .exact .inl ⟨e,c _ _ n.1 j,a,b,c _ _ n.2.2.1 q⟩
 .exact .inr ⟨T,f,r,c _ _ n.1 j,c _ _ t4 t,t1,t2,t3,t4⟩
theorem Pe{TI TO g h:Addr}{xs ys:Array ce}{x y:ce}{Q:Option ce->fx->Prop}(D:V4 z TI TO g h l1 l2)(st:Zi s.heap z TI TO g h l1 l2 S i xs ys)(v:S<s.heap.objs.size)(q:xs[i]?=Z x)(r:ys[i]?=Z y)(t:∀h',Zi h' z TI TO g h l1 l2 S (i+1) xs ys->UV h' s.heap.objs.size x y->h'.objs.size=s.heap.objs.size+1->(∀c o,c≠z->c≠TO->c≠g->c≠h->s.heap.get? c=Z o->h'.get? c=Z o)->Q (Z (.ref s.heap.objs.size)) {s with heap:=h'}):
  i9 (m7 prog w) A (Op (.ref z)) Q E s:=by
 obtain⟨st,l,n,p,m,L2⟩:=st;have lt:∀{c o},s.heap.get? c=Z o->s.heap.objs.size≠c:=λe=>C6<|ii e;have B:s.heap.objs.size≠g:=by obtain⟨_,e,_⟩:=n;exact lt e
 have C:s.heap.objs.size≠h:=by obtain⟨_,e,_⟩:=p;exact lt e
 rcases st with⟨rfl,j,a,b,G⟩|⟨T,f,H,j,u,t1,t2,t3,t4⟩
 .refine wpAny_pyNext_zip_item D j l G n p m L2 q r λh' a1 a2 a3 a4 a5 a6 d=>?_;exact t h' ⟨.inr ⟨s.heap.objs.size,false,_,a1,a5,lt j,B,C,C6 v⟩,d _ _ D.TIz D.TITO D.TIi1 D.TIi2 l,a3,a4,m.at λo e=>d _ o D.l1z D.l1TO D.l1i1 D.l1i2 e,L2.at λo e=>d _ o D.l2z D.l2TO D.l2i1 D.l2i2 e⟩ a5 a6 d
 .have k:s.TypeIs (.ref z) "zip":=⟨_,j,W⟩;unfold Op;exact be<|ab3<|SC (name:=Str.ofString "__next__") k XV<|y3 XV k adb (Lp D j u l n p m L2 q r λh' a1 a3 a4 a5 a6 d=>b9<|t h' ⟨.inr ⟨T,true,H,a1,d _ _ t1 t2 t3 u,t1,t2,t3,t4⟩,d _ _ D.TIz D.TIi1 D.TIi2 l,a3,a4,m.at λo e=>d _ o D.l1z D.l1i1 D.l1i2 e,L2.at λo e=>d _ o D.l2z D.l2i1 D.l2i2 e⟩ a5 a6 λc o c1 _ c3 c4 e=>d c o c1 c3 c4 e)<|acR _
theorem Pf{TI TO h j:Addr}{xs ys:Array ce}{Q:Option ce->fx->Prop}(k:A.handled=ν)(D:V4 z TI TO h j l1 l2)(st:Zi s.heap z TI TO h j l1 l2 S i xs ys)(l:xs[i]?=ν)(m:∀h',(∀c o,c≠z->c≠TO->c≠h->c≠j->s.heap.get? c=Z o->h'.get? c=Z o)->Q ν {s with heap:=h'}):i9 (m7 prog w) A (Op (.ref z)) Q E s:=by
 obtain⟨st,n,p,r,q,L2⟩:=st;rcases st with⟨rfl,g,a,b,t⟩|⟨T,f,C,g,u,t1,t2,t3,t4⟩
 .exact wpAny_pyNext_zip_end k D g n t p r q L2 (.inl l) m
 .have d:s.TypeIs (.ref z) "zip":=⟨_,g,W⟩;unfold Op;refine be<|ab3<|SC (name:=Str.ofString "__next__") d XV<|y3 XV d adb (Na k D g u n p q l λh' e v x=>?_)<|acR _;obtain⟨o,y,B⟩:=x;refine be<|FM (T:="StopIteration") (b:=true) ⟨o,y,B⟩ adV ?_;exact b9<|m _ λc o c1 _ c3 _ e=>v c o c1 c3 e
structure ZG(xs ys:Array ce)(lo:Addr)(h:Heap)(as:List Addr):Prop where
 rise:as.Pairwise (·<·)
 above:∀a∈as,lo<a
 there:∀a∈as,a<h.objs.size
 pairs:∀(j:Nat)(a:Addr),as[j]?=Z a->∃x y,xs[j]?=Z x/\ys[j]?=Z y/\UV h a x y
end
variable{R:acU->fx->Prop}
section
variable {xs ys:Array ce}
theorem Zj{TI TO C E:Addr}(hh:A.handled=ν)(D:V4 z TI TO C E l1 l2)(r:z≠S/\TI≠S/\TO≠S/\C≠S/\E≠S/\l1≠S/\l2≠S)(lz:TI<z/\TO<z/\C<z/\E<z)(t:z<S)(hl:xs.size=ys.size)(hn:xs.size<=sizeLine)(res:ce){h₁:Heap}(hR:∀h' tk d c as,(∀b o,b≠S->b≠z->b≠TO->b≠C->b≠E->h₁.get? b=Z o->h'.get? b=Z o)->h'.get? S=Z {cls:=.type "list",dict:=ν,data:=.seq d c,slots:= #[]}->as.length=xs.size->ZG xs ys S h' as->
   d.toList=as.map n0->R (.ok (.ret res)) {s with heap:=h',toks:=tk}):
  ∀(k i:Nat)(h:Heap)(tk c:Nat)(d:Array ce)(as:List Addr),xs.size-i=k->i<=xs.size->Zi h z TI TO C E l1 l2 S i xs ys->(∀b o,b≠S->b≠z->b≠TO->b≠C->b≠E->h₁.get? b=Z o->h.get? b=Z o)->
   h.get? S=Z {cls:=.type "list",dict:=ν,data:=.seq d c,slots:= #[]}->d.toList=as.map n0->as.length=i->ZG xs ys S h as->
   KM (m7 prog w) A (.builtin "list.extend.loop" ⟨[.ref S,.ref z,res],[]⟩) R {s with heap:=h,toks:=tk}:=by
 have J:∀b,S<b->b≠z/\b≠TO/\b≠C/\b≠E:=λb f=>⟨C6<|E4 t f,C6<|E4 (E4 lz.2.1 t) f,C6<|E4 (E4 lz.2.2.1 t) f,C6<|E4 (E4 lz.2.2.2 t) f⟩;intro k
 induction k with
 |zero=>
  intro i h tk c d as hk hi G g V l m q;have K:i=xs.size:=by lia
  refine zr Z9 ?_;rw[xz G2 _];show i9 _ A.in1 (Op (.ref z)>>=_) _ _ _;refine be (Pf (s:={s with heap:=h,toks:=tk}) (A:=A.in1) hh D G (by rw[K];simp) λh' X=>?_);have hl:∀b,b∈as->b≠z/\b≠TO/\b≠C/\b≠E:=λb f=>J b<|q.above b f;refine b9<|hR h' tk d c as (λb o u L M N O e=>X b o L M N O<|g b o u L M N O e) (X S _ (zn r.1) (zn r.2.2.1) (zn r.2.2.2.1) (zn r.2.2.2.2.1) V) (m.trans K) ⟨q.rise,q.above,λa p=>?_,λj a n=>?_⟩ l
  .obtain⟨j,n⟩:=O0.mp p;obtain⟨x,y,Y,ζ,P⟩:=q.pairs j a n;have:=hl a p;exact ii<|X a _ this.1 this.2.1 this.2.2.1 this.2.2.2 P
  .obtain⟨x,y,Y,ζ,P⟩:=q.pairs j a n;have:=hl a<|zf n;exact⟨x,y,Y,ζ,X a _ this.1 this.2.1 this.2.2.1 this.2.2.2 P⟩
 |succ k ih=>
  intro i h tk c d as hk hi G g V l m q;have v:i<xs.size:=by lia
  have Q:d.size=i:=by rw[<-pY,l,bi,m]
  refine zr Z9 ?_;rw[xz G2 _];show i9 _ A.in1 (Op (.ref z)>>=_) _ _ _;have H:S<h.objs.size:=ii V;refine be (Pe (s:={s with heap:=h,toks:=tk}) (S:=S) D G H (t8 v) (t8<|bn v<|bm hl) λh' T ht hz B=>?_);dsimp only at ht hz B⊢;have U:=B S _ (zn r.1) (zn r.2.2.1) (zn r.2.2.2.1) (zn r.2.2.2.2.1) V;have up:∀b o,b≠S->h'.get? b=Z o->(h'.update S (F4 (·.push<|n0 h.objs.size))).get? b=Z o:=λb o f e=>(B4 _ _<|zn f).trans e;have hl:=J;show i9 _ A.in1 (aaD S (·.push<|n0 h.objs.size)>>=_) _ _ _;refine be ?_;have pr:∀(j:Nat)(b:Addr),(as++[h.objs.size])[j]?=Z b->∃x y,xs[j]?=Z x/\ys[j]?=Z y/\UV (h'.update S (F4 (·.push<|n0 h.objs.size))) b x y:=by
   intro j b n;rcases aaj j as.length with u|u|u
   .rw[q8 u]at n;obtain⟨x',y',Y,ζ,P⟩:=q.pairs j b n;have f:=q.above b<|zf n;have ξ:=hl b f;exact⟨x',y',Y,ζ,up b _ (C6 f)<|B b _ ξ.1 ξ.2.1 ξ.2.2.1 ξ.2.2.2 P⟩
   .subst u;have f:h.objs.size=b:=GT n
    subst f;exact⟨_,_,by rw[m];exact t8 v,by rw[m];exact t8 z_,up _ _ (C6 H) ht⟩
   .have I:(as++[h.objs.size])[j]?=none:=O1 (by rw[q5,x9];lia);rw[I]at n;cases n
  refine N4 U W (b9 ⟨E1 G2 _,ih (i+1) _ tk _ (d.push<|n0 h.objs.size) (as++[h.objs.size]) z_ v (T.keep up r) (λb o u L M N O e=>up b o u<|B b o L M N O<|g b o u L M N O e) (A0 _ U W) (by rw[aam,l,sU];rfl) (by rw[q5,m];rfl) ⟨List.pairwise_append.mpr ⟨q.rise,List.pairwise_singleton _ _,λa p b f=>by rw[io.mp f];exact q.there a p⟩,?_,?_,pr⟩⟩) (by rw[Q];exact am hi hn)<|by show(d.push<|n0 h.objs.size).size<=sizeLine+1;rw[Array.size_push,Q];exact gl (am hi hn) _
  .intro a p;rcases rc.mp p with p|p
   .exact q.above a p
   .rw[io.mp p];exact H
  .intro a p;obtain⟨j,n⟩:=O0.mp p;obtain⟨_,_,_,_,e⟩:=pr j a n;exact ii e
end
theorem Uw:Ps (.type "zip") "__len__"=pure none:=by rw[L0,Ev];kernel_rfl
theorem Rj:Ps (.type "zip") "__length_hint__"=pure none:=by rw[L0,Ev];kernel_rfl
section
variable {xs ys:Array ce}
theorem Wy(b:s.TypeIs (.ref z) "zip"){Q:Bool->fx->Prop}(h:Q true s):i9 (m7 prog w) A (K2 (.ref z)) Q E s:=by
 unfold K2;refine be<|W1 b Uw ?_;refine B5 (λa=>absurd a ac) (λ_=>?_);refine B5 (λa=>absurd a ac) (λ_=>?_);refine be<|W1 b Rj ?_;exact b9 h
theorem Ux{TI TO l m:Addr}(O:A.handled=ν)(D:V4 z TI TO l m l1 l2)(v:z≠S/\TI≠S/\TO≠S/\l≠S/\m≠S/\l1≠S/\l2≠S)(lz:TI<z/\TO<z/\l<z/\m<z)(x:z<S)(hl:xs.size=ys.size)(P:xs.size<=sizeLine)(res:ce)(n:Nat)(hz:IsZip s.heap z TI TO .none)(y:∃a b,UV s.heap TO a b)(Q:UV s.heap TI (.ref l) (.ref m))(B:s.heap.IsListIter l l1 0)(C:s.heap.IsListIter m l2 0)(U:s.heap.IsList l1 xs)(L2:s.heap.IsList l2 ys)(K:s.heap.get? S=Z {cls:=.type "list",data:=.seq #[] n})(V:∀r p q c G,(∀b o,b≠S->b≠z->b≠TO->b≠l->b≠m->s.heap.get? b=Z o->r.get? b=Z o)->r.get? S=Z {cls:=.type "list",dict:=ν,data:=.seq q c,slots:= #[]}->G.length=xs.size->ZG xs ys S r G->
   q.toList=G.map n0->R (.ok (.ret res)) {s with heap:=r,toks:=p}):
  i9 (m7 prog w) A.in1 (Db (.ref S) (.ref z) res) (λfin t=>match fin with| .done f=>R (.ok f) t| .again L=>L.quiet=true/\KM (m7 prog w) A L R t) (λe t=>R (.error e) t) s:=by
 have M:s.TypeIs (.ref z) "zip":=⟨_,hz,W⟩;have H:∀(h:Heap)(d p:Nat),(∀b o,b≠S->s.heap.get? b=Z o->h.get? b=Z o)->
   h.get? S=Z {cls:=.type "list",data:=.seq #[] d}->KM (m7 prog w) A (.builtin "list.extend.loop" ⟨[.ref S,.ref z,res],[]⟩) R {s with heap:=h,toks:=p}:=by
  intro h d p N i;refine Zj (s:=s) (h₁:=s.heap) O D v lz x hl P res V xs.size 0 h p d #[] [] (aaQ _) (j5 _) (Zi.keep (h:=s.heap) ⟨.inl ⟨W,hz,y⟩,Q,B,C,U,L2⟩ N v) (λb o u _ _ _ _ e=>N b o u e) i W W
   ⟨List.Pairwise.nil,(λ_ I=>nomatch I),(λ_ I=>nomatch I),(λj a X=>by simp at X)⟩
 unfold Db;refine be<|L4 (T:="zip") M ?_;have B:M3 (.ref S) (.ref z)=false:=by simp[M3,zn v.1]
 have C:(aaM "zip"==aaM "list")=false:=by decide
 have Y:(aaM "zip"==aaM "tuple")=false:=by decide
 simp only[B,C,Y,aem,FB,if_false];refine be<|acX hz ?_;refine be<|ut<|Wy M ?_;refine B5 (λ_=>?_) (λJ=>(J<|aeF _).elim);refine be<|L8 ?_;refine be ?_;show i9 _ _ (aaD S (·.push .none)>>=λ_=>aaD S (·.pop)) _ _ _;refine be<|N4 K W ?_;have g:=A0 (F4 (·.push J1)) K W;refine N4 (hz:=by seq_fits) g W ?_;have k:=A0 (F4 (·.pop)) g W;refine b9 ⟨E1 G2 _,H _ _ _ (λb o u e=>?_) k⟩;exact(B4 _ _<|zn u).trans<|(B4 _ _<|zn u).trans e
theorem Zk{TI TO j k:Addr}(C:A.handled=ν)(D:V4 z TI TO j k l1 l2)(h:z≠S/\TI≠S/\TO≠S/\j≠S/\k≠S/\l1≠S/\l2≠S)(lz:TI<z/\TO<z/\j<z/\k<z)(q:z<S)(hl:xs.size=ys.size)(F:xs.size<=sizeLine)(hz:IsZip s.heap z TI TO .none)(r:∃a b,UV s.heap TO a b)(G:UV s.heap TI (.ref j) (.ref k))(H:s.heap.IsListIter j l1 0)(I:s.heap.IsListIter k l2 0)(J:s.heap.IsList l1 xs)(L2:s.heap.IsList l2 ys)(t:s.heap.get? S=Z {cls:=.type "list",data:=.seq #[]})(K:∀l u g c m,(∀b o,b≠S->b≠z->b≠TO->b≠j->b≠k->s.heap.get? b=Z o->l.get? b=Z o)->l.get? S=Z {cls:=.type "list",dict:=ν,data:=.seq g c,slots:= #[]}->m.length=xs.size->ZG xs ys S l m->
   g.toList=m.map n0->R (.ok (.ret .none)) {s with heap:=l,toks:=u}):
  i9 (m7 prog w) A.in1 (Builtin.«list.__init__» ⟨[.ref S,.ref z],[]⟩) (λfin p=>match fin with| .done f=>R (.ok f) p| .again y=>y.quiet=true/\KM (m7 prog w) A y R p) (λe p=>R (.error e) p) s:=by
 show i9 _ _ (do let v<-aa3 (.ref S);aet (.ref S) (λ_=> #[]);letGo v.toList.reverse;Db (.ref S) (.ref z) .none) _ _ s;refine be ?_;unfold aa3;refine be<|TD t W<|b9 ?_;show i9 _ _ (aaD S (λ_=> #[])>>=λ_=>letGo (#[]:Array ce).toList.reverse>>=λ_=>Db (.ref S) (.ref z) .none) _ _ s;refine be<|N4 t W ?_;have i:=A0 (F4 λ_=>(#[]:Array ce)) t W;have d:∀b o,b≠S->s.heap.get? b=Z o->(s.heap.update S<|F4 λ_=>(#[]:Array ce)).get? b=Z o:=
  λb o L e=>(B4 _ _ (zn L)).trans e
 refine be<|wpAny_letGo ?_;obtain⟨a,b,M⟩:=r;exact Ux C D h lz q hl F .none _ (d _ _ h.1 hz) ⟨a,b,d _ _ h.2.2.1 M⟩ (d _ _ h.2.1 G) (H.at λo e=>d _ o h.2.2.2.1 e) (I.at λo e=>d _ o h.2.2.2.2.1 e) (J.at λo e=>d _ o h.2.2.2.2.2.1 e) (L2.at λo e=>d _ o h.2.2.2.2.2.2 e) i
  λl u g c m N x hl O n=>K l u g c m (λb o B c1 c2 c3 c4 e=>N b o B c1 c2 c3 c4 (d b o B e)) x hl O n
theorem Zl{TI TO g h:Addr}(v:A.handled=ν)(D:V4 z TI TO g h l1 l2)(lz:TI<z/\TO<z/\g<z/\h<z)(hl:xs.size=ys.size)(x:xs.size<=sizeLine)(hz:IsZip s.heap z TI TO .none)(l:∃a b,UV s.heap TO a b)(n:UV s.heap TI (.ref g) (.ref h))(p:s.heap.IsListIter g l1 0)(q:s.heap.IsListIter h l2 0)(r:s.heap.IsList l1 xs)(L2:s.heap.IsList l2 ys)(y:∀h' tk d c as,(∀b o,b≠z->b≠TO->b≠g->b≠h->s.heap.get? b=Z o->h'.get? b=Z o)->h'.get? s.heap.objs.size=Z {cls:=.type "list",dict:=ν,data:=.seq d c,slots:= #[]}->as.length=xs.size->ZG xs ys s.heap.objs.size h' as->
   d.toList=as.map n0->Q (.ref s.heap.objs.size) {s with heap:=h',toks:=tk}):
  i9 (m7 prog w) A (call (.type "list") [.ref z]) Q E s:=by
 refine abw (Q₁:=λi f=>i=.ref s.heap.objs.size/\f={s with heap:=s.heap.push {cls:=.type "list",data:=.seq #[]}}) PySem.F.called_list (PySem.F.typeCall_list_1 _) PySem.F.entry_list_init (code_list_new _ ⟨W,W⟩) λi f j=>?_;obtain⟨rfl,rfl⟩:=j;have t:(s.heap.push {cls:=.type "list",data:=.seq #[]}).get? s.heap.objs.size=Z {cls:=.type "list",data:=.seq #[]}:=j8 _ W;have up:∀b o,s.heap.get? b=Z o->(s.heap.push {cls:=.type "list",data:=.seq #[]}).get? b=Z o:=λb o e=>ca _ e;obtain⟨a,b,u⟩:=l;have lt:∀{b o},s.heap.get? b=Z o->b≠s.heap.objs.size:=λe=>j7<|ii e;have B:z≠s.heap.objs.size/\TI≠s.heap.objs.size/\TO≠s.heap.objs.size/\g≠s.heap.objs.size/\h≠s.heap.objs.size/\l1≠s.heap.objs.size/\l2≠s.heap.objs.size:=
  ⟨lt hz,lt n,lt u,(let⟨_,e,_⟩:=p;lt e),(let⟨_,e,_⟩:=q;lt e),(let⟨_,e,_⟩:=r;lt e),(let⟨_,e,_⟩:=L2;lt e)⟩
 exact⟨⟨_,t,W⟩,PySem.F.args_list_init_2 _ _,Zk (A:=A.in1) v D B lz (ii hz) hl x (up _ _ hz) ⟨a,b,up _ _ u⟩ (up _ _ n) (p.at λo e=>up _ o e) (q.at λo e=>up _ o e) (r.at λo e=>up _ o e) (L2.at λo e=>up _ o e) t λh' tk d c as C m hl G k=>⟨W,y h' tk d c as (λb o c1 c2 c3 c4 e=>C b o (lt e) c1 c2 c3 c4<|up _ _ e) m hl G k⟩⟩
end
section
theorem Inv.many(I:Inv X pins σ H s)(k:∀b u,s.heap.get? b=Z u->h'.get? b=Z u)(same:AF H l)(new:∀b,b<s.heap.objs.size->H b=ν->l b=ν)(ok:∀b u,H b=ν->l b=Z u->Av X.prog X.w l h' b u):Inv X pins σ l {s with heap:=h',toks:=g}:=by
 refine I.un ⟨λb u q _ _ _=>k b u q,λb u q _ _ _=>⟨u.slots,k b u q⟩,λb u q n _=>new b (ii q) n,λb u q _=>⟨u,k b u q⟩,λb f q=>same _ _ q,λb u f q=>same _ _ q,λb h q=>⟨#[],by rw[same _ _ q];simp⟩⟩ λb u e=>?_;cases d:H b with
 |none=>exact ok b u d e|some i=>
  have:=same _ _ d;rw[this]at e;cases e;exact(I.BN b _ d).Oe (λc v _ q=>k c v q) (λc q=>same _ _ q) λc f q=>same _ _ q
inductive kH(x y:V)(H:Hp)(Q:VK):Prop|mk(a b:Addr)(xs ys:List V)(d:x=.ref a)(e:y=.ref b)(f:H a=Z (.lst xs))(g:H b=Z (.lst ys))(l:xs.length=ys.length)(q:∀(p:Addr) (ts:List Addr) (c:Hp),AF H c->H p=ν->c p=Z (.lst (ts.map V.ref))->ts.length=xs.length->(∀(j:Nat) t x y,ts[j]?=Z t->xs[j]?=Z x->ys[j]?=Z y->c t=Z (.tup [x,y]))->Q (.ref p) c):kH x y H Q
def uI(t1 t2:TE):TE:=fun σ H Q=>t1 σ H λx a=>t2 σ a λy b=>kH x y b Q
theorem Km{e:Type}:∀{as:List Addr}{ws:List e},as.Pairwise (·<·)->∀{j:Nat}{t:Addr}{l:e},as[j]?=Z t->ws[j]?=Z l->(as.zip ws).lookup t=Z l
 |[],_,_,j,t,l,h,_=>by simp at h|a::as,[],_,j,t,l,_,h=>by simp at h|a::as,v::ws,p,0,t,l,c,d=>by
  simp at c d;subst c d;simp
 |a::as,v::ws,p,j+1,t,l,c,d=>by
  obtain⟨f,g⟩:=Z3.mp p;have b:as[j]?=Z t:=GT c
  have ne:t≠a:=C6<|f t<|zf b;have i:(t==a)=false:=GT ne
  rw[zh,y6,i];exact Km g b<|by simpa using d
theorem Gh{b:Type}:∀{as:List Addr}{ws:List b}{t:Addr}{g:b},(as.zip ws).lookup t=Z g->∃j:Nat,as[j]?=Z t/\ws[j]?=Z g
 |[],_,t,g,h=>by simp at h|a::as,[],t,g,h=>by simp at h|a::as,v::ws,t,g,h=>by
  rw[zh,y6]at h;by_cases e:t=a
  .subst e;simp at h;exact⟨0,GE,by simp[h]⟩
  .have c:(t==a)=false:=GT e
   rw[c]at h;obtain⟨j,d,f⟩:=Gh h;exact⟨j+1,GT d,GT f⟩
def md(Q:VK):List V->Hp->Prop
 |[x,y],H=>kH x y H Q|_,_=>False
theorem JE{i g:C5}{p U f:Pos}{t1 t2:TE}(F:X.calm=true)(hg:Gl X "list")(hm:X.mg "list"=ν)(uJ:Gl X "zip")(gC:X.mg "zip"=ν)(h1:PE X i t1)(h2:PE X g t2)(hv:v7 "list"=Z (.type "list"):=by decide+kernel)(iX:v7 "zip"=Z (.type "zip"):=by decide+kernel)(he:q7 [.Call (.Name "zip" U) [i,g] [] f] X.env=(false,GM (.Call (.Name "zip" U) [i,g] [] f) X.env)::q7 [] X.env:=by rfl)(Zm:(N1 pos (q7 [] X.env)).any (·.1)=false:=by rfl)(J:q7 [i,g] X.env=(false,GM i X.env)::q7 [g] X.env:=by rfl)(K:(N1 f (q7 [g] X.env)).any (·.1)=false:=by rfl)(me:q7 [g] X.env=(false,GM g X.env)::q7 [] X.env:=by rfl):
  PE X (.Call (.Name "list" p) [.Call (.Name "zip" U) [i,g] [] f] [] pos) (uI t1 t2):=by
 intro pins s σ H Q I h;refine Fa (EX I hg hm hv ?_ ac ac);refine y0 ?_ he Zm;rw[he];show i9 _ _ (aez ((false,GM (.Call (.Name "zip" U) [i,g] [] f) X.env)::N1 pos (q7 [] X.env))) _ _ s;refine R8 ?_;refine Fa (EX I uJ gC iX ?_ ac ac);refine y0 (BF ((AB h1 (AB h2 BL me) J) f pins s σ H (md Q) I h) λus d zq=>zq.elim λvs Y L r1 ζ=>?_) J K;obtain⟨x,y,rfl⟩:∃x y,vs=[x,y]:=by
  rcases vs with _|⟨x,_|⟨y,_|⟨z,r⟩⟩⟩
  .exact ζ.elim
  .exact ζ.elim
  .exact⟨x,y,W⟩
  .exact ζ.elim
 obtain⟨a,b,xs,ys,rfl,rfl,ha,hb,hl,q⟩:=(show kH x y Y Q from ζ);obtain⟨u,v,rfl,ru,rv⟩:=vals2 r1;cases ru;cases rv;obtain⟨M,r,pl,hz⟩:=L.list<|Ab.of ha;obtain⟨D,r',Wz,ya⟩:=L.list<|Ab.of hb;have i:M.toArray.size=xs.length:=by rw[d7];exact r.length.symm
 have g:D.toArray.size=ys.length:=by rw[d7];exact r'.length.symm
 have alt:a<d.heap.objs.size:=(let⟨_,e,_⟩:=pl.isList;ii e);have blt:b<d.heap.objs.size:=(let⟨_,e,_⟩:=Wz.isList;ii e);refine call_zip_2 pl.isList Wz.isList λk z1 z2 z3 z4 z5 z6 k5=>?_;refine T7 ?_;have lz:d.heap.objs.size+2<d.heap.objs.size+4/\d.heap.objs.size+3<d.heap.objs.size+4/\d.heap.objs.size<d.heap.objs.size+4/\d.heap.objs.size+1<d.heap.objs.size+4:=by
  generalize d.heap.objs.size=n;exact⟨z_,z_,z_,z_⟩
 refine Zl (s:={d with heap:=k}) (xs:=M.toArray) (ys:=D.toArray) (I.ok.hd F) (zipApart_new alt blt) lz (by rw[i,g,hl]) (by rw[i];exact hz) z1 ⟨_,_,z3⟩ z2 z4 z5 (pl.isList.at λo e=>k5 _ o e) (Wz.isList.at λo e=>k5 _ o e) λh' tk acc c m kp hS Zn G N=>?_;have O:k.objs.size=d.heap.objs.size+5:=z6;have kk:∀b o,d.heap.get? b=Z o->h'.get? b=Z o:=λb o e=>by
  have ξ:b<d.heap.objs.size:=ii e;exact kp b o (j7<|bn ξ<|ci _ _) (j7<|bn ξ<|ci _ _) (j7 ξ) (j7<|bn ξ<|ci _ _)<|k5 b o e
 have hlen:m.length=xs.length:=by rw[Zn,i]
 have uK:∀t∈m,d.heap.objs.size<=t:=λt ht=>by
  have:=G.above t ht;have:k.objs.size<t:=this;rw[O]at this;exact gt<|d8 (ci _ _) this
 have Sf:d.heap.objs.size<=k.objs.size:=by rw[O];exact ci _ _
 obtain⟨B,C⟩:∃B:Hp,B=λc=>if c=k.objs.size then Z (.lst<|m.map V.ref)else match(m.zip<|xs.zip ys).lookup c with|some w=>Z (.tup [w.1,w.2])|none=>Y c:=⟨_,W⟩
 have P:B k.objs.size=Z (.lst<|m.map V.ref):=by rw[C];simp
 have R:∀c,c<d.heap.objs.size->B c=Y c:=λc F=>by
  have n1:c≠k.objs.size:=j7<|bn F Sf;have n2:(m.zip<|xs.zip ys).lookup c=none:=by
   cases S:(m.zip<|xs.zip ys).lookup c with
   |none=>rfl|some w=>
    obtain⟨j,j1,_⟩:=Gh S;exact absurd F<|acg.mpr<|uK c<|zf j1
  rw[C];simp only[if_neg n1,n2]
 have same:AF Y B:=λc o e=>by
  have lc:c<d.heap.objs.size:=by
   rcases C7 c d.heap.objs.size with z|z
   .exact z
   .rw[L.BN.fresh z]at e;cases e
  rw[R c lc];exact e
 have E:∀(j:Nat) t x y,m[j]?=Z t->xs[j]?=Z x->ys[j]?=Z y->B t=Z (.tup [x,y]):=λj t x y ht hx hy=>by
  have n1:t≠k.objs.size:=C6<|G.above t<|zf ht;have hw:(xs.zip ys)[j]?=Z (x,y):=by rw[u9];exact⟨hx,hy⟩
  rw[C];simp only[if_neg n1,Km G.rise ht hw]
 have I':Inv X pins σ B {d with heap:=h',toks:=tk}:=by
  refine L.many kk same (λc F n=>by rw[R c F];exact n) λc u hn A=>?_;by_cases T:c=k.objs.size
  .subst T;rw[P]at A;cases A;refine⟨by rw[bi,hlen];exact hz,acc.toList,c,?_,?_⟩
   .rw[N];have gen:∀l:List Addr,Vals (l.map V.ref) (l.map n0):=λl=>by
     induction l with
     |nil=>exact .nil|cons t l ih=>exact .cons W ih
    exact gen m
   .exact hS
  .have yb:=A;rw[C]at A;simp only[if_neg T]at A;cases S:(m.zip<|xs.zip ys).lookup c with
   |none=>rw[S]at A;rw[hn]at A;cases A|some w=>
    rw[S]at A;cases A;obtain⟨j,j1,j2⟩:=Gh S;obtain⟨x,y⟩:=w;rw[u9]at j2;obtain⟨u1,v1,g1,g2,g3⟩:=G.pairs j c j1;obtain⟨ux,k1,rx⟩:=r.get j2.1;obtain⟨uy,k2,ry⟩:=r'.get j2.2;have a1:u1=ux:=by simpa[k1]using g1.symm
    have a2:v1=uy:=by simpa[k2]using g2.symm
    subst a1 a2;exact⟨Ac,[u1,v1],.cons rx<|.cons ry .nil,_,g3,W,_,W⟩
 exact⟨.ref k.objs.size,B,I',W,q k.objs.size m B same (L.BN.fresh Sf) P hlen E⟩
end
theorem DT(b:Int)(u:Tok)(l:Addr)(c:ce)(es:Array abT)(n:Nat)(e:Option Addr)(sl:Array (Option ce)):
  Meets (Builtin.«int.__eq__» ⟨[.int b u,.ref l],[]⟩) (λ_ R s=>s.heap.get? l=Z {cls:=c,dict:=e,data:=.dict es n,slots:=sl}/\R (.ok (.ret .notImplemented)) s):=
 .of_wp λprog w A R s h=>by obtain⟨f,g,d,i,os⟩:=s;obtain⟨a,h⟩:=h;wp_walk using wpAny_loadPart' a,Y4 a;exact⟨_,W,h⟩
theorem DU(b:Str)(u:Tok)(l:Addr)(c:ce)(es:Array abT)(n:Nat)(e:Option Addr)(sl:Array (Option ce)):
  Meets (Builtin.«str.__eq__» ⟨[.str b u,.ref l],[]⟩) (λ_ R s=>s.heap.get? l=Z {cls:=c,dict:=e,data:=.dict es n,slots:=sl}/\R (.ok (.ret .notImplemented)) s):=
 .of_wp λprog w A R s h=>by obtain⟨f,g,d,i,os⟩:=s;obtain⟨a,h⟩:=h;wp_walk using wpAny_loadPart' a,Y4 a;exact⟨_,W,h⟩
section
theorem Bk(c:s.TypeIs (.ref d) "dict")(e:s.TypeIs v T)(a:abS (.type T) (.type "dict")=pure false)(h:Q .notImplemented s):
  i9 (m7 prog w) A (call (.builtin "dict.__eq__") [.ref d,v]) Q E s:=by
 refine y3 V9 c abg ?_<|aaZ _ _;show i9 _ _ (K8 "__eq__" ⟨[.ref d,v],[]⟩>>=_) _ _ s;refine be ?_;unfold K8;refine be<|Os c ?_;show i9 _ _ (pure (n0 d,v)) _ _ s;refine b9 ?_;refine be<|FM (T:=T) (b:=false) e a ?_;simp only[ZB,if_true];exact be<|L8<|b9 ⟨_,W,h⟩
theorem DC(l b:Addr)(items:Array ce)(es:Array abT)(n e:Nat)(f a:Option Addr)(sl c:Array (Option ce)):
  Meets (Builtin.«list.__eq__» ⟨[.ref l,.ref b],[]⟩) (λ_ R s=>s.heap.get? l=Z {cls:=.type "list",dict:=f,data:=.seq items n,slots:=sl}/\s.heap.get? b=Z {cls:=.type "dict",dict:=a,data:=.dict es e,slots:=c}/\R (.ok (.ret .notImplemented)) s):=
 .of_wp λprog w A R s h=>by obtain⟨k,g,d,m,os⟩:=s;obtain⟨i,j,h⟩:=h;have o:=adt;wp_walk using wpAny_loadPart' i,wpAny_loadPart' j;exact⟨_,W,h⟩
structure JF(h:Heap)(b:Addr)(dd:Option Addr)(es:Array abT)(n:Nat)(sl:Array (Option ce)):Prop where
 ho:h.get? b=Z {cls:=.type "dict",dict:=dd,data:=.dict es n,slots:=sl}
theorem Pg(i:Int)(u:Tok)(c:JF s.heap b d es n sl)(e:A.units<cLine):U1 A s (.int i u) (.ref b) false:=λprog w E Q h=>
 F9 (k:=false) (P0 s i u) ⟨_,c.ho,W⟩ ac F.sub_dict_int ael Y0 (λ_ a=>G4 ael (P0 s i u) ad5 (ady _ _) (DT i u b (.type "dict") es n d sl) ⟨c.ho,a⟩) (λ_ a=>Bk ⟨_,c.ho,W⟩ (P0 s i u) abC a) (λ_ a=>V5 (rfl:isSame (.int i u) (.ref b)=pure false) a) (.inr e) h
theorem Ph(i:Int)(u:Tok)(c:JF s.heap b d es n sl)(e:A.units<cLine):U1 A s (.ref b) (.int i u) false:=λprog w E Q h=>
 F9 (k:=false) ⟨_,c.ho,W⟩ (P0 s i u) ac abC abD act (λ_ a=>Bk ⟨_,c.ho,W⟩ (P0 s i u) abC a) (λ_ a=>G4 act (P0 s i u) ad5 (ady _ _) (DT i u b (.type "dict") es n d sl) ⟨c.ho,a⟩) (λ_ a=>V5 (rfl:isSame (.ref b) (.int i u)=pure false) a) (.inr e) h
theorem Pj(x:Str)(u:Tok)(c:JF s.heap b d es n sl)(e:A.units<cLine):U1 A s (.str x u) (.ref b) false:=λprog w E Q h=>
 F9 (k:=false) (PP s x u) ⟨_,c.ho,W⟩ ac F.sub_dict_str aek Y0 (λ_ a=>G4 aek (PP s x u) ad4 (adx _ _) (DU x u b (.type "dict") es n d sl) ⟨c.ho,a⟩) (λ_ a=>Bk ⟨_,c.ho,W⟩ (PP s x u) abB a) (λ_ a=>V5 (rfl:isSame (.str x u) (.ref b)=pure false) a) (.inr e) h
theorem Pl(x:Str)(u:Tok)(c:JF s.heap b d es n sl)(e:A.units<cLine):U1 A s (.ref b) (.str x u) false:=λprog w E Q h=>
 F9 (k:=false) ⟨_,c.ho,W⟩ (PP s x u) ac abB abD acs (λ_ a=>Bk ⟨_,c.ho,W⟩ (PP s x u) abB a) (λ_ a=>G4 acs (PP s x u) ad4 (adx _ _) (DU x u b (.type "dict") es n d sl) ⟨c.ho,a⟩) (λ_ a=>V5 (rfl:isSame (.ref b) (.str x u)=pure false) a) (.inr e) h
theorem br(hl:h.IsList l items)(a:JF h b d es n sl):l≠b:=λe=>by
 subst e;obtain⟨o,ho,c,_⟩:=hl;rw[a.ho]at ho;cases ho;exact absurd c GE
theorem Nb(hl:s.heap.IsList l items)(a:JF s.heap b q es n sl)(m:A.units<cLine):U1 A s (.ref l) (.ref b) false:=λprog w E Q h=>by
 have d:=br hl a;obtain⟨⟨o,e,data,f⟩,ho,g,p,i⟩:=id hl;simp only at g i;subst g i;exact(F9 (k:=false) ⟨_,ho,W⟩ ⟨_,a.ho,W⟩ ac adt Y9 Y0 (λ_ c=>G4 Y9 ⟨_,ho,W⟩ aba (aaG _ _) (DC l b items es p n e q f sl) ⟨ho,a.ho,c⟩) (λ_ c=>Bk ⟨_,a.ho,W⟩ ⟨_,ho,W⟩ aa9 c) (λ_ c=>WF d ho a.ho GE c) (.inr m) h)
theorem Nc(hl:s.heap.IsList l items)(a:JF s.heap b q es n sl)(m:A.units<cLine):U1 A s (.ref b) (.ref l) false:=λprog w E Q h=>by
 have d:=br hl a;obtain⟨⟨o,e,data,f⟩,ho,g,p,i⟩:=id hl;simp only at g i;subst g i;exact(F9 (k:=false) ⟨_,a.ho,W⟩ ⟨_,ho,W⟩ ac aa9 abD abZ (λ_ c=>Bk ⟨_,a.ho,W⟩ ⟨_,ho,W⟩ aa9 c) (λ_ c=>G4 abZ ⟨_,ho,W⟩ aba (aaG _ _) (DC l b items es p n e q f sl) ⟨ho,a.ho,c⟩) (λ_ c=>WF d.symm a.ho ho GE c) (.inr m) h)
end
open PySem.AutoSeq1 (wpAny_loadPart')
open PySem.MeetsSeq3
variable{T:String}
section
def kK(prog:wv)(w:y8)(A:G1)(s:fx)(u v:ce):Prop:=∀(E:ce->fx->Prop)(Q:Bool->fx->Prop),Q true s->i9 (m7 prog w) A (eqBool u v) Q E s
def uL(prog:wv)(w:y8)(A:G1)(s:fx)(u v:ce):Prop:=∀(E:ce->fx->Prop)(Q:ce->fx->Prop),Q (.bool true) s->i9 (m7 prog w) A (adj .Eq u v) Q E s
theorem kK.of(h:aaN A s u v true):kK prog w A s u v:=λE Q a=>h prog w E Q a
theorem call_one{name:Str}{id:String}{B:aeB}{self:ce}{rest:List ce}(slot:Slot T name id)(c:s.TypeIs self T)(entry:aaB aep id=Z B)(args:adG id ⟨self::rest,[]⟩)(g:i9 (m7 prog w) A.in1 (B ⟨self::rest,[]⟩) (λfin a=>match fin with| .done f=>wants Q E (.ok f) a| .again b=>b.quiet=true/\KM (m7 prog w) A b (wants Q E) a) (λe a=>wants Q E (.error e) a) s):
  i9 (m7 prog w) A (call (.builtin id) (self::rest)) Q E s:=adJ (abF slot.plain entry (slot.check _ _ _ _ _ _ _ _ c args g))
theorem MZ(hl:s.heap.IsTuple l items)(G:s.heap.IsTuple b Y)(hsz:items.size=Y.size)(H:A.units<cLine)(I:∀j (r:j<items.size) (z:j<Y.size),kK prog w A.in1 s items[j] Y[j]):uL prog w A s (.ref l) (.ref b):=λE Q h=>by
 obtain⟨⟨J,R,data,S⟩,t,B,n,C⟩:=id hl;obtain⟨⟨D,K,data2,L⟩,k,m,T,o⟩:=id G;simp only at B C m o;subst B C m o;refine F3 (op:=.Eq) ⟨_,t,W⟩ ⟨_,k,W⟩ X0 (y3 X0 ⟨_,t,W⟩ adc ?_<|acS _ _) H;obtain⟨M,g,d,N,os⟩:=s;have U:=Q9;wp_walk using wpAny_loadPart' t,wpAny_loadPart' k,G5 _ (λrest b u=>b.1=ν/\u=⟨M,g,d,N,os⟩/\∃i,rest=(items.toList.zip Y.toList).drop i) _
 case turn=>
  rintro⟨y,x⟩ rest b u ⟨c,rfl,i,p⟩;have e:i<(items.toList.zip Y.toList).length:=by
   rcases C7 i (items.toList.zip Y.toList).length with v|v
   .exact v
   .rw[aa2 v]at p;cases p
  have r:i<items.size:=by simp at e;exact bn e<|J3 _ _
  have z:i<Y.size:=bn r<|bm hsz;rw[A9 e]at p;injection p with q f;have O:y=items[i]:=by have:=congrArg aaC q;simpa using this
  have P:x=Y[i]:=by have:=congrArg abl q;simpa using this
  subst O P;refine be<|I i r z _ _ ?_;wp_walk;exact⟨W,W,i+1,f⟩
 case fin=>
  rintro⟨V,X⟩ u ⟨c,rfl,i,p⟩;simp only at c;subst c;wp_walk;exact⟨_,W,(λx=>nomatch x),by simpa[M4,hsz]using h⟩
 case h=>
  exact⟨W,W,0,W⟩
end
class Be(K:outParam zg):Prop where
 x:True
structure JG(H H':Hp):Prop where
 rd:Fc H H'
 tp:∀a vs,H a=Z (.tup vs)->H' a=Z (.tup vs)
theorem JG.of(s:AF H b):JG H b:=⟨s.r,λa c e=>s _ _ e⟩
theorem JG.Ca{a:Addr}{o:Obj}{kvs:List (Key×V)}{H c:Hp}(F:Ri a o kvs H c):JG H c:=⟨F.rd,λb f e=>by
 have d:b≠a:=λz=>by
  subst z;rcases F.mZ with r|⟨o,r⟩<;>rw[r]at e<;>cases e
 rw[F.ne b d];exact e⟩
theorem JG.trans(a:JG H h)(b:JG h g):JG H g:=⟨a.rd.trans b.rd,λc d e=>b.tp c d<|a.tp c d e⟩
theorem BO.Je{b:Hp}{a:Addr}{xs:List V}(h:BO K H a xs)(s:JG H b):BO K b a xs:=h.imp (λr=>s.rd _ _ r) id
theorem BO.up{b:Hp}{a:Addr}{xs:List V}(h:BO K H a xs)(s:AF H b):BO K b a xs:=h.Je<|.of s
theorem BO.put{a D:Addr}{xs:List V}{o:HO}(h:BO K H a xs)(b:H D=ν):BO K (upd H D o) a xs:=h.up<|AF.new b
inductive Zo(K:zg)(H:Hp):V->String->Prop where
 |n {v:V} {T:String} (h:Ra H v T):Zo K H v T
 |t {a:Addr} {xs:List V} (h:BO K H a xs):Zo K H (.ref a) "tuple"
variable{v:V}
theorem Zo.qD(h:Zo K H v T):∃(a:Hp)(b:V),Ra a b T:=by
 cases h with
 |n h=>exact⟨H,v,h⟩|t h=>exact⟨upd H 0 (.tup []),.ref 0,.tup AD⟩
section
inductive bu(K:zg)(xs:List V)(H:Hp)(Q:VK):Prop|mk(x c T:_)(a:xs=[x,.ty c])(b:ZW c=true)(d:Zo K H x T)(e:Q (.bl (Uo T c)) H)
theorem Uy:Ba X (.builtin "isinstance") (bu X.K):=by
 intro pins s v H i w Q I r h;obtain⟨x,c,T,rfl,j,ty,q⟩:=h;obtain⟨u,y,rfl,g,b⟩:=vals2 r;cases b;obtain⟨A,B,d⟩:=ty.qD;have e:=TF (K:=X.K) d j;cases ty with
 |n ty=>exact PV I g ty e λf=>⟨.bl _,H,I.tok f,W,q⟩|@t a i k=>
  cases(show u=n0 a from g);obtain⟨_,_,p,_⟩:=I.tuple k;obtain⟨o,l,m,_⟩:=p;exact zv R4 I.G' ⟨o,l,m⟩ e (λz=>nomatch z) λf=>⟨.bl _,H,I.tok f,W,q⟩
def W_(T:String):Bool:=T=="list"||T=="tuple"
theorem di(h:Ra H v T):adY K (.type T) [.type "list",.type "tuple"]=Z (W_ T):=by
 cases h<;>kernel_rfl
inductive W'(K:zg)(xs:List V)(H:Hp)(Q:VK):Prop|mk(x:V)(p:Addr)(T:String)(a:xs=[x,.ref p])(b:H p=Z (.tup [.ty "list",.ty "tuple"]))(c:Zo K H x T)(d:Q (.bl (W_ T)) H)
theorem Rk:Ba X (.builtin "isinstance") (W' X.K):=by
 intro pins s G H l J Q I r h;obtain⟨x,p,T,rfl,m,ty,q⟩:=h;obtain⟨u,L,rfl,g,b⟩:=vals2 r;cases b;obtain⟨v,w,y,_⟩:=I.tuple<|BO.of m;obtain⟨⟨A,M,data,N⟩,i,j,n,k⟩:=id y;simp only at j k;subst j k;obtain⟨O,P,c⟩:=ty.qD;have e:=di (K:=X.K) c;cases w with
 |cons B d=>
  cases d with
  |cons C d=>
   cases d;cases B;cases C;cases ty with
   |n ty=>exact Rb I g ty i e λf=>⟨.bl _,H,I.tok f,W,q⟩|@t a l D=>
    cases(show u=n0 a from g);obtain⟨_,_,p,_⟩:=I.tuple D;obtain⟨o,E,F,_⟩:=p;exact J2 R4 I.G' ⟨o,E,F⟩ i e (λz=>nomatch z) λf=>⟨.bl _,H,I.tok f,W,q⟩
end
inductive Pt where
 |int (i:Int)
 |str (x:Str)
 |bl (b:Bool)
 |AZ
 |lst (xs:List Pt)
 |tup (xs:List Pt)
 |Ah (ks:List Str) (xs:List Pt)
namespace Pt
mutual
noncomputable def size:Pt->Nat
 |int _|str _|bl _|AZ=>1
 |lst xs|tup xs=>1+AM xs
 |Ah _ xs=>1+AM xs
noncomputable def AM:List Pt->Nat
 |[]=>0|x::r=>size x+AM r
end
mutual
noncomputable def deep:Pt->Nat
 |int _|str _|bl _|AZ=>1
 |lst xs|tup xs=>1+AW xs
 |Ah _ xs=>1+AW xs
noncomputable def AW:List Pt->Nat
 |[]=>0|x::r=>max (deep x) (AW r)
end
def _root_.L2.Uz(_:Str):Bool:=true
mutual
def doc:Pt->Prop
 |int _=>True|str x=>x.length<=100|bl _=>False|AZ=>False|tup _=>False|lst xs=>Cr xs|Ah ks xs=>ks.length=xs.length/\ks.Nodup/\(∀k∈ks,Uz k=true)/\ks.length<64/\Cr xs
def Cr:List Pt->Prop
 |[]=>True|x::r=>doc x/\Cr r
end
def look(ks:List Str)(xs:List Pt)(k:Str):Option Pt:=(ks.zip xs).lookup k
mutual
noncomputable def CM:Pt->Pt->Bool
 |int i,t=>match t with|int j=>i==j|_=>false
 |str x,t=>match t with|str y=>x==y|_=>false
 |bl a,t=>match t with|bl b=>a==b|_=>false
 |AZ,t=>match t with|AZ=>true|_=>false
 |lst xs,t=>match t with|lst ys=>Cs xs ys|_=>false
 |tup xs,t=>match t with|tup ys=>Cs xs ys|_=>false
 |Ah ks xs,t=>match t with|Ah ls ys=>ks.length==ls.length&&Kn ks xs ls ys|_=>false
noncomputable def Cs:List Pt->List Pt->Bool
 |[],t=>match t with|[]=>true|_=>false
 |x::xs,t=>match t with|y::ys=>CM x y&&Cs xs ys|_=>false
noncomputable def Kn:List Str->List Pt->List Str->List Pt->Bool
 |k::ks,x::xs,ls,ys=>(match look ls ys k with|some y=>CM x y|none=>false)&&Kn ks xs ls ys
 |_,_,_,_=>true
end
theorem XA(xs ys:List Pt):CM (lst xs) (lst ys)=Cs xs ys:=rfl
theorem Dh(xs ys:List Pt):CM (tup xs) (tup ys)=Cs xs ys:=rfl
theorem Gi(ks ls:List Str)(xs ys:List Pt):CM (Ah ks xs) (Ah ls ys)=(ks.length==ls.length&&Kn ks xs ls ys):=rfl
theorem Di(x y:Pt)(xs ys:List Pt):Cs (x::xs) (y::ys)=(CM x y&&Cs xs ys):=rfl
theorem size_pos(t:Pt):1<=t.size:=by cases t<;>simp only[size]<;>lia
theorem DV(t:Pt):1<=t.deep:=by cases t<;>simp only[deep]<;>lia
theorem Ae:∀{xs:List Pt}{x:Pt},x∈xs->x.size<=AM xs
 |y::r,x,h=>by
  simp only[AM];rcases j4.mp h with rfl|h
  .exact ci _ _
  .have:=Ae h;exact am this<|d0 _ _
theorem Au:∀{xs:List Pt}{x:Pt},x∈xs->x.deep<=AW xs
 |y::r,x,h=>by
  simp only[AW];rcases j4.mp h with rfl|h
  .exact A3 _ _
  .have:=Au h;exact am this<|y4 _ _
theorem CQ:∀xs:List Pt,xs.length<=AM xs
 |[]=>bv _|x::r=>by have:=CQ r;have:=size_pos x;simp only[j3,AM];lia
theorem Af:∀{xs:List Pt},Cr xs->∀x∈xs,doc x
 |y::r,h,x,a=>by
  simp only[Cr]at h;rcases j4.mp a with rfl|a
  .exact h.1
  .exact Af h.2 x a
theorem Jr:∀{xs:List Pt},(∀x∈xs,doc x)->Cr xs
 |[],_=>trivial|x::r,h=>⟨h x d9,Jr λy a=>h y (cr _ a)⟩
theorem A_(xs ys:List Pt):AM (xs++ys)=AM xs+AM ys:=by
 induction xs with
 |nil=>simp[AM]|cons x r a=>simp only[D7,AM,a];lia
theorem XB(h:look ks xs k=Z x):k∈ks/\x∈xs:=by
 unfold look at h
 induction ks generalizing xs with
 |nil=>simp at h|cons y r a=>
  cases xs with
  |nil=>simp at h|cons z b=>
   simp only[zh,y6]at h;by_cases e:k=y
   .subst e;simp at h;subst h;exact⟨d9,d9⟩
   .have:(k==y)=false:=GT e
    rw[this]at h;have:=a h;exact⟨cr _ this.1,cr _ this.2⟩
theorem U_(l:ks.length=xs.length)(a:k∈ks):∃x,look ks xs k=Z x:=by
 unfold look
 induction ks generalizing xs with
 |nil=>cases a|cons y r b=>
  cases xs with
  |nil=>simp at l|cons z c=>
   simp only[zh,y6];by_cases e:k=y
   .subst e;exact⟨z,GE⟩
   .have:(k==y)=false:=GT e
    rw[this];exact b (GT l)<|(j4.mp a).resolve_left e
end Pt
mutual
inductive Val{K:zg}[Be K](H:Hp):V->Pt->Prop
 |int (i:Int):Val H (.int i) (.int i)
 |str (x:Str):Val H (.str x) (.str x)
 |bl (b:Bool):Val H (.bl b) (.bl b)
 |AZ:Val H .AZ .AZ
 |lst {a:Addr} {vs:List V} {ts:List Pt} (h:Rd H a (.lst vs)) (r:AR H vs ts):Val H (.ref a) (.lst ts)
 |tup {a:Addr} {vs:List V} {ts:List Pt} (h:BO K H a vs) (r:AR H vs ts):Val H (.ref a) (.tup ts)
 |Ah {a:Addr} {kvs:List (Key×V)} {ks:List Str} {ts:List Pt} (h:Rd H a (.dK kvs)) (c:kvs.map (·.1)=ks.map e9) (r:AR H (kvs.map (·.2)) ts):Val H (.ref a) (.Ah ks ts)
inductive AR{K:zg}[Be K](H:Hp):List V->List Pt->Prop
 |nil:AR H [] []
 |cons {v:V} {t:Pt} {vs:List V} {ts:List Pt} (h:Val H v t) (r:AR H vs ts):AR H (v::vs) (t::ts)
end
variable{kvs:List (Key×V)}{t:Pt}
section
variable [Be K]
def Plain:HO->Prop
 | .lst _| .tup _| .dK _=>True
 |_=>False
theorem AR.kL{b:Hp}(h:AR H vs ts)(s:∀a u,Plain u->Rd H a u->Rd b a u):AR b vs ts:=@AR.rec K _ H (λv t _=>Val b v t) (λvs ts _=>AR b vs ts) .int .str .bl .AZ (λh _ r=>.lst (s _ _ trivial h) r) (λh _ r=>.tup (h.imp (s _ _ trivial) id) r) (λh k _ r=>.Ah (s _ _ trivial h) k r) .nil (λ_ _ h r=>.cons h r) _ _ h
theorem Val.kL{b:Hp}(h:Val H v t)(s:∀a u,Plain u->Rd H a u->Rd b a u):Val b v t:=@Val.rec K _ H (λv t _=>Val b v t) (λc d _=>AR b c d) .int .str .bl .AZ (λh _ r=>.lst (s _ _ trivial h) r) (λh _ r=>.tup (h.imp (s _ _ trivial) id) r) (λh k _ r=>.Ah (s _ _ trivial h) k r) .nil (λ_ _ h r=>.cons h r) _ _ h
theorem Val.Je(s:JG H b)(h:Val H v t):Val b v t:=h.kL λa u _=>s.rd a u
theorem AR.Je(s:JG H b)(h:AR H vs ts):AR b vs ts:=h.kL λa u _=>s.rd a u
theorem Val.up(h:Val H v t)(s:AF H b):Val b v t:=h.Je<|.of s
theorem AR.up(h:AR H b c)(s:AF H d):AR d b c:=h.Je<|.of s
theorem AR.ind{M:List V->List Pt->Prop}(n:M [] [])(c:∀{v t vs ts},Val H v t->AR H vs ts->M vs ts->M (v::vs) (t::ts))(h:AR H vs ts):M vs ts:=@AR.rec K _ H (λ_ _ _=>True) (λvs ts _=>M vs ts) (λ_=>trivial) (λ_=>trivial) (λ_=>trivial) trivial (λ_ _ _=>trivial) (λ_ _ _=>trivial) (λ_ _ _ _=>trivial) n (λh r _=>c h r) _ _ h
theorem AR.length{H:Hp}(h:AR H vs ts):vs.length=ts.length:=h.ind (M:=λvs ts=>vs.length=ts.length) W λ_ _ r=>by rw[j3,j3,r]
theorem AR.two(h:AR H vs ts):∀i:Nat,(vs[i]?=ν/\ts[i]?=ν)∨∃v t,vs[i]?=Z v/\ts[i]?=Z t/\Val H v t:=h.ind (M:=λvs ts=>∀i:Nat,(vs[i]?=ν/\ts[i]?=ν)∨∃v t,vs[i]?=Z v/\ts[i]?=Z t/\Val H v t) (λ_=>.inl ⟨W,W⟩) λh _ r i=>by
 cases i with
 |zero=>exact .inr ⟨_,_,W,W,h⟩|succ i=>simpa using r i
theorem AR.get(h:AR H vs ts)(e:vs[i]?=Z v):∃t,ts[i]?=Z t/\Val H v t:=by
 rcases h.two i with⟨z,_⟩|⟨w,t,a,b,c⟩
 .rw[z]at e;cases e
 .rw[a]at e;cases e;exact⟨t,b,c⟩
theorem AR.get'(h:AR H vs ts)(e:ts[i]?=Z t):∃v,vs[i]?=Z v/\Val H v t:=by
 rcases h.two i with⟨_,z⟩|⟨w,t,a,b,c⟩
 .rw[z]at e;cases e
 .rw[b]at e;cases e;exact⟨w,a,c⟩
theorem AR.append(h:AR H vs ts)(s:AR H ws us):AR H (vs++ws) (ts++us):=h.ind (M:=λvs ts=>AR H (vs++ws)<|ts++us) s λh _ r=>.cons h r
theorem AR.of:∀{vs:List V}{ts:List Pt},vs.length=ts.length->(∀(i:Nat) v t,vs[i]?=Z v->ts[i]?=Z t->Val H v t)->AR H vs ts
 |[],[]=>λ_ _=>.nil|[],_::_=>λl _=>by simp at l|_::_,[]=>λl _=>by simp at l|v::vs,t::ts=>λl h=>.cons (h 0 v t GE GE) (AR.of (GT l) λi w u a b=>h (i+1) w u (GT a) (GT b))
theorem Val.Dr:∀{ks:List Str}{ts:List Pt},kvs.map (·.1)=ks.map e9->AR H (kvs.map (·.2)) ts->∀k:Str,(∃v t,CG kvs (e9 k)=Z v/\Pt.look ks ts k=Z t/\Val H v t)∨(CG kvs (e9 k)=ν/\Pt.look ks ts k=ν):=by
 induction kvs with
 |nil=>
  intro ks ts h r k;cases r;cases ks with
  |nil=>exact .inr ⟨W,W⟩|cons _ _=>simp at h
 |cons p kvs a=>
  intro ks ts h r k;cases ks with
  |nil=>simp at h|cons x ks=>
   obtain⟨y,v⟩:=p;simp only[jp,E7]at h;obtain⟨e,h⟩:=h;subst e;cases r with
   |@cons _ t _ ts b r=>
    by_cases e:k=x
    .subst e;exact .inl ⟨v,t,D_ W,by simp[Pt.look],b⟩
    .have c:(k==x)=false:=GT e
     have d:CG ((e9 x,v)::kvs) (e9 k)=CG kvs (e9 k):=D' (by intro z;exact e (G0 z).symm);have f:Pt.look (x::ks) (t::ts) k=Pt.look ks ts k:=by simp[Pt.look,zh,y6,c]
     rw[d,f];exact a h r k
end
section
variable [Be K]
theorem Val.mf(h:Val H v (.str x)):v=.str x:=by cases h;rfl
theorem Val.qE(h:Val H v (.bl x)):v=.bl x:=by cases h;rfl
theorem Val.tupI(h:Val H v (.tup ts)):∃a vs,v=.ref a/\BO K H a vs/\AR H vs ts:=by cases h with|tup h r=>exact⟨_,_,W,h,r⟩
theorem Val.Fd(h:Val H v (.lst ts)):∃a vs,v=.ref a/\Rd H a (.lst vs)/\AR H vs ts:=by cases h with|lst h r=>exact⟨_,_,W,h,r⟩
theorem Val.Nd(h:Val H v (.Ah ks ts)):∃(a:Addr)(kvs:List (Key×V)),v=.ref a/\Rd H a (.dK kvs)/\kvs.map (·.1)=ks.map e9/\AR H (kvs.map (·.2)) ts:=by cases h with|Ah h b r=>exact⟨_,_,W,h,b,r⟩
theorem AR.Hh(h:AR H vs (t::ts)):∃v a,vs=v::a/\Val H v t/\AR H a ts:=by cases h with|cons h r=>exact⟨_,_,W,h,r⟩
theorem AR.Zp(h:AR H vs []):vs=[]:=by cases h;rfl
theorem Val.t1(h:Val H v (.tup (.str b::ts))):∃t vs,v=.ref t/\BO K H t (.str b::vs)/\AR H vs ts:=by
 obtain⟨t,vs,rfl,h,r⟩:=Val.tupI h;obtain⟨_,_,rfl,g,q⟩:=r.Hh;rw[g.mf]at h;exact⟨_,_,W,h,q⟩
theorem Val.t2(h:Val H v (.tup [.str b,p])):∃t u,v=.ref t/\BO K H t [.str b,u]/\Val H u p:=by
 obtain⟨t,_,e,h,r⟩:=h.t1;obtain⟨u,_,rfl,g,q⟩:=r.Hh;rw[q.Zp]at h;exact⟨t,u,e,h,g⟩
theorem Val.t3(h:Val H v (.tup [.str b,p,q])):∃t u z,v=.ref t/\BO K H t [.str b,u,z]/\Val H u p/\Val H z q:=by
 obtain⟨t,_,e,h,r⟩:=h.t1;obtain⟨u,_,rfl,g,r⟩:=r.Hh;obtain⟨z,_,rfl,a,r⟩:=r.Hh;rw[r.Zp]at h;exact⟨t,u,z,e,h,g,a⟩
theorem Val.t4(h:Val H v (.tup [.str c,p,q,o])):∃t u z y,v=.ref t/\BO K H t [.str c,u,z,y]/\Val H u p/\Val H z q/\Val H y o:=by
 obtain⟨t,_,e,h,r⟩:=h.t1;obtain⟨u,_,rfl,g,r⟩:=r.Hh;obtain⟨z,_,rfl,a,r⟩:=r.Hh;obtain⟨y,_,rfl,b,r⟩:=r.Hh;rw[r.Zp]at h;exact⟨t,u,z,y,e,h,g,a,b⟩
end
section
variable [Be X.K] 
theorem AR.at(r:AR H vs ts)(c:Vals vs its)(h:j<its.toArray.size):∃v t,vs[j]?=Z v/\ts[j]?=Z t/\Val H v t/\RelV v its.toArray[j]:=by
 obtain⟨v,b,a⟩:=Zg c h;obtain⟨t,d,e⟩:=r.get b;exact⟨v,t,b,d,e,a⟩
end
section
end
section
end
inductive U':Pt->Prop
 |int (i:Int):U' (.int i)
 |str (x:Str):U' (.str x)
 |nil:U' (.lst [])
 |emp:U' (.Ah [] [])
inductive Sm:Pt->Prop
 |one {t:Pt} (h:U' t):Sm t
 |row {xs:List Pt} (h:∀x∈xs,U' x):Sm (.lst xs)
 |tab {ks:List Str} {xs:List Pt} (h:∀x∈xs,U' x):Sm (.Ah ks xs)
section
end
section
variable [Be X.K] 
theorem Bz:∀{xs ys:List Pt},xs.length≠ys.length->Pt.Cs xs ys=false
 |[],[],h=>by simp at h|[],_::_,_=>by simp[Pt.Cs]|_::_,[],_=>by simp[Pt.Cs]|x::xs,y::ys,h=>by
  have:=Bz (xs:=xs) (ys:=ys) (GT h);simp[Pt.Cs,this]
def pairE(xs ys:List Pt)(j:Nat):Bool:=match xs[j]?,ys[j]? with
 |some x,Z y=>Pt.CM x y|_,_=>false
theorem Ko:∀{xs ys:List Pt},xs.length=ys.length->(j9 xs.length).all (pairE xs ys)=Pt.Cs xs ys
 |[],[],_=>by simp[Pt.Cs]|[],_::_,h=>by simp at h|_::_,[],h=>by simp at h|x::xs,y::ys,h=>by
  have a:=Ko (xs:=xs) (ys:=ys) (GT h);rw[j3,N2,K4,G8];have b:pairE (x::xs) (y::ys) 0=Pt.CM x y:=by simp[pairE]
  have c:(pairE (x::xs) (y::ys)∘acx)=pairE xs ys:=by
   funext j;simp[pairE]
  rw[b,c,a];simp[Pt.Cs]
theorem Ii(I:Inv X pins σ H s)(h:Rd H p (.dK kvs)):(p==D9)=false/\∃b es n sl,JF s.heap p b es n sl/\es.size=kvs.length:=by
 obtain⟨z,g,l,c,⟨⟨d,b,data,sl⟩,es,n,i,j,f,m,k,o⟩⟩:=EM I.BN h;have e:d=.type "dict":=j.1;simp only at f;subst e f;refine⟨g,b,es,n,sl,⟨i⟩,?_⟩;have:=k.length;rw[c.length,<-this];simp
end
section
end
section
end
def lk{a:Type}(ks:List Str)(xs:List a)(k:Str):Option a:=(ks.zip xs).lookup k
theorem BJ{k:Str}{r:List Str}{z:a}{zs:List a}:lk (y::r) (z::zs) k=if k=y then Z z else lk r zs k:=by
 unfold lk;rw[zh,y6];by_cases e:k=y
 .subst e;simp
 .have:(k==y)=false:=GT e
  rw[this,if_neg e]
variable{ks:List Str}
theorem Ax{xs:List a}{k:Str}{x:a}(h:lk ks xs k=Z x):k∈ks/\x∈xs:=by
 induction ks generalizing xs with
 |nil=>simp[lk]at h|cons y r b=>
  cases xs with
  |nil=>simp[lk]at h|cons z c=>
   rw[BJ]at h;by_cases e:k=y
   .rw[if_pos e]at h;cases h;exact⟨by rw[e];exact d9,d9⟩
   .rw[if_neg e]at h;have:=b h;exact⟨cr _ this.1,cr _ this.2⟩
variable{b:Type}
theorem CD{xs:List b}(l:ks.length=xs.length){k:Str}(a:k∈ks):∃x,lk ks xs k=Z x:=by
 induction ks generalizing xs with
 |nil=>cases a|cons y r c=>
  cases xs with
  |nil=>simp at l|cons z d=>
   rw[BJ];by_cases e:k=y
   .rw[if_pos e];exact⟨z,W⟩
   .rw[if_neg e];exact c (GT l)<|(j4.mp a).resolve_left e
noncomputable def pk{a:Type}(f:a->Pt->Bool):Option a->Option Pt->Bool
 |some x,Z y=>f x y|_,_=>false
noncomputable def Ij{a:Type}(f:a->Pt->Bool):List Str->List a->List Str->List Pt->Bool
 |k::ks,x::xs,ls,ys=>(match lk ls ys k with|some y=>f x y|none=>false)&&Ij f ks xs ls ys
 |_,_,_,_=>true
theorem XC{d:Type}{a b:List d}(p:a.Perm b)(f:d->Bool):a.all f=b.all f:=by
 rw[ul,re,re];exact⟨λh x c=>h x<|p.mem_iff.mpr c,λh x c=>h x<|p.mem_iff.mp c⟩
theorem Hl{b:Type}(f:b->Pt->Bool){ls:List Str}{ys:List Pt}:∀{ks:List Str}{xs:List b},ks.length=xs.length->ks.Nodup->Ij f ks xs ls ys=ks.all λk=>pk f (lk ks xs k) (lk ls ys k)
 |[],[]=>λ_ _=>by simp[Ij]|[],_::_=>λh _=>by simp at h|_::_,[]=>λh _=>by simp at h|k::ks,x::xs=>λl nd=>by
  obtain⟨c,d⟩:=u4.mp nd;rw[K4,BJ,if_pos W];simp only[Ij];rw[Hl f (ks:=ks) (xs:=xs) (GT l) d];congr 1
  .cases lk ls ys k<;>rfl
  .rw[ul,re,re];have e:∀y∈ks,lk (k::ks) (x::xs) y=lk ks xs y:=λy a=>by
    rw[BJ,if_neg λz=>c<|by rw[<-z];exact a]
   exact⟨λh y a=>by rw[e y a];exact h y a,λh y a=>by have:=h y a;rwa [e y a]at this⟩
variable{ss:List Str}
theorem Kq{e:Type}(f:e->Pt->Bool){ls:List Str}{ys bs:List Pt}{xs as:List e}(l:ks.length=xs.length)(nd:ks.Nodup)(g:ss.Perm ks)(c:ss.map (lk ks xs)=as.map Z)(d:ss.map (lk ls ys)=bs.map Z):
  Ij f ks xs ls ys=(as.zip bs).all λp=>f p.1 p.2:=by
 rw[Hl f l nd,<-XC g];clear g nd l
 induction ss generalizing as bs with
 |nil=>
  have:as=[]:=by cases as with|nil=>rfl|cons _ _=>simp at c
  subst this;simp
 |cons k r h=>
  cases as with
  |nil=>simp at c|cons a as=>
   cases bs with
   |nil=>simp at d|cons b bs=>
    simp only[jp,E7]at c d;rw[K4,zh,K4,h c.2 d.2,c.1,d.1];rfl
theorem DH:∀{ks ls:List Str},ks.Nodup->ls.Nodup->ks.length=ls.length->(∀k∈ks,k∈ls)->ks.Perm ls
 |[],ls=>λ_ _ l _=>by
  have:ls=[]:=by cases ls with|nil=>rfl|cons _ _=>simp at l
  subst this;exact .refl _
 |k::ks,ls=>λf g l h=>by
  obtain⟨a,b,e⟩:=List.append_of_mem<|h k d9;subst e;have c:(a++k::b).Perm (k::(a++b)):=List.perm_middle;obtain⟨i,j⟩:=u4.mp f;have m:(k::(a++b)).Nodup:=c.nodup_iff.mp g;obtain⟨o,n⟩:=u4.mp m;refine(List.Perm.cons k<|DH j n (by simp at l⊢;lia) λx d=>?_).trans c.symm;have:=c.mem_iff.mp<|h x<|cr _ d;exact(j4.mp this).resolve_left λz=>i<|by rw[<-z];exact d
theorem GF{ls:List Str}{ys:List Pt}:∀{ks:List Str}{xs:List Pt},Pt.Kn ks xs ls ys=Ij Pt.CM ks xs ls ys
 |[],xs=>by simp[Pt.Kn,Ij]|_::_,[]=>by simp[Pt.Kn,Ij]|k::ks,x::xs=>by simp only[Pt.Kn,Ij];rw[GF];rfl
theorem Pm:∀{xs ys:List Pt},xs.length=ys.length->Pt.Cs xs ys=(xs.zip ys).all λp=>Pt.CM p.1 p.2
 |[],[],_=>rfl|[],_::_,h=>by simp at h|_::_,[],h=>by simp at h|x::xs,y::ys,h=>by simp only[Pt.Di,zh,K4];rw[Pm (GT h)]
def Level:Pt->Pt->Prop
 | .int i,.int j=>i=j| .str x,.str y=>x=y| .lst xs,.lst ys=>xs.length=ys.length| .Ah ks _,.Ah ls _=>ks.Perm ls|_,_=>False
theorem VA{s:Pt}(a:s.doc)(d:t.doc)(h:¬Level s t):Pt.CM s t=false:=by
 cases s with
 |int i=>cases t with
  |int j=>exact beq_eq_false_iff_ne.mpr h|_=>rfl
 |str x=>cases t with
  |str y=>exact beq_eq_false_iff_ne.mpr h|_=>rfl
 |bl b=>simp[Pt.doc]at a|AZ=>simp[Pt.doc]at a|tup c=>simp[Pt.doc]at a|lst c=>
  cases t with
  |lst f=>exact Bz h|_=>rfl
 |Ah n c=>
  cases t with
  |Ah ls f=>
   simp only[Pt.doc]at a d;rw[aal];intro e;simp only[Pt.Gi,fy,beq_iff_eq]at e;obtain⟨o,g⟩:=e;rw[GF,Hl _ a.1 a.2.1,re]at g;refine h (DH a.2.1 d.2.1 o λk p=>?_);have:=g k p;cases l:lk ls f k with
   |none=>
    rw[l]at this;cases m:lk n c k with
    |none=>rw[m]at this;cases this|some x=>rw[m]at this;cases this
   |some y=>exact(Ax l).1
  |_=>rfl
def Ma:Pt->List V->Prop
 | .lst xs,l=>l=(j9 xs.length).map λ(i:Nat)=>V.int (i:Int)| .Ah ks _,l=>∃ss:List Str,l=ss.map V.str/\ss.Perm ks/\KB ss=true|_,l=>l=[]
def Fe:Pt->Prop
 | .int _=>True| .str _=>True| .lst xs=>xs.length<=900| .Ah ks xs=>ks.length=xs.length/\ks.length<64|_=>False
def Ik:Pt->List Pt->Prop
 | .lst xs,ts=>ts=xs| .Ah ks xs,ts=>∃ss:List Str,ss.Perm ks/\KB ss=true/\ss.map (lk ks xs)=ts.map Z|_,ts=>ts=[]
theorem Ik.one{as bs:List Pt}(h:Ik t as)(h':Ik t bs):as=bs:=by
 cases t with
 |lst c=>exact(show as=c from h).trans (show bs=c from h').symm|Ah l c=>
  obtain⟨m,e,f,g⟩:=h;obtain⟨n,i,j,d⟩:=h';have:=Bs f j<|e.trans i.symm;subst this;rw[g]at d;have inj:∀{a b:List Pt},a.map Z=b.map Z->a=b:=by
   intro a
   induction a with
   |nil=>intro b h;cases b with|nil=>rfl|cons _ _=>simp at h
   |cons x r k=>
    intro b h;cases b with
    |nil=>simp at h|cons y q=>
     simp only[jp,E7]at h;rw[ze h.1,k h.2]
  exact inj d
 |_=>exact(show as=[]from h).trans (show bs=[]from h').symm
theorem Pn(d:t.doc){ts:List Pt}(h:Ik t ts):Pt.Cr ts:=by
 cases t with
 |lst a=>simp only[Pt.doc]at d;rw[show ts=a from h];exact d|Ah b a=>
  simp only[Pt.doc]at d;obtain⟨c,i,j,f⟩:=h;refine Pt.Jr λx g=>?_;have:Z x∈c.map (lk b a):=by rw[f];exact A1 g
  obtain⟨k,_,e⟩:=u7.mp this;exact Pt.Af d.2.2.2.2 x (Ax e).2
 |_=>rw[show ts=[]from h];trivial
theorem Rm{s:Pt}(a:s.doc)(n:t.doc)(h:Level s t){as bs:List Pt}(c:Ik s as)(d:Ik t bs):as.length=bs.length/\Pt.CM s t=(as.zip bs).all λp=>Pt.CM p.1 p.2:=by
 cases s with
 |int i=>
  cases t with
  |int j=>rw[show as=[]from c,show bs=[]from d];exact⟨W,beq_iff_eq.mpr h⟩|_=>exact h.elim
 |str x=>
  cases t with
  |str j=>rw[show as=[]from c,show bs=[]from d];exact⟨W,beq_iff_eq.mpr h⟩|_=>exact h.elim
 |bl b=>simp[Pt.doc]at a|AZ=>simp[Pt.doc]at a|tup e=>simp[Pt.doc]at a|lst e=>
  cases t with
  |lst f=>rw[show as=e from c,show bs=f from d];exact⟨h,Pm h⟩|_=>exact h.elim
 |Ah g e=>
  cases t with
  |Ah ls f=>
   simp only[Pt.doc]at a n;have h:g.Perm ls:=h;obtain⟨v,k,o,l⟩:=c;obtain⟨w,q,r,m⟩:=d;have:=Bs o r<|(k.trans h).trans q.symm;subst this;refine⟨?_,?_⟩
   .have l1:=congrArg sw l;have l2:=congrArg sw m;simp only[bi]at l1 l2;exact l1.symm.trans l2
   .have u:g.length=ls.length:=h.length_eq;simp only[Pt.Gi,u,beq_self_eq_true,zk];rw[GF];exact Kq _ a.1 a.2.1 k l m
  |_=>exact h.elim
theorem Mb{ts:List Pt}(d:t.doc)(h:Ik t ts):Pt.AM ts<t.size:=by
 cases t with
 |lst a=>rw[show ts=a from h];simp only[Pt.size];lia|Ah b a=>
  simp only[Pt.doc]at d;obtain⟨m,f,n,g⟩:=h;have c:∀{b:List Str}{a:List Pt},b.length=a.length->b.Nodup->b.map (lk b a)=a.map some:=by
   intro b
   induction b with
   |nil=>intro a l _;cases a with|nil=>rfl|cons _ _=>simp at l
   |cons k r e=>
    intro a l nd;cases a with
    |nil=>simp at l|cons x a=>
     obtain⟨o,p⟩:=u4.mp nd;rw[jp,jp,BJ,if_pos W,<-e (GT l) p];congr 1;exact A2 λy q=>by rw[BJ,if_neg λz=>o<|by rw[<-z];exact q]
  have i:(ts.map Z).Perm (a.map Z):=by rw[<-g,<-c d.1 d.2.1];exact f.map _
  have j:=i.filterMap id;have s:ts.Perm a:=GT j
  have:Pt.AM ts=Pt.AM a:=by
   clear g i j d n f c m
   induction s with
   |nil=>rfl|cons x _ e=>simp only[Pt.AM,e]|swap x y l=>simp only[Pt.AM];lia|trans _ _ u v=>exact u.trans v
  simp only[Pt.size,this];lia
 |tup a=>simp[Pt.doc]at d|_=>rw[show ts=[]from h];simp[Pt.AM,Pt.size]
variable{ts:List Addr}{l:List V}
section
variable [Be K]
def dn(H:Hp)(v s e:V):Prop:=(∃a c j,v=.ref a/\Rd H a (.lst c)/\s=.int ((j:Nat):Int)/\c[j]?=Z e)∨∃a b k,v=.ref a/\Rd H a (.dK b)/\s=.str k/\CG b (e9 k)=Z e
theorem Ks{ts:List Pt}(d:kvs.map (·.1)=ks.map e9)(r:AR H (kvs.map (·.2)) ts)(l:ks.length=ts.length)(h:∀k∈ss,k∈ks):
  ∃(es:List V)(us:List Pt),AR H es us/\ss.map (lk ks ts)=us.map Z/\es.length=ss.length/\∀(i:Nat) e,es[i]?=Z e->∃k,ss[i]?=Z k/\CG kvs (e9 k)=Z e:=by
 induction ss with
 |nil=>exact⟨[],[],.nil,W,W,λi e h=>by simp at h⟩|cons k ss f=>
  obtain⟨es,us,g,j,m,n⟩:=f λx a=>h x<|cr _ a;rcases Val.Dr d r k with⟨v,t,o,b,p⟩|⟨_,b⟩
  .refine⟨v::es,t::us,.cons p g,by rw[jp,jp,j];congr 1,by rw[j3,j3,m],λi e c=>?_⟩;cases i with
   |zero=>simp at c;subst c;exact⟨k,GE,o⟩|succ i=>
    obtain⟨q,a1,a2⟩:=n i e (GT c);exact⟨q,GT a1,a2⟩
  .obtain⟨x,a⟩:=Pt.U_ l<|h k d9;rw[a]at b;cases b
theorem Val.kids(n:Val H v t)(hold:Fe t)(st:Ma t l):∃(es:List V)(us:List Pt),AR H es us/\Ik t us/\es.length=l.length/\∀(i:Nat) e,es[i]?=Z e->∃s,l[i]?=Z s/\dn H v s e:=by
 cases n with
 |int i=>rw[show l=[]from st];exact⟨[],[],.nil,W,W,λi e h=>by simp at h⟩|str i=>rw[show l=[]from st];exact⟨[],[],.nil,W,W,λi e h=>by simp at h⟩|bl b=>exact hold.elim|AZ=>exact hold.elim|tup _ _=>exact hold.elim|@lst a f g h r=>
  have e:=r.length;rw[show l=_ from st];refine⟨f,g,r,W,by simp[e],λi x j=>⟨.int (i:Int),?_,.inl ⟨a,f,i,W,h,W,j⟩⟩⟩;have o:=Cd j;rw[b6,J7<|bn o<|bm e];rfl
 |@Ah a c A g h d r=>
  obtain⟨ss,rfl,m,p⟩:=st;obtain⟨es,us,q,u,w,y⟩:=Ks d r hold.1 (ss:=ss) λk d=>m.mem_iff.mp d;refine⟨es,us,q,⟨ss,m,p,u⟩,by rw[bi];exact w,λi e z=>?_⟩;obtain⟨k,k1,k2⟩:=y i e z;exact⟨.str k,by rw[b6,k1];rfl,.inr ⟨a,c,k,W,h,W,k2⟩⟩
theorem Il(d:t.doc)(z:t.size<=900):Fe t:=by
 cases t with
 |int i=>trivial|str x=>trivial|bl b=>simp[Pt.doc]at d|AZ=>simp[Pt.doc]at d|tup a=>simp[Pt.doc]at d|lst a=>simp only[Pt.size]at z;have:=Pt.CQ a;exact show a.length<=900 from(am (am this (d0 _ _)) z)|Ah c a=>simp only[Pt.doc]at d;exact⟨d.1,d.2.2.2.1⟩
noncomputable def Pt.TL:Pt->String
 | .int _=>"int"| .str _=>"str"| .bl _=>"bool"| .AZ=>"NoneType"| .lst _=>"list"| .tup _=>"tuple"| .Ah _ _=>"dict"
theorem Val.ty(h:Val H v t):Zo K H v t.TL:=by
 cases h with
 |int i=>exact .n (.int i)|str x=>exact .n (.str x)|bl b=>exact .n (.bl b)|AZ=>exact .n .AZ|lst h _=>exact .n (.lst h)|tup h _=>exact .t h|Ah h _ _=>exact .n (.dK h)
theorem Val.mh(h:Val H v t)(d:t.doc):Ra H v t.TL:=by
 cases h with
 |int i=>exact .int i|str x=>exact .str x|bl b=>exact .bl b|AZ=>exact .AZ|lst h _=>exact .lst h|tup h _=>simp[Pt.doc]at d|Ah h _ _=>exact .dK h
def Ff:Sp:=λb H Q _=>∃(v:V)(t:Pt),b=[v]/\Val H v t/\Fe t/\∀(p:Addr)(l:List V)(a:Hp),AF H a->H p=ν->a p=Z (.lst l)->Ma t l->Q (.ref p) a
def Ho:Sp:=λd H Q _=>∃(G:Hp)(v:V)(t:Pt),d=[v]/\AF G H/\Val G v t/\Fe t/\∀(p:Addr)(b:List V)(c:List Pt)(a:Hp),AF H a->H p=ν->a p=Z (.lst b)->AR G b c->Ik t c->Q (.ref p) a
def TM:Sp:=λc H Q _=>∃(x y:V)(s t:Pt),c=[x,y]/\Val H x s/\Val H y t/\s.doc/\t.doc/\s.size<=900/\t.size<=900/\∀(b:Bool)(a:Hp),AF H a->(b=true↔Level s t)->Q (.bl b) a
def TN:Sp:=λb H Q _=>∃(x y:V)(s t:Pt),b=[x,y]/\Val H x s/\Val H y t/\s.doc/\t.doc/\s.size<=900/\t.size<=900/\∀a,AF H a->Q (.bl<|Pt.CM s t) a
theorem Nf{R:a->b->Prop}{es fs:List a}{c rs:List b}(h:Paired R es c)(g:Paired R fs rs):Paired R (es++fs) (c++rs):=by
 induction h with
 |nil=>exact g|cons h _ d=>exact .cons h d
theorem XD{R:a->b->Prop}{es:List a}{c:List b}(h:Paired R es c):∀{i:Nat}{x:a},es[i]?=Z x->∃q,c[i]?=Z q/\R x q:=by
 induction h with
 |nil=>exact λe=>by cases e|cons h _ d=>
  intro i x e;cases i with
  |zero=>cases e;exact⟨_,W,h⟩|succ i=>exact d e
theorem TQ{d e:Type}{R:d->e->Prop}{ts:List d}{ps:List e}(h:Paired R ts ps)(n:ts≠[]):∃us t c p,ts=us++[t]/\ps=c++[p]/\Paired R us c/\R t p:=by
 induction h with
 |nil=>exact absurd W n|cons h r f=>
  cases r with
  |nil=>exact⟨[],_,[],_,W,W,.nil,h⟩|cons j r=>
   obtain⟨us,t,c,p,g,i,a,b⟩:=f<|List.cons_ne_nil _ _;rw[g,i];exact⟨_::us,t,_::c,p,W,W,.cons h a,b⟩
theorem XE{R:a->b->Prop}{ts:List a}:∀{ps:List b},ts.length=ps.length->(∀(i:Nat) t p,ts[i]?=Z t->ps[i]?=Z p->R t p)->Paired R ts ps:=by
 induction ts with
 |nil=>intro ps l _;cases ps with
  |nil=>exact .nil|cons _ _=>cases l
 |cons t ts c=>intro ps l h;cases ps with
  |nil=>cases l|cons p ps=>exact .cons (h 0 _ _ W W) (c (Nat.succ.inj l) λi=>h (i+1))
inductive uM{K:zg}[Be K](G H:Hp)(t:Addr)(p:Pt×Pt):Prop|mk{u v:V}(h:H t=Z (.tup [u,v]))(a:Val G u p.1)(b:Val G v p.2)
abbrev Bu{K:zg}[Be K](G H:Hp):List Addr->List (Pt×Pt)->Prop:=Paired<|uM (K:=K) G H
theorem Bu.up{ps:List (Pt×Pt)}(h:Bu G H ts ps)(s:∀t u v,H t=Z (.tup [u,v])->d t=Z (.tup [u,v])):Bu G d ts ps:=Paired.UQ h λ_ _ ⟨h,b,c⟩=>⟨s _ _ _ h,b,c⟩
theorem Bu.zip{xs ys:List V}{as bs:List Pt}(h:AR G xs as)(g:AR G ys bs)(l:ts.length=xs.length)(a:xs.length=ys.length)(k:∀(j:Nat) t x y,ts[j]?=Z t->xs[j]?=Z x->ys[j]?=Z y->H t=Z (.tup [x,y])):Bu G H ts (as.zip bs):=by
 have b:=h.length;have c:=g.length;refine XE (by rw[Rs,<-b,<-c,<-a,aaR,l]) λi t p d e=>?_;obtain⟨f,m⟩:=u9.mp e;obtain⟨x,n,o⟩:=h.get' f;obtain⟨y,q,r⟩:=g.get' m;exact⟨k i t x y d n q,o,r⟩
noncomputable def Fg:List (Pt×Pt)->Nat
 |[]=>0|p::r=>p.1.size+Fg r
theorem Fh(a b:List (Pt×Pt)):Fg (a++b)=Fg a+Fg b:=by
 induction a with
 |nil=>simp[Fg]|cons p r c=>simp only[D7,Fg,c];lia
theorem Po:∀a:List (Pt×Pt),a.length<=Fg a
 |[]=>bv _|p::r=>by have:=Po r;have:=Pt.size_pos p.1;simp only[j3,Fg];lia
theorem Pp:∀{as bs:List Pt},as.length=bs.length->Fg (as.zip bs)=Pt.AM as
 |[],[],_=>rfl|[],_::_,h=>by simp at h|_::_,[],h=>by simp at h|a::as,b::bs,h=>by simp only[zh,Fg,Pt.AM];rw[Pp (GT h)]
theorem VB{a b:List Str}(h:GW (a.map V.str) (b.map V.str)=true):a=b:=by
 unfold GW at h;simp only[fy,beq_iff_eq,bi]at h;obtain⟨c,d⟩:=h;refine No d λi e f=>?_;have:=(re.mp c) i (zw.mpr z_);rw[b7,b7,b6,b6,zc e,zc f]at this;simpa[O_]using this
theorem VC(a b:List Str):GW (a.map V.str) (b.map V.str)=true↔a=b:=by
 constructor
 .intro h;have:=VB h;exact this
 .intro h;subst h;exact MV λz c=>by obtain⟨x,_,rfl⟩:=u7.mp c;rfl
end
section
inductive mj(K:zg)(xs:List V)(H:Hp)(Q:VK):Prop|mk(p:Addr)(bs:List Bool)(a:xs=[.ref p])(b:Ab K H p (bs.map V.bl))(c:Q (.bl (bs.any id)) H)
theorem Hr(w:X.calm=true):Ba X (.builtin "any") (mj X.K):=by
 intro pins s J H L M Q I r h;obtain⟨p,bs,rfl,x,q⟩:=h;obtain⟨u,rfl,k⟩:=vals1 r;cases k;obtain⟨c,l,pl,N⟩:=I.list x;obtain⟨y,d,f⟩:=id pl.isList;have m:p<s.heap.objs.size:=ii d;have n:X.A.in1.handled=none:=I.ok.hd w;have hlen:c.toArray.size=bs.length:=by rw[d7,<-l.length,bi]
 refine call_any_walk<|O2 pl.isList ⟨s.heap.objs.size,_,_,_,_,_,λi=>bs.getD i true,W,Walks.list n s.heap.objs.size p (j7 m) c.toArray,⟨⟨_,j8 _ W,W,W⟩,⟨y,ca _ d,f⟩⟩,?_,λO B kept=>?_⟩
 .intro i v C D P g j;have g:c[i]?=Z v:=GT g
  have a:i<bs.length:=by
   have:=Cd g;rw[<-l.length,bi]at this;exact this
  have e:(bs.map V.bl)[i]?=Z (V.bl bs[i]):=by rw[b6,zc a];rfl
  obtain⟨u,t,k⟩:=l.get e;rw[g]at t;cases t;cases k;have E:bs.getD i true=bs[i]:=by rw[b7,zc a];rfl
  have j:D (bs.getD i true) C:=j;rw[E]at j;exact C9 j
 .refine⟨.bl<|bs.any id,H,I.kept (t':=B) λb o e=>kept b o (λz=>?_)<|ca _ e,?_,q⟩
  .have F:b=s.heap.objs.size:=GT z
   exact j7 (ii e) F
  .show B1 _=B1 _;congr 1;rw[hlen,ul,K6,K6];constructor
   .intro⟨i,a,h⟩;have a:=zw.mp a;rw[b7,zc a]at h;exact⟨_,G7 a,h⟩
   .intro⟨b,G,h⟩;obtain⟨i,a,rfl⟩:=abI.mp G;exact⟨i,zw.mpr a,by rw[b7,zc a];exact h⟩
end
inductive Ak where
 |any
 |AY (d:Pt)
 |row (xs:List Ak) (m:Bool)
 |tab (ks:List Str) (xs:List Ak) (ls:List Str) (m:Bool)
namespace Ak
mutual
noncomputable def pt:Ak->Pt
 |any=>.tup [.str "any"]|AY d=>.tup [.str "just",d]|row xs m=>.tup [.str "row",.lst (EZ xs),.bl m]|tab ks xs ls m=>.tup [.str "table",.Ah ks (EZ xs),.lst (ls.map Pt.str),.bl m]
noncomputable def EZ:List Ak->List Pt
 |[]=>[]|x::r=>pt x::EZ r
end
theorem AV:∀xs:List Ak,EZ xs=xs.map pt
 |[]=>rfl|x::r=>by simp only[EZ,jp,AV r]
mutual
noncomputable def size:Ak->Nat
 |any=>1|AY _=>1|row xs _=>1+AM xs|tab _ xs _ _=>1+AM xs
noncomputable def AM:List Ak->Nat
 |[]=>0|x::r=>size x+AM r
end
mutual
noncomputable def deep:Ak->Nat
 |any=>1|AY _=>1|row xs _=>1+AW xs|tab _ xs _ _=>1+AW xs
noncomputable def AW:List Ak->Nat
 |[]=>0|x::r=>max (deep x) (AW r)
end
mutual
def ok:Ak->Prop
 |any=>True|AY d=>Sm d/\d.doc/\d.size<=4|row xs _=>Js xs|tab ks xs ls _=>ks.length=xs.length/\ks.Nodup/\(∀k∈ks,Uz k=true)/\ks.length<60/\(ls.length<=60/\ls.Nodup/\KB ls=true)/\(∀l∈ls,l∉ks)/\Js xs
def Js:List Ak->Prop
 |[]=>True|x::r=>ok x/\Js r
end
mutual
def F':Ak->Prop
 |any=>True|AY _=>True|row xs _=>Lq xs|tab ks xs ls _=>ks.length+ls.length<=4/\Lq xs
def Lq:List Ak->Prop
 |[]=>True|x::r=>F' x/\Lq r
end
theorem ES:Lq d->Lq m->Lq (d++m):=by
 induction d with
 |nil=>exact λ_ h=>h|cons x r c=>exact λh g=>⟨h.1,c h.2 g⟩
theorem Fi:∀{xs:List Ak},Lq xs->∀x∈xs,F' x
 |y::r,h,x,a=>by
  rcases j4.mp a with rfl|a
  .exact h.1
  .exact Fi h.2 x a
theorem size_pos(t:Ak):1<=t.size:=by cases t<;>simp only[size]<;>lia
theorem DV(t:Ak):1<=t.deep:=by cases t<;>simp only[deep]<;>lia
theorem CQ:∀xs:List Ak,xs.length<=AM xs
 |[]=>bv _|x::r=>by have:=CQ r;have:=size_pos x;simp only[j3,AM];lia
theorem Ae:∀{xs:List Ak}{x:Ak},x∈xs->x.size<=AM xs
 |y::r,x,h=>by
  simp only[AM];rcases j4.mp h with rfl|h
  .exact ci _ _
  .have:=Ae h;exact am this<|d0 _ _
theorem Au:∀{xs:List Ak}{x:Ak},x∈xs->x.deep<=AW xs
 |y::r,x,h=>by
  simp only[AW];rcases j4.mp h with rfl|h
  .exact A3 _ _
  .have:=Au h;exact am this<|y4 _ _
theorem Ct:∀{xs:List Ak},Js xs->∀x∈xs,ok x
 |y::r,h,x,a=>by
  simp only[Js]at h;rcases j4.mp a with rfl|a
  .exact h.1
  .exact Ct h.2 x a
theorem Kt:∀{xs:List Ak},(∀x∈xs,ok x)->Js xs
 |[],_=>trivial|x::r,h=>⟨h x d9,Kt λy a=>h y (cr _ a)⟩
def cnt(c l:Nat)(m:Bool):Bool:=c==l||(m&&decide (l<c))
noncomputable def CI:Ak->Pt->Bool
 |any,_=>true|AY d,t=>Pt.CM d t|row xs m,.lst ys=>cnt ys.length xs.length m|tab ks _ ls m,.Ah ns _=>ks.all (λk=>decide (k∈ns))&& !(ls.any λk=>decide (k∈ns))&&cnt ns.length ks.length m|_,_=>false
mutual
noncomputable def lets:Ak->Pt->Bool
 |any,_=>true|AY d,t=>Pt.CM d t|row xs m,.lst ys=>cnt ys.length xs.length m&&Fj xs ys|tab ks xs ls m,.Ah ns ys=>(ks.all (λk=>decide (k∈ns))&& !(ls.any λk=>decide (k∈ns))&&cnt ns.length ks.length m)&&Ku ks xs ns ys|_,_=>false
noncomputable def Fj:List Ak->List Pt->Bool
 |a::as,y::ys=>lets a y&&Fj as ys|_,_=>true
noncomputable def Ku:List Str->List Ak->List Str->List Pt->Bool
 |k::ks,x::xs,ns,ys=>(match lk ns ys k with|some y=>lets x y|none=>false)&&Ku ks xs ns ys
 |_,_,_,_=>true
end
theorem FC:∀{ks:List Str}{xs:List Ak},Ku ks xs ns ys=Ij lets ks xs ns ys
 |[],xs=>by simp[Ku,Ij]|_::_,[]=>by simp[Ku,Ij]|k::ks,x::xs=>by simp only[Ku,Ij];rw[FC];try(cases lk ns ys k<;>rfl)
theorem Im:∀{xs:List Ak}{ys:List Pt},Fj xs ys=(xs.zip ys).all λp=>lets p.1 p.2
 |[],_=>by simp[Fj]|_::_,[]=>by simp[Fj]|x::xs,y::ys=>by simp only[Fj,zh,K4];rw[Im]
theorem XF(h:CI g t=false):lets g t=false:=by
 cases g with
 |any=>simp[CI]at h|AY d=>simpa[CI,lets]using h|row b m=>cases t<;>simp_all [CI,lets]|tab c b ls m=>
  cases t with
  |Ah e f=>simp only[CI]at h;simp only[lets];rw[h,F7]|_=>simp[lets]
def Kp:Ak->Pt->List (Ak×Pt)->Prop
 |row xs _,.lst ys,ps=>ps=xs.zip ys|tab ks xs _ _,.Ah ns ys,ps=>∃(ss:List Str)(as:List Ak)(bs:List Pt),ss.Perm ks/\ss.map (lk ks xs)=as.map Z/\ss.map (lk ns ys)=bs.map Z/\ps=as.zip bs|_,_,ps=>ps=[]
theorem VD(o:q.ok)(h:CI q t=true)(k:Kp q t ps):lets q t=ps.all λp=>lets p.1 p.2:=by
 cases q with
 |any=>rw[show ps=[]from k];simp[lets]|AY d=>rw[show ps=[]from k];simpa[lets,CI]using h|row b m=>
  cases t with
  |lst c=>rw[show ps=b.zip c from k];simp only[CI]at h;simp only[lets];rw[h,zk,Im]|_=>simp[CI]at h
 |tab i b ls m=>
  cases t with
  |Ah j c=>
   obtain⟨l,n,bs,e,f,g,rfl⟩:=k;simp only[ok,CI]at o h;simp only[lets];rw[h,zk,FC];exact Kq _ o.1 o.2.1 e f g
  |_=>simp[CI]at h
noncomputable def hold:Ak->Pt
 |row xs _=>.lst (EZ xs)|tab ks xs _ _=>.Ah ks (EZ xs)|_=>.lst []
end Ak
section
variable [Be K]
inductive VE(H:Hp):Ak->Str->List V->Prop
 |any:VE H .any "any" []
 |AY (d:Pt) (u:V) (h:Val (K:=K) H u d):VE H (.AY d) "just" [u]
 |row (xs:List Ak) (m:Bool) (u:V) (h:Val (K:=K) H u (.lst (Ak.EZ xs))):VE H (.row xs m) "row" [u,.bl m]
 |tab (ks:List Str) (xs:List Ak) (ls:List Str) (m:Bool) (u z:V) (h:Val (K:=K) H u (.Ah ks (Ak.EZ xs))) (g:Val (K:=K) H z (.lst (ls.map Pt.str))):VE H (.tab ks xs ls m) "table" [u,z,.bl m]
inductive qF(H:Hp)(a:Ak):V->Prop
 |mk(t:Addr)(w:Str)(rest:List V)(h:BO K H t (.str w::rest))(c:VE (K:=K) H a w rest):qF H a (.ref t)
theorem Val.ak{a:Ak}(h:Val H v a.pt):qF (K:=K) H a v:=by
 cases a with
 |any=>
  obtain⟨t,_,rfl,h,q⟩:=Val.t1 (ts:=[]) h;rw[q.Zp]at h;exact⟨t,_,_,h,.any⟩
 |AY d=>
  obtain⟨t,u,rfl,h,g⟩:=Val.t2 (p:=d) h;exact⟨t,_,_,h,.AY d u g⟩
 |row b m=>
  obtain⟨t,u,z,rfl,h,g,c⟩:=Val.t3 (q:=.bl m) h;rw[c.qE]at h;exact⟨t,_,_,h,.row b m u g⟩
 |tab e b ls m=>
  obtain⟨t,u,z,y,rfl,h,g,c,f⟩:=Val.t4 (o:=.bl m) h;rw[f.qE]at h;exact⟨t,_,_,h,.tab e b ls m u z g c⟩
def Ng:Sp:=λa H Q _=>∃(c l:Nat)(m:Bool),a=[.int (c:Int),.int (l:Int),.bl m]/\Q (.bl<|Ak.cnt c l m) H
def Pq:Sp:=λe H Q _=>∃(G:Hp)(v:V)(a:Ak),e=[v]/\AF G H/\Val G v a.pt/\∀(w:V)(b:Hp),AF H b->(((∃c m,a=.row c m)∨∃f c ls m,a=.tab f c ls m)/\Val G w a.hold∨((a=.any∨∃d,a=.AY d)/\∃p,w=.ref p/\b p=Z (.lst [])))->Q w b
def Mc:Sp:=λf H Q _=>∃(v y:V)(a:List Str)(b:List Ak)(ls:List Str)(m:Bool)(c:List Str)(d:List Pt),f=[v,y]/\Val H v (Ak.tab a b ls m).pt/\Val H y (.Ah c d)/\(Ak.tab a b ls m).ok/\(Pt.Ah c d).doc/\∀e,AF H e->Q (.bl<|Ak.CI (.tab a b ls m)<|.Ah c d) e
def bx:Sp:=λc H Q _=>∃(v y:V)(a:Ak)(t:Pt),c=[v,y]/\Val H v a.pt/\Val H y t/\a.ok/\t.doc/\a.size<=900/\t.size<=900/\∀b,AF H b->Q (.bl<|Ak.CI a t) b
def Pr:Sp:=λc H Q _=>∃(v y:V)(a:Ak)(t:Pt),c=[v,y]/\Val H v a.pt/\Val H y t/\a.ok/\t.doc/\a.size<=900/\t.size<=900/\∀b,AF H b->Q (.bl<|Ak.lets a t) b
end
section
variable [Be K]
theorem Ht:∀{ks:List Str}{xs:List a},ks.length=xs.length->ks.Nodup->ks.map (lk ks xs)=xs.map some:=by
 intro ks
 induction ks with
 |nil=>intro xs l _;cases xs with|nil=>rfl|cons _ _=>simp at l
 |cons k r b=>
  intro xs l nd;cases xs with
  |nil=>simp at l|cons x xs=>
   obtain⟨c,d⟩:=u4.mp nd;rw[jp,jp,BJ,if_pos W,<-b (GT l) d];congr 1;exact A2 λy e=>by rw[BJ,if_neg λz=>c<|by rw[<-z];exact e]
theorem Cu{xs as:List a}(l:ks.length=xs.length)(nd:ks.Nodup)(b:ss.Perm ks)(e:ss.map (lk ks xs)=as.map Z):as.Perm xs:=by
 have c:(as.map Z).Perm (xs.map Z):=by rw[<-e,<-Ht l nd];exact b.map _
 have d:=c.filterMap id;simpa using d
theorem Gj{b:Type}{ks:List Str}{xs:List b}(l:ks.length=xs.length):∀{ss:List Str},(∀k∈ss,k∈ks)->∃as:List b,ss.map (lk ks xs)=as.map Z
 |[],_=>⟨[],W⟩|k::ss,h=>by
  obtain⟨as,e⟩:=Gj l (ss:=ss) λx a=>h x<|cr _ a;obtain⟨x,a⟩:=CD l<|h k d9;exact⟨x::as,by rw[jp,jp,a,e]⟩
theorem Ea{a b:Type}(f:a->b):∀{ks:List Str}{xs:List a},lk ks (xs.map f) k=(lk ks xs k).map f
 |[],xs=>by simp[lk]|_::_,[]=>by simp[lk]|y::ks,x::xs=>by
  rw[jp,BJ,BJ];by_cases e:k=y
  .rw[if_pos e,if_pos e];rfl
  .rw[if_neg e,if_neg e];exact Ea f
noncomputable def Ej:List (Ak×Pt)->Nat
 |[]=>0|p::r=>p.1.size+Ej r
theorem Fl(a b:List (Ak×Pt)):Ej (a++b)=Ej a+Ej b:=by
 induction a with
 |nil=>simp[Ej]|cons p r c=>simp only[D7,Ej,c];lia
theorem Hu:∀a:List (Ak×Pt),a.length<=Ej a
 |[]=>bv _|p::r=>by have:=Hu r;have:=Ak.size_pos p.1;simp only[j3,Ej];lia
theorem Kv:∀{as:List Ak}{bs:List Pt},Ej (as.zip bs)<=Ak.AM as
 |[],_=>by simp[Ej]|_::_,[]=>by simp[Ej]|a::as,b::bs=>by have:=Kv (as:=as) (bs:=bs);simp only[zh,Ej,Ak.AM];exact im this _
theorem EE(p:g.Perm h):Ak.AM g=Ak.AM h:=by
 induction p with
 |nil=>rfl|cons x _ c=>simp only[Ak.AM,c]|swap x y l=>simp only[Ak.AM];lia|trans _ _ d e=>exact d.trans e
structure mm(G:Hp)(u v:V)(a:Ak)(t:Pt)(l es fs:List V)(ps:List (Ak×Pt)):Prop where
 le:es.length=l.length
 lf:fs.length=l.length
 lp:ps.length=l.length
 ge:∀(i:Nat) e,es[i]?=Z e->∃s,l[i]?=Z s/\dn G u s e
 gf:∀(i:Nat) e,fs[i]?=Z e->∃s,l[i]?=Z s/\dn G v s e
 va:∀(i:Nat) e p,es[i]?=Z e->ps[i]?=Z p->Val G e p.1.pt
 vb:∀(i:Nat) e p,fs[i]?=Z e->ps[i]?=Z p->Val G e p.2
 kp:Ak.Kp a t ps
 ok:∀p∈ps,p.1.ok/\p.2.doc/\p.1.size<a.size/\p.2.size<t.size
 sm:Ej ps<a.size
theorem VF(k:Val G u (Ak.row xs m).hold)(B:Val G v t)(ok:(Ak.row xs m).ok)(n:t.doc)(o:Ak.CI (.row xs m) t=true)(st:Ma (Ak.row xs m).hold l):∃es fs ps,mm G u v (.row xs m) t l es fs ps:=by
 simp only[Ak.hold,Ak.ok]at k st ok;cases k with
 |@lst a q _ C r=>
  cases B with
  |@lst b s h D w=>
   simp only[Pt.doc,Ak.CI,Ak.cnt,J4,beq_iff_eq,fy,decide_eq_true_eq]at n o;have H:xs.length<=h.length:=by lia
   have l1:=r.length;have l2:=w.length;rw[Ak.AV,bi]at l1;have E:l=(j9 xs.length).map λ(i:Nat)=>V.int (i:Int):=by
    have:l=(j9 (Ak.EZ xs).length).map λ(i:Nat)=>V.int (i:Int):=st;rw[Ak.AV,bi]at this;exact this
   subst E;refine⟨q,s.take xs.length,xs.zip h,by simp[l1],by simp;lia,by simp;lia,λi e c=>?_,λi e c=>?_,λi e p c d=>?_,λi e p c d=>?_,W,λp d=>?_,?_⟩
   .have f:=Cd c;exact⟨.int (i:Int),by rw[b6,J7<|bn f<|bm l1];rfl,.inl ⟨a,q,i,W,C,W,c⟩⟩
   .have f:=Cd c;rw[B8]at f;rw[acp,if_pos<|bn f<|J3 _ _]at c;exact⟨.int (i:Int),by rw[b6,J7<|bn f<|J3 _ _];rfl,.inl ⟨b,s,i,W,D,W,c⟩⟩
   .obtain⟨x,y⟩:=p;rw[u9]at d;obtain⟨F,g,j⟩:=r.get c;rw[Ak.AV,b6,d.1]at g;cases g;exact j
   .obtain⟨x,y⟩:=p;rw[u9]at d;have f:=(zd d.1).1;rw[acp,if_pos f]at c;obtain⟨F,g,j⟩:=w.get c;rw[d.2]at g;cases g;exact j
   .obtain⟨z,A⟩:=L3 d;have I:=Ak.Ae z;have J:=Pt.Ae A;exact⟨Ak.Ct ok _ z,Pt.Af n _ A,by simp only[Ak.size];lia,by simp only[Pt.size];lia⟩
   .have:=Kv (as:=xs) (bs:=h);simp only[Ak.size];lia
  |int _=>simp[Ak.CI]at o|str _=>simp[Ak.CI]at o|bl _=>simp[Ak.CI]at o|AZ=>simp[Ak.CI]at o|tup _ _=>simp[Ak.CI]at o|Ah _ _ _=>simp[Ak.CI]at o
theorem VG{G:Hp}{u:V}{xs:List Ak}{ls:List Str}{m:Bool}(M:Val G u (Ak.tab ks xs ls m).hold)(Q:Val G v t)(ok:(Ak.tab ks xs ls m).ok)(A:t.doc)(o:Ak.CI (.tab ks xs ls m) t=true)(st:Ma (Ak.tab ks xs ls m).hold l):∃es fs ps,mm G u v (.tab ks xs ls m) t l es fs ps:=by
 simp only[Ak.hold,Ak.ok]at M st ok;obtain⟨B,R,o3,o4,o5,o6,S⟩:=ok;have T:(Ak.EZ xs).length=xs.length:=by rw[Ak.AV,bi]
 cases M with
 |@Ah a C _ _ U D X=>
  cases Q with
  |@Ah b E N O Y F ζ=>
   simp only[Pt.doc,Ak.CI,fy,re,decide_eq_true_eq]at A o;obtain⟨c,rfl,H,so⟩:=st;have sub:∀k∈c,k∈ks:=λk I=>H.mem_iff.mp I;have g:∀k∈c,k∈N:=λk I=>o.1.1 k<|sub k I;obtain⟨es,us,h1,h2,h3,h4⟩:=Ks D X (by rw[T];exact B) sub;obtain⟨fs,w,g1,J,g3,g4⟩:=Ks F ζ A.1 g;obtain⟨as,z⟩:=Gj (xs:=xs) B sub;have eu:us=as.map Ak.pt:=by
    have:c.map (lk ks<|Ak.EZ xs)=(as.map Ak.pt).map some:=by
     rw[Ak.AV,u5];have:c.map (lk ks<|xs.map Ak.pt)=(c.map<|lk ks xs).map (ae2 Ak.pt):=by
      rw[u5];exact A2 λk _=>Ea Ak.pt
     rw[this,z,u5];rfl
    rw[h2]at this;have inj:∀{a b:List Pt},a.map Z=b.map Z->a=b:=by
     intro a
     induction a with
     |nil=>intro b h;cases b with|nil=>rfl|cons _ _=>simp at h
     |cons x r ih=>
      intro b h;cases b with
      |nil=>simp at h|cons y q=>
       simp only[jp,E7]at h;rw[ze h.1,ih h.2]
    exact inj this
   subst eu;have la:as.length=c.length:=by have:=congrArg sw z;simpa using this.symm
   have lt:w.length=c.length:=by have:=congrArg sw J;simpa using this.symm
   have P:=Cu B R H z;refine⟨es,fs,as.zip w,by simp[h3],by simp[g3],by simp;lia,λi e d=>?_,λi e d=>?_,λi e p d f=>?_,λi e p d f=>?_,⟨c,as,w,H,z,J,W⟩,λp f=>?_,?_⟩
   .obtain⟨k,k1,k2⟩:=h4 i e d;exact⟨.str k,by rw[b6,k1];rfl,.inr ⟨a,C,k,W,U,W,k2⟩⟩
   .obtain⟨k,k1,k2⟩:=g4 i e d;exact⟨.str k,by rw[b6,k1];rfl,.inr ⟨b,E,k,W,Y,W,k2⟩⟩
   .obtain⟨x,y⟩:=p;rw[u9]at f;obtain⟨t',j,L⟩:=h1.get d;rw[b6,f.1]at j;cases j;exact L
   .obtain⟨x,y⟩:=p;rw[u9]at f;obtain⟨t',j,L⟩:=g1.get d;rw[f.2]at j;cases j;exact L
   .obtain⟨m1,m2⟩:=L3 f;have n:=P.mem_iff.mp m1;have s:p.2∈O:=by
     have:Z p.2∈c.map (lk N O):=by rw[J];exact A1 m2
     obtain⟨k,_,e⟩:=u7.mp this;exact(Ax e).2
    have s1:=Ak.Ae n;have s2:=Pt.Ae s;exact⟨Ak.Ct S _ n,Pt.Af A.2.2.2.2 _ s,by simp only[Ak.size];lia,by simp only[Pt.size];lia⟩
   .have:=Kv (as:=as) (bs:=w);have:=EE P;simp only[Ak.size];lia
  |int _=>simp[Ak.CI]at o|str _=>simp[Ak.CI]at o|bl _=>simp[Ak.CI]at o|AZ=>simp[Ak.CI]at o|tup _ _=>simp[Ak.CI]at o|lst _ _=>simp[Ak.CI]at o
theorem Bu.of{es fs:List V}{ps:List (Ak×Pt)}(l1:ts.length=ps.length)(l2:es.length=ps.length)(l3:fs.length=ps.length)(g:∀(i:Nat) e p,es[i]?=Z e->ps[i]?=Z p->Val G e p.1.pt)(h:∀(i:Nat) e p,fs[i]?=Z e->ps[i]?=Z p->Val G e p.2)(k:∀(j:Nat) t x y,ts[j]?=Z t->es[j]?=Z x->fs[j]?=Z y->H t=Z (.tup [x,y])):Bu G H ts (ps.map λp=>(p.1.pt,p.2)):=by
 refine XE (by rw[bi,l1]) λi t p l b=>?_;rw[b6]at b;obtain⟨q,a,rfl⟩:=At.mp b;have c:=Cd a;obtain⟨x,d⟩:=BH es i<|l2▸c;obtain⟨y,f⟩:=BH fs i<|l3▸c;exact⟨k i t x y l d f,g i x q d a,h i y q f a⟩
theorem Kw{A:TE}{fs:List Nat}{Q:VK}(n:Nat)(item:Nat->V)(xs ys:List V)(F:xs.length=n)(G:ys.length=n)(I:n<=1000)(k:∀i a,i<n->AF H a->J.go i a)(L:∀i a v g,i<n->AF H a->J.Vw i a v g->v=item i/\g=a)(l:∀a,AF H a->J.stop n a)(M:∀i a (R:VK) x y,i<n->AF H a->xs[i]?=Z x->ys[i]?=Z y->(∀p,a p=ν->R (.ref p) (upd a p (.tup [x,y])))->A (Z (item i)::Ce σ fs) a R)(N:∀D a (ts:List Addr),H D=ν->AF H a->a D=Z (.lst (ts.map V.ref))->ts.length=n->(∀(j:Nat) t x y,ts[j]?=Z t->xs[j]?=Z x->ys[j]?=Z y->a t=Z (.tup [x,y]))->Q (.ref D) a):EC J Jb A fs σ H Q:=by
 refine Jq n item (λD i a=>H D=ν/\AF H a/\∃ts:List Addr,a D=Z (.lst<|ts.map V.ref)/\ts.length=i/\∀(j:Nat) t x y,ts[j]?=Z t->xs[j]?=Z x->ys[j]?=Z y->a t=Z (.tup [x,y])) (λD c=>⟨c,AF.new c,[],AD,W,λj t x y h=>by simp at h⟩) (λD i a b ⟨_,s,_⟩=>k i a b s) (λD i a v g b ⟨_,s,_⟩ y=>L i a v g b s y) (λD a ⟨_,s,_⟩=>l a s) (λD i a _ b ⟨c,s,ts,m,lt,q⟩=>?_) (λD a _ z=>by obtain⟨c,s,ts,m,lt,q⟩:=z;exact N D a ts c s m lt q);obtain⟨x,B⟩:=BH xs i<|bn b<|bm F.symm;obtain⟨y,d⟩:∃y,ys[i]?=Z y:=⟨_,zc<|bn b<|bm G.symm⟩;refine M i a _ x y b s B d λp O=>?_;have r:=AF.new (o:=.tup [x,y]) O;have C:=r _ _ m;refine⟨ts.map V.ref,C,d8 (by rw[bi];exact am (am (bm lt)<|gt b) I)<|Aw<|bv 1000,c,(s.trans r).put c,ts++[p],by rw[AD,sU];rfl,by simp[lt],λj t P S f u w=>?_⟩;have nd:∀{t:Addr}{E:List V},upd a p (.tup [x,y]) t=Z (.tup E)->upd (upd a p<|.tup [x,y]) D (.lst<|ts.map V.ref++[.ref p]) t=Z (.tup E):=λe=>(AH<|GY e C<|by intro z;cases z).trans e;by_cases T:j<ts.length
 .rw[q8 T]at f;exact nd<|r _ _<|q j t P S f u w
 .have U:=Cd f;rw[q5,x9]at U;have e:j=i:=by lia
  subst e;rw[w8<|bm lt,lt,Tk]at f;have X:p=t:=GT f
  subst X;rw[B]at u;rw[d]at w;cases u;cases w;exact nd AD
end
variable{ws:List V}
section
variable [Be K]
def nw(H a:Hp):Hp:=λb=>match H b with
 |none=>a b|some _=>ν
theorem BC(h:H d=ν):nw H c d=c d:=by unfold nw;rw[h]
theorem Eb{o}(h:H d=Z o):nw H c d=none:=by unfold nw;rw[h]
theorem Cn:AF (nw H c) c:=λb o e=>by
 cases h:H b with
 |none=>rw[BC h]at e;exact e|some z=>rw[Eb h]at e;cases e
structure Bt(o:Option Addr)(H H':Hp):Prop where
 keep:∀b e,o≠Z b->H b=Z e->H' b=Z e
 EJ:∀b,H' b=ν->H b=ν
theorem Bt.refl:Bt o H H:=⟨λ_ _ _ e=>e,λ_ h=>h⟩
theorem Bt.of(s:AF H c):Bt o H c:=⟨λb e _ h=>s b e h,λb h=>s.free h⟩
theorem Bt.same(s:Bt ν H c):AF H c:=λb e h=>s.keep b e (λz=>nomatch z) h
theorem Bt.trans(a:Bt o H d)(b:Bt o d g):Bt o H g:=⟨λc e n h=>b.keep c e n<|a.keep c e n h,λc h=>a.EJ c<|b.EJ c h⟩
theorem DW(h:upd H p o c=ν):c≠p/\H c=none:=by
 by_cases e:c=p
 .subst e;rw[AD]at h;cases h
 .rw[AH e]at h;exact⟨e,h⟩
theorem Bt.put(a:Bt (Z g) H d):Bt (Z g) H (upd d g o):=⟨λc e n h=>(AH λz=>n<|by rw[z]).trans<|a.keep c e n h,λb h=>a.EJ b (DW h).2⟩
theorem Bt.new(a:Bt o H m)(h:H p=ν):Bt o H (upd m p q):=⟨λc g n d=>(AH λz=>by rw[z,h]at d;cases d).trans<|a.keep c g n d,λb h=>a.EJ b (DW h).2⟩
def CU(l:Addr)(H:Hp):Hp:=λb=>if b=l then ν else H b
theorem Bj(h:c≠d):CU d H c=H c:=by unfold CU;rw[if_neg h]
theorem Ci:AF (CU c H) H:=λb o e=>by
 unfold CU at e;by_cases h:b=c
 .rw[if_pos h]at e;cases e
 .rw[if_neg h]at e;exact e
theorem Bt.CU(s:Bt (Z c) H d):AF (CU c H) (CU c d):=λb o e=>by
 by_cases h:b=c
 .unfold L2.CU at e;rw[if_pos h]at e;cases e
 .rw[Bj h]at e⊢;exact s.keep _ _ (λz=>h (ze z).symm) e
theorem Bi(d:∀b,g b=ν->H b=ν)(s:∀b o,g b=ν->c b=Z o->m b=Z o):AF (nw g c) (nw H m):=λb o e=>by
 cases h:g b with
 |none=>rw[BC h]at e;rw[BC (d b h)];exact s b o h e|some z=>rw[Eb h]at e;cases e
theorem AR.snoc(h:AR H vs c)(g:Val H v t):AR H (vs++[v]) (c++[t]):=h.append<|.cons g .nil
mutual
def Pt.nice:Pt->Prop
 | .int _| .str _| .bl _| .AZ=>True
 | .lst xs| .tup xs=>xs.length<=900/\Pt.Dm xs
 | .Ah ks xs=>ks.length=xs.length/\ks.Nodup/\ks.length<=900/\Pt.Dm xs
def Pt.Dm:List Pt->Prop
 |[]=>True|x::r=>Pt.nice x/\Pt.Dm r
end
theorem Pt.DJ:∀{xs:List Pt},Pt.Dm xs->∀x∈xs,x.nice
 |y::r,h,x,a=>by
  simp only[Pt.Dm]at h;rcases j4.mp a with rfl|a
  .exact h.1
  .exact Pt.DJ h.2 x a
theorem Pt.Pu:∀{xs:List Pt},(∀x∈xs,x.nice)->Pt.Dm xs
 |[],_=>trivial|x::r,h=>⟨h x d9,Pt.Pu λy a=>h y (cr _ a)⟩
mutual
theorem Pt.Hv:∀t:Pt,t.doc->t.size<=900->t.nice
 | .int _=>λ_ _=>trivial| .str _=>λ_ _=>trivial| .bl _=>λd _=>by simp[Pt.doc]at d| .AZ=>λd _=>by simp[Pt.doc]at d| .tup _=>λd _=>by simp[Pt.doc]at d| .lst xs=>λd z=>by
  simp only[Pt.doc,Pt.size]at d z;have:=Pt.CQ xs;simp only[Pt.nice];exact⟨am (am this<|d0 _ _) z,Pt.Io xs d<|am (d0 _ _) z⟩
 | .Ah a xs=>λd z=>by
  simp only[Pt.doc,Pt.size]at d z;simp only[Pt.nice];exact⟨d.1,d.2.1,am (gt d.2.2.2.1) ac,Pt.Io xs d.2.2.2.2<|am (d0 _ _) z⟩
theorem Pt.Io:∀xs:List Pt,Pt.Cr xs->Pt.AM xs<=900->Pt.Dm xs
 |[]=>λ_ _=>trivial|x::r=>λd z=>by
  simp only[Pt.Cr,Pt.AM]at d z;exact⟨Pt.Hv x d.1<|am (ci _ _) z,Pt.Io r d.2<|am (d0 _ _) z⟩
end
def Bo(ks:List Str)(ws:List V):List (Key×V):=(ks.zip ws).map λp=>(e9 p.1,p.2)
theorem BI(l:ks.length=ws.length):(Bo ks ws).map (·.1)=ks.map e9:=by
 unfold Bo;rw[u5];have:(ks.zip ws).map aaC=ks:=List.map_fst_zip<|bm l
 conv=>rhs;rw[<-this,u5]
 rfl
theorem CJ(l:ks.length=ws.length):(Bo ks ws).map (·.2)=ws:=by
 unfold Bo;rw[u5];have:(ks.zip ws).map abl=ws:=List.map_snd_zip<|bm l.symm
 conv=>rhs;rw[<-this]
 rfl
theorem DO(l:ks.length=ws.length):(Bo ks ws).length=ks.length:=by
 have:=congrArg sw<|BI l;simpa using this
theorem Nh{k:Key}(h:(Bo ks ws)[j]?=Z (k,v)):∃nm,ks[j]?=Z nm/\ws[j]?=Z v/\k=e9 nm:=by
 unfold Bo at h;rw[b6]at h;cases e:(ks.zip ws)[j]? with
 |none=>rw[e]at h;cases h|some p=>
  obtain⟨x,y⟩:=p;rw[e]at h;have h:=ze h;rw[u9]at e;have a:(e9 x:Key)=k:=congrArg aaC h;have b:y=v:=congrArg abl h;subst a b;exact⟨x,e.1,e.2,W⟩
theorem Ek(l:ks.length=ws.length)(nd:ks.Nodup):CN [] (Bo ks ws)=Bo ks ws:=E' _ _ (by
 have:((Bo ks ws).map (·.1)).Nodup:=by
  rw[BI l];exact List.Pairwise.map _ (λa b h z=>h<|G0 z) nd
 simpa using this)
theorem Kx(c:kvs.map (·.1)=ks.map e9){k:Key}(e:kvs[i]?=Z (k,v)):i<ks.length/\k=e9 (ks.getD i ""):=by
 have d:kvs.length=ks.length:=by have:=congrArg sw c;simpa using this
 have a:=Cd e;rw[d]at a;refine⟨a,?_⟩;have b:=congrArg (λz=>z[i]?) c;simp only[b6,e,zc a]at b;have b:k=e9 ks[i]:=GT b
 rw[b,b7,zc a];rfl
theorem Rn:∀{ks:List Str}{m:List Pt},kvs.map (·.1)=ks.map e9->AR H (kvs.map (·.2)) m->ks.Nodup->∀{i:Nat},i<ks.length->∃v t,CG kvs (e9 (ks.getD i ""))=Z v/\m[i]?=Z t/\Val H v t:=by
 induction kvs with
 |nil=>
  intro ks m h _ _ i b;cases ks with
  |nil=>simp at b|cons _ _=>simp at h
 |cons p kvs c=>
  intro ks m h r nd i b;cases ks with
  |nil=>simp at h|cons x ks=>
   obtain⟨y,v⟩:=p;simp only[jp,E7]at h;obtain⟨e,h⟩:=h;subst e;cases r with
   |cons d r=>
   cases i with
   |zero=>exact⟨v,_,D_ W,GE,d⟩|succ i=>
    obtain⟨f,g⟩:=u4.mp nd;have a:i<ks.length:=GT b
    obtain⟨w,t,j,k,l⟩:=c h r g a;rw[show(x::ks).getD (i+1) ""=ks.getD i ""by simp];refine⟨w,t,?_,GT k,l⟩;rw[D' λz=>f ?_]
    .exact j
    .have z:=G0 z;rw[z,b7,zc a];exact G7 a
mutual
noncomputable def Pt.wide:Pt->Nat
 | .int _| .str _| .bl _| .AZ=>0
 | .lst xs| .tup xs=>Pt.Fm xs
 | .Ah ks xs=>max ks.length (Pt.Fm xs)
noncomputable def Pt.Fm:List Pt->Nat
 |[]=>0|x::r=>max (Pt.wide x) (Pt.Fm r)
end
theorem Pt.Ip:∀{xs:List Pt}{x:Pt},x∈xs->x.wide<=Pt.Fm xs
 |y::r,x,h=>by
  simp only[Pt.Fm];rcases j4.mp h with rfl|h
  .exact A3 _ _
  .have:=Pt.Ip h;exact am this<|y4 _ _
theorem Fn:∀{us:List Pt},(∀u∈us,u.wide<=n)->Pt.Fm us<=n
 |[],_=>by simp[Pt.Fm]|x::r,h=>by
  have a:=h x d9;have b:=Fn (us:=r) λy c=>h y<|cr _ c;simp only[Pt.Fm];exact y9.mpr ⟨a,b⟩
mutual
theorem Pt.Iq:∀t:Pt,t.doc->t.wide<=t.size
 | .int _,_=>by simp[Pt.wide]| .str _,_=>by simp[Pt.wide]| .bl _,_=>by simp[Pt.wide]| .AZ,_=>by simp[Pt.wide]| .tup _,d=>by simp[Pt.doc]at d| .lst xs,d=>by
  simp only[Pt.doc]at d;have:=Pt.Gk xs d;simp only[Pt.wide,Pt.size];exact am this (d0 _ _)
 | .Ah a xs,d=>by
  simp only[Pt.doc]at d;have:=Pt.Gk xs d.2.2.2.2;have:=Pt.CQ xs;simp only[Pt.wide,Pt.size];lia
theorem Pt.Gk:∀xs:List Pt,Pt.Cr xs->Pt.Fm xs<=Pt.AM xs
 |[],_=>by simp[Pt.Fm]|x::r,d=>by
  simp only[Pt.Cr]at d;have:=Pt.Iq x d.1;have:=Pt.Gk r d.2;simp only[Pt.Fm,Pt.AM];lia
end
structure TR(H:Hp)(n:Addr)(ys:List Str):Prop where
 at_:H n=Z (.lst (ys.map V.str))
 len:ys.length=4
 nd:ys.Nodup
 nb:∀y∈ys,Uz y=true
theorem TR.up(h:TR H n ys)(s:AF H c):TR c n ys:=⟨s _ _ h.at_,h.len,h.nd,h.nb⟩
theorem TR.but(h:TR H n ys)(s:Bt (Z c) H d)(nl:n≠c):TR d n ys:=⟨s.keep _ _ (λz=>nl (ze z).symm) h.at_,h.len,h.nd,h.nb⟩
theorem Ro(r:Int):∃n c:Nat,r % 26=(n:Int)/\dP[n]?=Z c/\Oz (sgn f') (r % 26)=Z c:=by
 obtain⟨d,a⟩:=iP r;obtain⟨n,e⟩:=aaK d;rw[e]at a⊢;have b:n<dP.length:=by rw[ZX];exact G9.mp a
 exact⟨n,dP[n],W,zc b,Aa<|zc b⟩
theorem Zq{ξ:Str}(h:ξ.length=8){n:Nat}(a:n<=8):(U0 ξ ν (Z (n:Int))).length=n:=by
 have e:∀n:Fin 9,Builtin.Str.strSliceIndices ν (Z ((n.val:Nat):Int)) 1 8=j9 n.val:=by decide
 have e:=e ⟨n,A6 a⟩;unfold U0;rw[h,e];split
 .rename_i z
  rw[wS]at z;rw[h];exact(eq_of_beq z).symm
 .show(ad2 (ξ.cps[·]?) (j9 n)).toArray.size=n;rw[d7,List.length_filterMap_eq_countP,List.countP_eq_length.mpr,wS];intro i b;rw[t8<|bn (zw.mp b)<|am a<|bm h.symm];rfl
theorem Zr{A B:Str}{c d:Nat}(h:A++(⟨#[c]⟩:Str)++B=A++(⟨#[d]⟩:Str)++B):c=d:=by
 have:=congrArg sgn h;rw[Ez,Ez,Ez,Ez]at this;cases List.append_cancel_left (List.append_cancel_right this);rfl
theorem Zs:∀{vs:List V},(∀(j:Nat) v,vs[j]?=Z v->∃y:Str,v=.str y)->∃ys:List Str,vs=ys.map V.str:=by
 intro vs
 induction vs with
 |nil=>exact λ_=>⟨[],W⟩|cons v r a=>
  intro h;obtain⟨y,rfl⟩:=h 0 v W;obtain⟨ys,rfl⟩:=a λj v b=>h (j+1) v b;exact⟨y::ys,W⟩
def Px:Sp:=λb H Q _=>∃c:Int,b=[.int c]/\∀(p:Addr)(d:List Str)(a:Hp),AF H a->H p=ν->TR a p d->Q (.ref p) a
structure Small(H H':Hp)(v:V)(t:Pt):Prop where
 val:Val (nw H H') v t
 sm:Sm t
 doc:t.doc
 size:t.size<=4
 deep:t.deep<=2
def Gm:Sp:=λb H Q _=>∃(c:Int)(k:Nat)(n:Addr)(d:List Str),b=[.int c,.int (k:Int),.ref n]/\k<=1000/\TR H n d/\∀(v:V)(t:Pt)(a:Hp),AF H a->Small H a v t->Q v a
def Ds(n:Nat):Sp:=λb H Q _=>∃(v:V)(t:Pt),b=[v]/\Val H v t/\t.nice/\t.deep<=n/\∀(w:V)(a:Hp),AF H a->Val (nw H a) w t->Q w a
def Gn(n:Nat):Sp:=λf H Q _=>∃(l:Addr)(d:Nat)(nm:Addr)(c:List Int)(g:List Str),f=[.ref l,.int (d:Int),.ref nm]/\d+4<=n/\H l=Z (.lst<|c.map V.int)/\c.length<=100/\nm≠l/\TR H nm g/\
 ∀(v:V)(a:Ak)(b:List Int)(e:Hp),Bt (Z l) H e->e l=Z (.lst (b.map V.int))->b.length<=c.length->Val (nw H e) v a.pt->a.ok->a.size<=1+4*(c.length-b.length)->a.deep<=d+1->a.F'->Q v e
def ov(G H a:Hp):Hp:=λb=>match G b with
 |some o=>Z o|none=>nw H a b
theorem Ky:AF G (ov G H c):=λb o e=>by unfold ov;rw[e]
end
variable{ns:List Str}
section
variable [Be K]
theorem FL{a:List (Key×V)}(b:a.map (·.1)=ns.map e9)(k:Str):(CG a (e9 k)).isSome=decide (k∈ns):=by
 rw[ul,decide_eq_true_iff];have c:(e9 k:Key)∈a.map (·.1)↔k∈ns:=by
  rw[b];constructor
  .intro h;obtain⟨y,d,e⟩:=u7.mp h;rw[<-G0 e];exact d
  .exact λh=>A1 h
 rw[<-c];cases e:CG a (e9 k:Key)with
 |none=>simp only[acn];exact⟨(λh=>nomatch h),λh=>absurd h (PL e)⟩
 |some z=>simp only[R5];exact⟨λ_=>NT e,λ_=>trivial⟩
theorem Ir(ns:List Str)(p:Str->Bool):((j9 ns.length).filter λi=>p (ns.getD i "")).map (λi=>V.str (ns.getD i ""))=(ns.filter p).map V.str:=by
 induction ns with
 |nil=>rfl|cons x r a=>
  rw[j3,N2,FS,FS,List.filter_map,X8];have e:((λi=>p<|(x::r).getD i "")∘acx)=λi=>p (r.getD i ""):=by funext i;simp
  have b:((λi=>V.str<|(x::r).getD i "")∘acx)=λi=>V.str (r.getD i ""):=by funext i;simp
  cases p x with
  |true=>simp only[if_true,jp,u5];rw[e,b,a];rfl|false=>simp only[FB,if_false,u5];rw[e,b,a]
theorem Hy{ps:List b}{f:b->Bool}:∀{vs:List V},vs.length=ps.length->(∀(i:Nat) v,vs[i]?=Z v->∃p,ps[i]?=Z p/\v=.bl (f p))->vs=(ps.map f).map V.bl:=by
 intro vs l h;refine No (by simp[l]) λi c g=>?_;obtain⟨p,a,d⟩:=h i _<|zc c;have e:i<ps.length:=bn c<|bm l;rw[zc e]at a;have a:=ze a;rw[d,<-a];simp
theorem Md(p:Str->Bool):∀l:List Str,l.length=(l.filter λx=> !p x).length+(l.filter p).length
 |[]=>rfl|x::r=>by
  have:=Md p r;cases h:p x<;>simp[FS,h]<;>lia
theorem cntK(nk:ks.Nodup)(a:ns.Nodup):ns.length=(ns.filter λn=> !decide (n∈ks)).length+(ks.filter λk=>decide (k∈ns)).length:=by
 have b:(ns.filter λn=>decide<|n∈ks).Perm (ks.filter λk=>decide<|k∈ns):=by
  refine(K7 (a.sublist abY)<|nk.sublist abY).mpr λx=>?_;simp only[E5,decide_eq_true_eq];exact And.comm
 have:=Md (λn=>decide<|n∈ks) ns;have e:=b.length_eq;lia
theorem Py:ks.all (λk=>decide (k∈ns))=decide ((ks.filter λk=>decide (k∈ns)).length=ks.length):=by
 rw[ul,decide_eq_true_iff,Uf,re]
theorem XG{ls:List Str}(m:Bool)(nk:ks.Nodup)(i:ns.Nodup)(dj:∀l∈ls,l∉ks): (ks.all (λk=>decide (k∈ns))&& !(ls.any λk=>decide (k∈ns))&&Ak.cnt ns.length ks.length m)= (!(decide (((ns.length:Nat):Int)-(((ns.filter λn=> !decide (n∈ks)).length:Nat):Int)<((ks.length:Nat):Int)))&&(m||(ns.filter λn=> !decide (n∈ks)).isEmpty)&&((ns.filter λn=> !decide (n∈ks)).filter λn=>decide (n∈ls)).isEmpty):=by
 have c:=cntK nk i;have le:(ks.filter λk=>decide<|k∈ns).length<=ks.length:=C4 _ _;rw[Py];by_cases h:(ks.filter λk=>decide<|k∈ns).length=ks.length
 .have d:¬((ns.length:Nat):Int)-(((ns.filter λn=> !decide (n∈ks)).length:Nat):Int)<((ks.length:Nat):Int):=by lia
  rw[decide_eq_true h,decide_eq_false d,zk,ZB,zk];have j:Ak.cnt ns.length ks.length m=(m||(ns.filter λn=> !decide (n∈ks)).isEmpty):=by
   cases g:(ns.filter λn=> !decide (n∈ks))with
   |nil=>
    rw[g,B6]at c;have:ns.length=ks.length:=by lia
    simp[Ak.cnt,this]
   |cons a r=>
    rw[g,j3]at c;have:ks.length<ns.length:=by lia
    have e:(ns.length==ks.length)=false:=by simp;lia
    simp[Ak.cnt,this,e]
  have o:(!(ls.any λk=>decide<|k∈ns))=((ns.filter λn=> !decide (n∈ks)).filter λn=>decide<|n∈ls).isEmpty:=by
   rw[ul,List.isEmpty_iff,aa1,T8,<-U7,K6];constructor
   .intro h a p b;exact h ⟨a,of_decide_eq_true b,decide_eq_true (E5.mp p).1⟩
   .intro h ⟨l,b,f⟩;have f:=of_decide_eq_true f;exact h l (E5.mpr ⟨f,GT<|dj l b⟩)<|decide_eq_true b
  rw[j,o,Q6]
 .have d:((ns.length:Nat):Int)-(((ns.filter λn=> !decide (n∈ks)).length:Nat):Int)<((ks.length:Nat):Int):=by lia
  rw[decide_eq_false h,decide_eq_true d];simp
end
section
theorem Hz:∀{us:List ce},Vals (ss.map V.str) us->K0 us ss:=by
 induction ss with
 |nil=>intro us h;cases h;exact .nil|cons x r a=>
  intro us h;cases h with
  |cons b c=>
   obtain⟨t,rfl⟩:=b;exact .cons x t<|a c
inductive Rq(K:zg)(xs:List V)(H:Hp)(Q:VK):Prop|mk(d:Addr)(ss:List Str)(c:xs=[.ref d])(e:Ab K H d (ss.map V.str))(f:ss.length<64)(g:∀(p:Addr) (a:List Str) (b:Hp),H p=ν->AF H b->b p=Z (.lst (a.map V.str))->a.Perm ss->KB a=true->Q (.ref p) b)
theorem H_(R:X.calm=true):Ba X (.builtin "sorted") (Rq X.K):=by
 intro pins s S H T U Q I r h;obtain⟨d,z,rfl,J,j,q⟩:=h;obtain⟨u,rfl,L⟩:=vals1 r;cases L;obtain⟨a,A,pl,n⟩:=I.list J;obtain⟨Y,p,k,ζ,l⟩:=id pl.isList;have t:a.length=z.length:=by rw[<-A.length,bi]
 have n:a.length<=sizeLine:=gt (Aw<|am (am (bm t)<|gt j) ac);have v:K0 a z:=Hz A;refine P8 adk acB acD (acE _) ?_;unfold aeB.«sorted»;refine be (m:=adM "sorted" 1 1 _) (b9<|be<|wpAny_collect_seq d (.inl W) p k l (λc keep=>?_)<|by rw[d7];exact n);rw[X7];refine be<|ab2 ?_ n;have f:(c.push {cls:=.type "list",data:=.seq a.toArray}).get? c.objs.size=Z (seqObj "list" a.toArray 0):=j8 _ W;refine be<|ut<|y3 abt ⟨_,f,W⟩ aa6 (aa5 ab5 f v.keysOf (λB C rest e=>acC<|by rw[<-e];exact v) (by rw[t];exact j) λg a1 a2=>⟨_,W,?_⟩)<|abx _;obtain⟨i,M,D,N⟩:=abq v a1 a2;obtain⟨O,P⟩:=ab6 (out:=(abk g).map (·.2)) f;refine b9 ⟨_,W,?_⟩;have x:(c.push {cls:=.type "list",data:=.seq a.toArray}).objs.size=c.objs.size+1:=adL ..;have E:=I.kept (t':=s.toks) keep;have k2:∀b o,c.get? b=Z o->(Y5 (c.push {cls:=.type "list",data:=.seq a.toArray}) c.objs.size a ((abk g).map (·.2))).get? b=Z o:=λb o e=>by
  have F:b<c.objs.size:=ii e;rw[abr (j7 F)<|by rw[x];exact O4 F];exact ca _ e
 have y:i.length<=sizeLine:=by
  rw[D.length_eq,<-t];exact n
 have new:Av X.prog X.w (upd H c.objs.size<|.lst<|i.map V.str) (Y5 (c.push {cls:=.type "list",data:=.seq a.toArray}) c.objs.size a ((abk g).map (·.2))) c.objs.size (.lst<|i.map V.str):=
  ⟨by rw[bi];exact y,((abk g).map (·.2)).toList,O,GC M,by rw[IR];exact P⟩
 have G:H c.objs.size=none:=E.fresh;exact⟨.ref c.objs.size,_,E.laid (t':=s.toks) k2 (bv _) new,W,q _ i _ G (AF.new G) AD D N⟩
inductive dr(xs:List V)(H:Hp)(Q:VK):Prop|mk(d:Addr)(a:List (Key×V))(ss:List Str)(b:xs=[.ref d])(c:Rd H d (.dK a))(e:a.map (·.1)=ss.map e9)(f:OZ H (.lst (ss.map V.str)) Q)
theorem Kz(m:X.calm=true):Ba X (.type "list") dr:=by
 intro pins s G H J K Q I r h;obtain⟨d,n,g,rfl,hd,o,q⟩:=h;obtain⟨u,rfl,p⟩:=vals1 r;cases p;obtain⟨z,t,b,c,x⟩:=EM I.BN hd;have i:b.length=n.length:=c.length.symm;have f:b.map (·.1)=g.map e9:=by rw[<-o];exact(KV.keys c).symm
 obtain⟨ep,k⟩:=x.dictAt;have l:b.length<=sizeLine:=by rw[i];exact z
 refine ac7 (ac6 (knd:=An X.prog X.w) (kvs:=b) (ep:=ep) t) (I.ok.hd m) k l λy A a B C D items=>?_;have E:a.toList.length=b.length:=by rw[pY];exact items.1
 have F:K0 a.toList g:=MT (P:=X.prog) (w:=X.w) f E λj v e=>items.2 j v (by rw[<-u6];exact e);have ls:g.length<=sizeLine:=by
  have:=congrArg sw f;rw[bi,bi]at this;rw[<-this];exact l
 exact⟨.ref s.heap.objs.size,_,I.laid (t':=A) C (bv _)<|show Av X.prog X.w _ y _ (.lst _)from⟨by rw[bi];exact ls,a.toList,B,GC F,by rw[IR];exact D⟩,W,q _ I.fresh⟩
end
variable{us:List Pt}
section
variable [Be K]
namespace Ak
theorem FD(a b:List Ak):EZ (a++b)=EZ a++EZ b:=by simp[AV]
theorem A_(a b:List Ak):AM (a++b)=AM a+AM b:=by
 induction a with
 |nil=>simp[AM]|cons x r c=>simp only[D7,AM,c];lia
theorem Cv(a b:List Ak):AW (a++b)=max (AW a) (AW b):=by
 induction a with
 |nil=>simp[AW]|cons x r c=>simp only[D7,AW,c];lia
theorem Co(h:Js d)(g:Js m):Js (d++m):=Kt λx c=>(rc.mp c).elim (Ct h x)<|Ct g x
theorem GG(a:Ak):AM [a]=a.size:=by simp[AM]
theorem GH(a:Ak):AW [a]=a.deep:=by simp[AW]
theorem FE(h:c.ok):Js [c]:=⟨h,trivial⟩
end Ak
theorem Rr(l:ks.length=ws.length)(y:Str)(v:V):Bo (ks++[y]) (ws++[v])=Bo ks ws++[(e9 y,v)]:=by
 unfold Bo;rw[List.zip_append l,sU];rfl
theorem Ni(l:ks.length=ws.length)(h:y∉ks)(v:V):putK (Bo ks ws) (e9 y) v=Bo (ks++[y]) (ws++[v]):=by
 rw[Rr l,PD];have:=FL (BI l) y;rw[decide_eq_false h]at this;cases e:CG (Bo ks ws) (e9 y:Key)with
 |none=>rfl|some z=>rw[e]at this;cases this
structure GX(H H4:Hp)(l p6 p7:Addr)(ys:List Str)(d N:Nat)(i:Nat)(Hi:Hp)(ks:List Str)(as:List Ak)(ls:List Str)(Rt:List Int)(ws:List V):Prop where
 n6:H p6=ν
 n7:H p7=ν
 o6:H4 p6≠ν
 o7:H4 p7≠ν
 ne:p6≠p7
 hl:H l≠ν
 h4:∀b,H4 b=ν->H b=ν
 bt:Bt (Z l) H Hi
 dm:∀b,Hi b=ν->H4 b=ν
 e6:Hi p6=Z (.dK (Bo ks ws))
 e7:Hi p7=Z (.lst (ls.map V.str))
 el:Hi l=Z (.lst (Rt.map V.int))
 le:Rt.length<=N
 lw:ks.length=ws.length
 la:ks.length=as.length
 vl:AR (nw H4 Hi) ws (Ak.EZ as)
 ok:Ak.Js as
 fw:Ak.Lq as
 lm:ks.length+ls.length<=i
 sz:Ak.AM as<=i+4*(N-Rt.length)
 dp:Ak.AW as<=d
 ik:∀k∈ks,∃j,j<i/\ys[j]?=Z k
 il:∀k∈ls,∃j,j<i/\ys[j]?=Z k
 nk:ks.Nodup
 dj:∀x∈ls,x∉ks
 l4:ks.length<=i
 m4:ls.length<=i
 nl:ls.Nodup
section
variable{H4:Hp} {l p6 p7:Addr} {ys:List Str} {d N:Nat} {Hi:Hp} {as:List Ak} {ls:List Str} {Rt:List Int} 
theorem GX.up(t:GX H H4 l p6 p7 ys d N i Hi ks as ls Rt ws)(s:AF Hi c):GX H H4 l p6 p7 ys d N i c ks as ls Rt ws:=
 {t with bt:=t.bt.trans (.of s),dm:=λb h=>t.dm b (s.free h),e6:=s _ _ t.e6,e7:=s _ _ t.e7,el:=s _ _ t.el,vl:=t.vl.up (Bi (λb h=>h) λb e _ h=>s _ _ h)}
theorem GX.weak(t:GX H H4 l p6 p7 ys d N i Hi ks as ls Rt ws):GX H H4 l p6 p7 ys d N (i+1) Hi ks as ls Rt ws:=
 {t with sz:=by have:=t.sz;exact am this (gl (ci _ _) _),lm:=by have:=t.lm;exact lM this,ik:=λk a=>let⟨j,b,c⟩:=t.ik k a;⟨j,A6 (gt b),c⟩,il:=λk a=>let⟨j,b,c⟩:=t.il k a;⟨j,A6 (gt b),c⟩,l4:=by have:=t.l4;exact lM this,m4:=by have:=t.m4;exact lM this}
theorem GX.fresh(t:GX H H4 l p6 p7 ys d N i Hi ks as ls Rt ws)(c:ys[i]?=Z y)(nd:ys.Nodup):y∉ks/\y∉ls:=by
 have e:=Cd c;have inj:∀j,j<i->ys[j]?=Z y->False:=λj b a=>by
  rw[<-c]at a;have:=(O5 (d8 (gt b) e) nd).mp a;lia
 exact⟨λh=>let⟨j,b,a⟩:=t.ik y h;inj j b a,λh=>let⟨j,b,a⟩:=t.il y h;inj j b a⟩
theorem GX.mn(t:GX H H4 l p6 p7 ys d N i Hi ks as ls Rt ws)(c:ys[i]?=Z y)(nd:ys.Nodup):GX H H4 l p6 p7 ys d N (i+1) (upd Hi p7 (.lst (ls.map V.str++[.str y]))) ks as (ls++[y]) Rt ws:=by
 have f:=t.fresh c nd;have l7:l≠p7:=λz=>t.hl (by rw[z];exact t.n7);exact{t.weak with
  bt:=t.bt.new t.n7
  dm:=λb h=>t.dm b (DW h).2
  e6:=(AH t.ne).trans t.e6
  e7:=by rw[AD,sU];rfl
  el:=(AH l7).trans t.el
  vl:=t.vl.up (Bi (λb h=>h) λb e g j=>(AH (λz=>t.o7 (by rw[<-z];exact g))).trans j)
  il:=λk m=>(rc.mp m).elim (λh=>t.weak.il k h) λh=>⟨i,A6 (bv _),by rw[io.mp h];exact c⟩
  dj:=λx n=>(rc.mp n).elim (λh=>t.dj x h) λh=>by rw[io.mp h];exact f.1
  m4:=by have:=t.m4;simp;exact this
  lm:=by have:=t.lm;simp;lia
  nl:=A7.mpr ⟨t.nl,GE,λa o b p z=>f.2 (by rw[<-io.mp p,<-z];exact o)⟩}
theorem GX.asked(t:GX H H4 l p6 p7 ys d N i Hi ks as ls Rt ws)(p:ys[i]?=Z y)(nd:ys.Nodup)(bt:Bt (Z l) Hi m)(el:m l=Z (.lst (c.map V.int)))(le:c.length<=Rt.length)(r:Val (nw Hi m) v u.pt)(ok:u.ok)(sz:u.size<=1+4*(Rt.length-c.length))(dp:u.deep<=d)(fw:u.F'):
  m p6=Z (.dK (Bo ks ws))/\putK (Bo ks ws) (e9 y) v=Bo (ks++[y]) (ws++[v])/\GX H H4 l p6 p7 ys d N (i+1) (upd m p6 (.dK (Bo (ks++[y]) (ws++[v])))) (ks++[y]) (as++[u]) ls c (ws++[v]):=by
 have f:=t.fresh p nd;have l6:l≠p6:=λz=>t.hl (by rw[z];exact t.n6);have l7:l≠p7:=λz=>t.hl (by rw[z];exact t.n7);have e6:=bt.keep _ _ (λz=>l6 (ze z)) t.e6;have e7:=bt.keep _ _ (λz=>l7 (ze z)) t.e7;refine⟨e6,Ni t.lw f.1 v,{t.weak with
  bt:=(t.bt.trans bt).new t.n6
  dm:=λb h=>t.dm b (bt.EJ b (DW h).2)
  e6:=AD
  e7:=(AH (zn t.ne)).trans e7
  el:=(AH l6).trans el
  le:=am le t.le
  lw:=by have:=t.lw;simp[this]
  la:=by have:=t.la;simp[this]
  vl:=?_
  ok:=Ak.Co t.ok (Ak.FE ok)
  fw:=Ak.ES t.fw ⟨fw,trivial⟩
  lm:=by have:=t.lm;simp;lia
  sz:=by
   rw[Ak.A_,Ak.GG];have:=t.sz;have:=t.le;lia
  dp:=by rw[Ak.Cv,Ak.GH];have:=t.dp;exact y9.mpr ⟨this,dp⟩
  ik:=λk s=>(rc.mp s).elim (λh=>t.weak.ik k h) λh=>⟨i,A6 (bv _),by rw[io.mp h];exact p⟩
  nk:=by
   rw[A7];refine⟨t.nk,GE,λu q b g z=>?_⟩;rw[io.mp g]at z;rw[z]at q;exact f.1 q
  dj:=λx n h=>(rc.mp h).elim (λh=>t.dj x n h) λh=>by
   rw[io.mp h]at n;exact f.2 n
  l4:=by have:=t.l4;simp;exact this}⟩
 rw[Ak.FD];refine(t.vl.up<|Bi (λb h=>h) λb e j o=>?_).snoc<|r.up<|Bi (λb h=>t.dm b h) λb e j o=>?_
 .have g:b≠p6:=λz=>t.o6 (by rw[<-z];exact j);rw[AH g];exact bt.keep b e (λz=>t.hl<|by rw[ze z];exact t.h4 b j) o
 .have g:b≠p6:=λz=>by rw[z,t.e6]at j;cases j
  rw[AH g];exact o
end
theorem U'.K_:∀{xs:List Pt},(∀x∈xs,U' x)->Pt.AW xs<=1
 |[],_=>by simp[Pt.AW]|x::r,h=>by
  have a:=h x d9;have b:=U'.K_ (xs:=r) λy c=>h y<|cr _ c;have:x.deep<=1:=by cases a<;>simp[Pt.deep,Pt.AW]
  simp only[Pt.AW];exact(y9.mpr ⟨this,b⟩:_<=1)
theorem Sm.Zt(h:Sm d):d.deep<=2:=by
 cases h with
 |one h=>cases h<;>simp[Pt.deep,Pt.AW]|row h=>have:=U'.K_ h;simp only[Pt.deep];exact am (im this _) ac|tab h=>have:=U'.K_ h;simp only[Pt.deep];exact am (im this _) ac
def Ru(us:List Pt):Prop:=∀u∈us,u.doc/\u.size<=4/\u.deep<=2
theorem b_(h:u D (σ.set i (Z v)) H):JT (ZC (tC v) (BY i)) u D σ H:=h
theorem TU{a:Type}{y k:Str}{t:a}(n:k≠y):∀{ks:List Str}{c:List a},ks.length=c.length->lk (ks++[y]) (c++[t]) k=lk ks c k
 |[],[],_=>by rw[N6,N6,BJ,if_neg n]|[],_::_,l=>by simp at l|_::_,[],l=>by simp at l|x::ks,u::c,l=>by rw[D7,D7,BJ,BJ,TU n (GT l)]
theorem Pz(y:Str)(g:Val G v t):∀{ks:List Str}{ws:List V}{us:List Pt},ks.length=ws.length->ks.Nodup->AR G ws us->∃(b:List V)(a:List Pt),(Bo ks ws).map (λe=>if e.1=(e9 y:Key)then(e.1,v)else e)=Bo ks b/\ks.length=b.length/\AR G b a/\(∀u∈a,u∈us∨u=t)/\Pt.AM a<=Pt.AM us+(if y∈ks then t.size else 0)/\(∀k,k≠y->lk ks a k=lk ks us k)
 |[],[],_,_,_,.nil=>⟨[],[],W,W,.nil,(λu h=>nomatch h),GE,λ_ _=>rfl⟩
 |[],_::_,_,l,_,_=>by simp at l|_::_,[],_,l,_,_=>by simp at l|k::ks,w::ws,_,l,nd,.cons (t:=u) (ts:=us) h r=>by
  obtain⟨q,s⟩:=u4.mp nd;obtain⟨b,a,i,j,m,n,A,o⟩:=Pz y g (ks:=ks) (ws:=ws) (GT l) s r;have p:Bo (k::ks) (w::ws)=(e9 k,w)::Bo ks ws:=rfl;by_cases f:k=y
  .subst f;refine⟨v::b,t::a,?_,by simp[j],.cons g m,λx c=>?_,?_,λz d=>by rw[BJ,BJ,if_neg d,if_neg d];exact o z d⟩
   .rw[p,jp,i,if_pos W];rfl
   .rcases j4.mp c with rfl|c
    .exact .inr W
    .exact(n x c).imp (cr _) id
   .rw[if_neg q]at A;rw[if_pos d9];simp only[Pt.AM];lia
  .refine⟨w::b,u::a,?_,by simp[j],.cons h m,λx c=>?_,?_,λz d=>by rw[BJ,BJ,o z d]⟩
   .rw[p,jp,i,if_neg λz=>f<|G0 z];rfl
   .rcases j4.mp c with rfl|c
    .exact .inl d9
    .exact(n x c).imp (cr _) id
   .have:(y∈k::ks)↔y∈ks:=by
     constructor
     .intro h;exact(j4.mp h).resolve_left λz=>f z.symm
     .exact cr _
    simp only[this,Pt.AM];lia
theorem TV{G:Hp}(i:Val G v t)(l:ks.length=ws.length)(nd:ks.Nodup)(h:AR G ws us):∃(c:List Str)(e:List V)(d:List Pt),putK (Bo ks ws) (e9 y) v=Bo c e/\c.length=e.length/\c.Nodup/\AR G e d/\(∀k∈c,k∈ks∨k=y)/\(∀u∈d,u∈us∨u=t)/\Pt.AM d<=Pt.AM us+t.size/\c.length<=ks.length+1/\(∀k∈ks,k∈c)/\ks.length<=c.length/\(∀k,k≠y->lk c d k=lk ks us k):=by
 by_cases g:y∈ks
 .obtain⟨e,d,n,o,p,q,j,r⟩:=Pz y i l nd h;refine⟨ks,e,d,?_,o,nd,p,λk f=>.inl f,q,by rw[if_pos g]at j;exact j,ci _ _,λk f=>f,bv _,r⟩;unfold putK;rw[if_pos,n];rw[EA,FL<|BI l];exact decide_eq_true g
 .refine⟨ks++[y],ws++[v],us++[t],Ni l g v,by simp[l],?_,h.snoc i,λk f=>?_,λu s=>?_,?_,GE,λk f=>L7 _ f,GE,λk f=>TU f<|by rw[l,h.length]⟩
  .rw[A7];refine⟨nd,GE,λa m b w z=>?_⟩;rw[io.mp w]at z;rw[z]at m;exact g m
  .exact(rc.mp f).imp id io.mp
  .exact(rc.mp s).imp id io.mp
  .rw[Pt.A_];simp only[Pt.AM];lia
theorem K':∀{us:List Pt},(∀u∈us,u.deep<=n)->Pt.AW us<=n
 |[],_=>by simp[Pt.AW]|x::r,h=>by
  have a:=h x d9;have b:=K' (us:=r) λy c=>h y<|cr _ c;simp only[Pt.AW];exact y9.mpr ⟨a,b⟩
end
section
variable [Be K]
section
inductive iY(x y:V)(H:Hp)(Q:VK):Prop|mk(l b:Addr)(xs zs:List V)(a:x=.ref l)(c:y=.ref b)(d:Rd H l (.lst xs))(e:Rd H b (.lst zs))(f:xs.length+zs.length<=sizeLine)(g:OZ H (.lst (xs++zs)) Q)
theorem TX:DA X (N3 .Add) iY:=by
 intro pins s w H x y v u Q I i j h;obtain⟨l,b,A,B,rfl,rfl,k,m,f,q⟩:=h;cases i;cases j;obtain⟨z,c,n,r,e⟩:=k.ok I.BN;obtain⟨z2,a,C,g,o⟩:=m.ok I.BN;have p:=r.length;have d:=g.length;refine PySem.P.add_list e o ?_ (by rw[d7,d7];exact am (tz (bm p.symm)<|bm d.symm) f);have t:c.toArray++a.toArray=(c++a).toArray:=by simp
 rw[t];exact⟨.ref _,_,I.ZP (t':=s.toks) (r.append g)<|by rw[q5];exact f,W,q _ I.fresh⟩
end
theorem Nj:∀{kvs:List (Key×V)}{ks:List Str},kvs.map (·.1)=ks.map e9->kvs=Bo ks (kvs.map (·.2))
 |[],[],_=>rfl|[],_::_,h=>by simp at h|_::_,[],h=>by simp at h|(k,v)::kvs,y::ks,h=>by
  simp only[jp,E7]at h;have:=Nj h.2;rw[h.1,jp];show _=(e9 y,v)::Bo ks (kvs.map (·.2));rw[<-this]
theorem AR.Zu(a:Val G v t):∀{vs:List V}{us:List Pt},AR G vs us->∀j:Nat,AR G (vs.set j v) (us.set j t)
 |_,_,.nil,j=>.nil|_,_,.cons h r,0=>.cons a r|_,_,.cons h r,j+1=>.cons h (r.Zu a j)
theorem mem_set{x:Pt}(h:x∈us.set j t):x∈us∨x=t:=by
 rcases List.mem_or_eq_of_mem_set h with h|h
 .exact .inl h
 .exact .inr h
theorem TY:∀{ks:List Str}{ws:List V}{y:Str}{v:V}{j:Nat},ks.length=ws.length->ks.Nodup->ks[j]?=Z y->(Bo ks ws).map (λa=>if a.1=(e9 y:Key)then(a.1,v)else a)=Bo ks (ws.set j v)
 |[],_,_,_,_=>λ_ _ h=>by simp at h|_::_,[],_,_,_=>λl _ _=>by simp at l|k::ks,w::ws,y,v,0=>λl nd h=>by
  obtain⟨b,f⟩:=u4.mp nd;have e:k=y:=GT h
  subst e;have c:Bo (k::ks) (w::ws)=(e9 k,w)::Bo ks ws:=rfl;rw[c,jp,if_pos W];show _=(e9 k,v)::Bo ks ws;congr 1
  conv=>rhs;rw[<-List.map_id (Bo ks ws)]
  refine A2 λa d=>?_;rw[if_neg]
  .rfl
  .intro z;have:a.1∈(Bo ks ws).map (·.1):=A1 d;rw[BI<|GT l,z]at this;obtain⟨x,g,e⟩:=u7.mp this;rw[G0 e]at g;exact b g
 |k::ks,w::ws,y,v,j+1=>λl nd h=>by
  obtain⟨b,f⟩:=u4.mp nd;have i:ks[j]?=Z y:=GT h
  have c:Bo (k::ks) (w::ws)=(e9 k,w)::Bo ks ws:=rfl;have ne:¬(e9 k:Key)=e9 y:=λz=>b (by rw[G0 z];exact zf i);rw[c,jp,TY (v:=v) (GT l) f i,if_neg ne];rfl
theorem XH(v:V)(l:ks.length=ws.length)(nd:ks.Nodup)(h:ks[j]?=Z y):putK (Bo ks ws) (e9 y) v=Bo ks (ws.set j v):=by
 unfold putK;rw[if_pos,TY l nd h];rw[EA,FL<|BI l];exact decide_eq_true<|zf h
theorem P_(y:Str):∀{ks:List Str}{ws:List V}{us:List Pt},ks.length=ws.length->ks.Nodup->AR G ws us->∃(a:List Str)(b:List V)(c:List Pt),Ed (Bo ks ws) (e9 y)=Bo a b/\a.length=b.length/\a.Nodup/\AR G b c/\(∀k∈a,k∈ks)/\(∀u∈c,u∈us)/\Pt.AM c<=Pt.AM us/\a.length<=ks.length
 |[],[],_,_,_,.nil=>⟨[],[],[],W,W,.nil,.nil,(λu h=>nomatch h),(λu h=>nomatch h),bv _,bv _⟩
 |[],_::_,_,l,_,_=>by simp at l|_::_,[],_,l,_,_=>by simp at l|k::ks,w::ws,_,l,nd,.cons (t:=u) (ts:=us) h r=>by
  obtain⟨s,v⟩:=u4.mp nd;obtain⟨a,b,c,f,g,i,j,e,m,n,o⟩:=P_ y (ks:=ks) (ws:=ws) (GT l) v r;have p:Bo (k::ks) (w::ws)=(e9 k,w)::Bo ks ws:=rfl;by_cases q:(e9 k:Key)=e9 y
  .exact⟨a,b,c,by rw[p,MP q,f],g,i,j,λx d=>cr _<|e x d,λx d=>cr _<|m x d,by simp only[Pt.AM];exact am n<|d0 _ _,by simp only[j3];exact lM o⟩
  .refine⟨k::a,w::b,u::c,by rw[p,MQ q,f];rfl,by simp[g],u4.mpr ⟨λd=>s<|e k d,i⟩,.cons h j,λx d=>?_,λx d=>?_,by simp only[Pt.AM];exact im n _,by simp only[j3];exact gl o _⟩
   .rcases j4.mp d with rfl|d
    .exact d9
    .exact cr _<|e x d
   .rcases j4.mp d with rfl|d
    .exact d9
    .exact cr _<|m x d
theorem Cc(a:AF G H)(h:H d=ν):ov G H c d=c d:=by
 unfold ov;rw[a.free h,BC h]
theorem Me(c:AF G H)(d:∀b,m b=ν->H b=ν)(s:∀b o,m b=ν->n b=Z o->g b=Z o):AF (nw m n) (ov G H g):=λb o e=>by
 cases h:m b with
 |none=>rw[BC h]at e;rw[Cc c (d b h)];exact s b o h e|some z=>rw[Eb h]at e;cases e
theorem EF(c:AF G H)(d:∀b,m b=ν->H b=ν)(s:∀b o,m b=ν->n b=Z o->g b=Z o):AF (ov G m n) (ov G H g):=λb o e=>by
 unfold ov at e;cases h:G b with
 |some z=>rw[h]at e;unfold ov;rw[h];exact e|none=>
  rw[h]at e;exact Me c d s b o e
theorem Zv(R:Hp->Prop)(k:∀a,R a->d D σ a)(h:(∀a,R a->d D σ a)->Er c d U D σ H):Er c d U D σ H:=h k
theorem AR.TZ:∀{vs:List V}{us:List Pt},AR G vs us->∀k:Nat,AR G (vs.take k) (us.take k)
 |_,_,.nil,k=>by rw[ab9,ab9];exact .nil|_,_,.cons h r,0=>.nil|_,_,.cons h r,k+1=>.cons h (r.TZ k)
theorem Mf(vs:List V):∃k,JV vs ν (Z (-1))=vs.take k:=by
 rcases List.eq_nil_or_concat vs with rfl|⟨a,b,rfl⟩
 .exact⟨0,by simp[JV]⟩
 .exact⟨a.length,by rw[List.concat_eq_append,Us];simp⟩
end
section
variable [Be K]
theorem Bt.over(s:AF g c)(d:g D=ν)(bt:Bt (Z D) c h):AF g h:=λb o e=>bt.keep b o (λz=>by rw[<-ze z,d]at e;cases e)<|s _ _ e
theorem IA(s:AF g c)(d:g D=ν):AF g (CU D c):=λb o e=>by
 rw[Bj<|EK e d];exact s _ _ e
theorem ints_of:∀{vs:List V},(∀(i:Nat) v,vs[i]?=Z v->∃z:Int,v=.int z)->∃cs:List Int,vs=cs.map V.int
 |[],_=>⟨[],W⟩|v::r,h=>by
  obtain⟨z,rfl⟩:=h 0 v W;obtain⟨cs,rfl⟩:=ints_of (vs:=r) λi v a=>h (i+1) v (GT a);exact⟨z::cs,W⟩
structure El(H5 Hi:Hp)(p5:Addr)(ws:List V)(us:List Pt):Prop where
 s:AF H5 Hi
 n5:H5 p5=ν
 f:Hi p5=Z (.lst ws)
 v:AR (CU p5 Hi) ws us
theorem El.up(d:El c g m ws us)(s:AF g h):El c h m ws us:=⟨d.s.trans s,d.n5,s _ _ d.f,d.v.up λb o e=>by
 have i:b≠m:=λz=>by unfold CU at e;rw[if_pos z]at e;cases e
 rw[Bj i]at e⊢;exact s _ _ e⟩
theorem El.push(d:El g h m ws us)(s:AF h c)(i:Val (CU m c) n t):El g (upd c m (.lst (ws++[n]))) m (ws++[n]) (us++[t]):=by
 have u:AF (CU m c) (CU m<|upd c m<|.lst<|ws++[n]):=λb o e=>by
  have f:b≠m:=λz=>by unfold CU at e;rw[if_pos z]at e;cases e
  rw[Bj f]at e⊢;rw[AH f];exact e
 exact⟨(d.s.trans s).put d.n5,d.n5,AD,((d.up s).v.up u).snoc<|i.up u⟩
theorem El.mq(d:El k c m ws us)(s:AF c n)(j:Val (ov (CU m c) c n) p t):Val (CU m n) p t:=j.up λb o e=>by
 unfold ov at e;cases h:CU m c b with
 |some z=>
  rw[h]at e;cases e;have g:b≠m:=λz=>by unfold CU at h;rw[if_pos z]at h;cases h
  rw[Bj g]at h⊢;exact s _ _ h
 |none=>
  rw[h]at e;have g:b≠m:=λz=>by rw[z,Eb d.f]at e;cases e
  rw[Bj g];exact Cn _ _ e
theorem El.fit(d:El k c m ws us)(s:AF c g)(h:Val (nw g n) p t):Val (CU m n) p t:=h.up λb o e=>by
 have j:b≠m:=λz=>by rw[z,Eb<|s _ _ d.f]at e;cases e
 rw[Bj j];exact Cn _ _ e
end
end L2
namespace PySem
open PyProof.Rows PySem.F PySem.Spec
theorem Lr:Ps (.type "zip") "keys"=pure none:=by rw[L0,Ev];kernel_rfl
theorem Iu:Ps (.type "zip") "__getattr__"=pure none:=by rw[L0,Ev];kernel_rfl
theorem FF:aaB aep "zip.__getattribute__"=Z Builtin.«object.__getattribute__»:=
 Y7 (id':="object.__getattribute__") (by kernel_rfl) (by decide+kernel) (by decide+kernel) (by kernel_rfl)
theorem XI(a:Addr)(fs:Array ce)(name:Str)(u:Tok)(e:Ps (.type "zip") name=pure ν)(b:(["__module__","__name__","__qualname__","__doc__","__annotations__"]:List Str).contains name=false)(hsz:name.length+100<=sizeLine:=by size_fits):
  Meets (Builtin.«object.__getattribute__» ⟨[.ref a,.str name u],[]⟩) (λA R s=>s.heap.get? a=Z {cls:=.type "zip",dict:=ν,data:=.fields fs,slots:= #[]}/\raisesAttr (.ref a) name A R s):=
 Meets.of_wp λprog w A R s c=>by
  obtain⟨f,g,d,h,os⟩:=s;obtain⟨i,c⟩:=c;have j:(⟨f,g,d,h,os⟩:fx).TypeIs (.ref a) "zip":=⟨_,i,W⟩;unfold Builtin.«object.__getattribute__»
  repeat (any_goals (first|assumption|wp_step))
  simp only[b,FB,if_false]
  repeat (any_goals (first|assumption|wp_step))
  exact wpAny_raiseAttrError c.1 c.2<|attrMsg_fits (by decide+kernel) hsz
theorem Ls{prog:wv}{w:y8}{A:G1}{E:ce->fx->Prop}{s:fx}{a:Addr}{fs:Array ce}{Q:Option ce->fx->Prop}(i:s.heap.get? a=Z {cls:=.type "zip",dict:=ν,data:=.fields fs,slots:= #[]})(hA:A.handled=ν)(h:∀f j e,aej s.heap f e "AttributeError"->Q ν {s with heap:=f,toks:=j}):
  i9 (m7 prog w) A (adH (.ref a) "keys") Q E s:=by
 obtain⟨l,g,d,j,os⟩:=s;have k:∀b,(⟨l,g,d,b,os⟩:fx).TypeIs (.ref a) "zip":=λ_=>⟨_,i,W⟩;have m:=aci;have n:=SZ.lookup;have o:=SZ.bind<|.ref a;have p:=Iu;unfold adH getAttrBy? getAttrBy
 repeat (any_goals (first|assumption|exact k _|((with_reducible show i9 _ _ (call (aee "zip.__getattribute__") _ _) _ _ _);refine G4 SZ (k _) FF (F.args_zip_getattribute_2 _ _) (XI a fs "keys" _ Lr (by decide+kernel)) ⟨i,hA,λf b e c=>?_⟩)|wp_step))
 obtain⟨q,r,t⟩:=c.there;show i9 _ _ (R3 _ _ _ _ _ _ _) _ _ _;unfold R3
 repeat (any_goals (first|assumption|wp_step))
 exact h _ _ _ c.of
end PySem
namespace L2
open PySem PySem.Spec PyProof.Rows
variable{prog:wv}{A:G1}{w:y8}{R:acU->fx->Prop}
section
variable {K:Type} [DecidableEq K] {knd:KeyKind prog w K} 
theorem VH{d z TI TO t u l1 l2:Addr}{xs ys:Array ce}{more:List (K×ce)}(Q:A.handled=ν)(D:V4 z TI TO t u l1 l2)(c:z≠d/\TI≠d/\TO≠d/\t≠d/\u≠d/\l1≠d/\l2≠d)(hl:xs.size=more.length)(hsz:more.length<=100000)(S:∀(j:Nat) l f,more[j]?=Z (l,f)->∃a,xs[j]?=Z a/\ys[j]?=Z f/\knd.is l a=true):
  ∀(k i:Nat)(s:fx),more.length-i=k->i<=more.length->Zi s.heap z TI TO t u l1 l2 d i xs ys->s.heap.DictOf knd d (W0 [] (more.take i))-> (∀h' tk,h'.DictOf knd d (W0 [] more)->(∀b o,b≠d->b≠z->b≠TO->b≠t->b≠u->s.heap.get? b=Z o->h'.get? b=Z o)->R (.ok (.ret .none)) {s with heap:=h',toks:=tk})->
   KM (m7 prog w) A (.builtin "dict.update.loop" ⟨[.ref d,.ref z,B0 (i:Int),.none],[]⟩) R s:=by
 intro k
 induction k with
 |zero=>
  intro i s T U st v y;have B:i=more.length:=by lia
  subst B;refine zr Cg ?_;rw[xz BV _];show i9 _ A.in1 (Op (.ref z)>>=_) _ _ s;refine be (Pf (A:=A.in1) Q D st (by simp[<-hl]) λh' kept=>?_);rw[xL]at v;obtain⟨o,C,E,x,r⟩:=v;show i9 _ A.in1 (aay d []>>=_) _ _ _;exact be (b9<|b9<|y h' s.toks ⟨o,C,E,kept _ _ c.1.symm c.2.2.1.symm c.2.2.2.1.symm c.2.2.2.2.1.symm x,r⟩ λb o _ c1 c2 c3 c4 e=>kept b o c1 c2 c3 c4 e)
 |succ k V=>
  intro i s T U st v y;have m:i<more.length:=by lia
  obtain⟨⟨l,f⟩,N⟩:∃p,more[i]?=Z p:=⟨_,zc m⟩;obtain⟨a,X,Y,g⟩:=S i l f N;obtain⟨o,C,E,x,r⟩:=id v;have F:d<s.heap.objs.size:=ii x;refine zr Cg ?_;rw[xz BV _];show i9 _ A.in1 (Op (.ref z)>>=_) _ _ s;refine be (Pe (A:=A.in1) D st F X Y λh' G h O kept=>?_);have ζ:({s with heap:=h'}:fx).TypeIs (.ref s.heap.objs.size) "tuple":=⟨_,h,W⟩;have H:h'.DictOf knd d (W0 []<|more.take i):=⟨o,C,E,kept _ _ c.1.symm c.2.2.1.symm c.2.2.2.1.symm c.2.2.2.2.1.symm x,r⟩;have I:(W0 []<|more.take i).length<=sizeLine:=by
   have:=ac0 ([]:List (K×ce))<|more.take i;rw[B8,B6]at this;have e:sizeLine=16777216:=SB;lia
  show i9 _ A.in1 (S2 [n0 s.heap.objs.size] _>>=_) _ _ _;refine be<|ut<|be<|adR ?_;unfold aa4;refine be<|L4 ζ ?_;rw[if_pos ac];unfold abQ;refine be ?_;refine be<|Y4 h ?_;refine b9<|b9 ?_;show i9 _ A.in1 (S2 [a,f]<|aeA d a f) _ _ _;refine ut ?_;unfold aeA
  try with_reducible refine ut ?_
  refine be<|knd.pyHash g ?_;refine Z8 (hsz:=I) g H λh2 n q=>?_;have ξ:stored (W0 []<|more.take i) l f=W0 [] (more.take<|i+1):=(acZ [] more i (l,f) N).symm;rw[ξ]at n;have ic:((i:Int)+1)=((i+1:Nat):Int):=by simp
  refine b9 ⟨E1 BV _,?_⟩;rw[ic];refine V (i+1) _ z_ m (G.keep (λb o hb e=>by rw[q.2 b hb];exact e) c) n λh3 J L M=>y h3 J L λb o P c1 c2 c3 c4 e=>M b o P c1 c2 c3 c4<|by rw[q.2 b P];exact kept b o c1 c2 c3 c4 e
end
variable{s:fx}{pins:List (Addr×Obj)}{X:Cx}{H:Hp}
section
variable {σ:St} 
def dv(ks:List Str)(ys:List V):List (Key×V):=(ks.zip ys).map λp=>(e9 p.1,p.2)
inductive mr(K:zg)(x y:V)(H:Hp)(Q:VK):Prop|mk(a b:Addr)(ks:List Str)(ys:List V)(c:x=.ref a)(d:y=.ref b)(e:Ab K H a (ks.map V.str))(f:Ab K H b ys)(hl:ks.length=ys.length)(hz:ks.length<=1000)(q:OZ H (.dK (CN [] (dv ks ys))) Q)
def uN(K:zg)(t1 t2:TE):TE:=fun σ H Q=>t1 σ H λx a=>t2 σ a λy b=>mr K x y b Q
def uO(K:zg)(Q:VK):List V->Hp->Prop
 |[x,y],H=>mr K x y H Q|_,_=>False
theorem XJ{ks:List Str}:∀{ys:List V}{its a:List ce},ks.length=ys.length->Vals (ks.map V.str) its->Vals ys a->∃more:List (Key×ce),KV (dv ks ys) more/\more.length=ks.length/\∀(j:Nat) c d,more[j]?=Z (c,d)->∃b,its[j]?=Z b/\a[j]?=Z d/\(An X.prog X.w).is c b=true:=by
 induction ks with
 |nil=>exact λh _ _=>⟨[],by rw[wE h.symm];exact .nil,W,λj c d e=>by simp at e⟩|cons k ks i=>
  intro ys its a h r f;cases f with
  |nil=>simp at h|@cons y g ys a l f=>
  cases r with
  |@cons _ u _ its m r=>
  obtain⟨more,n,o,p⟩:=i (GT h) r f;refine⟨(e9 k,g)::more,.cons ⟨W,l⟩ n,by simp[o],λj c d e=>?_⟩;cases j with
  |zero=>
   have e:(e9 k,g)=(c,d):=GT e
   cases e;exact⟨u,W,W,HV (k:=e9 k) m⟩
  |succ j=>
   obtain⟨b,c1,c2,c3⟩:=p j c d (GT e);exact⟨b,GT c1,GT c2,c3⟩
theorem JH{p S pos d:Pos}(hc:X.calm=true)(hg:Gl X "dict")(hm:X.mg "dict"=ν)(Y:Gl X "zip")(ζ:X.mg "zip"=ν)(T:PE X t t1)(h2:PE X k t2)(hv:v7 "dict"=Z (.type "dict"):=by decide+kernel)(ξ:v7 "zip"=Z (.type "zip"):=by decide+kernel)(he:q7 [.Call (.Name "zip" S) [t,k] [] d] X.env=(false,GM (.Call (.Name "zip" S) [t,k] [] d) X.env)::q7 [] X.env:=by rfl)(Zm:(N1 pos (q7 [] X.env)).any (·.1)=false:=by rfl)(G:q7 [t,k] X.env=(false,GM t X.env)::q7 [k] X.env:=by rfl)(J:(N1 d (q7 [k] X.env)).any (·.1)=false:=by rfl)(me:q7 [k] X.env=(false,GM k X.env)::q7 [] X.env:=by rfl):
  PE X (.Call (.Name "dict" p) [.Call (.Name "zip" S) [t,k] [] d] [] pos) (uN X.K t1 t2):=by
 intro pins s σ H Q I h;refine Fa (EX I hg hm hv ?_ ac ac);refine y0 ?_ he Zm;rw[he];show i9 _ _ (aez ((false,GM (.Call (.Name "zip" S) [t,k] [] d) X.env)::N1 pos (q7 [] X.env))) _ _ s;refine R8 ?_;refine Fa (EX I Y ζ ξ ?_ ac ac);refine y0 (BF ((AB T (AB h2 BL me) G) d pins s σ H (uO X.K Q) I h) λus f zq=>zq.elim λvs H1 L r1 U=>?_) G J;obtain⟨x,y,rfl⟩:∃x y,vs=[x,y]:=by
  rcases vs with _|⟨x,_|⟨y,_|⟨z,r⟩⟩⟩
  .exact U.elim
  .exact U.elim
  .exact⟨x,y,W⟩
  .exact U.elim
 obtain⟨a,b,V,ys,rfl,rfl,ha,hb,hl,hz,q⟩:=(show mr X.K x y H1 Q from U);obtain⟨u,v,rfl,ru,rv⟩:=vals2 r1;cases ru;cases rv;obtain⟨its,r,pl,_⟩:=L.list ha;obtain⟨M,r',Wz,_⟩:=L.list hb;have B:a<f.heap.objs.size:=(let⟨_,e,_⟩:=pl.isList;ii e);have C:b<f.heap.objs.size:=(let⟨_,e,_⟩:=Wz.isList;ii e);have N:X.A.in1.handled=none:=I.ok.hd hc;refine call_zip_2 pl.isList Wz.isList λc z1 z2 z3 z4 z5 z6 k5=>?_;refine T7 ?_;obtain⟨more,m1,m2,m3⟩:=XJ (X:=X) hl r r';have D:=zipApart_new (n:=f.heap.objs.size) B C;refine abw (Q₁:=λO m=>O=.ref c.objs.size/\m={f with heap:=c.push {cls:=.type "dict",data:=.dict #[]}}) ada (abK _) acQ (ac1 _ ⟨W,W⟩) ?_;rintro O m ⟨rfl,rfl⟩;have i:(c.push {cls:=.type "dict",data:=.dict #[]}).DictOf (An X.prog X.w) c.objs.size []:=Heap.DictOf.new c;refine⟨i.typeIs,acu _ _,?_⟩;unfold Builtin.«dict.__init__»;refine be ?_;unfold aax;refine be<|Os i.typeIs ?_;show i9 _ _ (pure (c.objs.size,[n0<|f.heap.objs.size+4])) _ _ _;refine b9 ?_;show i9 _ _ (N0 "dict.__init__" c.objs.size (.ref<|f.heap.objs.size+4) [] .none) _ _ _;unfold N0;have up:∀b o,c.get? b=Z o->(c.push {cls:=.type "dict",data:=.dict #[]}).get? b=Z o:=λb o e=>ca _ e;have uP:({f with heap:=c.push {cls:=.type "dict",data:=.dict #[]}}:fx).TypeIs (.ref<|f.heap.objs.size+4) "zip":=⟨_,up _ _ z1,W⟩;refine be<|L4 uP ?_;rw[if_pos ac];refine be (Ls (up _ _ z1) N λT uE t ne1=>?_);rw[if_pos<|show(Q3 (ν:Option ce))=true from W];have P:∀b o,(c.push {cls:=.type "dict",data:=.dict #[]}).get? b=Z o->T.get? b=Z o:=ne1.keeps;have g:∀b o,c.get? b=Z o->T.get? b=Z o:=λb o e=>P b o<|up b o e;refine be<|L8 ?_;refine be<|acX (g _ _ z1) ?_;refine b9 ⟨E1 BV _,?_⟩;obtain⟨od,es,ep,uQ,rd⟩:=id i;have yc:∀{b o},c.get? b=Z o->b≠c.objs.size:=λe=>j7<|ii e;have uR:∀{b o},f.heap.get? b=Z o->b<f.heap.objs.size:=λe=>ii e;have nS:f.heap.objs.size+4≠c.objs.size/\f.heap.objs.size+2≠c.objs.size/\f.heap.objs.size+3≠c.objs.size/\f.heap.objs.size≠c.objs.size/\f.heap.objs.size+1≠c.objs.size/\a≠c.objs.size/\b≠c.objs.size:=by
  have E:c.objs.size=f.heap.objs.size+5:=z6;rw[E];generalize f.heap.objs.size=n at B C;exact⟨z_,z_,z_,z_,z_,j7<|bn B<|ci _ _,j7<|bn C<|ci _ _⟩
 show KM _ _ (.builtin "dict.update.loop" ⟨[.ref c.objs.size,.ref<|f.heap.objs.size+4,B0 ((0:Nat):Int),.none],[]⟩) _ _;refine VH (knd:=An X.prog X.w) (xs:=its.toArray) (ys:=M.toArray) (more:=more) N D nS (by rw[d7,m2,<-r.length,bi]) (am (am (bm m2) hz) ac) (λj k' v' e=>?_) more.length 0 _ GE (j5 _)
  ⟨.inl ⟨W,g _ _ z1,_,_,g _ _ z3⟩,g _ _ z2,z4.at λo e=>g _ o e,z5.at λo e=>g _ o e,(pl.isList.at λo e=>g _ o (k5 _ o e)),(Wz.isList.at λo e=>g _ o (k5 _ o e))⟩ ⟨od,es,ep,P _ _ uQ,rd⟩ (λh2 mW hd2 mX=>⟨W,?_⟩)
 .obtain⟨key,c1,c2,c3⟩:=m3 j k' v' e;exact⟨key,GT c1,GT c2,c3⟩
 .have mY:(CN []<|dv V ys).length<=sizeLine:=by
   have:=DM (dv V ys) [];have e:(dv V ys).length=V.length:=by unfold dv;rw[bi,Rs];lia
   exact AX<|by simp at this;exact am (am this<|bm e) hz
  have E:c.objs.size=f.heap.objs.size+5:=z6;have big:=L.big;have l:f.heap.objs.size<=c.objs.size:=by rw[E];exact ci _ _
  refine⟨.ref c.objs.size,_,L.laid (t':=mW) (λb o e=>?_) l<|Ic mY (beq_eq_false_iff_ne.mpr<|zn<|j7<|bn big l) (KV.merge m1 .nil) hd2,W,q _<|L.BN.fresh l⟩;have R:=uR e;exact mX b o (j7<|bn R l) (j7<|bn R<|ci _ _) (j7<|bn R<|ci _ _) (j7 R) (j7<|bn R<|ci _ _)<|g _ _<|k5 _ _ e
end
def kM(n:Nat):It:=⟨λi _=>i<n,λi H x a=>a=H/\x=.int (((n:Nat):Int)-1-((i:Nat):Int)),λi _=>n<=i⟩
variable{K:zg}
theorem VI{P:wv}{tg:C5}(it:Addr)(n:Nat):Turn P w K tg (kM n) [it] it (λi h=>abp h it ((((n:Nat):Int)-1)+(i:Nat)*(-1)) ((n:Int)-(i:Nat)) (-1))where
 mem:=by simp
 obj:=λi h st b hb=>by
  have e:b=it:=GT hb
  subst e;exact⟨_,st,λv z=>by
   have z':Data.fields _=Data.cell v:=z;cases z'⟩
 keep:=λi h h' st k=>k it GE _ st
 item:=by
  intro X hP hw hK hc i pins s σ H E I hf st hg;subst hP hw hK;obtain⟨f0,f1,f2,f3,f4,f5⟩:=hf it GE;have ξ:=Walks.range (prog:=X.prog) (w:=X.w) (I.ok.hd hc) it (((n:Nat):Int)-1) (-1) n;refine ξ.item i s _ _ hg st λv h' tk hv Su kk=>?_;obtain⟨t,rfl⟩:=hv;have I1:Inv X pins σ H {s with heap:=h',toks:=tk}:=I.turned (λb o hb e=>kk b o (GT hb) e) f0 f1 f3 f4 f5;refine⟨_,W,Om (s:={s with heap:=h',toks:=tk}) (n:="range_iterator") Su W W ac ⟨.int<|((n:Nat):Int)-1-((i:Nat):Int),H,I1,⟨t,?_⟩,⟨W,W⟩,Su,λb hb=>(hf b hb).1⟩⟩;congr 1;lia
 done:=by
  intro X hP hw hK hc i pins s σ H E I hf st hg;subst hP hw hK;obtain⟨f0,f1,f2,f3,f4,f5⟩:=hf it GE;exact aaU (I.ok.hd hc) st (by have:n<=i:=hg;lia) λh' eb=>⟨W,I.turned (t':=s.toks) (λb o hb e=>eb b o hb e) f0 f1 f3 f4 f5⟩
 self:=λ_ _ _ _ _ st h=>aaV st h
variable{E:ce->fx->Prop}
section
variable {tg:C5}
theorem Zw{R:It->Hp->Prop}{t u v:Tok}{tk:Nat}(I:Inv X pins σ H s)(f:n<=20000)(q:R (kM n) H):i9 (m7 X.prog X.w) X.A (aex (.ref s.heap.objs.size)) (lX X pins σ tg R) E {s with heap:=s.heap.push {cls:=.type "range",data:=.fields #[.int (((n:Nat):Int)-1) t,.int (-1) u,.int (-1) v]},toks:=tk}:=by
 have sz:S0 (((n:Nat):Int)-1) (-1) (-1)=(n:Int):=by
  unfold S0;rw[if_neg ac];split
  .have:(((n:Nat):Int)-1-(-1)-1)/(-(-1))+1=n:=by
    rw[show(-(-1:Int))=1 from W,Int.ediv_one];lia
   exact this
  .lia
 have c:ab0 (((n:Nat):Int)-1) (-1) (-1)=true:=by
  unfold ab0;rw[sz];simp only[adB,fy,J4,decide_eq_true_eq,beq_iff_eq,show¬((-1:Int)>0)by decide,if_false];lia
 refine ach (IsRange.new ..) c ?_;rw[sz];have a:Inv X pins σ H {s with heap:=s.heap.push {cls:=.type "range",data:=.fields #[.int (((n:Nat):Int)-1) t,.int (-1) u,.int (-1) v]},toks:=tk}:=I.kept λb o e=>ca _ e;refine⟨_,[(s.heap.push {cls:=.type "range",data:=.fields #[.int (((n:Nat):Int)-1) t,.int (-1) u,.int (-1) v]}).objs.size],_,_,H,W,
  a.kept (t':=tk) λb o e=>ca _ e,VI _ n,?_,λb d=>?_,q⟩
 .show abp _ _ ((((n:Nat):Int)-1)+((0:Nat):Int)*(-1)) ((n:Int)-((0:Nat):Int)) (-1);rw[show(((n:Nat):Int)-1)+((0:Nat):Int)*(-1)=((n:Nat):Int)-1 by simp,show(n:Int)-((0:Nat):Int)=n by simp];exact j8 _ W
 .have e:b=(s.heap.push {cls:=.type "range",data:=.fields #[.int (((n:Nat):Int)-1) t,.int (-1) u,.int (-1) v]}).objs.size:=GT d
  subst e;exact a.UT (bv _)<|a.BN.fresh<|bv _
def iZ(a:TA):TI:=λb H R=>a b H λc d=>∃n:Nat,c=[.int<|((n:Nat):Int)-1,.int<|-1,.int<|-1]/\n<=20000/\R (kM n) d
theorem VJ{p pos:Pos}(i:Gl X "range")(j:X.mg "range"=ν)(k:PA X [a,b,c] l)(hs:q7 [a,b,c] X.env=[(false,GM a X.env),(false,GM b X.env),(false,GM c X.env)]:=by rfl)(d:q7 [b,c] X.env=[(false,GM b X.env),(false,GM c X.env)]:=by rfl):
  PI X tg (.Call (.Name "range" p) [a,b,c] [] pos) (iZ l):=by
 intro pins s m H R I h;refine Call_ (EX I i j adO<|y0 (BF (k pos pins s m H _ I h) λA B o=>o.elim λC D u v w=>?_) (by rw[hs,d])<|by rw[d];rfl);obtain⟨n,e,x,q⟩:=w;subst e;cases v with
 |cons r f=>
  cases f with
  |cons y f=>
   cases f with
   |cons g f=>
    cases f;obtain⟨t,rfl⟩:=r;obtain⟨E,rfl⟩:=y;obtain⟨z,rfl⟩:=g;exact call_range_3 ac (Zw u x q)<|.inl<|PyProof.noPylong_small z_
end
theorem XM{g:TG}{b:TS}{D:Ends}(Pv:Nat->St->Hp->Prop)(c:Pv n σ H)(hs:∀i σ H e,Go D (Pv i) e->i<n->Pv (i+1) σ H->g (.int (i:Int)) σ H (b e))(d:∀σ H,Pv 0 σ H->D.nx σ H):
  UW (kM n) g b D σ H:=by
 refine⟨λi m σ H=>m=n-i/\i<=n/\Pv m σ H,⟨n,GE,j5 _,c⟩,?_⟩;rintro i m σ H ⟨rfl,k,p⟩;by_cases a:i<n
 .refine .inr ⟨a,Pv<|n-(i+1),λf h j=>⟨n-(i+1),z_,W,a,j⟩,λx h y=>?_⟩;obtain⟨e,y⟩:=y;subst e y;have e:((n:Nat):Int)-1-((i:Nat):Int)=(((n-(i+1):Nat)):Int):=by lia
  rw[e];refine hs (n-(i+1)) σ _ _ ⟨id,id⟩ z_ ?_;rw[show n-(i+1)+1=n-i by lia];exact p
 .have e:i=n:=by lia
  subst e;rw[Tk]at p;exact .inl ⟨bv _,d σ H p⟩
section
variable [Be K]
namespace Dc
end Dc
end
namespace Ak
mutual
def Az:Ak->Prop
 |any=>True|AY d=>d.doc|row xs _=>DK xs|tab ks xs ls _=>ks.length=xs.length/\ks.Nodup/\(∀k∈ks,Uz k=true)/\ks.length<60/\ls.length<=100/\(∀l∈ls,l∉ks)/\DK xs
def DK:List Ak->Prop
 |[]=>True|x::r=>Az x/\DK r
end
mutual
noncomputable def wt:Ak->Nat
 |any=>1|AY d=>d.size|row xs _=>1+Bv xs|tab _ xs _ _=>1+Bv xs
noncomputable def Bv:List Ak->Nat
 |[]=>0|x::r=>wt x+Bv r
end
mutual
noncomputable def dp:Ak->Nat
 |any=>1|AY d=>d.deep|row xs _=>1+FO xs|tab _ xs _ _=>1+FO xs
noncomputable def FO:List Ak->Nat
 |[]=>0|x::r=>max (dp x) (FO r)
end
theorem BB:∀{xs:List Ak},DK xs->∀x∈xs,Az x
 |y::r,h,x,a=>by
  simp only[DK]at h;rcases j4.mp a with rfl|a
  .exact h.1
  .exact BB h.2 x a
theorem Jt:∀{xs:List Ak},(∀x∈xs,Az x)->DK xs
 |[],_=>trivial|x::r,h=>⟨h x d9,Jt λy a=>h y (cr _ a)⟩
theorem Iv(a:Ak):1<=a.wt:=by cases a<;>simp only[wt]<;>first|lia|exact Pt.size_pos _
mutual
theorem Cw:∀a:Ak,a.size<=a.wt
 |any=>by simp[size,wt]|AY d=>by simp only[size,wt];exact Pt.size_pos d|row xs _=>by have:=B_ xs;simp only[size,wt];exact im this _|tab _ xs _ _=>by have:=B_ xs;simp only[size,wt];exact im this _
theorem B_:∀xs:List Ak,AM xs<=Bv xs
 |[]=>bv _|x::r=>by have:=Cw x;have:=B_ r;simp only[AM,Bv];lia
end
theorem FG:∀{xs:List Ak}{x:Ak},x∈xs->x.wt<=Bv xs
 |y::r,x,h=>by
  simp only[Bv];rcases j4.mp h with rfl|h
  .exact ci _ _
  .have:=FG h;exact am this<|d0 _ _
theorem CV:∀{xs:List Ak}{x:Ak},x∈xs->x.dp<=FO xs
 |y::r,x,h=>by
  simp only[FO];rcases j4.mp h with rfl|h
  .exact A3 _ _
  .have:=CV h;exact am this<|y4 _ _
theorem LA(p:a.Perm b):Bv a=Bv b:=by
 induction p with
 |nil=>rfl|cons x _ c=>simp only[Bv,c]|swap x y l=>simp only[Bv];lia|trans _ _ d e=>exact d.trans e
theorem XN(p:a.Perm b):FO a=FO b:=by
 induction p with
 |nil=>rfl|cons x _ c=>simp only[FO,c]|swap x y l=>simp only[FO];lia|trans _ _ d e=>exact d.trans e
mutual
theorem ie:∀a:Ak,a.ok->a.Az
 |any,_=>trivial|AY d,h=>by simp only[ok]at h;exact h.2.1|row xs _,h=>by simp only[ok]at h;simp only[Az];exact XO xs h|tab ks xs ls _,h=>by
  simp only[ok]at h;obtain⟨b,c,e,h4,f,g,i⟩:=h;simp only[Az];exact⟨b,c,e,h4,am f.1 ac,g,XO xs i⟩
theorem XO:∀xs:List Ak,Js xs->DK xs
 |[],_=>trivial|x::r,h=>by simp only[Js]at h;exact⟨ie x h.1,XO r h.2⟩
end
mutual
theorem XP:∀a:Ak,a.ok->a.wt<=4*a.size
 |any,_=>by simp[wt,size]|AY d,h=>by simp only[ok]at h;simp only[wt,size];lia|row xs _,h=>by simp only[ok]at h;have:=Rv xs h;simp only[wt,size];lia|tab b xs ls _,h=>by simp only[ok]at h;have:=Rv xs h.2.2.2.2.2.2;simp only[wt,size];lia
theorem Rv:∀xs:List Ak,Js xs->Bv xs<=4*AM xs
 |[],_=>bv _|x::r,h=>by simp only[Js]at h;have:=XP x h.1;have:=Rv r h.2;simp only[Bv,AM];lia
end
end Ak
theorem Sm.ig(h:Sm d):d.deep<=3:=by
 have one:∀a:List Pt,(∀x∈a,U' x)->Pt.AW a<=1:=by
  intro a
  induction a with
  |nil=>intro _;simp[Pt.AW]|cons x r b=>
   intro h;have c:=h x d9;have e:=b λy f=>h y<|cr _ f;have:x.deep<=1:=by cases c<;>simp[Pt.deep,Pt.AW]
   simp only[Pt.AW];exact(y9.mpr ⟨this,e⟩:_<=1)
 cases h with
 |one h=>cases h<;>simp[Pt.deep,Pt.AW]|row h=>have:=one _ h;simp only[Pt.deep];exact am (im this _) ac|tab h=>have:=one _ h;simp only[Pt.deep];exact am (im this _) ac
namespace Ak
mutual
theorem XQ:∀a:Ak,a.ok->a.dp<=a.deep+2
 |any,_=>by simp[dp,deep]|AY d,h=>by simp only[ok]at h;have:=h.1.ig;simp only[dp,deep];lia|row b _,h=>by simp only[ok]at h;have:=Rw b h;simp only[dp,deep];lia|tab c b ls _,h=>by simp only[ok]at h;have:=Rw b h.2.2.2.2.2.2;simp only[dp,deep];lia
theorem Rw:∀xs:List Ak,Js xs->FO xs<=AW xs+2
 |[],_=>by simp[FO]|x::r,h=>by simp only[Js]at h;have:=XQ x h.1;have:=Rw r h.2;simp only[FO,AW];lia
end
theorem Mg:∀ls:List Str,Pt.AW (ls.map Pt.str)<=1
 |[]=>by simp[Pt.AW]|x::r=>by have:=Mg r;simp only[jp,Pt.AW,Pt.deep];exact(y9.mpr ⟨bv _,this⟩:_<=1)
mutual
theorem Ta:∀a:Ak,a.pt.deep<=2*a.dp+2
 |any=>by simp[pt,Pt.deep,Pt.AW,dp]|AY d=>by simp only[pt,Pt.deep,Pt.AW,dp];lia|row xs m=>by have:=Rx xs;simp only[pt,Pt.deep,Pt.AW,dp];lia|tab b xs ls m=>by have:=Rx xs;have:=Mg ls;simp only[pt,Pt.deep,Pt.AW,dp];lia
theorem Rx:∀xs:List Ak,Pt.AW (EZ xs)<=2*FO xs+2
 |[]=>by simp[EZ,Pt.AW]|x::r=>by have:=Ta x;have:=Rx r;simp only[EZ,Pt.AW,FO];lia
end
mutual
theorem P':∀a:Ak,a.Az->a.wt<=900->a.pt.nice
 | .any=>λ_ _=>by simp[Ak.pt,Pt.nice,Pt.Dm]| .AY d=>λo z=>by
  simp only[Az,wt]at o z;simp only[Ak.pt,Pt.nice,Pt.Dm];exact⟨GE,trivial,Pt.Hv d o z,trivial⟩
 | .row xs m=>λo z=>by
  simp only[Az,wt]at o z;have:=Ak.CQ xs;have:=B_ xs;simp only[Ak.pt,Pt.nice,Pt.Dm];exact⟨GE,trivial,⟨by rw[Ak.AV,bi];lia,Iw xs o<|am (d0 _ _) z⟩,trivial,trivial⟩
 | .tab c xs ls m=>λo z=>by
  simp only[Az,wt]at o z;simp only[Ak.pt,Pt.nice,Pt.Dm];refine⟨GE,trivial,⟨by rw[Ak.AV,bi];exact o.1,o.2.1,am (gt o.2.2.2.1) ac,Iw xs o.2.2.2.2.2.2<|am (d0 _ _) z⟩,⟨by rw[bi];exact am o.2.2.2.2.1 ac,Pt.Pu λx b=>?_⟩,trivial,trivial⟩;obtain⟨y,_,rfl⟩:=u7.mp b;trivial
theorem Iw:∀xs:List Ak,DK xs->Bv xs<=900->Pt.Dm (Ak.EZ xs)
 |[]=>λ_ _=>trivial|x::r=>λo z=>by
  simp only[DK,Bv]at o z;simp only[Ak.EZ,Pt.Dm];exact⟨P' x o.1<|am (ci _ _) z,Iw r o.2<|am (d0 _ _) z⟩
end
def Kd:Ak->List Ak->Prop
 |row xs _,as=>as=xs|tab ks xs _ _,as=>∃ss:List Str,ss.Perm ks/\KB ss=true/\ss.map (lk ks xs)=as.map Z|_,as=>as=[]
end Ak
theorem some_inj{c:Type}:∀{a b:List c},a.map Z=b.map Z->a=b
 |[],[],_=>rfl|[],_::_,h=>by simp at h|_::_,[],h=>by simp at h|x::r,y::q,h=>by
  simp only[jp,E7]at h;rw[ze h.1,some_inj h.2]
namespace Ak
theorem Kd.one(h:Kd a as)(h':Kd a bs):as=bs:=by
 cases a with
 |row b m=>exact(show as=b from h).trans (show bs=b from h').symm|tab k b ls m=>
  obtain⟨l,c,e,f⟩:=h;obtain⟨n,g,i,j⟩:=h';have:=Bs e i<|c.trans g.symm;subst this;exact some_inj (f.symm.trans j)
 |any=>exact(show as=[]from h).trans (show bs=[]from h').symm|AY d=>exact(show as=[]from h).trans (show bs=[]from h').symm
theorem Kd.ok(h:Kd a as)(o:a.Az):∀x∈as,x.Az:=by
 cases a with
 |row c m=>simp only[Az]at o;rw[show as=c from h];exact BB o|tab g c ls m=>
  simp only[Az]at o;obtain⟨i,e,j,f⟩:=h;intro x b;have:=(Cu o.1 o.2.1 e f).mem_iff.mp b;exact BB o.2.2.2.2.2.2 x this
 |any=>rw[show as=[]from h];exact λx b=>nomatch b
 |AY d=>rw[show as=[]from h];exact λx b=>nomatch b
theorem Kd.size(h:Kd a as)(o:a.Az):a.size=1+AM as:=by
 cases a with
 |row b m=>rw[show as=b from h];rfl|tab f b ls m=>
  simp only[Az]at o;obtain⟨g,c,i,e⟩:=h;have:=EE<|Cu o.1 o.2.1 c e;simp only[Ak.size];lia
 |any=>rw[show as=[]from h];rfl|AY d=>rw[show as=[]from h];rfl
theorem Kd.wt(h:Kd a as)(o:a.Az):∀x∈as,x.wt<=a.wt:=by
 cases a with
 |row c m=>rw[show as=c from h];intro x b;have:=FG b;simp only[Ak.wt];exact am this (d0 _ _)|tab g c ls m=>
  simp only[Az]at o;obtain⟨i,e,j,f⟩:=h;intro x b;have:=FG<|(Cu o.1 o.2.1 e f).mem_iff.mp b;simp only[Ak.wt];exact am this (d0 _ _)
 |any=>rw[show as=[]from h];exact λx b=>nomatch b
 |AY d=>rw[show as=[]from h];exact λx b=>nomatch b
noncomputable def CW:List Ak->Option (List Pt)
 |[]=>Z []|AY d::r=>(CW r).map (d::·)|_::_=>ν
def BW(cs:List Ak)(m:Bool):Ak:=if m then row cs true else match CW cs with
 |some a=>AY (.lst a)|none=>row cs false
def BX(ss:List Str)(cs:List Ak)(ls:List Str)(m:Bool):Ak:=if m then tab ss cs ls true else match CW cs with
 |some a=>AY (.Ah ss a)|none=>tab ss cs [] false
mutual
inductive Good:Ak->Ak->Prop
 |any:Good .any .any
 |AY (d:Pt):Good (.AY d) (.AY d)
 |row {xs cs:List Ak} {m:Bool} (h:Em xs cs):Good (.row xs m) (BW cs m)
 |tab {ks ss:List Str} {xs as cs:List Ak} {ls:List Str} {m:Bool} (a:ss.Perm ks) (b:KB ss=true) (e:ss.map (lk ks xs)=as.map Z) (h:Em as cs):Good (.tab ks xs ls m) (BX ss cs ls m)
inductive Em:List Ak->List Ak->Prop
 |nil:Em [] []
 |cons {x y:Ak} {xs ys:List Ak} (h:Good x y) (r:Em xs ys):Em (x::xs) (y::ys)
end
theorem Em.length{xs ys:List Ak}(h:Em xs ys):xs.length=ys.length:=
 Em.rec (motive_1:=λ_ _ _=>True) (motive_2:=λxs ys _=>xs.length=ys.length) trivial (λ_=>trivial) (λ_ _=>trivial) (λ_ _ _ _ _=>trivial) W (λ_ _ _ a=>congrArg acx a) h
theorem Bl:∀{cs:List Ak}{a:List Pt},CW cs=Z a->cs=a.map AY
 |[],a,h=>by simp only[CW]at h;cases h;rfl|AY d::r,a,h=>by
  simp only[CW]at h;cases e:CW r with
  |none=>rw[e]at h;cases h|some es=>
   rw[e]at h;cases h;rw[Bl e];rfl
 |any::_,_,h=>by simp[CW]at h|row _ _::_,_,h=>by simp[CW]at h|tab _ _ _ _::_,_,h=>by simp[CW]at h
theorem LB:∀a:List Pt,Bv (a.map AY)=Pt.AM a
 |[]=>rfl|d::r=>by simp only[jp,Bv,wt,Pt.AM,LB r]
theorem LC:∀a:List Pt,FO (a.map AY)=Pt.AW a
 |[]=>rfl|d::r=>by simp only[jp,FO,dp,Pt.AW,LC r]
theorem LD:∀a:List Pt,DK (a.map AY)->Pt.Cr a
 |[],_=>trivial|d::r,h=>by simp only[jp,DK,Az]at h;exact⟨h.1,LD r h.2⟩
theorem LF(cs:List Ak)(m:Bool):(BW cs m).wt=1+Bv cs:=by
 unfold BW;split
 .rfl
 .split
  .rename_i a e
   rw[Bl e,LB];rfl
  .rfl
theorem LG(ss:List Str)(cs:List Ak)(ls:List Str)(m:Bool):(BX ss cs ls m).wt=1+Bv cs:=by
 unfold BX;split
 .rfl
 .split
  .rename_i a e
   rw[Bl e,LB];rfl
  .rfl
theorem LH(cs:List Ak)(m:Bool):(BW cs m).dp=1+FO cs:=by
 unfold BW;split
 .rfl
 .split
  .rename_i a e
   rw[Bl e,LC];rfl
  .rfl
theorem LI(ss:List Str)(cs:List Ak)(ls:List Str)(m:Bool):(BX ss cs ls m).dp=1+FO cs:=by
 unfold BX;split
 .rfl
 .split
  .rename_i a e
   rw[Bl e,LC];rfl
  .rfl
theorem LJ(m:Bool)(h:DK cs):(BW cs m).Az:=by
 unfold BW;split
 .exact h
 .split
  .rename_i a e
   rw[Bl e]at h;exact LD a h
  .exact h
theorem LK(m:Bool)(l:ss.length=cs.length)(nd:ss.Nodup)(a:∀k∈ss,Uz k=true)(sz:ss.length<60)(lz:ls.length<=100)(b:∀l∈ls,l∉ss)(h:DK cs):(BX ss cs ls m).Az:=by
 unfold BX;split
 .exact⟨l,nd,a,sz,lz,b,h⟩
 .split
  .rename_i c e
   rw[Bl e]at h l;rw[bi]at l;simp only[Az,Pt.doc];exact⟨l,nd,a,bn sz ac,LD c h⟩
  .exact⟨l,nd,a,sz,GE,(λl d=>by simp at d),h⟩
theorem Good.keeps{a b:Ak}(h:Good a b):a.Az->b.Az/\b.wt=a.wt/\b.dp=a.dp:=by
 refine Good.rec (motive_1:=λa b _=>a.Az->b.Az/\b.wt=a.wt/\b.dp=a.dp) (motive_2:=λc bs _=>(∀a∈c,a.Az)->DK bs/\Bv bs=Bv c/\FO bs=FO c) (λ_=>⟨trivial,W,W⟩) (λ_ h=>⟨h,W,W⟩) ?_ ?_ (λ_=>⟨trivial,W,W⟩) ?_ h
 .intro q t m _ h o;simp only[Az]at o;obtain⟨d,f,i⟩:=h<|BB o;refine⟨LJ _ d,?_,?_⟩
  .rw[LF,f];rfl
  .rw[LH,i];rfl
 .intro K u q c t ls m j L e g h o;simp only[Az]at o;obtain⟨v,s,w,A,B,C,D⟩:=o;have n:=Cu v s j e;obtain⟨d,f,i⟩:=h λx p=>BB D x<|n.mem_iff.mp p;have E:c.length=u.length:=by have:=congrArg sw e;simpa using this.symm
  refine⟨LK _ (by rw[<-g.length,E]) (j.nodup_iff.mpr s) (λk F=>w k<|j.mem_iff.mp F) (by rw[j.length_eq];exact A) B (λl G z=>C l G<|j.mem_iff.mp z) d,?_,?_⟩
  .rw[LG,f,LA n];rfl
  .rw[LI,i,XN n];rfl
 .intro x y q M _ _ h r o;obtain⟨d,f,i⟩:=h<|o _ d9;obtain⟨H,I,J⟩:=r λx p=>o x<|cr _ p;exact⟨⟨d,H⟩,by simp only[Bv,f,I],by simp only[FO,i,J]⟩
end Ak
structure QA{α:Type}(Kr:α->List α->Prop)(root:α)(n:Nat)(l:List α)(kN:List (List α)):Prop where
 len:kN.length=n
 eq:l=root::kN.flatten
 kids:∀(j:Nat) a ks,l[j]?=Z a->kN[j]?=Z ks->Kr a ks
 pos:∀j,j<n->j<=(kN.take j).flatten.length
theorem QA.start{b:Type}{c:b->List b->Prop}{a:b}:QA c a 0 [a] []:=⟨W,W,λj a d _ h=>by simp at h,λj h=>am (gt h)<|j5 _⟩
variable{n:Nat}
theorem QA.next{d:Type}{m:d->List d->Prop}{root a:d}{l ks:List d}{f:List (List d)}(b:QA m root n l f)(o:l[n]?=Z a)(r:m a ks):QA m root (n+1) (l++ks) (f++[ks]):=by
 obtain⟨c,p,s,t⟩:=b;have q:=Cd o;refine⟨by simp[c],by rw[p];simp,λj x k i g=>?_,λj u=>?_⟩
 .by_cases u:j<n
  .rw[q8 z_]at i g;exact s j x k i g
  .have:=Cd g;rw[q5,x9]at this;have e:j=n:=by lia
   subst e;rw[q8 q,o]at i;rw[w8<|bm c,c,Tk]at g;cases i;have:ks=k:=GT g
   subst this;exact r
 .by_cases h:j<n
  .rw[WP<|am (gt h)<|bm c.symm];exact t j h
  .have e:j=n:=by lia
   subst e;rw[WP<|bm c.symm,aa0<|bm c];rw[p,j3]at q;lia
theorem QA.at_{c:Type}{g:c->List c->Prop}{root:c}{l ks:List c}{a:List (List c)}{j:Nat}(b:QA g root l.length l a)(d:a[j]?=Z ks):j<1+(a.take j).flatten.length/\(l.drop (1+(a.take j).flatten.length)).take ks.length=ks/\1+(a.take (j+1)).flatten.length=1+(a.take j).flatten.length+ks.length/\1+(a.take j).flatten.length+ks.length<=l.length:=by
 have e:=Cd d;have h:a=a.take j++ks::a.drop (j+1):=by
  have:a.drop j=ks::a.drop (j+1):=by
   rw[A9 e];rw[zc e]at d;rw[ze d]
  rw[<-this,abi]
 have f:l=root::((a.take j).flatten++(ks++(a.drop<|j+1).flatten)):=by
  have:=b.eq;rw[h]at this;rw[this];simp
 have i:a.take (j+1)=a.take j++[ks]:=by rw[u8,d];rfl
 refine⟨?_,?_,?_,?_⟩
 .have:=b.pos j (by rw[<-b.len];exact e);lia
 .have:l.drop (1+(a.take j).flatten.length)=ks++(a.drop<|j+1).flatten:=by
   rw[show 1+(a.take j).flatten.length=(a.take j).flatten.length+1 by lia]
   conv=>lhs;rw[f]
   rw[List.drop_succ_cons,List.drop_left]
  rw[this,List.take_left'];rfl
 .rw[i];simp;lia
 .rw[f];simp;lia
theorem QB(h:n<=20000):n<=sizeLine:=am h<|show 20000<=2 ^ 24 by decide
noncomputable def Pt.hold:Pt->Pt
 | .tup (.str w::h::_)=>if w="row"∨w="table"then h else .lst []|_=>.lst []
mutual
inductive Ys:Nat->Pt->Prop
 |leaf {w:Str} {r:List Pt} (a:w≠"row") (b:w≠"table"):Ys 1 (.tup (.str w::r))
 |row {n:Nat} {xs r:List Pt} (z:xs.length<=900) (h:VL n xs):Ys (n+1) (.tup (.str "row"::.lst xs::r))
 |tab {n:Nat} {ks:List Str} {xs r:List Pt} (l:ks.length=xs.length) (nd:ks.Nodup) (z:ks.length<64) (h:VL n xs):Ys (n+1) (.tup (.str "table"::.Ah ks xs::r))
inductive VL:Nat->List Pt->Prop
 |nil:VL 0 []
 |cons {n m:Nat} {x:Pt} {r:List Pt} (h:Ys n x) (t:VL m r):VL (n+m) (x::r)
end
theorem Ys.XR(h:Ys n t):Fe t.hold:=by
 cases h with
 |@leaf w r a b=>
  have e:Pt.hold (.tup (.str w::r))=.lst []:=by
   cases r with
   |nil=>rfl|cons h r=>simp[Pt.hold,a,b]
  rw[e];exact j5 _
 |@row n c r z h=>exact z|@tab n f c r l nd d h=>exact⟨l,d⟩
namespace Ak
mutual
theorem nd:∀a:Ak,a.Az->a.size<=900->Ys a.size a.pt
 |any=>λ_ _=>.leaf ac ac|AY d=>λ_ _=>.leaf ac ac|row xs m=>λo z=>by
  simp only[size]at z;have b:=CQ xs;simp only[Az]at o;simp only[size,pt];rw[Tl];exact .row (by rw[AV,bi];exact am (am b<|d0 _ _) z) (mu xs o<|am (d0 _ _) z)
 |tab c xs ls m=>λo z=>by
  simp only[size,Az]at z o;simp only[size,pt];rw[Tl];exact .tab (by rw[AV,bi];exact o.1) o.2.1 (bn o.2.2.2.1 ac)<|mu xs o.2.2.2.2.2.2<|am (d0 _ _) z
theorem mu:∀xs:List Ak,DK xs->AM xs<=900->VL (AM xs) (EZ xs)
 |[]=>λ_ _=>.nil|x::r=>λo z=>by
  simp only[AM,DK]at z o;exact .cons (nd x o.1<|am (ci _ _) z)<|mu r o.2<|am (d0 _ _) z
end
theorem ij(o:a.Az)(k:Ik a.pt.hold us):∃as,Kd a as/\us=as.map pt:=by
 cases a with
 |any=>exact⟨[],W,show us=[]from k⟩|AY d=>
  have:us=[]:=by
   have h:Ik (.lst []) us:=by
    have e:(Ak.AY d).pt.hold=.lst []:=by simp only[pt,Pt.hold];exact if_neg ac
    rw[e]at k;exact k
   exact h
  exact⟨[],W,this⟩
 |row xs m=>exact⟨xs,W,by rw[<-AV];exact k⟩|tab c xs ls m=>
  simp only[Az]at o;obtain⟨b,f,i,e⟩:=(show∃b:List Str,b.Perm c/\KB b=true/\b.map (lk c<|EZ xs)=us.map Z from k);obtain⟨as,g⟩:=Gj (xs:=xs) o.1 λk j=>f.mem_iff.mp j;refine⟨as,⟨b,f,i,g⟩,?_⟩;refine some_inj<|e.symm.trans ?_;rw[AV,u5];have:b.map (lk c<|xs.map pt)=(b.map<|lk c xs).map (ae2 pt):=by
   rw[u5];exact A2 λk _=>Ea pt
  rw[this,g,u5];rfl
end Ak
section
variable [Be K]
theorem BO.qG(h:BO K (CU l H) a xs)(b:Bt (Z l) H d):BO K d a xs:=h.imp (λr=>r.up λo e=>by
 have c:a≠l:=λz=>by unfold CU at e;rw[if_pos z]at e;cases e
 rw[Bj c]at e;exact b.keep _ _ (λz=>c (ze z).symm) e) id
theorem Val.node{v:V}{t:Pt}(h:Val H v t)(d:Ys n t):∃(a:Addr)(w:Str)(rest:List V),v=.ref a/\BO K H a (.str w::rest)/\((w≠"row"/\w≠"table"/\t.hold=.lst [])∨((w="row"∨w="table")/\∃u r,rest=u::r/\Val H u t.hold)):=by
 cases d with
 |@leaf w r c f=>
  obtain⟨a,b,e,h,_⟩:=Val.t1 h;refine⟨a,w,b,e,h,.inl ⟨c,f,?_⟩⟩;cases r with
  |nil=>rfl|cons h r=>simp[Pt.hold,c,f]
 |@row n i r j d=>
  obtain⟨a,b,e,h,q⟩:=Val.t1 h;obtain⟨u,r,q,g,_⟩:=q.Hh;exact⟨a,"row",b,e,h,.inr ⟨.inl W,u,r,q,g⟩⟩
 |@tab n k i r l nd z d=>
  obtain⟨a,b,e,h,q⟩:=Val.t1 h;obtain⟨u,r,q,g,_⟩:=q.Hh;exact⟨a,"table",b,e,h,.inr ⟨.inr W,u,r,q,g⟩⟩
theorem IB:∀zs:List Str,AR H (zs.map V.str) (zs.map Pt.str)
 |[]=>.nil|z::r=>.cons (.str z) (IB r)
theorem CF:∀{ls:List Str}{vs:List V},AR H vs (ls.map Pt.str)->vs=ls.map V.str
 |[],_,h=>by cases h;rfl|x::r,_,h=>by
  cases h with
  |cons a b=>cases a;rw[jp,CF b]
structure gD{α β:Type}(R:α->β->Prop)(f:β->Pt)(H0 Hi:Hp)(as:List α)(ts:List V)(at_:Nat):Prop where
 len:ts.length=as.length
 val:∀(j:Nat) x,at_<=j->as[j]?=Z x->∃w b,ts[j]?=Z w/\R x b/\Val (nw H0 Hi) w (f b)
section
variable{α β:Type} {R:α->β->Prop} {f:β->Pt} {H0 Hi Hj:Hp} {as:List α} {ts:List V} {x:α} {b:β}
theorem gD.slice(F:gD (K:=K) R f H0 Hi as ts n):∀(k s:Nat),n<=s->s+k<=as.length->∃a,Paired R ((as.drop s).take k) a/\AR (nw H0 Hi) ((ts.drop s).take k) (a.map f)
 |0,s=>λ_ _=>⟨[],by rw[ad0];exact .nil,by rw[ad0];exact .nil⟩|k+1,s=>λc j=>by
  obtain⟨a,e,g⟩:=F.slice k (s+1) (lM c) z_;have l1:s<as.length:=by lia
  have l2:s<ts.length:=by rw[F.len];exact l1
  obtain⟨w,b,d,h,i⟩:=F.val s as[s] c<|zc l1;rw[zc l2]at d;refine⟨b::a,?_,?_⟩
  .rw[A9 l1,J6];exact .cons h e
  .rw[A9 l2,J6,jp,ze d];exact .cons i g
theorem gD.set(F:gD (K:=K) R f H0 Hi as ts (n+1))(s:∀b o,H0 b=ν->Hi b=Z o->Hj b=Z o)(c:as[n]?=Z x)(g:R x b)(hw:Val (nw H0 Hj) t (f b)):gD (K:=K) R f H0 Hj as (ts.set n t) n:=by
 refine⟨by rw[E6,F.len],λj y q a=>?_⟩;have d:=Cd c;by_cases e:j=n
 .subst e;rw[c]at a;cases a;exact⟨t,b,by rw[D8<|by rw[F.len];exact d],g,hw⟩
 .obtain⟨i,k,l,m,p⟩:=F.val j y z_ a;exact⟨i,k,by rw[F0<|zn e];exact l,m,p.up<|Bi (λ_ h=>h) s⟩
end
theorem _root_.L2.Ak.Em.pr:∀{xs ys:List Ak},Paired Ak.Good xs ys->Ak.Em xs ys
 |_,_,.nil=>.nil|_,_,.cons h r=>.cons h (Ak.Em.pr r)
theorem XS(l:List V)(i j:Nat)(h:i<=j)(a:j<=l.length):JV l (Z (i:Int)) (Z (j:Int))=(l.drop i).take (j-i):=by
 unfold JV;rw[HT.Sz,HT.Sz,adp a,adp<|am h a]
inductive XT{K:zg}[Be K](vs:List V)(H:Hp)(Q:VK)(b:XK):Prop|mk(G:Hp)(v:V)(t:Pt)(n:Nat)(c:vs=[v])(d:AF G H)(e:Val G v t)(f:Ys n t)(g:∀(w:V) (a:Hp),AF H a->(Val G w t.hold∨(t.hold=.lst []/\∃p,w=.ref p/\a p=Z (.lst [])))->Q w a)
def Tb:Sp:=λa H Q E=>XT a H Q E
inductive VM{K:zg}[Be K](vs:List V)(H:Hp)(Q:VK)(b:XK):Prop|mk(G:Hp)(v:V)(t:Pt)(n:Nat)(c:vs=[v])(d:AF G H)(e:Val G v t)(f:Ys n t)(g:∀(p:Addr) (es:List V) (us:List Pt) (a:Hp),AF H a->H p=ν->a p=Z (.lst es)->AR G es us->Ik t.hold us->Q (.ref p) a)
def IC:Sp:=λa H Q E=>VM a H Q E
inductive Iy{K:zg}[Be K](vs:List V)(H:Hp)(Q:VK)(b:XK):Prop
 |row (v:V) (ts:List Pt) (L:Addr) (ws:List V) (c:vs=[v,.ref L]) (d:Val H v (.lst ts)) (e:H L=Z (.lst ws)) (f:ws.length<=900) (g:∀(p:Addr)(a:Hp),AF H a->H p=ν->a p=Z (.lst ws)->Q (.ref p) a):Iy vs H Q b
 |tab (v:V) (ks:List Str) (ts:List Pt) (L:Addr) (ws:List V) (c:vs=[v,.ref L]) (d:Val H v (.Ah ks ts)) (e:H L=Z (.lst ws)) (f:Fe (.Ah ks ts)) (g:ws.length=ks.length) (h:ks.Nodup) (i:∀(p:Addr)(ss:List Str)(a:Hp),AF H a->H p=ν->ss.Perm ks->KB ss=true->a p=Z (.dK (Bo ss ws))->Q (.ref p) a):Iy vs H Q b
def LL:Sp:=λa H Q E=>Iy a H Q E
noncomputable def Ak.gE:Ak->Bool
 | .AY _=>false|_=>true
theorem Zx:∀{cs:List Ak}{vs:List V},vs.length=cs.length->(∀(i:Nat) v,vs[i]?=Z v->∃c,cs[i]?=Z c/\v=.bl c.gE)->∃bs:List Bool,vs=bs.map V.bl/\bs.any id=(Ak.CW cs).isNone:=by
 intro cs
 induction cs with
 |nil=>intro vs l _;have:vs=[]:=wE l;subst this;exact⟨[],W,W⟩|cons c r f=>
  intro vs l h;cases vs with
  |nil=>simp at l|cons v vs=>
   obtain⟨bs,rfl,g⟩:=f (vs:=vs) (GT l) λi v j=>by
    obtain⟨a,b,e⟩:=h (i+1) v (GT j);exact⟨a,GT b,e⟩
   obtain⟨a,b,e⟩:=h 0 v W;have:c=a:=GT b
   subst this;refine⟨c.gE::bs,by rw[e];rfl,?_⟩;rw[On,g];cases c with
   |AY d=>simp[Ak.CW,Ak.gE]|_=>simp[Ak.CW,Ak.gE]
inductive ID:Pt->List Ak->(List Pt->Pt)->Prop
 |row (cs:List Ak) (z:cs.length<=900):ID (.lst (cs.map Ak.pt)) cs .lst
 |tab (ss:List Str) (cs:List Ak) (l:ss.length=cs.length) (nd:ss.Nodup) (z:ss.length<64) (a:KB ss=true):ID (.Ah ss (cs.map Ak.pt)) cs (.Ah ss)
theorem ID.XR{mk:List Pt->Pt}(h:ID t cs mk):Fe t:=by
 cases h with
 |row cs z=>show(cs.map Ak.pt).length<=900;rw[bi];exact z|tab a cs l nd z b=>exact⟨by rw[bi];exact l,z⟩
theorem ID.len{mk:List Pt->Pt}(h:ID t cs mk):cs.length<=900:=by
 cases h with
 |row cs z=>exact z|tab a cs l nd z b=>exact am (am (bm l.symm) (gt z)) ac
theorem ID.kids{mk:List Pt->Pt}(h:ID t cs mk)(k:Ik t us):us=cs.map Ak.pt:=by
 refine k.one ?_;cases h with
 |row cs z=>rfl|tab a cs l nd z b=>exact⟨a,.refl _,b,Ht (by rw[bi];exact l) nd⟩
inductive VN{K:zg}[Be K](vs:List V)(H:Hp)(Q:VK)(e:XK):Prop|mk(a:Hp)(v:V)(t:Pt)(cs:List Ak)(mk:List Pt->Pt)(f:vs=[v])(g:Val (nw a H) v t)(h:ID t cs mk)(i:∀b,H b=ν->a b=ν)(j:∀(w:V) (c:Hp),AF H c->(Ak.CW cs=ν/\w=.AZ∨∃d,Ak.CW cs=Z d/\Val (nw a c) w (Ak.AY (mk d)).pt)->Q w c)
def LM:Sp:=λa H Q E=>VN a H Q E
inductive Ry{K:zg}[Be K](vs:List V)(H:Hp)(Q:VK)(d:XK):Prop|mk(a:Hp)(L:Addr)(ws:List V)(cs:List Ak)(m:Bool)(e:vs=[.ref L,.bl m])(f:H L=Z (.lst ws))(g:AR (nw a H) ws (cs.map Ak.pt))(h:ws.length<=900)(i:∀b,H b=ν->a b=ν)(j:a L=ν)(k:∀(w:V) (c:Hp),AF H c->Val (nw a c) w (Ak.BW cs m).pt->Q w c)
def GK:Sp:=λa H Q E=>Ry a H Q E
inductive Rz{K:zg}[Be K](vs:List V)(H:Hp)(Q:VK)(d:XK):Prop|mk(G a:Hp)(L:Addr)(ss:List Str)(ws:List V)(cs:List Ak)(z:V)(ls:List Str)(m:Bool)(g:vs=[.ref L,z,.bl m])(h:H L=Z (.dK (Bo ss ws)))(i:AR (nw a H) ws (cs.map Ak.pt))(j:ss.length=ws.length)(k:ss.Nodup)(l:ss.length<64)(n:KB ss=true)(o:∀b,H b=ν->a b=ν)(p:a L=ν)(q:Val H z (.lst (ls.map Pt.str)))(e:ls.length<=100)(f:∀(w:V) (c:Hp),AF H c->Val (nw a c) w (Ak.BX ss cs ls m).pt->Q w c)
def GL:Sp:=λa H Q E=>Rz a H Q E
inductive QC{K:zg}[Be K](vs:List V)(H:Hp)(Q:VK)(e:XK):Prop|mk(G c:Hp)(v:V)(a:Ak)(L:Addr)(ws:List V)(as cs:List Ak)(h:vs=[v,.ref L])(i:AF G H)(j:Val G v a.pt)(k:a.Az)(l:a.wt<=900)(m:H L=Z (.lst ws))(n:c L=ν)(o:∀b,H b=ν->c b=ν)(p:Ak.Kd a as)(q:Ak.Em as cs)(f:AR (nw c H) ws (cs.map Ak.pt))(g:∀(w:V) (b:Ak) (d:Hp),AF H d->Val (nw c d) w b.pt->Ak.Good a b->Q w d)
def Gp:Sp:=λa H Q E=>QC a H Q E
inductive XU{K:zg}[Be K](d e:Addr)(vs:List V)(H:Hp)(Q:VK)(f:XK):Prop|mk(G:Hp)(v:V)(a:Ak)(g:vs=[v,.ref d,.ref e])(h:AF G H)(i:Val G v a.pt)(j:a.Az)(k:a.wt<=900)(l:∀(w:V) (b:Ak) (c:Hp),AF H c->Val (nw H c) w b.pt->Ak.Good a b->Q w c)
def Nk(a b:Addr):Sp:=λc H Q E=>XU a b c H Q E
inductive XW{K:zg}[Be K](vs:List V)(H:Hp)(Q:VK)(d:XK):Prop|mk(G:Hp)(v:V)(a:Ak)(e:vs=[v])(f:AF G H)(g:Val G v a.pt)(h:a.Az)(i:a.wt<=900)(j:∀(w:V) (b:Ak) (c:Hp),AF H c->Val (nw H c) w b.pt->Ak.Good a b->Q w c)
def Nl:Sp:=λa H Q E=>XW a H Q E
end
def Lu(w:y8):Bool:=w.params.followText "set-order"
structure Jf(prog:wv)(w:y8)(h:Heap)(a:Addr)(ss:List Str)(o:Obj)(es:Array (Int×ce))(ep:Nat)(t:M6)(us:List Str):Prop where
 at_:h.get? a=Z o
 ex:o.ExactSet
 da:o.data=.set es ep t
 el:ElemsOf (wP prog w) es.toList
 st:K0 (es.toList.map (·.2)) us
 pm:us.Perm ss
 fi:t.fits es.size=true
 le:t.led= !Lu w
 pl:ss≠[]->t.plain=false
def SS(prog:wv)(w:y8)(h:Heap)(a:Addr)(ss:List Str):Prop:=∃o b c t d,Jf prog w h a ss o b c t d
theorem SS.keep(x:SS prog w h a ss)(k:∀o,h.get? a=Z o->h'.get? a=Z o):SS prog w h' a ss:=by
 obtain⟨o,b,c,t,d,y⟩:=x;exact⟨o,b,c,t,d,k o y.at_,y.ex,y.da,y.el,y.st,y.pm,y.fi,y.le,y.pl⟩
theorem DX:∀{vs:List ce}{ss:List Str},K0 vs ss->vs.length=ss.length
 |_,_,.nil=>rfl|_,_,.cons _ _ r=>by rw[j3,j3,DX r]
theorem Jf.size(x:Jf prog w h a ss o es ep t us):es.size=ss.length:=by
 have:=DX x.st;rw[bi,pY,x.pm.length_eq]at this;exact this
theorem Cy(p:l.Perm e):∀{ss:List Str},K0 l ss->∃us,K0 e us/\us.Perm ss:=by
 induction p with
 |nil=>intro ss h;exact⟨ss,h,.refl _⟩|cons x _ f=>
  intro ss h;cases h with
  |cons y t h=>
   obtain⟨us,c,d⟩:=f h;exact⟨y::us,.cons y t c,d.cons y⟩
 |swap x y l=>
  intro ss h;cases h with
  |cons a t h=>
   cases h with
   |cons b u h=>exact⟨b::a::_,.cons b u (.cons a t h),.swap a b _⟩
 |trans _ _ g i=>
  intro ss h;obtain⟨us,c,d⟩:=g h;obtain⟨j,k,m⟩:=i c;exact⟨j,k,m.trans d⟩
variable{vs:List ce}{v:ce}
theorem JI(h:K0 vs ss)(m:v∈vs):∃x t,v=.str x t/\x∈ss:=by
 induction h with
 |nil=>cases m|cons x t r a=>
  rcases j4.mp m with rfl|m
  .exact⟨x,t,W,d9⟩
  .obtain⟨y,u,e,m⟩:=a m;exact⟨y,u,e,cr _ m⟩
theorem Nm(h:K0 vs ss)(x:Str)(t:Tok):K0 (vs++[.str x t]) (ss++[x]):=by
 induction h with
 |nil=>exact .cons x t .nil|cons y u _ r=>exact .cons y u r
theorem Tc(t:M6)(j:Nat):(t.put j).1.led=t.led/\(t.put j).1.plain=t.plain:=⟨W,W⟩
theorem R_(t:M6)(es:Array (Int×ce))(h:Int)(x:ce):(layNew t es h x).2.1.led=t.led/\(t.plain=false->(layNew t es h x).2.1.plain=false):=by
 unfold layNew;split
 .rename_i slot d _
  dsimp only;unfold SetTable.orStandIn;split
  .exact⟨(Tc t slot).1,λh=>(Tc t slot).2.trans h⟩
  .exact⟨W,λ_=>rfl⟩
 .exact⟨W,λ_=>rfl⟩
theorem Nn(t:M6)(es:Array (Int×ce))(n:Nat):(aaA t es n).2.1.led=t.led/\(t.plain=false->(aaA t es n).2.1.plain=false):=by
 unfold aaA;split
 .rename_i b order e
  have a:b.led=t.led/\b.plain=t.plain:=by
   unfold adm aao at e;cases c:aag (B3 n-1) (es.map (·.1))with
   |none=>rw[c]at e;cases e|some d=>rw[c]at e;cases e;exact⟨W,W⟩
  dsimp only;split
  .exact⟨a.1,λh=>a.2.trans h⟩
  .exact⟨W,λ_=>rfl⟩
 .exact⟨W,λ_=>rfl⟩
variable{Q:Bool->fx->Prop}
section
theorem dy{tk:Tok}(hS:SS prog w s.heap a ss)(nx:x∉ss)(hz:ss.length<1000)(h:∀h',C8 a s.heap h'->SS prog w h' a (ss++[x])->Q true {s with heap:=h'}):i9 (m7 prog w) A (S5 a (.str x tk) ((wP prog w).hash x)) Q E s:=by
 obtain⟨o,D,ep,t,us,Y⟩:=hS;have I:=Y.size;have P:scanBound=4096:=rfl;have C:(wP prog w).is x (.str x tk)=true:=by simp[wP,K3]
 unfold S5 abu;refine ut<|be<|x6 Y.at_ Y.da Y.fi ?_;dsimp only;rw[byScan_of (knd:=strKind prog w) W (by rw[I,P];exact bn hz ac) Y.el,if_pos W];unfold setAddByScan;refine be<|be<|L8<|be<|acW C Y.at_ Y.da Y.fi Y.el ?_;have hn:D.toList.findIdx? (λe=>(wP prog w).is x e.2)=none:=by
  rw[aab];intro e he;obtain⟨y,u,N,m⟩:=JI Y.st (A1 (f:=(·.2)) he);rw[N];rw[aal];intro z;obtain⟨t2,e2⟩:=Q0 (show K3 x (.str y u)=true from z);have ey:y=x:=by injection e2
  exact nx<|by rw[<-ey];exact Y.pm.mem_iff.mp m
 rw[hn];dsimp only;have J:∀(b:Bool){j:fx}{R:Unit->fx->Prop},R () j->i9 (m7 prog w) A (match b with|true=>rule "set.scan.the-table-gave-way"|false=>pure ()) R E j:=λb j R hq=>by
  cases b
  .exact b9 hq
  .exact L8 hq
 have d:=layNew_perm t D ((wP prog w).hash x)<|.str x tk;have n:=layNew_fits t D ((wP prog w).hash x)<|.str x tk;have v:=R_ t D ((wP prog w).hash x)<|.str x tk;generalize layNew t D ((wP prog w).hash x) (.str x tk)=L at d n v⊢;obtain⟨c,t1,wd,gv⟩:=L;dsimp only at d n v⊢;rw[aam]at d;have S:ElemsOf (wP prog w) c.toList:=(Y.el.push C W).perm d;have K:c.size=ss.length+1:=by rw[<-pY,d.length_eq,q5,pY,I];rfl
 obtain⟨B,T,U⟩:∃B,K0 (c.toList.map (·.2)) B/\B.Perm (us++[x]):=by
  have F:(D.toList++[((wP prog w).hash x,K5 x tk)]).map (·.2)=D.toList.map (·.2)++[.str x tk]:=by rw[sU];rfl
  have h2:=Cy (d.symm.map (·.2)) (ss:=us++[x]) (by rw[F];exact Nm Y.st x tk);exact h2
 have V:B.Perm (ss++[x]):=U.trans (Y.pm.append_right _);refine be (J _ ?_);have fin:∀t2:M6,t2.led=(!Lu w)->t2.plain=false->t2.fits c.size=true->i9 (m7 prog w) A (do
    storeSet a c t2
    if(!wd&&t2.tooFull)=true then do
      (match(aaA t2 c (M8 c.size)).2.2 with|true=>rule "set.scan.the-table-gave-way"|false=>pure ())
      storeSet a (aaA t2 c (M8 c.size)).1 (aaA t2 c (M8 c.size)).2.1
      pure (Z true)
     else pure (Z true)) (λr G=>r=Z true/\Q true G) E s:=λt2 l2 p2 f2=>by
  have one:∀{F:Heap}{H:Obj}{N:Array (Int×ce)}{k:Nat}{ta:M6}(i:Array (Int×ce))(g:M6),F.get? a=Z H->H.ExactSet->H.data=.set N k ta->i.toList.Perm c.toList->g.led=(!Lu w)->g.plain=false->g.fits i.size=true-> (F.update a<|U2 i g).get? a=Z {H with data:=.set i (k+1) g}/\SS prog w (F.update a<|U2 i g) a (ss++[x]):=λ{F H N k ta} i g ho hx hd M l p f=>by
   have hg:(F.update a<|U2 i g).get? a=Z {H with data:=.set i (k+1) g}:=by
    have:=A0 (U2 i g) ho (by rw[acV i g hd];rfl);rw[acV i g hd]at this;exact this
   obtain⟨X,q1,q2⟩:=Cy (M.symm.map (·.2)) T;exact⟨hg,_,i,k+1,g,X,hg,hx,W,S.perm M,q1,q2.trans V,f,l,λ_=>p⟩
  obtain⟨g1,S1⟩:=one c t2 Y.at_ Y.ex Y.da (.refl _) l2 p2 f2;have b1:=J8 s.heap a<|U2 c t2;refine be (L5 Y.at_ Y.da ?_<|L6<|by rw[K,P];exact d8 (gl (gt hz) _) ac);split
  .have pr:=relayAll_perm t2 c<|M8 c.size;have ζ:=relayAll_fits t2 c<|M8 c.size;have O:=Nn t2 c<|M8 c.size;generalize aaA t2 c (M8 c.size)=Rl at pr ζ O⊢;obtain⟨e3,t3,g3⟩:=Rl;dsimp only at pr ζ O⊢;have ξ:e3.size=c.size:=by rw[<-pY,pr.length_eq,pY]
   refine be (J _<|be<|L5 g1 W ?_<|L6<|by rw[ξ,K,P];exact d8 (gl (gt hz) _) ac);obtain⟨_,S3⟩:=one e3 t3 g1 Y.ex W pr (O.1.trans l2) (O.2 p2) ζ;exact b9 ⟨W,h _ (b1.trans<|J8 _ a _) S3⟩
  .exact b9 ⟨W,h _ b1 S1⟩
 have done:∀{r:Option Bool}{G:fx},r=Z true/\Q true G->i9 (m7 prog w) A (match r with|some added=>pure added|none=>abu a (.str x tk) ((wP prog w).hash x) 99999) Q E G:=λ⟨e,q⟩=>by subst e;exact b9 q
 split
 .rename_i M
  refine be ?_;rw[hashByValue_scannable 8 (x:=.str x tk) W];refine b9 ?_;refine BF (fin {t1 with plain:=false} (v.1.trans Y.le) W<|SetTable.fits_plain_off n) λr G hr=>?_;obtain⟨rfl,q⟩:=hr;exact b9 q
 .rename_i M
  refine be<|b9 ?_;refine BF (fin t1 (v.1.trans Y.le) (GT M) n) λr G hr=>?_;obtain⟨rfl,q⟩:=hr;exact b9 q
theorem JJ:∀{vs:List ce}{ss:List Str},K0 vs ss->∀{x:Str},x∈ss->∃t,K5 x t∈vs
 |_,_,.cons x t r,y,h=>by
  rcases j4.mp h with rfl|h
  .exact⟨t,d9⟩
  .obtain⟨u,m⟩:=JJ r h;exact⟨u,cr _ m⟩
theorem dz(f:SS prog w s.heap a ss)(g:x∈ss)(hz:ss.length<1000)(h:Q false s):i9 (m7 prog w) A (S5 a (.str x tk) ((wP prog w).hash x)) Q E s:=by
 obtain⟨o,d,n,t,p,Y⟩:=f;have c:=Y.size;have i:scanBound=4096:=rfl;have b:(wP prog w).is x (.str x tk)=true:=by simp[wP,K3]
 unfold S5 abu;refine ut<|be<|x6 Y.at_ Y.da Y.fi ?_;dsimp only;rw[byScan_of (knd:=strKind prog w) W (by rw[c,i];exact bn hz ac) Y.el,if_pos W];unfold setAddByScan;refine be<|be<|L8<|be<|acW b Y.at_ Y.da Y.fi Y.el ?_;obtain⟨j,k⟩:∃j,d.toList.findIdx? (λe=>(wP prog w).is x e.2)=Z j:=by
  cases e:d.toList.findIdx? (λe=>(wP prog w).is x e.2)with
  |some j=>exact⟨j,W⟩|none=>
   rw[aab]at e;obtain⟨u,m⟩:=JJ Y.st<|Y.pm.mem_iff.mpr g;obtain⟨z,hz,l⟩:=u7.mp m;have:=e z hz;rw[l]at this;simp[wP,K3]at this
 rw[k];exact b9<|b9 h
end
def RC(a:List Str)(x:Str):List Str:=if x∈a then a else a++[x]
def Ju(l:List Str):List Str:=l.foldl RC []
theorem Zy:y∈RC a x↔y∈a∨y=x:=by
 unfold RC;by_cases h:x∈a
 .rw[if_pos h];exact⟨.inl,λz=>z.elim id λe=>by rw[e];exact h⟩
 .rw[if_neg h,rc,io]
theorem d_(n:a.Nodup):(RC a x).Nodup:=by
 unfold RC;by_cases h:x∈a
 .rw[if_pos h];exact n
 .rw[if_neg h];exact A7.mpr ⟨n,GE,λp c q b z=>h<|by rw[io]at b;rw[<-b,<-z];exact c⟩
theorem GN:∀{l a:List Str},a.Nodup->(l.foldl RC a).Nodup/\((l.foldl RC a).length<=a.length+l.length)/\∀y,y∈l.foldl RC a↔y∈a∨y∈l
 |[],a,n=>⟨n,GE,λy=>by simp⟩|x::r,a,n=>by
  obtain⟨b,d,c⟩:=GN (l:=r)<|d_ (x:=x) n;refine⟨b,?_,λy=>?_⟩
  .have:(RC a x).length<=a.length+1:=by unfold RC;split<;>simp
   simp only[W9,j3];lia
  .rw[W9,c,Zy,j4];exact⟨λz=>z.elim (λz=>z.elim .inl λe=>.inr<|.inl e) λz=>.inr<|.inr z,λz=>z.elim (λz=>.inl<|.inl z) λz=>z.elim (λe=>.inl<|.inr e) .inr⟩
theorem QD(l:List Str):(Ju l).Nodup:=(GN .nil).1
theorem Gq(l:List Str):(Ju l).length<=l.length:=by have:=(GN (l:=l) (a:=[]) .nil).2.1;unfold Ju;simpa using this
theorem LN:y∈Ju l↔y∈l:=by have:=(GN (l:=l) (a:=[]) .nil).2.2 y;unfold Ju;simpa using this
theorem Td(l:List Str)(x:Str):Ju (l++[x])=RC (Ju l) x:=by unfold Ju;rw[acM];rfl
theorem SA{x:Str}{tk:Tok}(d:SS prog w s.heap a ss)(hz:ss.length<1000)(h:∀b h',C8 a s.heap h'->SS prog w h' a (RC ss x)->Q b {s with heap:=h'}):i9 (m7 prog w) A (S5 a (.str x tk) ((wP prog w).hash x)) Q E s:=by
 unfold RC at h;by_cases c:x∈ss
 .rw[if_pos c]at h;exact dz d c hz<|h false s.heap ⟨W,λ_ _=>rfl⟩ d
 .rw[if_neg c]at h;exact dy d c hz<|h true
section
theorem XX(U:A.handled=ν)(n:l≠I)(a:S≠I)(p:S≠l)(M:K0 items.toList ss)(hsz:ss.length<1000):
  ∀(k i:Nat)(s:fx),ss.length-i=k->i<=ss.length->s.heap.IsListIter I l i->s.heap.IsList l items->SS prog w s.heap S (Ju (ss.take i))-> (∀h' tk,SS prog w h' S (Ju ss)->(∀b o,b≠S->b≠I->s.heap.get? b=Z o->h'.get? b=Z o)->R (.ok (.ret .none)) {s with heap:=h',toks:=tk})->
   KM (m7 prog w) A (.builtin "set.update.loop" ⟨[.ref S,.ref I],[]⟩) R s:=by
 have ξ:=Walks.list (prog:=prog) (w:=w) (A:=A.in1) U I l n items;have hlen:items.size=ss.length:=by have:=DX M;rw[pY]at this;exact this
 intro k
 induction k with
 |zero=>
  intro i s V N c q m u;have z:i=ss.length:=by lia
  subst z;refine zr Q1 ?_;rw[xz J9 _];show i9 _ A.in1 (Op (.ref I)>>=_) _ _ s;refine be (ξ.done s _ _ (by rw[hlen];exact⟨c,q⟩) λh' tk kept=>?_);rw[xL]at m;show i9 _ A.in1 (ret J1) _ _ _;exact b9 (u h' tk (m.keep λo e=>kept _ o (by simp[a]) e) λb o _ X e=>kept b o (by simp[X]) e)
 |succ k B=>
  intro i s V N c q m u;have d:i<ss.length:=by lia
  obtain⟨x,O⟩:=BH ss i d;refine zr Q1 ?_;rw[xz J9 _];show i9 _ A.in1 (Op (.ref I)>>=_) _ _ s;refine be (ξ.item i s _ _ (by rw[hlen];exact d) ⟨c,q⟩ λv h' tk Y f kept=>?_);obtain⟨g,rfl⟩:∃t,v=.str x t:=by
   have gen:∀{C:List ce}{D:List Str},K0 C D->∀{i:Nat}{v:ce}{x:Str},C[i]?=Z v->D[i]?=Z x->∃t,v=.str x t:=by
    intro C D h
    induction h with
    |nil=>intro i v x e _;simp at e|cons y t r B=>
     intro i v x E j;cases i with
     |zero=>simp at E j;subst E j;exact⟨t,W⟩|succ i=>exact B (GT E) (GT j)
   exact gen M (by rw[u6];exact Y) O
  have G:SS prog w h' S (Ju<|ss.take i):=m.keep λo e=>kept _ o (by simp[a]) e;have ld:=Gq<|ss.take i;rw[B8]at ld;have j:Ju (ss.take<|i+1)=RC (Ju<|ss.take i) x:=by rw[u8,O];exact Td _ _
  show i9 _ A.in1 (S2 [K5 x g] (setAdd S<|.str x g)>>=_) _ _ _;refine be<|ut ?_;unfold setAdd;refine ut<|be<|(wP prog w).pyHash (k:=x) (by simp[wP,K3]) ?_;refine SA (s:={s with heap:=h',toks:=tk+1}) G (d8 (am ld<|am (J3 _ _) N) hsz) λb2 ζ H P=>?_;rw[<-j]at P;refine b9 ⟨E1 J9 _,B (i+1) _ z_ d (f.1.at λo e=>by rw[H.2 I<|zn a];exact e) (f.2.at λo e=>by rw[H.2 l<|zn p];exact e) P λh3 J K L=>u h3 J K λb o Q T e=>L b o Q T ?_⟩;show ζ.get? b=Z o;rw[H.2 b Q];exact kept b o (by simp[T]) e
end
section
theorem Zz(a:ce){Q₁:ce->fx->Prop}(h:Q₁ (.ref s.heap.objs.size) {s with heap:=s.heap.push {cls:=.type "set",dict:=ν,data:=.set #[] 0 (.fresh 0 0 (!Lu w))}}):
  KM (m7 prog w) A (.call (.builtin "set.__new__") ⟨[.type "set",a],[]⟩) (wants Q₁ E) s:=by
 refine adl ?_;show i9 _ A.in1 (do checkBuiltinCall "set.__new__" ⟨[.type "set",a],[]⟩;again<|.builtin "set.__new__" ⟨[.type "set",a],[]⟩) _ _ s;refine be<|V5 (PySem.F.newCall_set_1 a)<|b9 ⟨E1 abf _,zr PySem.F.entry_set_new ?_⟩;rw[xz abf _];unfold Builtin.«set.__new__» ad7;have b:=acy;obtain⟨c,g,d,e,os⟩:=s;dsimp only;wp_walk;refine U3<|b9 ?_;dsimp only;simp only[newObj];exact be<|adh<|b9<|b9 h
end
abbrev DY(w:y8):Obj:={cls:=.type "set",dict:=ν,data:=.set #[] 0 (.fresh 0 0<|!Lu w)}
theorem SS.fresh(e:h.get? a=Z (DY w)):SS prog w h a []:=
 ⟨_, #[],0,_,[],e,⟨W,W,W⟩,W,(λe b=>by simp at b),.nil,.refl _,W,W,λz=>absurd W z⟩
variable{x:ce}
section
theorem JK{zs:List Str}{Q:ce->fx->Prop}(v:A.handled=ν)(y:∀(p:G1) (q:Unit->fx->Prop),p.handled=ν->(∀h' tk,SS prog w h' s.heap.objs.size zs->(∀b o,b<s.heap.objs.size->s.heap.get? b=Z o->h'.get? b=Z o)->q () {s with heap:=h',toks:=tk})->
   i9 (m7 prog w) p (E8 "set.__init__" s.heap.objs.size x) q E {s with heap:=s.heap.push (DY w)})(h:∀(h':Heap) (tk:Nat),SS prog w h' s.heap.objs.size zs->(∀b o,b<s.heap.objs.size->s.heap.get? b=Z o->h'.get? b=Z o)->Q (.ref s.heap.objs.size) {s with heap:=h',toks:=tk}):
  i9 (m7 prog w) A (call (.type "set") [x]) Q E s:=by
 obtain⟨c,L,t⟩:=Fk.mro;have k:=Fk.made;have u:=Fk.sub;refine adJ<|adl ?_;show i9 _ _ (callAny (.type "set") _) _ _ _;refine b9 ⟨Code.quiet_builtin _<|by decide+kernel,zr PySem.F.entry_type_call ?_⟩;rw[Around.under_plain (weight_type_call_type "set" [x] []) W];have M:=Fk.notType;have N:=Fk.canCreate;have z:=PySem.F.typeCall_set_1 x
 repeat (any_goals (first|assumption|wp_step))
 refine S9 (Zz x (E:=E) (Q₁:=λi d=>i=.ref s.heap.objs.size/\d={s with heap:=s.heap.push<|DY w}) ⟨W,W⟩) λr d l=>?_;cases r with
 |error e=>exact l|ok B=>
  cases B with
  |ret i=>
   obtain⟨rfl,rfl⟩:=l;have C:(s.heap.push<|DY w).get? s.heap.objs.size=Z (DY w):=j8 _ W;have D:Shared.TypeIs {s with heap:=s.heap.push<|DY w} (.ref s.heap.objs.size) "set":=⟨_,C,W⟩;have G:=Fk.init.lookup;have H:=Fk.init.bind<|.ref s.heap.objs.size
   repeat (any_goals (first|assumption|wp_step))
   refine S9 (abF (R:=wants (λr f=>r=.none/\∃h' tk,f={s with heap:=h',toks:=tk}/\SS prog w h' s.heap.objs.size zs/\(∀b o,b<s.heap.objs.size->s.heap.get? b=Z o->h'.get? b=Z o)) E) Fk.init.plain PySem.F.entry_set_init<|check_set_init_1 D ?_) λj f a=>?_
   .unfold Builtin.«set.__init__» noKeywords;generalize I:E8=U;wp_walk;subst I;refine y A.in1.in1 _ (by simp[v]) λh' tk J K=>?_;exact b9 ⟨W,h',tk,W,J,K⟩
   .cases j with
    |error e=>exact a|ok g=>
     cases g with
     |ret r=>
      obtain⟨rfl,h',tk,rfl,m,n⟩:=a
      repeat (any_goals (first|assumption|wp_step))
      exact h _ _ m n
     |_=>exact a.elim
  |_=>exact l.elim
theorem Mh{T:String}(a:s.TypeIs x T)(c:abS (.type T) (.type "set")=pure false)(d:abS (.type T) (.type "frozenset")=pure false)(h:Q false s):i9 (m7 prog w) A (D6 x) Q E s:=by
 unfold D6;show i9 _ _ (ace x (.type "set")>>=λb=>match toBool b with|true=>pure b|false=>ace x<|.type "frozenset") _ _ _;exact be<|FM a c<|FM a d h
theorem Lv{Q:ce->fx->Prop}(m:A.handled=ν)(hl:s.heap.IsList l items)(n:K0 items.toList ss)(g:ss.length<1000)(h:∀(h':Heap) (tk:Nat),SS prog w h' s.heap.objs.size (Ju ss)->(∀b o,b<s.heap.objs.size->s.heap.get? b=Z o->h'.get? b=Z o)->Q (.ref s.heap.objs.size) {s with heap:=h',toks:=tk}):
  i9 (m7 prog w) A (call (.type "set") [.ref l]) Q E s:=by
 refine JK m (λu v i q=>?_) h;obtain⟨ol,c,j,x,p⟩:=id hl;have d:l<s.heap.objs.size:=ii c;have a:(s.heap.push<|DY w).objs.size=s.heap.objs.size+1:=P1 ..;have f:(s.heap.push<|DY w).IsList l items:=hl.push _;have k:Shared.TypeIs {s with heap:=s.heap.push<|DY w} (.ref l) "list":=⟨ol,ca _ c,j⟩;unfold E8;refine be<|Mh k PySem.F.sub_list_set PySem.F.sub_list_frozenset ?_;rw[if_neg GE];refine be<|L4 k ?_;rw[if_neg ac];refine be<|O2 f ?_;refine be<|adS ?_;refine XX (l:=l) (I:=(s.heap.push<|DY w).objs.size) (S:=s.heap.objs.size) i (by rw[a];exact j7<|O4 d) (by rw[a];exact j7<|U5 _) (C6 d) n g (ss.length-0) 0 _ W (j5 _)
  ⟨_,j8 _ W,W,W⟩ (f.push _) (SS.fresh (ca _ (j8 _ W))) λh' tk r t=>?_
 exact b9<|q h' tk r λb o g e=>t b o (j7 g) (by rw[a];exact j7<|O4 g)<|ca _<|ca _ e
end
theorem Jv:Slot "set_iterator" "__next__" "set_iterator.__next__":=
 .of (owner:="set_iterator") (n:="__next__") (by rw[L0,Ev];kernel_rfl) (by decide+kernel) (by decide+kernel) (by decide+kernel) (by first|exact .inl (by decide+kernel)|exact .inr (by decide+kernel)) (by rw[TW];kernel_rfl)
theorem XY:aaB aep "set_iterator.__next__"=Z Builtin.«set_iterator.__next__»:=ac2<|by kernel_rfl
theorem QE:Manifest.owners.lookup (String.ofList ['r','o','t','a','r','e','t','i','_','t','e','s'].reverse)=Z Manifest.sig_set_iterator:=by kernel_rfl
theorem Z_(a:ce):adG "set_iterator.__next__" ⟨[a],[]⟩:=by
 unfold adG;rw[ad8 (id:="set_iterator.__next__") (n:=['_','_','t','x','e','n','_','_']) (o:=['r','o','t','a','r','e','t','i','_','t','e','s']) (by kernel_rfl) QE];kernel_rfl
theorem LO:aaB aep "set.__iter__"=Z Builtin.«frozenset.__iter__»:=Y7 (id':="frozenset.__iter__") (by kernel_rfl) W (by decide+kernel)<|by kernel_rfl
abbrev Z'(h:Heap)(b a:Addr)(f:ce)(i n ep:Nat):Prop:=h.get? b=Z {cls:=.type "set_iterator",dict:=ν,data:=.fields #[f,B0 (i:Int),.ref a,B0 (n:Int),B0 (ep:Int)],slots:= #[]}
theorem LP{a:Type}:∀{xs:List a}{i:Nat}(h:i<xs.length),(xs[i]::xs.eraseIdx i).Perm xs
 |x::xs,0,_=>.refl _|x::xs,i+1,h=>by
  have h':i<xs.length:=GT h
  exact(List.Perm.swap x _ _).trans<|(LP h').cons x
section
theorem SD{Q:Nat->fx->Prop}(b:n≠0)(h:∀i c,i<n->Q i {s with drawn:=c}):i9 (m7 prog w) A (choose a n) Q E s:=fun Γ p _=>by
 show Sem.wp _ _ (.choose a n .pure) _ _ p s;rw[Sem.wp_choose];exact⟨b,h _ _<|aaO _<|Nat.pos_of_ne_zero b⟩
theorem Mj{d:Type}:∀(n:Nat)(xs:List d)(s:fx){j:List d->fx->Prop},xs.length=n->(∀ys e,ys.Perm xs->j ys {s with drawn:=e})->i9 (m7 prog w) A (aer n xs) j E s
 |0,xs,s,j=>λa h=>by
  have:xs=[]:=wE a;subst this;unfold aer;exact b9 (h [] s.drawn<|.refl _)
 |n+1,[],s,j=>λa h=>by simp at a|n+1,x::xs,s,j=>λa h=>by
  unfold aer;refine be (SD GE λi e b=>?_);rw[zc b];have f:((x::xs)[i]::(x::xs).eraseIdx i).Perm (x::xs):=LP b;refine be<|Mj n _ _ (by rw[Z6 b];simpa using a) λys c g=>b9<|h _ c<|(g.cons _).trans f
end
theorem Te{b:Type}(f:Nat->Nat):∀(n k:Nat)(xs:List b)(out:Array b),xs.length=n->(pickOrder.go f n k xs out).toList.Perm (out.toList++xs)
 |0,k,xs,out,hl=>by
  have:xs=[]:=wE hl;subst this;unfold pickOrder.go;simp
 |n+1,k,xs,out,hl=>by
  unfold pickOrder.go;have a:f k % xs.length<xs.length:=aaO _<|bn (A6<|j5 _)<|bm hl.symm;rw[zc a];have c:(xs[f k % xs.length]::xs.eraseIdx (f k % xs.length)).Perm xs:=LP a;have d:=Te f n (k+1) (xs.eraseIdx<|f k % xs.length) (out.push xs[f k % xs.length]) (by rw[Z6 a];lia);refine d.trans ?_;rw[aam,zx];exact List.Perm.append_left _ c
theorem Mk{a:Type}(f:Nat->Nat)(xs:Array a):(abR f xs).toList.Perm xs.toList:=by
 unfold abR;have:=Te f xs.size 0 xs.toList #[] GE;simpa using this
inductive Np(w:y8)(h:Heap)(a:Addr)(es:Array (Int×ce))(ep:Nat)(t:M6)(tps:List Addr)(i:Nat):ce->List ce->Prop
 |text (b:Lu w=true):Np w h a es ep t tps i (B0 0) ((abR (w.params.setOrder a ep) es).toList.map (·.2))
 |drawn {c:Addr} {ps:List Nat} (b:Lu w=false) (d:c∈tps) (e:h.get? c=Z {cls:=.type "tuple",data:=.seq (ps.map λ(i:Nat)=>B0 (i:Int)).toArray}) (f:ps.Perm (j9 es.size)):Np w h a es ep t tps i (.ref c) (ps.map λj=>(es.getD j (0,.none)).2)|F' (b:Lu w=false) (z:es.size<=1):Np w h a es ep t tps i (B0 (if i=0 then 0 else((t.place.getD 0 0+1:Nat):Int))) (es.toList.map (·.2))
theorem SE(xs:Array Nat)(h:xs.size<=1):Y8 xs 0=0:=by
 obtain⟨l⟩:=xs;rcases l with _|⟨a,_|⟨b,r⟩⟩
 .rfl
 .show T4 #[a] 0 1 0 1=0;simp[T4]
 .simp at h
theorem VO(j:Nat):Y8 #[j] (j+1)=1:=by
 show T4 #[j] (j+1) 1 0 1=1;simp[T4]
variable{es:Array (Int×ce)}{tps:List Addr}{os:List ce}{t:M6}{o:Obj}{a:Addr}{ep i:Nat}
section
structure aB(prog:wv)(w:y8)(h:Heap)(it a:Addr)(o:Obj)(es:Array (Int×ce))(ep:Nat)(t:M6)(tps:List Addr)(os:List ce)(i:Nat):Prop where
 at_:h.get? a=Z o
 da:o.data=.set es ep t
 fi:t.fits es.size=true
 le:t.led= !Lu w
 f:∃f,Z' h it a f i es.size ep/\Np w h a es ep t tps i f os
theorem aB.keep{h h':Heap}{c:Addr}(x:aB prog w h c a o es ep t tps os i)(k:∀b∈c::a::tps,∀o,h.get? b=Z o->h'.get? b=Z o):aB prog w h' c a o es ep t tps os i:=by
 obtain⟨f,e,g⟩:=x.f;refine⟨k _ GE _ x.at_,x.da,x.fi,x.le,f,k _ GE _ e,?_⟩;cases g with
 |text b=>exact .text b|drawn b d j l=>exact .drawn b d (k _ (by simp[d]) _ j) l|F' b z=>exact .F' b z
end
variable{c:ce->fx->Prop}
section
theorem DL(h:Q (Lu w) s):i9 (m7 prog w) A setsByText Q E s:=by
 unfold setsByText;exact be<|U3<|b9 h
theorem QF{Q:Option ce->fx->Prop}(k:Z' s.heap d a f i n ep)(g:i9 (m7 prog w) A.in1 (Builtin.«set_iterator.__next__» ⟨[.ref d],[]⟩) (λfin c=>∃v,fin=.done (.ret v)/\Q (Z v) c) (λe c=>∃o,e=.ref o/\c.TypeIs (.ref o) "StopIteration"/\Q ν c) s):i9 (m7 prog w) A (Op (.ref d)) Q E s:=by
 have j:s.TypeIs (.ref d) "set_iterator":=⟨_,k,W⟩;unfold Op;refine be<|ab3<|SC (name:=Str.ofString "__next__") j Jv<|y3 Jv j XY ?_<|Z_ _;refine G3 g (λfin c h=>?_) λe c h=>?_
 .obtain⟨v,rfl,q⟩:=h;exact⟨v,W,b9 q⟩
 .obtain⟨o,rfl,l,q⟩:=h;exact be<|FM (T:="StopIteration") (b:=true) l adV<|b9 q
theorem QG{R:Fin->fx->Prop}(d:Z' s.heap b a f i es.size ep)(e:s.heap.get? a=Z o)(h:o.data=.set es ep t)(j:t.fits es.size=true)(g:i9 (m7 prog w) A (do
   if let .int slot _:=f then
    match<-abM a slot.toNat i ep with
    |some (x,next)=>
     aaz (.ref b) 0 (B0 next)
     aaz (.ref b) 1 (B0 ((i:Int)+1))
     ret x
    |none=>aaz (.ref b) 2 .none;acw (<-aey (.type "StopIteration") [])
   else
    let Z places<-abQ f|unsupported "internal:set_iterator"
    match places[i]? with
    |some (.int place _)=>
     let x<-acz a place.toNat ep
     aaz (.ref b) 1 (B0 ((i:Int)+1))
     ret x
    |some _=>unsupported "internal:set_iterator"|none=>aaz (.ref b) 0 (B0 0);aaz (.ref b) 2 .none;acw (<-aey (.type "StopIteration") [])) R c s):i9 (m7 prog w) A (Builtin.«set_iterator.__next__» ⟨[.ref b],[]⟩) R c s:=by
 unfold Builtin.«set_iterator.__next__»;refine be (m:=slotArgs "__next__" 0 _)<|b9 ?_;refine be<|wpAny_fieldsOf d W ?_;show i9 _ _ (setEntries a>>=_) _ _ _;refine be<|X2 e h j ?_;show i9 _ _ (if((es.size:Int) !=(es.size:Int))=true then _ else _) _ _ _;rw[if_neg GE];refine g
end
section
theorem XZ{R:Fin->fx->Prop}(d:A.handled=ν)(h:∀h' o,(∀b u,s.heap.get? b=Z u->h'.get? b=Z u)->Shared.TypeIs {s with heap:=h'} (.ref o) "StopIteration"->c (.ref o) {s with heap:=h'}):
  i9 (m7 prog w) A (do acw (<-aey (.type "StopIteration") [])) R c s:=by
 refine be ?_;simp only[aey,newTuple];refine be (O3 ?_<|by size_fits);refine be (m:=adX _ _)<|V5 (a:=J1) (by first|rfl|(simp only[adX];rfl)) ?_;refine O3 ?_ (by size_fits);simp only[acw];refine be<|wpAny_handled ?_;rw[d];refine be<|b9<|wpAny_throw ?_;exact h _ _ (λb u e=>ca _<|ca _ e) ⟨_,j8 _ W,W⟩
theorem ET{sl:Int}{Q:Option (ce×Nat)->fx->Prop}(l:s.heap.get? a=Z o)(m:o.data=.set es ep t)(f:t.fits es.size=true)(hl:t.led= !Lu w)(hw:Np w s.heap a es ep t tps i (B0 sl) os)(g:os[i]?=ν->Q ν s)(n:∀v (nx:Nat),os[i]?=Z v->Np w s.heap a es ep t tps (i+1) (B0 (nx:Int)) os->Q (Z (v,nx)) s):i9 (m7 prog w) A (abM a sl.toNat i ep) Q E s:=by
 unfold abM;refine be<|x6 l m f ?_;dsimp only;refine be<|DL ?_;generalize c:B0 sl=first at hw
 cases hw with
 |text b=>
  have u:sl=0:=by injection c
  subst u;rw[if_pos b,if_neg GE];refine be ?_;unfold setWalk;refine be<|x6 l m f ?_;dsimp only;refine be<|DL ?_;rw[if_pos b];refine be<|U3<|b9<|b9 ?_;show Q (((abR (w.params.setOrder a ep) es)[i]?).map λe=>(e.2,Y2 0)) s;rw[b6,u6]at g;cases p:(abR (w.params.setOrder a ep) es)[i]? with
  |none=>exact g (by rw[p];rfl)|some e=>exact n e.2 0 (by rw[b6,u6,p];rfl) (.text b)
 |drawn b F G H=>exact absurd c (by simp[B0])|F' b z=>
  rw[if_neg<|by rw[b];simp];refine B5 (λB=>absurd B ?_) λ_=>?_
  .show¬(!t.plain&&decide (es.size>1))=true;simp;lia
  refine be ?_;show i9 _ _ (if(!t.led&& !es.isEmpty)=true then _ else pure ()) _ _ _;rw[hl,b,if_neg GE];refine b9 ?_;have k:sl=(if i=0 then 0 else((t.place.getD 0 0+1:Nat):Int)):=by injection c
  have d:t.place.size=es.size:=by
   simp only[aap,fy,beq_iff_eq]at f;exact f.1
  show i9 _ _ (pure (match es[Y8 t.place sl.toNat]?,t.place[Y8 t.place sl.toNat]? with|some (_,x),Z j=>Z (x,j+1)|_,_=>ν)) _ _ _;refine b9 ?_;generalize C:t.place=P at d k⊢;obtain⟨D⟩:=es;obtain⟨pl⟩:=P;rcases D with _|⟨x,_|⟨y,r⟩⟩
  .exact g GE
  .rcases pl with _|⟨j,_|⟨I,r⟩⟩
   .simp at d
   .have J:(#[j]:Array Nat).getD 0 0=j:=rfl;by_cases q:i=0
    .subst q;have:sl=0:=by rw[k];simp
     subst this;rw[show Y2 0=0 from W,SE _ GE];refine n x.2 (j+1) GE ?_;have:=Np.F' (w:=w) (h:=s.heap) (a:=a) (es:= #[x]) (ep:=ep) (t:=t) (tps:=tps) (i:=0+1) b GE;rw[C]at this;simpa using this
    .have:sl=((j+1:Nat):Int):=by rw[k,if_neg q];rfl
     subst this;rw[A8,VO];refine g ?_;rw[O1];simp;lia
   .simp at d
  .simp at z
theorem aC{d:Addr}{Q:Option ce->fx->Prop}(x:aB prog w s.heap d a o es ep t tps os i)(q:d∉a::tps)(k:os[i]?=Z v)(h:∀h',aB prog w h' d a o es ep t tps os (i+1)->(∀b u,b≠d->s.heap.get? b=Z u->h'.get? b=Z u)->Q (Z v) {s with heap:=h'}):i9 (m7 prog w) A (Op (.ref d)) Q E s:=by
 obtain⟨f,p,hw⟩:=x.f;have P:a≠d:=λz=>q (by rw[z];exact d9);refine QF p<|QG p x.at_ x.da x.fi ?_;have fin:∀{r l:Heap}{g:ce},C8 d s.heap r->C8 d r l->Z' l d a g (i+1) es.size ep->Np w s.heap a es ep t tps (i+1) g os->∃B,Fin.done (.ret v)=.done (.ret B)/\Q (Z B) {s with heap:=l}:=λ{r l g} y n R S=>by
  have H:∀b u,b≠d->s.heap.get? b=Z u->l.get? b=Z u:=λb u N e=>by rw[n.2 b N,y.2 b N];exact e
  refine⟨v,W,h l ⟨H a _ P x.at_,x.da,x.fi,x.le,g,R,?_⟩ H⟩;cases S with
  |text b=>exact .text b|drawn b C D F=>exact .drawn b C (H _ _ (λz=>q (by rw[<-z];exact cr _ C)) D) F|F' b z=>exact .F' b z
 have I:((i:Int)+1)=((i+1:Nat):Int):=by simp
 generalize X:f=Y at p hw⊢;cases hw with
 |text b=>
  show i9 _ _ (abM a (Y2 0) i ep>>=_) _ _ _;refine be (ET (tps:=tps) (sl:=0) x.at_ x.da x.fi x.le (.text b) (λz=>by rw[k]at z;cases z) λB T c J=>?_);rw[k]at c;cases c;refine be (B2 p GE λr K y=>be<|B2 K GE λl m n=>b9 ?_);rw[I]at m;exact fin y n m J
 |@drawn U L b C D F=>
  show i9 _ _ (abQ (.ref U)>>=_) _ _ _;refine be<|TD D W ?_;rw[b6]at k;cases G:L[i]? with
  |none=>rw[G]at k;cases k|some j=>
   rw[G]at k;have O:j<es.size:=by
    have:=F.mem_iff.mp<|zf G;exact zw.mp this
   have M:((L.map λ(i:Nat)=>B0 (i:Int)).toArray)[i]?=Z (B0 (j:Int)):=by simp[G]
   show i9 _ _ (match((L.map λ(i:Nat)=>B0 (i:Int)).toArray)[i]? with|some (.int place _)=>_|some _=>_|none=>_) _ _ _;rw[M];show i9 _ _ (acz a (Y2 (j:Int)) ep>>=_) _ _ _;refine be ?_;unfold acz;refine be<|x6 x.at_ x.da x.fi ?_;dsimp only;rw[if_neg GE,A8,t8 O];refine b9 ?_;refine be (B2 p GE λl m n=>b9 ?_);rw[I]at m;have V:v=es[j].2:=by
    have:=ze k;rw[<-this];simp[ae3,O]
   subst V;exact fin (acP _ _) n m (.drawn b C D F)
 |F' b z=>
  show i9 _ _ (abM a (Y2 _) i ep>>=_) _ _ _;refine be (ET (tps:=tps) x.at_ x.da x.fi x.le (.F' b z) (λz=>by rw[k]at z;cases z) λB T c J=>?_);rw[k]at c;cases c;refine be (B2 p GE λr K y=>be<|B2 K GE λl m n=>b9 ?_);rw[I]at m;exact fin y n m J
theorem aD{m:Addr}{Q:Option ce->fx->Prop}(D:A.handled=ν)(x:aB prog w s.heap m a o es ep t tps os i)(k:os[i]?=ν)(h:∀h',(∀b u,b≠m->s.heap.get? b=Z u->h'.get? b=Z u)->Q ν {s with heap:=h'}):i9 (m7 prog w) A (Op (.ref m)) Q E s:=by
 obtain⟨f,g,hw⟩:=x.f;refine QF g<|QG g x.at_ x.da x.fi ?_;have fin:∀{q:Heap},(∀b u,b≠m->s.heap.get? b=Z u->q.get? b=Z u)->i9 (m7 prog w) A.in1 (do acw (<-aey (.type "StopIteration") [])) (λ(fin:Fin) n=>∃v,fin=.done (.ret v)/\Q (Z v) n) (λe n=>∃o,e=.ref o/\n.TypeIs (.ref o) "StopIteration"/\Q ν n) {s with heap:=q}:=λF=>
  XZ D λG H k3 t3=>⟨H,W,t3,h G λb u d e=>k3 b u (F b u d e)⟩
 generalize O:f=P at g hw⊢;cases hw with
 |text b=>
  show i9 _ _ (abM a (Y2 0) i ep>>=_) _ _ _;refine be (ET (tps:=tps) (sl:=0) x.at_ x.da x.fi x.le (.text b) (λ_=>?_) λI J c K=>by rw[k]at c;cases c);exact be (B2 g GE λC r l=>fin λb u d e=>by rw[l.2 b d];exact e)
 |@drawn L p b R M S=>
  show i9 _ _ (abQ (.ref L)>>=_) _ _ _;refine be<|TD M W ?_;have y:p[i]?=none:=by
   rw[b6]at k;cases y:p[i]? with
   |none=>rfl|some j=>rw[y]at k;cases k
  have B:((p.map λ(i:Nat)=>B0 (i:Int)).toArray)[i]?=none:=by simp[y]
  show i9 _ _ (match((p.map λ(i:Nat)=>B0 (i:Int)).toArray)[i]? with|some (.int place _)=>_|some _=>_|none=>_) _ _ _;rw[B];exact be (B2 g GE λC r l=>be<|B2 r GE λq T N=>fin λb u d e=>by rw[N.2 b d,l.2 b d];exact e)
 |F' b z=>
  show i9 _ _ (abM a (Y2 _) i ep>>=_) _ _ _;refine be (ET (tps:=tps) x.at_ x.da x.fi x.le (.F' b z) (λ_=>?_) λI J c K=>by rw[k]at c;cases c);exact be<|B2 g GE λC r l=>fin λb u d e=>by rw[l.2 b d];exact e
end
theorem IE:Slot "set_iterator" "__iter__" "set_iterator.__iter__":=
 .of (owner:="set_iterator") (n:="__iter__") (by rw[L0,Ev];kernel_rfl) (by decide+kernel) (by decide+kernel) (by decide+kernel) (by first|exact .inl (by decide+kernel)|exact .inr (by decide+kernel)) (by rw[TW];kernel_rfl)
theorem Lw:aaB aep "set_iterator.__iter__"=Z Builtin.«dict_keyiterator.__iter__»:=Y7 (id':="dict_keyiterator.__iter__") (by kernel_rfl) (by first|rfl|decide+kernel) (by decide+kernel)<|by kernel_rfl
theorem Nq(a:ce):adG "set_iterator.__iter__" ⟨[a],[]⟩:=by
 unfold adG;rw[ad8 (id:="set_iterator.__iter__") (n:=['_','_','r','e','t','i','_','_']) (o:=['r','o','t','a','r','e','t','i','_','t','e','s']) (by kernel_rfl) QE];kernel_rfl
theorem Xa(c:s.TypeIs (.ref r) "set")(h:Q false s):i9 (m7 prog w) A (K2 (.ref r)) Q E s:=by
 unfold K2;refine be<|W1 c PySem.F.slot_set_len.lookup ?_;generalize CU:("set.__len__":String)=d
 wp_delta
 rw[show splitId d=Z ("set","__len__")from by subst CU;decide+kernel];subst CU;refine be<|FM (T:="set") (b:=true) c (by rw[TW];kernel_rfl) ?_;refine B5 (λa=>absurd a ac) λ_=>B5 (λ_=>be<|L4 c<|b9 h) λa=>absurd (by decide+kernel) a
section
theorem VP(hh:A.handled=ν){it:Addr}(RB:it∉a::tps):Walks prog w A it (it::a::tps) [it] os.length (λi v=>os[i]?=Z v) (λi h=>aB prog w h it a o es ep t tps os i)where
 sub:=λb hb=>by rw[io.mp hb];exact d9
 frame:=λi h h' x k=>x.keep k
 item:=λi s Q E hi x hQ=>by
  refine aC x RB (zc hi) λh' x' kp=>?_;have:=hQ os[i] h' s.toks (zc hi) x' λb u hb e=>kp b u (GT hb) e;exact this
 done:=λs Q E x hQ=>by
  refine aD hh x (O1<|bv _) λh' kp=>?_;exact hQ h' s.toks λb u hb e=>kp b u (GT hb) e
 self:=λi s Q E x hQ=>by
  obtain⟨f,hI,_⟩:=x.f;have hT:s.TypeIs (.ref it) "set_iterator":=⟨_,hI,W⟩;refine acG hT IE<|y3 IE hT Lw ?_<|Nq _;exact b9 ⟨_,W,"set_iterator",_,hT,Jv.lookup,hQ⟩
theorem Xb{Q:ce->fx->Prop}(Y:Jf prog w s.heap a ss o es ep t us)(hz:ss.length<1000)(h:∀h' k tps os g,(∀b u,s.heap.get? b=Z u->h'.get? b=Z u)->(∀b∈tps,s.heap.objs.size<=b/\b<k)->s.heap.objs.size<=k->k<h'.objs.size->aB prog w h' k a o es ep t tps os 0->os.Perm (es.toList.map (·.2))->Q (.ref k) {s with heap:=h',drawn:=g}):
  i9 (m7 prog w) A (aex (.ref a)) Q E s:=by
 have B:s.TypeIs (.ref a) "set":=⟨_,Y.at_,Y.ex.1⟩;have n:=Y.size;refine acG B abd<|y3 abd B LO ?_<|PySem.F.args_set_iter_1 _;unfold Builtin.«frozenset.__iter__»;refine be (m:=aev "__iter__" _)<|b9 ?_;refine be ?_;unfold aeo;refine be<|X2 Y.at_ Y.da Y.fi<|b9 ?_;refine be ?_;unfold setDrawn;refine be<|x6 Y.at_ Y.da Y.fi ?_;dsimp only;refine be<|DL<|b9 ?_;have ends:∀{l:fx}(f:ce)(tps:List Addr)(os:List ce),(∃g d,l={s with heap:=d,drawn:=g}/\(∀b u,s.heap.get? b=Z u->d.get? b=Z u)/\(∀b∈tps,s.heap.objs.size<=b/\b<d.objs.size)/\s.heap.objs.size<=d.objs.size)->(∀h',(∀b u,l.heap.get? b=Z u->h'.get? b=Z u)->Np w h' a es ep t tps 0 f os)->os.Perm (es.toList.map (·.2))->
   i9 (m7 prog w) A.in1 (do ret (<-newFields "set_iterator" [f,B0 0,.ref a,B0 es.size,B0 (<-setEpoch a)])) (λ(fin:Fin) C=>∃v,fin=.done (.ret v)/\∃T r,C.TypeIs v T/\Ps (.type T) "__next__"=pure (Z r)/\Q v C) E l:=λ{l} f tps os ⟨g,d,G,k1,t1,l1⟩ H I=>by
  subst G;refine be<|aaf (k1 _ _ Y.at_) Y.da Y.fi ?_;refine be (O3 ?_<|by size_fits);have p:(d.push {cls:=.type "set_iterator",data:=.fields #[f,B0 0,.ref a,B0 es.size,B0 ep]}).get? d.objs.size=Z {cls:=.type "set_iterator",data:=.fields #[f,B0 0,.ref a,B0 es.size,B0 ep]}:=j8 _ W;refine b9 ⟨_,W,"set_iterator",_,⟨_,p,W⟩,Jv.lookup,?_⟩;refine h _ _ tps os g (λb u e=>ca _<|k1 b u e) t1 l1 (ii p) ⟨ca _<|k1 _ _ Y.at_,Y.da,Y.fi,Y.le,f,p,H _ λb u e=>ca _ e⟩ I
 have D:∀b u,s.heap.get? b=Z u->s.heap.get? b=Z u:=λb u e=>e;refine B5 (λhz=>?_) λhz=>?_
 .have c:Lu w=false:=by
   cases c:Lu w with
   |false=>rfl|true=>rw[c]at hz;simp at hz
  refine be (Mj es.size (j9 es.size) s GE λq g x=>?_);have J:q.length=es.size:=by rw[x.length_eq,wS]
  refine be (adT (items:=q.map λ(i:Nat)=>B0 (i:Int)) ?_<|by rw[bi];exact AX z_);refine ends (.ref s.heap.objs.size) [s.heap.objs.size] (q.map λj=>(es.getD j (0,.none)).2) ⟨g,_,W,λb u e=>ca _ e,λb c=>?_,?_⟩ (λh' y=>.drawn c d9 (y _ _<|j8 _ W) x) ?_
  .rw[io.mp c];exact⟨bv _,by show _<(s.heap.push _).objs.size;rw[P1];exact U5 _⟩
  .show _<=(s.heap.push _).objs.size;rw[P1];exact V7 _
  .refine(x.map _).trans ?_;have e:(j9 es.size).map (λj=>(es.getD j (0,.none)).2)=es.toList.map (·.2):=by
    refine No GE λi d M=>?_;have K:i<es.size:=GT d
    simp[ae3,K]
   rw[e]
 .refine be<|b9 ?_;cases c:Lu w with
  |true=>exact ends (B0 0) [] _ ⟨s.drawn,s.heap,W,D,(λb c=>by simp at c),bv _⟩ (λh' y=>.text c) ((Mk _ es).map _)|false=>
   have z1:es.size<=1:=by
    rw[c]at hz;have hz:¬(!false&&(!t.plain&&decide (es.size>1)))=true:=hz;by_cases z:es.size=0
    .exact am (bm z)<|j5 _
    .have L:=Y.pl (λe=>z<|by rw[n,e];rfl);rw[L]at hz;simp at hz;exact hz
   exact ends (B0 0) [] _ ⟨s.drawn,s.heap,W,D,(λb c=>by simp at c),bv _⟩ (λh' y=>.F' c z1)<|.refl _
theorem QH{Q:List ce->fx->Prop}(hh:A.handled=ν)(hS:SS prog w s.heap a ss)(hz:ss.length<1000)(h:∀h' tk N vs zs,(∀b u,s.heap.get? b=Z u->h'.get? b=Z u)->s.heap.objs.size<=h'.objs.size->K0 vs zs->zs.Perm ss->Q vs {s with heap:=h',toks:=tk,drawn:=N}):i9 (m7 prog w) A (collect (.ref a)) Q E s:=by
 obtain⟨o,ξ,ep,t,us,Y⟩:=hS;have P:=Y.size;unfold collect;refine be<|adS<|zr PySem.F.entry_proto_collect ?_;rw[xz PySem.F.plain_proto_collect _];show i9 _ A.in1 (newList []>>=λl=>again<|.builtin "list.__iadd__" ⟨[l,.ref a],[]⟩) _ _ s;refine be<|O3 ?_;refine b9 ⟨E1 aaI _,zr PySem.F.entry_list_iadd ?_⟩;rw[xz aaI _];obtain⟨B,m⟩:∃B,B=s.heap.push {cls:=.type "list",data:=.seq ([]:List ce).toArray}:=⟨_,W⟩;have I:B.objs.size=s.heap.objs.size+1:=by rw[m];exact P1 ..
 have k1:∀b u,s.heap.get? b=Z u->B.get? b=Z u:=λb u e=>by rw[m];exact ca _ e
 have R:B.get? s.heap.objs.size=Z {cls:=.type "list",data:=.seq #[]}:=by rw[m];exact j8 _ W
 rw[<-m];have D:a<s.heap.objs.size:=ii Y.at_;have S:Jf prog w B a ss o ξ ep t us:=⟨k1 _ _ Y.at_,Y.ex,Y.da,Y.el,Y.st,Y.pm,Y.fi,Y.le,Y.pl⟩;show i9 _ A.in1 (Db (.ref s.heap.objs.size) (.ref a)<|.ref s.heap.objs.size) _ _ _;unfold Db;refine be<|L4 (T:="set") ⟨_,S.at_,Y.ex.1⟩ ?_;have n1:M3 (.ref s.heap.objs.size) (.ref a)=false:=by simp[M3];exact C6 D
 rw[if_neg<|by rw[n1];decide];refine be (Xb (s:={s with heap:=B}) S hz λO J G os N k2 t2 l2 ye x pm=>?_);have n:s.heap.objs.size+1<=J:=by rw[<-I];exact l2
 have K:s.heap.objs.size∉J::a::G:=λf=>by
  rcases j4.mp f with e|f
  .exact absurd n<|by rw[<-e];exact abH _
  rcases j4.mp f with e|f
  .exact absurd D<|by rw[e];exact E2 _
  .have:=(t2 _ f).1;exact absurd this<|by show¬(B.objs.size<=_);rw[I];exact abH _
 have U:J∉a::G:=λf=>by
  rcases j4.mp f with e|f
  .rw[e]at n;exact absurd (bn (U5 _) n)<|acg.mpr<|gt D
  .exact absurd (t2 _ f).2<|E2 _
 refine be<|ut<|Xa ⟨_,k2 _ _ S.at_,Y.ex.1⟩ ?_;have L:=k2 _ _ R;have lo:os.length=ss.length:=by rw[pm.length_eq,bi,pY,P]
 have V:∀(H:Heap)(c1:Nat),aB prog w H J a o ξ ep t G os 0->(∀b u,b≠s.heap.objs.size->O.get? b=Z u->H.get? b=Z u)->O.objs.size<=H.objs.size->H.get? s.heap.objs.size=Z {cls:=.type "list",data:=.seq #[] c1}->
   KM (m7 prog w) A (.builtin "list.extend.loop" ⟨[.ref s.heap.objs.size,.ref J,.ref s.heap.objs.size],[]⟩) (λr g=>∃d c,r=.ok (.ret (.ref s.heap.objs.size))/\g.heap.get? s.heap.objs.size=Z {cls:=.type "list",dict:=ν,data:=.seq d c,slots:= #[]}/\Q d.toList g) {s with heap:=H,drawn:=N}:=λH c1 x3 k3 z3 p=>by
  refine codeAny_extend_loopS (VP (A:=A.in1) hh U).toS (by rw[lo];exact AX<|gt hz) s.heap.objs.size K _ os.length 0 _ #[] c1 W (j5 _) x3 p (ItemsOf.nil _) λg i c' f v C=>⟨i,c',W,v,?_⟩;rw[Moved.eq_with f];have X:i.toList=os:=by
   refine List.ext_getElem? λj=>?_;rw[u6];by_cases hj:j<i.size
   .rw[t8 hj];exact(C.2 j _<|t8 hj).symm
   .rw[Array.getElem?_eq_none z_,O1<|by rw[<-C.1];lia]
  obtain⟨zs,q1,q2⟩:=Cy pm.symm Y.st;rw[X];have kk:∀b u,s.heap.get? b=Z u->g.heap.get? b=Z u:=λb u e=>by
   have y:=ii e;refine f.heap b u (λk=>?_)<|k3 b u (j7 y)<|k2 b u<|k1 b u e;rcases j4.mp k with e'|k
   .exact absurd y<|by rw[e'];exact E2 _
   .rw[io.mp k]at y;exact absurd (bn (U5 _) n)<|acg.mpr<|gt y
  exact h g.heap g.toks N os zs kk (gt<|ii v) q1<|q2.trans Y.pm
 have fin:∀{g:fx}{r:acU},(∃d c,r=.ok (.ret<|.ref s.heap.objs.size)/\g.heap.get? s.heap.objs.size=Z {cls:=.type "list",dict:=ν,data:=.seq d c,slots:= #[]}/\Q d.toList g)->r=.ok (.ret<|.ref s.heap.objs.size)/\i9 (m7 prog w) A (load s.heap.objs.size>>=λo=>match o.data with| .seq xs _=>pure xs.toList|_=>unsupported "internal:collect") Q E g:=λ⟨d,c,e,v,q⟩=>⟨e,be<|Y4 v<|b9 q⟩;refine B5 (λ_=>?_) (λhz=>absurd ac hz);refine be<|L8 ?_;refine be ?_;show i9 _ _ (aaD s.heap.objs.size (·.push .none)>>=λ_=>aaD s.heap.objs.size (·.pop)) _ _ _;refine be<|N4 L W ?_;have p:=A0 (F4 (·.push J1)) L W;refine N4 (hz:=by seq_fits) p W ?_;have ζ:=A0 (F4 (·.pop)) p W;have M:∀b u,b≠s.heap.objs.size->O.get? b=Z u->((O.update s.heap.objs.size (F4 (·.push J1))).update s.heap.objs.size (F4 (·.pop))).get? b=Z u:=λb u y e=>(B4 _ _<|zn y).trans<|(B4 _ _<|zn y).trans e;refine b9 ⟨E1 G2 _,S9 (V _ _ (x.keep λb y o e=>M b o (λz=>K<|by rw[<-z];exact y) e) M (by simp[Heap.update]) ζ) λr g hr=>?_⟩;obtain⟨e,q⟩:=fin hr;subst e;exact q
end
section
def Gr(P:wv)(w:y8)(p:Addr)(ss:List Str):HO:=.ext λh=>SS P w h p ss
inductive Tf(K:zg)(P:wv)(w:y8)(xs:List V)(H:Hp)(Q:VK):Prop|mk(l:Addr)(ss:List Str)(a:xs=[.ref l])(b:Ab K H l (ss.map V.str))(c:ss.length<1000)(d:∀p,H p=ν->Q (.ref p) (upd H p (Gr P w p (Ju ss))))
theorem Iz(d:X.calm=true):Ba X (.type "set") (Tf X.K X.prog X.w):=by
 intro pins s z H A f Q I r h;obtain⟨l,B,rfl,g,i,q⟩:=h;obtain⟨u,rfl,j⟩:=vals1 r;cases j;obtain⟨m,n,pl,_⟩:=I.list g;refine Lv (I.ok.hd d) pl.isList (by rw[X7];exact Hz n) i λp v c y=>?_;have a:∀b o,s.heap.get? b=Z o->p.get? b=Z o:=λb o e=>y b o (ii e) e;refine⟨.ref s.heap.objs.size,_,I.laid (t':=v) a (bv _) ?_,W,q _ I.fresh⟩;obtain⟨o,C,D,t,f,Y⟩:=id c;exact⟨c,⟨o,Y.at_⟩,λE F x k=>x.keep k⟩
inductive Nr(P:wv)(w:y8)(xs:List V)(H:Hp)(Q:VK):Prop|mk(d:Addr)(ss:List Str)(c:xs=[.ref d])(e:H d=Z (Gr P w d ss))(f:ss.length<64)(g:∀(p:Addr) (a:List Str) (b:Hp),H p=ν->AF H b->b p=Z (.lst (a.map V.str))->a.Perm ss->KB a=true->Q (.ref p) b)
theorem Inv.drawn{pins:List (Addr×Obj)}{σ:St}{H:Hp}{s:fx}(I:Inv X pins σ H s)(a:Drawn):Inv X pins σ H {s with drawn:=a}:=⟨I.ok,I.os,I.bare,I.base,I.loc,I.cell,I.free,I.EL,I.pin,I.BN,I.len⟩
theorem FH(J:X.calm=true):Ba X (.builtin "sorted") (Nr X.prog X.w):=by
 intro pins s T H U Y Q I r h;obtain⟨d,v,rfl,hd,k,q⟩:=h;obtain⟨u,rfl,K⟩:=vals1 r;cases K;have L:SS X.prog X.w s.heap d v:=(show Av X.prog X.w H s.heap d (Gr X.prog X.w d v)from I.BN d _ hd).1;refine P8 adk acB acD (acE _) ?_;unfold aeB.«sorted»;refine be (m:=adM "sorted" 1 1 _) (b9<|be<|QH (A:=X.A.in1) (I.ok.hd J) L (bn k ac) λc x M a N keep _ g y=>?_);have n:a.length=N.length:=DX g;have l:=y.length_eq;have z:a.length<=sizeLine:=AX (am (bm n)<|am (am (bm l)<|gt k) ac);refine be<|ab2 ?_ z;have f:(c.push {cls:=.type "list",data:=.seq a.toArray}).get? c.objs.size=Z (seqObj "list" a.toArray 0):=j8 _ W;refine be<|ut<|y3 abt ⟨_,f,W⟩ aa6 (aa5 ab5 f g.keysOf (λB C rest e=>acC<|by rw[<-e];exact g) (d8 (am (bm n)<|bm l) k) λi a1 a2=>⟨_,W,?_⟩)<|abx _;obtain⟨j,O,D,P⟩:=abq g a1 a2;obtain⟨R,S⟩:=ab6 (out:=(abk i).map (·.2)) f;refine b9 ⟨_,W,?_⟩;have p:(c.push {cls:=.type "list",data:=.seq a.toArray}).objs.size=c.objs.size+1:=adL ..;have E:=(I.kept (t':=x) keep).drawn M;have k2:∀b o,c.get? b=Z o->(Y5 (c.push {cls:=.type "list",data:=.seq a.toArray}) c.objs.size a ((abk i).map (·.2))).get? b=Z o:=λb o e=>by
  have F:b<c.objs.size:=ii e;rw[abr (j7 F)<|by rw[p];exact O4 F];exact ca _ e
 have t:j.length<=sizeLine:=by
  rw[D.length_eq,<-n];exact z
 have new:Av X.prog X.w (upd H c.objs.size<|.lst<|j.map V.str) (Y5 (c.push {cls:=.type "list",data:=.seq a.toArray}) c.objs.size a ((abk i).map (·.2))) c.objs.size (.lst<|j.map V.str):=
  ⟨by rw[bi];exact t,((abk i).map (·.2)).toList,R,GC O,by rw[IR];exact S⟩
 have G:H c.objs.size=none:=E.fresh;exact⟨.ref c.objs.size,_,E.laid (t':=x) k2 (bv _) new,W,q _ j _ G (AF.new G) AD (D.trans y) P⟩
end
open PySem.AutoSeq1 (wpAny_loadPart')
open PySem.MeetsSeq3
variable{e:Nat->Bool}
section
def Xc(prog:wv)(w:y8)(A:G1)(s:fx)(u v:ce)(b:Bool):Prop:=∀(E:ce->fx->Prop)(Q:Bool->fx->Prop),Q b s->i9 (m7 prog w) A (eqBool u v) Q E s
def eB(prog:wv)(w:y8)(A:G1)(s:fx)(u v:ce)(b:Bool):Prop:=∀(E:ce->fx->Prop)(Q:ce->fx->Prop),Q (.bool b) s->i9 (m7 prog w) A (adj .Eq u v) Q E s
theorem Xc.of(h:aaN A s u v b):Xc prog w A s u v b:=λE Q a=>h prog w E Q a
theorem eB.of(h:U1 A s u v b):eB prog w A s u v b:=λE Q a=>h prog w E Q a
theorem Xc.by(hs:u=v->b=true)(nf:(∃i t,u=.int i t)∨(∃x t,u=.str x t)∨(∃c,u=.bool c)∨∃a,u=.ref a)(h:eB prog w A s u v b):Xc prog w A s u v b:=λE Q f=>by
 by_cases e:u=v
 .have:=hs e;subst e this;exact W6 _ prog w E Q f
 .unfold eqBool;refine ut (B5 (λd=>absurd (eq_of_beq d) e) λ_=>?_);rcases nf with⟨i,t,rfl⟩|⟨x,t,rfl⟩|⟨c,rfl⟩|⟨a,rfl⟩<;>exact be (h E _<|C9 f)
theorem Xd{b:Addr}{F:Nat}{u:Option Addr}{v:Array (Option ce)}(hsz:items.size=S.size)(hl:s.heap.get? l=Z {cls:=.type "list",dict:=L,data:=.seq items n,slots:=M})(t:s.heap.get? b=Z {cls:=.type "list",dict:=u,data:=.seq S F,slots:=v})(G:∀j (N:j<items.size) (O:j<S.size),Xc prog w A.in1 s items[j] S[j] (e j)){r:Bool}(C:r=true↔∀j,j<items.size->e j=true)(D:R (.ok (.ret (.bool r))) s):
  ∀k i:Nat,items.size-i=k->i<=items.size->(∀j,j<i->e j=true)->KM (m7 prog w) A (.builtin "list.__eq__.loop" ⟨[.ref l,.ref b,B0 i,B0 2],[]⟩) R s:=by
 obtain⟨P,g,d,Q,os⟩:=s;intro k
 induction k with
 |zero=>
  intro i H I c;have p:i=items.size:=by lia
  have x:r=true:=C.mpr λj E=>c j<|bn E<|bm p.symm;subst x;refine zr entry_eq_loop ?_;rw[xz plain_eq_loop _];wp_walk using wpAny_loadPart' hl,wpAny_loadPart' t;have h:items[((i:Nat):Int).toNat]?=none:=by simp;exact bm p.symm
  have m:S[((i:Nat):Int).toNat]?=none:=by simp;exact am (bm hsz.symm)<|bm p.symm
  rw[h,m];wp_walk using wpAny_loadPart' hl,wpAny_loadPart' t;show R (.ok<|.ret<|.bool<|items.size==S.size) _;rw[hsz];simpa using D
 |succ k J=>
  intro i H I c;refine zr entry_eq_loop ?_;rw[xz plain_eq_loop _];wp_walk using wpAny_loadPart' hl,wpAny_loadPart' t;have f:i<items.size:=by lia
  have o:i<S.size:=bn f<|bm hsz;have h:items[((i:Nat):Int).toNat]?=Z items[i]:=by simp[f]
  have m:S[((i:Nat):Int).toNat]?=Z S[i]:=by simp[o]
  have K:((i:Int)+1)=((i+1:Nat):Int):=by push_cast;rfl
  rw[h,m];refine be<|G i f o _ _ ?_;cases q:e i with
  |true=>
   wp_walk;rw[K];refine⟨E1 plain_eq_loop _,J (i+1) z_ f λj E=>?_⟩;rcases C7 j i with z|z
   .exact c j z
   .rw[show j=i by lia];exact q
  |false=>
   have y:r=false:=by
    cases B:r with
    |false=>rfl|true=>have:=C.mp B i f;rw[q]at this;cases this
   subst y;wp_walk using wpAny_loadPart' hl,wpAny_loadPart' t;rw[h,m];wp_walk;exact D
theorem Xe(hl:s.heap.IsList l items)(q:s.heap.IsList b O)(hsz:items.size=O.size)(t:A.units<cLine)(u:∀j (G:j<items.size) (H:j<O.size),Xc prog w A.in1 s items[j] O[j] (e j)){r:Bool}(v:r=true↔∀j,j<items.size->e j=true):eB prog w A s (.ref l) (.ref b) r:=λE Q h=>by
 obtain⟨⟨y,I,data,J⟩,k,m,n,o⟩:=id hl;obtain⟨⟨p,z,data2,B⟩,c,f,K,i⟩:=id q;simp only at m o f i;subst m o f i;refine F3 (op:=.Eq) ⟨_,k,W⟩ ⟨_,c,W⟩ Y9 (call_one Y9 ⟨_,k,W⟩ aba (aaG _ _) ?_) t;obtain⟨L,g,d,M,os⟩:=s;have N:=AutoSeq1.sub_list_list;have C:¬(items.size !=O.size)=true:=by simp[hsz]
 wp_walk using wpAny_loadPart' k,wpAny_loadPart' c;exact⟨E1 plain_eq_loop _,Xd hsz k c u v (show(B1 r≠Value.notImplemented)/\Q (.bool r) _ from⟨(λx=>nomatch x),h⟩) _ 0 W (j5 _) λj D=>absurd D<|N5 _⟩
theorem Xf{ζ:Type}[DecidableEq ζ]{knd:aeg prog w ζ}{b:Addr}{t y:List (ζ×ce)}(ha:(a==D9)=false)(hb:(b==D9)=false)(X:s.heap.DictOf knd a t)(ξ:s.heap.DictOf knd b y)(hu:A.units<cLine)(he:t.length=y.length->∀(j:Nat) k u,t[j]?=Z (k,u)->(P4 y k=ν/\e j=false)∨∃v,P4 y k=Z v/\Xc prog w A.in1 s u v (e j)){r:Bool}(hr:r=true↔(t.length=y.length/\∀j,j<t.length->e j=true)):eB prog w A s (.ref a) (.ref b) r:=λE Q h=>by
 refine F3 (op:=.Eq) X.typeIs ξ.typeIs V9 (y3 V9 X.typeIs abg ?_<|aaZ _ _) hu;show i9 _ _ (K8 "__eq__" ⟨[.ref a,.ref b],[]⟩>>=_) _ _ s;refine be ?_;unfold K8;refine be<|Os X.typeIs ?_;show i9 _ _ (pure (n0 a,n0 b)) _ _ s;refine b9 ?_;refine be<|FM (T:="dict") ξ.typeIs PySem.F.sub_dict_dict ?_;simp only[aca,FB,if_false];refine be<|b9<|be<|b9 ?_;obtain⟨oa,g,ep,B,_,C,Jg,P,yf⟩:=X;obtain⟨ob,m,yg,D,_,G,R,L,yh⟩:=ξ;have H:t.length=g.size:=by rw[<-P.length];exact pY
 have M:y.length=m.size:=by rw[<-L.length];exact pY
 refine be ?_;unfold aeH aeI;rw[if_neg<|show¬(a==D9)=true by rw[ha];exact pc,if_neg<|show¬(b==D9)=true by rw[hb];exact pc];refine be<|b9<|be<|b9 ?_;refine be<|I9 B C ?_;dsimp only;refine be<|I9 D G ?_;have fin:∀c:Bool,c=r->∃v,Fin.done (Flow.ret<|B1<|c==true)=.done (.ret v)/\v≠.notImplemented/\Q v s:=λc hc=>by
  subst hc;refine⟨_,W,(λx=>nomatch x),?_⟩;cases c<;>exact h
 by_cases S:t.length=y.length
 .rw[if_neg<|by rw[<-H,<-M,S];simp];refine be<|W3 B C ?_;refine be ?_;rw[P3];simp only[abc,aaQ,aco,aeQ];refine G5 _ (λrest q s'=>s'=s/\q=(ν,())/\∃i,rest=abo i (g.size-i)/\i<=g.size/\∀j,j<i->e j=true) _ ?_ ?_ _ _ ⟨W,W,0,GE,j5 _,λj I=>absurd I<|N5 _⟩
  .rintro x rest q s' ⟨rfl,rfl,i,f,hi,n⟩;have o:i<g.size:=by
    rcases C7 i g.size with h|h
    .exact h
    .rw[abh h]at f;simp at f
   obtain⟨rfl,N⟩:x=i/\rest=abo (i+1) (g.size-(i+1)):=by
    have e:g.size-i=(g.size-(i+1))+1:=by lia
    rw[e,U6]at f;injection f with h1 h2;exact⟨h1,h2⟩
   have J:x<t.length:=by rw[H];exact o
   obtain⟨k,u,uS⟩:∃k u,t[x]=(k,u):=⟨_,_,W⟩;have gk:t[x]?=Z (k,u):=by rw[zc J,uS]
   have hh:=he S x k u gk;refine be<|I9 B C ?_;rw[t8 o];obtain⟨K,U⟩:=P.get? (i:=x) (e:=g[x]) (k:=k) (v:=u) (by rw[u6];exact t8 o) gk;obtain⟨k2,uT,V⟩:=Jg g[x]<|acT o;have uU:k2=k:=knd.inj _ _ _ uT K;rw[uU]at V;show i9 _ _ (S2 [g[x].key,g[x].val] _>>=_) _ _ _;rw[V];refine be<|ut<|be<|wpAny_dictFind_of K D G R ?_;have d:findBy knd.is m k=P4 y k:=by
    rw[<-L.find k];clear M L R G D;obtain⟨l⟩:=m;simp[findBy]
   have rf:e x=false->false=r:=λO=>by
    cases f:r with
    |false=>rfl|true=>have:=(hr.mp f).2 x J;rw[O]at this;cases this
   cases I:m.findIdx? λe=>knd.is k e.key with
   |none=>
    rw[acj,I]at d;have hn:P4 y k=none:=d.symm;rcases hh with⟨_,O⟩|⟨v,Y,_⟩
    .refine b9 ?_;show i9 _ _ (if(!false)=true then _ else _) _ _ _;rw[if_pos ac];exact b9<|b9<|b9<|fin false<|rf O
    .rw[hn]at Y;cases Y
   |some j=>
    obtain⟨p,_,_⟩:=Array.findIdx?_eq_some_iff_getElem.mp I;rw[acj,I]at d;rcases hh with⟨hn,_⟩|⟨v,Y,hq⟩
    .rw[hn]at d;simp[t8 p]at d
    have uV:m[j].val=v:=by
     rw[Y]at d;simpa[t8 p]using d
    refine be<|I9 D G ?_;rw[t8 p];refine ut ?_;rw[uV,U];refine hq _ _ ?_;cases O:e x with
    |true=>
     show i9 _ _ (if(!true)=true then _ else _) _ _ _;rw[if_neg ac];refine be<|W3 B C ?_;rw[if_neg GE];refine b9 ⟨W,W,x+1,N,o,λj I=>?_⟩;rcases C7 j x with z|z
     .exact n j z
     .rw[show j=x by lia];exact O
    |false=>
     show i9 _ _ (if(!false)=true then _ else _) _ _ _;rw[if_pos ac];exact b9<|b9<|b9<|fin false<|rf O
  .rintro q s' ⟨rfl,rfl,i,f,hi,n⟩;have uW:i=g.size:=by
    rcases C7 i g.size with h|h
    .have e:g.size-i=(g.size-(i+1))+1:=by lia
     rw[e,U6]at f;cases f
    .lia
   exact b9<|b9<|fin true (hr.mpr ⟨S,λj I=>n j<|bn I<|am (bm H)<|bm uW.symm⟩).symm
 .rw[if_pos<|by rw[<-H,<-M];simpa using S];have uX:false=r:=by
   cases f:r with
   |false=>rfl|true=>exact absurd (hr.mp f).1 S
  exact be<|L8<|b9<|b9<|fin false uX
end
namespace Pt
theorem VQ:look (y::r) (z::zs) k=if k=y then Z z else look r zs k:=BJ
theorem Fo:∀{ks:List Str}{xs:List Pt},Kn ks xs ls ys=true↔∀(j:Nat) k x,ks[j]?=Z k->xs[j]?=Z x->∃y,look ls ys k=Z y/\CM x y=true
 |[],xs=>by simp[Kn]|_::_,[]=>by simp[Kn]|k::ks,x::xs=>by
  simp only[Kn,fy,Fo (ks:=ks) (xs:=xs)];constructor
  .intro⟨a,d⟩ j e f b c;cases j with
   |zero=>
    simp at b c;subst b c;cases g:look ls ys k with
    |none=>rw[g]at a;cases a|some y=>rw[g]at a;exact⟨y,W,a⟩
   |succ j=>exact d j e f (GT b) (GT c)
  .intro h;refine⟨?_,λj e f b c=>h (j+1) e f (GT b)<|GT c⟩;obtain⟨y,a,d⟩:=h 0 k x W W;rw[a];exact d
theorem Nv:∀{ks:List Str}{xs:List Pt}{j:Nat}{k:Str}{g:Pt},ks.Nodup->ks[j]?=Z k->xs[j]?=Z g->look ks xs k=Z g
 |[],_,_,_,_=>λ_ h _=>by simp at h|_::_,[],_,_,_=>λ_ _ h=>by simp at h|y::ks,z::zs,j,k,g=>λnd b c=>by
  obtain⟨d,f⟩:=u4.mp nd;rw[VQ];cases j with
  |zero=>simp at b c;rw[if_pos b.symm,c]|succ j=>
   have a:ks[j]?=Z k:=GT b
   rw[if_neg λe=>d<|by rw[<-e];exact zf a];exact Nv f a<|by simpa using c
mutual
def QI:Pt->Prop
 |int _|str _|bl _|AZ=>True
 |lst xs|tup xs=>Lx xs
 |Ah ks xs=>ks.Nodup/\Lx xs
def Lx:List Pt->Prop
 |[]=>True|x::r=>QI x/\Lx r
end
mutual
theorem Nw:∀t:Pt,t.nice->t.QI
 |int _,_=>trivial|str _,_=>trivial|bl _,_=>trivial|AZ,_=>trivial|lst xs,d=>by simp only[nice]at d;exact Jw xs d.2|tup xs,d=>by simp only[nice]at d;exact Jw xs d.2|Ah ks xs,d=>by simp only[nice]at d;exact⟨d.2.1,Jw xs d.2.2.2⟩
theorem Jw:∀xs:List Pt,Dm xs->Lx xs
 |[],_=>trivial|x::r,d=>by simp only[Dm]at d;exact⟨Nw x d.1,Jw r d.2⟩
end
mutual
theorem Xg:∀t:Pt,t.doc->t.QI
 |int _,_=>trivial|str _,_=>trivial|bl _,_=>trivial|AZ,_=>trivial|tup _,d=>by simp[doc]at d|lst xs,d=>by simp only[doc]at d;exact SG xs d|Ah ks xs,d=>by simp only[doc]at d;exact⟨d.2.1,SG xs d.2.2.2.2⟩
theorem SG:∀xs:List Pt,Cr xs->Lx xs
 |[],_=>trivial|x::r,d=>by simp only[Cr]at d;exact⟨Xg x d.1,SG r d.2⟩
end
mutual
theorem IF:∀t:Pt,t.QI->CM t t=true
 |int i,_=>beq_self_eq_true i|str x,_=>beq_self_eq_true x|bl b,_=>beq_self_eq_true b|AZ,_=>rfl|lst xs,d=>by simp only[QI]at d;exact GO xs d|tup xs,d=>by simp only[QI]at d;exact GO xs d|Ah ks xs,d=>by
  simp only[QI]at d;simp only[Gi,beq_self_eq_true,zk];refine Fo.mpr λj k x c a=>⟨x,Nv d.1 c a,?_⟩;have:=GO xs d.2;exact Tg xs this j x a
theorem GO:∀xs:List Pt,Lx xs->Cs xs xs=true
 |[],_=>rfl|x::r,d=>by simp only[Lx]at d;simp only[Di,fy];exact⟨IF x d.1,GO r d.2⟩
theorem Tg:∀xs:List Pt,Cs xs xs=true->∀(j:Nat) x,xs[j]?=Z x->CM x x=true
 |[],_,j,x,h=>by simp at h|y::r,h,0,x,a=>by
  simp only[Di,fy]at h;simp at a;subst a;exact h.1
 |y::r,h,j+1,x,a=>by
  simp only[Di,fy]at h;exact Tg r h.2 j x<|by simpa using a
end
end Pt
section
variable [Be K]
theorem Rd.one(h:Rd H a u)(h':Rd H a d)(nu:∀o z,u≠.Ca o z)(b:∀o z,d≠.Ca o z):u=d:=by
 rcases h with h|⟨o,h⟩<;>rcases h' with h'|⟨c,h'⟩<;>rw[h]at h'
 .exact ze h'
 .exact absurd (ze h')<|nu _ _
 .exact absurd (ze h').symm<|b _ _
 .have:=ze h';injection this
theorem Nx:∀{ks ls:List Str},ks.map (e9:Str->Key)=ls.map e9->ks=ls
 |[],[],_=>rfl|[],_::_,h=>by simp at h|_::_,[],h=>by simp at h|k::ks,l::ls,h=>by
  simp only[jp,E7]at h;rw[G0 h.1,Nx h.2]
mutual
theorem Val.one:∀(s:Pt){m:V}{p:Pt},Val l m s->Val l m p->s.doc->p.doc->s=p
 | .int _=>λh g _ _=>by cases h;cases g;rfl| .str _=>λh g _ _=>by cases h;cases g;rfl| .bl _=>λ_ _ d _=>by simp[Pt.doc]at d| .AZ=>λ_ _ d _=>by simp[Pt.doc]at d| .tup _=>λ_ _ d _=>by simp[Pt.doc]at d| .lst ts=>λg h d d'=>by
  cases g with
  |lst b c=>
   cases h with
   |lst a f=>
    cases Rd.one b a (λo z e=>by cases e) (λo z e=>by cases e);simp only[Pt.doc]at d d';rw[AR.one ts c f d d']
   |tup _ _=>simp[Pt.doc]at d'|Ah a _ _=>cases Rd.one b a (λo z e=>by cases e) (λo z e=>by cases e)
 | .Ah ks ts=>λg h d d'=>by
  cases g with
  |Ah b j c=>
   cases h with
   |Ah a i f=>
    cases Rd.one b a (λo z e=>by cases e) (λo z e=>by cases e);simp only[Pt.doc]at d d';rw[AR.one ts c f d.2.2.2.2 d'.2.2.2.2];congr 1;rw[j]at i;exact Nx i
   |tup _ _=>simp[Pt.doc]at d'|lst a _=>cases Rd.one b a (λo z e=>by cases e) (λo z e=>by cases e)
theorem AR.one:∀(ss:List Pt){f:List V}{ts:List Pt},AR b f ss->AR b f ts->Pt.Cr ss->Pt.Cr ts->ss=ts
 |[]=>λg h _ _=>by cases g;cases h;rfl|s::ss=>λg h' d d'=>by
  cases g with
  |cons h r=>
   cases h' with
   |cons g q=>
    simp only[Pt.Cr]at d d';rw[Val.one s h g d.1 d'.1,AR.one ss r q d.2 d'.2]
end
def kO(s t:Pt):Prop:=(s.doc/\t.doc)∨Pt.CM s t=true
def Ml(ls:List Str)(ts:List Pt)(k:Str)(x:Pt):Bool:=match Pt.look ls ts k with
 |some y=>Pt.CM x y|none=>false
theorem Gs(h:Pt.look ls ts k=Z y):Ml ls ts k b=Pt.CM b y:=by unfold Ml;rw[h]
theorem LQ(h:Pt.look ls ts k=ν):Ml ls ts k b=false:=by unfold Ml;rw[h]
def eC(ks:List Str)(ps:List Pt)(ls:List Str)(ts:List Pt)(j:Nat):Bool:=match ks[j]?,ps[j]? with
 |some k,Z x=>Ml ls ts k x|_,_=>false
theorem Ny(a:ks[j]?=Z k)(b:ps[j]?=Z d):eC ks ps ls ts j=Ml ls ts k d:=by unfold eC;rw[a,b]
theorem GP(l:xs.length=ys.length):Pt.Cs xs ys=true↔∀j,j<xs.length->pairE xs ys j=true:=by
 rw[<-Ko l,re];exact⟨λh j a=>h j<|zw.mpr a,λh j a=>h j<|zw.mp a⟩
end
section
variable [Be X.K] {σ:St} 
theorem aE(h:Val H f g)(d:g≠.AZ)(r:RelV f u):(∃i g,u=.int i g)∨(∃f g,u=.str f g)∨(∃c,u=.bool c)∨∃a,u=.ref a:=by
 cases h with
 |int i=>exact .inl ⟨i,r⟩|str f=>exact .inr (.inl ⟨f,r⟩)|bl b=>exact .inr (.inr (.inl ⟨b,r⟩))|AZ=>exact absurd W d|@lst a _ _ _ _=>exact .inr (.inr (.inr ⟨a,r⟩))|@tup a _ _ _ _=>exact .inr (.inr (.inr ⟨a,r⟩))|@Ah a _ _ _ _ _ _=>exact .inr (.inr (.inr ⟨a,r⟩))
theorem qH(I:Inv X pins σ H s){p t:Pt}(ih:∀p':Pt,p'.deep<p.deep->∀t',kO p' t'->∀{x y:V},Val H x p'->Val H y t'->∀{A:G1} {u v:ce},A.units+p'.deep<cLine->RelV x u->RelV y v->Xc X.prog X.w A s u v (Pt.CM p' t'))(nb:∀b,p≠.bl b)(c:kO p t){x y:V}(hx:Val H x p)(hy:Val H y t){u:ce}(hu:A.units+p.deep<cLine)(ru:RelV x u)(m:RelV y v):eB X.prog X.w A s u v (Pt.CM p t):=by
 have f:A.units<cLine:=d8 (ci _ _) hu;cases hx with
 |int i=>
  obtain⟨t1,rfl⟩:∃t,u=M7 i t:=ru;cases hy with
  |int j=>obtain⟨t2,rfl⟩:∃t,v=M7 j t:=m;exact .of (SeqAt.RcAt.int_int i t1 j t2)
  |str z=>obtain⟨t2,rfl⟩:∃t,v=K5 z t:=m;exact .of (SeqAt.RcAt.int_str i t1 z t2)
  |bl b=>rcases c with⟨_,d⟩|c;(·simp[Pt.doc]at d);cases c
  |AZ=>rcases c with⟨_,d⟩|c;(·simp[Pt.doc]at d);cases c
  |tup _ _=>rcases c with⟨_,d⟩|c;(·simp[Pt.doc]at d);cases c
  |@lst b M o q B=>
   cases(show v=n0 b from m);obtain⟨C,Q,N,_⟩:=I.list<|.inl q;exact .of (SeqAt.RcAt.int_list i t1 N.isList f)
  |@Ah b ξ O o q R B=>
   cases(show v=n0 b from m);obtain⟨_,dd,es,n,sl,F,_⟩:=Ii I q;exact .of (Pg i t1 F f)
 |str x0=>
  obtain⟨t1,rfl⟩:∃t,u=K5 x0 t:=ru;cases hy with
  |int j=>obtain⟨t2,rfl⟩:∃t,v=M7 j t:=m;exact .of (SeqAt.RcAt.str_int x0 t1 j t2)
  |str z=>obtain⟨t2,rfl⟩:∃t,v=K5 z t:=m;exact .of (SeqAt.RcAt.str_str x0 t1 z t2)
  |bl b=>rcases c with⟨_,d⟩|c;(·simp[Pt.doc]at d);cases c
  |AZ=>rcases c with⟨_,d⟩|c;(·simp[Pt.doc]at d);cases c
  |tup _ _=>rcases c with⟨_,d⟩|c;(·simp[Pt.doc]at d);cases c
  |@lst b M o q B=>
   cases(show v=n0 b from m);obtain⟨C,Q,N,_⟩:=I.list<|.inl q;exact .of (SeqAt.RcAt.str_list x0 t1 N.isList f)
  |@Ah b ξ O o q R B=>
   cases(show v=n0 b from m);obtain⟨_,dd,es,n,sl,F,_⟩:=Ii I q;exact .of (Pj x0 t1 F f)
 |bl b=>exact absurd W (nb b)|AZ=>
  cases(show u=J1 from ru);have c:Pt.CM .AZ t=true:=by
   rcases c with⟨d,_⟩|c
   .simp[Pt.doc]at d
   .exact c
  cases hy with
  |AZ=>cases(show v=J1 from m);exact .of SeqAt.RcAt.none_none|_=>cases c
 |@lst a uY r S T=>
  cases(show u=n0 a from ru);obtain⟨mw,r0,p0,_⟩:=I.list<|.inl S;have e0:mw.toArray.size=r.length:=by rw[d7,<-r0.length,T.length]
  simp only[Pt.deep]at hu;cases hy with
  |int j=>obtain⟨t2,rfl⟩:∃t,v=M7 j t:=m;exact .of (SeqAt.RcAt.list_int j t2 p0.isList f)
  |str z=>obtain⟨t2,rfl⟩:∃t,v=K5 z t:=m;exact .of (SeqAt.RcAt.list_str z t2 p0.isList f)
  |bl b=>rcases c with⟨_,d⟩|c;(·simp[Pt.doc]at d);cases c
  |AZ=>rcases c with⟨_,d⟩|c;(·simp[Pt.doc]at d);cases c
  |tup _ _=>rcases c with⟨_,d⟩|c;(·simp[Pt.doc]at d);cases c
  |@Ah b ξ O o q R B=>
   cases(show v=n0 b from m);obtain⟨_,dd,es,n,sl,F,_⟩:=Ii I q;exact .of (Nb p0.isList F f)
  |@lst b M o q B=>
   cases(show v=n0 b from m);obtain⟨C,Q,N,_⟩:=I.list<|.inl q;have e1:C.toArray.size=o.length:=by rw[d7,<-Q.length,B.length]
   simp only[Pt.XA];by_cases l:r.length=o.length
   .refine Xe p0.isList N.isList (by rw[e0,e1,l]) f (e:=pairE r o) (λj D U=>?_) (by rw[e0];exact GP l);obtain⟨v1,t1,g1,G,J,E⟩:=T.at r0 D;obtain⟨v2,t2,g3,g4,L,my⟩:=B.at Q U;have e:pairE r o j=Pt.CM t1 t2:=by simp[pairE,G,g4]
    rw[e];have dl:=Pt.Au<|zf G;refine ih t1 (by simp only[Pt.deep];lia) t2 ?_ J L (by show A.units+1+_<cLine;lia) E my;rcases c with⟨d,d'⟩|c
    .simp only[Pt.doc]at d d';exact .inl ⟨Pt.Af d _<|zf G,Pt.Af d' _<|zf g4⟩
    .exact .inr<|by rw[<-e];exact(GP l).mp c j<|by rw[<-e0];exact D
   .rw[Bz l];exact .of (SeqAt.RcAt.lists_lengths p0.isList N.isList (by rw[e0,e1];simpa using l) f)
 |@tup a uY r S T=>
  cases(show u=n0 a from ru);have Y:Pt.CM (.tup r) t=true:=by
   rcases c with⟨d,_⟩|c
   .simp[Pt.doc]at d
   .exact c
  simp only[Pt.deep]at hu;cases hy with
  |@tup b M o q B=>
   cases(show v=n0 b from m);simp only[Pt.Dh]at Y⊢;have l:r.length=o.length:=by
    rcases aaj r.length o.length with z|z|z
    .rw[Bz z_]at Y;cases Y
    .exact z
    .rw[Bz z_]at Y;cases Y
   obtain⟨C,Q,N,_⟩:=I.tuple S;obtain⟨mz,r2,p2,_⟩:=I.tuple q;have e1:C.toArray.size=r.length:=by rw[d7,<-Q.length,T.length]
   have e2:mz.toArray.size=o.length:=by rw[d7,<-r2.length,B.length]
   rw[Y];refine MZ N p2 (by rw[e1,e2,l]) f λj D U=>?_;obtain⟨v1,t1,g1,G,J,E⟩:=T.at Q D;obtain⟨v2,t2,g3,g4,L,my⟩:=B.at r2 U;have e:pairE r o j=Pt.CM t1 t2:=by simp[pairE,G,g4]
   have et:Pt.CM t1 t2=true:=by rw[<-e];exact(GP l).mp Y j<|by rw[<-e1];exact D
   have dl:=Pt.Au<|zf G;have:=ih t1 (by simp only[Pt.deep];lia) t2 (.inr et) J L (A:=A.in1) (by show A.units+1+_<cLine;lia) E my;rw[et]at this;exact this
  |_=>cases Y
 |@Ah a ξ O r S Jg T=>
  cases(show u=n0 a from ru);simp only[Pt.deep]at hu;cases hy with
  |int j=>obtain⟨t2,rfl⟩:∃t,v=M7 j t:=m;obtain⟨_,dd,es,n,sl,F,_⟩:=Ii I S;exact .of (Ph j t2 F f)
  |str z=>obtain⟨t2,rfl⟩:∃t,v=K5 z t:=m;obtain⟨_,dd,es,n,sl,F,_⟩:=Ii I S;exact .of (Pl z t2 F f)
  |bl b=>rcases c with⟨_,d⟩|c;(·simp[Pt.doc]at d);cases c
  |AZ=>rcases c with⟨_,d⟩|c;(·simp[Pt.doc]at d);cases c
  |tup _ _=>rcases c with⟨_,d⟩|c;(·simp[Pt.doc]at d);cases c
  |@lst b M o q B=>
   cases(show v=n0 b from m);obtain⟨_,dd,es,n,sl,F,_⟩:=Ii I S;obtain⟨C,Q,N,_⟩:=I.list<|.inl q;exact .of (Nc N.isList F f)
  |@Ah b bZ ls o q Th B=>
   cases(show v=n0 b from m);obtain⟨z,hm,M,rel,dd⟩:=EM I.BN S;obtain⟨z',uZ,m_,ζ,ua⟩:=EM I.BN q;have k1:M.map (·.1)=O.map e9:=by rw[<-Jg];exact(KV.keys rel).symm
   have l1:M.length=O.length:=by have:=congrArg sw k1;simpa using this
   have l2:m_.length=ls.length:=by
    rw[<-ζ.length];have:=congrArg sw Th;simpa using this
   have lp:O.length=r.length:=by
    have D:=T.length;rw[bi]at D;have U:=congrArg sw Jg;simp at U;exact U.symm.trans D
   refine Xf hm uZ dd ua f (e:=eC O r ls o) (λll j k u g=>?_) ?_
   .have hj:j<M.length:=Cd g;have gv:(M.map (·.2))[j]?=Z u:=by rw[b6,g];rfl
    have D:j<(M.map (·.2)).toArray.size:=by rw[d7];exact(Cd gv)
    obtain⟨v1,t1,g1,G,J,E⟩:=T.at (Zh rel) D;rw[Ww gv D]at E;obtain⟨nm,nA⟩:=BH O j<|bn hj<|bm l1;have ek:k=e9 nm:=by
     have:=congrArg (λz=>z[j]?) k1;simp only[b6,g,nA]at this;simpa using this
    subst ek;rw[Ny nA G];have m:=ζ.val<|e9 nm;rcases Val.Dr Th B nm with⟨w1,t2,q1,q2,L⟩|⟨q1,q2⟩
    .rw[q1]at m;rw[Gs q2];cases P:P4 m_ (e9 nm)with
     |none=>rw[P]at m;exact m.elim|some u2=>
      rw[P]at m;have dl:=Pt.Au<|zf G;refine .inr ⟨u2,W,ih t1 (by simp only[Pt.deep];lia) t2 ?_ J L (by show A.units+1+_<cLine;lia) E m⟩;rcases c with⟨d,d'⟩|c
      .simp only[Pt.doc]at d d';exact .inl ⟨Pt.Af d.2.2.2.2 _<|zf G,Pt.Af d'.2.2.2.2 _ (Pt.XB q2).2⟩
      .simp only[Pt.Gi,fy]at c;obtain⟨y,y1,y2⟩:=Pt.Fo.mp c.2 j nm t1 nA G;rw[q2]at y1;cases y1;exact .inr y2
    .rw[q1]at m;rw[LQ q2];cases P:P4 m_ (e9 nm)with
     |some u2=>rw[P]at m;exact m.elim|none=>exact .inl ⟨W,W⟩
   .simp only[Pt.Gi,fy,beq_iff_eq,Pt.Fo];rw[l1,l2];refine and_congr_right λll=>⟨λh j hj=>?_,λh j k x R hx=>?_⟩
    .obtain⟨k,R⟩:=BH O j hj;obtain⟨x,hx⟩:=BH r j<|bn hj<|bm lp;obtain⟨y,D,U⟩:=h j k x R hx;rw[Ny R hx,Gs D];exact U
    .have:=h j<|Cd R;rw[Ny R hx]at this;cases hl:Pt.look ls o k with
     |none=>rw[LQ hl]at this;cases this|some y=>rw[Gs hl]at this;exact⟨y,W,this⟩
theorem Xh(I:Inv X pins σ H s):∀(n:Nat)(p:Pt),p.deep<=n->∀t,kO p t->∀{C y:V},Val H C p->Val H y t->∀{A:G1}{u v:ce},A.units+p.deep<cLine->RelV C u->RelV y v->Xc X.prog X.w A s u v (Pt.CM p t)
 |0,p,h=>by have:=Pt.DV p;lia|n+1,p,h=>λt c C y a g A u v m f i=>by
  by_cases k:∃b,p=.bl b
  .obtain⟨b,rfl⟩:=k;rcases c with⟨d,_⟩|c
   .simp[Pt.doc]at d
   .cases t with
    |bl o=>
     have e:b=o:=eq_of_beq c;subst e;cases a;cases g;cases(show u=B1 b from f);cases(show v=B1 b from i);rw[c];exact .of (W6 _)
    |_=>cases c
  .by_cases l:p=.AZ
   .subst l;rcases c with⟨d,_⟩|c
    .simp[Pt.doc]at d
    .cases t with
     |AZ=>
      cases a;cases g;cases(show u=J1 from f);cases(show v=J1 from i);rw[c];exact .of (W6 _)
     |_=>cases c
   refine Xc.by (λe=>?_) (aE a l f)<|qH I (λq B=>Xh I n q z_) (λb z=>k ⟨b,z⟩) c a g m f i
   rcases c with⟨d,r⟩|c
   .subst e;have j:C=y:=f.inj i;subst j;have:=Val.one p a g d r;subst this;exact Pt.IF p<|Pt.Xg p d
   .exact c
end
inductive Xi{K:zg}[Be K](x y:V)(H:Hp)(Q:VK):Prop|mk(p t:Pt)(a:Val H x p)(e:Val H y t)(f:∀b,p≠.bl b)(c:kO p t)(d:p.deep<=60)(q:Q (.bl (Pt.CM p t)) H)
section
theorem Nz(a:X.A.units+64<cLine):DA X (AC .Eq) (@Xi X.K ⟨trivial⟩):=by
 haveI:Be X.K:=⟨trivial⟩;intro pins s k H x y v u Q I b e h;obtain⟨p,t,f,g,i,c,d,q⟩:=h;exact qH I (λj _=>Xh I _ j<|bv _) i c f g (A:=X.A) (d8 (im (am d ac) _) a) b e _ _ ⟨.bl _,H,I,W,q⟩
end
open PySem.AutoSeq1 (wpAny_loadPart')
open PySem.MeetsSeq3
section
theorem VR(hl:s.heap.IsTuple l items)(G:s.heap.IsTuple b Y)(hsz:items.size=Y.size)(H:A.units<cLine)(I:∀j (r:j<items.size) (z:j<Y.size),kK prog w A.in1 s items[j] Y[j]){Q:ce->fx->Prop}(h:Q (.bool false) s):i9 (m7 prog w) A (adj .NotEq (.ref l) (.ref b)) Q E s:=by
 obtain⟨⟨J,R,data,S⟩,t,B,n,C⟩:=id hl;obtain⟨⟨D,K,data2,L⟩,k,m,T,o⟩:=id G;simp only at B C m o;subst B C m o;refine F3 (op:=.NotEq) ⟨_,t,W⟩ ⟨_,k,W⟩ adu (y3 adu ⟨_,t,W⟩ F.entry_tuple_ne ?_<|F.args_tuple_ne_2 _ _) H;obtain⟨M,g,d,N,os⟩:=s;have U:=Q9;wp_walk using wpAny_loadPart' t,wpAny_loadPart' k,G5 _ (λrest b u=>b.1=ν/\u=⟨M,g,d,N,os⟩/\∃i,rest=(items.toList.zip Y.toList).drop i) _
 case turn=>
  rintro⟨y,x⟩ rest b u ⟨c,rfl,i,p⟩;have e:i<(items.toList.zip Y.toList).length:=by
   rcases C7 i (items.toList.zip Y.toList).length with v|v
   .exact v
   .rw[aa2 v]at p;cases p
  have r:i<items.size:=by simp at e;exact bn e<|J3 _ _
  have z:i<Y.size:=bn r<|bm hsz;rw[A9 e]at p;injection p with q f;have O:y=items[i]:=by have:=congrArg aaC q;simpa using this
  have P:x=Y[i]:=by have:=congrArg abl q;simpa using this
  subst O P;refine be<|I i r z _ _ ?_;wp_walk;exact⟨W,W,i+1,f⟩
 case fin=>
  rintro⟨V,X⟩ u ⟨c,rfl,i,p⟩;simp only at c;subst c;wp_walk;exact⟨_,W,(λx=>nomatch x),by simpa[M4,hsz]using h⟩
 case h=>
  exact⟨W,W,0,W⟩
theorem Mm(hl:s.heap.IsTuple l items)(H:s.heap.IsTuple b ζ)(I:A.units<cLine)(B:(items.size≠0/\ζ.size=0)∨∃(t:0<items.size) (j:0<ζ.size),Xc prog w A.in1 s items[0] ζ[0] false):eB prog w A s (.ref l) (.ref b) false:=λE Q h=>by
 obtain⟨⟨J,S,data,T⟩,u,m,n,C⟩:=id hl;obtain⟨⟨D,K,data2,L⟩,o,p,U,q⟩:=id H;simp only at m C p q;subst m C p q;refine F3 (op:=.Eq) ⟨_,u,W⟩ ⟨_,o,W⟩ X0 (y3 X0 ⟨_,u,W⟩ adc ?_<|acS _ _) I;obtain⟨M,g,d,N,os⟩:=s;have V:=Q9;wp_walk using wpAny_loadPart' u,wpAny_loadPart' o,G5 _ (λrest b v=>b.1=ν/\v=⟨M,g,d,N,os⟩/\rest=(items.toList.zip ζ.toList)) _
 case turn=>
  rintro⟨y,x⟩ rest b v ⟨f,rfl,k⟩;rcases B with⟨_,j⟩|⟨t,j,G⟩
  .have:ζ.toList=[]:=wE (by rw[pY];exact j);rw[this,List.zip_nil_right]at k;cases k
  .have e:items.toList.zip ζ.toList=(items[0],ζ[0])::(items.toList.zip ζ.toList).drop 1:=by
    have c:0<(items.toList.zip ζ.toList).length:=by simp;lia
    have:=A9 (i:=0) (l:=items.toList.zip ζ.toList) c;rw[abA]at this;rw[this];simp
   rw[e]at k;injection k with r z;have O:y=items[0]:=congrArg aaC r;have P:x=ζ[0]:=congrArg abl r;subst O P;refine be<|G _ _ ?_;wp_walk;exact⟨_,W,(λx=>nomatch x),h⟩
 case fin=>
  rintro⟨X,Y⟩ v ⟨f,rfl,k⟩;simp only at f;subst f;wp_walk;rcases B with⟨t,j⟩|⟨t,j,G⟩
  .refine⟨_,W,(λx=>nomatch x),?_⟩;have R:(items.size==0)=false:=GT t
   simp only[M4,j,R];exact h
  .have c:0<(items.toList.zip ζ.toList).length:=by simp;lia
   rw[<-k]at c;simp at c
 case h=>
  exact⟨W,W,W⟩
end
inductive eD{K:zg}[Be K](x y:V)(H:Hp)(Q:VK):Prop|mk(ps ts:List Pt)(a:Val H x (.tup ps))(b:Val H y (.tup ts))(c:Pt.CM (.tup ps) (.tup ts)=true)(d:(Pt.tup ps).deep<=60)(q:Q (.bl false) H)
section
theorem Xj(G:X.A.units+64<cLine):DA X (AC .NotEq) (@eD X.K ⟨trivial⟩):=by
 haveI:Be X.K:=⟨trivial⟩;intro pins s ζ H x y v u Q I J L h;obtain⟨g,i,M,N,c,d,q⟩:=h;simp only[Pt.deep]at d;cases M with
 |@tup a O _ P r=>
  cases(show v=n0 a from J);cases N with
  |@tup b ξ _ R t=>
   cases(show u=n0 b from L);simp only[Pt.Dh]at c;have l:g.length=i.length:=by
    rcases aaj g.length i.length with z|z|z
    .rw[Bz z_]at c;cases c
    .exact z
    .rw[Bz z_]at c;cases c
   obtain⟨k,w,S,_⟩:=I.tuple P;obtain⟨f,B,T,_⟩:=I.tuple R;have C:k.toArray.size=g.length:=by rw[d7,<-w.length,r.length]
   have U:f.toArray.size=i.length:=by rw[d7,<-B.length,t.length]
   refine VR (A:=X.A) S T (by rw[C,U,l]) (d8 (ci _ _) G) (λj D V=>?_) ⟨.bl false,H,I,W,q⟩;obtain⟨v1,t1,g1,E,m,n⟩:=r.at w D;obtain⟨v2,t2,g3,Y,o,p⟩:=t.at B V;have e:pairE g i j=Pt.CM t1 t2:=by simp[pairE,E,Y]
   have F:Pt.CM t1 t2=true:=by rw[<-e];exact(GP l).mp c j<|by rw[<-C];exact D
   have dl:=Pt.Au<|zf E;have:=Xh I _ t1 (bv _) t2 (.inr F) m o (A:=X.A.in1) (by show X.A.units+1+_<cLine;lia) n p;rw[F]at this;exact this
inductive VS(K:zg)(x y:V)(H:Hp)(Q:VK):Prop
 |nil (a b:Addr) (c:Str) (rest:List V) (e:x=.ref a) (f:y=.ref b) (g:BO K H a (.str c::rest)) (h:BO K H b []) (q:Q (.bl false) H):VS K x y H Q
 |other (a b:Addr) (c d:Str) (rest:List V) (e:x=.ref a) (f:y=.ref b) (g:BO K H a (.str c::rest)) (h:BO K H b [.str d]) (ne:c≠d) (q:Q (.bl false) H):VS K x y H Q
 |same (a b:Addr) (c:Str) (e:x=.ref a) (f:y=.ref b) (g:BO K H a [.str c]) (h:BO K H b [.str c]) (q:Q (.bl true) H):VS K x y H Q
theorem Xk(z:X.A.units+64<cLine):DA X (AC .Eq) (VS X.K):=by
 intro pins s J H x y v u Q I B C h;rcases h with⟨a,b,i,rest,rfl,rfl,l,m,q⟩|⟨a,b,i,n,rest,rfl,rfl,l,m,ne,q⟩|⟨a,b,i,rfl,rfl,l,m,q⟩
 .cases B;cases C;obtain⟨o,f,p,_⟩:=I.tuple l;obtain⟨g,d,r,_⟩:=I.tuple m;have l1:=f.length;have l2:=d.length;exact Mm (A:=X.A) (prog:=X.prog) (w:=X.w) p r (d8 (ci _ _) z) (.inl ⟨by rw[d7,<-l1];simp,by rw[d7,<-l2];rfl⟩) _ _ ⟨.bl false,H,I,W,q⟩
 .cases B;cases C;obtain⟨o,f,p,_⟩:=I.tuple l;obtain⟨g,d,r,_⟩:=I.tuple m;cases f with
  |@cons _ F _ D k f=>
   cases d with
   |@cons _ G _ E t d=>
    cases d;obtain⟨t1,rfl⟩:=k;obtain⟨t2,rfl⟩:=t;have c:=Z0 (A:=X.A.in1) (s:=s) i t1 n t2;rw[show(i==n)=false by simpa using ne]at c;exact Mm (A:=X.A) (prog:=X.prog) (w:=X.w) p r (d8 (ci _ _) z) (.inr ⟨GE,GE,.of c⟩) _ _ ⟨.bl false,H,I,W,q⟩
 .cases B;cases C;obtain⟨o,f,p,_⟩:=I.tuple l;obtain⟨g,d,r,_⟩:=I.tuple m;cases f with
  |@cons _ F _ D k f=>
   cases f;cases d with
   |@cons _ G _ E t d=>
    cases d;obtain⟨t1,rfl⟩:=k;obtain⟨t2,rfl⟩:=t;have c:=Z0 (A:=X.A.in1) (s:=s) i t1 i t2;rw[beq_self_eq_true]at c;refine MZ (A:=X.A) (prog:=X.prog) (w:=X.w) p r GE (d8 (ci _ _) z) (λj k t=>?_) _ _ ⟨.bl true,H,I,W,q⟩;have e:j=0:=by simp at k;exact k
    subst e;exact .of c
end
namespace Ak
theorem Good.one{a b:Ak}(h:Good a b):∀{d:Ak},Good a d->b=d:=by
 refine @Good.rec (λa b _=>∀{d:Ak},Good a d->b=d) (λk bs _=>∀{f:List Ak},Em k f->bs=f) (λh=>by cases h;rfl) (λ_ _ h=>by cases h;rfl) ?_ ?_ (λh=>by cases h;rfl) ?_ _ _ h
 .intro l n m _ h d c;cases c with
  |row c=>rw[h c]
 .intro v w l k n ls m o p e g h d c;cases c with
  |tab i j q c=>
   have s:=Bs p j<|o.trans i.symm;subst s;have t:=some_inj<|e.symm.trans q;subst t;rw[h c]
 .intro x y l z _ _ h r f c;cases c with
  |cons c u=>rw[h c,r u]
theorem Ti:cnt b l m=true↔b=l∨(m=true/\l<b):=by simp[cnt]
theorem Mn:∀{xs:List Ak}{ys:List Pt},Fj xs ys=true↔∀(j:Nat) x y,xs[j]?=Z x->ys[j]?=Z y->lets x y=true
 |[],_=>by simp[Fj]|_::_,[]=>by simp[Fj]|x::xs,y::ys=>by
  simp only[Fj,fy,Mn (xs:=xs) (ys:=ys)];constructor
  .intro⟨e,f⟩ j c d a b;cases j with
   |zero=>simp at a b;subst a b;exact e|succ j=>exact f j c d (GT a) (GT b)
  .exact λh=>⟨h 0 x y W W,λj c d a b=>h (j+1) c d (GT a)<|GT b⟩
theorem VT(l:ks.length=xs.length)(nd:ks.Nodup):Ku ks xs ns ys=true↔∀k x,lk ks xs k=Z x->∃y,lk ns ys k=Z y/\lets x y=true:=by
 rw[FC,Hl _ l nd,re];constructor
 .intro h k x a;have:=h k (Ax a).1;rw[a]at this;cases b:lk ns ys k with
  |none=>rw[b]at this;cases this|some y=>rw[b]at this;exact⟨y,W,this⟩
 .intro h k a;obtain⟨x,c⟩:=CD l a;obtain⟨y,d,e⟩:=h k x c;rw[c,d];exact e
theorem BA(l:ks.length=xs.length)(nd:ks.Nodup):lets (.tab ks xs ls m) (.Ah ns ys)=true↔(∀k∈ks,k∈ns)/\(∀k∈ls,k∉ns)/\(ns.length=ks.length∨(m=true/\ks.length<ns.length))/\∀k x,lk ks xs k=Z x->∃y,lk ns ys k=Z y/\lets x y=true:=by
 simp only[lets,fy,VT l nd,Ti,re,decide_eq_true_eq,T8,acO];constructor
 .intro⟨⟨⟨a,b⟩,c⟩,d⟩;exact⟨a,b,c,d⟩
 .intro⟨a,b,c,d⟩;exact⟨⟨⟨a,b⟩,c⟩,d⟩
theorem CB(l:ks.length=xs.length)(nd:ks.Nodup):Pt.CM (.Ah ks xs) (.Ah ns ys)=true↔ks.length=ns.length/\∀k x,lk ks xs k=Z x->∃y,lk ns ys k=Z y/\Pt.CM x y=true:=by
 simp only[Pt.Gi,fy,beq_iff_eq];rw[GF,Hl _ l nd,re];refine and_congr_right λ_=>⟨λh k x a=>?_,λh k a=>?_⟩
 .have:=h k (Ax a).1;rw[a]at this;cases b:lk ns ys k with
  |none=>rw[b]at this;cases this|some y=>rw[b]at this;exact⟨y,W,this⟩
 .obtain⟨x,c⟩:=CD l a;obtain⟨y,d,e⟩:=h k x c;rw[c,d];exact e
theorem BK:lets (.row xs m) (.lst ys)=true↔(ys.length=xs.length∨(m=true/\xs.length<ys.length))/\∀(j:Nat) x y,xs[j]?=Z x->ys[j]?=Z y->lets x y=true:=by
 simp only[lets,fy,Mn,Ti]
theorem Cf:∀{xs ys:List Pt},Pt.Cs xs ys=true↔xs.length=ys.length/\∀(j:Nat) x y,xs[j]?=Z x->ys[j]?=Z y->Pt.CM x y=true
 |[],[]=>⟨λ_=>⟨W,λ_ _ _ h=>(by cases h)⟩,λ_=>rfl⟩|[],_::_=>⟨λh=>(by cases h),λh=>(by cases h.1)⟩|_::_,[]=>⟨λh=>(by cases h),λh=>(by cases h.1)⟩|x::xs,y::ys=>by
  simp only[Pt.Di,fy,Cf (xs:=xs) (ys:=ys),j3];constructor
  .intro⟨e,g,f⟩;refine⟨z_,λj c d a b=>?_⟩;cases j with
   |zero=>simp at a b;subst a b;exact e|succ j=>exact f j c d (GT a) (GT b)
  .exact λ⟨i,h⟩=>⟨h 0 x y W W,z_,λj c d a b=>h (j+1) c d (GT a)<|GT b⟩
theorem IG(cs:List Ak)(m:Bool)(t:Pt):lets (BW cs m) t=lets (.row cs m) t:=by
 unfold BW;split
 .rename_i b;subst b;rfl
 .rename_i b
  have:m=false:=GT b
  subst this;split
  .rename_i k e
   rw[Bl e];rw[ul];cases t with
   |lst l=>
    rw[BK];simp only[lets,Pt.XA,Cf];rw[bi];constructor
    .intro⟨c,f⟩;refine⟨.inl c.symm,λj x y a g=>?_⟩;rw[b6]at a;cases i:k[j]? with
     |none=>rw[i]at a;cases a|some d=>rw[i]at a;cases a;exact f j d y i g
    .intro⟨c,f⟩;refine⟨?_,λj x y a g=>?_⟩
     .rcases c with h|⟨h,_⟩
      .exact h.symm
      .cases h
     .exact f j (.AY x) y (by rw[b6,a];rfl) g
   |_=>exact Iff.rfl
  .rfl
theorem IH(ls:List Str)(m:Bool)(l:ss.length=cs.length)(nd:ss.Nodup)(p:∀k∈ls,k∉ss)(d:B.doc):lets (BX ss cs ls m) B=lets (.tab ss cs ls m) B:=by
 unfold BX;split
 .rename_i j;subst j;rfl
 .rename_i j
  have:m=false:=GT j
  subst this;have free:∀{f:List Str},f.Nodup->(∀k∈ss,k∈f)->f.length=ss.length->∀k∈ls,k∉f:=λq b g k a z=>p k a<|(DH nd q g.symm b).mem_iff.mpr z;split
  .rename_i r e
   have n:=Bl e;subst n;rw[bi]at l;rw[ul];cases B with
   |Ah f s=>
    simp only[Pt.doc]at d;rw[BA (by rw[bi];exact l) nd];simp only[lets];rw[CB l nd];constructor
    .intro⟨b,g⟩;have c:∀k∈ss,k∈f:=λk a=>by
      obtain⟨x,u⟩:=CD l a;obtain⟨y,v,_⟩:=g k x u;exact(Ax v).1
     refine⟨c,free d.2.1 c b.symm,.inl b.symm,λk x a=>?_⟩;rw[Ea]at a;cases o:lk ss r k with
     |none=>rw[o]at a;cases a|some w=>rw[o]at a;cases a;exact g k w o
    .intro⟨b,g,c,i⟩;refine⟨?_,λk x a=>?_⟩
     .rcases c with h|⟨h,_⟩
      .exact h.symm
      .cases h
     .exact i k (.AY x) (by rw[Ea,a];rfl)
   |_=>exact Iff.rfl
  .rw[ul];cases B with
   |Ah f s=>
    simp only[Pt.doc]at d;rw[BA l nd,BA l nd];constructor
    .intro⟨b,_,c,i⟩;have A:f.length=ss.length:=by
      rcases c with h|⟨h,_⟩
      .exact h
      .cases h
     exact⟨b,free d.2.1 b A,c,i⟩
    .intro⟨b,_,c,i⟩;exact⟨b,(λk a=>by simp at a),c,i⟩
   |_=>simp[lets]
theorem Good.lets{a b:Ak}(h:Good a b):a.Az->∀{q1:Pt},q1.doc->Ak.lets b q1=Ak.lets a q1:=by
 refine @Good.rec (λa b _=>a.Az->∀{q1:Pt},q1.doc->Ak.lets b q1=Ak.lets a q1) (λl bs _=>(∀a∈l,a.Az)->∀{j:Nat}{a b:Ak},l[j]?=Z a->bs[j]?=Z b->∀{q1:Pt},q1.doc->Ak.lets b q1=Ak.lets a q1) (λ_ _ _=>rfl) (λ_ _ _ _=>rfl) ?_ ?_ (λ_ _ _ _ h=>by cases h) ?_ _ _ h
 .intro C s m h w o q1 d;simp only[Az]at o;rw[IG,ul];cases q1 with
  |lst M=>
   simp only[Pt.doc]at d;rw[BK,BK,<-h.length];refine and_congr_right λ_=>⟨λg j x y i A=>?_,λg j x y i A=>?_⟩
   .obtain⟨c,n⟩:=BH s j (by rw[<-h.length];exact(Cd i));rw[<-w (BB o) i n (Pt.Af d y<|zf A)];exact g j c y n A
   .obtain⟨c,n⟩:=BH C j (by rw[h.length];exact(Cd i));rw[w (BB o) n i<|Pt.Af d y<|zf A];exact g j c y n A
  |_=>simp[Ak.lets]
 .intro P D C l s ls m p U e h w o q1 d;simp only[Az]at o;obtain⟨H,I,V,X,Y,Q,R⟩:=o;have S:=Cu H I p e;have T:l.length=D.length:=by have:=congrArg sw e;simpa using this.symm
  have E:D.length=s.length:=by rw[<-h.length,T]
  have q:=p.nodup_iff.mpr I;have N:∀x∈l,x.Az:=λx i=>BB R x<|S.mem_iff.mp i;rw[IH ls m E q (λk f z=>Q k f<|p.mem_iff.mp z) d,ul];cases q1 with
  |Ah ζ M=>
   simp only[Pt.doc]at d;rw[BA E q,BA H I,p.length_eq];have at_:∀{k:Str}{x:Ak},lk P C k=Z x->∃(j:Nat)(c:Ak),D[j]?=Z k/\l[j]?=Z x/\s[j]?=Z c/\lk D s k=Z c:=λ{k x} f=>by
    obtain⟨j,F⟩:=p9<|p.mem_iff.mpr (Ax f).1;have J:=Cd F;have u:l[j]?=Z x:=by
     have:=congrArg (λz=>z[j]?) e;simp only[b6,F]at this;cases O:l[j]? with
     |none=>rw[O]at this;cases this|some a=>rw[O]at this;simp only[aa8]at this;have:=ze this;rw[f]at this;exact this.symm
    obtain⟨c,n⟩:=BH s j<|bn J<|bm E;refine⟨j,c,F,u,n,?_⟩;have:=congrArg (λz=>z[j]?)<|Ht E q;simp only[b6,F,n]at this;exact ze this
   refine and_congr ⟨λg k f=>g k<|p.mem_iff.mpr f,λg k f=>g k<|p.mem_iff.mp f⟩<|and_congr_right λ_=>and_congr_right λ_=>⟨λg k x f=>?_,λg k c f=>?_⟩
   .obtain⟨j,c,u,v,K,G⟩:=at_ f;obtain⟨y,B,L⟩:=g k c G;exact⟨y,B,by rw[<-w N v K (Pt.Af d.2.2.2.2 y (Ax B).2)];exact L⟩
   .obtain⟨x,i⟩:=CD H<|p.mem_iff.mp (Ax f).1;obtain⟨j,ξ,u,v,K,G⟩:=at_ i;rw[f]at G;cases G;obtain⟨y,B,L⟩:=g k x i;exact⟨y,B,by rw[w N v K<|Pt.Af d.2.2.2.2 y (Ax B).2];exact L⟩
  |_=>simp[Ak.lets]
 .intro x y C M _ _ h r o j a b u v q1 d;cases j with
  |zero=>cases u;cases v;exact h (o _ d9) d|succ j=>exact r (λx i=>o x (cr _ i)) u v d
end Ak
namespace Ak
theorem N_{g:Ak}{d:Pt}(h:Pt.CM g.pt (Ak.AY d).pt=true):∃d',g=.AY d'/\Pt.CM d' d=true:=by
 cases g with
 |AY d'=>simp only[pt,Pt.Dh,Pt.Di,fy]at h;exact⟨d',W,h.2.1⟩|any=>simp only[pt,Pt.Dh]at h;rw[Bz GE]at h;cases h|row _ _=>simp only[pt,Pt.Dh]at h;rw[Bz GE]at h;cases h|tab _ _ _ _=>simp only[pt,Pt.Dh]at h;rw[Bz GE]at h;cases h
theorem aF{g:Ak}{d:Pt}(h:Pt.CM (Ak.AY d).pt g.pt=true):∃d',g=.AY d'/\Pt.CM d d'=true:=by
 cases g with
 |AY d'=>simp only[pt,Pt.Dh,Pt.Di,fy]at h;exact⟨d',W,h.2.1⟩|any=>simp only[pt,Pt.Dh]at h;rw[Bz GE]at h;cases h|row _ _=>simp only[pt,Pt.Dh]at h;rw[Bz GE]at h;cases h|tab _ _ _ _=>simp only[pt,Pt.Dh]at h;rw[Bz GE]at h;cases h
theorem Jx(h:Pt.CM d' d=true):Pt.CM (Ak.AY d').pt (Ak.AY d).pt=true:=by
 simp only[pt,Pt.Dh,Pt.Di,fy];exact⟨beq_self_eq_true _,h,W⟩
def Pw(a b:List Ak):Prop:=a.length=b.length/\∀(j:Nat) c g,a[j]?=Z c->b[j]?=Z g->Pt.CM c.pt g.pt=true
theorem Pw.tail(h:Pw (d::xs) (y::ys)):Pw xs ys:=⟨GT h.1,λj a g b c=>h.2 (j+1) a g (GT b)<|GT c⟩
theorem Pw.EZ(h:Pw l f):Pt.Cs (EZ l) (EZ f)=true:=by
 rw[Cf,AV,AV,bi,bi];refine⟨h.1,λj x y b c=>?_⟩;rw[b6]at b c;cases d:l[j]? with
 |none=>rw[d]at b;cases b|some i=>
  cases e:f[j]? with
  |none=>rw[e]at c;cases c|some g=>
   rw[d]at b;rw[e]at c;cases b;cases c;exact h.2 j i g d e
theorem Pw.CW:∀{b u:List Ak},Pw b u->(Ak.CW b=ν/\Ak.CW u=ν)∨∃a c,Ak.CW b=Z a/\Ak.CW u=Z c/\Pt.Cs a c=true
 |[],[],_=>.inr ⟨[],[],W,W,W⟩|[],_::_,h=>by have:=h.1;simp at this|_::_,[],h=>by have:=h.1;simp at this|x::p,y::q,h=>by
  have f:=h.2 0 x y W W;have l:=Pw.CW h.tail;cases g:x with
  |AY m=>
   subst g;obtain⟨d,rfl,n⟩:=aF f;simp only[Ak.CW];rcases l with⟨j,k⟩|⟨a,c,j,k,o⟩
   .rw[j,k];exact .inl ⟨W,W⟩
   .rw[j,k];exact .inr ⟨m::a,d::c,W,W,by simp only[Pt.Di,fy];exact⟨n,o⟩⟩
  |any=>
   subst g;refine .inl ⟨W,?_⟩;cases y with
   |AY d=>obtain⟨_,e,_⟩:=N_ f;cases e
   |_=>rfl
  |row _ _=>
   subst g;refine .inl ⟨W,?_⟩;cases y with
   |AY d=>obtain⟨_,e,_⟩:=N_ f;cases e
   |_=>rfl
  |tab _ _ _ _=>
   subst g;refine .inl ⟨W,?_⟩;cases y with
   |AY d=>obtain⟨_,e,_⟩:=N_ f;cases e
   |_=>rfl
theorem OA(x:Str):Pt.CM (.str x) (.str x)=true:=beq_self_eq_true x
theorem Xl(b:Bool):Pt.CM (.bl b) (.bl b)=true:=beq_self_eq_true b
theorem Mo:∀ls:List Str,Pt.Cs (ls.map Pt.str) (ls.map Pt.str)=true
 |[]=>rfl|x::r=>by simp only[jp,Pt.Di,fy];exact⟨OA x,Mo r⟩
theorem SI(m:Bool)(h:Pw d b):Pt.CM (Ak.row d m).pt (Ak.row b m).pt=true:=by
 simp only[pt,Pt.Dh,Pt.Di,fy];exact⟨OA _,h.EZ,Xl m,W⟩
theorem eF(l:ss.length=f.length)(nd:ss.Nodup)(hl:ss.length=ls.length)(h:∀(j:Nat) k d',ss[j]?=Z k->f[j]?=Z d'->∃d,lk ls b k=Z d/\Pt.CM d' d=true):Pt.CM (.Ah ss f) (.Ah ls b)=true:=by
 simp only[Pt.Gi,fy,beq_iff_eq];exact⟨hl,Pt.Fo.mpr λj k x c e=>h j k x c e⟩
theorem QJ(nd:ss.Nodup)(l:ss.length=p.length)(h:Pt.Cs p q=true):Pt.CM (.Ah ss p) (.Ah ss q)=true:=by
 obtain⟨f,g⟩:=Cf.mp h;refine eF l nd W λj k i m e=>?_;obtain⟨d,b⟩:=BH q j (by have:=(Cd e);exact bn this<|bm f);exact⟨d,Pt.Nv nd m b,g j i d e b⟩
theorem SN(ls:List Str)(m:Bool)(nd:ss.Nodup)(l:ss.length=d.length)(h:Pw d b):Pt.CM (Ak.tab ss d ls m).pt (Ak.tab ss b ls m).pt=true:=by
 simp only[pt];show Pt.Cs _ _=true;simp only[Pt.Di,fy];exact⟨OA _,QJ nd (by rw[AV,bi];exact l) h.EZ,Mo ls,Xl m,W⟩
theorem SO(m:Bool)(h:Pw j d):Pt.CM (BW j m).pt (BW d m).pt=true:=by
 unfold BW;split
 .exact SI true h
 .rcases h.CW with⟨b,c⟩|⟨e,g,b,c,f⟩
  .rw[b,c];exact SI false h
  .rw[b,c];exact Jx f
theorem SQ(m:Bool)(nd:ss.Nodup)(l:ss.length=q.length)(hl:m=true->p=ls)(h:Pw q u):Pt.CM (BX ss q p m).pt (BX ss u ls m).pt=true:=by
 unfold BX;split
 .rename_i f
  rw[hl f];exact SN ls true nd l h
 .rcases h.CW with⟨b,d⟩|⟨g,j,b,d,i⟩
  .rw[b,d];exact SN [] false nd l h
  .rw[b,d];refine Jx<|QJ nd ?_ i;rw[Bl b,bi]at l;exact l
end Ak
variable{K:zg} [Be K]
end L2
namespace L2
open PySem PySem.Spec PyProof.Rows
def Ga(H c:Hp):Hp:=λb=>match H b with
 |some _=>c b|none=>match c b with
  |some (.Ca o (.own a))=>Z (.Ca o (.own a))|some (.Ca _ u)=>Z u|x=>x
theorem Tj(h:H b=Z o):Ga H a b=a b:=by unfold Ga;rw[h]
theorem aG(h:H b=ν)(h':c b=Z (.Ca o u))(n:∀a,u≠.own a):Ga H c b=Z u:=by
 unfold Ga;rw[h,h'];cases u<;>first|rfl|exact absurd rfl (n _)
theorem II(h':a b=ν):Ga H a b=none:=by
 unfold Ga;rw[h'];cases H b<;>rfl
theorem LR(h':a b=Z u)(n:∀o z,u≠.Ca o z):Ga H a b=Z u:=by
 unfold Ga;rw[h'];cases H b with
 |some _=>rfl|none=>
  cases u<;>first|rfl|exact absurd rfl (n _ _)
def KF(K:zg)(H:Hp):Prop:=∀b o,K.lookup b=Z o->H b=ν
variable{H:Hp}{X:Cx}{s:fx}{σ:St}
section
variable {pins b':List (Addr×Obj)} {σ':St} {H':Hp} {s':fx}
theorem Inv.nB(I:Inv X pins σ H s)(a:Inv X b' σ' H' s'):Inv X b' σ' (Ga H H') s':=by
 have B:=a.base;refine⟨a.ok,a.os,a.bare,⟨B.keep,B.slot,λb d q n h=>II<|B.free b d q n h,B.there,λb f q=>LR (B.KL b f q) (λ_ _ z=>by cases z),λb d u q=>?_,λb i q=>?_⟩,a.loc,a.cell,II a.free,λx c q=>II<|a.EL x c q,λp j=>let⟨k,l,m⟩:=a.pin p j;⟨k,II l,m⟩,λb u q=>?_,a.len⟩
 .rw[Tj<|I.base.IW b d u q];exact B.IW b d u q
 .obtain⟨more,t⟩:=B.Lj b i q;exact⟨more,LR t λ_ _ z=>by cases z⟩
 .have up:∀{v:HO},Av X.prog X.w H' s'.heap b v->Av X.prog X.w (Ga H H') s'.heap b v:=λx=>x.Oe (λc v _ r=>r) (λc r=>LR r λ_ _ z=>by cases z) λc f r=>LR r (λ_ _ z=>by cases z);unfold Ga at q;cases g:H b with
  |some o=>
   rw[g]at q;exact up (a.BN b u q)
  |none=>
   rw[g]at q;dsimp only at q;split at q
   .rename_i e
    cases q;exact up<|a.BN b _ e
   .rename_i e
    cases q;exact up (show Av X.prog X.w H' s'.heap b (.Ca _ u)from a.BN b _ e).2
   .exact up<|a.BN b u q
theorem Inv.kf(I:Inv X pins σ H s):KF X.K H:=λb o e=>(I.bs b o<|I.mod.gX b o e).2
def nC(K:zg)(t:TE):TE:=fun σ H Q=>t σ H λv H'=>KF K (Ga H H')->Q v (Ga H H')
theorem SR(h:PE X e t):PE X e (nC X.K t):=λpins s σ H Q I q=>
 BF (h pins s σ H _ I q) λu d ⟨v,f,a,b,c⟩=>have J:=I.nB a;⟨v,_,J,b,c J.kf⟩
end
variable{K:zg}
section
variable [Be K]
theorem BO.one(kf:KF K G)(h:BO K G a xs)(h':BO K G a ys):xs=ys:=by
 rcases h with h|⟨o,f,n,e,_,g,_,r⟩<;>rcases h' with h'|⟨j,d,k,c,_,b,_,i⟩
 .have z:=Rd.one h h' (λo z e=>by cases e) (λo z e=>by cases e);cases z;rfl
 .have:=kf _ _ c;rcases h with r|⟨_,r⟩<;>rw[r]at this<;>cases this
 .have:=kf _ _ e;rcases h' with r|⟨_,r⟩<;>rw[r]at this<;>cases this
 .rw[e]at c;cases c;rw[g]at b;cases b;exact r.inj i
theorem Rd.ne(kf:KF K G)(h:Rd G a u)(e:K.lookup a=Option.some o):False:=by
 have:=kf _ _ e;rcases h with r|⟨_,r⟩<;>rw[r]at this<;>cases this
theorem BO.lst{G:Hp}(kf:KF K G){a:Addr}{xs ys:List V}(h:BO K G a xs)(h':Rd G a (.lst ys)):False:=by
 rcases h with h|⟨o,_,_,e,_⟩
 .cases Rd.one h h' (λo z e=>by cases e) (λo z e=>by cases e)
 .exact h'.ne kf e
theorem BO.dK{G:Hp}(kf:KF K G){a:Addr}{xs:List V}{ys:List (Key×V)}(h:BO K G a xs)(h':Rd G a (.dK ys)):False:=by
 rcases h with h|⟨o,_,_,e,_⟩
 .cases Rd.one h h' (λo z e=>by cases e) (λo z e=>by cases e)
 .exact h'.ne kf e
theorem Val.eG(h:Val G (.ref a) t):(∃vs ts,t=.lst ts/\Rd G a (.lst vs)/\AR G vs ts)∨(∃vs ts,t=.tup ts/\BO K G a vs/\AR G vs ts)∨∃(kvs:List (Key×V))(ks:List Str)(ts:List Pt),t=.Ah ks ts/\Rd G a (.dK kvs)/\kvs.map (·.1)=ks.map e9/\AR G (kvs.map (·.2)) ts:=by
 cases h with
 |lst h r=>exact .inl ⟨_,_,W,h,r⟩|tup h r=>exact .inr (.inl ⟨_,_,W,h,r⟩)|Ah h b r=>exact .inr (.inr ⟨_,_,_,W,h,b,r⟩)
theorem Val.eI(kf:KF K G)(s:Pt)(h:Val G v s)(h':Val G v t):s=t:=by
 refine @Val.rec K _ G (λv s _=>∀t,Val G v t->s=t) (λj k _=>∀i,AR G j i->k=i) (λ_ _ h=>by cases h;rfl) (λ_ _ h=>by cases h;rfl) (λ_ _ h=>by cases h;rfl) (λ_ h=>by cases h;rfl) (λb _ d _ h=>?_) (λb _ d _ h=>?_) (λb l _ d _ h=>?_) (λ_ h=>by cases h;rfl) (λ_ _ h r _ h'=>?_) _ _ h _ h'
 .rcases h.eG with⟨_,_,rfl,a,c⟩|⟨_,_,rfl,a,c⟩|⟨_,_,_,rfl,a,f,c⟩
  .cases Rd.one b a (λo z e=>by cases e) (λo z e=>by cases e);rw[d _ c]
  .exact(a.lst kf b).elim
  .cases Rd.one b a (λo z e=>by cases e) (λo z e=>by cases e)
 .rcases h.eG with⟨_,_,rfl,a,c⟩|⟨_,_,rfl,a,c⟩|⟨_,_,_,rfl,a,f,c⟩
  .exact(b.lst kf a).elim
  .cases BO.one kf b a;rw[d _ c]
  .exact(b.dK kf a).elim
 .rcases h.eG with⟨_,_,rfl,a,c⟩|⟨_,_,rfl,a,c⟩|⟨_,_,_,rfl,a,f,c⟩
  .cases Rd.one b a (λo z e=>by cases e) (λo z e=>by cases e)
  .exact(a.dK kf b).elim
  .cases Rd.one b a (λo z e=>by cases e) (λo z e=>by cases e);rw[d _ c,Nx<|l.symm.trans f]
 .cases h' with
  |cons g q=>rw[h _ g,r _ q]
end
variable{i:Nat}
namespace Pt
mutual
noncomputable def Jh:Pt->Nat
 |int _|str _|bl _|AZ=>0
 |lst xs=>1+BS xs|tup xs=>BS xs|Ah _ xs=>BS xs
noncomputable def BS:List Pt->Nat
 |[]=>0|x::r=>Jh x+BS r
end
mutual
theorem Mp:∀t:Pt,t.Jh<=t.size
 |int _|str _|bl _|AZ=>by simp only[Jh];exact j5 _
 |lst xs|tup xs|Ah _ xs=>by have:=Gu xs;simp only[Jh,size];lia
theorem Gu:∀xs:List Pt,BS xs<=AM xs
 |[]=>bv _|x::r=>by have:=Mp x;have:=Gu r;simp only[BS,AM];lia
end
mutual
noncomputable def FI:Pt->Nat
 |int _|str _|bl _|AZ=>0
 |lst xs|tup xs=>1+Fp xs
 |Ah _ xs=>1+Fp xs
noncomputable def Fp:List Pt->Nat
 |[]=>0|x::r=>max (FI x) (Fp r)
end
theorem QK:∀{xs:List Pt}{x:Pt},x∈xs->x.FI<=Fp xs
 |y::r,x,h=>by
  simp only[Fp];rcases j4.mp h with rfl|h
  .exact A3 _ _
  .have:=QK h;exact am this<|y4 _ _
mutual
theorem QL:∀t:Pt,t.FI<=t.deep
 |int _|str _|bl _|AZ=>by simp only[FI];exact j5 _
 |lst xs|tup xs|Ah _ xs=>by have:=Mq xs;simp only[FI,deep];exact im this _
theorem Mq:∀xs:List Pt,Fp xs<=AW xs
 |[]=>bv _|x::r=>by have:=QL x;have:=Mq r;simp only[Fp,AW];lia
end
theorem IJ:∀(a b:List Pt),BS (a++b)=BS a+BS b
 |[],b=>by simp[BS]|x::a,b=>by simp only[D7,BS,IJ a b];lia
theorem EG:∀(xs:List Pt)(i:Nat),BS (xs.take i)<=BS xs
 |[],i=>by simp|x::r,0=>by simp[BS]|x::r,i+1=>by have:=EG r i;simp only[J6,BS];exact im this _
theorem Gv{xs:List Pt}{x:Pt}(h:xs[i]?=Z x):BS (xs.take (i+1))=BS (xs.take i)+x.Jh:=by
 rw[u8,h,IJ];simp[BS]
end Pt
def VU:Key:=e9 "zzzzzzzz"
structure Wd(kvs eJ:List (Key×V)):Prop where
 at_:∀(i:Nat) k v,eJ[i]?=Z (k,v)->kvs[i]?=Z (k,v)∨v=.int 77
 keys:eJ.map (·.1)=kvs.map (·.1)∨(VU∉kvs.map (·.1)/\eJ.map (·.1)=kvs.map (·.1)++[VU])
theorem Wd.refl(kvs:List (Key×V)):Wd kvs kvs:=⟨λ_ _ _ h=>.inl h,.inl W⟩
theorem Wd.nd(h:Wd kvs c)(nd:(kvs.map (·.1)).Nodup):(c.map (·.1)).Nodup:=by
 rcases h.keys with e|⟨n,e⟩
 .rw[e];exact nd
 .rw[e];refine A7.mpr ⟨nd,GE,λa f b d z=>?_⟩;rw[io]at d;subst d;subst z;exact n f
theorem Wd.len(h:Wd kvs a):a.length<=kvs.length+1:=by
 rcases h.keys with e|⟨n,e⟩
 .have:=congrArg sw e;simp at this;exact lM<|bm this
 .have:=congrArg sw e;simp at this;exact bm this
theorem Wd.put(h:Wd kvs a):Wd kvs (putK a VU (.int 77)):=by
 unfold putK;by_cases c:(a.any λd=>decide<|d.1=VU)=true
 .rw[if_pos c];refine⟨λi k v e=>?_,?_⟩
  .rw[b6]at e;cases g:a[i]? with
   |none=>rw[g]at e;cases e|some p=>
    rw[g]at e;simp only[aa8,Option.some.injEq]at e;by_cases z:p.1=VU
    .rw[if_pos z]at e;cases e;exact .inr W
    .rw[if_neg z]at e;subst e;exact h.at_ i k v g
  .have e:(a.map λd=>if d.1=VU then(d.1,V.int 77)else d).map (·.1)=a.map (·.1):=by
    rw[u5];refine A2 λp _=>?_;show(if p.1=VU then(p.1,V.int 77)else p).1=p.1;split<;>rfl
   rw[e];exact h.keys
 .rw[if_neg c];have b:VU∉a.map (·.1):=λz=>by
   obtain⟨p,j,e⟩:=u7.mp z;exact c<|K6.mpr ⟨p,j,decide_eq_true e⟩
  rcases h.keys with e|⟨n,e⟩
  .rw[e]at b;refine⟨λi k v g=>?_,.inr ⟨b,by rw[sU,e];rfl⟩⟩;rcases C7 i a.length with f|f
   .rw[q8 f]at g;exact h.at_ i k v g
   .rw[w8 f]at g;have:=zf g;rw[io]at this;cases this;exact .inr W
  .rw[e]at b;exact absurd (EQ _<|io.mpr W) b
inductive Wo(c:Nat):HO->HO->Prop
 |lst (xs:List V) (k:Nat) (b:k<=c):Wo c (.lst xs) (.lst (xs++r4 k (.int 77)))
 |tup (xs:List V):Wo c (.tup xs) (.tup xs)
 |Ah (kvs a:List (Key×V)) (h:Wd kvs a):Wo c (.dK kvs) (.dK a)
theorem Wo.mono(h:Wo c u u')(l:c<=b):Wo b u u':=by
 cases h with
 |lst a k d=>exact .lst a k (am d l)|tup a=>exact .tup a|Ah _ _ h=>exact .Ah _ _ h
variable{us:List Pt}
section
variable [Be K]
def Wn(G:Hp)(d c:Nat)(H:Hp):Prop:=∀b u t,Plain u->Rd G b u->Val G (.ref b) t->t.FI<=d->∃a,H b=Z a/\Wo c u a
def IV(G:Hp)(d:Nat)(H a:Hp):Prop:=∀b o,H b=Z o->a b=Z o∨∃u t,Plain u/\Rd G b u/\Val G (.ref b) t/\t.FI<=d
theorem IV.refl:IV G d H H:=λb o e=>.inl e
theorem IV.of(s:AF H a):IV G d H a:=λb o e=>.inl<|s b o e
theorem IV.trans(h:IV G d H a)(h':IV G d a c):IV G d H c:=λb o e=>by
 rcases h b o e with h|h
 .exact h' b o h
 .exact .inr h
theorem IV.mono(h:IV G d H a)(l:d<=d'):IV G d' H a:=λb o e=>(h b o e).imp id λ⟨u,t,p,r,v,z⟩=>⟨u,t,p,r,v,am z l⟩
theorem Wn.mono(h:Wn G d c H)(l:d'<=d)(a:c<=f):Wn G d' f H:=λb u t p r v z=>
 let⟨g,e,w⟩:=h b u t p r v (am z l)
 ⟨g,e,w.mono a⟩
theorem Wn.up(h:Wn G d c H)(s:AF H a):Wn G d c a:=λb u t p r v z=>
 let⟨f,e,w⟩:=h b u t p r v z
 ⟨f,s _ _ e,w⟩
theorem Wn.next(kf:KF K G)(h:Wn G d c H)(h':Wn G d' g n)(f:IV G d' H n)(l:c<=g):Wn G d g n:=λb u t p r v z=>by
 rcases C7 d' t.FI with a|a
 .obtain⟨j,e,w⟩:=h b u t p r v z;rcases f b j e with k|⟨_,t2,_,_,m,z2⟩
  .exact⟨j,k,w.mono l⟩
  .rw[Val.eI kf t v m]at a;lia
 .exact h' b u t p r v a
theorem IV.at_(kf:KF K G)(f:IV G d H a)(v:Val G (.ref b) t)(l:d<t.FI)(e:H b=Z o):a b=Z o:=by
 rcases f b o e with c|⟨_,t2,_,_,g,z2⟩
 .exact c
 .rw[Val.eI kf t v g]at l;lia
def Wt(ts us:List Pt):Prop:=∀(i:Nat) u,us[i]?=Z u->ts[i]?=Z u∨u=.int 77
theorem Wt.take:∀{ts us:List Pt},Wt ts us->∀i:Nat,Pt.BS (us.take i)<=Pt.BS (ts.take i)
 |ts,[],h,i=>by simp[Pt.BS]|ts,u::us,h,0=>by simp[Pt.BS]|[],u::us,h,i+1=>by
  have e:u=.int 77:=by
   rcases h 0 u W with z|z
   .simp at z
   .exact z
  have:=Wt.take (ts:=[]) (us:=us) (λj x a=>.inr (by
   rcases h (j+1) x (GT a)with z|z
   .simp at z
   .exact z)) i
  simp only[J6,ab9,Pt.BS,e,Pt.Jh]at this⊢;exact am (im this _) ac
 |t::ts,u::us,h,i+1=>by
  have:=Wt.take (ts:=ts) (us:=us) (λj x a=>by
   have:=h (j+1) x (GT a);simpa using this) i
  simp only[J6,Pt.BS];rcases h 0 u W with z|z
  .simp at z;rw[z];exact im this _
  .rw[z];simp only[Pt.Jh];exact tz (j5 _) this
theorem Pt.size_take(h:ts[i]?=Z u):u.size+Pt.BS (ts.take i)<=Pt.AM ts:=by
 induction ts generalizing i with
 |nil=>simp at h|cons t r a=>
  cases i with
  |zero=>
   simp at h;subst h;simp[Pt.BS,Pt.AM]
  |succ i=>
   have:=a (GT h);have:=Pt.Mp t;simp only[J6,Pt.BS,Pt.AM];lia
theorem Wt.size(h:Wt ts us)(b:us[i]?=Z u):u.size+Pt.BS (us.take i)<=1+Pt.AM ts:=by
 have a:=h.take i;rcases h i u b with e|rfl
 .have:=Pt.size_take e;exact am (am (im a _) this)<|d0 _ _
 .have:=Pt.EG ts i;have:=Pt.Gu ts;simp only[Pt.size];lia
theorem Wt.FI{ts us:List Pt}(h:Wt ts us){i:Nat}{u:Pt}(a:us[i]?=Z u):u.FI<=Pt.Fp ts:=by
 rcases h i u a with e|rfl
 .exact Pt.QK<|zf e
 .simp only[Pt.FI];exact j5 _
theorem Pt.QM:∀{xs:List Pt},Pt.Lx xs->∀x∈xs,x.QI
 |y::r,h,x,a=>by
  simp only[Pt.Lx]at h;rcases j4.mp a with rfl|a
  .exact h.1
  .exact Pt.QM h.2 x a
theorem Wt.QI{ts:List Pt}(h:Wt ts us)(o:Pt.Lx ts){u:Pt}(a:us[i]?=Z u):u.QI:=by
 rcases h i u a with e|rfl
 .exact Pt.QM o u<|zf e
 .trivial
theorem Wt.lst{G:Hp}{vs:List V}{ts:List Pt}(r:AR G vs ts)(k:Nat):∃us,AR G (vs++r4 k (.int 77)) us/\Wt ts us:=by
 refine⟨ts++r4 k (.int 77),r.append<|.of GE λi v t b c=>?_,λi u h=>?_⟩
 .have d:=Q7<|zf b;have e:=Q7<|zf c;rw[d,e];exact .int 77
 .rcases C7 i ts.length with a|a
  .rw[q8 a]at h;exact .inl h
  .rw[w8 a]at h;exact .inr<|Q7<|zf h
theorem Wt.Ah{G:Hp}{kvs a:List (Key×V)}{ts:List Pt}(r:AR G (kvs.map (·.2)) ts)(w:Wd kvs a):∃us,AR G (a.map (·.2)) us/\Wt ts us:=by
 suffices gen:∀n,n<=a.length->∃us,AR G ((a.map (·.2)).take n) us/\us.length=n/\Wt ts us by
  obtain⟨us,b,_,c⟩:=gen a.length<|bv _;refine⟨us,?_,c⟩;rw[aa0 GE]at b;exact b
 intro n
 induction n with
 |zero=>exact λ_=>⟨[],by simp;exact .nil,W,λi u h=>by simp at h⟩|succ n l=>
  intro f;obtain⟨us,b,c,m⟩:=l<|am (ci _ _) f;obtain⟨p,g⟩:=BH a n<|bn (A6<|bv _) f;have o:(a.map (·.2))[n]?=Z p.2:=by rw[b6,g];rfl
  have j:∀{t:Pt},Val G p.2 t->(ts[n]?=Z t∨t=.int 77)->∃us,AR G ((a.map (·.2)).take (n+1)) us/\us.length=n+1/\Wt ts us:=λ{t} q s=>by
   refine⟨us++[t],?_,by simp[c],λi u h=>?_⟩
   .rw[u8,o];exact b.append<|.cons q .nil
   .rcases C7 i us.length with k|k
    .rw[q8 k]at h;exact m i u h
    .have d:i=us.length:=by
      have:=Cd h;simp at this;lia
     subst d;simp at h;subst h;rw[c];exact s
  rcases w.at_ n p.1 p.2 g with e|e
  .have:(kvs.map (·.2))[n]?=Z p.2:=by rw[b6,e];rfl
   obtain⟨t,v,x⟩:=r.get this;exact j x<|.inl v
  .exact j (t:=.int 77) (by rw[e];exact .int 77)<|.inr W
theorem QN:∀{kvs:List (Key×V)}{i:Nat}{k:Key}{v:V},(kvs.map (·.1)).Nodup->kvs[i]?=Z (k,v)->CG kvs k=Z v
 |[],i,k,v=>λ_ h=>by simp at h|p::r,0,k,v=>λnd h=>by
  simp at h;subst h;exact D_ W
 |p::r,i+1,k,v=>λnd h=>by
  simp only[List.getElem?_cons_succ,jp,u4]at h nd;have a:k∈r.map (·.1):=u7.mpr ⟨_,zf h,W⟩;rw[D' λe=>nd.1<|e▸a];exact QN nd.2 h
theorem Val.kinds(h:Val G v t):(∃T:String,(∀H,Zo K H v T)/\Uo T "dict"=false/\W_ T=false/\Uo T "list"=false/\t.Jh=0)∨(∃a vs ts,v=.ref a/\t=.lst ts/\Rd G a (.lst vs)/\AR G vs ts)∨(∃a vs ts,v=.ref a/\t=.tup ts/\BO K G a vs/\AR G vs ts)∨∃a kvs ks ts,v=.ref a/\t=.Ah ks ts/\Rd G a (.dK kvs)/\kvs.map (·.1)=ks.map e9/\AR G (kvs.map (·.2)) ts:=by
 cases h with
 |int i=>exact .inl ⟨"int",λH=>.n (.int i),W,W,W,W⟩|str i=>exact .inl ⟨"str",λH=>.n (.str i),W,W,W,W⟩|bl i=>exact .inl ⟨"bool",λH=>.n (.bl i),W,W,W,W⟩|AZ=>exact .inl ⟨"NoneType",λH=>.n .AZ,W,W,W,W⟩|lst h r=>exact .inr (.inl ⟨_,_,_,W,W,h,r⟩)|tup h r=>exact .inr (.inr (.inl ⟨_,_,_,W,W,h,r⟩))|Ah h b r=>exact .inr (.inr (.inr ⟨_,_,_,_,W,W,h,b,r⟩))
theorem Wn.change(h:Wn G d c H)(p:Plain u)(r:Rd G a u)(w:Wo c u u'):Wn G d c (upd H a u'):=λb j t f g v z=>by
 by_cases i:b=a
 .subst i;have nf:∀{x:HO},Plain x->∀o z,x≠.Ca o z:=λk o z e=>by subst e;exact k
  rw[Rd.one g r (nf f)<|nf p];exact⟨u',AD,w⟩
 .rw[AH i];exact h b j t f g v z
theorem IV.change(h:IV G d H f)(p:Plain u)(r:Rd G a u)(v:Val G (.ref a) t)(l:t.FI<=d):IV G d H (upd f a u'):=λb o e=>by
 by_cases c:b=a
 .subst c;exact .inr ⟨u,t,p,r,v,l⟩
 .rw[AH c];exact h b o e
theorem Xm(h:n<=16000100):n<sizeLine:=by rw[SB];exact d8 h ac
inductive aH{K:zg}[Be K](n:Nat)(vs:List V)(H:Hp)(Q:VK)(b:XK):Prop|mk(G:Hp)(v:V)(t:Pt)(c:Nat)(d:vs=[v])(e:KF K G)(f:Val G v t)(g:t.QI)(h:t.FI<n)(i:t.size+c<=16000000)(j:Wn G t.FI c H)(k:∀(a:Hp),Wn G t.FI (c+t.Jh) a->IV G t.FI H a->Q .AZ a)
def Jy(n:Nat):Sp:=λa H Q E=>aH n a H Q E
end
section
variable {tg:C5}
end
namespace Ak
end Ak
section
variable [Be K]
end
namespace Ak
mutual
def Mr:Ak->Prop
 |any=>True|AY _=>True|row xs _=>VW xs|tab _ xs ls m=>(m=true->ls.length<=60/\ls.Nodup/\KB ls=true)/\VW xs
def VW:List Ak->Prop
 |[]=>True|x::r=>Mr x/\VW r
end
mutual
theorem Xn:∀a:Ak,a.ok->a.Mr
 |any,_=>trivial|AY _,_=>trivial|row xs _,o=>by simp only[ok]at o;simp only[Mr];exact OB xs o|tab _ xs _ _,o=>by simp only[ok]at o;simp only[Mr];exact⟨λ_=>o.2.2.2.2.1,OB xs o.2.2.2.2.2.2⟩
theorem OB:∀xs:List Ak,Js xs->VW xs
 |[],_=>trivial|x::r,o=>by simp only[Js]at o;exact⟨Xn x o.1,OB r o.2⟩
end
theorem Fs:∀{xs:List Ak},VW xs->∀x∈xs,Mr x
 |y::r,h,x,a=>by
  simp only[VW]at h;rcases j4.mp a with rfl|a
  .exact h.1
  .exact Fs h.2 x a
mutual
def Ms:Ak->Prop
 |any=>True|AY _=>True|row xs m=>(m=true∨CW xs=ν)/\LS xs|tab ks xs ls m=>((m=true/\ls.length<=60/\ls.Nodup/\KB ls=true)∨(m=false/\ls=[]/\CW xs=ν))/\(∀l∈ls,l∉ks)/\LS xs
def LS:List Ak->Prop
 |[]=>True|x::r=>Ms x/\LS r
end
theorem QO:∀{xs:List Ak},LS xs->∀x∈xs,Ms x
 |y::r,h,x,a=>by
  simp only[LS]at h;rcases j4.mp a with rfl|a
  .exact h.1
  .exact QO h.2 x a
theorem JL(m:Bool)(h:LS cs):(BW cs m).Ms:=by
 unfold BW;cases m with
 |true=>rw[if_pos W];exact⟨.inl W,h⟩|false=>
  rw[if_neg ac];cases e:CW cs with
  |some a=>trivial|none=>exact⟨.inr e,h⟩
theorem JM(m:Bool)(s:m=true->ls.length<=60/\ls.Nodup/\KB ls=true)(a:∀l∈ls,l∉ss)(h:LS cs):(BX ss cs ls m).Ms:=by
 unfold BX;cases m with
 |true=>rw[if_pos W];exact⟨.inl ⟨W,s W⟩,a,h⟩|false=>
  rw[if_neg ac];cases e:CW cs with
  |some c=>trivial|none=>exact⟨.inr ⟨W,W,e⟩,λl b=>(nomatch b),h⟩
theorem Good.Ms{a b:Ak}(h:Good a b):a.Az->a.Mr->b.Ms:=by
 refine Good.rec (motive_1:=λa b _=>a.Az->a.Mr->b.Ms) (motive_2:=λd f _=>(∀a∈d,a.Az)->(∀a∈d,a.Mr)->LS f) (λ_ _=>trivial) (λ_ _ _=>trivial) ?_ ?_ (λ_ _=>trivial) ?_ h
 .intro j f m _ h o s;simp only[Ak.Az,Ak.Mr]at o s;exact JL m<|h (BB o)<|Fs s
 .intro u v j d f ls m g y e _ h o s;simp only[Ak.Az,Ak.Mr]at o s;obtain⟨k,n,z,A,B,p,q⟩:=o;have i:=Cu k n g e;exact JM m s.1 (λl t w=>p l t<|g.mem_iff.mp w)<|h (λx c=>BB q x<|i.mem_iff.mp c) λx c=>Fs s.2 x<|i.mem_iff.mp c
 .exact λ_ _ h r o s=>⟨h (o _ d9)<|s _ d9,r (λx c=>o x<|cr _ c) λx c=>s x<|cr _ c⟩
noncomputable def word:Ak->Str
 |any=>"any"|AY _=>"just"|row _ _=>"row"|tab _ _ _ _=>"table"
theorem Mt:∀{xs:List Ak},CW xs=ν->∃(i:Nat)(x:Ak),xs[i]?=Z x/\x.word≠"just"
 |[],h=>by simp[CW]at h|x::r,h=>by
  cases x with
  |AY d=>
   simp only[CW,Option.map_eq_none_iff]at h;obtain⟨i,y,a,b⟩:=Mt h;exact⟨i+1,y,GT a,b⟩
  |any=>exact⟨0,_,W,by simp only[word];decide⟩|row _ _=>exact⟨0,_,W,by simp only[word];decide⟩|tab _ _ _ _=>exact⟨0,_,W,by simp only[word];decide⟩
end Ak
variable{v:V}{G:Hp}
section
variable [Be K]
def VX(G H:Hp):Prop:=∀b u,Plain u->Rd G b u->H b=Z u
theorem VX.up(p:VX G H)(s:AF H a):VX G a:=λb u c r=>s _ _<|p b u c r
theorem VX.val(p:VX G H)(h:Val G v t):Val H v t:=h.kL λb u a r=>.inl<|p b u a r
theorem Plain.nf(h:Plain u):∀o z,u≠.Ca o z:=λo z e=>by subst e;exact h
theorem VX.Ga:VX (nw H e) (L2.Ga H e):=λb u c r=>by
 cases d:H b with
 |some o=>
  rcases r with r|⟨f,r⟩<;>(rw[Eb d]at r;cases r)
 |none=>
  rcases r with r|⟨f,r⟩<;>rw[BC d]at r
  .exact LR r c.nf
  .exact aG d r λa z=>by rw[z]at c;exact c
theorem Wn.of(p:VX G H)(d:Nat):Wn G d 0 H:=λb u t f r v z=>⟨u,p b u f r,by
 cases u with
 |lst a=>have:=Wo.lst (c:=0) a 0 (bv _);simpa using this|tup a=>exact .tup a|dK e=>exact .Ah _ _ (.refl e)|_=>exact absurd f id⟩
theorem IV.out(f:IV G d H c)(s:AF a H)(o:∀b x,a b=Z x->G b=ν):AF a c:=λb x e=>by
 rcases f b x (s b x e)with h|⟨u,t,_,r,_⟩
 .exact h
 .have:=o b x e;rcases r with r|⟨_,r⟩<;>rw[this]at r<;>cases r
theorem Val.word{a:Ak}(h:Val H v a.pt):∃(t:Addr)(rest:List V),v=.ref t/\BO K H t (.str a.word::rest):=by
 obtain⟨c,i,rest,e,f⟩:=h.ak;rcases f with _|⟨d,u,b⟩|⟨g,m,u,b⟩|⟨j,g,ls,m,u,z,b,k⟩
 .exact⟨c,_,W,e⟩
 .exact⟨c,_,W,e⟩
 .exact⟨c,_,W,e⟩
 .exact⟨c,_,W,e⟩
theorem Ak.kinds{g:Ak}(r:Val G v g.pt)(b:g.Az)(e:g.Ms){n:Nat}(i:g.deep<=n+1)(j:g.size<=900):∃(k:Addr)(f:Str)(rest:List V),v=.ref k/\BO K G k (.str f::rest)/\ ((f="any"/\rest=[])∨(f="just"/\∃u,rest=[u])∨∃(xs:List Ak)(m:Bool),Ak.LS xs/\Ak.DK xs/\Ak.AW xs<=n/\Ak.AM xs<=900/\(m=true∨Ak.CW xs=ν)/\Oz (.str f::rest) (-1)=Z (.bl m)/\ ((f="row"/\∃(a:Addr)(vs:List V),rest=[.ref a,.bl m]/\Rd G a (.lst vs)/\AR G vs (Ak.EZ xs))∨(f="table"/\∃(a:Addr)(kvs:List (Key×V))(ks:List Str)(lz:Addr)(ls:List Str),rest=[.ref a,.ref lz,.bl m]/\Rd G a (.dK kvs)/\kvs.map (·.1)=ks.map e9/\AR G (kvs.map (·.2)) (Ak.EZ xs)/\Rd G lz (.lst (ls.map V.str))/\((m=true/\ls.length<=60/\ls.Nodup/\KB ls=true)∨(m=false/\ls=[]))/\∀l∈ls,l∉ks))):=by
 obtain⟨k,f,rest,s,t⟩:=r.ak;refine⟨k,f,rest,W,s,?_⟩;rcases t with _|⟨d,u,c⟩|⟨xs,m,u,c⟩|⟨ks,xs,ls,m,u,z,c,w⟩
 .exact .inl ⟨W,W⟩
 .exact .inr<|.inl ⟨W,_,W⟩
 .simp only[Ak.Az,Ak.Ms,Ak.deep,Ak.size]at b e i j;obtain⟨a,vs,rfl,o,p⟩:=c.Fd;exact .inr<|.inr ⟨xs,m,e.2,b,z_,am (d0 _ _) j,e.1,W,.inl ⟨W,a,vs,W,o,p⟩⟩
 .simp only[Ak.Az,Ak.Ms,Ak.deep,Ak.size]at b e i j;obtain⟨a,kvs,rfl,o,q,p⟩:=c.Nd;obtain⟨lz,A,rfl,x,y⟩:=w.Fd;have:=CF y;subst this;exact .inr<|.inr ⟨xs,m,e.2.2,b.2.2.2.2.2.2,z_,am (d0 _ _) j,e.1.imp (λh=>h.1) λh=>h.2.2,W,.inr ⟨W,a,kvs,ks,lz,ls,W,o,q,p,x,e.1.imp id λh=>⟨h.1,h.2.1⟩,e.2.1⟩⟩
inductive VY{K:zg}[Be K](n:Nat)(vs:List V)(H:Hp)(Q:VK)(c:XK):Prop|mk(G:Hp)(v:V)(a:Ak)(e:vs=[v])(d:VX G H)(f:Val G v a.pt)(g:a.Az)(h:a.Ms)(i:a.deep<=n)(j:a.size<=900)(k:∀b,AF H b->Q (.bl true) b)
def IL(n:Nat):Sp:=λa H Q E=>VY n a H Q E
end
theorem QP:v7 "set"=Z (.type "set"):=by decide+kernel
variable{kvs:List (Key×V)}
section
def QQ(v d:Addr):HO:=.ext λh=>h.IsValuesView v d
inductive VZ(x:V)(vs:List V)(H:Hp)(Q:VK):Prop|mk(d:Addr)(kvs:List (Key×V))(a:x=.ref d)(b:vs=[])(c:Rd H d (.dK kvs))(e:∀v,H v=ν->Q (.ref v) (upd H v (QQ v d)))
def Xo:V->List V->Hp->VK->Prop:=λx a H Q=>VZ x a H Q
theorem SU:h_ X "dict.values" Xo:=by
 intro pins s t H x u v y Q I i j h;obtain⟨l,a,rfl,rfl,m,q⟩:=h;cases i;have c:=j.zero;subst c;obtain⟨z,n,p,r,d⟩:=(show Av X.prog X.w H s.heap l (.dK a)from m.ok I.BN);refine call_meetsIn aat d.typeIs PySem.F.entry_dict_values (PySem.F.args_dict_values_1 _) (meets_dict_values (An X.prog X.w) l n) ⟨⟨p,d⟩,?_⟩;have f:(s.heap.push {cls:=.type "dict_values",data:=.fields #[.ref l]}).get? s.heap.objs.size=Z {cls:=.type "dict_values",data:=.fields #[.ref l]}:=j8 _ W;exact⟨.ref s.heap.objs.size,_,I.laid (o:=QQ s.heap.objs.size l) (t':=s.toks) (λb o e=>ca _ e) (bv _) ⟨⟨_,f,W,W⟩,⟨_,f⟩,λA B ⟨g,z1,z2⟩ k=>⟨g,k g z1,z2⟩⟩,W,q _ I.fresh⟩
inductive Xp(xs:List V)(H:Hp)(Q:VK):Prop|mk(r d:Addr)(kvs:List (Key×V))(a:xs=[.ref r])(b:H r=Z (QQ r d))(c:Rd H d (.dK kvs))(e:OZ H (.lst (kvs.map (·.2))) Q)
def aI:List V->Hp->VK->Prop:=λa H Q=>Xp a H Q
theorem KV.nD{vs:List (Key×ce)}(r:KV kvs vs):Vals (kvs.map (·.2)) (vs.map (·.2)):=by
 induction r with
 |nil=>exact .nil|cons h _ a=>exact .cons h.2 a
theorem Ji(k:X.calm=true):Ba X (.type "list") aI:=by
 intro pins s E H F G Q I r h;obtain⟨e,d,kvs,rfl,l,m,q⟩:=h;obtain⟨u,rfl,n⟩:=vals1 r;cases n;obtain⟨a,_⟩:=(show Av X.prog X.w H s.heap e (QQ e d)from I.BN e _ l);obtain⟨z,hd,g,c,o⟩:=(show Av X.prog X.w H s.heap d (.dK kvs)from m.ok I.BN);obtain⟨ep,f⟩:=o.dictAt;refine ac7 (PySem.W.kdl_values (knd:=An X.prog X.w) (kvs:=g) (ep:=ep)) (I.ok.hd k) ⟨a,f⟩ (by rw[<-c.length];exact z) λp t b x y A i=>?_;have B:(kvs.map (·.2)).length<=sizeLine:=by rw[bi];exact z
 have C:b.toList=g.map (·.2):=PySem.W.kdl_vals_eq b.toList (by rw[pY];exact i.1) λj v D=>i.2 j v (by rw[<-u6];exact D);refine⟨.ref s.heap.objs.size,_,I.laid (t':=t) y (bv _)<|show Av X.prog X.w _ p _ (.lst _)from⟨B,b.toList,x,?_,by rw[IR];exact A⟩,W,q _ I.fresh⟩;rw[C];exact c.nD
end
namespace Ak
theorem SV(a:Ak):∃ps,a.pt=.tup ps:=by cases a<;>exact⟨_,W⟩
mutual
theorem OC:∀a:Ak,a.deep<=a.dp
 |any=>by simp only[deep,dp];exact bv _|AY d=>by have:=Pt.DV d;simp only[deep,dp];exact this|row b _=>by have:=LU b;simp only[deep,dp];exact im this _|tab _ b _ _=>by have:=LU b;simp only[deep,dp];exact im this _
theorem LU:∀xs:List Ak,AW xs<=FO xs
 |[]=>bv _|x::r=>by have:=OC x;have:=LU r;simp only[AW,FO];lia
end
theorem strs_size:∀ls:List Str,Pt.AM (ls.map Pt.str)=ls.length
 |[]=>rfl|x::r=>by have:=strs_size r;simp only[jp,Pt.AM,Pt.size,j3];lia
mutual
theorem Tn:∀a:Ak,a.Az->a.pt.size<=110*a.wt
 |any,_=>by simp only[pt,wt,Pt.size,Pt.AM];lia|AY d,_=>by have:=Pt.size_pos d;simp only[pt,wt,Pt.size,Pt.AM];lia|row b _,o=>by simp only[Az]at o;have:=LV b o;simp only[pt,wt,Pt.size,Pt.AM];lia|tab c b ls _,o=>by
  simp only[Az]at o;have:=LV b o.2.2.2.2.2.2;have:=o.2.2.2.2.1;have:=strs_size ls;simp only[pt,wt,Pt.size,Pt.AM];lia
theorem LV:∀xs:List Ak,DK xs->Pt.AM (EZ xs)<=110*Bv xs
 |[],_=>by simp only[EZ,Bv,Pt.AM];exact j5 _|x::r,o=>by simp only[DK]at o;have:=Tn x o.1;have:=LV r o.2;simp only[EZ,Bv,Pt.AM];lia
end
end Ak
theorem AF.Ga(s:AF H a):AF H (L2.Ga H a):=λb o e=>by rw[Tj e];exact s b o e
theorem To(h:L2.Ga H a b=ν):a b=none:=by
 cases e:a b with
 |none=>rfl|some u=>
  unfold L2.Ga at h;rw[e]at h;cases c:H b with
  |some o=>rw[c]at h;cases h|none=>
   rw[c]at h;cases u with
   |Ca o z=>cases z<;>simp at h|_=>simp at h
theorem KF.nw{K:zg}{H a:Hp}(k:KF K (L2.Ga H a)):KF K (L2.nw H a):=λb o e=>by
 have:=To<|k b o e;unfold L2.nw;cases H b with
 |none=>exact this|some _=>rfl
section
variable [Be K]
structure Told(H H':Hp)(v:V)(g:Pt):Prop where
 s:AF H (L2.Ga H H')
 p:VX (L2.nw H H') (L2.Ga H H')
 k:KF K (L2.nw H H')
 v:Val (L2.nw H H') v g
theorem Told.of{a:Hp}{g:Pt}(s:AF H a)(h:Val (L2.nw H a) v g)(k:KF K (L2.Ga H a)):Told H a v g:=⟨s.Ga,.Ga,k.nw,h⟩
theorem Told.val{H a b:Hp}{v:V}{g:Pt}(t:Told H a v g)(s:AF (L2.Ga H a) b):Val b v g:=(t.p.up s).val t.v
theorem Told.out{H c a h i:Hp}{v:V}{g:Pt}(t:Told H c v g){d:Nat}(f:IV (L2.nw H c) d h i)(s:AF a h)(o:∀b x,a b=Z x->H b≠ν):AF a i:=f.out s λb x e=>by
 cases j:H b with
 |none=>exact absurd j (o b x e)|some y=>exact Eb j
theorem Told.past{a i j k l:Hp}{g:Pt}(t:Told H a v g)(n:AF (L2.Ga H a) i){d:Nat}(f:IV (L2.nw H a) d k l)(s:AF (L2.nw i j) k):AF (L2.nw i j) l:=f.out s λb x e=>by
 cases c:L2.nw H a b with
 |none=>rfl|some y=>
  exfalso;have o:H b=none:=by
   cases h:H b with
   |none=>rfl|some z=>rw[Eb h]at c;cases c
  rw[BC o]at c;have p:L2.Ga H a b≠none:=λz=>by rw[To z]at c;cases c
  cases m:L2.Ga H a b with
  |none=>exact p m|some z=>
   have:=n _ _ m;rw[Eb this]at e;cases e
end
namespace Pt
noncomputable def RD:Pt->Key->Option Pt
 | .lst xs,.inl i=>if 0<=i then xs[i.toNat]? else ν| .Ah ks xs,.inr k=>lk ks xs k|_,_=>ν
noncomputable def sub:Pt->List Key->Option Pt
 |t,[]=>Z t|t,k::p=>(t.RD k).bind λu=>sub u p
end Pt
namespace Ak
noncomputable def Xq:Ak->Key->Option Ak
 |AY d,k=>(d.RD k).map AY|row xs _,.inl i=>if 0<=i then xs[i.toNat]? else ν|tab ks xs _ _,.inr k=>lk ks xs k|_,_=>ν
noncomputable def sub:Ak->List Key->Option Ak
 |a,[]=>Z a|a,k::p=>(a.Xq k).bind λb=>sub b p
def nK(n:Nat):List Key:=(j9 n).map λ(j:Nat)=>U9 (j:Int)
theorem aJ:(Pt.lst (EZ xs)).RD k=((row xs m).Xq k).map pt:=by
 cases k with
 |inr x=>rfl|inl i=>
  simp only[Pt.RD,Xq,AV];split
  .rw[b6]
  .rfl
theorem aK:(Pt.Ah ks (EZ xs)).RD k=((tab ks xs ls m).Xq k).map pt:=by
 cases k with
 |inl i=>rfl|inr x=>simp only[Pt.RD,Xq,AV,Ea]
structure cA(a:Ak)(ks:List Key)(bs:List Ak):Prop where
 e:ks.map a.Xq=bs.map Z
 w:1+Bv bs<=a.wt
 c:∀k b,a.Xq k=Z b->k∈ks
 n:∀i:Int,U9 i∈ks->i<(ks.length:Int)
 h:(∃n:Nat,ks=nK n)∨∃ss:List Str,ks=ss.map e9
theorem Bx:∀{a b:List Ak},Bv (a++b)=Bv a+Bv b
 |[],b=>by simp only[N6,Bv];lia|x::r,b=>by simp only[D7,Bv,Bx (a:=r)];lia
theorem QR:∀{xs:List Pt},Bv (xs.map AY)=Pt.AM xs
 |[]=>rfl|x::r=>by simp only[jp,Bv,wt,Pt.AM,QR (xs:=r)]
end Ak
namespace Ak
end Ak
section
variable [Be K]
inductive eM(H:Hp)(v:V)(k:Key)(w:V):Prop
 |pl (a:Addr) (xs:List V) (j:Nat) (b:v=.ref a) (c:Rd H a (.lst xs)) (e:kV k=.int (j:Int)) (d:xs[j]?=Z w):eM H v k w
 |nm (a:Addr) (kvs:List (Key×V)) (b:v=.ref a) (c:Rd H a (.dK kvs)) (d:CG kvs k=Z w):eM H v k w
theorem Val.nE(h:Val H v t)(e:t.RD k=Z u):∃w,Val H w u/\eM H v k w:=by
 cases t with
 |lst g=>
  cases k with
  |inr x=>cases e|inl i=>
   simp only[Pt.RD]at e;by_cases z:0<=i
   .rw[if_pos z]at e;obtain⟨a,d,rfl,b,r⟩:=h.Fd;obtain⟨w,hw⟩:=BH d (i.toNat) (by have:=(Cd e);have:=r.length;lia);obtain⟨o,f,j⟩:=r.get hw;rw[e]at f;cases f;exact⟨w,j,.pl a d i.toNat W b (by show V.int i=_;rw[x5 z]) hw⟩
   .rw[if_neg z]at e;cases e
 |Ah p g=>
  cases k with
  |inl i=>cases e|inr x=>
   obtain⟨a,c,rfl,b,l,r⟩:=h.Nd;rcases Val.Dr l r x with⟨w,m,k1,k2,n⟩|⟨_,k2⟩
   .have:m=u:=ze<|k2.symm.trans e;subst this;exact⟨w,n,.nm a c W b k1⟩
   .exact absurd (k2.symm.trans e) (λz=>nomatch z)
 |int _=>cases k<;>cases e|str _=>cases k<;>cases e|bl _=>cases k<;>cases e|AZ=>cases k<;>cases e|tup _=>cases k<;>cases e
inductive Va(vs:List V)(H:Hp)(Q:VK):Prop|mk(v:V)(t:Pt)(k:Key)(a:vs=[v,kV k])(b:Val H v t)(c:Fe t)(d:Q (.bl (t.RD k).isSome) H)
def QS:Sp:=λa H Q _=>Va a H Q
end
noncomputable def HO.lt:HO->Bool
 | .lst _=>true| .tup _=>true|_=>false
variable{ks:List Str}
theorem EU(h:kvs.map (·.1)=ks.map e9):kvs.length=ks.length:=by
 have:=congrArg sw h;simpa using this
theorem aL{a:Type _}{l:List a}{k:Nat}{x:a}(h:l[k]?=Z x):l.drop k=x::l.drop (k+1):=by
 have b:=Cd h;rw[A9 b];rw[zc b]at h;rw[ze h]
inductive QT(f:Addr)(c:Sp)(vs:List V)(H:Hp)(Q:VK):Prop|mk(v:V)(I:Nat->List V->Hp->Nat->Prop)(i:Nat)(j:vs=[v,.ref f])(l:∀b,AF H b->I 0 [v] b i)(n:∀L k es d m x,H L=ν->AF H d->d L=Z (.lst es)->I k es d m->es[k]?=Z x->∀g:VK,(∀p a e,AF d e->e p=Z (.lst a)->es.length+a.length<=sizeLine->(∃h,h<m/\I (k+1) (es++a) (upd e L (.lst (es++a))) h)->g (.ref p) e)->c [x] d g E0)(o:∀p es b m,AF H b->H p=ν->b p=Z (.lst es)->I es.length es b m->Q (.ref p) b):QT f c vs H Q
def Jz(b:Addr)(a:Sp):Sp:=λc H Q _=>QT b a c H Q
structure ip(nF nG:Sp)(p pT:Addr)(es:List V)(cs:List Nat)(J:Nat->List V->Hp->Prop)(Q:VK)(H3:Hp):Prop where
 j0:J es.length (r4 es.length .AZ) H3
 RE:∀i ts Hi x c,J (i+1) ts Hi->es[i]?=Z x->cs[i]?=Z c->∀Q':VK,(∀pI kP H4,AF Hi H4->H4 pI=Z (.lst kP)->kP.length=c->Q' (.ref pI) H4)->nF [x] Hi Q' E0
 join:∀i ts Hi x c pS H5,J (i+1) ts Hi->es[i]?=Z x->cs[i]?=Z c->ts.length=es.length->Hi pT=Z (.lst ts)->Hi p=Z (.lst es)->AF Hi H5->Hi pS=ν->H5 pS=Z (.lst ((ts.drop (1+(cs.take i).sum)).take c))->
  ∀Q':VK,(∀w H6,H6 p=Z (.lst es)->H6 pT=Z (.lst ts)->J i (ts.set i w) (upd H6 pT (.lst (ts.set i w)))->Q' w H6)->nG [x,.ref pS] H5 Q' E0
 fin:∀ts Hi w,J 0 ts Hi->ts[0]?=Z w->Q w Hi
structure iq(nF nG:Sp)(H1:Hp)(p:Addr)(es:List V)(cs:List Nat)(Q:VK):Prop where
 lc:cs.length=es.length
 sc:1+cs.sum=es.length
 l9:es.length<=20000
 on:∀pT H3,AF H1 H3->H1 pT=ν->H3 pT=Z (.lst (r4 es.length .AZ))->∃J,ip nF nG p pT es cs J Q H3
inductive QU(g h:Addr)(b c:Sp)(vs:List V)(H:Hp)(Q:VK):Prop|mk(v:V)(I:Nat->List V->Hp->Nat->Prop)(n:Nat)(o:vs=[v,.ref g,.ref h])(q:∀i,AF H i->I 0 [v] i n)(r:∀L k es d m x,H L=ν->AF H d->d L=Z (.lst es)->I k es d m->es[k]?=Z x->∀j:VK,(∀p a e,AF d e->e p=Z (.lst a)->es.length+a.length<=sizeLine->(∃l,l<m/\I (k+1) (es++a) (upd e L (.lst (es++a))) l)->j (.ref p) e)->b [x] d j E0)(s:∀p es f m,AF H f->H p=ν->f p=Z (.lst es)->I es.length es f m->∃cs,iq b c f p es cs Q):QU g h b c vs H Q
def J_(c d:Addr)(a b:Sp):Sp:=λe H Q _=>QU c d a b e H Q
theorem Xr{cs:List Nat}{c:Nat}(h:cs[i]?=Z c):(cs.take (i+1)).sum=(cs.take i).sum+c:=by
 rw[u8,h,adr];simp
theorem eN{cs:List Nat}:∀{i:Nat},(cs.take i).sum<=cs.sum:=λ{i}=>by
 have:cs.sum=(cs.take i).sum+(cs.drop i).sum:=by rw[<-adr,abi]
 exact am (ci _ _)<|bm this.symm
variable{xs ys:List Ak}{m n:Bool}{ns os:List Str}
namespace Ak
def cells(m:Bool)(n k:Nat):Bool:=m||decide (k<=n)
def QV(ks ls:List Str)(m:Bool)(n:Str):Bool:=decide (n∈ks)||(m&& !decide (n∈ls))
def cnames(ks ls:List Str)(m:Bool)(ns:List Str):Bool:=(ns.map<|QV ks ls m).all id
noncomputable def meet:Ak->Ak->Bool
 |row xs m,b=>match b with|row ys n=>cells m xs.length ys.length&&cells n ys.length xs.length|_=>false
 |tab ks _ ls m,b=>match b with|tab ns _ os n=>cnames ks ls m ns&&cnames ns os n ks|_=>false
 |_,_=>false
theorem OD:meet (row xs m) (row ys n)=(cells m xs.length ys.length&&cells n ys.length xs.length):=rfl
theorem J'{ls:List Str} :meet (tab ks xs ls m) (tab ns ys os n)=(cnames ks ls m ns&&cnames ns os n ks):=rfl
def eO(a:Ak)(k:Key):Ak:=(a.Xq k).getD any
noncomputable def RE:Ak->Bool
 |row _ _=>true|tab _ _ _ _=>true|_=>false
end Ak
variable{vs:List V}
section
variable [Be K]
inductive Xs(vs:List V)(H:Hp)(Q:VK):Prop|mk(v:V)(xs:List Ak)(m:Bool)(k:Nat)(a:vs=[v,.int (k:Int)])(b:Val (K:=K) H v (Ak.row xs m).pt)(c:Q (.bl (Ak.cells m xs.length k)) H)
def Tp:Sp:=λa H Q _=>Xs (K:=K) a H Q
inductive Vb(vs:List V)(H:Hp)(Q:VK):Prop|mk(v y:V)(ks:List Str)(xs:List Ak)(ls:List Str)(m:Bool)(ns:List Str)(ts:List Pt)(b:vs=[v,y])(c:Val (K:=K) H v (Ak.tab ks xs ls m).pt)(d:Val (K:=K) H y (.Ah ns ts))(e:ns.length<=900)(f:∀a,AF H a->Q (.bl (Ak.cnames ks ls m ns)) a)
def QW:Sp:=λa H Q _=>Vb (K:=K) a H Q
inductive aM(vs:List V)(H:Hp)(Q:VK):Prop|mk(v y:V)(a b:Ak)(d:vs=[v,y])(e:Val (K:=K) H v a.pt)(f:Val (K:=K) H y b.pt)(g:a.Az)(h:b.Az)(i:∀c,AF H c->Q (.bl (Ak.meet a b)) c)
inductive eP(vs:List V)(H:Hp)(Q:VK):Prop|mk(G:Hp)(v:V)(a:Ak)(k:Key)(b:vs=[v,kV k])(c:AF G H)(d:Val (K:=K) G v a.pt)(e:a.RE=true)(f:a.Az)(g:a.wt<=900)(h:∀w,Val (K:=K) G w (a.eO k).pt->Q w H)
def cB:Sp:=λa H Q _=>eP (K:=K) a H Q
def SW:Sp:=λa H Q _=>aM (K:=K) a H Q
theorem Xt{N R:Type}{fI fJ:Addr}{X Y:Sp}{Q:VK}{E:XK}{u:N}(I:Hp->V->N->Prop)(cA:N->List N->Prop)(Ok:N->Prop)(ξ:List N->Nat)(Gd:N->R->Prop)(pt:R->Pt)(up:∀{d r:Hp} {x:V} {y:N},I d x y->(∀b xs,d b=Z (.tup xs)->r b=Z (.tup xs))->I r x y)(wa:∀a b,ξ (a++b)=ξ a+ξ b)(wl:∀l,l.length<=ξ l)(kw:∀{y ks},Ok y->cA y ks->ξ ks+1<=ξ [y])(ko:∀{y ks},Ok y->cA y ks->∀k∈ks,Ok k)(one:∀{y ks ζ},cA y ks->cA y ζ->ks=ζ)(h0:I H v u)(o0:Ok u)(w0:ξ [u]<=20000)(RE:∀{d:Hp} {x:V} {y:N} {J:VK},AF H d->I d x y->Ok y->(∀p es us r,AF d r->r p=Z (.lst es)->cA y us->Paired (I r) es us->J (.ref p) r)->X [x] d J E0)(jn:∀{t M:Hp} {x:V} {y:N} {pS:Addr} {ws:List V} {ks:List N} {cs:List R} {J:VK},AF H M->I M x y->Ok y->M pS=Z (.lst ws)->t pS=ν->(∀b,M b=ν->t b=ν)->cA y ks->Paired Gd ks cs->AR (K:=K) (nw t M) ws (cs.map pt)->(∀w b H6,AF M H6->Val (K:=K) (nw t H6) w (pt b)->Gd y b->J w H6)->Y [x,.ref pS] M J E0)(q:∀w b H',AF H H'->Val (K:=K) (nw H H') w (pt b)->Gd u b->Q w H'):J_ fI fJ X Y [v,.ref fI,.ref fJ] H Q E:=by
 refine⟨v,λk es d m=>∃l f,Paired (I d) es l/\QA cA u k l f/\ξ (l.drop k)=m/\k+m<=ξ [u]/\∀q∈l,Ok q,ξ [u],W,λ_ s=>⟨[u],[],.cons (up h0 λb xs h=>s _ _ h) .nil,.start,W,bm<|aeD _,λq hq=>by rw[io.mp hq];exact o0⟩,?_,?_⟩
 .rintro L k es d m x hL si ub ⟨l,f,pr,bf,hm,hk,al⟩ O J k';obtain⟨tx,A,P⟩:=XD pr O;have ok:=al tx<|zf A;rw[aL A,<-List.singleton_append,wa]at hm;refine RE si P ok λp S us r s2 hp kd C=>?_;have kw:=kw ok kd;have le:=pr.length;have uc:=C.length;have l1:=wl us;have l3:=wl<|l.drop<|k+1;rw[ac9]at l3;have d2:=s2 _ _ ub;have cC:∀(o:List V)(b:Addr)(xs:List V),r b=Z (.tup xs)->upd r L (.lst o) b=Z (.tup xs):=λo b xs h=>(AH<|EK h d2).trans h;have e2:ξ ((l++us).drop<|k+1)=ξ (l.drop<|k+1)+ξ us:=by rw[List.drop_append_of_le_length<|Cd A,wa]
  exact k' p S r s2 hp (QB z_) ⟨_,z_,l++us,f++[us],Nf (Paired.UQ pr λ_ _ z=>up z λb xs h=>cC _ _ _<|s2 _ _ h)<|Paired.UQ C λ_ _ z=>up z<|cC _,bf.next A kd,e2,z_,λy D=>(rc.mp D).elim (al y)<|ko ok kd y⟩
 .rintro p es H1 m s1 np hp ⟨l,f,pr,B,hm,hk,al⟩;have le:=pr.length;rw[le]at B hk;have lk:=B.len;have fl:∀i,((f.map sw).take i).sum=(f.take i).flatten.length:=λi=>by rw[<-aei,abX]
  refine⟨f.map sw,by rw[bi];exact lk.trans le.symm,?_,z_,λpT t s3 nT fT=>?_⟩
  .rw[<-abX,le,B.eq,j3,Tl]
  have S3:=s1.trans s3;have ud:H pT=none:=s1.free nT;have T:∀{d:Hp},Bt (Z pT) t d->AF H d:=λg b o e=>g.keep b o (λz=>by rw[<-ze z,ud]at e;cases e)<|S3 _ _ e;have qI:∀{i:Nat}{x:V}{c:Nat}{d:Hp},Bt (Z pT) t d->es[i]?=Z x->(f.map sw)[i]?=Z c->∃y ks,l[i]?=Z y/\f[i]?=Z ks/\c=ks.length/\I d x y/\Ok y:=λ{i x c d} g O U=>by
   obtain⟨y,D,P⟩:=XD pr O;rw[b6]at U;obtain⟨ks,n,e⟩:=At.mp U;exact⟨y,ks,D,n,e.symm,up P λb xs h=>g.keep b _ (λz=>by rw[<-ze z,nT]at h;cases h)<|s3 _ _ h,al y<|zf D⟩
  refine⟨λi ts d=>Bt (Z pT) t d/\gD (K:=K) Gd pt t d l ts i,⟨⟨.refl,⟨by simp[le],λj x h1 h2=>absurd (Cd h2)<|acg.mpr<|by rw[<-le];exact h1⟩⟩,?_,?_,?_⟩⟩
  .rintro i ts d x c ⟨g,F⟩ O U J k;obtain⟨y,ks,D,n,rfl,P,o⟩:=qI g O U;refine RE (T g) P o λpI S us H4 s4 hI ue C=>?_;cases one ue (B.kids i y ks D n);exact k pI S H4 s4 hI C.length
  .rintro i ts d x c pS M ⟨g,F⟩ O U lt hT aO s5 nS f5 J k;obtain⟨y,ks,D,n,rfl,P,o⟩:=qI g O U;obtain⟨b1,b2,b3,b4⟩:=B.at_ n;obtain⟨cs,g1,g2⟩:=F.slice ks.length (1+(f.take i).flatten.length) z_ b4;rw[b2]at g1;rw[fl]at f5;have qJ:t pT≠none:=by rw[fT];simp
   refine jn ((T g).trans s5) (up P λb xs h=>s5 _ _ h) o f5 (g.EJ _ nS) (λb h=>g.EJ b<|s5.free h) (B.kids i y ks D n) g1 (g2.up<|Bi (λb h=>h) λb o _ h=>s5 _ _ h) λw b H6 s6 vw gd=>?_;have G:=s5.trans s6;refine k w H6 (G _ _ aO) (G _ _ hT) ⟨(g.trans<|.of G).put,F.set (λb o h1 h2=>?_) D gd<|vw.up<|Bi (λb h=>h) λb o h1 h2=>?_⟩
   .rw[AH λz=>qJ<|by rw[<-z];exact h1];exact G _ _ h2
   .rw[AH λz=>qJ<|by rw[<-z];exact h1];exact h2
  .rintro ts d w ⟨g,F⟩ hw;obtain⟨w',b,g1,g2,g3⟩:=F.val 0 u (j5 _) (by rw[B.eq];rfl);cases hw.symm.trans g1;exact q w b d (T g) (g3.up<|Bi (λb h=>S3.free h) λb o _ h=>h) g2
theorem aP{w A:Addr}{Q:VK}{E:XK}(h:Nk (K:=K) w A vs H Q E):J_ w A (IC (K:=K)) (Gp (K:=K)) vs H Q E:=by
 obtain⟨G,v,a,rfl,B,F,j,b,q⟩:=h;refine Xt (K:=K) (λ_ x (y:Ak)=>Val (K:=K) G x y.pt) Ak.Kd (λy=>y.Az/\y.wt<=900) Ak.AM Ak.Good Ak.pt (λh _=>h) Ak.A_ Ak.CQ (λ{y c} o k=>?_) (λo k x C=>⟨k.ok o.1 x C,am (k.wt o.1 x C) o.2⟩) (λk I=>k.one I) F ⟨j,b⟩ ?_ (λ{Hi x y J} L l o k=>?_) (λ{M H5 x y N O c P J} s l o f n d m g e k=>⟨G,M,x,y,N,O,c,P,W,B.trans s,l,o.1,o.2,f,n,d,m,.pr g,e,k⟩) q
 .rw[Tl,<-k.size o.1];exact ci _ _
 .exact am (am a.Cw b) ac
 .refine⟨G,x,y.pt,y.size,W,B.trans L,l,y.nd o.1<|am y.Cw o.2,λp R us S T np U e m=>?_⟩;obtain⟨c,r,rfl⟩:=Ak.ij o.1 m;refine k p R c S T U r (XE (by rw[e.length,bi]) λi t z X Y=>?_);obtain⟨u,D,ζ⟩:=e.get X;rw[b6,Y]at D;cases D;exact ζ
end
noncomputable def Jj(mask:Nat):Nat->Nat->Nat->Nat×Nat
 |0,i,p=>(i,p)|m+1,i,p=>Jj mask m (ab7 mask i p).1 (ab7 mask i p).2
theorem cD(mask:Nat):∀(m i p:Nat),(Jj mask m i p).2=p/32 ^ m
 |0,i,p=>by simp[Jj]|m+1,i,p=>by
  rw[Jj,cD mask m];show p/32/32 ^ m=_;rw[Nat.div_div_eq_div_mul,Nat.pow_succ,aeE]
theorem Tq(mask:Nat):∀(m n i p:Nat),Jj mask (m+n) i p=Jj mask n (Jj mask m i p).1 (Jj mask m i p).2
 |0,n,i,p=>by simp[Jj]|m+1,n,i,p=>by rw[Z2,Jj,Tq mask m n,Jj]
def Yt(mask:Nat):Prop:=∀i,i<=mask->∀j,j<=mask->∃m,m<=mask/\(Jj mask m i 0).1=j
theorem nH:Yt 7:=by unfold Yt;decide+kernel
theorem ir:Yt 15:=by unfold Yt;decide+kernel
theorem iu:Yt 31:=by unfold Yt;decide+kernel
theorem Mu{mask:Nat}{owner:Array (Option Nat)}:∀{f i p:Nat},zy mask owner f i p=ν->∀m<f,(owner.getD (Jj mask m i p).1 (Z 0)).isNone=false
 |0,i,p,_,m,h=>by lia|f+1,i,p,e,m,h=>by
  unfold zy at e;split at e
  .cases e
  .rename_i q
   cases m with
   |zero=>
    rw[List.find?_eq_none]at q;have:=q 0 (by rw[zw];unfold SetTable.runEnd;split<;>lia);rw[U7]at this;exact this
   |succ m=>exact Mu e m z_
theorem Mv{mask:Nat}{owner:Array (Option Nat)}{j:Nat}:∀{f i p:Nat},zy mask owner f i p=Z j->(owner.getD j (Z 0)).isNone=true
 |0,i,p,e=>by simp[zy]at e|f+1,i,p,e=>by
  unfold zy at e;split at e
  .rename_i q
   cases e;exact List.find?_some (p:=λk=>(owner.getD (i+k)<|some 0).isNone) q
  .exact Mv e
theorem aQ(mask i p:Nat):(ab7 mask i p).1<=mask:=by
 have:=aaO (i*5+1+p/32) (y:=mask+1)<|A6<|j5 _;show(i*5+1+p/32) % (mask+1)<=mask;lia
theorem Xu(mask:Nat):∀{a i p:Nat},i<=mask->(Jj mask a i p).1<=mask
 |0,i,p,h=>h|a+1,i,p,h=>by rw[Jj];exact Xu mask (aQ mask i p)
variable{mask:Nat}
theorem aR(R:Yt mask){owner:Array (Option Nat)}{a p:Nat}(c:a<=mask)(d:owner[a]?=Z ν)(f:i<=mask)(g:p<2 ^ 64):∃j,zy mask owner (T1 mask) i p=Z j/\owner[j]?=Z none:=by
 cases e:zy mask owner (T1 mask) i p with
 |none=>
  have b:(Jj mask 13 i p).2=0:=by rw[cD];exact Nat.div_eq_of_lt<|bn g ac
  obtain⟨m,k,h⟩:=R (Jj mask 13 i p).1 (Xu mask f) a c;have:=Mu e (13+m) (by unfold T1;lia);rw[Tq,b,h,O7,d]at this;cases this
 |some j=>
  refine⟨j,W,?_⟩;have:=Mv e;rw[O7]at this;cases q:owner[j]? with
  |none=>rw[q]at this;cases this|some x=>rw[q]at this;cases x with
   |none=>rfl|some y=>cases this
theorem QX{k:Nat}:∀{l:List (Option Nat)}{j:Nat},l[j]?=Z ν->((l.set j (Z k)).filterMap id).Perm (k::l.filterMap id)
 |[],j,h=>by simp at h|x::l,0,h=>by
  simp at h;subst h;simp
 |x::l,j+1,h=>by
  have a:=QX (k:=k) (l:=l) (j:=j) (GT h);rw[List.set_cons_succ];cases x with
  |none=>simpa using a|some y=>
   simp only[Ch,id];exact(a.cons y).trans<|.swap _ _ _
theorem Vc{l:List (Option Nat)}(h:(l.filterMap id).length<l.length):∃j,j<l.length/\l[j]?=Z none:=by
 induction l with
 |nil=>simp at h|cons x l a=>
  cases x with
  |none=>exact⟨0,GE,W⟩|some y=>
   simp only[Ch,id,j3]at h;obtain⟨j,c,b⟩:=a z_;exact⟨j+1,by rw[j3];lia,GT b⟩
theorem aS(h:Int):L9 h<2 ^ 64:=by
 unfold L9;have a:=D5 h (b:=(2 ^ 64:Int)) ac;have c:=B7 h (b:=(2 ^ 64:Int)) ac;have d:(2 ^ 64:Int)=((2 ^ 64:Nat):Int):=by decide
 rw[d]at a c⊢;lia
abbrev nI(mask:Nat)(a:Option (Array (Option Nat)×Nat))(h:Int):Option (Array (Option Nat)×Nat):=do
  let(owner,k)<-a
  let j<-zy mask owner (T1 mask) (L9 h % (mask+1)) (L9 h)
  pure (owner.setIfInBounds j (Z k),k+1)
theorem QY{mask:Nat}(R:Yt mask):∀(hs:List Int)(owner:Array (Option Nat))(k:Nat),owner.size=mask+1->(owner.toList.filterMap id).Perm (j9 k).reverse->k+hs.length<=mask->
  ∃a,hs.foldl (nI mask) (Z (owner,k))=Z (a,k+hs.length)/\a.size=mask+1/\(a.toList.filterMap id).Perm (j9 (k+hs.length)).reverse
 |[],owner,k,hz,b,_=>⟨owner,W,hz,b⟩|h::hs,owner,k,hz,b,hl=>by
  rw[j3]at hl;obtain⟨o,d,f⟩:=Vc (l:=owner.toList) (by rw[b.length_eq,abV,wS,pY,hz];exact A6<|am (ci _ _) hl);rw[pY,hz]at d;rw[u6]at f;obtain⟨j,e,c⟩:=aR R (i:=L9 h % (mask+1)) z_ f (by have:=aaO (L9 h) (y:=mask+1)<|d8 (j5 _) d;lia)<|aS h;have st:nI mask (Z (owner,k)) h=Z (owner.setIfInBounds j<|some k,k+1):=by
   show(zy mask owner (T1 mask) (L9 h % (mask+1)) (L9 h)>>=λj=>pure (owner.setIfInBounds j<|some k,k+1))=_;rw[e];rfl
  obtain⟨a,g,m,n⟩:=QY R hs (owner.setIfInBounds j (Z k)) (k+1) (by rw[Array.size_setIfInBounds,hz]) (by
   rw[Array.toList_setIfInBounds];refine(QX (by rw[u6];exact c)).trans ?_;rw[W7,List.reverse_append];exact b.cons k) z_
  refine⟨a,?_,m,?_⟩
  .rw[W9,st,g,j3,Z2,V3]
  .rw[j3,<-V3,Z2];exact n
theorem aT(owner:List (Option Nat)):∀(n:Nat),owner.length=n->((j9 n).filterMap λj=>(owner.getD j ν).map (ae5 j)).map (·.2)=owner.filterMap id:=by
 induction owner with
 |nil=>intro n h;subst h;rfl|cons x l b=>
  intro n h;subst h;rw[j3,N2,Ch];have e:((j9 l.length).map acx).filterMap (λj=>((x::l).getD j ν).map<|ae5 j)=((j9 l.length).filterMap λj=>(l.getD j ν).map<|ae5 j).map λq=>(q.1+1,q.2):=by
   rw[acr,List.map_filterMap];refine congrArg (λf=>ad2 f _) (funext λj=>?_);simp only[aar,List.getD_cons_succ];cases l.getD j ν<;>rfl
  have a:=b _ W;cases x with
  |none=>
   simp only[X8,Option.map_none,Ch,id];rw[e,u5];exact a
  |some y=>
   simp only[X8,aa8,Ch,id,jp];rw[e,u5];exact congrArg _ a
structure Laid(t:M6)(order:Array Nat)(mask n:Nat)(led plain:Bool):Prop where
 ma:t.mask=mask
 le:t.led=led
 pl:t.plain=plain
 dm:t.dummies= #[]
 sz:t.place.size=n
 pm:order.toList.Perm (j9 n)
theorem aU{finger moves:Nat}{led plain:Bool}(R:Yt mask){hs:Array Int}(hz:hs.size<=mask):∃t order,aao mask finger moves led plain hs=Z (t,order)/\Laid t order mask hs.size led plain:=by
 obtain⟨a,f,g,b⟩:=QY R hs.toList (adz (mask+1) ν) 0 GE GE (by rw[pY];lia);have e:aag mask hs=Z a:=by
  unfold aag;show(hs.foldl (nI mask)<|some (adz (mask+1) ν,0)).map (·.1)=_;rw[<-Array.foldl_toList,f];rfl
 rw[aeD,pY]at b;have c:∀j,a.getD j ν=a.toList.getD j none:=λj=>by rw[O7,b7,u6]
 have d:=aT a.toList (mask+1) (by rw[pY,g]);unfold aao;rw[e];refine⟨_,_,W,W,W,W,W,?_,?_⟩
 .simp only[d7,bi,c];have:=congrArg sw d;rw[bi]at this;rw[this,b.length_eq,abV,wS]
 .simp only[c];rw[X7];have:((j9<|mask+1).filterMap λj=>(a.toList.getD j ν).map λx=>(j,x)).map (·.2)=a.toList.filterMap id:=d;rw[this];exact b.trans<|List.reverse_perm _
theorem Xv{a:Type}:∀(l:List a),(j9 l.length).filterMap (l[·]?)=l
 |[]=>rfl|x::l=>by
  rw[j3,N2,Ch];simp only[List.getElem?_cons_zero,acr];exact congrArg _<|Xv l
theorem SX{a:Type}{es:Array a}{order:Array Nat}(h:order.toList.Perm (j9 es.size)):(order.filterMap (es[·]?)).toList.Perm es.toList:=by
 rw[Array.toList_filterMap];refine(h.filterMap _).trans ?_;have:(j9 es.size).filterMap (es[·]?)=es.toList:=by
  obtain⟨l⟩:=es;simp only[d7,List.getElem?_toArray];exact Xv l
 rw[this]
theorem Xw{n:Nat}(h:n<=30):B3 n-1=7∨B3 n-1=15∨B3 n-1=31:=by
 have:∀n<31,B3 n-1=7∨B3 n-1=15∨B3 n-1=31:=by decide+kernel
 exact this n<|d8 h ac
def cE(m:Nat):Prop:=m=7∨m=15∨m=31
theorem cE.uf(h:cE a):Yt a:=by
 rcases h with rfl|rfl|rfl
 .exact nH
 .exact ir
 .exact iu
theorem cE.ge(h:cE a):7<=a:=by rcases h with rfl|rfl|rfl<;>decide
theorem Jf.Wz(x:Jf prog w h a ss o es ep t b):t.place.size=es.size:=by
 have:=x.fi;simp only[aap,fy,beq_iff_eq]at this;exact this.1
theorem Jf.stored(Y:Jf prog w h a ss o es ep t q){o':Obj}(i:o'.ExactSet)(j:h'.get? b=Z o')(k:o'.data=.set c d t')(p:c.toList.Perm es.toList)(f:t'.fits c.size=true)(l:t'.led= !Lu w)(pl:ss≠[]->t'.plain=false):∃e,Jf prog w h' b ss o' c d t' e:=by
 obtain⟨g,m,n⟩:=Cy (p.symm.map (·.2)) Y.st;exact⟨g,j,i,k,Y.el.perm p,m,n.trans Y.pm,f,l,pl⟩
variable{es:Array (Int×ce)}
theorem KA{h:Heap}{a:Addr}{o:Obj}{ep:Nat}{t:M6}(b:Array (Int×ce))(t':M6)(d:h.get? a=Z o)(c:o.data=.set es ep t):(h.update a (U2 b t')).get? a=Z {o with data:=.set b (ep+1) t'}:=by
 have:=A0 (U2 b t') d (by rw[acV b t' c];rfl);rw[acV b t' c]at this;exact this
variable{E:ce->fx->Prop}{prog:wv}{A:G1}
section
variable {w:y8} 
theorem Xx{finger moves:Nat}{led plain:Bool}{Q:Array (Int×ce)×M6->fx->Prop}(m:cE mask)(hz:es.size<=mask)(h:∀t order,Laid t order mask es.size led plain->(order.filterMap (es[·]?)).toList.Perm es.toList->(order.filterMap (es[·]?)).size=es.size->Q (order.filterMap (es[·]?),t) s):
  i9 (m7 prog w) A (match aao mask finger moves led plain (es.map (·.1))with
   |some (t,order)=>if((order.filterMap (es[·]?)).size !=es.size)=true then(do (unsupported "internal:set-table-lost-an-element":Sem PUnit);pure (order.filterMap (es[·]?),t))else pure (order.filterMap (es[·]?),t)|_=>unsupported "internal:set-table-without-room") Q E s:=by
 obtain⟨t,order,e,L⟩:=aU (finger:=finger) (moves:=moves) (led:=led) (plain:=plain) m.uf (hs:=es.map (·.1)) (by rw[ad6];exact hz);rw[ad6]at L;rw[e];have p:=SX (es:=es) L.pm;have sz:(order.filterMap (es[·]?)).size=es.size:=by rw[<-pY,p.length_eq,pY]
 dsimp only;rw[if_neg<|by rw[sz];simp];exact b9<|h t order L p sz
theorem Xy{a:Addr}{wanted:Nat}{Q:Unit->fx->Prop}(Y:Jf prog w s.heap a ss o es ep t q)(hw:wanted<=30)(hz:ss.length<=7)(h:∀h' o' f g t' b,C8 a s.heap h'->Jf prog w h' a ss o' f g t' b->cE t'.mask->t'.dummies= #[]->Q () {s with heap:=h'}):i9 (m7 prog w) A (setRelay a wanted) Q E s:=by
 have c:=Y.size;have d:cE (B3 wanted-1):=Xw hw;unfold setRelay;refine be<|x6 Y.at_ Y.da Y.fi ?_;dsimp only;have j:¬B3 wanted>sizeLine:=by
  have l:(1000:Nat)<=sizeLine:=AX ac;have:B3 wanted<=32:=by rcases d with e|e|e<;>lia
  lia
 rw[if_neg j];refine be ?_;unfold adm;refine Xx d (by have:=d.ge;exact am (bm c)<|am hz this) λt' order L p sz=>?_;dsimp only;have i:t'.fits (order.filterMap (es[·]?)).size=true:=by
  simp only[aap,ab8,L.sz,L.dm,L.ma,sz,fy,beq_self_eq_true,true_and,decide_eq_true_eq];have:=d.ge;simp;exact am (bm c)<|am hz this
 refine L5 Y.at_ Y.da ?_ (L6<|by rw[sz,c];show _<4096;exact d8 hz ac);obtain⟨b,k⟩:=Y.stored (o':={o with data:=.set (order.filterMap (es[·]?)) (ep+1) t'}) (show aaP _ from Y.ex) (KA _ _ Y.at_ Y.da) W p i (L.le.trans Y.le) (λn=>L.pl.trans<|Y.pl n);exact h _ _ _ _ _ b (J8 s.heap a _) k (by rw[L.ma];exact d) L.dm
theorem Tr{a:Addr}{more:Nat}{Q:Unit->fx->Prop}(Y:Jf prog w s.heap a ss o es ep t p)(hz:ss.length+more<=15)(g:ss.length<=7)(h:∀h' o' b c t' f,C8 a s.heap h'->Jf prog w h' a ss o' b c t' f->(t.mask=7->cE t'.mask)->(t.dummies= #[]->t'.dummies= #[])->Q () {s with heap:=h'}):i9 (m7 prog w) A (setRoomFor a more) Q E s:=by
 have i:=Y.size;have j:=Y.Wz;unfold setRoomFor;refine be<|x6 Y.at_ Y.da Y.fi ?_;dsimp only;unfold SetTable.roomFor;split
 .rename_i wanted e
  split at e
  .cases e;exact Xy Y z_ g λh' o' b c t' f k l m d=>h h' o' b c t' f k l (λ_=>m) λ_=>d
  .cases e
 .exact b9<|h s.heap o es ep t p ⟨W,λ_ _=>rfl⟩ Y (λe=>.inl e) id
theorem Xz{sets:List Addr}{Q:Bool->fx->Prop}(hs:∀a∈sets,∃ss,SS prog w s.heap a ss)(h:Q true s):i9 (m7 prog w) A (setsQuiet sets) Q E s:=by
 unfold setsQuiet;refine be ?_;refine G5 _ (λrest r c=>s=c/\r.1=ν/\∀a∈rest,∃ss,SS prog w s.heap a ss) _ ?_ ?_ _ _ ⟨W,W,hs⟩
 .rintro a rest r c ⟨rfl,g,l⟩;obtain⟨ss,o,v,B,t,C,Y⟩:=l a d9;refine be<|X2 Y.at_ Y.da Y.fi ?_;refine be ?_;rw[<-R9];refine G5 _ (λrest r c=>s=c/\r.1=ν/\∀x∈rest,∃y u,x.2=.str y u) _ ?_ ?_ _ _ ⟨W,W,λx m=>?_⟩
  .rintro⟨D,x⟩ i j n ⟨rfl,b,d⟩;obtain⟨y,u,e⟩:=d _ d9;dsimp only at e;subst e;exact b9 ⟨W,W,λz k=>d z<|cr _ k⟩
  .rintro j n ⟨rfl,b,_⟩;obtain⟨p,q⟩:=j;dsimp only at b;subst b;exact b9 ⟨W,W,λz k=>l z<|cr _ k⟩
  .obtain⟨y,u,e,_⟩:=JI Y.st (A1 (f:=(·.2)) m);exact⟨y,u,e⟩
 .rintro r c ⟨rfl,g,_⟩;obtain⟨F,j⟩:=r;dsimp only at g;subst g;exact b9 h
end
variable{O:Addr}
section
variable {w:y8} 
theorem SY{Q:Array (Int×ce)->fx->Prop}(Y:Jf prog w s.heap O e o es ep t f)(c:Lu w=true∨es.size<=1)(h:∀a,a.toList.Perm es.toList->Q a s):i9 (m7 prog w) A (setWalk O) Q E s:=by
 unfold setWalk;refine be<|x6 Y.at_ Y.da Y.fi ?_;dsimp only;refine be<|DL ?_;cases d:Lu w with
 |true=>
  rw[if_pos W];exact be (U3<|b9<|h _<|Mk _ es)
 |false=>
  rw[if_neg GE];have z1:es.size<=1:=c.resolve_left (by rw[d];simp);have b:¬(!t.plain&&decide (es.size>1))=true:=by simp;lia
  show i9 _ _ (if(!t.plain&&decide (es.size>1))=true then _ else _) _ _ _;rw[if_neg b];show i9 _ _ ((if(!t.led&&decide (es.size>1))=true then(unsupported "set:maker-not-led":Sem Unit)else pure ())>>=λ_=>pure es) _ _ _;rw[if_neg<|by simp;lia];exact be<|b9<|b9<|h es<|.refl _
theorem Vd{S:Addr}{Q:Array (Int×ce)->fx->Prop}(Y:Jf prog w s.heap O k o es ep t y)(X:SS prog w s.heap S ss)(d:ss.length<=8)(h:∀h' b,C8 S s.heap h'->SS prog w h' S ss->b.toList.Perm es.toList->Q b {s with heap:=h'}):i9 (m7 prog w) A (ad9 O [S] (Z S)) Q E s:=by
 have here:∀b,b.toList.Perm es.toList->Q b s:=λb p=>h s.heap b ⟨W,λ_ _=>rfl⟩ X p;unfold ad9;refine be<|x6 Y.at_ Y.da Y.fi ?_;dsimp only;refine be<|DL ?_;refine B5 (λc=>?_) λc=>?_
 .refine SY Y ?_ here;simp only[J4,fy,decide_eq_true_eq]at c;rcases c with(c|c)|c
  .exact .inl c
  .by_cases e:k=[]
   .have:=Y.size;rw[e]at this;exact .inr<|by rw[this];decide
   .rw[Y.pl e]at c;cases c.2
  .exact .inr c
 .refine be (Xz (λa f=>?_) ?_)
  .rcases j4.mp f with rfl|f
   .exact⟨k,o,es,ep,t,y,Y⟩
   .rw[io.mp f];exact⟨ss,X⟩
  rw[if_neg GE];refine be<|L8 ?_;obtain⟨l,m,q,t2,x,ζ⟩:=X;refine be<|x6 ζ.at_ ζ.da ζ.fi ?_;dsimp only;refine B5 (λr=>?_) λr=>?_
  .have g:Lu w=false:=by
    cases g:Lu w with
    |false=>rfl|true=>rw[g]at c;simp at c
   have u:t.led=true:=by rw[Y.le,g];rfl
   have i:=ζ.size;refine be (L5 ζ.at_ ζ.da ?_<|L6<|by show _<4096;exact d8 (am (bm i) d) ac);obtain⟨j,v⟩:=ζ.stored (o':={l with data:=.set m (q+1) {t2 with led:=t2.led&&t.led,plain:=t2.plain&&t.plain}}) (show aaP _ from ζ.ex) (KA _ _ ζ.at_ ζ.da) W (.refl _) ζ.fi (by show(t2.led&&t.led)=_;rw[u,Q5];exact ζ.le) (λn=>by show(t2.plain&&t.plain)=false;rw[ζ.pl n];rfl);exact b9<|h _ _ (J8 s.heap S _) ⟨_,_,_,_,j,v⟩<|.refl _
  .exact b9<|here es<|.refl _
structure kQ(zs ss zo:List Str):Prop where
 nd:zs.Nodup
 mem:∀x,x∈zs↔x∈ss∨x∈zo
 len:zs.length<=ss.length+zo.length
theorem QZ{S:Addr}{each:Sem Unit}{Q:Unit->fx->Prop}(ne:S≠O)(Y:Jf prog w s.heap O g o es ep t q4)(X:Jf prog w s.heap S ss o2 e2 p2 t2 u2)(d:g.length<=5)(i:ss.length<=5)(M:g.Nodup)(r:ss.Nodup)(fr:ss=[]->t2.mask=7/\t2.dummies= #[])(N:∀(h':Heap) (Q':Unit->fx->Prop),h'.get? O=Z o->Q' () {s with heap:=h'}->i9 (m7 prog w) A each Q' E {s with heap:=h'})(h:∀h' zs,C8 S s.heap h'->SS prog w h' S zs->kQ zs ss g->(g=[]->h'=s.heap)->Q () {s with heap:=h'}):i9 (m7 prog w) A (setMerge S O each) Q E s:=by
 have c:=Y.size;have ug:=X.size;unfold setMerge;rw[if_neg<|GT ne];refine be<|x6 Y.at_ Y.da Y.fi ?_;dsimp only;refine B5 (λH=>?_) λH=>?_
 .have I:g=[]:=by
   rw[U8,c]at H;exact F1.mp H
  subst I;exact b9<|h s.heap ss ⟨W,λ_ _=>rfl⟩ ⟨_,_,_,_,_,X⟩ ⟨r,λx=>by simp,GE⟩ λ_=>rfl
 have P:g≠[]:=λe=>H (by rw[U8,c,e];rfl);refine be (Tr X (am (tz i<|am (bm c) d) ac) (am i ac) λC o3 e3 p3 t3 u3 J a m3 d3=>?_);have R:Jf prog w C O g o es ep t q4:=⟨(J.2 O<|zn ne).trans Y.at_,Y.ex,Y.da,Y.el,Y.st,Y.pm,Y.fi,Y.le,Y.pl⟩;have q:=a.size;refine be<|x6 (s:={s with heap:=C}) a.at_ a.da a.fi ?_;dsimp only;unfold SetTable.road;by_cases I:ss=[]
 .subst I;obtain⟨mk,dm⟩:=fr W;have T:=m3 mk;have U:=d3 dm;have V:t3.fill=0:=by unfold ab8;rw[a.Wz,q,U];rfl
  have un:kQ g [] g:=⟨M,λx=>by simp,GE⟩;rw[if_neg<|by rw[V];decide];by_cases D:(t3.mask==t.mask&&t.dummies.isEmpty)=true
  .rw[if_pos D];dsimp only;refine L5 a.at_ a.da ?_ (L6<|by show _<4096;exact d8 (am (bm c) d) ac);obtain⟨v,ζ⟩:=R.stored (o':={o3 with data:=.set es (p3+1) {t with finger:=t3.finger,led:=t3.led&&t.led,moves:=t3.moves,plain:=t3.plain&&t.plain}}) (show aaP _ from a.ex) (KA _ _ a.at_ a.da) W (.refl _) Y.fi (by show(t3.led&&t.led)=_;rw[a.le,Y.le,acb]) (λn=>by show(t3.plain&&t.plain)=false;rw[Y.pl n,F8]);exact h _ g (J.trans<|J8 C S _) ⟨_,_,_,_,v,ζ⟩ un λe=>absurd e P
  .rw[if_neg D];dsimp only;refine be (Xx T (by have:=T.ge;exact am (am (am (bm c) d) ac) this) λt' order L p sz=>?_);dsimp only;refine L5 a.at_ a.da ?_ (L6<|by show _<4096;exact d8 (bm sz)<|d8 (am (bm c) d) ac);have ξ:t'.fits (order.filterMap (es[·]?)).size=true:=by
    simp only[aap,ab8,L.sz,L.dm,L.ma,sz,fy,beq_self_eq_true,true_and,decide_eq_true_eq];have:=T.ge;simp;exact am (am (am (bm c) d) ac) this
   obtain⟨v,ζ⟩:=R.stored (o':={o3 with data:=.set (order.filterMap (es[·]?)) (p3+1) t'}) (show aaP _ from a.ex) (KA _ _ a.at_ a.da) W p ξ (by rw[L.le,a.le,Y.le,acb]) (λn=>by rw[L.pl,Y.pl n,F8]);exact h _ g (J.trans<|J8 C S _) ⟨_,_,_,_,v,ζ⟩ un λe=>absurd e P
 .have V:(t3.fill !=0)=true:=by
   have:ss.length≠0:=λe=>I<|F1.mp e;have h2:t3.fill=t3.place.size+t3.dummies.size:=rfl;rw[a.Wz,q]at h2;simp only[bne_iff_ne];lia
  rw[if_pos V];dsimp only;refine be (Vd (s:={s with heap:=C}) R ⟨_,_,_,_,_,a⟩ (am i ac) λh2 yi nJ X4 pm=>?_);rw[<-R9];refine be ?_;obtain⟨z,st,pr⟩:=Cy (pm.symm.map (·.2)) Y.st;refine G5 _ (λrest _ s'=>∃h' B z,s'={s with heap:=h'}/\C8 S s.heap h'/\SS prog w h' S (B.foldl RC ss)/\K0 (rest.map (·.2)) z/\(B++z).Perm g/\ElemsOf (wP prog w) rest) _ ?_ ?_ _ _ ⟨h2,[],z,W,J.trans nJ,X4,st,pr.trans Y.pm,Y.el.perm pm⟩
  .rintro⟨hh,x⟩ rest b s' ⟨h',B,z,rfl,j,X5,m,f,F⟩;obtain⟨⟨k,hk,ek⟩,_⟩:=F.head;dsimp only at hk ek;obtain⟨tk,rfl⟩:=Q0 (show K3 k x=true from hk);rw[jp]at m;cases m with
   |cons y u r5=>
    rename_i uh
    have lp:=f.length_eq;rw[q5,j3]at lp;have ld:=(GN (l:=B) r).2.1;dsimp only;rw[ek];refine be (ut<|SA (s:={s with heap:=h'}) X5 (d8 ld<|d8 (tz i<|am (am (ci _ _)<|bm lp) d) ac) λb2 K G X6=>?_);have hO:K.get? O=Z o:=((G.2 O<|zn ne).trans<|j.2 O<|zn ne).trans Y.at_;refine be<|N K _ hO ?_;refine be<|x6 (s:={s with heap:=K}) hO Y.da Y.fi ?_;dsimp only;rw[if_neg GE];refine b9 ⟨K,B++[k],uh,W,j.trans G,by rw[acM];exact X6,r5,by rw[zx];exact f,λe N=>F e<|cr _ N⟩
  .rintro b s' ⟨h',B,z,rfl,j,X5,m,f,_⟩;have er:z=[]:=F1.mp (DX m).symm;subst er;rw[ads]at f;obtain⟨q1,q2,q3⟩:=GN (l:=B) r;exact b9<|h h' _ j X5 ⟨q1,λx=>by rw[q3,f.mem_iff],by have:=f.length_eq;exact am q2<|im (bm this) _⟩ λe=>absurd e P
end
theorem OE:aaB aep "set.__or__"=Z Builtin.«frozenset.__or__»:=Y7 (id':="frozenset.__or__") (by kernel_rfl) W (by decide+kernel)<|by kernel_rfl
theorem Jf.isSet(Y:Jf prog w s.heap O a o es ep t b):s.TypeIs (.ref O) "set":=⟨_,Y.at_,Y.ex.1⟩
variable{Q:ce->fx->Prop}
section
variable {w:y8} 
theorem OF{a:Addr}{Q:Bool->fx->Prop}(c:s.TypeIs (.ref a) "set")(h:Q true s):i9 (m7 prog w) A (D6 (.ref a)) Q E s:=by
 unfold D6;show i9 _ _ (ace (.ref a) (.type "set")>>=λb=>match toBool b with|true=>pure b|false=>ace (.ref a)<|.type "frozenset") _ _ _;exact be<|FM c acy<|b9 h
theorem X_{a:Addr}(b:s.TypeIs (.ref a) "set")(h:Q (.type "set") s):i9 (m7 prog w) A (aaw a) Q E s:=by
 unfold aaw;exact be<|FM b acy<|b9 h
theorem aV(h:Q (.ref s.heap.objs.size) {s with heap:=s.heap.push (DY w)}):i9 (m7 prog w) A (newSet (.type "set")) Q E s:=by
 unfold newSet;refine be<|DL ?_;dsimp only;simp only[newObj];exact be<|adh<|b9 h
theorem X'{a b:Addr}(hA:SS prog w s.heap a ss)(O:SS prog w s.heap b r)(k:ss.length<=5)(v:r.length<=5)(y:ss.Nodup)(B:r.Nodup)(C:a≠b)(h:∀h' zs,(∀c u,s.heap.get? c=Z u->h'.get? c=Z u)->SS prog w h' s.heap.objs.size zs->kQ zs ss r->Q (.ref s.heap.objs.size) {s with heap:=h'}):i9 (m7 prog w) A (N3 .BitOr (.ref a) (.ref b)) Q E s:=by
 obtain⟨P,eA,R,S,U,i⟩:=id hA;obtain⟨K,V,X,tB,Y,f⟩:=id O;refine wpAny_binaryOp_same (T:="set") (op:=.BitOr) i.isSet f.isSet PySem.F.fills_set_or abU ?_;refine y3 abU i.isSet OE ?_<|PySem.F.args_set_or_2 _ _;unfold Builtin.«frozenset.__or__»;refine be (m:=aeu "__or__" _)<|b9 ?_;dsimp only;simp only[FB,if_false];refine be ?_;show i9 _ _ (D6 (.ref a)>>=λc=>match toBool c with|true=>D6 (.ref b)|false=>pure c) _ _ _;refine be<|OF i.isSet ?_;dsimp only[toBool];refine OF f.isSet ?_;simp only[aca,FB,if_false];refine be (m:=IN<|.ref a)<|b9 ?_;refine be ?_;refine be (m:=aav a) ?_;unfold aav;refine be<|X_ i.isSet<|be<|aV ?_;refine be (m:=IN _)<|b9 ?_;have L:(s.heap.push<|DY w).get? s.heap.objs.size=Z (DY w):=j8 _ W;have k1:∀c u,s.heap.get? c=Z u->(s.heap.push<|DY w).get? c=Z u:=λc u e=>ca _ e;have D:s.heap.objs.size≠a:=λe=>absurd (ii i.at_) (by rw[<-e];exact E2 _);have l:s.heap.objs.size≠b:=λe=>absurd (ii f.at_) (by rw[<-e];exact E2 _);have G:Jf prog w (s.heap.push<|DY w) a ss P eA R S U:=⟨k1 _ _ i.at_,i.ex,i.da,i.el,i.st,i.pm,i.fi,i.le,i.pl⟩;have ζ:Jf prog w (s.heap.push<|DY w) s.heap.objs.size [] (DY w) #[] 0 (.fresh 0 0<|!Lu w) []:=⟨L,⟨W,W,W⟩,W,(λe ξ=>by simp at ξ),.nil,.refl _,W,W,λz=>absurd W z⟩;refine be (QZ (s:={s with heap:=s.heap.push<|DY w}) D G ζ k ac y .nil (λ_=>⟨W,W⟩) (λh' Q' _ q=>b9 q) λt zs M X1 un em=>?_);refine b9 ?_;dsimp only;rw[if_pos<|by simp;exact λe=>C e.symm];refine be (m:=IN<|.ref s.heap.objs.size)<|b9 ?_;refine be<|ut ?_;have n:t.get? b=Z K:=(M.2 b l.symm).trans<|k1 _ _ f.at_;have o:Jf prog w t b r K V X tB Y:=⟨n,f.ex,f.da,f.el,f.st,f.pm,f.fi,f.le,f.pl⟩;unfold E8;refine be<|OF (s:={s with heap:=t}) o.isSet ?_;rw[if_pos W];refine be (m:=IN<|.ref b)<|b9 ?_;unfold aew;refine be<|aaf n f.da f.fi ?_;obtain⟨o2,e2,p2,t2,u2,H⟩:=id X1;have p:=un.len;rw[B6]at p;have fr:zs=[]->t2.mask=7/\t2.dummies= #[]:=λe=>by
  have e0:ss=[]:=List.eq_nil_iff_forall_not_mem.mpr λx hx=>by
   have:=(un.mem x).mpr<|.inr hx;rw[e]at this;cases this
  have g:=H.at_;rw[em e0]at g;have eo:=ze<|L.symm.trans g;have d:=H.da;rw[<-eo]at d;cases d;exact⟨W,W⟩
 refine QZ (s:={s with heap:=t}) l o H v (am p<|am (im k _) ac) B un.nd fr (λh' Q' hg q=>?_) λh2 I J X3 j _=>?_
 .unfold adC;refine be<|aaf (s:={s with heap:=h'}) hg f.da f.fi ?_;rw[if_neg GE];exact b9 q
 .refine b9 (b9 ⟨_,W,GE,h h2 I (λc u e=>?_) X3 ⟨j.nd,λx=>?_,by have:=j.len;lia⟩⟩)
  .have N:c≠s.heap.objs.size:=λz=>absurd (ii e) (by rw[z];exact E2 _);exact(J.2 c N).trans<|(M.2 c N).trans<|k1 c u e
  .rw[j.mem,un.mem];simp
end
section
inductive eQ(P:wv)(w:y8)(x y:V)(H:Hp)(Q:VK):Prop|mk(a b:Addr)(ss c:List Str)(d:x=.ref a)(e:y=.ref b)(f:H a=Z (Gr P w a ss))(g:H b=Z (Gr P w b c))(h:ss.length<=5)(i:c.length<=5)(j:ss.Nodup)(k:c.Nodup)(l:a≠b)(m:∀zs,kQ zs ss c->∀p,H p=ν->Q (.ref p) (upd H p (Gr P w p zs)))
theorem YA:DA X (N3 .BitOr) (eQ X.prog X.w):=by
 intro pins s C H x y v u Q I j l h;obtain⟨a,b,d,e,rfl,rfl,m,n,f,g,p,r,c,q⟩:=h;cases j;cases l;have hA:SS X.prog X.w s.heap a d:=(show Av X.prog X.w H s.heap a (Gr X.prog X.w a d)from I.BN a _ m).1;have z:SS X.prog X.w s.heap b e:=(show Av X.prog X.w H s.heap b (Gr X.prog X.w b e)from I.BN b _ n).1;refine X' hA z f g p r c λD A B i un=>?_;refine⟨.ref s.heap.objs.size,_,I.laid (t':=s.toks) B (bv _) ?_,W,q A un _ I.fresh⟩;obtain⟨o,E,F,t,G,Y⟩:=id i;exact⟨i,⟨o,Y.at_⟩,λf g x k=>x.keep k⟩
end
theorem sub_dict_set:abS (.type "dict") (.type "set")=pure false:=by rw[TW];kernel_rfl
theorem Ly:abS (.type "dict") (.type "frozenset")=pure false:=by rw[TW];kernel_rfl
variable{d:Addr}
section
variable {w:y8} 
theorem Lz{kvs:List (Key×ce)}(ζ:A.handled=ν)(ξ:s.heap.DictOf (An prog w) d kvs)(hs:(d==D9)=false)(O:kvs.map (·.1)=ks.map e9)(I:ks.length<=8)(h:∀(h':Heap) (tk:Nat),SS prog w h' s.heap.objs.size (Ju ks)->(∀b o,b<s.heap.objs.size->s.heap.get? b=Z o->h'.get? b=Z o)->Q (.ref s.heap.objs.size) {s with heap:=h',toks:=tk}):
  i9 (m7 prog w) A (call (.type "set") [.ref d]) Q E s:=by
 refine JK ζ (λA' Q' yj q=>?_) h;obtain⟨o,a,ep,P,hx,c,J,D,ym⟩:=id ξ;have K:d<s.heap.objs.size:=ii P;have ne:s.heap.objs.size≠d:=C6 K;have k:(s.heap.push<|DY w).get? d=Z o:=ca _ P;have R:Shared.TypeIs {s with heap:=s.heap.push<|DY w} (.ref d) "dict":=⟨o,k,hx.1⟩;have hlen:ks.length=a.size:=by
  have f:=congrArg sw O;have j:=D.length;rw[bi,bi]at f;rw[pY]at j;exact f.symm.trans j.symm
 unfold E8;refine be<|Mh R sub_dict_set Ly ?_;rw[if_neg GE];refine be<|L4 R ?_;rw[if_pos ac];refine be<|L8 ?_;refine be (m:=IN<|.ref d)<|b9 ?_;rw[if_neg<|by rw[hs];exact pc];refine be<|W3 (s:={s with heap:=s.heap.push<|DY w}) k c ?_;refine be<|I9 (s:={s with heap:=s.heap.push<|DY w}) k c ?_;have YN:Jf prog w (s.heap.push<|DY w) s.heap.objs.size [] (DY w) #[] 0 (.fresh 0 0<|!Lu w) []:=⟨j8 _ W,⟨W,W,W⟩,W,(λe he=>by simp at he),.nil,.refl _,W,W,λz=>absurd W z⟩;refine be (Tr (s:={s with heap:=s.heap.push<|DY w}) YN (by rw[B6];exact am (im (am (bm hlen.symm) I) _) ac) ac λf o1 e1 p1 t1 u1 S X1 _ _=>?_);have F:f.get? d=Z o:=(S.2 d ne.symm).trans k;refine be<|I9 (s:={s with heap:=f}) F c ?_;rw[P3];simp only[abc,aaQ,aco,aeQ];refine be ?_;refine G5 _ (λrest _ L=>∃h' i,L={s with heap:=h'}/\rest=abo i (a.size-i)/\i<=a.size/\SS prog w h' s.heap.objs.size (Ju<|ks.take i)/\h'.get? d=Z o/\C8 s.heap.objs.size (s.heap.push<|DY w) h') _ ?_ ?_ _ _ ⟨f,0,W,GE,j5 _,⟨_,_,_,_,_,X1⟩,F,S⟩
 .rintro x rest b L ⟨h',i,rfl,p,T,l,r,t⟩;have g:i<a.size:=by
   rcases C7 i a.size with h|h
   .exact h
   .rw[abh h]at p;simp at p
  obtain⟨rfl,u⟩:x=i/\rest=abo (i+1) (a.size-(i+1)):=by
   have e:a.size-i=(a.size-(i+1))+1:=by lia
   rw[e,U6]at p;injection p with f j;exact⟨f,j⟩
  refine be<|I9 (s:={s with heap:=h'}) r c ?_;rw[t8 g];obtain⟨y,U⟩:=BH ks x<|bn g<|bm hlen.symm;obtain⟨v,M⟩:∃v,kvs[x]?=Z (e9 y,v):=by
   have f:(kvs.map (·.1))[x]?=Z (e9 y):=by rw[O,b6,U];rfl
   rw[b6]at f;obtain⟨⟨a1,a2⟩,j,V⟩:=At.mp f;dsimp only at V;subst V;exact⟨a2,j⟩
  obtain⟨n,X⟩:=D.get? (e:=a[x]) (by simp[g]) M;obtain⟨k',B,C⟩:=J a[x]<|acT g;obtain rfl:k'=e9 y:=(An prog w).inj _ _ _ B n;obtain⟨tk,ek⟩:=Q0 (show K3 y a[x].key=true from n);have ld:=Gq<|ks.take x;rw[B8]at ld;have e2:Ju (ks.take<|x+1)=RC (Ju<|ks.take x) y:=by rw[u8,U];exact Td _ _
  show i9 _ _ (S2 [a[x].key] (S5 s.heap.objs.size a[x].key a[x].hash)>>=_) _ _ _;rw[C,ek];refine be (ut<|SA (s:={s with heap:=h'}) l z_ λb2 j G Y=>?_);rw[<-e2]at Y;have H:j.get? d=Z o:=(G.2 d ne.symm).trans r;refine be<|W3 (s:={s with heap:=j}) H c ?_;rw[if_neg GE];exact b9 ⟨j,x+1,W,u,g,Y,H,t.trans G⟩
 .rintro b L ⟨h',i,rfl,p,T,l,r,t⟩;have N:i=a.size:=by
   rcases C7 i a.size with h|h
   .have e:a.size-i=(a.size-(i+1))+1:=by lia
    rw[e,U6]at p;exact nomatch p
   .exact adq T h
  rw[N,<-hlen,xL]at l;exact b9<|q h' s.toks l λb o I e=>(t.2 b<|j7 I).trans<|ca _ e
end
section
inductive YB(P:wv)(w:y8)(xs:List V)(H:Hp)(Q:VK):Prop|mk(d:Addr)(kvs:List (Key×V))(ks:List Str)(a:xs=[.ref d])(b:Rd H d (.dK kvs))(c:kvs.map (·.1)=ks.map e9)(e:ks.length<=8)(f:∀p,H p=ν->Q (.ref p) (upd H p (Gr P w p (Ju ks))))
theorem Mw(i:X.calm=true):Ba X (.type "set") (YB X.prog X.w):=by
 intro pins s C H D j Q I r h;obtain⟨d,l,E,rfl,hd,m,n,q⟩:=h;obtain⟨u,rfl,p⟩:=vals1 r;cases p;obtain⟨z,a,F,c,v⟩:=EM I.BN hd;refine Lz (I.ok.hd i) v a (by rw[<-c.keys];exact m) n λy A g B=>?_;have f:∀b o,s.heap.get? b=Z o->y.get? b=Z o:=λb o e=>B b o (ii e) e;refine⟨.ref s.heap.objs.size,_,I.laid (t':=A) f (bv _) ?_,W,q _ I.fresh⟩;obtain⟨o,G,J,t,j,Y⟩:=id g;exact⟨g,⟨o,Y.at_⟩,λK L x k=>x.keep k⟩
end
variable{t:Pt}
namespace Pt
mutual
def wf:Pt->Prop
 |lst xs|tup xs=>aW xs
 |Ah ks xs=>ks.length=xs.length/\ks.Nodup/\aW xs|_=>True
def aW:List Pt->Prop
 |[]=>True|x::r=>wf x/\aW r
end
theorem Dt:∀{b:List Pt},aW b->∀x∈b,x.wf
 |y::r,h,x,a=>by
  rcases j4.mp a with rfl|a
  .exact h.1
  .exact Dt h.2 x a
theorem OG:∀{b:List Pt},(∀x∈b,x.wf)->aW b
 |[],_=>trivial|x::r,h=>⟨h x d9,OG λy a=>h y (cr _ a)⟩
theorem Qa:∀(n:Nat){t:Pt},t.size<=n->t.doc∨t.nice->t.wf
 |0,t,h,_=>by have:=size_pos t;lia|n+1,t,h,d=>by
  cases t with
  |lst b=>
   simp only[size]at h;simp only[doc,nice]at d;exact OG λx a=>Qa n (by have:=Ae a;lia) (d.imp (λd=>Af d x a) λd=>DJ d.2 x a)
  |tup b=>
   simp only[size]at h;simp only[doc,nice,false_or]at d;exact OG λx a=>Qa n (by have:=Ae a;lia) (.inr<|DJ d.2 x a)
  |Ah c b=>
   simp only[size]at h;simp only[doc,nice]at d;exact⟨d.elim (λd=>d.1) λd=>d.1,d.elim (λd=>d.2.1) λd=>d.2.1,OG λx a=>Qa n (by have:=Ae a;lia)<|d.imp (λd=>Af d.2.2.2.2 x a) λd=>DJ d.2.2.2 x a⟩
  |_=>trivial
theorem eq_symm:∀(n:Nat){a b:Pt},a.size<=n->a.wf->b.wf->CM a b=true->CM b a=true
 |0,a,_,hz,_,_,_=>by have:=size_pos a;lia|n+1,a,b,hz,c,d,h=>by
  have ls:∀{m p:List Pt},AM m<=n->aW m->aW p->Cs m p=true->Cs p m=true:=λ{m p} hz c d h=>by
   obtain⟨l,g⟩:=Ak.Cf.mp h;refine Ak.Cf.mpr ⟨l.symm,λj y x o f=>?_⟩;have r:=zf f;have:=Ae r;exact eq_symm n (am this hz) (Dt c x r) (Dt d y<|zf o)<|g j x y f o
  cases a with
  |lst m=>
   cases b with
   |lst p=>
    simp only[size]at hz;exact ls z_ c d h
   |_=>cases h
  |tup m=>
   cases b with
   |tup p=>
    simp only[size]at hz;exact ls z_ c d h
   |_=>cases h
  |Ah u m=>
   cases b with
   |Ah v p=>
    simp only[size]at hz;simp only[wf]at c d;obtain⟨l,g⟩:=(Ak.CB c.1 c.2.1).mp h;have s:=DH c.2.1 d.2.1 l λk t=>by
     obtain⟨x,f⟩:=CD c.1 t;obtain⟨y,o,_⟩:=g k x f;exact(Ax o).1
    refine(Ak.CB d.1 d.2.1).mpr ⟨l.symm,λk y o=>?_⟩;obtain⟨x,f⟩:=CD c.1<|s.mem_iff.mpr (Ax o).1;obtain⟨w,q,e⟩:=g k x f;cases o.symm.trans q;have:=Ae (Ax f).2;exact⟨x,f,eq_symm n z_ (Dt c.2.2 x (Ax f).2) (Dt d.2.2 y (Ax o).2) e⟩
   |_=>cases h
  |int i=>cases b with
   |int j=>cases eq_of_beq (show(i==j)=true from h);exact h|_=>cases h
  |str i=>cases b with
   |str j=>cases eq_of_beq (show(i==j)=true from h);exact h|_=>cases h
  |bl i=>cases b with
   |bl j=>cases eq_of_beq (show(i==j)=true from h);exact h|_=>cases h
  |AZ=>cases b with
   |AZ=>exact h|_=>cases h
theorem eq_trans:∀(n:Nat){a b c:Pt},a.size<=n->a.wf->b.wf->CM a b=true->CM b c=true->CM a c=true
 |0,a,_,_,hz,_,_,_,_=>by have:=size_pos a;lia|n+1,a,b,c,hz,f,m,h,d=>by
  have ls:∀{o p s:List Pt},AM o<=n->aW o->aW p->Cs o p=true->Cs p s=true->Cs o s=true:=λ{o p s} hz f m h d=>by
   obtain⟨l,g⟩:=Ak.Cf.mp h;obtain⟨u,v⟩:=Ak.Cf.mp d;refine Ak.Cf.mpr ⟨l.trans u,λj x z q r=>?_⟩;obtain⟨y,t⟩:=BH p j (by have:=Cd q;exact bn this<|bm l);have w:=zf q;have:=Ae w;exact eq_trans n (am this hz) (Dt f x w) (Dt m y<|zf t) (g j x y q t)<|v j y z t r
  cases a with
  |lst o=>
   cases b with
   |lst p=>
    cases c with
    |lst s=>
     simp only[size]at hz;exact ls z_ f m h d
    |_=>cases d
   |_=>cases h
  |tup o=>
   cases b with
   |tup p=>
    cases c with
    |tup s=>
     simp only[size]at hz;exact ls z_ f m h d
    |_=>cases d
   |_=>cases h
  |Ah B o=>
   cases b with
   |Ah C p=>
    cases c with
    |Ah os s=>
     simp only[size]at hz;simp only[wf]at f m;obtain⟨l,g⟩:=(Ak.CB f.1 f.2.1).mp h;obtain⟨u,v⟩:=(Ak.CB m.1 m.2.1).mp d;refine(Ak.CB f.1 f.2.1).mpr ⟨l.trans u,λk x q=>?_⟩;obtain⟨y,t,e⟩:=g k x q;obtain⟨z,r,A⟩:=v k y t;have:=Ae (Ax q).2;exact⟨z,r,eq_trans n z_ (Dt f.2.2 x (Ax q).2) (Dt m.2.2 y (Ax t).2) e A⟩
    |_=>cases d
   |_=>cases h
  |int i=>cases b with
   |int j=>cases eq_of_beq (show(i==j)=true from h);exact d|_=>cases h
  |str i=>cases b with
   |str j=>cases eq_of_beq (show(i==j)=true from h);exact d|_=>cases h
  |bl i=>cases b with
   |bl j=>cases eq_of_beq (show(i==j)=true from h);exact d|_=>cases h
  |AZ=>cases b with
   |AZ=>exact d|_=>cases h
theorem Ft(d:t.doc):t.wf:=Qa _ (bv _)<|.inl d
end Pt
variable{b:Ak}
namespace Ak
theorem YC{xs ys:List Pt}(a:(Pt.Ah ks xs).doc)(b:(Pt.Ah ns ys).doc)(h:Pt.CM (.Ah ks xs) (.Ah ns ys)=true):ks.Perm ns:=by
 simp only[Pt.doc]at a b;obtain⟨l,g⟩:=(CB a.1 a.2.1).mp h;refine DH a.2.1 b.2.1 l λk c=>?_;obtain⟨x,d⟩:=CD a.1 c;obtain⟨y,e,_⟩:=g k x d;exact(Ax e).1
theorem KC:∀(n:Nat){a:Ak}{I t:Pt},a.size<=n->a.Az->I.doc->t.doc->Pt.CM I t=true->lets a I=true->lets a t=true
 |0,a,_,_,hz,_,_,_,_,_=>by have:=size_pos a;lia|n+1,a,I,t,hz,ok,f,p,e,h=>by
  cases a with
  |any=>rfl|AY c=>
   simp only[Az]at ok;exact Pt.eq_trans _ (bv _) (Pt.Ft ok) (Pt.Ft f) h e
  |row A m=>
   cases I with
   |lst u=>
    cases t with
    |lst B=>
     simp only[size]at hz;simp only[Az]at ok;simp only[Pt.doc]at f p;obtain⟨l,g⟩:=Cf.mp e;obtain⟨q,r⟩:=BK.mp h;refine BK.mpr ⟨by rw[<-l];exact q,λj x z i b=>?_⟩;obtain⟨y,o⟩:=BH u j (by have:=Cd b;exact bn this<|bm l.symm);have v:=zf i;have:=Ae v;exact KC n z_ (BB ok x v) (Pt.Af f y<|zf o) (Pt.Af p z<|zf b) (g j y z o b) (r j x y i o)
    |_=>cases e
   |_=>simp[lets]at h
  |tab G A ls m=>
   cases I with
   |Ah H u=>
    cases t with
    |Ah os B=>
     have w:=YC f p e;simp only[size]at hz;simp only[Az]at ok;simp only[Pt.doc]at f p;obtain⟨l,g⟩:=(CB f.1 f.2.1).mp e;obtain⟨q,r,C,D⟩:=(BA ok.1 ok.2.1).mp h;refine(BA ok.1 ok.2.1).mpr ⟨λk s=>w.mem_iff.mp<|q k s,λk s z=>r k s<|w.mem_iff.mpr z,by rw[<-l];exact C,λk x i=>?_⟩;obtain⟨y,o,E⟩:=D k x i;obtain⟨z,b,F⟩:=g k y o;have:=Ae (Ax i).2;exact⟨z,b,KC n z_ (BB ok.2.2.2.2.2.2 x (Ax i).2) (Pt.Af f.2.2.2.2 y (Ax o).2) (Pt.Af p.2.2.2.2 z (Ax b).2) F E⟩
    |_=>cases e
   |_=>simp[lets]at h
theorem GQ{d:Pt}(a:d.doc)(c:t.doc)(f:b.Az):(Pt.CM d t&&lets b t)=(Pt.CM d t&&lets b d):=by
 cases e:Pt.CM d t with
 |false=>rfl|true=>
  rw[zk,zk,ul];exact⟨KC _ (bv _) f c a<|Pt.eq_symm _ (bv _) (Pt.Ft a) (Pt.Ft c) e,KC _ (bv _) f a c e⟩
end Ak
structure Fu(ss ks ns:List Str):Prop where
 so:KB ss=true
 nd:ss.Nodup
 mem:∀s,s∈ss↔s∈ks∨s∈ns
variable{rs:List (Option Ak)}{cs:List Ak}{ss:List Str}{ps:List (Ak×Ak)}
namespace Ak
def Cz(xs ys:List Ak):List (Ak×Ak):=(j9<|max xs.length ys.length).map λi=>(xs[i]?.getD any,ys[i]?.getD any)
def CY(ss ks:List Str)(xs:List Ak)(ns:List Str)(ys:List Ak):List (Ak×Ak):=ss.map λs=>((lk ks xs s).getD any,(lk ns ys s).getD any)
mutual
inductive CZ:Ak->Ak->Option Ak->Prop
 |any {b c:Ak} (h:Good b c):CZ any b (Z c)
 |Ve {a c:Ak} (n:a≠any) (h:Good a c):CZ a any (Z c)
 |AY {d:Pt} {b c:Ak} (n:b≠any) (l:lets b d=true) (h:Good (AY d) c):CZ (AY d) b (Z c)
 |LW {d:Pt} {b:Ak} (n:b≠any) (l:lets b d=false):CZ (AY d) b ν
 |LX {d:Pt} {a c:Ak} (i:a.RE=true) (l:lets a d=true) (h:Good (AY d) c):CZ a (AY d) (Z c)
 |Gw {d:Pt} {a:Ak} (i:a.RE=true) (l:lets a d=false):CZ a (AY d) ν
 |off {a b:Ak} (i:a.RE=true) (j:b.RE=true) (h:meet a b=false):CZ a b ν
 |aX {xs ys:List Ak} {m n:Bool} {rs:List (Option Ak)} (h:meet (row xs m) (row ys n)=true) (l:EV (Cz xs ys) rs) (x:ν∈rs):CZ (row xs m) (row ys n) ν
 |row {xs ys cs:List Ak} {m n:Bool} (h:meet (row xs m) (row ys n)=true) (l:EV (Cz xs ys) (cs.map Z)):CZ (row xs m) (row ys n) (Z (BW cs (m&&n)))
 |aY {ks ls ns os ss:List Str} {xs ys:List Ak} {m n:Bool} {rs:List (Option Ak)} (h:meet (tab ks xs ls m) (tab ns ys os n)=true) (u:Fu ss ks ns) (l:EV (CY ss ks xs ns ys) rs) (x:ν∈rs):CZ (tab ks xs ls m) (tab ns ys os n) ν
 |tab {ks ls ns os ss zs:List Str} {xs ys cs:List Ak} {m n:Bool} (h:meet (tab ks xs ls m) (tab ns ys os n)=true) (u:Fu ss ks ns) (z:Fu zs ls os) (l:EV (CY ss ks xs ns ys) (cs.map Z)):CZ (tab ks xs ls m) (tab ns ys os n) (Z (BX ss cs zs (m&&n)))
inductive EV:List (Ak×Ak)->List (Option Ak)->Prop
 |nil:EV [] []
 |cons {p:Ak×Ak} {r:Option Ak} {ps:List (Ak×Ak)} {rs:List (Option Ak)} (h:CZ p.1 p.2 r) (t:EV ps rs):EV (p::ps) (r::rs)
end
noncomputable def ol:Option Ak->Pt->Bool
 |none,_=>false|some c,t=>lets c t
theorem EV.len(h:EV ps rs):ps.length=rs.length:=by
 refine @EV.rec (λ_ _ _ _=>True) (λps rs _=>ps.length=rs.length) ?_ ?_ ?_ ?_ ?_ ?_ ?_ ?_ ?_ ?_ ?_ W (λ_ _ _ a=>by rw[j3,j3,a]) _ _ h<;>intros<;>trivial
theorem YD(h:meet (row xs m) (row ys n)=true)(g:cs.length=max xs.length ys.length)(zs:List Pt)(k:∀(j:Nat) c z,cs[j]?=Z c->zs[j]?=Z z->lets c z=(lets (xs[j]?.getD any) z&&lets (ys[j]?.getD any) z)):
  lets (row cs (m&&n)) (.lst zs)=(lets (row xs m) (.lst zs)&&lets (row ys n) (.lst zs)):=by
 simp only[OD,cells,fy,J4,decide_eq_true_eq]at h;rw[ul,fy,BK,BK,BK];have i:∀{l:List Ak}{j:Nat}{x:Ak},l[j]?=Z x->l[j]?.getD any=x:=λh=>by rw[h];rfl
 constructor
 .rintro⟨d,q⟩;have both:∀(j:Nat) z,j<max xs.length ys.length->zs[j]?=Z z->lets (xs[j]?.getD any) z=true/\lets (ys[j]?.getD any) z=true:=λj z r a=>by
   obtain⟨c,f⟩:=BH cs j<|bn r<|bm g.symm;have:=q j c z f a;rw[k j c z f a,fy]at this;exact this
  refine⟨⟨?_,λj x z o a=>?_⟩,?_,λj y z p a=>?_⟩
  .rcases d with d|⟨b,d⟩
   .rcases h.1 with b|b
    .by_cases e:xs.length=zs.length
     .exact .inl e.symm
     .exact .inr ⟨b,z_⟩
    .exact .inl z_
   .exact .inr ⟨(fy _ _▸b).1,d8 (am (A3 _ _)<|bm g.symm) d⟩
  .have:=(both j z (by have:=Cd o;exact bn this<|A3 _ _) a).1;rw[i o]at this;exact this
  .rcases d with d|⟨b,d⟩
   .rcases h.2 with b|b
    .by_cases e:ys.length=zs.length
     .exact .inl e.symm
     .exact .inr ⟨b,z_⟩
    .exact .inl z_
   .exact .inr ⟨(fy _ _▸b).2,d8 (am (y4 _ _)<|bm g.symm) d⟩
  .have:=(both j z (by have:=Cd p;exact bn this<|y4 _ _) a).2;rw[i p]at this;exact this
 .rintro⟨⟨s,t⟩,u,v⟩;refine⟨?_,λj c z f a=>?_⟩
  .by_cases e:zs.length=cs.length
   .exact .inl e
   .refine .inr ⟨?_,z_⟩;rw[fy];exact⟨(s.resolve_left z_).1,(u.resolve_left z_).1⟩
  .rw[k j c z f a,fy];constructor
   .cases e:xs[j]? with
    |none=>rfl|some x=>exact t j x z e a
   .cases e:ys[j]? with
    |none=>rfl|some y=>exact v j y z e a
theorem FJ{ls:List Str} :cnames ks ls m ns=true↔∀s∈ns,s∈ks∨(m=true/\s∉ls):=by
 simp only[cnames,QV,G8,re,aar,id,J4,fy,decide_eq_true_eq,T8,decide_eq_false_iff_not]
theorem Qb(a:ss.Nodup)(b:ks.Nodup)(h:∀s,s∈ss↔s∈ks):ss.length=ks.length:=((K7 a b).mpr h).length_eq
theorem YE{a b:Nat}(h:a<=b):b=a∨a<b:=by lia
theorem YF{ls zs:List Str}(f:(tab ks xs ls m).Az)(g:(tab ns ys os n).Az)(h:meet (tab ks xs ls m) (tab ns ys os n)=true)(u:Fu ss ks ns)(z:Fu zs ls os)(v:ss.length=cs.length){ps:List Str}{ts:List Pt}(w:(Pt.Ah ps ts).doc)(k:∀s c t,lk ss cs s=Z c->lk ps ts s=Z t->lets c t=(lets ((lk ks xs s).getD any) t&&lets ((lk ns ys s).getD any) t)):
  lets (tab ss cs zs (m&&n)) (.Ah ps ts)=(lets (tab ks xs ls m) (.Ah ps ts)&&lets (tab ns ys os n) (.Ah ps ts)):=by
 simp only[J',fy,FJ]at h;simp only[Az]at f g;simp only[Pt.doc]at w;rw[ul,fy,BA v u.nd,BA f.1 f.2.1,BA g.1 g.2.1];have sub:∀{l:List Str},l.Nodup->(∀s∈l,s∈ps)->l.length<=ps.length:=λnd h=>nd.length_le_of_subset h;have i:m=false->ss.length=ks.length:=λe=>Qb u.nd f.2.1 λs=>by
  rw[u.mem];exact⟨λq=>q.elim id λq=>(h.1 s q).elim id λq=>(by rw[e]at q;cases q.1),.inl⟩
 have j:n=false->ss.length=ns.length:=λe=>Qb u.nd g.2.1 λs=>by
  rw[u.mem];exact⟨λq=>q.elim (λq=>(h.2 s q).elim id λq=>(by rw[e]at q;cases q.1)) id,.inr⟩
 constructor
 .rintro⟨A,B,C,H⟩;have o:∀s,s∈ss->∃t,lk ps ts s=Z t/\lets ((lk ks xs s).getD any) t=true/\lets ((lk ns ys s).getD any) t=true:=λs a=>by
   obtain⟨c,p⟩:=CD v a;obtain⟨t,b,e⟩:=H s c p;rw[k s c t p b,fy]at e;exact⟨t,b,e⟩
  have D:∀s∈ks,s∈ps:=λs a=>A s<|(u.mem s).mpr<|.inl a;have E:∀s∈ns,s∈ps:=λs a=>A s<|(u.mem s).mpr<|.inr a;refine⟨⟨D,λs a=>B s<|(z.mem s).mpr<|.inl a,?_,λs x F=>?_⟩,E,λs a=>B s<|(z.mem s).mpr<|.inr a,?_,λs y G=>?_⟩
  .cases m with
   |true=>exact(YE (sub f.2.1 D)).imp id λq=>⟨W,q⟩|false=>exact .inl ((C.resolve_right λq=>by cases q.1).trans (i W))
  .obtain⟨t,b,e,_⟩:=o s<|(u.mem s).mpr<|.inl (Ax F).1;rw[F]at e;exact⟨t,b,e⟩
  .cases n with
   |true=>exact(YE (sub g.2.1 E)).imp id λq=>⟨W,q⟩|false=>exact .inl ((C.resolve_right λq=>by rw[F8]at q;cases q.1).trans (j W))
  .obtain⟨t,b,_,e⟩:=o s<|(u.mem s).mpr<|.inr (Ax G).1;rw[G]at e;exact⟨t,b,e⟩
 .rintro⟨⟨a1,a2,a3,a4⟩,I,J,K,L⟩;have r:∀s∈ss,s∈ps:=λs a=>((u.mem s).mp a).elim (a1 s)<|I s;refine⟨r,λs a=>((z.mem s).mp a).elim (a2 s)<|J s,?_,λs c p=>?_⟩
  .cases m with
   |false=>exact .inl ((a3.resolve_right λq=>by cases q.1).trans (i W).symm)|true=>
    cases n with
    |false=>exact .inl ((K.resolve_right λq=>by cases q.1).trans (j W).symm)|true=>exact(YE (sub u.nd r)).imp id λq=>⟨W,q⟩
  .obtain⟨t,b⟩:=CD w.1<|r s (Ax p).1;refine⟨t,b,?_⟩;rw[k s c t p b,fy];constructor
   .cases e:lk ks xs s with
    |none=>rfl|some x=>
     obtain⟨M,d,q⟩:=a4 s x e;cases b.symm.trans d;exact q
   .cases e:lk ns ys s with
    |none=>rfl|some y=>
     obtain⟨M,d,q⟩:=L s y e;cases b.symm.trans d;exact q
end Ak
namespace Ak
theorem cF{a:Type}{xs:List a}{k:Str}{x:a}(h:lk ks xs k=Z x):∃j:Nat,ks[j]?=Z k/\xs[j]?=Z x:=by
 induction ks generalizing xs with
 |nil=>simp[lk]at h|cons y ks b=>
  cases xs with
  |nil=>simp[lk]at h|cons z xs=>
   rw[BJ]at h;split at h
   .rename_i e
    cases h;exact⟨0,by rw[e];rfl,W⟩
   .obtain⟨j,c,d⟩:=b h;exact⟨j+1,GT c,GT d⟩
theorem Dw{a:Ak}(h:a.RE=true):(∃xs m,a=row xs m)∨∃ks xs ls m,a=tab ks xs ls m:=by
 cases a with
 |any=>cases h|AY d=>cases h|row xs m=>exact .inl ⟨xs,m,W⟩|tab ks xs ls m=>exact .inr ⟨ks,xs,ls,m,W⟩
theorem KD(h:lets (row xs m) t=true):∃zs,t=.lst zs:=by
 cases t with
 |lst zs=>exact⟨zs,W⟩|_=>simp[lets]at h
theorem Ts{ls:List Str}(h:lets (tab ks xs ls m) t=true):∃ps ts,t=.Ah ps ts:=by
 cases t with
 |Ah ps ts=>exact⟨ps,ts,W⟩|_=>simp[lets]at h
theorem half{ls ps:List Str}(nd:ks.Nodup)(c:ps.Nodup)(a1:∀k∈ks,k∈ps)(a2:∀k∈ls,k∉ps)(a3:ps.length=ks.length∨(m=true/\ks.length<ps.length))(a:∀k∈ns,k∈ps):cnames ks ls m ns=true:=
 FJ.mpr λs b=>by
  cases m with
  |true=>exact .inr ⟨W,λz=>a2 s z (a s b)⟩|false=>exact .inl ((DH nd c (a3.resolve_right λq=>by cases q.1).symm a1).mem_iff.mpr (a s b))
theorem aZ{a:Ak}(i:a.RE=true)(j:b.RE=true)(d:a.Az)(e:b.Az)(k:t.doc)(c:lets a t=true)(f:lets b t=true):meet a b=true:=by
 rcases Dw i with⟨p,m,rfl⟩|⟨u,p,ls,m,rfl⟩<;>rcases Dw j with⟨q,n,rfl⟩|⟨v,q,os,n,rfl⟩
 .obtain⟨l,rfl⟩:=KD c;have g:=(BK.mp c).1;have h:=(BK.mp f).1;simp only[OD,cells,fy,J4,decide_eq_true_eq];constructor
  .rcases g with g|g
   .exact .inr z_
   .exact .inl g.1
  .rcases h with h|h
   .exact .inr z_
   .exact .inl h.1
 .obtain⟨l,rfl⟩:=KD c;simp[lets]at f
 .obtain⟨l,rfl⟩:=KD f;simp[lets]at c
 .obtain⟨w,x,rfl⟩:=Ts c;simp only[Az]at d e;simp only[Pt.doc]at k;obtain⟨a1,a2,a3,_⟩:=(BA d.1 d.2.1).mp c;obtain⟨o,r,s,_⟩:=(BA e.1 e.2.1).mp f;simp only[J',fy];exact⟨half d.2.1 k.2.1 a1 a2 a3 o,half e.2.1 k.2.1 o r s a1⟩
theorem I_(h:DK xs)(i:Nat):(xs[i]?.getD any).Az:=by
 cases e:xs[i]? with
 |none=>trivial|some x=>exact BB h x (zf e)
theorem Mx(h:DK xs)(s:Str):((lk ks xs s).getD any).Az:=by
 cases e:lk ks xs s with
 |none=>trivial|some x=>exact BB h x (Ax e).2
theorem CS{j:Nat}{p:Ak×Ak}(h:(Cz xs ys)[j]?=Z p):p=(xs[j]?.getD any,ys[j]?.getD any)/\j<max xs.length ys.length:=by
 have a:=Cd h;unfold Cz at h a;rw[bi,wS]at a;rw[b6,J7 a]at h;exact⟨(ze h).symm,a⟩
theorem Vf{a:Ak}{r:Option Ak}(h:CZ a b r):a.Az->b.Az->∀t,t.doc->ol r t=(lets a t&&lets b t):=by
 have U:∀{x y:Bool},(x=true->y=true->False)->false=(x&&y):=λ{x y} h=>by
  cases x with
  |false=>rfl|true=>cases y with
   |false=>rfl|true=>exact(h W W).elim
 refine @CZ.rec (λa b r _=>a.Az->b.Az->∀t,t.doc->ol r t=(lets a t&&lets b t)) (λP S _=>(∀p∈P,p.1.Az/\p.2.Az)->∀(j:Nat) p r t,P[j]?=Z p->S[j]?=Z r->t.doc->ol r t=(lets p.1 t&&lets p.2 t))
  ?_ ?_ ?_ ?_ ?_ ?_ ?_ ?_ ?_ ?_ ?_ ?_ ?_ _ _ _ h
 .intro b c h g o t f;simp only[ol,lets,zk];exact h.lets o f
 .intro a c _ h g o t f;simp only[ol,lets,Q5];exact h.lets g f
 .intro d b c _ l h g o t f;simp only[ol];rw[h.lets g f];simp only[lets];rw[GQ g f o,l,Q5]
 .intro d b _ l g o t f;simp only[ol,lets];rw[GQ g f o,l,F8]
 .intro d a c _ l h g o t f;simp only[ol];rw[h.lets o f,Q6];simp only[lets];rw[GQ o f g,l,Q5]
 .intro d a _ l g o t f;rw[Q6];simp only[ol,lets];rw[GQ o f g,l,F8]
 .intro a b i j h g o t f;exact U λD H=>by rw[aZ i j g o f D H]at h;cases h
 .intro A B m n S h l x I g o t f;simp only[Az]at g o;refine U λD H=>?_;obtain⟨M,rfl⟩:=KD D;obtain⟨j,J⟩:=p9 x;have C:=l.len;obtain⟨p,v⟩:=BH (Cz A B) j (by rw[C];exact Cd J);obtain⟨e,hm⟩:=CS v;obtain⟨h1,h2⟩:=BK.mp D;obtain⟨h3,h4⟩:=BK.mp H;obtain⟨z,E⟩:=BH M j z_;simp only[Pt.doc]at f;have:=I (λp v=>by
   obtain⟨i,V⟩:=p9 v;rw[(CS V).1];exact⟨I_ g i,I_ o i⟩) j p ν z v J (Pt.Af f z (zf E))
  rw[e]at this;have X:lets (A[j]?.getD any) z=true:=by
   cases q:A[j]? with
   |none=>simp[lets]|some x=>exact h2 j x z q E
  have Y:lets (B[j]?.getD any) z=true:=by
   cases q:B[j]? with
   |none=>simp[lets]|some x=>exact h4 j x z q E
  rw[X,Y]at this;cases this
 .intro A B cs m n h l I g o t f;simp only[Az]at g o;have C:=l.len;unfold Cz at C;rw[bi,wS,bi]at C;simp only[ol];rw[IG];cases t with
  |lst M=>
   simp only[Pt.doc]at f;refine YD h C.symm M λj c z T E=>?_;obtain⟨p,v⟩:=BH (Cz A B) j (by rw[l.len,bi];exact Cd T);have:=I (λp v=>by
    obtain⟨i,V⟩:=p9 v;rw[(CS V).1];exact⟨I_ g i,I_ o i⟩) j p (Z c) z v (by rw[b6,T];rfl) (Pt.Af f z (zf E))
   rw[(CS v).1]at this;exact this
  |_=>simp[lets]
 .intro N ls O os Q A B m n S h u l x I g o t f;refine U λD H=>?_;obtain⟨P,ts,rfl⟩:=Ts D;simp only[Az]at g o;simp only[Pt.doc]at f;obtain⟨j,J⟩:=p9 x;have C:=l.len;obtain⟨p,v⟩:=BH (CY Q N A O B) j (by rw[C];exact Cd J);have K:=v;unfold CY at K;rw[b6]at K;obtain⟨s,ζ,e⟩:=At.mp K;obtain⟨a1,a2,a3,a4⟩:=(BA g.1 g.2.1).mp D;obtain⟨b1,b2,b3,b4⟩:=(BA o.1 o.2.1).mp H;have su:=(u.mem s).mp (zf ζ);obtain⟨z,E⟩:=CD f.1 (su.elim (a1 s) (b1 s));have:=I (λp v=>by
   obtain⟨s,_,rfl⟩:=u7.mp v;exact⟨Mx g.2.2.2.2.2.2 s,Mx o.2.2.2.2.2.2 s⟩) j p ν z v J (Pt.Af f.2.2.2.2 z (Ax E).2)
  rw[<-e]at this;have X:lets ((lk N A s).getD any) z=true:=by
   cases q:lk N A s with
   |none=>simp[lets]|some x=>
    obtain⟨z',L,w⟩:=a4 s x q;cases E.symm.trans L;exact w
  have Y:lets ((lk O B s).getD any) z=true:=by
   cases q:lk O B s with
   |none=>simp[lets]|some x=>
    obtain⟨z',L,w⟩:=b4 s x q;cases E.symm.trans L;exact w
  rw[X,Y]at this;cases this
 .intro N ls O os Q M A B cs m n h u z l I g o t f;have C:=l.len;unfold CY at C;rw[bi,bi]at C;have F:=g;have G:=o;simp only[Az]at F G;have ap:∀k∈M,k∉Q:=λk hk ζ=>by
   simp only[J',fy,FJ]at h;rcases(z.mem k).mp hk with ξ|ho<;>rcases(u.mem k).mp ζ with D|H
   .exact F.2.2.2.2.2.1 k ξ D
   .exact(h.1 k H).elim (F.2.2.2.2.2.1 k ξ) λq=>q.2 ξ
   .exact(h.2 k D).elim (G.2.2.2.2.2.1 k ho) λq=>q.2 ho
   .exact G.2.2.2.2.2.1 k ho H
  simp only[ol];rw[IH M _ C u.nd ap f];cases t with
  |Ah P ts=>
   have R:=f;simp only[Pt.doc]at R;refine YF g o h u z C f λs c t T ht=>?_;obtain⟨j,J,ui⟩:∃j:Nat,Q[j]?=Z s/\cs[j]?=Z c:=cF T;have v:(CY Q N A O B)[j]?=Z ((lk N A s).getD any,(lk O B s).getD any):=by unfold CY;rw[b6,J];rfl
   exact I (λp v=>by
    obtain⟨s,_,rfl⟩:=u7.mp v;exact⟨Mx F.2.2.2.2.2.2 s,Mx G.2.2.2.2.2.2 s⟩) j _ (Z c) t v (by rw[b6,ui];rfl) (Pt.Af R.2.2.2.2 t (Ax ht).2)
  |_=>simp[lets]
 .intro _ j p r t v;simp at v
 .intro p r P S h t uj uk ok j q r' t' hq hr f;cases j with
  |zero=>
   cases hq;cases hr;have:=ok p d9;exact uj this.1 this.2 t' f
  |succ j=>exact uk (λp v=>ok p (cr _ v)) j q r' t' (GT hq) (GT hr) f
end Ak
namespace Ak
mutual
noncomputable def mt:Ak->Ak->Bool
 |any,_=>true|AY d,b=>lets b d|row xs m,b=>match b with|any=>true|AY d=>lets (row xs m) d|row ys n=>meet (row xs m) (row ys n)&&Vg xs ys|tab _ _ _ _=>false
 |tab ks xs ls m,b=>match b with|any=>true|AY d=>lets (tab ks xs ls m) d|row _ _=>false|tab ns ys os n=>meet (tab ks xs ls m) (tab ns ys os n)&&cH ks xs ns ys
noncomputable def Vg:List Ak->List Ak->Bool
 |x::xs,l=>match l with|y::ys=>mt x y&&Vg xs ys|[]=>true
 |[],_=>true
noncomputable def cH:List Str->List Ak->List Str->List Ak->Bool
 |k::ks,x::xs,ns,ys=>(match lk ns ys k with|some y=>mt x y|none=>true)&&cH ks xs ns ys
 |_,_,_,_=>true
end
theorem OH(a:Ak):mt a any=true:=by cases a<;>simp[mt,lets]
theorem OI:∀{xs ys:List Ak},Vg xs ys=true↔∀(j:Nat) x y,xs[j]?=Z x->ys[j]?=Z y->mt x y=true
 |[],ys=>by simp[Vg]|x::xs,[]=>by simp[Vg]|x::xs,y::ys=>by
  simp only[Vg,fy];rw[OI];constructor
  .rintro⟨e,f⟩ j c d a b;cases j with
   |zero=>cases a;cases b;exact e|succ j=>exact f j c d (GT a) (GT b)
  .exact λh=>⟨h 0 x y W W,λj c d a b=>h (j+1) c d (GT a)<|GT b⟩
theorem KG{ns:List Str}{ys:List Ak}:∀{ks:List Str}{xs:List Ak},ks.length=xs.length->ks.Nodup->(cH ks xs ns ys=true↔∀k x y,lk ks xs k=Z x->lk ns ys k=Z y->mt x y=true)
 |[],[],_,_=>by simp[cH,lk]|k::ks,x::xs,l,nd=>by
  have b:=u4.mp nd;simp only[cH,fy];rw[KG (GT l) b.2];constructor
  .rintro⟨i,j⟩ d f g a c;rw[BJ]at a;split at a
   .rename_i e
    subst e;cases a;rw[c]at i;exact i
   .exact j d f g a c
  .intro h;refine⟨?_,λd f g a c=>h d f g ?_ c⟩
   .cases e:lk ns ys k with
    |none=>rfl|some y=>exact h k x y (by rw[BJ,if_pos W]) e
   .rw[BJ,if_neg λz=>b.1<|by rw[<-z];exact(Ax a).1];exact a
theorem aa{a:Ak}{r:Option Ak}(h:CZ a b r):a.Az->b.Az->r.isSome=mt a b:=by
 have F:∀{f k:List Ak},DK f->DK k->∀p∈Cz f k,p.1.Az/\p.2.Az:=λg o p v=>by
  obtain⟨i,R⟩:=p9 v;rw[(CS R).1];exact⟨I_ g i,I_ o i⟩
 have G:∀{H A C:List Str}{f k:List Ak},DK f->DK k->∀p∈CY H A f C k,p.1.Az/\p.2.Az:=λg o p v=>by
  obtain⟨s,_,rfl⟩:=u7.mp v;exact⟨Mx g s,Mx o s⟩
 refine @CZ.rec (λa b r _=>a.Az->b.Az->r.isSome=mt a b) (λK J _=>(∀p∈K,p.1.Az/\p.2.Az)->∀(j:Nat) p r,K[j]?=Z p->J[j]?=Z r->r.isSome=mt p.1 p.2)
  ?_ ?_ ?_ ?_ ?_ ?_ ?_ ?_ ?_ ?_ ?_ ?_ ?_ _ _ _ h
 .intro b c h g o;simp[mt]
 .intro a c _ h g o;rw[OH];rfl
 .intro d b c _ l h g o;simp only[mt,l];rfl
 .intro d b _ l g o;simp only[mt,l];rfl
 .intro d a c i l h g o;rcases Dw i with⟨f,m,rfl⟩|⟨A,f,ls,m,rfl⟩<;>simp only[mt,l]<;>rfl
 .intro d a i l g o;rcases Dw i with⟨f,m,rfl⟩|⟨A,f,ls,m,rfl⟩<;>simp only[mt,l]<;>rfl
 .intro a b i j h g o;rcases Dw i with⟨f,m,rfl⟩|⟨A,f,ls,m,rfl⟩<;>rcases Dw j with⟨k,n,rfl⟩|⟨C,k,os,n,rfl⟩<;>simp only[mt,h]<;>rfl
 .intro f k m n J h l x D g o;simp only[Az]at g o;obtain⟨j,E⟩:=p9 x;obtain⟨p,v⟩:=BH (Cz f k) j (by rw[l.len];exact Cd E);have e:=D (F g o) j p ν v E;rw[(CS v).1]at e;have:Vg f k=false:=by
   rw[<-U7,OI];intro q;cases w:f[j]? with
   |none=>rw[w]at e;simp[mt]at e|some x=>
    cases B:k[j]? with
    |none=>rw[w,B]at e;simp only[A5,G6,OH]at e;cases e|some y=>
     rw[w,B]at e;have:=q j x y w B;simp only[A5,this]at e;cases e
  simp only[mt,h,this];rfl
 .intro f k L m n h l D g o;simp only[Az]at g o;have:Vg f k=true:=OI.mpr λj x y w B=>by
   have I:=l.len;obtain⟨p,v⟩:=BH (Cz f k) j (by unfold Cz;rw[bi,wS];have:=Cd w;exact bn this<|A3 _ _);obtain⟨c,M⟩:=BH L j (by have:=Cd v;rw[bi]at I;exact bn this<|bm I);have e:=D (F g o) j p (Z c) v (by rw[b6,M];rfl);rw[(CS v).1,w,B]at e;exact e.symm
  simp only[mt,h,this];rfl
 .intro A ls C os H f k m n J h u l x D g o;simp only[Az]at g o;obtain⟨j,E⟩:=p9 x;obtain⟨p,v⟩:=BH (CY H A f C k) j (by rw[l.len];exact Cd E);have e:=D (G g.2.2.2.2.2.2 o.2.2.2.2.2.2) j p ν v E;unfold CY at v;rw[b6]at v;obtain⟨s,T,rfl⟩:=At.mp v;have:cH A f C k=false:=by
   rw[<-U7,KG g.1 g.2.1];intro q;cases w:lk A f s with
   |none=>simp[w,mt]at e|some x=>
    cases B:lk C k s with
    |none=>simp only[w,B,A5,G6,OH]at e;cases e|some y=>
     have:=q s x y w B;simp only[w,B,A5,this]at e;cases e
  simp only[mt,h,this];rfl
 .intro A ls C os H U f k L m n h u z l D g o;simp only[Az]at g o;have:cH A f C k=true:=(KG g.1 g.2.1).mpr λs x y w B=>by
   obtain⟨j,E⟩:=p9<|(u.mem s).mpr<|.inl (Ax w).1;have I:=l.len;have v:(CY H A f C k)[j]?=Z ((lk A f s).getD any,(lk C k s).getD any):=by unfold CY;rw[b6,E];rfl
   obtain⟨c,M⟩:=BH L j (by have:=Cd v;rw[bi]at I;exact bn this<|bm I);have e:=D (G g.2.2.2.2.2.2 o.2.2.2.2.2.2) j _ (Z c) v (by rw[b6,M];rfl);rw[w,B]at e;exact e.symm
  simp only[mt,h,this];rfl
 .intro _ j p r v;simp at v
 .intro p r K J h t N O ok j q S P Q;cases j with
  |zero=>
   cases P;cases Q;have:=ok p d9;exact N this.1 this.2
  |succ j=>exact O (λp v=>ok p (cr _ v)) j q S (GT P) (GT Q)
end Ak
namespace Ak
mutual
def slim:Ak->Prop
 |any=>True|AY _=>True|row xs _=>Fv xs|tab ks xs ls _=>ks.length+ls.length<=5/\Fv xs
def Fv:List Ak->Prop
 |[]=>True|x::r=>slim x/\Fv r
end
theorem Cq:∀{xs:List Ak},Fv xs->∀x∈xs,slim x
 |y::r,h,x,a=>by
  rcases j4.mp a with rfl|a
  .exact h.1
  .exact Cq h.2 x a
theorem EH:∀{xs:List Ak},(∀x∈xs,slim x)->Fv xs
 |[],_=>trivial|x::r,h=>⟨h x d9,EH λy a=>h y (cr _ a)⟩
structure B'(a:Ak):Prop where
 ok:a.Az
 Mr:a.Mr
 F':a.slim
theorem B'.any:B' any:=⟨trivial,trivial,trivial⟩
theorem Qc(h:∀x∈xs,B' x)(i:Nat):B' (xs[i]?.getD any):=by
 cases e:xs[i]? with
 |none=>exact .any|some x=>exact h x (zf e)
theorem Tt(h:∀x∈xs,B' x)(s:Str):B' ((lk ks xs s).getD any):=by
 cases e:lk ks xs s with
 |none=>exact .any|some x=>exact h x (Ax e).2
theorem B'.row{xs:List Ak}{m:Bool}(h:B' (row xs m)):∀x∈xs,B' x:=λx a=>by
 obtain⟨b,c,d⟩:=h;simp only[Az]at b;simp only[Ak.Mr]at c;simp only[Ak.slim]at d;exact⟨BB b x a,Fs c x a,Cq d x a⟩
theorem B'.tab{ks ls:List Str}{xs:List Ak}{m:Bool}(h:B' (tab ks xs ls m)):∀x∈xs,B' x:=λx a=>by
 obtain⟨b,c,d⟩:=h;simp only[Az]at b;simp only[Ak.Mr]at c;simp only[Ak.slim]at d;exact⟨BB b.2.2.2.2.2.2 x a,Fs c.2 x a,Cq d.2 x a⟩
theorem B'.Cz(a:B' (.row xs m))(b:B' (.row ys n)):∀p∈Cz xs ys,B' p.1/\B' p.2:=λp c=>by
 obtain⟨i,d⟩:=p9 c;rw[(CS d).1];exact⟨Qc a.row i,Qc b.row i⟩
theorem B'.CY{ls:List Str}(a:B' (.tab ks xs ls m))(b:B' (.tab ns ys os n)):∀p∈CY ss ks xs ns ys,B' p.1/\B' p.2:=λp c=>by
 obtain⟨s,_,rfl⟩:=u7.mp c;exact⟨Tt a.tab s,Tt b.tab s⟩
theorem apart{ls zs:List Str}(a:(Ak.tab ks xs ls m).Az)(b:(Ak.tab ns ys os n).Az)(h:meet (.tab ks xs ls m) (.tab ns ys os n)=true)(u:Fu ss ks ns)(z:Fu zs ls os):∀k∈zs,k∉ss:=λk g i=>by
 simp only[meet,fy,FJ]at h;simp only[Az]at a b;rcases(z.mem k).mp g with c|d<;>rcases(u.mem k).mp i with e|f
 .exact a.2.2.2.2.2.1 k c e
 .exact(h.1 k f).elim (a.2.2.2.2.2.1 k c) λq=>q.2 c
 .exact(h.2 k e).elim (b.2.2.2.2.2.1 k d) λq=>q.2 d
 .exact b.2.2.2.2.2.1 k d f
theorem Fu.le{zs ls:List Str}(z:Fu zs ls os):zs.length<=ls.length+os.length:=by
 rw[<-q5];exact z.nd.length_le_of_subset λs a=>rc.mpr<|(z.mem s).mp a
theorem Tu:∀{cs:List Ak},(∀c∈cs,c.Ms)->LS cs
 |[],_=>trivial|c::cs,h=>⟨h c d9,Tu λx a=>h x (cr _ a)⟩
theorem YG{a:Ak}{r:Option Ak}(h:CZ a b r):B' a->B' b->∀c,r=Z c->c.Ms:=by
 have all:∀{k:List Ak},(∀(j:Nat) c,(k.map Z)[j]?=Z (Z c)->c.Ms)->LS k:=λh=>Tu λc f=>by
  obtain⟨j,C⟩:=p9 f;exact h j c<|by rw[b6,C];rfl
 refine @CZ.rec (λa b r _=>B' a->B' b->∀c,r=Z c->c.Ms) (λy o _=>(∀p∈y,B' p.1/\B' p.2)->∀(j:Nat) c,o[j]?=Z (Z c)->c.Ms)
  ?_ ?_ ?_ ?_ ?_ ?_ ?_ ?_ ?_ ?_ ?_ ?_ ?_ _ _ _ h
 .rintro b c h fa e _ ⟨⟩;exact h.Ms e.ok e.Mr
 .rintro a c _ h fa e _ ⟨⟩;exact h.Ms fa.ok fa.Mr
 .rintro d b c _ l h fa e _ ⟨⟩;exact h.Ms fa.ok fa.Mr
 .rintro d b _ l fa e _ ⟨⟩
 .rintro d a c i l h fa e _ ⟨⟩;exact h.Ms e.ok e.Mr
 .rintro d a i l fa e _ ⟨⟩
 .rintro a b i j h fa e _ ⟨⟩
 .rintro q s m n o h l x g fa e _ ⟨⟩
 .rintro q s k m n h l g fa e _ ⟨⟩;exact JL _<|all<|g<|fa.Cz e
 .rintro D ls E os F q s m n o h u l x g fa e _ ⟨⟩
 .rintro D ls E os F H q s k m n h u z l g fa e _ ⟨⟩;have A:=fa.F';have B:=e.F';simp only[Ak.slim]at A B;have lz:=Fu.le z;exact JM _ (λ_=>⟨am lz<|am (tz (am (d0 _ _) A.1)<|am (d0 _ _) B.1) ac,z.nd,z.so⟩) (apart fa.ok e.ok h u z)<|all<|g<|fa.CY e
 .intro _ j c f;simp at f
 .intro p r y o h t v w ok j c f;cases j with
  |zero=>
   have:=ok p d9;exact v this.1 this.2 c (ze f)
  |succ j=>exact w (λp G=>ok p (cr _ G)) j c (GT f)
end Ak
namespace Ak
theorem IP:∀{xs ys cs:List Ak},cs.length=max xs.length ys.length->(∀(j:Nat) c,cs[j]?=Z c->c.wt+1<=(xs[j]?.getD any).wt+(ys[j]?.getD any).wt)->Bv cs<=Bv xs+Bv ys
 |[],[],[],_,_=>j5 _|[],[],_::_,l,_=>by simp at l|_::_,_,[],l,_=>by simp at l;lia|[],_::_,[],l,_=>by simp at l|x::xs,[],c::cs,l,h=>by
  have a:=h 0 c W;have:=IP (xs:=xs) (ys:=[]) (cs:=cs) (by simp at l⊢;exact l) λj c b=>GT<|h (j+1) c (by simpa using b)
  simp[wt,Bv]at a this⊢;exact tz a this
 |[],y::ys,c::cs,l,h=>by
  have a:=h 0 c W;have:=IP (xs:=[]) (ys:=ys) (cs:=cs) (by simp at l⊢;exact l) λj c b=>GT<|h (j+1) c (by simpa using b)
  simp[wt,Bv]at a this⊢;lia
 |x::xs,y::ys,c::cs,l,h=>by
  have a:=h 0 c W;have:=IP (xs:=xs) (ys:=ys) (cs:=cs) (by simp at l⊢;exact l) λj c b=>GT<|h (j+1) c (by simpa using b)
  simp[Bv]at a this⊢;lia
theorem OJ:∀{ks:List Str}{xs:List Ak}{ss:List Str},ks.length=xs.length->ss.Nodup->Bv (ss.map λs=>(lk ks xs s).getD any)<=Bv xs+(ss.filter λs=>decide (s∉ks)).length
 |[],[],ss,_,_=>by
  have e:(ss.filter λs=>decide<|s∉([]:List Str))=ss:=by simp
  rw[e];clear e
  induction ss with
  |nil=>exact j5 _|cons s ss b=>
   simp only[jp,Bv,j3];have:((lk [] ([]:List Ak) s).getD any).wt=1:=by simp[lk,wt]
   have b:=b (by assumption|>λh=>(u4.mp h).2);simp only[Bv]at b;lia
 |k::ks,x::xs,ss,l,nd=>by
  have i:ks.length=xs.length:=GT l
  by_cases c:k∈ss
  .have j:=List.perm_cons_erase c;have d:=nd.erase k;have m:k∉ss.erase k:=λz=>by rw[nd.mem_erase_iff]at z;exact z.1 W
   have b:=OJ (ks:=ks) (xs:=xs) (ss:=ss.erase k) i d;rw[LA<|j.map _,(j.filter _).length_eq,jp,SL GE,Bv,Bv,BJ,if_pos W,A5];have f:((ss.erase k).map λs=>(lk (k::ks) (x::xs) s).getD any)=(ss.erase k).map λs=>(lk ks xs s).getD any:=A2 λs a=>by rw[BJ,if_neg λz=>m<|by rw[z]at a;exact a]
   have g:((ss.erase k).filter λs=>decide (s∉k::ks))=(ss.erase k).filter λs=>decide (s∉ks):=acN λs a=>by
    have:s≠k:=λz=>m (by rw[z]at a;exact a);simp[this]
   rw[f,g];lia
  .have b:=OJ (ks:=ks) (xs:=xs) (ss:=ss) i nd;have f:(ss.map λs=>(lk (k::ks) (x::xs) s).getD any)=ss.map λs=>(lk ks xs s).getD any:=A2 λs a=>by rw[BJ,if_neg λz=>c<|by rw[<-z];exact a]
   have g:(ss.filter λs=>decide (s∉k::ks))=ss.filter λs=>decide (s∉ks):=acN λs a=>by
    have:s≠k:=λz=>c (by rw[<-z];exact a);simp[this]
   rw[f,g];simp only[Bv];exact am b<|gl (d0 _ _) _
theorem Qd:∀{as bs cs:List Ak},as.length=cs.length->bs.length=cs.length->(∀(j:Nat) a b c,as[j]?=Z a->bs[j]?=Z b->cs[j]?=Z c->c.wt+1<=a.wt+b.wt)->Bv cs+cs.length<=Bv as+Bv bs
 |[],[],[],_,_,_=>bv _|[],_::_,_,l1,l2,_=>by rw[<-l1]at l2;cases l2|_::_,[],_,l1,l2,_=>by rw[<-l2]at l1;cases l1|a::as,b::bs,c::cs,l1,l2,h=>by
  have g:=h 0 a b c W W W;have:=Qd (as:=as) (bs:=bs) (cs:=cs) (GT l1) (GT l2) λj a b c d e f=>h (j+1) a b c (GT d) (GT e) (GT f);simp only[Bv,j3];lia
theorem cI{ks ns:List Str}:∀{ss:List Str},(∀s∈ss,s∈ks∨s∈ns)->(ss.filter λs=>decide (s∉ks)).length+(ss.filter λs=>decide (s∉ns)).length<=ss.length
 |[],_=>bv _|s::ss,h=>by
  have c:=cI (ss:=ss) λx b=>h x<|cr _ b;rcases h s d9 with a|a
  .rw[SL<|GT a];have:=C4 (λs=>decide<|s∉ns) [s];have e:(s::ss).filter (λs=>decide<|s∉ns)=[s].filter (λs=>decide<|s∉ns)++ss.filter (λs=>decide<|s∉ns):=by rw[<-R7];rfl
   rw[e,q5,j3];simp only[x9]at this;lia
  .rw[SL (p:=λs=>decide<|s∉ns)<|GT a];have:=C4 (λs=>decide<|s∉ks) [s];have e:(s::ss).filter (λs=>decide<|s∉ks)=[s].filter (λs=>decide<|s∉ks)++ss.filter (λs=>decide<|s∉ks):=by rw[<-R7];rfl
   rw[e,q5,j3];simp only[x9]at this;lia
theorem Tv(la:ks.length=xs.length)(i:ns.length=ys.length)(u:Fu ss ks ns)(f:ss.length=cs.length)(h:∀(j:Nat) s c,ss[j]?=Z s->cs[j]?=Z c->c.wt+1<=((lk ks xs s).getD any).wt+((lk ns ys s).getD any).wt):Bv cs<=Bv xs+Bv ys:=by
 have l:=Qd (as:=ss.map λs=>(lk ks xs s).getD any) (bs:=ss.map λs=>(lk ns ys s).getD any) (cs:=cs) (by rw[bi];exact f) (by rw[bi];exact f) λj a b c g e k=>by
  rw[b6]at g e;obtain⟨s,d,rfl⟩:=At.mp g;rw[d]at e;cases e;exact h j s c d k
 have m:=OJ (ks:=ks) (xs:=xs) (ss:=ss) la u.nd;have n:=OJ (ks:=ns) (xs:=ys) (ss:=ss) i u.nd;have o:=cI (ks:=ks) (ns:=ns) (ss:=ss) λs d=>(u.mem s).mp d;lia
theorem OK:∀{a:Ak},1<=a.dp:=λ{a}=>by
 cases a<;>simp only[dp]<;>first|lia|exact Pt.DV _
theorem Sa{N:Nat}:∀{cs:List Ak},(∀c∈cs,c.dp<=N)->FO cs<=N
 |[],_=>j5 _|c::cs,h=>by
  have a:=h c d9;have:=Sa (cs:=cs) λx b=>h x<|cr _ b;simp only[FO];exact y9.mpr ⟨a,this⟩
theorem LY{a:Ak}{r:Option Ak}(h:CZ a b r):B' a->B' b->∀c,r=Z c->c.Az/\c.wt+1<=a.wt+b.wt/\c.dp<=max a.dp b.dp:=by
 refine @CZ.rec (λa b r _=>B' a->B' b->∀c,r=Z c->c.Az/\c.wt+1<=a.wt+b.wt/\c.dp<=max a.dp b.dp) (λO I _=>(∀p∈O,B' p.1/\B' p.2)->∀(j:Nat) p c,O[j]?=Z p->I[j]?=Z (Z c)->c.Az/\c.wt+1<=p.1.wt+p.2.wt/\c.dp<=max p.1.dp p.2.dp)
  ?_ ?_ ?_ ?_ ?_ ?_ ?_ ?_ ?_ ?_ ?_ ?_ ?_ _ _ _ h
 .rintro b c h fa o _ ⟨⟩;obtain⟨B,D,f⟩:=h.keeps o.ok;exact⟨B,by simp only[wt];lia,am (bm f)<|y4 _ _⟩
 .rintro a c _ h fa o _ ⟨⟩;obtain⟨B,D,f⟩:=h.keeps fa.ok;exact⟨B,by simp only[wt];exact gl (bm D) _,am (bm f)<|A3 _ _⟩
 .rintro d b c _ l h fa o _ ⟨⟩;obtain⟨B,D,f⟩:=h.keeps fa.ok;have:=Iv b;exact⟨B,tz (bm D) this,am (bm f)<|A3 _ _⟩
 .rintro d b _ l fa o _ ⟨⟩
 .rintro d a c i l h fa o _ ⟨⟩;obtain⟨B,D,f⟩:=h.keeps o.ok;have:=Iv a;exact⟨B,z_,am (bm f)<|y4 _ _⟩
 .rintro d a i l fa o _ ⟨⟩
 .rintro a b i j h fa o _ ⟨⟩
 .rintro xs ys m n I h l x G fa o _ ⟨⟩
 .rintro xs ys cs m n h l G fa o _ ⟨⟩;have A:=l.len;have X:(Cz xs ys).length=max xs.length ys.length:=by unfold Cz;rw[bi,wS]
  rw[bi]at A;have at_:∀(j:Nat) c,cs[j]?=Z c->c.Az/\c.wt+1<=(xs[j]?.getD any).wt+(ys[j]?.getD any).wt/\c.dp<=max (xs[j]?.getD any).dp (ys[j]?.getD any).dp/\j<max xs.length ys.length:=λj c g=>by
   obtain⟨p,F⟩:=BH (Cz xs ys) j (by rw[A];exact Cd g);obtain⟨B,D,f⟩:=G (fa.Cz o) j p c F (by rw[b6,g];rfl);obtain⟨e,w⟩:=CS F;rw[e]at D f;exact⟨B,D,f,w⟩
  refine⟨LJ _<|Jt λc g=>?_,?_,?_⟩
  .obtain⟨j,w⟩:=p9 g;exact(at_ j c w).1
  .rw[LF];have:=IP (xs:=xs) (ys:=ys) (cs:=cs) (A.symm.trans X) λj c g=>(at_ j c g).2.1;simp only[wt];lia
  .rw[LH];have:FO cs<=max (FO xs) (FO ys):=Sa λc g=>by
    obtain⟨j,w⟩:=p9 g;obtain⟨_,_,f,ξ⟩:=at_ j c w;cases C:xs[j]? with
    |none=>
     obtain⟨y,v⟩:=BH ys j (by have:=aaa.mp C;lia);have H:=CV<|zf v;have P:=OK (a:=y);rw[C,v]at f;simp only[G6,A5,dp]at f;lia
    |some x=>
     have H:=CV<|zf C;have P:=OK (a:=x);rw[C]at f;cases v:ys[j]? with
     |none=>
      rw[v]at f;simp only[G6,A5,dp]at f;lia
     |some y=>
      have Q:=CV<|zf v;rw[v]at f;simp only[A5]at f;exact am f<|y9.mpr ⟨am H<|A3 _ _,am Q<|y4 _ _⟩
   simp only[dp];lia
 .rintro J ls K os L xs ys m n I h u l x G fa o _ ⟨⟩
 .rintro J ls K os L zs xs ys cs m n h u z l G fa o _ ⟨⟩;have A:=l.len;unfold CY at A;rw[bi,bi]at A;have M:=fa.ok;have N:=o.ok;have R:=fa.F';have S:=o.F';simp only[Az]at M N;simp only[Ak.slim]at R S;have lz:=Fu.le z;have Y:=Fu.le u;have at_:∀(j:Nat) s c,L[j]?=Z s->cs[j]?=Z c->c.Az/\c.wt+1<=((lk J xs s).getD any).wt+((lk K ys s).getD any).wt/\c.dp<=max ((lk J xs s).getD any).dp ((lk K ys s).getD any).dp:=λj s c E g=>
   G (fa.CY o) j _ c (by unfold CY;rw[b6,E];rfl) (by rw[b6,g];rfl)
  refine⟨LK _ A u.nd (λk ζ=>((u.mem k).mp ζ).elim (M.2.2.1 k)<|N.2.2.1 k) (d8 Y<|d8 (tz (am (ci _ _) R.1)<|am (ci _ _) S.1) ac) (am lz<|am (tz (am (d0 _ _) R.1)<|am (d0 _ _) S.1) ac) (apart fa.ok o.ok h u z)<|Jt λc g=>?_,?_,?_⟩
  .obtain⟨j,w⟩:=p9 g;obtain⟨s,E⟩:=BH L j (by have:=Cd w;exact bn this<|bm A.symm);exact(at_ j s c E w).1
  .rw[LG];have:=Tv M.1 N.1 u A λj s c E g=>(at_ j s c E g).2.1;simp only[wt];lia
  .rw[LI];have:FO cs<=max (FO xs) (FO ys):=Sa λc g=>by
    obtain⟨j,w⟩:=p9 g;obtain⟨s,E⟩:=BH L j (by have:=Cd w;exact bn this<|bm A.symm);obtain⟨_,_,f⟩:=at_ j s c E w;cases C:lk J xs s with
    |none=>
     obtain⟨y,v⟩:=CD N.1 (((u.mem s).mp (zf E)).resolve_left λq=>by
      obtain⟨x,e⟩:=CD M.1 q;rw[C]at e;cases e)
     have H:=CV (Ax v).2;have P:=OK (a:=y);rw[C,v]at f;simp only[G6,A5,dp]at f;lia
    |some x=>
     have H:=CV (Ax C).2;have P:=OK (a:=x);rw[C]at f;cases v:lk K ys s with
     |none=>
      rw[v]at f;simp only[G6,A5,dp]at f;lia
     |some y=>
      have Q:=CV (Ax v).2;rw[v]at f;simp only[A5]at f;exact am f<|y9.mpr ⟨am H<|A3 _ _,am Q<|y4 _ _⟩
   simp only[dp];lia
 .intro _ j p c F;simp at F
 .intro p r O I h t T U ok j q c V g;cases j with
  |zero=>
   cases V;have:=ok p d9;exact T this.1 this.2 c (ze g)
  |succ j=>exact U (λp F=>ok p (cr _ F)) j q c (GT V) (GT g)
end Ak
namespace Ak
inductive Rel:Option Ak->Option Ak->Prop
 |AZ:Rel ν ν
 |eR {c a:Ak} (h:Pt.CM a.pt c.pt=true):Rel (Z c) (Z a)
theorem meet_comm(a b:Ak):meet a b=meet b a:=by
 cases a<;>cases b<;>simp only[meet,Q6]
theorem JA(xs ys:List Ak):Cz ys xs=(Cz xs ys).map λp=>(p.2,p.1):=by
 unfold Cz;rw[Nat.max_comm,u5];rfl
theorem JB(ss ks ns:List Str)(xs ys:List Ak):CY ss ns ys ks xs=(CY ss ks xs ns ys).map λp=>(p.2,p.1):=by
 unfold CY;rw[u5];rfl
theorem Fu.swap(u:Fu ss ks ns):Fu ss ns ks:=⟨u.so,u.nd,λs=>(u.mem s).trans Or.comm⟩
theorem Fu.one{a:List Str}(u:Fu ss ks ns)(v:Fu a ks ns):ss=a:=Bs u.so v.so<|(K7 u.nd v.nd).mpr λs=>(u.mem s).trans (v.mem s).symm
theorem pw_of{a:List Ak}(l:a.length=cs.length)(h:∀(j:Nat) r b,(cs.map Z)[j]?=Z r->(a.map Z)[j]?=Z b->Rel r b):Pw a cs:=⟨l,λj c g d e=>by
 have:=h j (Z g) (Z c) (by rw[b6,e];rfl) (by rw[b6,d];rfl);cases this with
 |eR h=>exact h⟩
theorem YH(x:ν∈rs)(l:(cs.map Z).length=rs.length)(h:∀(j:Nat) r a,rs[j]?=Z r->(cs.map Z)[j]?=Z a->Rel r a):False:=by
 obtain⟨j,b⟩:=p9 x;obtain⟨c,d⟩:=BH cs j (by have:=Cd b;rw[bi]at l;exact bn this<|bm l.symm);cases h j ν (Z c) b (by rw[b6,d];rfl)
theorem Tw(x:ν∈rs)(l:cs.length=rs.length)(h:∀(j:Nat) r a,(cs.map Z)[j]?=Z r->rs[j]?=Z a->Rel r a):False:=by
 obtain⟨j,b⟩:=p9 x;obtain⟨c,d⟩:=BH cs j (by have:=Cd b;exact bn this<|bm l.symm);cases h j (Z c) ν (by rw[b6,d];rfl) b
theorem Tx:∀(n:Nat){a:Ak},a.size<=n->a.Az->Pt.CM a.pt a.pt=true
 |0,a,hz,_=>by have:=size_pos a;lia|n+1,a,hz,ok=>by
  have c:∀{b:List Ak},AM b<=n->DK b->Pw b b:=λhz ok=>⟨W,λj h g e f=>by
   cases e.symm.trans f;have m:=zf e;have:=Ae m;exact Tx n (am this hz) (BB ok _ m)⟩
  cases a with
  |any=>exact(beq_self_eq_true ("any":Str)).symm▸rfl|AY d=>
   simp only[Az]at ok;exact Jx (Pt.IF d<|Pt.Xg d ok)
  |row b m=>
   simp only[Az]at ok;simp only[size]at hz;exact SI m (c z_ ok)
  |tab i b ls m=>
   simp only[Az]at ok;simp only[size]at hz;exact SN ls m ok.2.1 ok.1<|c z_ ok.2.2.2.2.2.2
theorem Fw{a c:Ak}(ok:a.Az)(h:Good a c)(h':Good a b):Rel (Z c) (Z b):=by
 cases h.one h';exact .eR<|Tx _ (bv _) (h.keeps ok).1
theorem My{a:Ak}{r:Option Ak}(h:CZ a b r):B' a->B' b->∀{f:Option Ak},CZ b a f->Rel r f:=by
 refine @CZ.rec (λa b r _=>B' a->B' b->∀{f:Option Ak},CZ b a f->Rel r f) (λH E _=>(∀p∈H,B' p.1/\B' p.2)->∀{w:List (Option Ak)},EV (H.map λp=>(p.2,p.1)) w->∀(j:Nat) r f,E[j]?=Z r->w[j]?=Z f->Rel r f)
  ?_ ?_ ?_ ?_ ?_ ?_ ?_ ?_ ?_ ?_ ?_ ?_ ?_ _ _ _ h
 .intro b c h fa k f o;cases o with
  |any g=>exact Fw k.ok h g|Ve n g=>exact Fw k.ok h g|AY n l g=>exact(n W).elim|LW n l=>exact(n W).elim|off i j m=>cases j
 .intro a c n h fa k f o;cases o with
  |any g=>exact Fw fa.ok h g|Ve y g=>exact(y W).elim|LX i l g=>cases i|Gw i l=>cases i|off i j m=>cases i
 .intro d b c n l h fa k f o;cases o with
  |any g=>exact(n W).elim|AY y e g=>
   cases h;cases g;exact .eR (Jx l)
  |LW y e=>
   have:=Pt.eq_symm _ (bv _) (Pt.Ft k.ok) (Pt.Ft fa.ok) l;simp only[lets]at e;rw[this]at e;cases e
  |LX i e g=>exact Fw fa.ok h g|Gw i e=>rw[l]at e;cases e|off i j m=>cases j
 .intro d b n l fa k f o;cases o with
  |any g=>exact(n W).elim|AY y e g=>
   have:=Pt.eq_symm _ (bv _) (Pt.Ft fa.ok) (Pt.Ft k.ok) e;simp only[lets]at l;rw[this]at l;cases l
  |LW y e=>exact .AZ|LX i e g=>rw[l]at e;cases e|Gw i e=>exact .AZ|off i j m=>cases j
 .intro d a c i l h fa k f o;cases o with
  |AY y e g=>exact Fw k.ok h g|LW y e=>rw[l]at e;cases e|Ve n g=>cases i|LX v e g=>cases i|Gw v e=>cases i|off v j m=>cases v
 .intro d a i l fa k f o;cases o with
  |AY y e g=>rw[l]at e;cases e|LW y e=>exact .AZ|Ve n g=>cases i|LX v e g=>cases i|Gw v e=>cases i|off v j m=>cases v
 .intro a b i j h fa k f o;have M:meet b a=false:=by rw[meet_comm];exact h
  cases o with
  |any g=>cases j|Ve n g=>cases i|AY n l g=>cases j|LW n l=>cases j|LX v l g=>cases i|Gw v l=>cases i|off v V m=>exact .AZ|aX m l x=>exact .AZ|row m l=>rw[M]at m;cases m|aY m u l x=>exact .AZ|tab m u z l=>rw[M]at m;cases m
 .intro F G m n E h l x A fa k f o;cases o with
  |off i j q=>rw[meet_comm,h]at q;cases q|aX q e D=>exact .AZ|row q e=>
   rw[JA]at e;refine(YH x ?_<|A (fa.Cz k) e).elim;rw[<-e.len,bi,l.len]
 .intro F G S m n h l A fa k f o;cases o with
  |off i j q=>rw[meet_comm,h]at q;cases q|aX q e D=>
   rw[JA]at e;refine(Tw D ?_<|A (fa.Cz k) e).elim;have s:=e.len;have B:=l.len;rw[bi]at s B;exact B.symm.trans s
  |row q e=>
   rw[JA]at e;rw[Q6];refine .eR<|SO _<|pw_of ?_<|A (fa.Cz k) e;have s:=e.len;have B:=l.len;rw[bi,bi]at s;rw[bi]at B;exact s.symm.trans B
 .intro N ls O os I F G m n E h u l x A fa k f o;cases o with
  |off i j q=>rw[meet_comm,h]at q;cases q|aY q C e D=>exact .AZ|tab q C P e=>
   cases Fu.one u (Fu.swap C);rw[JB]at e;refine(YH x ?_<|A (fa.CY k) e).elim;rw[<-e.len,bi,l.len]
 .intro N ls O os I X F G S m n h u z l A fa k f o;have J:=l.len;have T:(CY I N F O G).length=I.length:=by unfold CY;rw[bi]
  rw[bi]at J;cases o with
  |off i j q=>rw[meet_comm,h]at q;cases q|aY q C e D=>
   cases Fu.one u (Fu.swap C);rw[JB]at e;have s:=e.len;rw[bi]at s;exact(Tw D (J.symm.trans s)<|A (fa.CY k) e).elim
  |tab q C P e=>
   cases Fu.one u (Fu.swap C);cases Fu.one z (Fu.swap P);rw[JB]at e;have s:=e.len;rw[bi,bi]at s;rw[Q6];exact .eR<|SQ _ u.nd (T.symm.trans s) (λ_=>rfl)<|pw_of (s.symm.trans J)<|A (fa.CY k) e
 .intro _ w e j r f s;simp at s
 .intro p r H E h t K L ok w e j q f Q R;cases e with
  |cons B t2=>
   cases j with
   |zero=>
    cases Q;cases R;have:=ok p d9;exact K this.1 this.2 B
   |succ j=>exact L (λp U=>ok p (cr _ U)) t2 j q f (GT Q) (GT R)
end Ak
namespace Ak
structure Sd(a:Ak):Prop where
 ok:a.ok
 sl:a.slim
 wt:a.wt<=900
theorem Sd.any:Sd any:=⟨trivial,trivial,by simp[Ak.wt]⟩
theorem Sd.Az{a:Ak}(h:Sd a):a.Az:=ie _ h.ok
theorem Sd.L_{a:Ak}(h:Sd a):B' a:=⟨h.Az,Xn _ h.ok,h.sl⟩
theorem Sd.row{xs:List Ak}{m:Bool}(h:Sd (row xs m)):∀x∈xs,Sd x:=λx a=>by
 obtain⟨b,c,d⟩:=h;simp only[Ak.ok]at b;simp only[slim]at c;simp only[Ak.wt]at d;have:=FG a;exact⟨Ct b x a,Cq c x a,am (am this<|d0 _ _) d⟩
theorem Sd.tab{ks ls:List Str}{xs:List Ak}{m:Bool}(h:Sd (tab ks xs ls m)):∀x∈xs,Sd x:=λx a=>by
 obtain⟨b,c,d⟩:=h;simp only[Ak.ok]at b;simp only[slim]at c;simp only[Ak.wt]at d;have:=FG a;exact⟨Ct b.2.2.2.2.2.2 x a,Cq c.2 x a,am (am this<|d0 _ _) d⟩
theorem YI(h:∀x∈xs,Sd x)(i:Nat):Sd (xs[i]?.getD Ak.any):=by
 cases e:xs[i]? with
 |none=>exact .any|some x=>exact h x (zf e)
theorem cJ(h:∀x∈xs,Sd x)(s:Str):Sd ((lk ks xs s).getD Ak.any):=by
 cases e:lk ks xs s with
 |none=>exact .any|some x=>exact h x (Ax e).2
inductive OL:Ak->Ak->List Key->Prop
 |row {xs ys:List Ak} {m n:Bool}:OL (row xs m) (row ys n) ((j9 (max xs.length ys.length)).map λ(i:Nat)=>U9 (i:Int))|tab {ks ls ns os ss:List Str} {xs ys:List Ak} {m n:Bool} (u:Fu ss ks ns):OL (tab ks xs ls m) (tab ns ys os n) (ss.map e9)
inductive Pk:Ak×Ak->List (Ak×Ak)->Prop
 |off {a b:Ak} (h:meet a b=false):Pk (a,b) []
 |row {xs ys:List Ak} {m n:Bool} (h:meet (row xs m) (row ys n)=true):Pk (row xs m,row ys n) (Cz xs ys)
 |tab {ks ls ns os ss:List Str} {xs ys:List Ak} {m n:Bool} (h:meet (tab ks xs ls m) (tab ns ys os n)=true) (u:Fu ss ks ns):Pk (tab ks xs ls m,tab ns ys os n) (CY ss ks xs ns ys)
theorem Pk.of{a:Ak}{cs:List Key}(h:meet a b=true)(s:OL a b cs):Pk (a,b) (cs.map λk=>(a.eO k,b.eO k)):=by
 cases s with
 |row=>
  have:=Pk.row h;unfold Cz at this;rw[u5];refine cast (congrArg _<|A2 λi _=>?_) this;simp[eO,Xq]
 |tab u=>
  have:=Pk.tab h u;unfold CY at this;rw[u5];exact this
theorem OL.len{a:Ak}{cs:List Key}(s:OL a b cs)(e:Sd a)(f:Sd b):cs.length<=900:=by
 cases s with
 |row=>
  have c:=e.wt;have d:=f.wt;simp only[Ak.wt]at c d;rw[bi,wS]
  rename_i g h _ _
  have:=CQ g;have:=CQ h;have:=B_ g;have:=B_ h;lia
 |tab u=>
  have c:=e.sl;have d:=f.sl;simp only[slim]at c d;have:=Fu.le u;rw[bi];exact am this<|am (tz (am (ci _ _) c.1)<|am (ci _ _) d.1) ac
theorem Pk.one{q:Ak×Ak}{ps b:List (Ak×Ak)}(h:Pk q ps)(h':Pk q b):ps=b:=by
 cases h with
 |off e=>
  cases h' with
  |off _=>rfl|row a=>rw[e]at a;cases a|tab a _=>rw[e]at a;cases a
 |row e=>
  cases h' with
  |off a=>rw[e]at a;cases a|row _=>rfl
 |tab e u=>
  cases h' with
  |off a=>rw[e]at a;cases a|tab _ v=>rw[Fu.one u v]
theorem Pk.sd{q:Ak×Ak}(h:Pk q ps)(b:Sd q.1)(c:Sd q.2):∀p∈ps,Sd p.1/\Sd p.2:=by
 cases h with
 |off _=>intro p a;cases a|row _=>
  intro p a;obtain⟨i,d⟩:=p9 a;rw[(CS d).1];exact⟨YI b.row i,YI c.row i⟩
 |tab _ u=>
  intro p a;obtain⟨s,_,rfl⟩:=u7.mp a;exact⟨cJ b.tab s,cJ c.tab s⟩
def pk(p:Ak×Ak):Ak:=row (r4 (p.1.wt+p.2.wt-2) any) true
theorem Tz:∀n:Nat,Bv (r4 n any)=n
 |0=>rfl|n+1=>by rw[Gc,Bv,Tz n,wt,Tl]
theorem T_(p:Ak×Ak):(pk p).wt+1=p.1.wt+p.2.wt:=by
 have:=Iv p.1;have:=Iv p.2;unfold pk;simp only[wt,Tz];lia
theorem Pk.wt{q:Ak×Ak}{ps:List (Ak×Ak)}(h:Pk q ps)(f:Sd q.1)(g:Sd q.2):Bv (ps.map pk)+1<=(pk q).wt:=by
 have e:=T_ q;cases h with
 |off _=>
  simp only[aaS,Bv];exact Iv _
 |row _=>
  rename_i xs ys m n _
  have:=IP (xs:=xs) (ys:=ys) (cs:=(Cz xs ys).map pk) (by unfold Cz;simp) λj c a=>by
   rw[b6]at a;obtain⟨p,i,rfl⟩:=At.mp a;rw[T_,(CS i).1];exact bv _
  simp only[Ak.wt]at e;lia
 |tab _ u=>
  rename_i k ls l os o xs ys m n _
  have b:=f.ok;have d:=g.ok;simp only[Ak.ok]at b d;have:=Tv (cs:=(CY o k xs l ys).map pk) b.1 d.1 u (by unfold CY;simp) λj s c r a=>by
   unfold CY at a;rw[b6,b6,r]at a;cases a;rw[T_];exact bv _
  simp only[Ak.wt]at e;lia
noncomputable def opt:Option Ak->Pt
 |none=>.AZ|some c=>c.pt
theorem EV.pr(h:Paired (λq r=>CZ q.1 q.2 r) ps rs):EV ps rs:=by
 induction h with
 |nil=>exact .nil|cons h _ a=>exact .cons h a
end Ak
variable{w:Str}
section
variable [Be K]
inductive YJ(G H:Hp)(v:V)(q:Ak×Ak):Prop|mk(p:Addr)(x y:V)(e:v=.ref p)(h:H p=Z (.tup [x,y]))(a:Val (K:=K) G x q.1.pt)(b:Val (K:=K) G y q.2.pt)
theorem YJ.up(h:YJ (K:=K) G H v q)(s:∀b a,H b=Z (.tup a)->c b=Z (.tup a)):YJ (K:=K) G c v q:=by
 obtain⟨p,x,y,e,h,d,f⟩:=h;exact⟨p,x,y,e,s _ _ h,d,f⟩
theorem eS(h:Paired (YJ (K:=K) G H) c f)(s:∀b a,H b=Z (.tup a)->e b=Z (.tup a)):Paired (YJ (K:=K) G e) c f:=Paired.UQ h λ_ _ h=>h.up s
inductive Vh(vs:List V)(H:Hp)(Q:VK):Prop|mk(v y:V)(a b:Ak)(d:vs=[v,y])(e:Val (K:=K) H v a.pt)(f:Val (K:=K) H y b.pt)(g:Ak.meet a b=true)(h:a.Sd)(i:b.Sd)(j:∀(p:Addr) (cs:List Key) (c:Hp),AF H c->H p=ν->Ak.OL a b cs->c p=Z (.lst (cs.map kV))->Q (.ref p) c)
def LZ:Sp:=λa H Q _=>Vh (K:=K) a H Q
inductive YK(vs:List V)(H:Hp)(Q:VK):Prop|mk(G:Hp)(v:V)(q:Ak×Ak)(b:vs=[v])(c:AF G H)(d:YJ (K:=K) G H v q)(e:q.1.Sd)(f:q.2.Sd)(g:∀(p:Addr) (es:List V) (ps:List (Ak×Ak)) (a:Hp),AF H a->H p=ν->a p=Z (.lst es)->Ak.Pk q ps->Paired (YJ (K:=K) G a) es ps->Q (.ref p) a)
def KH:Sp:=λa H Q _=>YK (K:=K) a H Q
inductive YL(vs:List V)(H:Hp)(Q:VK):Prop|mk(G a:Hp)(v:V)(q:Ak×Ak)(L:Addr)(ws:List V)(ps:List (Ak×Ak))(rs:List (Option Ak))(f:vs=[v,.ref L])(g:AF G H)(h:YJ (K:=K) G H v q)(i:q.1.Sd)(j:q.2.Sd)(k:H L=Z (.lst ws))(l:a L=ν)(m:∀b,H b=ν->a b=ν)(n:Ak.Pk q ps)(o:Ak.EV ps rs)(d:AR (K:=K) (nw a H) ws (rs.map Ak.opt))(e:∀(w:V) (r:Option Ak) (c:Hp),AF H c->Val (K:=K) (nw a c) w (Ak.opt r)->Ak.CZ q.1 q.2 r->Q w c)
def OM:Sp:=λa H Q _=>YL (K:=K) a H Q
inductive YM(b c:Addr)(vs:List V)(H:Hp)(Q:VK):Prop|mk(G:Hp)(v:V)(q:Ak×Ak)(d:vs=[v,.ref b,.ref c])(e:AF G H)(f:YJ (K:=K) G H v q)(g:q.1.Sd)(h:q.2.Sd)(i:∀(w:V) (r:Option Ak) (a:Hp),AF H a->Val (K:=K) (nw H a) w (Ak.opt r)->Ak.CZ q.1 q.2 r->Q w a)
def ON(a b:Addr):Sp:=λc H Q _=>YM (K:=K) a b c H Q
inductive Vi(vs:List V)(H:Hp)(Q:VK):Prop|mk(v y:V)(a b:Ak)(d:vs=[v,y])(e:Val (K:=K) H v a.pt)(f:Val (K:=K) H y b.pt)(g:a.Sd)(h:b.Sd)(i:∀(w:V) (r:Option Ak) (c:Hp),AF H c->Val (K:=K) (nw H c) w (Ak.opt r)->Ak.CZ a b r->Q w c)
def Qe:Sp:=λa H Q _=>Vi (K:=K) a H Q
theorem ab{i j:Addr}{Q:VK}{E:XK}(h:ON (K:=K) i j vs H Q E):J_ i j (KH (K:=K)) (OM (K:=K)) vs H Q E:=by
 obtain⟨G,v,m,rfl,t,pv,u,w,q⟩:=h;have S:=Ak.T_ m;have T:=u.wt;have U:=w.wt;refine Xt (K:=K) (YJ (K:=K) G) Ak.Pk (λq=>q.1.Sd/\q.2.Sd) (λl=>Ak.Bv<|l.map Ak.pk) (λq r=>Ak.CZ q.1 q.2 r) Ak.opt (λh s=>h.up s) (λa b=>by rw[sU,Ak.Bx]) (λl=>?_) (λo k=>k.wt o.1 o.2) (λo k=>k.sd o.1 o.2) (λk z=>k.one z) pv ⟨u,w⟩ ?_ (λ{X x y A} B c o k=>⟨G,x,y,W,t.trans B,c,o.1,o.2,λp C D F I Y J e pr=>k p C D F I J e pr⟩) (λ{L ζ x y M N O P A} s c o f n d e g R k=>⟨G,L,x,y,M,N,O,P,W,t.trans s,c,o.1,o.2,f,n,d,e,.pr g,R,k⟩) q
 .have:=Ak.CQ<|l.map Ak.pk;rw[bi]at this;exact am this<|Ak.B_ _
 .show(Ak.pk m).wt+0<=_;lia
theorem cL{s:Str}(h:w=s):decide (V.str w=V.str s)=true:=decide_eq_true<|congrArg _ h
theorem cM{s:Str}(h:w≠s):decide (V.str w=V.str s)=false:=decide_eq_false λe=>h<|V.str.inj e
theorem T'{w:V}{r:Option Ak}(h:Val (K:=K) G w (Ak.opt r)):decide (w=.AZ)=r.isNone:=by
 cases r with
 |none=>cases h;rfl|some c=>
  obtain⟨t,_⟩:=Val.ak h;rfl
theorem all_some:∀{rs:List (Option Ak)},(rs.map Q3).any id=false->∃cs:List Ak,rs=cs.map Z
 |[],_=>⟨[],W⟩|none::r,h=>by simp at h|some c::r,h=>by
  obtain⟨cs,rfl⟩:=all_some (rs:=r) (GT h);exact⟨c::cs,W⟩
theorem Vj(h:(rs.map Q3).any id=true):ν∈rs:=by
 rw[acF,K6]at h;obtain⟨r,a,e⟩:=h;cases r with
 |none=>exact a|some c=>cases e
theorem VE.isAny{a:Ak}{rest:List V}(c:VE (K:=K) H a w rest)(h:w="any"):a=.any:=by
 cases c<;>first|rfl|exact absurd h ac
theorem VE.OO{a:Ak}{rest:List V}(c:VE (K:=K) H a w rest)(h:w="just"):∃d u,a=.AY d/\rest=[u]/\Val (K:=K) H u d:=by
 cases c<;>first|exact⟨_,_,rfl,rfl,by assumption⟩|exact absurd h ac
theorem VE.cN{a:Ak}{rest:List V}(c:VE (K:=K) H a w rest)(h:w≠"any"):a≠.any:=by
 cases c<;>first|exact absurd rfl h|exact λe=>nomatch e
theorem VE.cO{a:Ak}{rest:List V}(c:VE (K:=K) H a w rest)(h:w≠"any")(g:w≠"just"):a.RE=true:=by
 cases c<;>first|rfl|exact absurd rfl h|exact absurd rfl g
end
section
variable [Be K]
theorem GR{a c f:Hp}(d:∀b,a b=ν->H b=ν)(s:∀b o,a b=ν->c b=Z o->f b=Z o):AF (ov G a c) (ov G H f):=λb o e=>by
 unfold ov at e⊢;cases h:G b with
 |some z=>rw[h]at e;exact e|none=>rw[h]at e;exact Bi d s b o e
section
variable{J:It} {te:TE} {fs:List Nat} {Q:VK}
theorem OP(G:Hp)(o:Option Addr)(n:Nat)(item:Nat->V)(c:Nat->List Pt->Hp->Prop)(I:n<=1000)(L:∀D,H D=ν->c 0 [] (upd H D (.lst [])))(M:∀i us a D ws,Bt o H a->H D=ν->c i us a->c i us (upd a D (.lst ws)))(hl:∀l,o=Z l->H l≠ν)(A:∀i us a,i<n->Bt o H a->c i us a->J.go i a)(N:∀i us a v r,i<n->Bt o H a->c i us a->J.Vw i a v r->v=item i/\r=a)(B:∀us a,Bt o H a->c n us a->J.stop n a)(O:∀i us a (R:VK),i<n->Bt o H a->c i us a->us.length=i->(∀w u j,Bt o a j->Val (ov G a j) w u->c (i+1) (us++[u]) j->R w j)->te (Z (item i)::Ce σ fs) a R)(P:∀D a ws us,H D=ν->Bt o H a->a D=Z (.lst ws)->us.length=n->AR (ov G H a) ws us->c n us a->Q (.ref D) a):EC J Jb te fs σ H Q:=by
 refine Jq n item (λD i a=>H D=ν/\Bt o H a/\∃ws us,a D=Z (.lst ws)/\us.length=i/\AR (ov G (upd H D<|.lst []) a) ws us/\c i us a) (λD d=>⟨d,.new .refl d,[],[],AD,W,.nil,L D d⟩) (λD i a g z=>by obtain⟨_,s,ws,us,_,_,_,f⟩:=z;exact A i us a g s f) (λD i a v r g z y=>by obtain⟨_,s,ws,us,_,_,_,f⟩:=z;exact N i us a v r g s f y) (λD a z=>by obtain⟨_,s,ws,us,_,_,_,f⟩:=z;exact B us a s f) (λD i a _ g ⟨d,s,ws,us,k,m,t,f⟩=>?_) λD a _ ⟨d,s,ws,us,k,m,t,f⟩=>?_
 .refine O i us a _ g s f m λw u j x S C=>?_;have T:o≠Z D:=λz=>hl D z d;have U:=x.keep D _ T k;have X:=t.length;have F:∀b,upd H D (.lst []) b=ν->b≠D/\H b=none:=λb h=>DW h;refine⟨ws,U,d8 (am (am (am (bm X)<|bm m)<|gt g) I)<|Aw<|bv 1000,d,(s.trans x).new d,ws++[w],us++[u],AD,by simp[m],AR.snoc (t.up<|GR (λb h=>h) λb e p E=>?_)<|S.up<|GR (λb h=>?_) λb e p E=>?_,M _ _ _ _ _ (s.trans x) d C⟩
  .have q:=(F b p).1;rw[AH q];refine x.keep b e (λz=>?_) E;exact hl b z (F b p).2
  .have q:b≠D:=λz=>by rw[z,k]at h;cases h
   rw[AH q];exact s.EJ b h
  .have q:b≠D:=λz=>by rw[z,k]at p;cases p
   rw[AH q];exact E
 .exact P D a ws us d s k m (t.up<|GR (λb h=>(DW h).2) λb e _ h=>h) f
theorem Qf(G:Hp)(o:Option Addr)(n:Nat)(item:Nat->V)(ks:List Str)(d:Nat->List Pt->Hp->Prop)(hn:n<=1000)(h0:∀D,H D=ν->d 0 [] (upd H D (.lst [])))(Y:∀i us a D e,Bt o H a->(H D=ν)->d i us a->d i us (upd a D e))(hl:∀l,o=Z l->H l≠ν)(M:∀i us a,i<n->Bt o H a->d i us a->J.go i a)(hy:∀i us a v F,i<n->Bt o H a->d i us a->J.Vw i a v F->v=item i/\F=a)(N:∀us a,Bt o H a->d n us a->J.stop n a)(he:∀i us a (R:VK),i<n->Bt o H a->d i us a->us.length=i->(∀w u m t,Bt o a m->Val (ov G a m) w u->d (i+1) (us++[u]) m->m t=ν->R (.ref t) (upd m t (.tup [.str (ks.getD i ""),w])))->te (Z (item i)::Ce σ fs) a R)(hQ:∀D a (ts:List Addr) ws us,H D=ν->Bt o H a->a D=Z (.lst (ts.map V.ref))->ts.length=n->us.length=n->(∀(j:Nat) t w,ts[j]?=Z t->ws[j]?=Z w->a t=Z (.tup [.str (ks.getD j ""),w])/\H t=ν)->AR (ov G H a) ws us->d n us a->Q (.ref D) a):EC J Jb te fs σ H Q:=by
 refine Jq n item (λD i a=>H D=ν/\Bt o H a/\∃(ts:List Addr)(ws:List V)(us:List Pt),a D=Z (.lst<|ts.map V.ref)/\ts.length=i/\us.length=i/\(∀(j:Nat) t w,ts[j]?=Z t->ws[j]?=Z w->a t=Z (.tup [.str<|ks.getD j "",w])/\H t=ν)/\AR (ov G (upd H D<|.lst []) a) ws us/\d i us a) (λD f=>⟨f,.new .refl f,[],[],[],AD,W,W,(λj t w h=>by simp at h),.nil,h0 D f⟩) (λD i a q z=>by obtain⟨_,s,ts,ws,us,_,_,_,_,_,k⟩:=z;exact M i us a q s k) (λD i a v F q z y=>by obtain⟨_,s,ts,ws,us,_,_,_,_,_,k⟩:=z;exact hy i us a v F q s k y) (λD a z=>by obtain⟨_,s,ts,ws,us,_,_,_,_,_,k⟩:=z;exact N us a s k) (λD i a _ q ⟨f,s,ts,ws,us,B,lt,r,O,I,k⟩=>?_) λD a _ ⟨f,s,ts,ws,us,B,lt,r,O,I,k⟩=>?_
 .refine he i us a _ q s k r λw u m t p vw P x=>?_;have oD:o≠Z D:=λz=>hl D z f;have S:=p.keep D _ oD B;have ζ:t≠D:=λz=>by rw[z,S]at x;cases x
  have d4:upd m t (.tup [.str<|ks.getD i "",w]) D=Z (.lst<|ts.map V.ref):=(AH<|zn ζ).trans S;have lw:=I.length;have L:H t=none:=(s.trans p).EJ t x;have sD:∀b,upd H D (.lst []) b=ν->b≠D/\H b=none:=λb h=>DW h;refine⟨ts.map V.ref,d4,d8 (by rw[bi];exact am (am (bm lt)<|gt q) hn)<|Aw<|bv 1000,f,((s.trans p).new L).new f,ts++[t],ws++[w],us++[u],by rw[AD,sU];rfl,by simp[lt],by simp[r],λj A w' c g=>?_,AR.snoc (I.up<|GR (λb h=>h) λb e c g=>?_)<|vw.up<|GR (λb h=>?_) λb e c g=>?_,Y _ _ _ _ _ ((s.trans p).new L) f<|Y _ _ _ _ _ (s.trans p) L P⟩
  .by_cases hj:j<ts.length
   .rw[q8 hj]at c;rw[q8<|bn hj<|am (bm lt)<|am (bm r.symm)<|bm lw.symm]at g;obtain⟨g1,g2⟩:=O j A w' c g;have C:=p.keep A _ (λz=>hl A z g2) g1;have n1:A≠t:=λz=>by rw[z,x]at C;cases C
    have n2:A≠D:=λz=>by rw[z,S]at C;cases C
    exact⟨by rw[AH n2,AH n1];exact C,g2⟩
   .have T:=(zd c).1;rw[q5,x9]at T;have ej:j=i:=by lia
    subst ej;rw[w8<|bm lt,lt,Tk]at c;have e1:t=A:=GT c
    subst e1;rw[w8<|am (bm lw)<|bm r,show j-ws.length=0 by lia]at g;have e2:w=w':=GT g
    subst e2;exact⟨by rw[AH ζ,AD],L⟩
  .have E:=(sD b c).1;have hb:=(sD b c).2;have U:=p.keep b e (λz=>hl b z hb) g;have X:b≠t:=λz=>by rw[z,x]at U;cases U
   rw[AH E,AH X];exact U
  .have E:b≠D:=λz=>by rw[z,B]at h;cases h
   rw[AH E];exact s.EJ b h
  .have E:b≠D:=λz=>by rw[z,B]at c;cases c
   have X:b≠t:=λz=>by rw[z,x]at g;cases g
   rw[AH E,AH X];exact g
 .exact hQ D a ts ws us f s B lt r O (I.up<|GR (λb h=>(DW h).2) λb e _ h=>h) k
theorem EI(o:Option Addr)(n:Nat)(item:Nat->V)(b:Nat->List Pt->Hp->Prop)(g:n<=1000)(h:∀D,H D=ν->b 0 [] (upd H D (.lst [])))(j:∀i us a D ws,Bt o H a->H D=ν->b i us a->b i us (upd a D (.lst ws)))(hl:∀l,o=Z l->H l≠ν)(d:∀i us a,i<n->Bt o H a->b i us a->J.go i a)(k:∀i us a v f,i<n->Bt o H a->b i us a->J.Vw i a v f->v=item i/\f=a)(e:∀us a,Bt o H a->b n us a->J.stop n a)(m:∀i us a (R:VK),i<n->Bt o H a->b i us a->us.length=i->(∀w u c,Bt o a c->Val (nw a c) w u->b (i+1) (us++[u]) c->R w c)->te (Z (item i)::Ce σ fs) a R)(p:∀D a ws us,H D=ν->Bt o H a->a D=Z (.lst ws)->us.length=n->AR (nw H a) ws us->b n us a->Q (.ref D) a):EC J Jb te fs σ H Q:=OP (λ_=>ν) o n item b g h j hl d k e m p
theorem Mz(o:Option Addr)(n:Nat)(item:Nat->V)(ks:List Str)(b:Nat->List Pt->Hp->Prop)(h:n<=1000)(k:∀D,H D=ν->b 0 [] (upd H D (.lst [])))(m:∀i us a D e,Bt o H a->(H D=ν)->b i us a->b i us (upd a D e))(hl:∀l,o=Z l->H l≠ν)(d:∀i us a,i<n->Bt o H a->b i us a->J.go i a)(p:∀i us a v g,i<n->Bt o H a->b i us a->J.Vw i a v g->v=item i/\g=a)(f:∀us a,Bt o H a->b n us a->J.stop n a)(q:∀i us a (R:VK),i<n->Bt o H a->b i us a->us.length=i->(∀w u c t,Bt o a c->Val (nw a c) w u->b (i+1) (us++[u]) c->c t=ν->R (.ref t) (upd c t (.tup [.str (ks.getD i ""),w])))->te (Z (item i)::Ce σ fs) a R)(r:∀D a (ts:List Addr) ws us,H D=ν->Bt o H a->a D=Z (.lst (ts.map V.ref))->ts.length=n->us.length=n->(∀(j:Nat) t w,ts[j]?=Z t->ws[j]?=Z w->a t=Z (.tup [.str (ks.getD j ""),w])/\H t=ν)->AR (nw H a) ws us->b n us a->Q (.ref D) a):EC J Jb te fs σ H Q:=Qf (λ_=>ν) o n item ks b h k m hl d p f q r
end
end
variable{P:Pt->Prop}
namespace Pt
mutual
noncomputable def UA:Pt->Nat
 |lst xs=>max xs.length (La xs)|Ah ks xs=>max ks.length (La xs)|_=>0
noncomputable def La:List Pt->Nat
 |[]=>0|x::r=>max (UA x) (La r)
end
theorem Fx:∀{a:List Pt}{x:Pt},x∈a->x.UA<=La a
 |y::r,x,h=>by
  simp only[La];rcases j4.mp h with rfl|h
  .exact A3 _ _
  .have:=Fx h;exact am this<|y4 _ _
theorem OQ{n:Nat}:∀{us:List Pt},(∀u∈us,u.UA<=n)->La us<=n
 |[],_=>by simp[La]|x::r,h=>by
  have a:=h x d9;have b:=OQ (us:=r) λy c=>h y<|cr _ c;simp only[La];exact y9.mpr ⟨a,b⟩
mutual
theorem Fy:∀t:Pt,t.doc->t.UA<=t.size
 |lst xs,d=>by
  simp only[doc]at d;have:=JC xs d;have:=CQ xs;simp only[UA,size];lia
 |Ah a xs,d=>by
  simp only[doc]at d;have:=JC xs d.2.2.2.2;have:=CQ xs;simp only[UA,size];lia
 |int _,_|str _,_|bl _,_|AZ,_|tup _,_=>by simp[UA]
theorem JC:∀xs:List Pt,Cr xs->La xs<=AM xs
 |[],_=>by simp[La]|x::r,d=>by
  simp only[Cr]at d;have:=Fy x d.1;have:=JC r d.2;simp only[La,AM];lia
end
theorem YO{a b:List Pt}(h:∀u∈a,P u)(k:∀u∈b,P u):∀u∈a++b,P u:=λu c=>(rc.mp c).elim (h u)<|k u
theorem OR{a:List Pt}{x:Pt}(h:∀u∈a,P u)(k:P x):∀u∈a++[x],P u:=YO h λu b=>io.mp b▸k
structure Bd(g B D:Nat)(t:Pt):Prop where
 doc:t.doc
 gi:t.UA<=g
 wi:t.wide<=B
 de:t.deep<=D
theorem Bd.up{g B D g' a b:Nat}(h:Bd g B D t)(c:g<=g')(d:B<=a)(e:D<=b):Bd g' a b t:=⟨h.doc,am h.gi c,am h.wi d,am h.de e⟩
theorem Bd.lst{g B D:Nat}{xs:List Pt}(h:Bd g B D (.lst xs)):∃E,D=E+1/\xs.length<=g/\∀x∈xs,Bd g B E x:=by
 obtain⟨d,b,c,e⟩:=h;simp only[Pt.doc]at d;simp only[UA,y9]at b;simp only[wide]at c;simp only[deep]at e;exact⟨D-1,z_,b.1,λx a=>⟨Af d x a,am (Fx a) b.2,am (Ip a) c,by have:=Au a;lia⟩⟩
theorem Bd.kR{g B D:Nat}{xs:List Pt}(l:xs.length<=g)(h:∀x∈xs,Bd g B D x):Bd g B (D+1) (.lst xs):=⟨Jr λx a=>(h x a).doc,y9.mpr ⟨l,OQ λx a=>(h x a).gi⟩,Fn λx a=>(h x a).wi,by simp only[deep];have:=K' λx a=>(h x a).de;lia⟩
theorem Bd.Ah{g B D:Nat}{ks:List Str}{xs:List Pt}(h:Bd g B D (.Ah ks xs)):∃E,D=E+1/\ks.length=xs.length/\ks.Nodup/\(∀k∈ks,Uz k=true)/\ks.length<64/\ks.length<=g/\ks.length<=B/\∀x∈xs,Bd g B E x:=by
 obtain⟨d,b,c,e⟩:=h;simp only[Pt.doc]at d;simp only[UA,y9]at b;simp only[wide,y9]at c;simp only[deep]at e;exact⟨D-1,z_,d.1,d.2.1,d.2.2.1,d.2.2.2.1,b.1,c.1,λx a=>⟨Af d.2.2.2.2 x a,am (Fx a) b.2,am (Ip a) c.2,by have:=Au a;lia⟩⟩
theorem Bd.nN{g B D:Nat}{xs:List Pt}(l:ks.length=xs.length)(n:ks.Nodup)(b:∀k∈ks,Uz k=true)(z:ks.length<64)(l1:ks.length<=g)(l2:ks.length<=B)(h:∀x∈xs,Bd g B D x):Bd g B (D+1) (.Ah ks xs):=⟨⟨l,n,b,z,Jr λx a=>(h x a).doc⟩,y9.mpr ⟨l1,OQ λx a=>(h x a).gi⟩,y9.mpr ⟨l2,Fn λx a=>(h x a).wi⟩,by simp only[deep];have:=K' λx a=>(h x a).de;lia⟩
theorem GS(d:t.doc)(z:t.size<=4)(e:t.deep<=2){g B D:Nat}(a:4<=g)(b:4<=B)(c:2<=D):Bd g B D t:=⟨d,am (Fy t d)<|am z a,am (Iq t d)<|am z b,am e c⟩
end Pt
namespace Ak
mutual
def BF:Ak->Prop
 |any=>True|AY d=>d.wide<=10|row xs _=>L' xs|tab ks xs _ _=>ks.length<=10/\L' xs
def L':List Ak->Prop
 |[]=>True|x::r=>BF x/\L' r
end
theorem Eo:∀{xs:List Ak},L' xs->∀x∈xs,BF x
 |y::r,h,x,a=>by
  rcases j4.mp a with rfl|a
  .exact h.1
  .exact Eo h.2 x a
theorem IQ:∀{xs:List Ak},(∀x∈xs,BF x)->L' xs
 |[],_=>trivial|x::r,h=>⟨h x d9,IQ λy a=>h y (cr _ a)⟩
theorem Sd.BF:∀(n:Nat){a:Ak},a.size<=n->Sd a->a.BF
 |0,a,h,_=>by have:=size_pos a;lia|n+1,a,h,s=>by
  cases a with
  |any=>trivial|AY d=>
   have:=s.ok;simp only[Ak.ok]at this;have:=Pt.Iq d this.2.1;simp only[Ak.BF];lia
  |row c m=>
   simp only[Ak.size]at h;exact IQ λx b=>Sd.BF n (by have:=Ae b;lia) (s.row x b)
  |tab e c ls m=>
   simp only[Ak.size]at h;have:=s.sl;simp only[slim]at this;exact⟨am (am (ci _ _) this.1) ac,IQ λx b=>Sd.BF n (by have:=Ae b;lia)<|s.tab x b⟩
theorem JN(h:L' cs):(BW cs m).BF:=by
 unfold BW;split
 .exact h
 .split
  .rename_i a e
   rw[Bl e]at h;show(Pt.lst a).wide<=10;simp only[Pt.wide];exact Fn λu b=>by have:=Eo h (AY u)<|A1 b;simpa only[Ak.BF]using this
  .exact h
theorem JO{ls:List Str}(l:ss.length<=10)(h:L' cs):(BX ss cs ls m).BF:=by
 unfold BX;split
 .exact⟨l,h⟩
 .split
  .rename_i a e
   rw[Bl e]at h;show(Pt.Ah ss a).wide<=10;have:=Fn (n:=10) (us:=a) λu b=>by have:=Eo h (AY u)<|A1 b;simpa only[Ak.BF]using this
   simp only[Pt.wide];exact(y9.mpr ⟨l,this⟩:_<=10)
  .exact⟨l,h⟩
theorem YQ{a c:Ak}(h:Good a c):a.Az->a.BF->c.BF:=by
 refine @Good.rec (λa c _=>a.Az->a.BF->c.BF) (λd i _=>DK d->L' d->L' i) ?_ ?_ ?_ ?_ ?_ ?_ a c h
 .exact λ_ h=>h
 .exact λ_ _ h=>h
 .exact λ_ f o h=>JN<|f o h
 .intro n p q d i ls m j r e _ f o h;simp only[Az]at o;have b:=Cu o.1 o.2.1 j e;refine JO (by rw[j.length_eq];exact h.1)<|f (Jt λx g=>BB o.2.2.2.2.2.2 x<|b.mem_iff.mp g)<|IQ λx g=>Eo h.2 x<|b.mem_iff.mp g
 .exact λ_ _=>trivial
 .exact λ_ _ k l o h=>⟨k o.1 h.1,l o.2 h.2⟩
theorem YR{a:Ak}{r:Option Ak}(h:CZ a b r):Sd a->Sd b->∀c,r=Z c->c.BF:=by
 have all:∀{k:List Ak},(∀(j:Nat) c,(k.map Z)[j]?=Z (Z c)->c.BF)->L' k:=λh=>IQ λc o=>by
  obtain⟨j,F⟩:=p9 o;exact h j c<|by rw[b6,F];rfl
 have v:∀{a c:Ak},Sd a->Good a c->c.BF:=λs g=>YQ g s.Az<|Sd.BF _ (bv _) s;refine @CZ.rec (λa b r _=>Sd a->Sd b->∀c,r=Z c->c.BF) (λC w _=>(∀p∈C,Sd p.1/\Sd p.2)->∀(j:Nat) c,w[j]?=Z (Z c)->c.BF)
  ?_ ?_ ?_ ?_ ?_ ?_ ?_ ?_ ?_ ?_ ?_ ?_ ?_ _ _ _ h
 .rintro b c h fa e _ ⟨⟩;exact v e h
 .rintro a c _ h fa e _ ⟨⟩;exact v fa h
 .rintro d b c _ l h fa e _ ⟨⟩;exact v fa h
 .rintro d b _ l fa e _ ⟨⟩
 .rintro d a c i l h fa e _ ⟨⟩;exact v e h
 .rintro d a i l fa e _ ⟨⟩
 .rintro a b i j h fa e _ ⟨⟩
 .rintro y A m n w h l x f fa e _ ⟨⟩
 .rintro y A k m n h l f fa e _ ⟨⟩;exact JN<|all<|f<|(Pk.row h).sd fa e
 .rintro G ls H os I y A m n w h u l x f fa e _ ⟨⟩
 .rintro G ls H os I M y A k m n h u z l f fa e _ ⟨⟩;have D:=fa.sl;have E:=e.sl;simp only[slim]at D E;have:=Fu.le u;exact JO (am this<|am (tz (am (ci _ _) D.1)<|am (ci _ _) E.1) ac)<|all<|f<|(Pk.tab h u).sd fa e
 .rintro _ j c h;simp at h
 .rintro p r C w h t J K B j c o;cases j with
  |zero=>cases o;exact J (B p d9).1 (B p d9).2 c W|succ j=>exact K (λq L=>B q (cr _ L)) j c (GT o)
end Ak
structure Mi(a:Ak):Prop extends Ak.Sd a where
 dp:a.dp<=60
 de:a.deep<=20
theorem Mi.row{xs:List Ak}{m:Bool}(h:Mi (.row xs m)):∀x∈xs,Mi x:=λx a=>by
 obtain⟨c,d,b⟩:=h;simp only[Ak.dp]at d;simp only[Ak.deep]at b;have:=Ak.CV a;have:=Ak.Au a;exact⟨c.row x a,z_,am (am this<|d0 _ _) b⟩
theorem Mi.tab{ks ls:List Str}{xs:List Ak}{m:Bool}(h:Mi (.tab ks xs ls m)):∀x∈xs,Mi x:=λx a=>by
 obtain⟨c,d,b⟩:=h;simp only[Ak.dp]at d;simp only[Ak.deep]at b;have:=Ak.CV a;have:=Ak.Au a;exact⟨c.tab x a,z_,am (am this<|d0 _ _) b⟩
section
variable [Be K]
inductive YS(n:Nat)(vs:List V)(H:Hp)(Q:VK):Prop|mk(v y:V)(a:Ak)(t:Pt)(c:vs=[v,y])(d:Val (K:=K) H v a.pt)(e:Val (K:=K) H y t)(f:a.Az)(g:t.doc)(h:a.size<=900)(i:t.UA<=950)(j:a.dp<=60)(k:a.deep<=n)(l:∀b,AF H b->Q (.bl (Ak.lets a t)) b)
def FK(n:Nat):Sp:=λa H Q _=>YS (K:=K) n a H Q
inductive YT(n:Nat)(vs:List V)(H:Hp)(Q:VK):Prop|mk(G:Hp)(v:V)(t:Pt)(c:Int)(d:Nat)(nm:Addr)(ys:List Str)(g B D:Nat)(f:vs=[v,.int c,.int (d:Int),.ref nm])(h:AF G H)(i:Val (K:=K) G v t)(j:t.Bd g B D)(k:g<=920)(l:12<=d+n)(m:d<=5)(o:TR H nm ys)(p:10<=B)(b:B<=62)(e:∀(w:V) (t':Pt) (a:Hp),AF H a->Val (K:=K) (ov G H a) w t'->t'.Bd (g+4) (B+1) (D+2)->Q w a)
def KI(n:Nat):Sp:=λa H Q _=>YT (K:=K) n a H Q
inductive UB(n:Nat)(vs:List V)(H:Hp)(Q:VK):Prop|mk(w:V)(a:Ak)(l nm:Addr)(cs:List Int)(ys:List Str)(f:vs=[w,.ref l,.ref nm])(g:Val (K:=K) (CU l H) w a.pt)(h:a.Az)(d:a.BF)(i:a.dp+31<=n)(e:a.dp<=30)(j:a.wt<=900)(k:H l=Z (.lst (cs.map V.int)))(m:cs.length<=100)(o:nm≠l)(p:TR H nm ys)(q:∀(v:V) (t:Pt) (b:List Int) (c:Hp),Bt (Z l) H c->c l=Z (.lst (b.map V.int))->b.length<=cs.length->Val (K:=K) (nw H c) v t->t.Bd 910 12 (a.dp+2)->Q v c):UB n vs H Q
def Lb(n:Nat):Sp:=λa H Q _=>UB (K:=K) n a H Q
inductive M_(vs:List V)(H:Hp)(Q:VK):Prop|mk(v:V)(a:Ak)(c:Int)(nm:Addr)(ys:List Str)(e:vs=[v,.int c,.ref nm])(f:Val (K:=K) H v a.pt)(g:a.ok)(h:a.size<=57)(i:a.deep<=5)(j:a.F')(k:TR H nm ys)(l:∀(w:V) (b:Ak) (d:Hp),AF H d->Val (K:=K) d w b.pt->b.ok->b.size<=70->b.deep<=15->b.F'->b.wt<=a.wt+13->Q w d):M_ vs H Q
def Qg:Sp:=λa H Q _=>M_ (K:=K) a H Q
inductive iw(n:Nat)(vs:List V)(H:Hp)(Q:VK):Prop|mk(v y:V)(a b:Ak)(d:vs=[v,y])(e:Val (K:=K) H v a.pt)(f:Val (K:=K) H y b.pt)(g:Mi a)(h:Mi b)(i:2*a.deep+21<=n)(j:∀c,AF H c->Q (.bl (Ak.mt a b)) c)
def YU(n:Nat):Sp:=λa H Q _=>iw (K:=K) n a H Q
inductive ix(n:Nat)(vs:List V)(H:Hp)(Q:VK):Prop|mk(v y:V)(xs ys:List Ak)(m k:Bool)(b:vs=[v,y])(c:Val (K:=K) H v (Ak.row xs m).pt)(d:Val (K:=K) H y (Ak.row ys k).pt)(e:Mi (.row xs m))(f:Mi (.row ys k))(g:2*(Ak.row xs m).deep+20<=n)(h:∀a,AF H a->Q (.bl (Ak.meet (.row xs m) (.row ys k)&&Ak.Vg xs ys)) a)
def eT(n:Nat):Sp:=λa H Q _=>ix (K:=K) n a H Q
end
namespace Ak
theorem UC:∀{xs ys:List Ak},Vg xs ys=((xs.zip ys).map λp=>mt p.1 p.2).all id
 |[],ys=>by simp[Vg]|x::xs,[]=>by simp[Vg]|x::xs,y::ys=>by simp only[Vg,zh,jp,K4,id];rw[UC]
theorem UD{a:Type}{xs:List a}{s:Str}{x:a}(l:ks.length=xs.length)(nd:ks.Nodup)(hs:ks[i]?=Z s)(b:xs[i]?=Z x):lk ks xs s=Z x:=by
 have:=congrArg (λz=>z[i]?)<|Ht l nd;simp only[b6,hs,b]at this;exact ze this
theorem Vk(l:ks.length=xs.length)(nd:ks.Nodup)(j:ns.length=ys.length):cH ks xs ns ys=(((j9 ks.length).filter λi=>decide (ks.getD i ""∈ns)).map λi=>mt (xs.getD i any) ((lk ns ys (ks.getD i "")).getD any)).all id:=by
 rw[ul,KG l nd,re];constructor
 .intro h b k;obtain⟨i,m,rfl⟩:=u7.mp k;obtain⟨a,d⟩:=E5.mp m;have a:=zw.mp a;obtain⟨s,f⟩:=BH ks i a;obtain⟨x,e⟩:=BH xs i<|bn a<|bm l;rw[show ks.getD i ""=s by rw[b7,f];rfl]at d⊢;obtain⟨y,c⟩:=CD j<|of_decide_eq_true d;rw[show xs.getD i any=x by rw[b7,e];rfl,c];exact h s x y (UD l nd f e) c
 .intro h s x y e c;obtain⟨i,a,d⟩:=cF e;have g:ks.getD i ""=s:=by rw[b7,a];rfl
  have n:xs.getD i any=x:=by rw[b7,d];rfl
  have:=h _<|u7.mpr ⟨i,E5.mpr ⟨zw.mpr<|Cd a,by rw[g];exact decide_eq_true (Ax c).1⟩,W⟩;rw[g,n,c]at this;exact this
end Ak
variable{as:List Ak}
namespace Ak
theorem IS:∀(n:Nat){a:Ak},a.size<=n->a.F'->a.slim
 |0,a,h,_=>by have:=size_pos a;lia|n+1,a,h,f=>by
  cases a with
  |any=>trivial|AY d=>trivial|row c m=>
   simp only[size]at h;simp only[F']at f;exact EH λx b=>IS n (by have:=Ae b;lia) (Fi f x b)
  |tab e c ls m=>
   simp only[size]at h;simp only[F']at f;exact⟨am f.1 ac,EH λx b=>IS n (by have:=Ae b;lia)<|Fi f.2 x b⟩
theorem OS{bs:List Ak}(h:as.Sublist bs):Bv as<=Bv bs:=by
 induction h with
 |slnil=>exact bv _|cons x _ a=>simp only[Bv];exact am a (d0 _ _)|cons_cons x _ a=>simp only[Bv];exact im a _
theorem Gx{n:Nat}(h:AW as<=n)(k:b.deep<=n):AW (as++[b])<=n:=by
 rw[Cv];exact y9.mpr ⟨h,y9.mpr ⟨k,j5 _⟩⟩
theorem Gy(h:Fv as)(k:b.slim):Fv (as++[b]):=EH λy a=>(rc.mp a).elim (Cq h y) λh=>io.mp h▸k
theorem GU{n:Nat}:∀{as:List Ak},(∀x∈as,x.deep<=n)->AW as<=n
 |[],_=>j5 _|x::r,h=>by
  have:=h x d9;have:=GU (as:=r) λy a=>h y<|cr _ a;simp only[AW];lia
end Ak
variable{p:Addr}
section
variable [Be K]
theorem UE{G:Hp}(y:Str):∀{ks:List Str}{ws:List V}{as:List Ak},ks.length=ws.length->AR (K:=K) G ws (as.map Ak.pt)->∃(b:List Str)(c:List V)(d:List Ak),Ed (Bo ks ws) (e9 y)=Bo b c/\b.length=c.length/\b.Sublist ks/\d.Sublist as/\AR (K:=K) G c (d.map Ak.pt)
 |[],[],as,_,h=>⟨[],[],as,W,W,.slnil,.refl _,h⟩|[],_::_,_,l,_=>by simp at l|_::_,[],_,l,_=>by simp at l|k::ks,w::ws,[],l,h=>by cases h|k::ks,w::ws,a::as,l,h=>by
  rw[jp]at h;cases h with
  |cons h r=>
   obtain⟨b,c,d,e,f,g,i,j⟩:=UE y (ks:=ks) (ws:=ws) (as:=as) (GT l) r;have m:Bo (k::ks) (w::ws)=(e9 k,w)::Bo ks ws:=rfl;by_cases n:(e9 k:Key)=e9 y
   .exact⟨b,c,d,by rw[m,MP n,e],f,.cons _ g,.cons _ i,j⟩
   .exact⟨k::b,w::c,a::d,by rw[m,MQ n,e];rfl,by simp[f],g.cons_cons _,i.cons_cons _,.cons h j⟩
theorem ae{f g:Hp}(s:∀b o,b≠d->b≠p->f b=Z o->g b=Z o):AF (CU p (CU d f)) (CU p (CU d g)):=λb o e=>by
 by_cases a:b=p
 .unfold CU at e;rw[if_pos a]at e;cases e
 .rw[Bj a]at e⊢;by_cases c:b=d
  .unfold CU at e;rw[if_pos c]at e;cases e
  .rw[Bj c]at e⊢;exact s b o c a e
theorem BO.iy{a:Hp}{t:Addr}{xs:List V}(h:BO K H t xs)(b:H d=Z (.dK kvs))(bt:Bt (Z d) H a):BO K a t xs:=h.imp (λr=>r.up λo e=>bt.keep _ _ (λz=>by
 rw[<-ze z,b]at e;cases e;rcases r with r|⟨c,r⟩<;>(rw[<-ze z,b]at r;cases r)) e) id
structure KTb(G Hs H Hi:Hp)(d pL:Addr)(ks ls:List Str)(ws:List V)(as:List Ak)(ξ D:Nat):Prop where
 fd:Hi d=Z (.dK (Bo ks ws))
 fl:Hi pL=Z (.lst (ls.map V.str))
 bt:Bt (Z d) H Hi
 lw:ks.length=ws.length
 vl:AR (K:=K) (ov G Hs (CU pL (CU d Hi))) ws (as.map Ak.pt)
 nk:ks.Nodup
 nb:∀k∈ks,Uz k=true
 ok:Ak.Js as
 sl:Ak.Fv as
 nl:ls.Nodup
 dj:∀l∈ls,l∉ks
 sm:ks.length+ls.length<=5
 wt:Ak.Bv as<=ξ
 de:Ak.AW as<=D
inductive UG(vs:List V)(H:Hp)(Q:VK):Prop|mk(G a:Hp)(w:V)(d:Addr)(h c:Int)(nm:Addr)(ys e ks ls:List Str)(f:List Ak)(ws:List V)(as:List Ak)(m:Bool)(i:vs=[w,.ref d,.int h,.int c,.ref nm])(j:Val (K:=K) H w (Ak.tab e f ls m).pt)(k:AF G a)(xd:∀b,H b=ν->a b=ν)(l:a d=ν)(n:H d=Z (.dK (Bo ks ws)))(o:ks.length=ws.length)(p:AR (K:=K) (ov G a (CU d H)) ws (as.map Ak.pt))(q:(Ak.tab ks as ls m).ok)(r:ks.length+ls.length<=4)(s:Ak.Fv as)(t:TR H nm ys)(D:Nat)(u:1<=D)(x:Ak.AW as<=D)(y:∀(v:V) (b:Ak) (g:Hp),Bt (Z d) H g->Val (K:=K) (ov G a g) v b.pt->b.ok->b.slim->b.wt<=2+Ak.Bv as->b.deep<=1+D->Q v g):UG vs H Q
def Sb:Sp:=λa H Q _=>UG (K:=K) a H Q
inductive YV(n:Nat)(vs:List V)(H:Hp)(Q:VK):Prop|mk(G:Hp)(w:V)(a:Ak)(l nm:Addr)(cs:List Int)(ys:List Str)(f:vs=[w,.ref l,.ref nm])(g:AF G (CU l H))(h:Val (K:=K) G w a.pt)(i:a.ok)(j:a.F')(k:a.deep+12<=n)(m:a.size<=100)(o:H l=Z (.lst (cs.map V.int)))(p:cs.length<=100)(q:nm≠l)(r:TR H nm ys)(e:∀(v:V) (b:Ak) (c:List Int) (d:Hp),Bt (Z l) H d->d l=Z (.lst (c.map V.int))->c.length<=cs.length->Val (K:=K) (ov G H d) v b.pt->b.ok->b.slim->b.wt+16*c.length<=a.wt+3*a.size+16*cs.length->b.deep<=a.deep+2->Q v d):YV n vs H Q
def UH(n:Nat):Sp:=λa H Q _=>YV (K:=K) n a H Q
end
theorem JP{b:Addr}{k:Str}{rest:List V}{a r:TS}{e:Ends}(c:BO K H b (.str w::rest))(h:r e σ H)(hs:σ[i]?=Z (Z (.ref b)):=by rfl)(ne:decide (V.str w=V.str k)=false:=by decide+kernel):JT (Er (WJ (Oo mD (Oo (RO K) (GV i) (tC (.int 0))) (tC (.str k)))) a Ss) r e σ H:=⟨_,hs,b,_,0,_,W,W,c,C',W,_,W,BP ne h⟩
theorem Gz{b:Addr}{k:Str}{rest:List V}{a r:TS}{e:Ends}(c:BO K H b (.str w::rest))(h:a {e with nx:=r e} σ H)(d:σ[i]?=Z (Z (.ref b)):=by rfl)(eq:decide (V.str w=V.str k)=true:=by decide+kernel):JT (Er (WJ (Oo mD (Oo (RO K) (GV i) (tC (.int 0))) (tC (.str k)))) a Ss) r e σ H:=⟨_,d,b,_,0,_,W,W,c,C',W,_,W,Bf eq h⟩
section
inductive YW{K:zg}[Be K](x y:V)(H:Hp)(Q:VK):Prop
 |AZ (a:x=.AZ) (b:y=.AZ) (q:Q (.bl false) H):YW x y H Q
 |tup (h:eD (K:=K) x y H Q):YW x y H Q
theorem eU(d:X.A.units+64<cLine):DA X (AC .NotEq) (@YW X.K ⟨trivial⟩):=by
 intro pins s a H x y v u Q I b c h;cases h with
 |AZ e f q=>
  subst e f;exact KQ pins s a H .AZ .AZ v u Q I b c ⟨W,GT q⟩
 |tup h=>exact Xj d pins s a H x y v u Q I b c h
end
structure eV(t:Pt):Prop where
 n:t.nice
 d:t.deep<=50
 h:t.FI<50
 z:t.size<=200000
theorem eV.wf(h:eV t):t.wf:=Pt.Qa _ (bv _)<|.inr h.n
theorem Se{a:Ak}(o:a.Az)(w:a.wt<=900)(d:a.dp<=23):eV a.pt:=by
 have b:=Ak.Ta a;have e:=Pt.QL a.pt;have c:=Ak.Tn a o;exact⟨Ak.P' a o w,am b<|am (gl (M5 _ d) _) ac,z_,am c<|am (M5 _ w) ac⟩
theorem OT{a:Ak}{r:Option Ak}(h:Ak.CZ a b r)(d:a.Sd)(e:b.Sd)(w:a.wt+b.wt<=901)(f:a.dp<=23)(g:b.dp<=23):eV (Ak.opt r):=by
 cases r with
 |none=>exact⟨trivial,by simp[Ak.opt,Pt.deep],by simp[Ak.opt,Pt.FI],by simp[Ak.opt,Pt.size]⟩|some c=>
  obtain⟨i,k,j⟩:=Ak.LY h d.L_ e.L_ c W;exact Se i z_<|am j (y9.mpr ⟨f,g⟩:_<=23)
theorem YX{r a:Option Ak}(h:Ak.Rel r a):Pt.CM (Ak.opt a) (Ak.opt r)=true:=by
 cases h with
 |AZ=>rfl|eR h=>exact h
theorem af{r a b:Option Ak}(h:Ak.Rel r a)(c:Ak.Rel b a)(t:eV (Ak.opt r))(t':eV (Ak.opt a))(t2:eV (Ak.opt b)):Pt.CM (Ak.opt b) (Ak.opt r)=true:=Pt.eq_trans _ (bv _) t2.wf t'.wf (Pt.eq_symm _ (bv _) t'.wf t2.wf<|YX c)<|YX h
theorem iz{a:Hp}{b:Addr}{u:HO}(h:Rd (nw H a) b u):H b=none:=by
 cases e:H b with
 |none=>rfl|some o=>rcases h with h|⟨c,h⟩<;>(rw[Eb e]at h;cases h)
section
variable [Be K]
theorem eW{r:Option Ak}(b:Bool):Ak.opt r≠.bl b:=λz=>by
 cases r with
 |none=>cases z|some c=>obtain⟨a,e⟩:=Ak.SV c;rw[Ak.opt,e]at z;cases z
theorem eX{x y:V}{r f:Option Ak}{Q:VK}(h:Ak.Rel r f)(a:Val (K:=K) H x (Ak.opt f))(b:Val (K:=K) H y (Ak.opt r))(d:(Ak.opt f).deep<=60)(q:Q (.bl false) H):YW (K:=K) x y H Q:=by
 cases h with
 |AZ=>
  cases a;cases b;exact .AZ W W q
 |@eR c i h=>
  obtain⟨j,e⟩:=Ak.SV c;obtain⟨k,g⟩:=Ak.SV i;simp only[Ak.opt]at a b d;rw[g]at a d;rw[e]at b;rw[e,g]at h;exact .tup ⟨k,j,a,b,h,d,q⟩
end
theorem ag{a:Hp}(s:AF G a):AF (ov G H a) a:=λb o e=>by
 unfold ov at e;cases h:G b with
 |some z=>rw[h]at e;cases e;exact s _ _ h|none=>rw[h]at e;exact Cn _ _ e
def Nu(H:Hp)(L:Addr):V->Prop
 | .ref p=>H p=ν/\p≠L|_=>True
def Nt(S:Addr->Prop):V->Prop
 | .ref p=>S p|_=>True
variable{S:Addr->Prop}
theorem Nt.up{T:Addr->Prop}(h:Nt S v)(s:∀p,S p->T p):Nt T v:=by
 cases v<;>first|trivial|exact s _ h
noncomputable def Qh:HO->List V
 | .lst vs=>vs| .dK kvs=>kvs.map (·.2)| .Ca _ u=>Qh u|_=>[]
theorem Pt.EE{a b:List Pt}(p:a.Perm b):Pt.AM a=Pt.AM b:=by
 induction p with
 |nil=>rfl|cons x _ c=>simp only[Pt.AM,c]|swap x y r=>simp only[Pt.AM];exact Nat.add_left_comm _ _ _|trans _ _ d e=>exact d.trans e
def refs(ws:List V):List Addr:=ws.filterMap fun| .ref p=>Z p|_=>ν
variable{ws:List V}
theorem Lc:p∈refs ws↔V.ref p∈ws:=by
 unfold refs;rw[Z4];constructor
 .rintro⟨v,a,e⟩;cases v<;>simp at e;subst e;exact a
 .exact λh=>⟨_,h,W⟩
theorem Vl{a:Type}{l:List a}{x:a}(h:l[i]?=Z x):l.set i x=l:=by
 obtain⟨b,c⟩:=zd h;rw[<-c];exact List.set_getElem_self b
variable{L:Addr}{o:HO}
section
variable [Be K]
inductive OU(H a:Hp)(L:Addr):V->Pt->Prop
 |int (i:Int):OU H a L (.int i) (.int i)
 |str (x:Str):OU H a L (.str x) (.str x)
 |lst {p:Addr} {vs:List V} {ts:List Pt} (n:H p=ν) (ne:p≠L) (e:a p=Z (.lst vs)) (r:AR (K:=K) H vs ts):OU H a L (.ref p) (.lst ts)
 |Ah {p:Addr} {ks:List Str} {vs:List V} {ts:List Pt} (n:H p=ν) (ne:p≠L) (e:a p=Z (.dK (Bo ks vs))) (l:ks.length=vs.length) (r:AR (K:=K) H vs ts):OU H a L (.ref p) (.Ah ks ts)
theorem OU.up{a b:Hp}{w:V}{u:Pt}(h:OU (K:=K) H a L w u)(s:∀p o,w=.ref p->a p=Z o->b p=Z o):OU (K:=K) H b L w u:=by
 cases h with
 |int i=>exact .int i|str x=>exact .str x|lst n ne e r=>exact .lst n ne (s _ _ W e) r|Ah n ne e l r=>exact .Ah n ne (s _ _ W e) l r
theorem OU.val{a:Hp}{w:V}{u:Pt}(h:OU (K:=K) H a L w u)(s:AF H G)(g:∀p o,w=.ref p->a p=Z o->G p=Z o):Val (K:=K) G w u:=by
 cases h with
 |int i=>exact .int i|str x=>exact .str x|lst n ne e r=>exact .lst (.inl (g _ _ W e)) (r.up s)|Ah n ne e l r=>exact .Ah (.inl (g _ _ W e)) (BI l) (by rw[CJ l];exact r.up s)
theorem OU.nu{a:Hp}{w:V}{u:Pt}(h:OU (K:=K) H a L w u):Nu H L w:=by
 cases h with
 |int i=>trivial|str x=>trivial|lst n ne e r=>exact⟨n,ne⟩|Ah n ne e b r=>exact⟨n,ne⟩
structure Cp(S:Addr->Prop)(H Hi:Hp)(L:Addr)(tv:V)(t:Pt)(X ws:List V)(us:List Pt):Prop where
 s:AF H Hi
 nL:H L=ν
 eL:Hi L=Z (.lst ws)
 tr:Val (K:=K) (CU L Hi) tv t
 nt:Nt S tv
 sn:∀p,S p->H p=ν/\p≠L/\Hi p≠ν
 len:ws.length=us.length
 sh:∀(j:Nat) w u,ws[j]?=Z w->us[j]?=Z u->OU (K:=K) H Hi L w u
 nd:(refs (X++ws)).Nodup
 cl:∀p o,S p->Hi p=Z o->V.ref p∈X++ws∨∀x∈Qh o,Nt S x
theorem Cp.done{c:Hp}{j:V}(C:Cp (K:=K) S H c L j t [] [] [])(d:t.doc):Val (K:=K) (nw H c) j t:=by
 have m:∀{a:Addr}{u:HO},Rd (CU L c) a u->Nt S (.ref a)->Rd (nw H c) a u/\∀x∈Qh u,Nt S x:=λ{a u} h n=>by
  unfold Rd at h⊢;rw[Bj (C.sn a n).2.1]at h;rw[BC (C.sn a n).1];refine⟨h,?_⟩;rcases h with h|⟨o,h⟩<;>exact(C.cl a _ n h).resolve_left GE
 refine @Val.rec K _ (CU L c) (λv t _=>t.doc->Nt S v->Val (K:=K) (nw H c) v t) (λf e _=>Pt.Cr e->(∀x∈f,Nt S x)->AR (K:=K) (nw H c) f e) (λi _ _=>.int i) (λx _ _=>.str x) (λb _ _=>.bl b) (λ_ _=>.AZ) ?_ ?_ ?_ (λ_ _=>.nil) ?_ j t C.tr d C.nt
 .intro a f e h _ g d n;obtain⟨k,l⟩:=m h n;exact .lst k<|g d l
 .intro a f e h _ g d;exact absurd d<|by simp[Pt.doc]
 .intro a p y e h q _ g d n;simp only[Pt.doc]at d;obtain⟨k,l⟩:=m h n;exact .Ah k q<|g d.2.2.2.2 l
 .intro v t f e _ _ r s d n;simp only[Pt.Cr]at d;exact .cons (r d.1<|n v d9)<|s d.2 λx w=>n x<|cr _ w
inductive Rp(x c:V):HO->HO->Prop
 |lst {vs:List V} {i:Nat} (h:vs[i]?=Z x):Rp x c (.lst vs) (.lst (vs.set i c))
 |dK {ks:List Str} {vs:List V} {j:Nat} (l:ks.length=vs.length) (h:vs[j]?=Z x):Rp x c (.dK (Bo ks vs)) (.dK (Bo ks (vs.set j c)))
theorem DZ(a b:List V):refs (a++b)=refs a++refs b:=List.filterMap_append
theorem OU.at{a:Hp}{u:Pt}(h:OU (K:=K) H a L (.ref p) u):a p≠none:=by
 cases h with
 |lst n ne e r=>rw[e];exact λz=>nomatch z
 |Ah n ne e b r=>rw[e];exact λz=>nomatch z
theorem Cp.wt{a:Hp}{c:V}{X:List V}(C:Cp (K:=K) S H a L c t X ws us){w:V}(h:w∈ws):∃u,OU (K:=K) H a L w u:=by
 obtain⟨j,b⟩:=p9 h;obtain⟨u,d⟩:=BH us j (by rw[<-C.len];exact Cd b);exact⟨u,C.sh j w u b d⟩
theorem Cp.put{n k:Hp}{a:Addr}{T x c:V}{u:Pt}{o':HO}(C:Cp (K:=K) S H n L T t [.ref a] ws us)(d:t.doc)(du:u.doc)(U:n a=Z o)(na:H a=ν)(X:a≠L)(M:AF n k)(fc:∀p,c=.ref p->n p=ν)(hc:OU (K:=K) H k L c u)(Y:Val (K:=K) H x u)(rp:Rp x c o o'):
  Cp (K:=K) (λp=>S p∨c=.ref p) H (upd (upd k a o') L (.lst (ws++[c]))) L T t [.ref a] (ws++[c]) (us++[u]):=by
 have E:∀{b:Addr}{e:HO},b≠a->b≠L->k b=Z e->upd (upd k a o') L (.lst<|ws++[c]) b=Z e:=λG D h=>by rw[AH D,AH G];exact h
 have hA:upd (upd k a o') L (.lst<|ws++[c]) a=Z o':=(AH X).trans AD;have hL:upd (upd k a o') L (.lst<|ws++[c]) L=Z (.lst<|ws++[c]):=AD;have out:∀b e,b≠a->b≠L->upd (upd k a o') L (.lst<|ws++[c]) b=Z e->k b=Z e:=λb e G D h=>by rw[AH D,AH G]at h;exact h
 generalize upd (upd k a o') L (.lst<|ws++[c])=m at E hA hL out⊢;have N:=C.nd;rw[DZ]at N;have aw:V.ref a∉ws:=λh=>(A7.mp N).2.2 a (by simp[refs]) a (Lc.mpr h) W;have sN:AF H m:=λb e h=>E (λz=>by rw[z,na]at h;cases h) (λz=>by rw[z,C.nL]at h;cases h)<|M _ _<|C.s _ _ h;have sG:AF H (CU L m):=λb e h=>by rw[Bj λz=>by rw[z,C.nL]at h;cases h];exact sN _ _ h
 have f:OU (K:=K) H m L c u:=hc.up λp e z h=>by
  subst z;exact E (λz=>by have:=fc p W;rw[z,U]at this;cases this) hc.nu.2 h
 have vc:Val (K:=K) (CU L m) c u:=f.val sG λp e z h=>by subst z;rw[Bj f.nu.2];exact h
 have vx:=Y.up sG;refine⟨sN,C.nL,hL,?_,C.nt.up λp h=>.inl h,λp h=>?_,by simp[C.len],λj w u' hw I=>?_,?_,λp e J h=>?_⟩
 .have rd:∀{b:Addr}{q:HO},b≠a->Rd (CU L n) b q->Rd (CU L m) b q:=λ{b q} F h=>h.up λe h=>by
   by_cases z:b=L
   .unfold CU at h;rw[if_pos z]at h;cases h
   .rw[Bj z]at h⊢;exact E F z<|M _ _ h
  have R:CU L n a=Z o:=by rw[Bj X];exact U
  have aN:CU L m a=Z o':=by rw[Bj X];exact hA
  have ex:∀{g:List Pt}{A:List V}{i:Nat},AR (K:=K) (CU L m) A g->Pt.Cr g->A[i]?=Z x->AR (K:=K) (CU L m) (A.set i c) g:=λ{g A i} r ζ h=>by
   obtain⟨ti,O,vi⟩:=r.get h;have e:=Val.one u vx vi du<|Pt.Af ζ _<|zf O;subst e;have:=AR.Zu vc r i;rwa [Vl O]at this
  refine @Val.rec K _ (CU L n) (λv t _=>t.doc->Val (K:=K) (CU L m) v t) (λA g _=>Pt.Cr g->AR (K:=K) (CU L m) A g) (λi _=>.int i) (λx _=>.str x) (λb _=>.bl b) (λ_=>.AZ) ?_ ?_ ?_ (λ_=>.nil) ?_ T t C.tr d
  .intro b A g h _ B d;by_cases F:b=a
   .subst F;cases rp with
    |lst hi=>
     rcases h with h|⟨_,h⟩<;>(rw[R]at h;cases h);exact .lst (.inl aN) (ex (B d) d hi)
    |dK l P=>rcases h with h|⟨_,h⟩<;>(rw[R]at h;cases h)
   .exact .lst (rd F h)<|B d
  .intro b A g h _ B d;exact absurd d<|by simp[Pt.doc]
  .intro b kvs ks g h hk _ B d;simp only[Pt.doc]at d;by_cases F:b=a
   .subst F;cases rp with
    |lst hi=>rcases h with h|⟨_,h⟩<;>(rw[R]at h;cases h)
    |dK l P=>
     rcases h with h|⟨_,h⟩<;>(rw[R]at h;cases h);have B:=B d.2.2.2.2;rw[CJ l]at B;rw[BI l]at hk;refine .Ah (.inl aN) (by rw[BI<|by rw[E6];exact l];exact hk) ?_;rw[CJ<|by rw[E6];exact l];exact ex B d.2.2.2.2 P
   .exact .Ah (rd F h) hk<|B d.2.2.2.2
  .intro v t A g _ _ i1 i2 d;simp only[Pt.Cr]at d;exact .cons (i1 d.1)<|i2 d.2
 .rcases h with h|h
  .obtain⟨G,D,h3⟩:=C.sn p h;refine⟨G,D,?_⟩;by_cases Q:p=a
   .rw[Q,hA];exact λz=>nomatch z
   .cases e:n p with
    |none=>exact absurd e h3|some x=>rw[E Q D (M _ _ e)];exact λz=>nomatch z
  .subst h;exact⟨f.nu.1,f.nu.2,f.at⟩
 .by_cases P:j<ws.length
  .rw[q8 P]at hw;rw[q8<|by rw[<-C.len];exact P]at I;have h:=C.sh j w u' hw I;refine h.up λp e z h'=>?_;subst z;exact E (λz=>aw<|by rw[<-z];exact zf hw) h.nu.2<|M _ _ h'
  .have e:j=ws.length:=by
    have:=Cd hw;rw[q5,x9]at this;lia
   subst e;rw[w8<|bv _,Tk]at hw;rw[C.len,w8<|bv _,Tk]at I;cases hw;cases I;exact f
 .rw[<-zx,DZ];refine A7.mpr ⟨C.nd,?_,λp hp q hq z=>?_⟩
  .cases c<;>simp[refs]
  .subst z;have um:=io.mp<|Lc.mp hq;have fp:=fc p um.symm;rcases rc.mp (Lc.mp hp)with h|h
   .cases io.mp h;rw[U]at fp;cases fp
   .obtain⟨u',I⟩:=C.wt h;exact I.at fp
 .by_cases Q:p=a
  .subst Q;exact .inl GE
  .rcases J with J|J
   .obtain⟨G,D,h3⟩:=C.sn p J;cases e':n p with
    |none=>exact absurd e' h3|some y=>
     have:=E Q D<|M _ _ e';rw[h]at this;cases this;exact(C.cl p _ J e').imp (λh=>by rw[<-zx];exact L7 _ h) λh x Y=>(h x Y).up λp h=>.inl h
   .exact .inl<|by rw[<-J];simp
structure kS(H0 H H':Hp)(c:V)(t:Pt):Prop where
 sc:AF H H'
 fc:∀p,c=.ref p->H p=ν
 sh:∀L,c≠.ref L->OU (K:=K) H0 H' L c t
theorem Cp.start{d:Hp}{a:V}(o:kS (K:=K) H H d a t)(g:d L=ν):Cp (K:=K) (λp=>a=.ref p) H (upd d L (.lst [a])) L a t [] [a] [t]:=by
 have f:a≠.ref L:=λz=>by
  subst z;obtain⟨M,k⟩:∃M:Addr,V.ref L≠.ref M:=⟨L+1,λz=>by have:=V.ref.inj z;simp at this⟩;exact(o.sh M k).at g
 have sh:=o.sh L f;have up:∀p e,a=.ref p->d p=Z e->upd d L (.lst [a]) p=Z e:=λp e z h=>(AH λy=>f<|by rw[z,y]).trans h;have i:AF H (upd d L<|.lst [a]):=o.sc.trans<|AF.new g;have c:=sh.up up;refine⟨i,o.sc.free g,AD,c.val (λb e h=>?_) λp e z h=>?_,by cases a<;>first|trivial|rfl,λp h=>by subst h;exact⟨sh.nu.1,sh.nu.2,c.at⟩,rfl,λj w u hw l=>?_,?_,λp e m h=>.inl<|by rw[<-m];simp⟩
 .rw[Bj λz=>by rw[z,o.sc.free g]at h;cases h];exact i _ _ h
 .subst z;rw[Bj sh.nu.2];exact h
 .cases j with
  |zero=>cases hw;cases l;exact c|succ j=>simp at hw
 .cases a<;>simp[refs]
theorem Cp.pop{a c:Hp}{i w:V}{u:Pt}(C:Cp (K:=K) S H a L i t [] (ws++[w]) (us++[u]))(l:ws.length=us.length)(o:c L=Z (.lst ws))(s:∀b e,b≠L->a b=Z e->c b=Z e):Cp (K:=K) S H c L i t [w] ws us:=by
 have up:AF (CU L a) (CU L c):=λb e h=>by
  by_cases z:b=L
  .unfold CU at h;rw[if_pos z]at h;cases h
  .rw[Bj z]at h⊢;exact s b e z h
 refine⟨λb e h=>s b e (λz=>by rw[z,C.nL]at h;cases h)<|C.s _ _ h,C.nL,o,C.tr.up up,C.nt,λp h=>?_,l,λj q r hw k=>?_,?_,λp e m h=>?_⟩
 .obtain⟨n,d,f⟩:=C.sn p h;refine⟨n,d,?_⟩;cases e:a p with
  |none=>exact absurd e f|some x=>rw[s p x d e];exact λz=>nomatch z
 .have h:=C.sh j q r (by rw[q8<|Cd hw];exact hw) (by rw[q8<|Cd k];exact k);exact h.up λp e z v=>s p e (by subst z;exact h.nu.2) v
 .have:=C.nd;rw[N6,DZ]at this;rw[DZ];exact(List.perm_append_comm.nodup_iff).mp this
 .obtain⟨n,d,f⟩:=C.sn p m;cases g:a p with
  |none=>exact absurd g f|some y=>
   have:=s p y d g;rw[h]at this;cases this;exact(C.cl p _ m g).imp (λh=>by simp at h⊢;exact h.symm) id
theorem Cp.close{b:Hp}{c w:V}(C:Cp (K:=K) S H b L c t [w] ws us)(h:∀p o,w=.ref p->b p=Z o->∀x∈Qh o,Nt S x):Cp (K:=K) S H b L c t [] ws us:=by
 have nd:=C.nd;rw[DZ]at nd;refine{C with nd:=by simpa using(A7.mp nd).2.1,cl:=λp o d e=>?_};rcases C.cl p o d e with a|a
 .rcases rc.mp a with a|a
  .exact .inr<|h p o (io.mp a).symm e
  .exact .inl a
 .exact .inr a
theorem kS.of{a:Hp}(b:H p=ν)(c:∀L,p≠L->OU (K:=K) a (upd H p o) L (.ref p) t):kS (K:=K) a H (upd H p o) (.ref p) t:=⟨AF.new b,λq z=>by cases z;exact b,λL d=>c L λz=>d<|by rw[z]⟩
inductive ah(vs:List V)(H:Hp)(Q:VK):Prop|mk(a:Hp)(v:V)(t:Pt)(d:vs=[v])(e:AF a H)(f:Val (K:=K) a v t)(g:t.doc)(h:∀c b,kS (K:=K) a H b c t->Q c b)
def YY:Sp:=λa H Q _=>ah (K:=K) a H Q
inductive YZ(vs:List V)(H:Hp)(Q:VK):Prop|mk(v:V)(t:Pt)(b:vs=[v])(c:Val (K:=K) H v t)(d:t.doc)(e:t.size<=900)(f:∀w a,AF H a->Val (K:=K) (nw H a) w t->Q w a)
def UI:Sp:=λa H Q _=>YZ (K:=K) a H Q
end
theorem Dj(h:H p=ν):∃a,upd H p o=a/\AF H a/\a p=Z o:=⟨_,W,AF.new h,AD⟩
variable{pos:Pos}{x:Str}
theorem Ay(K:zg){j:Int}(i:Nat){y:_}{b c:Pos}(d:X.N[i]?=Z x:=by rfl)(f:jt X.env.scope x:=by first|exact Y3 rfl|exact O9 (Y3 rfl)|exact O9 (O9 rfl))(g:(x==("__debug__":Str))=false:=by decide)(a:(x==("__classdict__":Str))=false:=by decide)(e:X.K=K:=by rfl):PE X (.Subscript (.Name x b) (.Constant (.int j) y c) pos) (Oo (RO K) (GV i) (tC (.int j))):=by
 subst e;exact MK WO (pv i d f g a) AG λ_ _=>rfl
variable{e:C5}{a:TE}
theorem Ad(i:Nat){pos':Pos}(b:X.N.Nodup)(c:PE X e a)(d:X.N[i]?=Z x:=by rfl)(f:Loc X.env.scope x:=by exact Y3 W)(g:aaE e (Z (.Name x pos')) pos.line X.env=pure false:=by rfl)(h:X.fn x=true∨X.env.scope.names.lookup x=Z .local:=by first|exact .inl rfl|exact .inr rfl|assumption):
  PS X (.Assign [.Name x pos'] e pos) (ZC a (BY i)):=DD b d f c g h
theorem Ld{x y z:V}:[x,y,z].length<=sizeLine:=AX<|show 3<=1000 by decide
theorem Dn(i:Nat)(a:X.N.Nodup)(b:X.N[i]?=Z x:=by rfl)(c:Loc X.env.scope x:=by exact Y3 W)(d:X.fn x=true∨X.env.scope.names.lookup x=Z .local:=by first|exact .inl rfl|exact .inr rfl|assumption):PG X (.Name x pos) (BY i):=NH a b c d
variable{st:Stmt}
section
variable{P:wv} {w:y8} {mg:Str->Option ce} {base:Heap}
theorem Ul.oq{qual:Str}{f:Addr}{fd:AT}{ps:List Str}{k:Nat}{sp:Sp}(F:Ul K x qual st f fd)(N:List Str)(a:∀{b:ce} {A:G1} {outer:List Env} {s:fx} {vs:List V} {E:XK} (H:Hp) (e:Ends),(∀{σ H},e.rt .AZ H->e.nx σ H)->N.Nodup->(A.deeper (aan qual (Bg st) s.heap.objs.size f b)).units+1<cLine->Bn k (A.deeper (aan qual (Bg st) s.heap.objs.size f b))->sp vs H e.rt E->
   ∃t,Oh (RN CA P w K mg base N qual (Bg st) f b A outer s H E).gg (DN st) t/\t e (start N vs) H)(S:HQ N ps (Bg st):=by exact{})(len:∀vs H Q E,sp vs H Q E->vs.length=ps.length:=by intro _ _ _ _ h;first|(obtain⟨⟩:=h;subst_vars;rfl)|(obtain⟨_,⟨⟩⟩:=h;subst_vars;rfl)|(obtain⟨_,_,_,_,_,_,rfl,_⟩:=h;rfl)|(repeat obtain⟨_,h⟩:=h);subst_vars;rfl):Ar P w K mg base CA (k+1) f fd ps sp:=F.ok S len λ_ _ _ _ H _ e _ d c h=>a H e d S.nd (bg c) c h
end
theorem M'{i:Int}{j:_}{es:List C5}{t:TA}(h:PA X es t):PA X (.Constant (.int i) j pos::es) (DB (tC (.int i)) t):=AB AG h
theorem BM{j k:Nat}{ps:List Str}{sp:Sp}{p:Pos}{es:List C5}{t:TA}(D:Df X.prog X.w X.K X.mg X.base x ps k sp)(d:Bn j X.A)(g:PA X (e::es) t)(h:Gl X x:=by rfl)(a:(x==("__debug__":Str))=false:=by decide)(i:q7 (e::es) X.env=(false,GM e X.env)::q7 es X.env:=by rfl)(c:(N1 pos (q7 es X.env)).any (·.1)=false:=by rfl)(l:k<=j:=by first|decide|lia):PE X (.Call (.Name x p) (e::es) [] pos) (Ow sp [] E0 t):=by
 obtain⟨f,n,k,b,m,G⟩:=D.ex;exact ZL G (d.mono l) h m k b .nil TB g a i c
theorem AU(h:PE X e a)(hs:q7 [e] X.env=(false,GM e X.env)::q7 [] X.env:=by rfl):PA X [e] (DB a Ia):=AB h BL hs
theorem FN(K:zg){a b:C5}{c d:TE}(f:PE X a c)(g:PE X b d)(hs:S_ b:=by exact λ_ _=>rfl)(e:X.K=K:=by rfl):PE X (.Subscript a b pos) (Oo (WN K) c d):=by
 subst e;exact MK ZN f g hs
theorem Qi{o i:C5}{ty:TE}(b:X.A.units+1<cLine)(c:PE X o a)(d:PE X i ty)(hs:dE i:=by exact λ_ _=>rfl):PE X (.Subscript o i pos) (Wa a ty):=ZU b c d hs
theorem cmp{b:Pos}{iter a:C5}{c:TI}{d:TE}{scope:Scope}(fv:List Str)(fs:List Nat)(e:PI X (.Name x b) iter c)(f:∀C g h i,PE (PN X (x::fv) scope C g h i) a d)(j:X.calm=true:=by rfl)(ok:DE X scope x fv fs:=by exact .of (by rfl))(k:∀x,J0 iter X.env x=pure x:=by intro _;rfl):PE X (.ListComp a [⟨.Name x b,iter,[],0⟩] scope pos) (Kc c Jb d fs):=HZ j ok e (λ_ _ _ _=>HY) f k
variable{U:String}
theorem Ya{r:List V->Hp->VK->Prop}{p q:Pos}{y:Str}(c:Ba X (.builtin "isinstance") r)(T:Txt X.mg)(d:PE X e a)(f:X.mg y=ν)(g:v7 y=Z (.type U))(h:Gl X "isinstance":=by rfl)(i:Gl X y:=by rfl)(j:y≠"__name__":=by decide)(k:(y==("__debug__":Str))=false:=by decide)(b:q7 [e,.Name y q] X.env=(false,GM e X.env)::q7 [.Name y q] X.env:=by rfl):PE X (.Call (.Name "isinstance" p) [e,.Name y q] [] pos) (c_ r (DB a (DB (tC (.ty U)) Ia))):=Am c h T.isinstance Hd (AB d (AB (NF i f g W j k) BL) b) ac ac b
theorem JQ(K:zg)[Be K]{p q:Pos}{y:Str}(T:Txt X.mg)(b:PE X e a)(c:X.mg y=ν)(d:v7 y=Z (.type U))(f:X.K=K:=by rfl)(g:Gl X "isinstance":=by rfl)(h:Gl X y:=by rfl)(i:y≠"__name__":=by decide)(j:(y==("__debug__":Str))=false:=by decide)(k:q7 [e,.Name y q] X.env=(false,GM e X.env)::q7 [.Name y q] X.env:=by rfl):PE X (.Call (.Name "isinstance" p) [e,.Name y q] [] pos) (c_ (bu K) (DB a (DB (tC (.ty U)) Ia))):=by
 subst f;exact Ya Uy T b c d g h i j k
theorem BE{j:Int}(h:0<j:=by decide):0<j:=h
theorem By{A B:Prop}(h:A:=by decide)(a:B:=by decide):A/\B:=⟨h,a⟩
theorem Sg{a iter:C5}{body:List Stmt}{b:TI}{g:TG}{c:TS}(d:PI X a iter b)(e:PG X a g)(f:Oh X body c)(h:aes (m7 X.prog X.w) X.A X.env X.xe:=by exact Re)(i:X.calm=true:=by rfl)(j:∀x,J0 iter X.env x=pure x:=by intro _;rfl):PS X (.For a iter body [] pos) (gw b g c):=cn h i d e f j
theorem C_{c:Bool}{A B:Prop}(h:B)(a:c=false:=by decide+kernel):if c=true then A else B:=BP a h
theorem Ep{c:Bool}{A B:Prop}(h:A)(a:c=true:=by decide+kernel):if c=true then A else B:=Bf a h
inductive FA(K:zg)(x:Str)(st:Stmt):Prop|mk(f:Addr)(fd:AT)(F:Ul K x x st f fd)(a:P7 K zj x=Z (Z (.ref f)))
theorem fa{f:Addr}{e:ce}{g h:Option Addr}{d:Array (Option ce)}{kV doc i b ct:ce}(a:P7 K zj x=Z (Z (.ref f)))(l:K.lookup f=Z ⟨e,g,.func (K1 x x (EN st) (DN st) (Bg st) .none kV doc i h b ct),d⟩)(c:T3 K b x=true)(k:A4 K (.ref f)=true):FA K x st:=⟨_,_,We l c k,a⟩
end L2
namespace JR
open PySem L2
def top(i:Nat):Stmt:=PySem.Challenge.pw_patchbough_k43_what_both_let_in.main.body.getD i<|.Pass ⟨0,0,0,0⟩
abbrev Fq(K:zg)(x:Str)(i:Nat)(f:Addr)(d:AT):Prop:=Ul K x x (top i) f d
abbrev Fb(K:zg)(x:Str)(i:Nat):Prop:=FA K x<|top i
abbrev ai:Stmt:=top 16
abbrev Sh:Stmt:=top 51
end JR
namespace JR
open PySem L2
variable{fd:AT}{f d:Addr}{n:Nat}
section
variable{P:wv} {w:y8} {K:zg} [Be K] {mg:Str->Option ce} {base:Heap}
theorem IT{i:Addr}{e:AT}{g:Sp}{C:Str}(F:Fq K "gathered" 1 f fd)(T:Txt mg)(M:A4 K (.ref i)=true)(N:Binds K e [C] [])(O:Ar P w K mg base CA 3 i e [C] g):Ar P w K mg base CA 4 f fd lqw (Jz i g):=by
 refine F.oq ["root","inner","found","at"] λH _ _ c _ R h=>?_;obtain⟨v,I,S,rfl,U,st,q⟩:=h;have l:Bn 3 _:=R.mono ac;refine⟨_,(AA (Ad 2 c<|Ap<|AU<|pv 0)<|AA (Ad 3 c AG)<|AA (HP Re (AK FT (pv 3) (CH K T<|pv 2)<|AL _)<|AA (Bq<|kG K (pv 2)<|Kl (pv 1) O l M N .nil TB<|AU<|FN K (pv 2)<|pv 3)<|AE<|Ad 3 c<|AN Bm (pv 3) AG)<|AE<|AI<|pv 2),?_⟩;refine⟨_,W,BZ,λL j=>?_⟩;have D:=AF.new (o:=.lst [v]) j;dsimp only[BY,JT];refine Jo (λm r d=>∃(b:List V)(k:Nat),r=[Z v,Z<|.ref i,Z<|.ref L,Z<|.int (k:Int)]/\AF H d/\d L=Z (.lst b)/\I k b d m/\k<=b.length)
  S ⟨[v],0,W,D,AD,U _ D,j5 _⟩ ?_ (λr H Q Q' h ⟨X,Y,ζ,e2,a1,n1,e3,l1,i1,j1,e4,e5,b1,e6,q⟩=>⟨X,Y,ζ,e2,a1,n1,e3,l1,i1,j1,e4,e5,b1,e6,h _ _ q⟩)
 rintro m r d _ go ⟨b,k,rfl,s,a,E,hk⟩;refine⟨_,W,_,W,L,_,W,.inl<|Ab.of a,_,_,W,W,_,W,?_⟩;refine Wf (λt=>?_) λt=>?_
 .have u:k<b.length:=by
   have:=of_decide_eq_true t;lia
  obtain⟨x,G⟩:=BH b k u;exact⟨_,W,.inl ⟨W,_,Ab.of a⟩,_,W,W,_,W,_,W,L,_,_,_,W,W,Ab.of a,Aa G,st L k b d m x j s a E G _ λp y H2 J hp hz ⟨m',hm,A⟩=>⟨L,p,_,_,W,W,J _ _ a,hp,hz,_,W,_,_,W,W,go.n ⟨m',hm,b++y,k+1,W,(s.trans J).put j,AD,A,by rw[q5];lia⟩⟩⟩
 .have B:b.length<=k:=by
   refine ac8 λz=>t<|decide_eq_true ?_;lia
  cases adq hk B;exact⟨_,W,q L b d m s j a E⟩
theorem Le{s B:Addr}{t u:AT}{k y:Sp}{px pa pb:Str}(F:Fq K "folded" 2 f fd)(T:Txt mg)(a:Df P w K mg base "gathered" lqw 4 (Jz s k))(kI:A4 K (.ref s)=true)(bI:Binds K t [px] [])(GI:Ar P w K mg base CA 3 s t [px] k)(kJ:A4 K (.ref B)=true)(bJ:Binds K u [pa,pb] [])(GJ:Ar P w K mg base CA (n+5) B u [pa,pb] y):Ar P w K mg base CA (n+6) f fd lqo (J_ s B k y):=by
 refine F.oq ["root","inner","join","found","told","end","at","start"] λH _ _ d _ Q h=>?_;obtain⟨v,I,m0,rfl,i0,st,q⟩:=h;have R:Bn 3 _:=Q.mono z_;have S:Bn (n+5) _:=Q.mono z_;refine⟨_,(AA (Ad 3 d<|BM a Q<|AB (pv 0)<|AU<|pv 1)<|AA (Ad 4 d<|AN WX (Ap<|AU Dx)<|CH K T<|pv 3)<|AA (Ad 5 d<|CH K T<|pv 3)<|AA (Sg (VJ W T.range<|AB (AN IY (CH K T<|pv 3) AG)<|AB (Oq KP AG)<|AU<|Oq KP AG) (Dn 6 d)<|AA (Ad 7 d<|AN IY (pv 5)<|CH K T<|Kl (pv 1) GI R kI bI .nil TB<|AU<|FN K (pv 3)<|pv 6)<|AA (RI (Kl (pv 2) GJ S kJ bJ .nil TB<|AB (FN K (pv 3)<|pv 6)<|AU<|DP (r:=WQ K) Jm (pv 4) (Dp<|pv 7)<|Dp<|pv 5)<|RH (pv 4) (pv 6) set_list)<|AE<|Ad 5 d<|pv 7)<|AE<|AI<|FN K (pv 4) AG),?_⟩;refine⟨_,W,_,W,v,I,m0,W,i0,st,λp e H1 m s1 np C iv=>?_⟩;obtain⟨cs,D⟩:=q p e H1 m s1 np C iv;have sc:=D.sc;have lc:=D.lc;have l9:=D.l9;refine⟨BZ,.mk λp0 H2 kU E f0=>?_⟩;refine⟨_,W,p,_,W,.inl<|Ab.of<|E _ _ C,p0,_,_,W,W,f0,z_,z_,QB<|by simp;lia,.mk λl H3 z tT U=>?_⟩;have e1:(r4 ((e.length:Nat):Int).toNat [V.AZ]).flatten=r4 e.length .AZ:=by
  rw[A8];generalize e.length=n
  induction n with
  |zero=>rfl|succ n ih=>rw[Gc,O6,ih];rfl
 rw[e1]at U;have A:=E.trans tT;have o:=A _ _ C;obtain⟨J,G⟩:=D.on l H3 A (E.free z) U;refine⟨_,W,p,_,W,.inl<|Ab.of o,?_⟩;refine⟨_,W,p,_,W,.inl<|Ab.of o,_,_,W,W,_,W,_,W,e.length,W,z_,?_⟩;refine XM (n:=e.length) (λi X j=>∃(b:List V)(Y ζ:Option V),X=[Z v,Z<|.ref s,Z<|.ref B,Z<|.ref p,Z<|.ref l,Z<|.int ((1+(cs.take i).sum:Nat):Int),Y,ζ]/\j p=Z (.lst e)/\j l=Z (.lst b)/\b.length=e.length/\J i b j) ⟨_,ν,ν,?_,o,U,GE,G.j0⟩ ?_ ?_
 .rw[<-lc,xL,sc,lc];rfl
 .rintro i X j _ go hi ⟨b,Y,ζ,rfl,g,L,lt,M⟩;obtain⟨x,N⟩:=BH e i hi;obtain⟨c,hc⟩:=BH cs i z_;have sm:=Xr hc;have sl:=eN (cs:=cs) (i:=i+1);refine⟨_,W,_,W,W,_,W,_,W,p,_,_,_,W,W,Ab.of g,Aa N,G.RE i b j x c M N hc _ λpI kP H4 O hI uc=>?_⟩;refine⟨pI,_,W,.inl<|Ab.of hI,_,_,W,W,?_⟩;have uo:(((1+(cs.take<|i+1).sum:Nat):Int))-((kP.length:Nat):Int)=((1+(cs.take i).sum:Nat):Int):=by lia
  rw[uo];have uq:=O _ _ L;have cP:=O _ _ g;refine⟨_,W,W,_,W,_,W,p,_,_,_,W,W,Ab.of cP,Aa N,?_⟩;refine⟨_,W,_,W,_,W,_,W,_,W,l,b,W,Ab.of uq,.mk λpS H5 uu t5 f5=>?_⟩;rw[XS b _ _ z_ z_,show 1+(cs.take<|i+1).sum-(1+(cs.take i).sum)=c by lia]at f5;refine G.join i b j x c pS H5 M N hc lt L g (O.trans t5) (O.free uu) f5 _ λw H6 kW uv j6=>?_;refine⟨_,W,_,W,l,b,_,i,W,W,uv,by unfold Uc;rw[if_pos z_,if_pos z_,A8],?_⟩;have pe:p≠l:=EK (E _ _ C) z;exact⟨_,W,go.n ⟨b.set i w,_,_,W,by rw[AH pe];exact kW,AD,by rw[E6];exact lt,j6⟩⟩
 .rintro X j ⟨b,Y,ζ,rfl,g,L,lt,M⟩;obtain⟨w,hw⟩:=BH b 0 z_;exact⟨_,W,l,b,0,w,W,W,Ab.of L,Aa hw,G.fin b j w M hw⟩
theorem Vm{e:Addr}{b c:AT}(F:Fq K "folded" 2 f fd)(T:Txt mg)(a:Df P w K mg base "gathered" lqw 4 (Jz d IC))(g:A4 K (.ref d)=true)(i:Binds K b lqu [])(j:Ar P w K mg base CA 3 d b lqu IC)(k:A4 K (.ref e)=true)(l:Binds K c lqx [])(m:Ar P w K mg base CA 5 e c lqx Gp):Ar P w K mg base CA 6 f fd lqo (Nk d e):=(Le (n:=0) F T a g i j k l m).imp λ_ _ _ _ h=>aP h
theorem Qj{e:Addr}{b c:AT}(F:Fq K "folded" 2 f fd)(T:Txt mg)(a:Df P w K mg base "gathered" lqw 4 (Jz d KH))(g:A4 K (.ref d)=true)(i:Binds K b ["pair"] [])(j:Ar P w K mg base CA 3 d b ["pair"] KH)(k:A4 K (.ref e)=true)(l:Binds K c lqD [])(m:Ar P w K mg base CA 8 e c lqD OM):Ar P w K mg base CA 9 f fd lqo (ON d e):=(Le (n:=3) F T a g i j k l m).imp λ_ _ _ _ h=>ab h
theorem Sj(F:Fq K "steps_of" 4 f fd)(T:Txt mg):Ar P w K mg base CA 1 f fd lql Ff:=by
 refine F.oq lql λH _ _ _ _ g h=>?_;obtain⟨v,t,rfl,n,hold,q⟩:=h;refine⟨_,(AA (AO (Ag<|Ya CK T (pv 0) T.list BR) (AE<|AI<|Ai (EY W) W T.list BR<|AU<|Ki W T.range<|AU<|CH K T<|pv 0) AJ)<|AA (AO (Ag<|Ya CK T (pv 0) T.dict CC) (AE<|AI<|Am (CT W) W T.sorted CP<|AU<|pv 0) AJ)<|AE<|AI<|Ap BL),?_⟩;cases n with
 |int i=>
  exact⟨_,W,_,"list","int",W,W,.int i,_,W,AQ ⟨_,W,_,"dict","int",W,W,.int i,_,W,AQ ⟨j5 _,λp c=>q p [] _ (AF.new c) c AD W⟩⟩⟩
 |str x=>
  exact⟨_,W,_,"list","str",W,W,.str x,_,W,AQ ⟨_,W,_,"dict","str",W,W,.str x,_,W,AQ ⟨j5 _,λp c=>q p [] _ (AF.new c) c AD W⟩⟩⟩
 |bl b=>exact hold.elim|AZ=>exact hold.elim|tup _ _=>exact hold.elim|@lst a o j h r=>
  have u:j.length<=900:=hold;have e:=r.length;refine⟨_,W,_,"list","list",W,W,.lst h,_,W,As ⟨_,W,a,_,W,.inl<|.inl h,_,W,λr g=>⟨r,o.length,W,AD,am (am (bm e) u) ac,λp c=>?_⟩⟩⟩;exact q p _ _ ((AF.new g).trans<|AF.new c) ((AF.new g).free c) AD (by show _=_;rw[e])
 |@Ah a k d j h m r=>
  have y:k.length=d.length:=EU m;have z:d.length=j.length/\d.length<64:=hold;exact⟨_,W,_,"list","dict",W,W,.dK h,_,W,AQ ⟨_,W,_,"dict","dict",W,W,.dK h,_,W,As ⟨_,W,a,_,d,W,h,m,d8 (bm y) z.2,λp l A B s c perm Mr=>q p _ A s B c ⟨l,W,perm,Mr⟩⟩⟩⟩
theorem Sk(F:Fq K "inner_of" 5 f fd)(T:Txt mg)(c:Df P w K mg base "steps_of" lql 1 Ff):Ar P w K mg base CA 2 f fd lql Ho:=by
 refine F.oq lql λH _ _ _ A S h=>?_;obtain⟨G,v,t,rfl,M,B,hold,q⟩:=h;refine⟨_,(AE<|AI<|cmp lql [0] (BQ<|BM c S<|AU<|pv 0) λ_ _ _ _=>(Cm (FN K (pv 1)<|pv 0)<|Qi A (pv 1)<|pv 0)),?_⟩;refine⟨_,W,v,t,W,B.up M,hold,λp l H1 C np u st=>?_⟩;obtain⟨z,U,X,Y,le,ζ⟩:=B.kids hold st;have E:l.length<=900:=by
  cases B with
  |int i=>rw[show l=[]from st];decide|str i=>rw[show l=[]from st];decide|bl b=>exact hold.elim|AZ=>exact hold.elim|tup _ _=>exact hold.elim|@lst a vs ts h r=>rw[show l=_ from st,bi,wS];exact hold|@Ah a I ks ts h hk r=>
   obtain⟨ss,rfl,pm,so⟩:=st;rw[bi,pm.length_eq];have:=hold.2;exact am (gt this) ac
 have N:∀{i:Nat}{x:V},l[i]?=Z x->l.getD i .AZ=x:=λh=>by rw[b7,h];rfl
 refine⟨p,W,⟨_,Ab.of u⟩,?_⟩;refine DG (n:=l.length) (λi=>l.getD i .AZ) (λi=>z.getD i .AZ) (λ_=>true) (AX<|am E ac) (λi D m s d=>⟨_,_,(AF.new d).seq<|Ab.of u,zc s⟩) (λi D m v H' s d y=>?_) (λD m d=>⟨_,(AF.new d).seq<|Ab.of u,bv _⟩) (λi D m R s d r=>by exact r) (λi D m R s d _ r=>?_) λD d=>?_
 .obtain⟨e,y⟩:=y;exact⟨(N<|y _<|(AF.new d).seq<|Ab.of u).symm,e⟩
 .obtain⟨x,O⟩:=BH z i (by rw[le];exact s);have ex:z.getD i .AZ=x:=by rw[b7,O];rfl
  rw[ex]at r;have Q:=(M.trans C).trans<|AF.new (o:=.lst m) d;obtain⟨st,J,g⟩:=ζ i x O;rw[N J];rcases g with⟨a,xs,j,rfl,h,rfl,L⟩|⟨a,I,k,rfl,h,rfl,L⟩
  .exact .inl ⟨_,W,_,W,a,_,_,_,W,W,.inl<|h.up<|Q _,Aa L,r⟩
  .refine .inr ⟨_,W,_,W,a,x,W,?_,r⟩;rw[<-L];exact .inl ⟨_,e9 k,h.up<|Q _,W,W⟩
 .refine q D z U _ (C.trans<|AF.new d) (C.free d) ?_ X Y;rw[AD];congr 2;rw[X9.mpr λ_ _=>rfl];refine No (by simp[le]) λi h1 h2=>?_;simp only[aaF,Z5];rw[b7,zc h2];rfl
theorem Qk(F:Fq K "are_level" 6 f fd)(T:Txt mg):Ar P w K mg base CA 1 f fd lqg TM:=by
 refine F.oq lqg λH _ _ _ _ J h=>?_;obtain⟨x,y,s0,t,rfl,R,g,d,c,S,U,q⟩:=h;refine⟨_,(AA (AO (Ag<|JQ K T (pv 0) T.dict CC) (AE<|AI<|Cb (JQ K T (pv 1) T.dict CC)<|Bw<|BD (dY<|Bn.Dd J) (Am (CT W) W T.sorted CP<|AU<|pv 0) (Am (CT W) W T.sorted CP<|AU<|pv 1)<|AL _) AJ)<|AA (AO (Ag<|JQ K T (pv 0) T.list BR) (AE<|AI<|Cb (JQ K T (pv 1) T.list BR)<|Bw<|BD Aj (CH K T<|pv 0) (CH K T<|pv 1)<|AL _) AJ)<|AA (AO (Ag<|JQ K T (pv 0) T.tuple E_) (AE<|AI<|Cb (JQ K T (pv 1) T.tuple E_)<|Bw<|BD Aj (CH K T<|pv 0) (CH K T<|pv 1)<|AL _) AJ)<|AE<|AI<|BD (Nz (Bn.units J):DA _ _ Xi) (pv 0) (pv 1)<|AL _),?_⟩;have L:∀(l:List Str),∀z∈l.map V.str,Dk z=true:=λl z X=>by
  obtain⟨y,_,rfl⟩:=u7.mp X;rfl
 cases R with
 |bl b=>simp[Pt.doc]at d|AZ=>simp[Pt.doc]at d|tup _ _=>simp[Pt.doc]at d|int i=>
  refine⟨_,W,_,"dict","int",W,W,.n<|.int i,_,W,AQ ⟨_,W,_,"list","int",W,W,.n<|.int i,_,W,AQ ⟨_,W,_,"tuple","int",W,W,.n<|.int i,_,W,AQ ?_⟩⟩⟩;refine⟨_,W,_,W,.int i,t,.int i,g,(λ_ z=>nomatch z),.inl ⟨d,c⟩,by simp[Pt.deep],q _ H (AF.refl H) ?_⟩;cases t with
  |int j=>exact beq_iff_eq|_=>exact⟨nofun,Do⟩
 |str x=>
  refine⟨_,W,_,"dict","str",W,W,.n<|.str x,_,W,AQ ⟨_,W,_,"list","str",W,W,.n<|.str x,_,W,AQ ⟨_,W,_,"tuple","str",W,W,.n<|.str x,_,W,AQ ?_⟩⟩⟩;refine⟨_,W,_,W,.str x,t,.str x,g,(λ_ z=>nomatch z),.inl ⟨d,c⟩,by simp[Pt.deep],q _ H (AF.refl H) ?_⟩;cases t with
  |str j=>exact beq_iff_eq|_=>exact⟨nofun,Do⟩
 |@lst a Y p h r=>
  simp only[Pt.size]at S;have lx:=Pt.CQ p;have ζ:=r.length;refine⟨_,W,_,"dict","list",W,W,.n<|.lst h,_,W,AQ ⟨_,W,_,"list","list",W,W,.n<|.lst h,_,W,As ?_⟩⟩;refine⟨_,W,_,"list",t.TL,W,W,g.ty,_,W,?_⟩;cases g with
  |@lst b ws s u M=>
   simp only[Pt.size]at U;have ly:=Pt.CQ s;have lw:=M.length;refine As ⟨_,W,a,_,W,.inl<|.inl h,_,W,b,_,W,.inl<|.inl u,W,q _ H (AF.refl H) ?_⟩;show _↔p.length=s.length;rw[<-ζ,<-lw];constructor
   .intro e;have:=of_decide_eq_true e;have:((Y.length:Int))=(ws.length:Int):=V.int.inj this;lia
   .intro e;rw[e];simp
  |int i=>exact AQ (q _ H (AF.refl H) ⟨nofun,Do⟩)|str i=>exact AQ (q _ H (AF.refl H) ⟨nofun,Do⟩)|bl b=>simp[Pt.doc]at c|AZ=>simp[Pt.doc]at c|tup _ _=>simp[Pt.doc]at c|Ah _ _ _=>exact AQ (q _ H (AF.refl H) ⟨nofun,Do⟩)
 |@Ah a v A p h N r=>
  refine⟨_,W,_,"dict","dict",W,W,.n<|.dK h,_,W,As ?_⟩;refine⟨_,W,_,"dict",t.TL,W,W,g.ty,_,W,?_⟩;cases g with
  |@Ah b B ls s u k M=>
   simp only[Pt.doc]at d c;have kl:v.length=A.length:=by have:=congrArg sw N;simpa using this
   have C:B.length=ls.length:=by have:=congrArg sw k;simpa using this
   refine As ⟨_,W,a,_,A,W,h,N,d8 (bm kl) d.2.2.2.1,λp1 yn H1 yo O D m E=>?_⟩;refine⟨_,W,b,_,ls,W,u.up<|O _,k,d8 (bm C) c.2.2.2.1,λp2 yp H2 yq Q G o I=>?_⟩;refine⟨p1,p2,_,_,W,W,Ab.of<|Q _ _ D,Ab.of G,L _,L _,q _ H2 (O.trans Q) ?_⟩;show GW _ _=true↔A.Perm ls;rw[VC];constructor
   .intro e;subst e;exact m.symm.trans o
   .intro e;exact Bs E I ((m.trans e).trans o.symm)
  |int i=>exact AQ (q _ H (AF.refl H) ⟨nofun,Do⟩)|str i=>exact AQ (q _ H (AF.refl H) ⟨nofun,Do⟩)|bl b=>simp[Pt.doc]at c|AZ=>simp[Pt.doc]at c|tup _ _=>simp[Pt.doc]at c|lst _ _=>exact AQ (q _ H (AF.refl H) ⟨nofun,Do⟩)
theorem Ql(F:Fq K "are_equal" 7 f fd)(T:Txt mg)(d:Df P w K mg base "inner_of" lql 2 Ho)(g:Df P w K mg base "are_level" lqg 1 TM)(M:mg "zip"=ν):Ar P w K mg base CA 4 f fd lqg TN:=by
 refine F.oq ["one","other","waiting","pair"] λH _ _ X G hr h=>?_;obtain⟨x,y,I,t,rfl,hx,hy,ds,dt,zs,zt,q⟩:=h;refine⟨_,(AA (Ad 2 X<|Ap<|AU<|Ao<|AB (pv 0)<|AU<|pv 1)<|AA (HP Re (KS (pv 2) λ_=>rfl)<|AA (Ad 3 X<|NP x8 C3 C2 RU<|pv 2)<|AA (AO (Cj<|Ag<|BM g hr<|AB (Ay K 3)<|AU<|Ay K 3) (AE<|AI Bp) AJ)<|AE<|AO (Ag<|JQ K T (Ay K 3) T.tuple E_) (AE<|Bq<|kG K (pv 2)<|JE W W T.list W M (Ay K 3)<|Ay K 3)<|AE<|Bq<|kG K (pv 2)<|JE W W T.list W M (BM d hr<|AU<|Ay K 3)<|BM d hr<|AU<|Ay K 3)<|AE<|AI Bp),?_⟩;refine⟨_,W,_,W,Ac,λY ζ=>⟨BZ,λL hL=>?_⟩⟩;have s0:=(AF.new (o:=.tup [x,y]) ζ).trans<|AF.new (o:=.lst [.ref Y]) hL;have nL:H L=none:=(AF.new (o:=.tup [x,y]) ζ).free hL;have ft:upd (upd H Y<|.tup [x,y]) L (.lst [.ref Y]) Y=Z (.tup [x,y]):=by rw[AH<|Al AD hL,AD]
 dsimp only[BY,JT];refine Jo (λm σ C=>∃(ts:List Addr)(ps:List (Pt×Pt))(o2:Option V),σ=[Z x,Z y,Z<|.ref L,o2]/\AF H C/\C L=Z (.lst<|ts.map V.ref)/\Bu H C ts ps/\(∀p∈ps,p.1.doc/\p.2.doc/\p.1.size<=900/\p.2.size<=900)/\m=Fg ps/\m<=I.size/\Pt.CM I t=ps.all λp=>Pt.CM p.1 p.2)
  I.size ⟨[Y],[(I,t)],ν,W,s0,AD,.cons ⟨ft,hx,hy⟩ .nil,λp hp=>by rw[io.mp hp];exact⟨ds,dt,zs,zt⟩,by simp[Fg],bv _,GE⟩ ?_ (fun σ H Q Q' h ⟨v,e,k,t,q⟩=>⟨v,e,k,t,h _ _ q⟩)
 rintro m σ C _ go ⟨ts,ps,o2,rfl,si,s,pa,dd,rfl,hm,he⟩;refine⟨_,W,_,.inl ⟨_,Ab.of s,W⟩,?_⟩;by_cases RB:ts=[]
 .subst RB;cases pa;rw[he]at q;exact AQ<|q C si
 .obtain⟨D,t1,N,p,rfl,rfl,pu,@⟨u,v,Yu,G,hv⟩⟩:=TQ pa RB;refine Bf GE ?_;obtain⟨E,U,z1,z2⟩:=dd p GE;have lq:=Po N;have sz:Fg (N++[p])=Fg N+p.1.size:=by rw[Fh];simp[Fg]
  have pp:=Pt.size_pos p.1;have lu:=pu.length;refine⟨_,W,.inl ⟨W,_,Ab.of s⟩,L,_,.ref t1,W,W,s,GE,?_⟩;have dl:(aeL V.ref<|D++[t1]).dropLast=D.map V.ref:=by rw[sU];simp
  rw[dl];have O:AF H (upd C L<|.lst<|D.map V.ref):=si.put nL;have nt:t1≠L:=GY Yu s (by intro z;cases z);have i:upd C L (.lst<|D.map V.ref) t1=Z (.tup [u,v]):=(AH nt).trans Yu;have i_:Bu H (upd C L<|.lst<|D.map V.ref) D N:=Bu.up pu λa b c e=>(AH<|GY e s<|by intro z;cases z).trans e;have A:upd C L (.lst<|D.map V.ref) L=Z (.lst<|D.map V.ref):=AD;generalize upd C L (.lst<|D.map V.ref)=H1 at O i i_ A⊢;refine⟨_,W,t1,_,0,u,W,W,BO.of i,C',_,W,t1,_,1,v,W,W,BO.of i,CL,u,v,p.1,p.2,W,G.up O,hv.up O,E,U,z1,z2,λb H2 R hb=>?_⟩;have ha:(N++[p]).all (λp=>Pt.CM p.1 p.2)=(N.all (λp=>Pt.CM p.1 p.2)&&Pt.CM p.1 p.2):=by rw[R0];simp
  cases b with
  |false=>
   have nl:¬Level p.1 p.2:=λz=>by have:=hb.mpr z;cases this
   have e0:=VA E U nl;rw[he,ha,e0,F8]at q;exact⟨_,W,Bf W<|go.r<|q H2<|O.trans R⟩
  |true=>
   have lv:Level p.1 p.2:=hb.mp W;refine⟨_,W,BP W ?_⟩;have u_:Zo K H2 u p.1.TL:=(G.up<|O.trans R).ty;have nO:Uo p.1.TL "tuple"=false:=by
    cases eY:p.1 with
    |tup xs=>rw[eY]at E;simp[Pt.doc]at E|bl b=>rw[eY]at E;simp[Pt.doc]at E|_=>rfl
   have S:=R _ _ i;refine⟨_,W,t1,_,0,u,W,W,BO.of S,C',_,"tuple",_,W,W,u_,_,W,BP nO ?_⟩;refine⟨_,W,.inl ⟨W,_,Ab.of<|R _ _ A⟩,?_⟩;refine⟨_,W,t1,_,0,u,W,W,BO.of S,C',H,u,p.1,W,O.trans R,G,Il E z1,λl1 es j H3 s3 n3 Zc kX k1=>?_⟩;refine⟨_,W,t1,_,1,v,W,W,BO.of<|s3 _ _ S,CL,H,v,p.2,W,(O.trans R).trans s3,hv,Il U z2,λl2 fs J H4 s4 n4 Oa Yv k2=>?_⟩;obtain⟨ll,ek⟩:=Rm E U lv k1 k2;have le:=kX.length;have lf:=Yv.length;refine⟨l1,l2,es,fs,W,W,s4 _ _ Zc,Oa,le.trans<|ll.trans lf.symm,λP2 tt H5 s5 nP hP lt tp=>?_⟩;have B:=((R.trans s3).trans s4).trans s5;have vD:=Pn E k1;have vE:=Pn U k2;have qK:=Mb E k1;have vF:=Mb U k2;have qL:Fg (j.zip J)=Pt.AM j:=Pp ll;have yr:=Pt.CQ j;have pn:Bu H H5 tt (j.zip J):=Bu.zip kX Yv lt (le.trans<|ll.trans lf.symm) tp;refine⟨L,P2,_,_,W,W,B _ _ A,hP,AX<|by rw[bi,bi];lia,go.n ⟨Fg<|N++j.zip J,by rw[Fh,qL,sz];lia,D++tt,N++j.zip J,_,W,?_,?_,?_,?_,W,?_,?_⟩⟩
   .exact(O.trans B).put nL
   .rw[AD,sU]
   .refine Nf ?_ ?_
    .exact(i_.up λa b c e=>B _ _ e).up λa b c e=>(AH<|GY e (B _ _ A)<|by intro z;cases z).trans e
    .exact pn.up λa b c e=>(AH<|GY e (B _ _ A)<|by intro z;cases z).trans e
   .intro p' l;rcases rc.mp l with l|l
    .exact dd p'<|by simp[l]
    .have m1:=(L3 l).1;have m2:=(L3 l).2;have q1:=Pt.Ae m1;have:=Pt.Ae m2;exact⟨Pt.Af vD _ m1,Pt.Af vE _ m2,am (am q1<|gt qK) z1,am (am this<|gt vF) z2⟩
   .rw[Fh,qL];exact am (am (im (gt qK) _)<|bm sz.symm) hm
   .rw[he,ha,R0,ek]
theorem OV(F:Fq K "outer_copy" 8 f fd)(T:Txt mg):Ar P w K mg base CA 1 f fd lql YY:=by
 refine F.oq lql λH _ _ _ _ n h=>?_;obtain⟨o,v,t,rfl,e,k,g,q⟩:=h;refine⟨_,(AA (AO (Ag<|Ya CK T (pv 0) T.list BR) (AE<|AI<|Ai Br W T.list BR<|AU<|pv 0) AJ)<|AA (AO (Ag<|Ya CK T (pv 0) T.dict CC) (AE<|AI<|Ai ED W T.dict CC<|AU<|pv 0) AJ)<|AE<|AI<|pv 0),?_⟩;cases k with
 |bl b=>simp[Pt.doc]at g|AZ=>simp[Pt.doc]at g|tup _ _=>simp[Pt.doc]at g|int i=>exact⟨_,W,_,"list","int",W,W,.int i,_,W,AQ ⟨_,W,_,"dict","int",W,W,.int i,_,W,AQ ⟨_,W,q _ H ⟨AF.refl H,(λp z=>nomatch z),λL _=>.int i⟩⟩⟩⟩
 |str i=>exact⟨_,W,_,"list","str",W,W,.str i,_,W,AQ ⟨_,W,_,"dict","str",W,W,.str i,_,W,AQ ⟨_,W,q _ H ⟨AF.refl H,(λp z=>nomatch z),λL _=>.str i⟩⟩⟩⟩
 |@lst a s l h r=>
  have c:=h.up<|e _;exact⟨_,W,_,"list","list",W,W,.lst c,_,W,As ⟨_,W,a,_,W,.inl<|.inl c,λp d=>q _ _<|.of d λL z=>.lst (e.free d) z AD r⟩⟩
 |@Ah a m u l h j r=>
  have c:=h.up<|e _;exact⟨_,W,_,"list","dict",W,W,.dK c,_,W,AQ ⟨_,W,_,"dict","dict",W,W,.dK c,_,W,As ⟨_,W,a,_,W,c,λp d=>q _ _<|.of d λL z=>.Ah (e.free d) z (by rw[<-Nj j];exact AD) (by rw[bi];exact(EU j).symm) r⟩⟩⟩
theorem Vn(F:Fq K "copy_of" 9 f fd)(T:Txt mg)(O:Df P w K mg base "steps_of" lql 1 Ff)(g:Df P w K mg base "outer_copy" lql 1 YY):Ar P w K mg base CA 2 f fd lql UI:=by
 refine F.oq ["doc","told","waiting","part","steps","step"] λH _ _ EW R hr h=>?_;obtain⟨v,t,rfl,hv,hd,hz,q⟩:=h;refine⟨_,(AA (Ad 1 EW<|BM g hr<|AU<|pv 0)<|AA (Ad 2 EW<|Ap<|AU<|pv 1)<|AA (HP Re (KS (pv 2) λ_=>rfl)<|AA (Ad 3 EW<|NP x8 C3 C2 RU<|pv 2)<|AA (Ad 4 EW<|BM O hr<|AU<|pv 3)<|AE<|Sg (BQ<|pv 4) (Dn 5 EW)<|AA (Rg (RI (BM g hr<|AU<|Cm (FN K (pv 3)<|pv 5)<|Qi R (pv 3)<|pv 5)<|RH (pv 3) (pv 5) set_list)<|Ex R (pv 3) (pv 5) (BM g hr<|AU<|Cm (FN K (pv 3)<|pv 5)<|Qi R (pv 3)<|pv 5) W)<|AE<|Bq<|gA K (pv 2)<|Cm (FN K (pv 3)<|pv 5)<|Qi R (pv 3)<|pv 5)<|AE<|AI<|pv 1),?_⟩;refine⟨_,W,H,v,t,W,AF.refl H,hv,hd,λtv B oi=>⟨_,W,BZ,λL hL=>?_⟩⟩;have C0:=Cp.start oi hL;dsimp only[BY,JT];refine Jo (λm E Hw=>∃(S:Addr->Prop)(ws:List V)(us:List Pt)(o3 o4 U:Option V),E=[Z v,Z tv,Z<|.ref L,o3,o4,U]/\Cp (K:=K) S H Hw L tv t [] ws us/\(∀u∈us,u.doc)/\Pt.AM us<=t.size/\m=Pt.AM us) (Pt.AM [t]) ⟨_,[tv],[t],ν,ν,ν,W,C0,λu R=>by rw[io.mp R];exact hd,by simp[Pt.AM],W⟩ ?_ (λE H Q Q' h ⟨v,e,k,t,q⟩=>⟨v,e,k,t,h _ _ q⟩);rintro m E Hw _ go2 ⟨S,ws,us,o3,o4,U,rfl,C,qM,hm,rfl⟩;refine⟨_,W,_,.inl ⟨_,Ab.of C.eL,W⟩,?_⟩;by_cases RB:ws=[]
 .subst RB;have:us=[]:=F1.mp C.len.symm;subst this;exact AQ ⟨_,W,q tv Hw C.s<|C.done hd⟩
 have jA:us≠[]:=λz=>RB (F1.mp<|by rw[C.len,z];rfl);obtain⟨xs,w,rfl⟩:∃xs w,ws=xs++[w]:=⟨ws.dropLast,ws.getLast RB,(J5 RB).symm⟩;obtain⟨G,u,rfl⟩:∃G u,us=G++[u]:=⟨us.dropLast,us.getLast jA,(J5 jA).symm⟩;have ll:xs.length=G.length:=by have:=C.len;simpa using this
 refine Bf GE ?_;have qN:=C.eL;refine⟨_,W,.inl ⟨W,_,Ab.of qN⟩,L,_,w,W,W,qN,GE,?_⟩;rw[show(xs++[w]).dropLast=xs by simp];have hs:=C.sh xs.length w u GE (by rw[ll];simp);have du:=qM u GE;have Y:Pt.AM (G++[u])=Pt.AM G+u.size:=by rw[Pt.A_];simp[Pt.AM]
 have yt:=Pt.CQ G;have up1:∀b e,b≠L->Hw b=Z e->upd Hw L (.lst xs) b=Z e:=λb e z h=>(AH z).trans h;have s1:AF H (upd Hw L<|.lst xs):=λb e h=>up1 b e (λz=>by rw[z,C.nL]at h;cases h)<|C.s _ _ h;refine⟨_,W,w,u,W,hs.val s1 λp e z h=>up1 p e (by subst z;exact hs.nu.2) h,Il du<|am (am (am (d0 _ _)<|bm Y.symm) hm) hz,λp l H2 s2 np hp st=>?_⟩;have C1:=C.pop ll (s2 _ _ AD) λb e z h=>s2 _ _<|up1 b e z h;have old:∀x∈G,x.doc:=λx hx=>qM x<|L7 _ hx;by_cases wl:∃a,w=.ref a;rotate_left
 .have el:l=[]:=by cases hs<;>first|exact st|exact absurd ⟨_,rfl⟩ wl
  subst el;refine⟨_,W,p,W,⟨_,Ab.of hp⟩,Dy (xs:=[]) (λi E B=>∃U,E=[Z v,Z tv,Z<|.ref L,Z w,Z<|.ref p,U]/\B=H2) ⟨_,W,W⟩ (λi E B _ ⟨_,_,e⟩=>by rw[e];exact Ab.of hp) (λi x E B _ go hx=>by simp at hx) ?_⟩;rintro E B ⟨U,rfl,rfl⟩;have:=Pt.size_pos u;exact go2.n ⟨Pt.AM G,z_,S,xs,G,_,_,_,W,C1.close λp o z=>absurd ⟨p,z⟩ wl,old,am (am (ci _ _)<|bm Y.symm) hm,W⟩
 obtain⟨a,rfl⟩:=wl;have kY:∀{ts:List Pt}{I:List V}{i:Nat},u.size=1+Pt.AM ts->(xs++I).length=(G++ts.take i).length->(xs++I).length<=1000:=λ{ts I i} e h=>by
  have:=Pt.CQ ts;rw[h,q5,B8];lia
 cases hs with
 |@lst _ vs ts n ne e r=>
  simp only[Pt.doc]at du;simp only[Pt.size]at Y kY;cases(show l=(j9 ts.length).map λ(i:Nat)=>V.int (i:Int)from st);have e2:=s2 _ _ (up1 _ _ ne e);have pa:p≠a:=(EK (up1 _ _ ne e) np).symm;have pL:p≠L:=(EK (show upd Hw L (.lst xs) L=_ from AD) np).symm;have lr:=r.length;refine⟨_,W,p,W,⟨_,Ab.of hp⟩,Dy (xs:=(j9 ts.length).map λ(i:Nat)=>V.int (i:Int)) (λi E B=>∃(S:Addr->Prop)(I d:List V)(U:Option V),E=[Z v,Z tv,Z (.ref L),Z (.ref a),Z (.ref p),U]/\Cp (K:=K) S H B L tv t [.ref a] (xs++I) (G++ts.take i)/\B a=Z (.lst d)/\B p=Z (.lst ((j9 ts.length).map λ(i:Nat)=>V.int (i:Int)))/\d.length=vs.length/\(∀j,i<=j->d[j]?=vs[j]?)/\(∀j x,j<i->d[j]?=Z x->Nt S x))
   ⟨S,[],vs,_,W,GT C1,e2,hp,W,λj _=>rfl,λj x h=>absurd h (N5 _)⟩ (λi E B _ z=>by obtain⟨_,_,_,_,_,_,_,h,_⟩:=z;exact Ab.of h) ?_ ?_⟩
  .refine λi sv E B _ go M h0=>Lo λX hX=>?_;obtain⟨S,I,d,U,rfl,D,ea,aO,lv,od,nu⟩:=h0;have hi:i<ts.length:=by have:=Cd M;simpa using this
   have nQ:sv=.int (i:Int):=by rw[b6,J7 hi]at M;exact(ze M).symm
   subst nQ;obtain⟨tx,ζ⟩:=BH ts i hi;obtain⟨x,hx,vx⟩:=r.get' ζ;have A:=(od i<|bv _).trans hx;have dx:=Pt.Af du tx<|zf ζ;subst hX;refine .inl<|.inl ⟨_,W,_,W,a,_,_,_,W,W,Ab.of ea,Aa A,H,x,tx,W,D.s,vx,dx,λc Hc N=>?_⟩;refine⟨_,W,_,W,a,_,_,i,W,W,N.sc _ _ ea,by unfold Uc;rw[if_pos<|wT _,if_pos<|G9.mpr<|Cd A,A8],?_⟩;have jB:upd Hc a (.lst<|d.set i c) L=Z (.lst<|xs++I):=(AH ne.symm).trans<|N.sc _ _ D.eL;refine⟨_,W,.inl ⟨W,_,Ab.of jB⟩,.inl ⟨_,W,_,W,a,_,_,c,W,W,Ab.of AD,Aa<|D8<|Cd A,?_⟩⟩;have P:=D.put hd dx ea n ne N.sc N.fc (N.sh L λz=>by have:=N.fc L z;rw[D.eL]at this;cases this) vx<|.lst A;rw[zx G,show ts.take i++[tx]=ts.take (i+1)by rw[u8,ζ];rfl,zx]at P;refine⟨L,_,_,W,W,jB,Aw<|kY W D.len,go.n ⟨_,I++[c],d.set i c,_,W,by rw[zx];exact P,(AH ne).trans AD,by rw[AH pL,AH pa];exact N.sc _ _ aO,by rw[E6];exact lv,λj J=>?_,λj y J hy=>?_⟩⟩
   .rw[F0 z_];exact od j<|am (ci _ _) J
   .by_cases z:j=i
    .subst z;rw[D8<|Cd A]at hy;cases hy;cases c<;>first|trivial|exact .inr rfl
    .rw[F0<|zn z]at hy;exact(nu j y z_ hy).up λp h=>.inl h
  .rintro E B ⟨S,I,d,U,rfl,D,ea,aO,lv,od,nu⟩;rw[bi,wS]at D nu;rw[xL]at D;refine go2.n ⟨Pt.AM<|G++ts,by rw[Y,Pt.A_];lia,S,xs++I,G++ts,_,_,_,W,D.close λp o z h x hx=>?_,λy hy=>(rc.mp hy).elim (old y)<|Pt.Af du y,by rw[Pt.A_];lia,W⟩;cases z;rw[ea]at h;cases h;obtain⟨j,J⟩:=p9 hx;exact nu j x (by have:j<d.length:=Cd J;exact bn this<|am (bm lv)<|bm lr) J
 |@Ah _ ks vs ts n ne e vH r=>
  simp only[Pt.doc]at du;simp only[Pt.size]at Y kY;obtain⟨ss,rfl,pm,_⟩:=(show∃ss:List Str,l=ss.map V.str/\ss.Perm ks/\abG ss=true from st);obtain⟨d1,d2,d3,d4,d5⟩:=du;obtain⟨as,Yb⟩:=Gj d1 (ss:=ss) λk hk=>pm.mem_iff.mp hk;have cQ:=Cu d1 d2 pm Yb;have Zn:as.length=ss.length:=by have:=congrArg sw Yb;simpa using this.symm
  have vL:Pt.AM as=Pt.AM ts:=Pt.EE cQ;have eZ:=pm.nodup_iff.mpr d2;have e2:=s2 _ _ (up1 _ _ ne e);have pa:p≠a:=(EK (up1 _ _ ne e) np).symm;have pL:p≠L:=(EK (show upd Hw L (.lst xs) L=_ from AD) np).symm;refine⟨_,W,p,W,⟨_,Ab.of hp⟩,Dy (xs:=ss.map V.str) (λi E B=>∃(S:Addr->Prop)(I d:List V)(U:Option V),E=[Z v,Z tv,Z (.ref L),Z (.ref a),Z (.ref p),U]/\Cp (K:=K) S H B L tv t [.ref a] (xs++I) (G++as.take i)/\B a=Z (.dK (Bo ks d))/\B p=Z (.lst (ss.map V.str))/\ks.length=d.length/\(∀(j:Nat) k,ks[j]?=Z k->k∉ss.take i->d[j]?=vs[j]?)/\(∀(j:Nat) k x,ks[j]?=Z k->k∈ss.take i->d[j]?=Z x->Nt S x))
   ⟨S,[],vs,_,W,GT C1,e2,hp,vH,λj k _ _=>rfl,λj k x _ h=>absurd h GE⟩ (λi E B _ z=>by obtain⟨_,_,_,_,_,_,_,h,_⟩:=z;exact Ab.of h) ?_ ?_⟩
  .refine λi sv E B _ go M h0=>Lo λX hX=>?_;obtain⟨S,I,d,U,rfl,D,ea,aO,lv,od,nu⟩:=h0;have hi:i<ss.length:=by have:=Cd M;rw[bi]at this;exact this
   obtain⟨k,hk⟩:=BH ss i hi;have nQ:sv=.str k:=by rw[b6,hk]at M;exact(ze M).symm
   subst nQ;obtain⟨j,J⟩:=O0.mp<|pm.mem_iff.mp<|zf hk;obtain⟨tx,ζ⟩:=BH as i (by rw[Zn];exact hi);have vN:lk ks ts k=Z tx:=by
    have:=congrArg (λz=>z[i]?) Yb;simp only[b6,hk,ζ]at this;exact ze this
   obtain⟨ty,nU⟩:=BH ts j (by rw[<-d1];exact Cd J);have vP:ty=tx:=ze<|(Ak.UD d1 d2 J nU).symm.trans vN;subst vP;obtain⟨x,hx,vx⟩:=r.get' nU;have kt:k∉ss.take i:=λh=>by
    obtain⟨m,hm⟩:=p9 h;have ec:=Cd hm;rw[B8]at ec;rw[aau<|bn ec<|J3 _ _]at hm;have:=(O5 (Cd hm) eZ).mp<|hm.trans hk.symm;lia
   have A:=(od j k J kt).trans hx;have dx:=Pt.Af d5 ty<|zf nU;have dg:∀{Hx:Hp}{ws:List V}{y:V},Hx a=Z (.dK<|Bo ks ws)->ks.length=ws.length->ws[j]?=Z y->PF Hx a (.str k) (Z y):=λh1 h2 h3=>.inl ⟨_,e9 k,.inl h1,W,h3.symm.trans (Pc h2 d2 J).symm⟩;have gF:∀c:V,ks.length=(d.set j c).length:=λc=>by rw[E6];exact lv
   subst hX;refine .inr<|.inr ⟨_,W,_,W,a,x,W,dg ea lv A,H,x,ty,W,D.s,vx,dx,λc Hc N=>?_⟩;refine⟨_,W,_,W,a,_,W,Ue.k (k:=e9 k) (N.sc _ _ ea)<|Aw<|by rw[DO lv];exact am (gt d4) ac,?_⟩;rw[XH c lv d2 J];have jB:upd Hc a (.dK<|Bo ks<|d.set j c) L=Z (.lst<|xs++I):=(AH ne.symm).trans<|N.sc _ _ D.eL;refine⟨_,W,.inl ⟨W,_,Ab.of jB⟩,.inr ⟨_,W,_,W,a,c,W,dg AD (gF c)<|D8<|Cd A,?_⟩⟩;have P:=D.put hd dx ea n ne N.sc N.fc (N.sh L λz=>by have:=N.fc L z;rw[D.eL]at this;cases this) vx<|.dK lv A;rw[zx G,show as.take i++[ty]=as.take (i+1)by rw[u8,ζ];rfl,zx]at P;have tk:∀z,z∈ss.take (i+1)↔z∈ss.take i∨z=k:=λz=>by rw[u8,hk];simp
   refine⟨L,_,_,W,W,jB,Aw<|kY (ts:=as) (by rw[vL]) D.len,go.n ⟨_,I++[c],d.set j c,_,W,by rw[zx];exact P,(AH ne).trans AD,by rw[AH pL,AH pa];exact N.sc _ _ aO,gF c,λj' k' h1 h2=>?_,λj' k' y h1 h2 hy=>?_⟩⟩
   .rw[tk]at h2;rw[F0 λz=>h2<|.inr<|by rw[<-z,J]at h1;exact(ze h1).symm];exact od j' k' h1 λz=>h2<|.inl z
   .by_cases z:j=j'
    .subst z;rw[D8<|Cd A]at hy;cases hy;cases c<;>first|trivial|exact .inr rfl
    .rw[F0 z]at hy;rcases(tk k').mp h2 with h2|h2
     .exact(nu j' k' y h1 h2 hy).up λp h=>.inl h
     .exact absurd ((O5 (Cd J) d2).mp<|by rw[J,h1,h2]) z
  .rintro E B ⟨S,I,d,U,rfl,D,ea,aO,lv,od,nu⟩;rw[bi]at D nu;rw[<-Zn,xL]at D;rw[xL]at nu;refine go2.n ⟨Pt.AM<|G++as,by rw[Y,Pt.A_];lia,S,xs++I,G++as,_,_,_,W,D.close λp o z h x hx=>?_,λy hy=>(rc.mp hy).elim (old y) λh=>Pt.Af d5 y<|cQ.mem_iff.mp h,by rw[Pt.A_];lia,W⟩;cases z;rw[ea]at h;cases h;rw[show Qh (.dK<|Bo ks d)=d from CJ lv]at hx;obtain⟨j,J⟩:=p9 hx;obtain⟨k,hk⟩:=BH ks j (by rw[lv];exact Cd J);exact nu j k x hk (pm.mem_iff.mpr<|zf hk) J
theorem Yc(F:Fq K "holds" 11 f fd)(T:Txt mg):Ar P w K mg base CA 1 f fd ["doc","step"] QS:=by
 refine F.oq ["doc","step"] λH _ _ _ d y h=>?_;obtain⟨v,t,k,rfl,m,hold,q⟩:=h;refine⟨_,(AA (AO (Ag<|JQ K T (pv 1) T.str iN) (AE<|AI<|Cb (JQ K T (pv 0) T.dict CC)<|Bw<|NG<|Ie d (pv 1)<|pv 0) AJ)<|AE<|AI<|Cb (JQ K T (pv 0) T.list BR)<|Bw<|WK bY FT AG (pv 1)<|CH K T<|pv 0),?_⟩;cases k with
 |inl i=>
  refine⟨_,W,_,"str","int",W,W,.n<|.int _,_,W,AQ ?_⟩;cases m with
  |int j=>exact⟨_,W,_,"list",_,W,W,.n (.int _),_,W,BP W q⟩|str x=>exact⟨_,W,_,"list",_,W,W,.n (.str _),_,W,BP W q⟩|bl b=>exact hold.elim|AZ=>exact hold.elim|tup _ _=>exact hold.elim|Ah h o r=>exact⟨_,W,_,"list",_,W,W,.n (.dK h),_,W,BP W q⟩|@lst a p c h r=>
   have s:=r.length;refine⟨_,W,_,"list",_,W,W,.n<|.lst h,_,W,Bf W ?_⟩;refine⟨_,W,_,_,W,W,_,W,?_⟩;by_cases z:(0:Int)<=i
   .refine Bf (decide_eq_true z) ⟨_,W,a,_,W,.inl<|.inl h,_,_,W,W,?_⟩;have e:decide (i<(p.length:Int))=((Pt.lst c).RD<|U9 i).isSome:=by
     simp only[Pt.RD];rw[if_pos z,s];by_cases h:i.toNat<c.length
     .rw[zc h];exact decide_eq_true z_
     .rw[aaa.mpr z_];exact decide_eq_false z_
    rw[e];exact q
   .refine BP (decide_eq_false z) ?_;simp only[Pt.RD]at q;rw[if_neg z]at q;exact q
 |inr x=>
  refine⟨_,W,_,"str","str",W,W,.n<|.str _,_,W,As ?_⟩;cases m with
  |int j=>exact⟨_,W,_,"dict",_,W,W,.n (.int _),_,W,BP W q⟩|str x=>exact⟨_,W,_,"dict",_,W,W,.n (.str _),_,W,BP W q⟩|bl b=>exact hold.elim|AZ=>exact hold.elim|tup _ _=>exact hold.elim|lst h r=>exact⟨_,W,_,"dict",_,W,W,.n (.lst h),_,W,BP W q⟩|@Ah a g l c h o r=>
   refine⟨_,W,_,"dict",_,W,W,.n<|.dK h,_,W,Bf W ?_⟩;refine⟨_,W,_,W,a,_,W,.inl ⟨_,e9 x,h,W,W⟩,?_⟩;have e:(CG g<|e9 x).isSome=((Pt.Ah l c).RD<|e9 x).isSome:=by
    rcases Val.Dr o r x with⟨w,u,k1,k2,_⟩|⟨k1,k2⟩
    .rw[k1,show(Pt.Ah l c).RD (e9 x)=Z u from k2];rfl
    .rw[k1,show(Pt.Ah l c).RD (e9 x)=ν from k2];rfl
   rw[e];exact q
theorem Qm(F:Fq K "holder_in" 14 f fd)(T:Txt mg):Ar P w K mg base CA 1 f fd lqu Tb:=by
 refine F.oq lqu λH _ _ _ a D h=>?_;obtain⟨G,v,t,n,rfl,m,s,g,q⟩:=h;refine⟨_,(AA (AO (AK (Dv:DA _ _ (WT K false)) (Ay K 0) (Ao<|AB AS<|AU AS) W) (AE<|AI<|Ay K 0) AJ)<|AE<|AI<|Ap BL),?_⟩;obtain⟨l,d,rest,rfl,x,y⟩:=s.node g;have b:=x.up m;refine⟨_,W,l,_,0,.str d,W,W,b,C',Ac,λp z=>⟨p,_,W,.inr<|BO.of AD,W,W,_,W,?_⟩⟩;have i:=AF.new (o:=.tup [.str "row",.str "table"]) z;have j:=b.up i;have c:Yr (.str d) [.str "row",.str "table"]=decide (d∈(["row","table"]:List Str)):=DS d ["row","table"];rcases y with⟨A,B,e⟩|⟨hw,u,r,rfl,a⟩
 .refine BP ?_ ⟨j5 _,λC k=>q _ _ (i.trans<|AF.new k)<|.inr ⟨e,C,W,AD⟩⟩;rw[c];simp[A,B]
 .refine Bf ?_ ⟨_,W,l,_,1,u,W,W,j,CL,q _ _ i<|.inl a⟩;rw[c];rcases hw with rfl|rfl<;>decide
theorem MA(F:Fq K "holder_in" 14 f fd)(T:Txt mg):Ar P w K mg base CA 1 f fd lqu Pq:=by
 refine F.oq lqu λH _ _ _ b B h=>?_;obtain⟨G,v,a,rfl,l,n,q⟩:=h;refine⟨_,(AA (AO (AK (Dv:DA _ _ (WT K false)) (Ay K 0) (Ao<|AB AS<|AU AS) W) (AE<|AI<|Ay K 0) AJ)<|AE<|AI<|Ap BL),?_⟩;obtain⟨t,r,rest,s,x⟩:=n.ak;have e:=s.up l;refine⟨_,W,t,_,0,.str r,W,W,e,C',Ac,λp y=>⟨p,_,W,.inr<|BO.of AD,W,W,_,W,?_⟩⟩;have g:=AF.new (o:=.tup [.str "row",.str "table"]) y;have i:=e.up g;rcases x with _|⟨d,u,b⟩|⟨j,m,u,b⟩|⟨A,j,ls,m,u,z,b,C⟩
 .exact C_ ⟨j5 _,λk c=>q _ _ (g.trans<|AF.new c)<|.inr ⟨.inl W,k,W,AD⟩⟩
 .exact C_ ⟨j5 _,λk c=>q _ _ (g.trans<|AF.new c)<|.inr ⟨.inr ⟨d,W⟩,k,W,AD⟩⟩
 .exact Ep ⟨_,W,t,_,1,u,W,W,i,CL,q _ _ g<|.inl ⟨.inl ⟨j,m,W⟩,b⟩⟩
 .exact Ep ⟨_,W,t,_,1,u,W,W,i,CL,q _ _ g<|.inl ⟨.inr ⟨A,j,ls,m,W⟩,b⟩⟩
theorem Gb(F:Fq K "inner_nodes" 15 f fd)(T:Txt mg)(b:Df P w K mg base "inner_of" lql 2 Ho)(a:Df P w K mg base "holder_in" lqu 1 Tb):Ar P w K mg base CA 3 f fd lqu IC:=by
 refine F.oq lqu λH _ _ _ _ u h=>?_;obtain⟨G,v,t,n,rfl,x,y,c,q⟩:=h;refine⟨_,(AE<|AI<|BM b u<|AU<|BM a u<|AU<|pv 0),?_⟩;refine⟨_,W,G,v,t,n,W,x,y,c,λw z d hw=>?_⟩;have hold:=c.XR;rcases hw with hw|⟨e,A,rfl,j⟩
 .exact⟨G,w,t.hold,W,x.trans d,hw,hold,λp k g l m o r s i=>q p k g l (d.trans m) (d.free o) r s i⟩
 .refine⟨z,.ref A,.lst [],W,AF.refl _,.lst (.inl j) .nil,j5 _,λp k g l m o r s i=>q p k g l (d.trans m) (d.free o) r ?_<|by rw[e];exact i⟩;have:g=[]:=i;subst this;cases s;exact .nil
theorem Qn:HQ lqs lqs (Bg ai):={}
theorem Vo(F:Fq K "filled" 16 f fd)(T:Txt mg)(b:Df P w K mg base "steps_of" lql 1 Ff)(c:mg "zip"=ν):Ar P w K mg base CA 2 f fd lqs LL:=by
 refine F.ok Qn (λx H Q E h=>?_) λC A outer s H x O E R y h=>?_
 .cases h<;>(subst_vars;rfl)
 .have nd:=Qn.nd;have S:=bg y;refine⟨_,(AA (AO (Ag<|Ya CK T (pv 0) T.list BR) (AE<|AI<|Ai Br W T.list BR<|AU<|pv 1) AJ)<|AE<|AI<|JH W W T.dict W c (BM b y<|AU<|pv 0)<|pv 1),?_⟩;rcases h with⟨v,z,L,e,rfl,j,k,D,q⟩|⟨v,G,z,L,e,rfl,j,k,hold,m,n,q⟩
  .cases j with
   |@lst a x _ h r=>
    exact⟨_,W,_,"list","list",W,W,.lst h,_,W,As ⟨_,W,L,e,W,.inl<|Ab.of k,λp g=>q p _ (AF.new g) g AD⟩⟩
  .cases j with
   |@Ah a I _ _ h J r=>
    refine⟨_,W,_,"list","dict",W,W,.dK h,_,W,AQ ⟨_,W,.ref a,.Ah G z,W,.Ah h J r,hold,λp l U o V g st=>?_⟩⟩;obtain⟨t,rfl,i,M⟩:=st;have u:=o _ _ k;have B:t.length=e.length:=by rw[i.length_eq,m]
    refine⟨_,W,p,L,t,e,W,W,Ab.of g,Ab.of u,B,by rw[i.length_eq];have:=hold.2;exact am (gt this) ac,λN d=>?_⟩;refine q N t _ (o.trans<|AF.new d) (o.free d) i M ?_;rw[AD];congr 2;exact Ek B<|i.nodup_iff.mpr n
theorem OW(F:Fq K "inner_just" 17 f fd)(T:Txt mg)(C:Df P w K mg base "inner_of" lql 2 Ho)(J:Df P w K mg base "filled" lqs 2 LL):Ar P w K mg base CA 3 f fd ["holder"] LM:=by
 refine F.oq ["holder","inner"] λH En _ EW g hr h=>?_;obtain⟨Q,v,t,cs,mk,rfl,hv,hh,hd,q⟩:=h;refine⟨_,(AA (Ad 1 EW<|BM C hr<|AU<|pv 0)<|AA (AO (Ag<|Am (Hr W) W T.any TH<|AU<|cmp [] [] (BQ<|pv 1) λ_ _ _ _=>(BD KQ (Ay K 0) AS<|AL _)) (AE<|AI Dx) AJ)<|AE<|AI<|Ao<|AB AS<|AU<|BM J hr<|AB (pv 0)<|AU<|cmp [] [] (BQ<|pv 1) λ_ _ _ _=>(Ay K 0)),?_⟩;have hH:=hv.up Cn;refine⟨_,W,nw Q H,v,t,W,Cn,hv,hh.XR,λp G us H1 s1 np hp vl kd=>?_⟩;have eu:=hh.kids kd;subst eu;have lz:=hh.len;have j:G.length=cs.length:=by have:=vl.length;rw[bi]at this;exact this
 have ex:∀{i:Nat}{N:Hp},i<G.length->AF H1 N->∃(a:Addr)(w:Str)(rest:List V)(c:Ak),G.getD i .AZ=.ref a/\cs[i]?=Z c/\BO K N a (.str w::rest)/\((∃d u,c=.AY d/\w="just"/\rest=[u]/\Val (nw Q H) u d)∨(w≠"just"/\∀d,c≠.AY d)):=λ{i N} s E=>by
  obtain⟨x,hx⟩:∃x,G[i]?=Z x:=⟨_,zc s⟩;obtain⟨tx,L,vx⟩:=vl.get hx;rw[b6]at L;cases hc:cs[i]? with
  |none=>rw[hc]at L;cases L|some c=>
   rw[hc]at L;cases L;obtain⟨a,w,rest,ht,k⟩:=vx.ak;have M:=(ht.up Cn).up<|s1.trans E;refine⟨a,w,rest,c,by rw[b7,hx];rfl,W,M,?_⟩;rcases k with _|⟨d,u,g⟩|⟨xs,m,u,g⟩|⟨ks,xs,ls,m,u,z,g,hz⟩
   .exact .inr ⟨ac,λd z=>nomatch z⟩
   .exact .inl ⟨d,u,W,W,W,g⟩
   .exact .inr ⟨ac,λd z=>nomatch z⟩
   .exact .inr ⟨ac,λd z=>nomatch z⟩
 have li:∀i,i<G.length->G[i]?=Z (G.getD i .AZ):=λi s=>by rw[b7,zc s];rfl
 refine⟨_,W,p,W,⟨_,Ab.of hp⟩,?_⟩;refine CO (n:=G.length) (λi=>G.getD i .AZ) (λi v=>∃c,cs[i]?=Z c/\v=.bl c.gE) (AX<|am (am (bm j) lz) ac) (λi N s E=>⟨_,_,E.seq<|Ab.of hp,li i s⟩) (λi N v H' s E y=>?_) (λN E=>⟨_,E.seq<|Ab.of hp,bv _⟩) (λi N R s E r=>?_) λD N vs hD E d2 lv ov=>?_
 .obtain⟨e,y⟩:=y;have:=y _<|E.seq<|Ab.of hp;rw[li i s]at this;exact⟨(ze this).symm,e⟩
 .obtain⟨a,w,rest,c,e0,e2,M,k⟩:=ex s E;rw[e0];refine⟨_,W,a,_,0,_,W,W,M,C',W,r _ N (AF.refl _) ⟨c,e2,?_⟩⟩;rcases k with⟨d,u,rfl,rfl,rfl,g⟩|⟨n1,n2⟩
  .rfl
  .have:c.gE=true:=by
    cases c with
    |AY d=>exact absurd W (n2 d)|_=>rfl
   rw[this];simp[O_,n1]
 .obtain⟨bs,rfl,vQ⟩:=Zx (lv.trans j) ov;refine⟨D,bs,W,Ab.of d2,?_⟩;rw[vQ];have qO:=s1.trans E;cases hj:Ak.CW cs with
  |none=>exact⟨_,W,As (q .AZ N qO (.inl ⟨hj,W⟩))⟩|some ds=>
   have qP:=Ak.Bl hj;refine⟨_,W,AQ ?_⟩;have S:=E _ _ hp;refine⟨_,W,_,W,p,W,⟨_,Ab.of S⟩,?_⟩;refine CO (n:=G.length) (λi=>G.getD i .AZ) (λi v=>∃d,ds[i]?=Z d/\Val (nw Q H) v d) (AX<|am (am (bm j) lz) ac) (λi U s X=>⟨_,_,X.seq<|Ab.of S,li i s⟩) (λi U v H' s X y=>?_) (λU X=>⟨_,X.seq<|Ab.of S,bv _⟩) (λi U R s X r=>?_) λD3 U us kZ X d3 lu ou=>?_
   .obtain⟨e,y⟩:=y;have:=y _<|X.seq<|Ab.of S;rw[li i s]at this;exact⟨(ze this).symm,e⟩
   .obtain⟨a,w,rest,c,e0,e2,M,k⟩:=ex s<|E.trans X;rw[e0];rw[qP,b6]at e2;cases nV:ds[i]? with
    |none=>rw[nV]at e2;cases e2|some d'=>
     rw[nV]at e2;cases e2;rcases k with⟨d,u,e3,rfl,rfl,g⟩|⟨n1,n2⟩
     .cases e3;exact⟨_,W,a,_,1,u,W,W,M,CL,r u U (AF.refl _) ⟨_,nV,g⟩⟩
     .exact absurd W<|n2 d'
   .have vS:ds.length=G.length:=by rw[j,qP,bi]
    have qQ:AR (nw Q H) us ds:=AR.of (lu.trans vS.symm) λi v t h1 Y=>by
     obtain⟨d,g1,g2⟩:=ou i v h1;rw[Y]at g1;cases g1;exact g2
    have A:=qO.trans X;have fin:∀(O:Addr)(B:Hp),AF U B->U O=ν->Val (nw Q B) (.ref O) (mk ds)->∀ζ,B ζ=ν->En.rt (.ref ζ) (upd B ζ<|.tup [.str "just",.ref O]):=λO B I n4 v4 ζ n5=>by
     refine q _ _ ((A.trans I).trans<|AF.new n5)<|.inr ⟨ds,hj,.tup (BO.of ?_)<|.cons (.str _)<|.cons (v4.up ?_) .nil⟩
     .rw[BC<|hd ζ<|(A.trans I).free n5,AD]
     .exact Bi (λb h=>h) λb o h1 Y=>(AH λz=>by rw[z,n5]at Y;cases Y).trans Y
    have yu:∀{B:Hp}{v:V}{d:Pt},AF U B->Val (nw Q H) v d->Val (nw Q B) v d:=λI h=>h.up (Bi (λb h=>h) λb o _ Y=>(A.trans I) _ _ Y);have qR:∀{B:Hp}{v:List V}{d:List Pt},AF U B->AR (nw Q H) v d->AR (nw Q B) v d:=λI h=>h.up (Bi (λb h=>h) λb o _ Y=>(A.trans I) _ _ Y);have qS:=hH.up A;cases hh with
    |row _ z=>
     refine .row v _ D3 us W qS d3 (am (bm lu)<|am (bm j) z) λO B I n4 h4=>⟨Ac,λζ n5=>fin O B I n4 (.lst (.inl ?_)<|qR I qQ) ζ n5⟩;rw[BC<|hd O<|A.free n4];exact h4
    |tab ss _ l EW z so=>
     refine .tab v _ _ D3 us W qS d3 ⟨by rw[bi];exact l,z⟩ (lu.trans<|j.trans l.symm) EW λO qT B I n4 pm vT h4=>⟨Ac,λζ n5=>?_⟩;have e:=Bs vT so pm;subst e;have qU:qT.length=us.length:=l.trans<|j.symm.trans lu.symm;refine fin O B I n4 (.Ah (kvs:=Bo qT us) (.inl ?_) (BI qU)<|by rw[CJ qU];exact qR I qQ) ζ n5;rw[BC<|hd O<|A.free n4];exact h4
theorem Vp(F:Fq K "lets_in" 18 f fd)(T:Txt mg)(G:Df P w K mg base "steps_of" lql 1 Ff)(B:Df P w K mg base "holder_in" lqu 1 Pq)(g:Df P w K mg base "lets_in_outside" lqn 5 bx):Ar P w K mg base CA 6 f fd lqn Pr:=by
 refine F.oq ["asks","doc","waiting","pair","holder"] λH _ _ EW M hr h=>?_;obtain⟨v,y,a0,t,rfl,hv,hy,BN,dt,za,zt,q⟩:=h;refine⟨_,(AA (Ad 2 EW<|Ap<|AU<|Ao<|AB (pv 0)<|AU<|pv 1)<|AA (HP Re (KS (pv 2) λ_=>rfl)<|AA (DD (i:=3) EW W (O9 W)<|NP x8 C3 C2 RU<|pv 2)<|AA (AO (Cj<|Ag<|BM g hr<|AB (Ay K 3)<|AU<|Ay K 3) (AE<|AI Bp) AJ)<|AA (DD (i:=4) EW W (O9 W)<|BM B hr<|AU<|Ay K 3)<|AE<|Bq<|kG K (pv 2)<|cmp ["holder","pair"] [4,3] (BQ<|BM G hr<|AU<|pv 4) λ_ _ _ _=>(Ao<|AB (Cm (FN K (pv 1)<|pv 0)<|Qi M (pv 1)<|pv 0)<|AU<|Cm (FN K (Ay K 2)<|pv 0)<|Qi M (Ay K 2)<|pv 0))<|AE<|AI Bp),?_⟩;refine⟨_,W,_,W,Ac,λt0 qV=>⟨BZ,λL hL=>?_⟩⟩;have s0:=(AF.new (o:=.tup [v,y]) qV).trans<|AF.new (o:=.lst [.ref t0]) hL;have nL:H L=none:=(AF.new (o:=.tup [v,y]) qV).free hL;have ft:upd (upd H t0<|.tup [v,y]) L (.lst [.ref t0]) t0=Z (.tup [v,y]):=by rw[AH<|Al AD hL,AD]
 dsimp only[BY,JT];refine Jo (λm σ U=>∃(ts:List Addr)(ps:List (Ak×Pt))(o2 o3:Option V),σ=[Z v,Z y,Z<|.ref L,o2,o3]/\AF H U/\U L=Z (.lst<|ts.map V.ref)/\Bu H U ts (ps.map λp=>(p.1.pt,p.2))/\(∀p∈ps,p.1.ok/\p.2.doc/\p.1.size<=900/\p.2.size<=900)/\m=Ej ps/\m<=a0.size/\Ak.lets a0 t=ps.all λp=>Ak.lets p.1 p.2)
  a0.size ⟨[t0],[(a0,t)],ν,ν,W,s0,AD,.cons ⟨ft,hv,hy⟩ .nil,λp hp=>by rw[io.mp hp];exact⟨BN,dt,za,zt⟩,by simp[Ej],bv _,GE⟩ ?_ (fun σ H Q Q' h ⟨v,e,k,t,q⟩=>⟨v,e,k,t,h _ _ q⟩)
 rintro m σ U ez go ⟨ts,ps,o2,o3,rfl,si,N,pa,dd,rfl,hm,he⟩;refine⟨_,W,_,.inl ⟨_,Ab.of N,W⟩,?_⟩;have Jj:=pa.length;rw[bi]at Jj;by_cases RB:ps=[]
 .subst RB;have:ts=[]:=by cases ts with|nil=>rfl|cons _ _=>simp at Jj
  subst this;rw[he]at q;exact AQ<|q U si
 .obtain⟨X,p,rfl⟩:∃X p,ps=X++[p]:=⟨ps.dropLast,ps.getLast RB,(J5 RB).symm⟩;have vU:ts≠[]:=λz=>by subst z;simp at Jj
  obtain⟨Y,t1,yw,p',rfl,nW,pu,@⟨u,w,Yu,M,hw⟩⟩:=TQ pa vU;rw[sU]at nW;obtain⟨e1,e2⟩:=List.append_inj nW (by
   have:=pu.length;have:=congrArg sw nW;simp at this⊢;exact this)
  have e3:(p.1.pt,p.2)=p':=GT e2
  subst e1 e3;refine Bf GE ?_;obtain⟨ζ,d2,z1,z2⟩:=dd p GE;have lq:=Hu X;have sz:Ej (X++[p])=Ej X+p.1.size:=by rw[Fl];simp[Ej]
  have pp:=Ak.size_pos p.1;have lu:=pu.length;rw[bi]at lu;refine⟨_,W,.inl ⟨W,_,Ab.of N⟩,L,_,.ref t1,W,W,N,GE,?_⟩;have dl:(aeL V.ref<|Y++[t1]).dropLast=Y.map V.ref:=by rw[sU];simp
  rw[dl];have s1:AF H (upd U L<|.lst<|Y.map V.ref):=si.put nL;have nt:t1≠L:=GY Yu N (by intro z;cases z);have E:upd U L (.lst<|Y.map V.ref) t1=Z (.tup [u,w]):=(AH nt).trans Yu;have i_:Bu H (upd U L<|.lst<|Y.map V.ref) Y (X.map λp=>(p.1.pt,p.2)):=Bu.up pu λa b c e=>(AH<|GY e N<|by intro z;cases z).trans e;have O:upd U L (.lst<|Y.map V.ref) L=Z (.lst<|Y.map V.ref):=AD;generalize upd U L (.lst<|Y.map V.ref)=H1 at s1 E i_ O⊢;refine⟨_,W,t1,_,0,u,W,W,BO.of E,C',_,W,t1,_,1,w,W,W,BO.of E,CL,u,w,p.1,p.2,W,M.up s1,hw.up s1,ζ,d2,z1,z2,λH2 s2=>?_⟩;have ha:(X++[p]).all (λp=>Ak.lets p.1 p.2)=(X.all (λp=>Ak.lets p.1 p.2)&&Ak.lets p.1 p.2):=by rw[R0];simp
  cases ho:Ak.CI p.1 p.2 with
  |false=>
   have e0:=Ak.XF ho;rw[he,ha,e0,F8]at q;exact⟨_,W,Bf W<|go.r<|q H2<|s1.trans s2⟩
  |true=>
   refine⟨_,W,BP W ?_⟩;have Yd:=s2 _ _ E;refine⟨_,W,t1,_,0,u,W,W,BO.of Yd,C',H,u,p.1,W,s1.trans s2,M,λhd H3 s3 cs=>?_⟩;have vV:=s3 _ _ Yd;have s13:=s2.trans s3;have S3:=s1.trans s13;have fin:∀(D:Addr)(tt:List Addr)(I:List (Ak×Pt))(s:Hp)(o2 o3:Option V),AF H3 s->s D=Z (.lst<|tt.map V.ref)->Bu H s tt (I.map λp=>(p.1.pt,p.2))->Ak.Kp p.1 p.2 I->(∀x∈I,x.1.ok/\x.2.doc/\x.1.size<p.1.size/\x.2.size<p.2.size)->Ej I<p.1.size->
     NQ (.ref L) [.ref D] s λ_ H6=>ez.nx [Z v,Z y,Z (.ref L),o2,o3] H6:=λD tt I s o2 o3 A hD pq kq oq sq=>by
    have S:=s13.trans A;have vW:=pq.length;rw[bi]at vW;have qW:=Hu I;refine⟨L,D,_,_,W,W,S _ _ O,hD,AX<|by rw[bi,bi];lia,go.n ⟨Ej<|X++I,by rw[Fl,sz];lia,Y++tt,X++I,o2,o3,W,(s1.trans S).put nL,by rw[AD,sU],?_,?_,W,?_,?_⟩⟩
    .rw[sU];refine Nf ?_ ?_
     .exact(i_.up λa b c e=>S _ _ e).up λa b c e=>(AH<|GY e (S _ _ O)<|by intro z;cases z).trans e
     .exact pq.up λa b c e=>(AH<|GY e (S _ _ O)<|by intro z;cases z).trans e
    .intro x hx;rcases rc.mp hx with hx|hx
     .exact dd x<|by simp[hx]
     .obtain⟨a1,a2,a3,a4⟩:=oq x hx;exact⟨a1,a2,am (gt a3) z1,am (gt a4) z2⟩
    .rw[Fl];exact am (am (im (gt sq) _)<|bm sz.symm) hm
    .rw[he,ha,R0,Ak.VD ζ ho kq]
   refine⟨_,W,.inl ⟨W,_,Ab.of<|s13 _ _ O⟩,?_⟩;rcases cs with⟨rt,hh⟩|⟨na,P2,rfl,vX⟩
   .have vY:Fe p.1.hold:=by
     rcases rt with⟨xs,m,e⟩|⟨ks,xs,ls,m,e⟩
     .rw[e]at z1⊢;simp only[Ak.size]at z1;have:=Ak.CQ xs;show(Ak.EZ xs).length<=900;rw[Ak.AV,bi];exact am (am this<|d0 _ _) z1
     .rw[e]at ζ⊢;simp only[Ak.ok]at ζ;refine⟨?_,E4 ζ.2.2.2.1 ac⟩;rw[Ak.AV,bi];exact ζ.1
    refine⟨_,W,hd,p.1.hold,W,hh.up S3,vY,λD0 l H4 s4 n4 C st=>?_⟩;obtain⟨es,fs,I,J⟩:∃es fs I,mm H hd w p.1 p.2 l es fs I:=by
     rcases rt with⟨xs,m,e⟩|⟨ks,xs,ls,m,e⟩
     .rw[e]at hh ζ ho st⊢;exact VF hh hw ζ d2 ho st
     .rw[e]at hh ζ ho st⊢;exact VG hh hw ζ d2 ho st
    have qW:=Hu I;have ka:=J.lp;have vZ:=J.sm;have gi:∀{i:Nat}{x:V},l[i]?=Z x->l.getD i .AZ=x:=λh=>by rw[b7,h];rfl
    refine⟨D0,W,⟨_,Ab.of C⟩,?_⟩;refine Kw l.length (λi=>l.getD i .AZ) es fs J.le J.lf (am (bm ka.symm)<|am qW<|am (am (gt vZ) z1) ac) (λi s hi A=>⟨_,_,A.seq<|Ab.of C,zc hi⟩) (λi s v H' hi A yl=>?_) (λs A=>⟨_,A.seq<|Ab.of C,bv _⟩) (λi s R x z hi A hx hz r=>?_) λD s tt hD A hl lt tp=>?_
    .obtain⟨e,yl⟩:=yl;exact⟨(gi<|yl _<|A.seq<|Ab.of C).symm,e⟩
    .obtain⟨gG,qX,g1⟩:=J.ge i x hx;obtain⟨yx,qY,g2⟩:=J.gf i z hz;rw[qX]at qY;cases qY;rw[gi qX];have SS:=(S3.trans s4).trans A;have ef:=A _ _<|s4 _ _ vV;have first:∀R':VK,R' x s->(fun σ H Q=>Oo (WN K) (GV 1) (GV 0) σ H Q∨Wa (GV 1) (GV 0) σ H Q) [Z gG,Z hd,Z<|.ref t1] s R':=λR' r'=>by
      rcases g1 with⟨a,xs,j,rfl,h,rfl,e2⟩|⟨a,kvs,k,rfl,h,rfl,e2⟩
      .exact .inl ⟨_,W,_,W,a,_,_,_,W,W,.inl<|h.up<|SS _,Aa e2,r'⟩
      .refine .inr ⟨_,W,_,W,a,x,W,?_,r'⟩;rw[<-e2];exact .inl ⟨_,e9 k,h.up<|SS _,W,W⟩
     refine first _ ?_
     rcases g2 with⟨a,xs,j,rfl,h,rfl,e2⟩|⟨a,kvs,k,rfl,h,rfl,e2⟩
     .exact .inl ⟨_,W,t1,_,1,_,W,W,BO.of ef,CL,_,W,a,_,_,_,W,W,.inl<|h.up<|SS _,Aa e2,Ac,λp hp=>r p hp⟩
     .refine .inr ⟨_,W,t1,_,1,_,W,W,BO.of ef,CL,_,W,a,z,W,?_,Ac,λp hp=>r p hp⟩;rw[<-e2];exact .inl ⟨_,e9 k,h.up<|SS _,W,W⟩
    .exact fin D tt I s _ _ (s4.trans A) hl (Bu.of (lt.trans ka.symm) (by rw[J.le,ka]) (by rw[J.lf,ka]) J.va J.vb tp) J.kp J.ok J.sm
   .refine⟨_,W,.ref P2,.lst [],W,.lst (.inl vX) .nil,j5 _,λD0 l H4 s4 n4 C st=>?_⟩;have el:l=[]:=st;subst el;refine⟨D0,W,⟨_,Ab.of C⟩,?_⟩;refine Kw 0 (λi=>.AZ) [] [] W W (j5 _) (λi s hi A=>absurd hi<|N5 _) (λi s v H' hi A yl=>absurd hi<|N5 _) (λs A=>⟨_,A.seq<|Ab.of C,bv _⟩) (λi s R x z hi=>absurd hi<|N5 _) (λD s tt hD A hl lt tp=>?_);have vd:tt=[]:=F1.mp lt;subst vd;refine fin D [] [] s _ _ (s4.trans A) hl .nil ?_ (λx hx=>by cases hx) (by show 0<_;exact bn ac pp);rcases na with e|⟨d,e⟩
    .rw[e];rfl
    .rw[e];rfl
theorem JD(F:Fq K "lets_in_outside" 19 f fd)(T:Txt mg)(c:Df P w K mg base "are_equal" lqg 4 TN)(j:Df P w K mg base "is_count" lqp 1 Ng)(g:Df P w K mg base "has_names" lqn 2 Mc):Ar P w K mg base CA 5 f fd lqn bx:=by
 refine F.oq lqn λH _ _ _ l s h=>?_;obtain⟨v,y,V,t,rfl,E,p,n,o,X,L,q⟩:=h;refine⟨_,(AA (AO (AK Aj (Ay K 0) AS<|AL _) (AE<|AI Bp) AJ)<|AA (AO (AK Aj (Ay K 0) AS<|AL _) (AE<|AI<|BM c s<|AB (Ay K 0)<|AU<|pv 1) AJ)<|AA (AO (AK Aj (Ay K 0) AS<|AL _) (AE<|AI<|Cb (JQ K T (pv 1) T.list BR)<|Bw<|BM j s<|AB (CH K T<|pv 1)<|AB (CH K T<|Ay K 0)<|AU<|Ay K 0) AJ)<|AE<|AI<|Cb (JQ K T (pv 1) T.dict CC)<|Bw<|BM g s<|AB (pv 0)<|AU<|pv 1),?_⟩;obtain⟨r,Y,rest,k,M⟩:=E.ak;rcases M with _|⟨d,u,l⟩|⟨x,m,u,l⟩|⟨N,x,ls,m,u,z,l,ζ⟩
 .refine(Gz k<|q H<|AF.refl H)
 .refine JP k ?_;refine Gz k ?_;simp only[Ak.ok]at n;exact⟨_,W,r,_,1,u,W,W,k,CL,_,W,u,y,d,t,W,l,p,n.2.1,o,am n.2.2 ac,L,q⟩
 .refine JP k ?_;refine JP k ?_;refine Gz k ?_;refine⟨_,W,_,"list",t.TL,W,W,p.ty,_,W,?_⟩;cases l with
  |@lst a G _ O Q=>
   have I:=Q.length;rw[Ak.AV,bi]at I;cases p with
   |@lst b J A B C=>
    have R:=C.length;refine As ⟨_,W,b,_,W,.inl<|.inl B,_,W,r,_,1,_,W,W,k,CL,a,_,W,.inl<|.inl O,_,W,r,_,2,_,W,W,k,at2,J.length,G.length,m,W,?_⟩;have e:Ak.CI (.row x m) (.lst A)=Ak.cnt J.length G.length m:=by simp only[Ak.CI,I,R]
    rw[e]at q;exact q H (AF.refl H)
   |int i=>exact AQ (q H (AF.refl H))|str i=>exact AQ (q H (AF.refl H))|bl b=>simp[Pt.doc]at o|AZ=>simp[Pt.doc]at o|tup _ _=>simp[Pt.doc]at o|Ah _ _ _=>exact AQ (q H (AF.refl H))
 .refine JP k ?_;refine JP k ?_;refine JP k ?_;refine⟨_,W,_,"dict",t.TL,W,W,p.ty,_,W,?_⟩;cases p with
  |@Ah b S U A B D C=>exact As ⟨_,W,_,W,.ref r,.ref b,N,x,ls,m,U,A,W,E,.Ah B D C,n,o,q⟩|int i=>exact AQ (q H (AF.refl H))|str i=>exact AQ (q H (AF.refl H))|bl b=>simp[Pt.doc]at o|AZ=>simp[Pt.doc]at o|tup _ _=>simp[Pt.doc]at o|lst _ _=>exact AQ (q H (AF.refl H))
theorem Sl(F:Fq K "is_count" 20 f fd)(T:Txt mg):Ar P w K mg base CA 1 f fd lqp Ng:=by
 refine F.oq lqp λH _ _ _ _ b h=>?_;obtain⟨c,l,m,rfl,q⟩:=h;refine⟨_,(AE<|AI<|Oi (BD Aj (pv 0) (pv 1)<|AL _)<|Bw<|Cb (pv 2)<|Bw<|BD Ot (pv 0) (pv 1)<|AL _),?_⟩;refine⟨_,W,_,W,W,_,W,?_⟩;by_cases e:c=l
 .subst e;have:Ak.cnt c c m=true:=by simp[Ak.cnt]
  rw[this]at q;exact Bf GE q
 .have ne:decide (V.int (c:Int)=V.int (l:Int))=false:=decide_eq_false λz=>e<|Int.ofNat_inj.mp<|V.int.inj z;refine BP ne ?_;cases m with
  |true=>
   have:Ak.cnt c l true=decide ((l:Int)<(c:Int)):=by
    have a:(c==l)=false:=GT e
    simp only[Ak.cnt,a,aen,zk];rw[ul];simp
   rw[this]at q;exact⟨_,W,_,W,As ⟨_,W,_,W,_,_,W,W,q⟩⟩
  |false=>
   have:Ak.cnt c l false=false:=by
    have a:(c==l)=false:=GT e
    simp[Ak.cnt,e]
   rw[this]at q;exact⟨_,W,_,W,AQ q⟩
theorem Qo(F:Fq K "has_names" 21 f fd)(T:Txt mg)(A:Df P w K mg base "is_count" lqp 1 Ng):Ar P w K mg base CA 2 f fd lqn Mc:=by
 refine F.oq lqn λH _ _ _ E hr h=>?_;obtain⟨v,y,g,xs,ls,m,d,G,rfl,hv,hy,Y,dt,q⟩:=h;refine⟨_,(AA (AO (PW.pt<|pw_or (Ag<|Am (Hr W) W T.any TH<|AU<|Hg<|cmp lql [1] (ER<|Ay K 0) λ_ _ _ _=>(NG<|Ef E (pv 0)<|pv 1))<|pw_or1<|Ag<|Am (Hr W) W T.any TH<|AU<|cmp lql [1] (BQ<|Ay K 0) λ_ _ _ _=>(NG<|Ie E (pv 0)<|pv 1)) (AE<|AI Bp) AJ)<|AE<|AI<|BM A hr<|AB (Am GD W T.len T2<|AU<|pv 1)<|AB (Am GD W T.len T2<|AU<|Ay K 0)<|AU<|Ay K 0),?_⟩;obtain⟨t,w0,rest,ht,cs⟩:=hv.ak;rcases cs with _|_|_|⟨_,_,_,_,u,z,E,hz⟩;have isIn:∀{c:List (Key×V)},c.map (·.1)=d.map e9->∀k:Str,(CG c<|e9 k).isSome=decide (k∈d):=λ{c} hk k=>by
  rw[ul,decide_eq_true_iff];have mi:(e9 k:Key)∈c.map (·.1)↔k∈d:=by
   rw[hk];constructor
   .intro h;obtain⟨y,hy,e⟩:=u7.mp h;rw[<-G0 e];exact hy
   .exact λh=>A1 h
  rw[<-mi];cases e:CG c (e9 k:Key)with
  |none=>simp only[acn];exact⟨(λh=>nomatch h),λh=>absurd h (PL e)⟩
  |some z=>simp only[R5];exact⟨λ_=>NT e,λ_=>trivial⟩
 simp only[Ak.ok]at Y;obtain⟨o1,o2,o3,o4,o5,o6,o7⟩:=Y;cases E with
 |@Ah a B _ _ ha ζ ra=>
  cases hz with
  |@lst l vl _ hl rl=>
   cases hy with
   |@Ah b c _ _ hb J rb=>
    have kl:B.length=g.length:=by have:=congrArg sw ζ;simpa using this
    have jC:c.length=d.length:=by have:=congrArg sw J;simpa using this
    simp only[Pt.doc]at dt;have L:∀(i:Nat) k v,B[i]?=Z (k,v)->i<g.length/\k=e9 (g.getD i ""):=λi k v e=>by
     have p:=(zd e).1;rw[kl]at p;refine⟨p,?_⟩;have M:=congrArg (λz=>z[i]?) ζ;simp only[b6,e,zc p]at M;have M:k=e9 g[i]:=GT M
     rw[M,b7,zc p];rfl
    have jD:vl=ls.map V.str:=by
     have gen:∀{vs:List V}{ls:List Str},AR H vs (ls.map Pt.str)->vs=ls.map V.str:=by
      intro vs ls
      induction ls generalizing vs with
      |nil=>intro h;cases h;rfl|cons x r ih=>
       intro h;cases h with
       |cons h1 h2=>cases h1;rw[jp,ih h2]
     exact gen rl
    subst jD;refine⟨a,B,ha,λo Hf F=>⟨_,W,t,_,1,.ref a,W,W,ht.Je<|JG.Ca F,CL,a,o,_,W,F.at_,?_⟩⟩;refine DG (n:=g.length) (λi=>.str<|g.getD i "") (λi=>.bl<|!decide (g.getD i ""∈d)) (λ_=>true) (AX<|am (gt o4) ac) (λi D G p s=>⟨(AH<|Al F.at_ s).trans F.at_,by rw[kl];exact p⟩) (λi D G v H' p s y=>?_) (λD G s=>⟨(AH<|Al F.at_ s).trans F.at_,kl.symm⟩) (λi D G R p s r=>by exact r) (λi D G R p s _ r=>?_) λD s=>?_
    .obtain⟨e,k,w',e1,M⟩:=y;rw[(L i k w' e1).2]at M;exact⟨M,e⟩
    .have N:Rd (upd Hf D<|.lst G) b (.dK c):=(F.rd _ _ hb).up λo e=>(AH<|Al e s).trans e;refine⟨_,W,_,W,b,_,W,.inl ⟨c,e9<|g.getD i "",N,W,W⟩,?_⟩;rw[isIn J];exact r
    .have nX:=F.free s;refine⟨(AH<|Al F.at_ s).trans F.at_,?_⟩;have O:AF H (back a H<|upd Hf D<|.lst<|(V8 (λ_=>true)<|j9 g.length).map λi=>V.bl<|!decide (g.getD i ""∈d)):=F.back<|AF.new s;have fD:back a H (upd Hf D<|.lst<|(V8 (λ_=>true)<|j9 g.length).map λi=>V.bl<|!decide (g.getD i ""∈d)) D=Z (.lst<|(g.map λk=> !decide (k∈d)).map V.bl):=by
      rw[Dq nX.2,AD];congr 2;rw[X9.mpr λ_ _=>rfl,u5];refine No GE λi h1 h2=>?_;simp only[aaF,Z5,aar];have p:i<g.length:=GT h1
      rw[b7,zc p];rfl
     generalize back a H (upd Hf D<|.lst<|(V8 (λ_=>true)<|j9 g.length).map λi=>V.bl<|!decide (g.getD i ""∈d))=U at O fD⊢;refine⟨D,g.map λk=> !decide (k∈d),W,Ab.of fD,_,W,?_⟩;have ea:(g.map λk=> !decide (k∈d)).any id= !(g.all λk=>decide<|k∈d):=by
      rw[acF,List.not_all_eq_any_not];rfl
     rw[ea];have Yu:=ht.up O;cases C:g.all (λk=>decide<|k∈d)with
     |false=>
      have e:Ak.CI (.tab g xs ls m) (.Ah d G)=false:=by simp only[Ak.CI,C,F7]
      rw[e]at q;exact As (As<|q U O)
     |true=>
      refine AQ ?_;refine⟨_,W,t,_,2,.ref l,W,W,Yu,at2,l,W,⟨_,.inl<|hl.up<|O _⟩,?_⟩;have jE:=hl.up<|O _;have li:∀i,i<ls.length->(ls.map V.str)[i]?=Z (.str<|ls.getD i ""):=λi p=>by
       rw[b6,zc p,b7,zc p];rfl
      have Q:∀{D:Addr}{S:List V},U D=ν->Rd (upd U D<|.lst S) l (.lst<|ls.map V.str):=λh=>jE.up λo e=>(AH<|Al e h).trans e;refine DG (n:=ls.length) (λi=>.str<|ls.getD i "") (λi=>.bl<|decide<|ls.getD i ""∈d) (λ_=>true) (AX<|am o5.1 ac) (λi D S p s=>⟨_,_,.inl<|Q s,li i p⟩) (λi D S v H' p s y=>?_) (λD S s=>⟨_,.inl<|Q s,by rw[bi];exact bv _⟩) (λi D S R p s r=>by exact r) (λi D S R p s _ r=>?_) λD2 jF=>?_
      .obtain⟨e,y⟩:=y;have:=y _<|.inl<|Q s;rw[li i p]at this;exact⟨(ze this).symm,e⟩
      .have N:Rd (upd U D<|.lst S) b (.dK c):=(hb.up<|O _).up λo e=>(AH<|Al e s).trans e;refine⟨_,W,_,W,b,_,W,.inl ⟨c,e9<|ls.getD i "",N,W,W⟩,?_⟩;rw[isIn J];exact r
      .have X:=O.trans<|AF.new (o:=.lst<|(V8 (λ_=>true)<|j9 ls.length).map λi=>V.bl<|decide<|ls.getD i ""∈d) jF;have qZ:upd U D2 (.lst<|(V8 (λ_=>true)<|j9 ls.length).map λi=>V.bl<|decide<|ls.getD i ""∈d) D2=Z (.lst<|(ls.map λk=>decide<|k∈d).map V.bl):=by
        rw[AD];congr 2;rw[X9.mpr λ_ _=>rfl,u5];refine No GE λi h1 h2=>?_;simp only[aaF,Z5,aar];have p:i<ls.length:=GT h1
        rw[b7,zc p];rfl
       generalize upd U D2 (.lst<|(V8 (λ_=>true)<|j9 ls.length).map λi=>V.bl<|decide<|ls.getD i ""∈d)=H2 at X qZ⊢;refine⟨D2,ls.map λk=>decide<|k∈d,W,Ab.of qZ,_,W,?_⟩;have eb:(ls.map λk=>decide<|k∈d).any id=ls.any λk=>decide (k∈d):=by
        rw[acF];rfl
       rw[eb];have Yd:=ht.up X;cases I:ls.any (λk=>decide<|k∈d)with
       |true=>
        have e:Ak.CI (.tab g xs ls m) (.Ah d G)=false:=by simp[Ak.CI,C,I]
        rw[e]at q;exact As (q H2 X)
       |false=>
        have e:Ak.CI (.tab g xs ls m) (.Ah d G)=Ak.cnt d.length g.length m:=by simp only[Ak.CI,C,I,ZB,acb,zk]
        rw[e]at q;exact AQ ⟨_,W,b,c,W,hb.up<|X _,_,W,t,_,1,_,W,W,Yd,CL,a,B,W,ha.up<|X _,_,W,t,_,3,_,W,W,Yd,Aa (j:=3) W,c.length,B.length,m,W,by rw[jC,kl];exact q H2 X⟩
theorem Qp{c:Addr}(F:Fq K "good_form" 22 f fd)(T:Txt mg)(b:Df P w K mg base "folded" lqo 6 (Nk c d))(i:mg "inner_nodes"=Z (.ref c))(j:mg "good_part"=Z (.ref d)):Ar P w K mg base CA 7 f fd ["asks"] Nl:=by
 refine F.oq ["asks"] λH _ _ _ _ k h=>?_;obtain⟨G,v,a,rfl,l,m,e,g,q⟩:=h;refine⟨_,(AE<|AI<|BM b k<|AB (pv 0)<|AB (F_ (v:=.ref c) W i W)<|AU<|F_ (v:=.ref d) W j W),?_⟩;exact⟨_,W,G,v,a,W,l,m,e,g,q⟩
theorem Qq{O:Addr}(F:Fq K "good_part" 23 f fd)(T:Txt mg)(g:Df P w K mg base "copy_of" lql 2 UI)(i:Df P w K mg base "filled" lqs 2 LL)(c:Df P w K mg base "good_row" lqA 4 GK)(a:Df P w K mg base "good_table" lqr 4 GL)(mA:mg "ANY"=Z (.ref O))(hA:Wx K O ["any"]=true):Ar P w K mg base CA 5 f fd lqx Gp:=by
 refine F.oq lqx λH _ _ _ l Q h=>?_;obtain⟨G,ζ,v,a0,L,ws,R,cs,rfl,S,hv,s,t,hL,nL,E,x,y,A,q⟩:=h;refine⟨_,(AA (AO (AK Aj (Ay K 0) AS<|AL _) (AE<|AI<|F_ (v:=.ref O) W mA W) AJ)<|AA (AO (AK Aj (Ay K 0) AS<|AL _) (AE<|AI<|Ao<|AB AS<|AU<|BM g Q<|AU<|Ay K 0) AJ)<|AA (AO (AK Aj (Ay K 0) AS<|AL _) (AE<|AI<|BM c Q<|AB (pv 1)<|AU<|Ay K 0) AJ)<|AE<|AI<|BM a Q<|AB (BM i Q<|AB (Ay K 0)<|AU<|pv 1)<|AB (Ay K 0)<|AU<|Ay K 0),?_⟩;obtain⟨D,w0,rest,U,k⟩:=hv.ak;have n:=U.up S;have le:=y.length;have V:=A.length;rw[bi]at V;refine⟨_,W,D,_,0,_,W,W,n,C',W,_,W,?_⟩;rcases k with _|⟨d,u,l⟩|⟨xs,m,u,l⟩|⟨ks,xs,ls,m,u,z,l,hz⟩
 .exact Ep<|q (.ref O) .any H (AF.refl H) (.tup (BO.qC (ws:=["any"]) hA _)<|.cons (.str _) .nil) .any
 .refine C_<|Gz n ?_;simp only[Ak.Az]at s;simp only[Ak.wt]at t;refine⟨_,W,D,_,1,_,W,W,n,CL,u,d,W,l.up S,s,t,λw X r I=>⟨Ac,λp J=>?_⟩⟩;refine q _ (.AY d) _ (r.trans<|AF.new J) (.tup (BO.of<|by rw[BC<|E p<|r.free J,AD])<|.cons (.str _)<|.cons (I.up<|Bi E λb o _ h=>AF.new J _ _ h) .nil)<|.AY d
 .refine C_<|JP n ?_;refine Gz n ?_;have ea:R=xs:=x;subst ea;simp only[Ak.wt]at t;have:=Ak.CQ R;have:=Ak.B_ R;exact⟨_,W,_,W,D,_,2,_,W,W,n,at2,ζ,L,ws,cs,m,W,hL,A,z_,E,nL,λw X r I=>q w _ X r I<|.row y⟩
 .refine C_<|JP n ?_;refine JP n ?_;simp only[Ak.Kd]at x;obtain⟨ss,pm,so,e⟩:=x;simp only[Ak.Az]at s;obtain⟨o1,o2,o3,o4,o5,o6,o7⟩:=s;have la:R.length=ss.length:=by have:=congrArg sw e;simpa using this.symm
  have M:=pm.length_eq;refine⟨_,W,D,_,1,_,W,W,n,CL,_,W,.tab u ks _ L ws W (l.up S) hL ⟨by rw[Ak.AV,bi];exact o1,bn o4 ac⟩ (V.trans<|le.symm.trans<|la.trans M) o2 λp Y X r np B C J=>?_⟩;have es:=Bs C so<|B.trans pm.symm;subst es;have N:=n.up r;refine⟨_,W,D,_,2,_,W,W,N,at2,_,W,D,_,3,_,W,W,N,Aa (j:=3) W,G,ζ,p,Y,ws,cs,z,ls,m,W,J,A.up<|Bi (λb h=>h) λb o _ h=>r _ _ h,la.symm.trans<|le.trans V.symm,B.nodup_iff.mpr o2,d8 (am (bm M)<|gt o4) ac,C,(λb h=>E b<|r.free h),E p np,(hz.up S).up r,o5,λw H2 s2 I=>q w _ H2 (r.trans s2) I<|.tab B C e y⟩
theorem Sn(F:Fq K "good_row" 24 f fd)(T:Txt mg)(a:Df P w K mg base "inner_just" ["holder"] 3 LM):Ar P w K mg base CA 4 f fd lqA GK:=by
 refine F.oq ["cells","more","just"] λH _ _ n _ B h=>?_;obtain⟨k,L,J,c,m,rfl,C,i,r,t,D,q⟩:=h;refine⟨_,(AA (Ad 2 n<|BM a B<|AU<|pv 0)<|AA (AO (PW.pt<|pw_or (Ag<|pv 1)<|pw_or1<|AK NI (pv 2) Dx<|AL _) (AE<|AI<|Ao<|AB AS<|AB (pv 0)<|AU<|pv 1) AJ)<|AE<|AI<|pv 2),?_⟩;have len:=i.length;rw[bi]at len;have u:Val (nw k H) (.ref L) (.lst<|c.map Ak.pt):=.lst (.inl<|by rw[BC D];exact C) i;refine⟨_,W,k,.ref L,_,c,.lst,W,u,.row c<|am (bm len.symm) r,t,λw l j hw=>?_⟩;have up:∀{v:Hp},AF l v->Val (nw k v) (.ref L) (.lst<|c.map Ak.pt):=λE=>u.up (Bi (λb h=>h) λb o _ h=>(j.trans E) _ _ h);have d:∀p,l p=ν->Val (nw k<|upd l p<|.tup [.str "row",.ref L,.bl m]) (.ref p) (Ak.row c m).pt:=λp g=>by
  simp only[Ak.pt];rw[Ak.AV];exact .tup (BO.of<|by rw[BC<|t p<|j.free g,AD])<|.cons (.str _)<|.cons (up<|AF.new g)<|.cons (.bl m) .nil
 have A:∀{x y z:V},[x,y,z].length<=sizeLine:=AX (show 3<=1000 by decide);refine⟨_,W,_,W,?_⟩;cases m with
 |true=>exact As (As ⟨_,W,_,W,A,λp g=>q _ _ (j.trans (AF.new g)) (d p g)⟩)|false=>
  rcases hw with⟨s,rfl⟩|⟨G,s,hw⟩
  .have e:Ak.BW c false=Ak.row c false:=by unfold Ak.BW;rw[if_neg GE,s]
   rw[e]at q;exact AQ ⟨_,W,W,_,W,As ⟨_,W,_,W,A,λp g=>q _ _ (j.trans<|AF.new g)<|d p g⟩⟩
  .have e:Ak.BW c false=Ak.AY (.lst G):=by unfold Ak.BW;rw[if_neg GE,s]
   rw[e]at q;have I:w≠.AZ:=λz=>by rw[z]at hw;cases hw
   exact AQ ⟨_,W,W,_,W,BP (decide_eq_false I) ⟨_,W,q w l j hw⟩⟩
theorem OX(F:Fq K "good_table" 25 f fd)(T:Txt mg)(c:Df P w K mg base "inner_just" ["holder"] 3 LM):Ar P w K mg base CA 4 f fd lqr GL:=by
 refine F.oq ["names","lacking","more","just"] λH _ _ u _ N h=>?_;obtain⟨G,t,L,g,O,i,z,ls,m,rfl,Q,s,hlen,v,A,B,C,R,S,U,q⟩:=h;refine⟨_,(AA (AO (Ag<|pv 2) (AE<|AI<|Ao<|AB AS<|AB (pv 0)<|AB (Ai Br W T.list BR<|AU<|pv 1)<|AU Bp) AJ)<|AA (Ad 3 u<|BM c N<|AU<|pv 0)<|AA (AO (AK NI (pv 3) Dx<|AL _) (AE<|AI<|Ao<|AB AS<|AB (pv 0)<|AB (Ap BL)<|AU Bp) AJ)<|AE<|AI<|pv 3),?_⟩;have len:=s.length;rw[bi]at len;have E:Val (nw t H) (.ref L) (.Ah g<|i.map Ak.pt):=.Ah (kvs:=Bo g O) (.inl<|by rw[BC R];exact Q) (BI hlen) (by rw[CJ hlen];exact s);have up:∀{I:Hp},AF H I->Val (nw t I) (.ref L) (.Ah g<|i.map Ak.pt):=λX=>E.up (Bi (λb h=>h) λb o _ h=>X _ _ h);have J:∀{x y z w:V},[x,y,z,w].length<=sizeLine:=AX (show 4<=1000 by decide);have j:∀{n:Hp}{k:Addr}{zs:List Str}{m:Bool},AF H n->H k=ν->n k=Z (.lst<|zs.map V.str)->∀p,n p=ν->Val (nw t<|upd n p<|.tup [.str "table",.ref L,.ref k,.bl m]) (.ref p) (Ak.tab g i zs m).pt:=λ{n k zs m} r Y ζ p l=>by
  simp only[Ak.pt];rw[Ak.AV];have M:=AF.new (o:=.tup [.str "table",.ref L,.ref k,.bl m]) l;exact .tup (BO.of<|by rw[BC<|C p<|r.free l,AD])<|.cons (.str _)<|.cons (up<|r.trans M)<|.cons (.lst (.inl<|by rw[BC<|C k Y];exact M _ _ ζ)<|IB zs)<|.cons (.bl m) .nil
 cases m with
 |true=>
  cases S with
  |@lst a vs _ ha ra=>
   have ev:=CF ra;subst ev;refine⟨_,W,_,W,As ⟨_,W,_,W,a,_,W,.inl<|.inl ha,λk d=>⟨J,λp l=>?_⟩⟩⟩;exact q _ _ ((AF.new d).trans<|AF.new l) (j (AF.new d) d AD p l)
 |false=>
  refine⟨_,W,_,W,AQ ?_⟩;refine⟨_,W,t,.ref L,_,i,.Ah g,W,E,.tab g i (hlen.trans len) v A B,C,λw n r hw=>?_⟩;rcases hw with⟨D,rfl⟩|⟨ds,D,hw⟩
  .have e:Ak.BX g i ls false=Ak.tab g i [] false:=by unfold Ak.BX;rw[if_neg GE,D]
   rw[e]at q;exact⟨_,W,W,_,W,As ⟨_,W,j5 _,λk d=>⟨J,λp l=>q _ _ ((r.trans<|AF.new d).trans<|AF.new l)<|j (zs:=[]) (r.trans<|AF.new d) (r.free d) AD p l⟩⟩⟩
  .have e:Ak.BX g i ls false=Ak.AY (.Ah g ds):=by unfold Ak.BX;rw[if_neg GE,D]
   rw[e]at q;have nn:w≠.AZ:=λz=>by rw[z]at hw;cases hw
   exact⟨_,W,W,_,W,BP (decide_eq_false nn) ⟨_,W,q w n r hw⟩⟩
theorem Vq{e:Addr}(F:Fq K "both_of" 26 f fd)(T:Txt mg)(c:Df P w K mg base "folded" lqo 9 (ON d e))(j:mg "pairs_within"=Z (.ref d))(k:mg "both_part"=Z (.ref e)):Ar P w K mg base CA 10 f fd lqg Qe:=by
 refine F.oq lqg λH _ _ _ _ l h=>?_;obtain⟨v,y,a,b,rfl,m,n,s,t,q⟩:=h;refine⟨_,(AE<|AI<|BM c l<|AB (Ao<|AB (pv 0)<|AU<|pv 1)<|AB (F_ (v:=.ref d) W j W)<|AU<|F_ (v:=.ref e) W k W),?_⟩;refine⟨_,W,_,W,Ac,λp u=>?_⟩;obtain⟨D,i,g,x⟩:=Dj (o:=.tup [v,y]) u;rw[i];clear i;refine⟨H,.ref p,(a,b),W,g,⟨p,v,y,W,x,m,n⟩,s,t,λw r z A B C=>?_⟩;exact q w r z (g.trans A) (B.up<|Bi (λb h=>g.free h) λb o _ h=>h) C
theorem Fz(F:Fq K "pairs_within" 27 f fd)(T:Txt mg)(g:Df P w K mg base "do_meet" lqg 2 SW)(c:Df P w K mg base "told_or_any" lqy 2 cB)(d:Df P w K mg base "steps_of_both" lqg 1 LZ):Ar P w K mg base CA 3 f fd ["pair"] KH:=by
 refine F.oq ["pair","one","other"] λH _ _ B _ J h=>?_;obtain⟨G,v,qq,rfl,O,Q,u,z,q⟩:=h;refine⟨_,(AA (DD (i:=1) B W (O9 W)<|Ay K 0)<|AA (DD (i:=2) B W (O9 W)<|Ay K 0)<|AA (AO (Cj<|Ag<|BM g J<|AB (pv 1)<|AU<|pv 2) (AE<|AI<|Ap BL) AJ)<|AE<|AI<|cmp lqg [1,2] (BQ<|BM d J<|AB (pv 1)<|AU<|pv 2) λ_ _ _ _=>(Ao<|AB (BM c J<|AB (pv 1)<|AU<|pv 0)<|AU<|BM c J<|AB (pv 2)<|AU<|pv 0)),?_⟩;obtain⟨e,x,y,rfl,he,L,M⟩:=Q;obtain⟨a,b⟩:=qq;dsimp only at L M u z q;refine⟨_,W,e,_,0,_,W,W,BO.of he,C',?_⟩;dsimp only[BY];refine⟨_,W,e,_,1,_,W,W,BO.of he,CL,?_⟩;dsimp only[BY];refine⟨_,W,_,W,x,y,a,b,W,L.up O,M.up O,u.Az,z.Az,λH1 C=>⟨_,W,?_⟩⟩;cases A:Ak.meet a b with
 |false=>exact As ⟨ac,λp hp=>q p [] [] _ (C.trans (AF.new hp)) (C.free hp) AD (.off A) .nil⟩|true=>
  refine AQ ?_;have ia:a.RE=true:=by cases a<;>first|rfl|cases A
  have ib:b.RE=true:=by rw[Ak.meet_comm]at A;cases b<;>first|rfl|cases A
  have s:=O.trans C;refine⟨_,W,_,W,x,y,a,b,W,L.up s,M.up s,A,u,z,λpl E H2 R yy st m=>?_⟩;have l9:=st.len u z;have S:=s.trans R;refine⟨pl,W,⟨_,Ab.of m⟩,?_⟩;refine Jq E.length (λi=>(E.map kV).getD i .AZ) (λD i n=>H2 D=ν/\AF H2 n/\∃r,n D=Z (.lst r)/\r.length=i/\Paired (YJ (K:=K) G n) r ((E.take i).map λk=>(a.eO k,b.eO k))) (λD t=>⟨t,AF.new t,[],AD,W,.nil⟩) (λD i n j ⟨_,l,_⟩=>⟨_,_,Ab.of<|l _ _ m,zc<|by rw[bi];exact j⟩) (λD i n v H' j ⟨_,l,_⟩ U=>?_) (λD n ⟨_,l,_⟩=>⟨_,Ab.of<|l _ _ m,by rw[bi];exact bv _⟩) (λD i n _ j ⟨t,l,r,V,X,pr⟩=>?_) λD n _ ⟨t,l,r,V,X,pr⟩=>?_
  .obtain⟨e1,U⟩:=U;refine⟨?_,e1⟩;have:=U _<|Ab.of<|l _ _ m;rw[b7,this];rfl
  .obtain⟨k,hk⟩:=BH E i j;rw[show(E.map kV).getD i .AZ=kV k by rw[b7,b6,hk];rfl];have I:=S.trans l;refine⟨_,W,_,W,G,x,a,k,W,I,L,ia,u.Az,u.wt,λw1 v1=>⟨_,W,_,W,G,y,b,k,W,I,M,ib,z.Az,z.wt,λw2 v2=>⟨Ac,λY hE=>?_⟩⟩⟩;obtain⟨H6,eH,ζ,f6⟩:=Dj (o:=.tup [w1,w2]) hE;rw[eH];clear eH;have d6:=ζ _ _ V;have up:∀b N,H6 b=Z (.tup N)->upd H6 D (.lst<|r++[.ref Y]) b=Z (.tup N):=λb N h=>(AH<|EK h d6).trans h;refine⟨r,d6,d8 (am (bm X)<|am (am (gt j) l9) ac)<|Aw<|bv 1000,t,(l.trans ζ).put t,r++[.ref Y],AD,by simp[X],?_⟩;rw[u8,hk,sU];exact Nf (eS pr λb N h=>up _ _<|ζ _ _ h)<|.cons ⟨Y,w1,w2,W,up _ _ f6,v1,v2⟩ .nil
  .rw[xL]at pr;exact q D r _ n ((C.trans R).trans l) ((C.trans R).free t) V (.of A st) pr
theorem Vr(F:Fq K "do_meet" 28 f fd)(T:Txt mg)(c:Df P w K mg base "can_have_cells" lqB 1 Tp)(g:Df P w K mg base "can_have_names" lqC 1 QW):Ar P w K mg base CA 2 f fd lqg SW:=by
 refine F.oq lqg λH _ _ _ _ G h=>?_;obtain⟨v,y,a,b,rfl,J,L,Y,ζ,q⟩:=h;refine gen (AA (AO (PW.pt<|pw_and (AK Aj (Ay K 0) AS<|AL _)<|pw_and1<|AK Aj (Ay K 1) AS<|AL _) (AE<|AI<|Cb (BM c G<|AB (pv 0)<|AU<|CH K T<|Ay K 1)<|Bw<|BM c G<|AB (pv 1)<|AU<|CH K T<|Ay K 0) AJ)<|AA (AO (PW.pt<|pw_and (AK Aj (Ay K 0) AS<|AL _)<|pw_and1<|AK Aj (Ay K 1) AS<|AL _) (AE<|AI<|Cb (BM g G<|AB (pv 0)<|AU<|Ay K 1)<|Bw<|BM g G<|AB (pv 1)<|AU<|Ay K 0) AJ)<|AE<|AI Bp) λX o=>?_;obtain⟨i,w0,rest,j,cs⟩:=J.ak;obtain⟨t1,w1,M,k,A⟩:=L.ak;have p:=AF.refl H;rcases cs with _|⟨d,u,r⟩|⟨N,m,u,r⟩|⟨O,N,ls,m,u,z,r,gH⟩
 .subst o;exact⟨_,W,i,_,0,_,W,W,j,C',W,_,W,C_<|AQ ⟨_,W,i,_,0,_,W,W,j,C',W,_,W,C_<|AQ<|q H p⟩⟩
 .subst o;exact⟨_,W,i,_,0,_,W,W,j,C',W,_,W,C_<|AQ ⟨_,W,i,_,0,_,W,W,j,C',W,_,W,C_<|AQ<|q H p⟩⟩
 .rcases A with _|⟨d,x,l⟩|⟨B,n,x,l⟩|⟨I,B,os,n,x,z1,l,Q⟩
  .subst o;exact⟨_,W,i,_,0,_,W,W,j,C',W,_,W,Ep ⟨_,W,t1,_,0,_,W,W,k,C',W,_,W,C_ ⟨_,W,i,_,0,_,W,W,j,C',W,_,W,C_<|AQ<|q H p⟩⟩⟩
  .subst o;exact⟨_,W,i,_,0,_,W,W,j,C',W,_,W,Ep ⟨_,W,t1,_,0,_,W,W,k,C',W,_,W,C_ ⟨_,W,i,_,0,_,W,W,j,C',W,_,W,C_<|AQ<|q H p⟩⟩⟩
  .have s:=J;have t:=L;obtain⟨a1,C,rfl,R,r1⟩:=r.Fd;obtain⟨b1,D,rfl,S,r2⟩:=l.Fd;have U:=r1.length;have V:=r2.length;rw[Ak.AV,bi]at U V;simp only[Ak.OD,<-U,<-V]at q;subst o;refine⟨_,W,i,_,0,_,W,W,j,C',W,_,W,Ep ⟨_,W,t1,_,0,_,W,W,k,C',W,_,W,Ep ⟨_,W,_,W,t1,_,1,_,W,W,k,CL,b1,_,W,.inl<|.inl S,.ref i,N,m,D.length,W,s,_,W,?_⟩⟩⟩;rw[<-U];cases e:Ak.cells m C.length D.length with
   |false=>
    rw[e]at q;exact AQ (q H p)
   |true=>
    rw[e]at q;exact As ⟨_,W,_,W,i,_,1,_,W,W,j,CL,a1,_,W,.inl<|.inl R,.ref t1,B,n,C.length,W,t,by rw[<-V];exact q H p⟩
  .subst o;exact⟨_,W,i,_,0,_,W,W,j,C',W,_,W,Ep ⟨_,W,t1,_,0,_,W,W,k,C',W,_,W,C_ ⟨_,W,i,_,0,_,W,W,j,C',W,_,W,C_<|AQ<|q H p⟩⟩⟩
 .rcases A with _|⟨d,x,l⟩|⟨B,n,x,l⟩|⟨I,B,os,n,x,z1,l,Q⟩
  .subst o;exact⟨_,W,i,_,0,_,W,W,j,C',W,_,W,C_<|AQ ⟨_,W,i,_,0,_,W,W,j,C',W,_,W,Ep ⟨_,W,t1,_,0,_,W,W,k,C',W,_,W,C_<|q H p⟩⟩⟩
  .subst o;exact⟨_,W,i,_,0,_,W,W,j,C',W,_,W,C_<|AQ ⟨_,W,i,_,0,_,W,W,j,C',W,_,W,Ep ⟨_,W,t1,_,0,_,W,W,k,C',W,_,W,C_<|q H p⟩⟩⟩
  .subst o;exact⟨_,W,i,_,0,_,W,W,j,C',W,_,W,C_<|AQ ⟨_,W,i,_,0,_,W,W,j,C',W,_,W,Ep ⟨_,W,t1,_,0,_,W,W,k,C',W,_,W,C_<|q H p⟩⟩⟩
  .have s:=J;have t:=L;simp only[Ak.Az]at Y ζ;have l1:=Y.2.2.2.1;have l2:=ζ.2.2.2.1;simp only[Ak.J']at q;subst o;refine⟨_,W,i,_,0,_,W,W,j,C',W,_,W,C_<|AQ ⟨_,W,i,_,0,_,W,W,j,C',W,_,W,Ep ⟨_,W,t1,_,0,_,W,W,k,C',W,_,W,Ep ⟨_,W,_,W,t1,_,1,_,W,W,k,CL,.ref i,x,O,N,ls,m,I,_,W,s,l,am (gt l2) ac,λH2 E=>⟨_,W,?_⟩⟩⟩⟩⟩;cases e:Ak.cnames O ls m I with
   |false=>
    rw[e]at q;exact AQ (q H2 E)
   |true=>
    rw[e]at q;exact As ⟨_,W,_,W,i,_,1,_,W,W,j.up E,CL,.ref t1,u,I,B,os,n,O,_,W,t.up E,r.up E,am (gt l1) ac,λH3 s3=>q H3<|E.trans s3⟩
theorem Jk(F:Fq K "can_have_cells" 29 f fd)(T:Txt mg):Ar P w K mg base CA 1 f fd lqB Tp:=by
 refine F.oq lqB λH _ _ _ _ p h=>?_;obtain⟨v,j,m,k,rfl,l,q⟩:=h;refine⟨_,(AE<|AI<|Oi (Ay K 0)<|Bw<|BD bY (pv 1) (CH K T<|Ay K 0)<|AL _),?_⟩;obtain⟨d,r,rest,g,n⟩:=l.ak;rcases n with _|_|⟨_,_,u,a⟩|_;obtain⟨a1,b,rfl,c,o⟩:=a.Fd;have i:=o.length;rw[Ak.AV,bi]at i;refine⟨_,W,d,_,2,_,W,W,g,at2,_,W,?_⟩;cases m with
 |true=>exact As q|false=>
  have e:Ak.cells false j.length k=decide ((k:Int)<=(b.length:Int)):=by simp[Ak.cells,i]
  rw[e]at q;exact AQ ⟨_,W,_,W,d,_,1,_,W,W,g,CL,a1,_,W,.inl<|.inl c,_,_,W,W,q⟩
theorem Jl(F:Fq K "can_have_names" 30 f fd)(T:Txt mg):Ar P w K mg base CA 1 f fd lqC QW:=by
 refine F.oq lqC λH _ _ _ E hr h=>?_;obtain⟨v,y,C,xs,ls,m,s,ts,rfl,hv,hy,hz,q⟩:=h;refine⟨_,(AE<|AI<|Am (Eh W) W T.all MU<|AU<|Hg<|cmp ["asks"] [0] (ER<|pv 1) λ_ _ _ _=>(Oi (NG<|Ie E (pv 0)<|Ay K 1)<|Bw<|Cb (Ay K 1)<|Bw<|BD (Ew:DA _ _ (WT K true)) (pv 0) (Ay K 1) W)),?_⟩;obtain⟨G,w0,rest,I,cs⟩:=hv.ak;rcases cs with _|_|_|⟨_,_,_,_,u,z,J,L⟩;obtain⟨a,M,rfl,ha,N,ra⟩:=J.Nd;obtain⟨l,vl,rfl,hl,rl⟩:=L.Fd;have O:=CF rl;subst O;obtain⟨b,Q,rfl,hb,t,rb⟩:=hy.Nd;have x:=EU t;refine⟨b,Q,hb,λo Hf F=>⟨_,W,b,o,_,W,F.at_,?_⟩⟩;refine CO (n:=s.length) (λi=>.str<|s.getD i "") (λi v=>∃p,s[i]?=Z p/\v=.bl (Ak.QV C ls m p)) (AX<|am hz ac) (λi d D g=>⟨g _ _ F.at_,bn D<|bm x.symm⟩) (λi d v H' D g y=>?_) (λd g=>⟨g _ _ F.at_,x.symm⟩) (λi d R D g r=>?_) λX d rs S g Y lr or=>?_
 .obtain⟨e,k,w',e1,ζ⟩:=y;rw[(Kx t e1).2]at ζ;exact⟨ζ,e⟩
 .have A:JG H d:=(JG.Ca F).trans<|.of g;have U:s[i]?=Z (s.getD i ""):=by rw[b7,zc D];rfl
  generalize s.getD i ""=c at*;refine⟨_,W,_,W,G,_,1,_,W,W,I.Je A,CL,a,_,W,.inl ⟨M,e9 c,A.rd _ _ ha,W,W⟩,_,W,?_⟩;rw[FL N];by_cases B:c∈C
  .rw[decide_eq_true B];exact As<|r _ d (AF.refl _) ⟨c,U,by simp[Ak.QV,B]⟩
  .rw[decide_eq_false B];refine AQ ⟨_,W,G,_,3,_,W,W,I.Je A,Aa (j:=3) W,_,W,?_⟩;cases m with
   |false=>exact AQ (r _ d (AF.refl _) ⟨c,U,by simp[Ak.QV,B]⟩)|true=>
    refine As ⟨_,W,_,W,G,_,2,_,W,W,I.Je A,at2,l,_,W,.inl<|.inl<|A.rd _ _ hl,W,by rw[G8];exact re.mpr λ_ _=>rfl,?_⟩;rw[DS];exact r _ d (AF.refl _) ⟨c,U,by simp[Ak.QV,B]⟩
 .refine⟨g _ _ F.at_,?_⟩;rw[Hy (ps:=s) (f:=Ak.QV C ls m) (vs:=rs) (lr) or]at Y;have d3:back b H d X=Z (.lst<|(s.map<|Ak.QV C ls m).map V.bl):=by rw[Dq (F.free S).2];exact Y
  exact⟨X,_,W,Ab.of d3,q _<|F.back g⟩
theorem OY{p:Addr}(F:Fq K "told_or_any" 31 f fd)(T:Txt mg)(b:Df P w K mg base "holds" ["doc","step"] 1 QS)(L:mg "ANY"=Z (.ref p))(hA:Wx K p ["any"]=true):Ar P w K mg base CA 2 f fd lqy cB:=by
 refine F.oq lqy λH M _ _ g r h=>?_;obtain⟨G,v,a,k,rfl,n,N,I,l,s,q⟩:=h;refine gen (AA (AO (Ag<|BM b r<|AB (Ay K 0)<|AU<|pv 1) (AE<|AI<|Cm (FN K (Ay K 0)<|pv 1)<|Qi g (Ay K 0)<|pv 1) AJ)<|AE<|AI<|F_ (v:=.ref p) W L W) λX O=>?_;obtain⟨o,Q,rest,t,R⟩:=N.ak;have x:=t.up n;have fin:∀(u:V)(h:Pt),Val G u h->rest[0]?=Z u->Fe h->h.RD k=(a.Xq k).map Ak.pt->X M (start lqy [.ref o,kV k]) H:=λu h g r S y=>by
  have A:Oz (V.str Q::rest) 1=Z u:=Aa (j:=1) (GT r);subst O;refine⟨_,W,o,_,1,u,W,W,x,A,_,W,u,h,k,W,g.up n,S,_,W,?_⟩;rw[y];unfold Ak.eO at q;cases e:a.Xq k with
  |none=>
   rw[e]at q;exact AQ (q _<|.tup (BO.qC (ws:=["any"]) hA _)<|.cons (.str _) .nil)
  |some c=>
   rw[e]at q y;obtain⟨w,J,U⟩:=g.nE y;refine As ?_;cases U with
   |pl a2 Y j B C ζ D=>exact .inl ⟨_,W,o,_,1,u,W,W,x,A,_,W,a2,_,_,_,B,ζ,.inl (C.up (n _)),Aa D,q _ J⟩|nm a2 kvs B C D=>exact .inr ⟨_,W,o,_,1,u,W,W,x,A,_,W,a2,w,B,.inl ⟨_,k,C.up (n _),W,D.symm⟩,q _ J⟩
 rcases R with _|⟨d,u,i⟩|⟨E,m,u,i⟩|⟨ks,E,ls,m,u,z,i,gH⟩
 .cases I
 .cases I
 .refine fin u _ i W ?_ Ak.aJ;have:=Ak.CQ E;have:=Ak.B_ E;simp only[Ak.wt]at s;simp only[Fe,Ak.AV,bi];lia
 .refine fin u _ i W ?_ Ak.aK;simp only[Ak.Az]at l;refine⟨?_,E4 l.2.2.2.1 ac⟩;rw[Ak.AV,bi];exact l.1
theorem Lf(F:Fq K "steps_of_both" 32 f fd)(T:Txt mg)(g:mg "set"=ν):Ar P w K mg base CA 1 f fd lqg LZ:=by
 refine F.oq lqg λH _ _ EW _ I h=>?_;obtain⟨v,y,a,b,rfl,hv,hy,i,J,L,q⟩:=h;refine gen (AA (AO (AK Aj (Ay K 0) AS<|AL _) (AE<|AI<|Ai (EY W) W T.list BR<|AU<|Ki W T.range<|AU<|Am (MD W) W T.max bj<|AB (CH K T<|Ay K 0)<|AU<|CH K T<|Ay K 1) AJ)<|AE<|AI<|Am (FH W:Ba _ _ (Nr P w)) W T.sorted CP<|AU<|AN (YA:DA _ _ (eQ P w)) (Ai (Mw W:Ba _ _ (YB P w)) W g QP<|AU<|Ay K 0)<|Ai (Mw W:Ba _ _ (YB P w)) W g QP<|AU<|Ay K 1) λX hX=>?_;obtain⟨t0,w0,rest,C,cs⟩:=hv.ak;obtain⟨t1,w1,M,j,k⟩:=hy.ak;rcases cs with _|⟨d,u,e⟩|⟨xs,m,u,e⟩|⟨N,xs,ls,m,u,z,e,gH⟩
 .cases i
 .cases i
 .rcases k with _|⟨d,l,c⟩|⟨ys,n,l,c⟩|⟨D,ys,os,n,l,z1,c,O⟩
  .cases i
  .cases i
  .obtain⟨a1,t,rfl,Q,r1⟩:=e.Fd;obtain⟨R,x,rfl,S,r2⟩:=c.Fd;have lv:=r1.length;have lw:=r2.length;rw[Ak.AV,bi]at lv lw;subst hX;refine Gz C ?_;have l9:=(Ak.OL.row (xs:=xs) (ys:=ys) (m:=m) (n:=n)).len J L;rw[bi,wS]at l9;have em:(if((x.length:Nat):Int)>((t.length:Nat):Int)then((x.length:Nat):Int)else((t.length:Nat):Int))=((max xs.length ys.length:Nat):Int):=by split<;>lia
   refine⟨_,W,t0,_,1,_,W,W,C,CL,a1,_,W,.inl<|.inl Q,_,W,t1,_,1,_,W,W,j,CL,R,_,W,.inl<|.inl S,_,_,W,_,W,λr I=>?_⟩;rw[em];refine⟨r,_,W,AD,am l9 ac,.mk λp H' U s f=>?_⟩;refine q p _ H' ((AF.new I).trans s) ((AF.new I).free U) .row ?_;rw[f,u5];rfl
  .cases i
 .rcases k with _|⟨d,l,c⟩|⟨ys,n,l,c⟩|⟨D,ys,os,n,l,z1,c,O⟩
  .cases i
  .cases i
  .cases i
  .obtain⟨a1,V,rfl,Y,ζ,ra⟩:=e.Nd;obtain⟨R,bZ,rfl,ew,Th,rb⟩:=c.Nd;subst hX;refine JP C ?_;have sl:=J.sl;have E:=L.sl;have ok:=J.ok;have ol:=L.ok;simp only[Ak.slim]at sl E;simp only[Ak.ok]at ok ol;refine⟨_,W,t0,_,1,_,W,W,C,CL,a1,V,N,W,Y,ζ,am (am (ci _ _) sl.1) ac,λp U=>?_⟩;obtain⟨H1,A,G,f1⟩:=Dj (o:=Gr P w p<|Ju N) U;rw[A];clear A;refine⟨_,W,t1,_,1,_,W,W,j.up G,CL,R,bZ,D,W,ew.up<|G _,Th,am (am (ci _ _) E.1) ac,λp2 B=>?_⟩;obtain⟨H2,A,s2,f2⟩:=Dj (o:=Gr P w p2<|Ju D) B;rw[A];clear A;have lk:=Gq N;have ln:=Gq D;refine⟨p,p2,_,_,W,W,s2 _ _ f1,f2,am (lM lk) sl.1,am (lM ln) E.1,QD _,QD _,EK f1 B,λzs un p3 jG=>?_⟩;have s3:=AF.new (o:=Gr P w p3 zs) jG;have lz:=un.len;refine⟨p3,zs,W,AD,d8 lz<|d8 (tz (am lk<|am (ci _ _) sl.1)<|am ln<|am (ci _ _) E.1) ac,λp4 ss H4 cP s4 f4 pm so=>?_⟩;refine q p4 _ H4 (((G.trans s2).trans s3).trans s4) (((G.trans s2).trans s3).free cP) (.tab ⟨so,pm.nodup_iff.mpr un.nd,λs=>?_⟩) ?_
   .rw[pm.mem_iff,un.mem,LN,LN]
   .rw[f4,u5];rfl
theorem Qr(F:Fq K "both_part" 33 f fd)(T:Txt mg)(A:Df P w K mg base "lets_in" lqn 6 Pr)(l:Df P w K mg base "good_form" ["asks"] 7 Nl)(E:Df P w K mg base "good_row" lqA 4 GK)(B:Df P w K mg base "good_table" lqr 4 GL)(S:Df P w K mg base "do_meet" lqg 2 SW)(p:Df P w K mg base "steps_of_both" lqg 1 LZ)(Qs:mg "set"=ν)(nY:mg "zip"=ν):Ar P w K mg base CA 8 f fd lqD OM:=by
 refine F.oq ["pair","told","one","other","names"] λH En _ EW U hr h=>?_;obtain⟨G,H0,v,qq,L,I,ps,rs,rfl,Y,nZ,O,Q,hL,nL,hd,nc,ζ,aj,q⟩:=h;refine gen (AA (Ad 2 EW<|Ay K 0)<|AA (Ad 3 EW<|Ay K 0)<|AA (AO (AK Aj (Ay K 2) AS<|AL _) (AE<|AI<|BM l hr<|AU<|pv 3) AJ)<|AA (AO (AK Aj (Ay K 3) AS<|AL _) (AE<|AI<|BM l hr<|AU<|pv 2) AJ)<|AA (AO (AK Aj (Ay K 2) AS<|AL _) (AE<|AI<|Oj (Ag<|BM A hr<|AB (pv 3)<|AU<|Ay K 2) (BM l hr<|AU<|pv 2) Dx) AJ)<|AA (AO (AK Aj (Ay K 3) AS<|AL _) (AE<|AI<|Oj (Ag<|BM A hr<|AB (pv 2)<|AU<|Ay K 3) (BM l hr<|AU<|pv 3) Dx) AJ)<|AA (AO (PW.pt<|pw_or (Cj<|Ag<|BM S hr<|AB (pv 2)<|AU<|pv 3)<|pw_or1<|Ag<|Am (Hr W) W T.any TH<|AU<|cmp [] [] (BQ<|pv 1) λ_ _ _ _=>(BD NI (pv 0) Dx<|AL _)) (AE<|AI Dx) AJ)<|AA (AO (AK Aj (Ay K 2) AS<|AL _) (AE<|AI<|BM E hr<|AB (pv 1)<|AU<|Cb (Ay K 2)<|Bw<|Ay K 3) AJ)<|AA (Ad 4 EW<|JH W W T.dict W nY (BM p hr<|AB (pv 2)<|AU<|pv 3)<|pv 1)<|AE<|AI<|BM B hr<|AB (pv 4)<|AB (Am (FH W:Ba _ _ (Nr P w)) W T.sorted CP<|AU<|AN (YA:DA _ _ (eQ P w)) (Ai (Iz W:Ba _ _ (Tf K P w)) W Qs QP<|AU<|Ay K 2)<|Ai (Iz W:Ba _ _ (Tf K P w)) W Qs QP<|AU<|Ay K 3)<|AU<|Cb (Ay K 2)<|Bw<|Ay K 3) λX hX=>?_;obtain⟨e,x,y,rfl,he,hx,hy⟩:=nZ;obtain⟨a,b⟩:=qq;dsimp only at hx hy O Q q;obtain⟨t0,w0,rest,ve,cs⟩:=hx.ak;obtain⟨t1,w1,cR,vf,J⟩:=hy.ak;have ht:=ve.up Y;have M:=vf.up Y;have gf:∀{z:V}{c:Ak}{H1:Hp},Val G z c.pt->c.Sd->AF H H1->(∀d,Ak.Good c d->Ak.CZ a b (Z d))->Nl [z] H1 En.rt E0:=λ{z c H1} vz sc N k=>⟨G,_,_,W,Y.trans N,vz,sc.Az,sc.wt,λw d H' s vw gd=>q w (Z d) H' (N.trans s) (vw.up<|Bi (λb h=>hd b<|N.free h) λb o _ h=>h)<|k d gd⟩;have AZ:∀{H1:Hp},AF H H1->Ak.CZ a b ν->En.rt .AZ H1:=λs k=>q .AZ ν _ s .AZ k;subst hX;refine⟨_,W,e,_,0,_,W,W,BO.of he,C',?_⟩;dsimp only[BY];refine⟨_,W,e,_,1,_,W,W,BO.of he,CL,?_⟩;dsimp only[BY];refine⟨_,W,t0,_,0,_,W,W,ht,C',W,_,W,?_⟩;by_cases h1:w0="any"
 .have:=cs.isAny h1;subst this;exact Bf (cL h1) ⟨_,W,gf hy Q (AF.refl H) λd g=>.any g⟩
 refine BP (cM h1) ⟨_,W,t1,_,0,_,W,W,M,C',W,_,W,?_⟩;have na:=cs.cN h1;by_cases h2:w1="any"
 .have:=J.isAny h2;subst this;exact Bf (cL h2) ⟨_,W,gf hx O (AF.refl H) λd g=>.Ve na g⟩
 refine BP (cM h2) ⟨_,W,t0,_,0,_,W,W,ht,C',W,_,W,?_⟩;have nb:=J.cN h2;by_cases h3:w0="just"
 .obtain⟨d,u,rfl,rfl,U⟩:=cs.OO h3;have C:=O.ok;simp only[Ak.ok]at C;have zb:=b.Cw;have wb:=Q.wt;refine Bf (cL h3) ⟨_,W,_,W,t0,_,1,u,W,W,ht,CL,.ref t1,u,b,d,W,hy.up Y,U.up Y,Q.ok,C.2.1,am zb wb,am C.2.2 ac,λH1 N=>⟨_,W,?_⟩⟩;cases hl:Ak.lets b d with
  |true=>exact As ⟨_,W,gf hx O N λd g=>.AY nb hl g⟩|false=>exact AQ (AZ N (.LW nb hl))
 refine BP (cM h3) ⟨_,W,t1,_,0,_,W,W,M,C',W,_,W,?_⟩;have ia:=cs.cO h1 h3;by_cases h4:w1="just"
 .obtain⟨d,u,rfl,rfl,U⟩:=J.OO h4;have C:=Q.ok;simp only[Ak.ok]at C;have za:=a.Cw;have wa:=O.wt;refine Bf (cL h4) ⟨_,W,_,W,t1,_,1,u,W,W,M,CL,.ref t0,u,a,d,W,hx.up Y,U.up Y,O.ok,C.2.1,am za wa,am C.2.2 ac,λH1 N=>⟨_,W,?_⟩⟩;cases hl:Ak.lets a d with
  |true=>exact As ⟨_,W,gf hy Q N λd g=>.LX ia hl g⟩|false=>exact AQ (AZ N (.Gw ia hl))
 have ib:=J.cO h2 h4;refine BP (cM h4) ⟨_,W,_,W,.ref t0,.ref t1,a,b,W,hx.up Y,hy.up Y,O.Az,Q.Az,λH1 N=>⟨_,W,?_⟩⟩;cases hm:Ak.meet a b with
 |false=>exact As (As (AZ N (.off ia ib hm)))|true=>
  refine AQ ?_;have lw:=aj.length;rw[bi]at lw;have lr:=ζ.len;have jH:=N _ _ hL;have l9:ps.length<=900:=by
   cases nc with
   |off h=>exact j5 _|row h=>
    have:=(Ak.OL.row).len O Q;unfold Ak.Cz;rw[bi]at this⊢;exact this
   |tab h u=>
    have:=(Ak.OL.tab u).len O Q;unfold Ak.CY;rw[bi]at this⊢;exact this
  have li:∀i,i<I.length->I[i]?=Z (I.getD i .AZ):=λi hi=>by rw[b7,zc hi];rfl
  refine⟨_,W,L,W,⟨_,Ab.of jH⟩,?_⟩;refine CO (n:=I.length) (λi=>I.getD i .AZ) (λi v=>∃r,rs[i]?=Z r/\v=.bl r.isNone) (AX<|am (bm lw)<|am (am (bm lr.symm) l9) ac) (λi H2 hi s2=>⟨_,_,s2.seq<|Ab.of jH,li i hi⟩) (λi H2 v H' hi s2 yd=>?_) (λH2 s2=>⟨_,s2.seq<|Ab.of jH,bv _⟩) (λi H2 R hi s2 r=>?_) λD H2 vs hD s2 d2 lv ov=>?_
  .obtain⟨e,yd⟩:=yd;have:=yd _<|s2.seq<|Ab.of jH;rw[li i hi]at this;exact⟨(ze this).symm,e⟩
  .obtain⟨tx,ao,vx⟩:=aj.get<|li i hi;rw[b6]at ao;obtain⟨r0,vg,rfl⟩:=At.mp ao;generalize I.getD i .AZ=wi at vx⊢;refine⟨_,W,W,?_⟩;rw[T' vx];exact r _ H2 (AF.refl _) ⟨r0,vg,W⟩
  .rw[Hy (ps:=rs) (f:=Q3) (vs:=vs) (lv.trans lw) ov]at d2;refine⟨D,_,W,Ab.of d2,?_⟩;have t:=N.trans s2;cases hn:(rs.map Q3).any id with
   |true=>
    have nn:=Vj hn;refine⟨_,W,As<|AZ t ?_⟩;cases nc with
    |off h=>rw[hm]at h;cases h|row h=>exact .aX hm ζ nn|tab h u=>exact .aY hm u ζ nn
   |false=>
    obtain⟨as,rfl⟩:=all_some hn;rw[u5]at aj;have ng:AR (nw H0 H2) I (as.map Ak.pt):=aj.up (Bi (λb h=>h) λb o _ h=>t _ _ h);rw[bi]at lw lr;have hd2:∀b,H2 b=ν->H0 b=none:=λb h=>hd b<|t.free h;refine⟨_,W,AQ ⟨_,W,t0,_,0,_,W,W,ht.up t,C',W,_,W,?_⟩⟩;cases nc with
    |off h=>rw[hm]at h;cases h|@row xs ys m n h=>
     rcases cs with _|_|⟨_,_,u,U⟩;rcases J with _|_|⟨_,_,u1,nh⟩;have fin:GK [.ref L,.bl<|m&&n] H2 En.rt E0:=⟨H0,L,I,as,_,W,s2 _ _ jH,ng,am (bm lw)<|am (bm lr.symm) l9,hd2,nL,λw H3 s3 vw=>q w (Z _) H3 (t.trans s3) vw<|.row hm ζ⟩;refine Ep ⟨_,W,_,W,t0,_,2,_,W,W,ht.up t,at2,_,W,?_⟩;cases m with
     |false=>exact AQ fin|true=>exact As ⟨_,W,t1,_,2,_,W,W,M.up t,at2,fin⟩
    |@tab ks ls ns os ss xs ys m n h u=>
     rcases cs with _|_|_|⟨_,_,_,_,u0,z0,RF,gH⟩;rcases J with _|_|_|⟨_,_,_,_,u1,z1,nh,e_⟩;have qa:=Y.trans t;refine C_ ⟨_,W,_,W,_,_,_,_,W,hx.up qa,hy.up qa,hm,O,Q,λp3 ni H3 s3 n3 st f3=>?_⟩;rcases st with _|⟨u'⟩;rw[Ak.Fu.one u' u,u5]at f3;have lp:(Ak.CY ss ks xs ns ys).length=ss.length:=by unfold Ak.CY;rw[bi]
     have sl:=O.sl;have sm:=Q.sl;have ok:=O.ok;have ol:=Q.ok;simp only[Ak.slim]at sl sm;simp only[Ak.ok]at ok ol;have lu:=Ak.Fu.le u;have ll:ss.length=I.length:=lp.symm.trans<|lr.trans lw.symm;have s03:=t.trans s3;refine⟨_,W,p3,L,ss,I,W,W,Ab.of f3,Ab.of<|s03 _ _ hL,ll,am (am (bm lp.symm) l9) ac,.mk λp4 H4 n4 s4 f4=>?_⟩;rw[show CN [] (dv ss I)=Bo ss I from Ek ll u.nd]at f4;dsimp only[BY];obtain⟨l0,Ye,rfl,Yw,jI⟩:=gH.Fd;obtain⟨l1,kX,rfl,Zc,jE⟩:=e_.Fd;have e0:=CF jI;have e1:=CF jE;subst e0 e1;have s04:=s03.trans s4;have qb:=Y.trans s04;refine⟨_,W,_,W,t0,_,2,_,W,W,ht.up s04,at2,l0,ls,W,.inl<|Yw.up<|qb _,d8 (am (d0 _ _) sl.1) ac,λp5 n5=>?_⟩;obtain⟨H5,eH,s5,f5⟩:=Dj (o:=Gr P w p5<|Ju ls) n5;rw[eH];clear eH;have s05:=s04.trans s5;refine⟨_,W,t1,_,2,_,W,W,M.up s05,at2,l1,os,W,.inl<|(Zc.up<|qb _).up<|s5 _,d8 (am (d0 _ _) sm.1) ac,λp6 n6=>?_⟩;obtain⟨H6,eH,s6,f6⟩:=Dj (o:=Gr P w p6<|Ju os) n6;rw[eH];clear eH;have lk:=Gq ls;have ln:=Gq os;refine⟨p5,p6,_,_,W,W,s6 _ _ f5,f6,am (am lk<|d0 _ _) sl.1,am (am ln<|d0 _ _) sm.1,QD _,QD _,EK f5 n6,λzu un p7 n7=>?_⟩;have s7:=AF.new (o:=Gr P w p7 zu) n7;have lz:=un.len;have s07:=(s05.trans s6).trans s7;refine⟨p7,zu,W,AD,d8 lz<|d8 (tz (am lk<|am (d0 _ _) sl.1)<|am ln<|am (d0 _ _) sm.1) ac,λp8 zs H8 n8 s8 f8 pm so=>?_⟩;have s08:=s07.trans s8;have uz:Fu zs ls os:=⟨so,pm.nodup_iff.mpr un.nd,λs=>by rw[pm.mem_iff,un.mem,LN,LN]⟩;have s48:=((s5.trans s6).trans s7).trans s8;have yz:=pm.length_eq;have fin:GL [.ref p4,.ref p8,.bl<|m&&n] H8 En.rt E0:=⟨G,H0,p4,ss,I,as,.ref p8,zs,_,W,s48 _ _ f4,aj.up<|Bi (λb h=>h) λb o _ h=>s08 _ _ h,ll,u.nd,d8 lu<|d8 (tz (am (ci _ _) sl.1)<|am (ci _ _) sm.1) ac,u.so,(λb h=>hd b<|s08.free h),hd _<|s03.free n4,.lst (.inl f8)<|IB zs,z_,λw H9 s9 vw=>q w (Z _) H9 (s08.trans s9) vw<|.tab hm u uz ζ⟩;refine⟨_,W,t0,_,3,_,W,W,ht.up s08,Aa (j:=3) W,_,W,?_⟩;cases m with
     |false=>exact AQ fin|true=>exact As ⟨_,W,t1,_,3,_,W,W,M.up s08,Aa (j:=3) W,fin⟩
theorem aq(F:Fq K "_law_cell" 35 f fd)(T:Txt mg):Ar P w K mg base CA 1 f fd lqv (Rc K):=by
 refine F.oq lqv λH _ _ _ _ i h=>?_;obtain⟨a,b,k,rfl,c,q⟩:=h;refine⟨_,(AA (AO (AK FT (pv 1) (CH K T<|pv 0)<|AL _) (AE<|AI<|AN Aq (FN K (pv 0)<|pv 1)<|AN FR AG<|AN RL AG AG) AJ)<|AE<|AI<|AN Bm AG<|AN FR AG<|pv 1),?_⟩;refine⟨_,W,_,W,a,_,W,.inl c,_,_,W,W,_,W,?_⟩;refine Wf (λd=>?_) λd=>?_
 .have e:k<b.length:=by
   have:=of_decide_eq_true d;rw[bi]at this;lia
  have g:(b.map V.int)[k]?=Z (.int b[k]):=by rw[b6,zc e];rfl
  exact⟨_,W,_,W,a,_,_,_,W,W,c,Aa g,_,_,W,W,⟨ac,ac,ac⟩,_,_,W,W,.inl By,_,_,W,W,BE,q _<|B7 _ ac⟩
 .exact⟨_,W,_,_,W,W,.inl By,_,_,W,W,q _ z_⟩
theorem fE(F:Fq K "_law_mix" 36 f fd)(T:Txt mg):Ar P w K mg base CA 1 f fd lqb Wq:=by
 refine F.oq ["_law_cell_here","_law_k","_law_number","_law_j"] λH r _ a _ t h=>?_;obtain⟨c,k,rfl,s,q⟩:=h;refine⟨_,(AA (AO (PW.pt<|pw_and (AK Aj (AN Aq (pv 0) AG) AG<|AL _)<|pw_and1<|AK g_ (pv 0) (AN FR AG<|AN RL AG AG)<|AL _) (AA (Ad 2 a<|AN Bb (pv 0) AG)<|AA (Sg (BU W T.range<|AU<|pv 1) (Dn 3 a)<|AE<|Ad 2 a<|AN Bb (pv 2) AG)<|AE<|AI<|AN Aq (pv 2) AG) AJ)<|AA (Ad 2 a<|AN Aq (AN FR (AN Bm (pv 0) AG) AG) AG)<|AA (Ad 2 a<|AN Aq (AN Bm (pv 2)<|AN FR (AN Bm (pv 1) AG) AG) AG)<|AA (Ad 2 a<|AN Aq (AN FR (pv 2)<|pv 2) AG)<|AA (Ad 2 a<|AN Aq (AN FR (AN Bm (pv 2) AG)<|AN Bm (AN Bb (pv 2) AG) AG) AG)<|AE<|AI<|AN Bb (pv 2) AG),?_⟩;have lo:∀x:Int,-(2 ^ 64)<x % 2305843009213693951/\x % 2305843009213693951<2 ^ 64:=λx=>by
  have d:=B7 x (show(2305843009213693951:Int)≠0 by decide);have g:=D5 x (show(0:Int)<2305843009213693951 by decide);constructor<;>lia
 have lo1:∀x:Int,-(2 ^ 64)<x % 999999999999999989+1/\x % 999999999999999989+1<2 ^ 64:=λx=>by
  have d:=B7 x (show(999999999999999989:Int)≠0 by decide);have g:=D5 x (show(0:Int)<999999999999999989 by decide);constructor<;>lia
 have p:¬(c % 4=0/\4*10 ^ 60<=c)->r.rt (.int<|(PX c k+1)*(PX c k/1000003+7) % 2305843009213693951/7919) H:=λh=>by
  have e:Ur c k=_:=if_neg h;rw[e]at q;exact q
 refine⟨_,W,_,_,W,W,BE,W,_,W,?_⟩;refine Wf (λd=>?_) λd=>?_
 .refine⟨_,W,_,_,W,W,⟨ac,ac,ac⟩,_,_,W,W,.inl By,_,_,W,W,_,W,?_⟩;have c4:c % 4=0:=V.int.inj<|of_decide_eq_true d;refine Wf (λg=>?_) (λg=>?_)
  .have j:4*10 ^ 60<=c:=of_decide_eq_true g;have e:Ur c k=_:=if_pos ⟨c4,j⟩;rw[e]at q;refine⟨_,W,_,_,W,W,By,_,W,_,W,F6 ac<|wT _,zi (F5.mpr s) ac,Du (lo:=0) (λi l m=>∃(o:Option V),l=[Z<|.int c,Z<|.int (k:Int),Z<|.int<|Wl i<|c/4,o]/\m=H) ⟨ν,W,W⟩ ?_ ?_⟩
   .rintro i l m _ go u ⟨o,rfl,rfl⟩;exact⟨_,W,_,_,W,W,By,go.n ⟨_,W,W⟩⟩
   .rintro l m ⟨o,rfl,rfl⟩;rw[A8];exact⟨_,W,_,_,W,W,BE,q⟩
  .have b:¬(c % 4=0/\4*10 ^ 60<=c):=λz=>g<|decide_eq_true z.2;exact⟨_,W,_,_,W,W,_,_,W,W,.inr By,_,_,W,W,BE,_,W,_,W,_,_,W,W,_,_,W,W,.inr By,_,_,W,W,_,_,W,W,BE,_,W,_,W,_,_,W,W,.inl<|lo _,_,_,W,W,BE,_,W,_,_,W,W,_,W,_,_,W,W,By,_,_,W,W,_,_,W,W,.inl<|lo1 _,_,_,W,W,BE,_,W,_,_,W,W,By,p b⟩
 .refine AQ ?_;have b:¬(c % 4=0/\4*10 ^ 60<=c):=λz=>d<|decide_eq_true<|congrArg V.int z.1;exact⟨_,W,_,_,W,W,_,_,W,W,.inr By,_,_,W,W,BE,_,W,_,W,_,_,W,W,_,_,W,W,.inr By,_,_,W,W,_,_,W,W,BE,_,W,_,W,_,_,W,W,.inl<|lo _,_,_,W,W,BE,_,W,_,_,W,W,_,W,_,_,W,W,By,_,_,W,W,_,_,W,W,.inl<|lo1 _,_,_,W,W,BE,_,W,_,_,W,W,By,p b⟩
theorem ar(F:Fq K "_law_mix" 36 f fd)(T:Txt mg):Ar P w K mg base CA 1 f fd lqb EO:=(fE F T).imp λ_ _ _ _ h=>Wr h
theorem Yf(F:Fq K "_law_names" 37 f fd)(T:Txt mg)(a:Df P w K mg base "_law_mix" lqb 1 EO):Ar P w K mg base CA 2 f fd lqz Px:=by
 refine F.oq ["_law_cell_here","_law_letters","_law_word","_law_k","_law_at","_law_first"] λH En _ b _ Q h=>?_;obtain⟨c,rfl,q⟩:=h;refine⟨_,(AA (DD (i:=1) b W (O9 W) AS)<|AA (DD (i:=2) b W (O9 W) AS)<|AA (Sg (BU W T.range<|AU AG) (Dn 3 b)<|AE<|DD (i:=2) b W (O9 W)<|AN Et (AN Et (pv 2)<|MK RP (pv 1) (AN Aq (BM a Q<|AB (pv 0)<|AU<|pv 3) AG) λ_ _=>rfl)<|MK RP (pv 1) (AN Aq (AN Bb (BM a Q<|AB (pv 0)<|AU<|pv 3) AG) AG) λ_ _=>rfl)<|AA (DD (i:=4) b W (O9 W)<|AN Aq (BM a Q<|AB (pv 0)<|AU AG) AG)<|AA (DD (i:=5) b W (O9 W)<|BM a Q<|AB (pv 0)<|AU AG)<|AA (AO (AK Aj (AN Aq (pv 5) AG) AG<|AL _) (AE<|AI<|cmp ["_law_word","_law_first"] [2,5] (BU W T.range<|AU AG) λ_ _ _ _=>(DP NU (pv 1) Eu<|Dp<|AN Bm (AN Bm (pv 0) AG)<|AN Aq (AN Bb (pv 2) AG) AG)) AJ)<|AE<|AI<|cmp ["_law_word","_law_letters","_law_at","_law_first"] [2,1,4,5] (BU W T.range<|AU AG) λ_ _ _ _=>(AN Et (AN Et (DP NU (pv 1) Eu<|Dp<|pv 3)<|MK RP (pv 2) (AN Aq (AN Bm (AN Bb (pv 4) AG)<|pv 0) AG) λ_ _=>rfl)<|DP NU (pv 1) (Dp<|AN Bm (pv 3) AG) Eu)),?_⟩;refine⟨4,W,ac,ac,Du (lo:=0) (n:=4) (λi S k=>∃(ξ:Str)(ok:Option V),S=[Z<|.int c,Z<|.str f',Z<|.str ξ,ok,ν,ν]/\k=H/\ξ.length=2*i) ⟨"",ν,W,W,W⟩ ?_ ?_⟩
 .rintro i S k _ go o ⟨ξ,ok,rfl,rfl,p⟩;have ζ:i<=1000:=am (gt o) ac;refine⟨_,W,_,W,_,W,_,W,c,i,GE,ζ,λt _ _=>?_⟩;obtain⟨_,u,_,_,x⟩:=Ro t;have l1:(ξ++(⟨#[u]⟩:Str)).length=2*i+1:=by rw[Str.length_append,p];rfl
  refine⟨_,_,W,W,BE,f',_,u,W,W,by rw[NV];decide,x,_,_,W,W,gt<|Aw<|by show ξ.length+1<=1000;lia,_,W,_,W,_,W,c,i,GE,ζ,λE _ _=>?_⟩;obtain⟨_,U,_,_,J⟩:=Ro<|E/26;refine⟨_,_,W,W,By,_,_,W,W,BE,f',_,U,W,W,by rw[NV];decide,J,_,_,W,W,gt<|Aw<|by show(ξ++(⟨#[u]⟩:Str)).length+1<=1000;lia,go.n ⟨_,_,W,W,?_⟩⟩;rw[Str.length_append,l1];rfl
 .rintro S k ⟨ξ,ok,rfl,rfl,p⟩;refine⟨_,W,c,4,W,ac,λt _ _=>⟨_,_,W,W,BE,?_⟩⟩;refine⟨_,W,c,5,W,ac,λE r20 _=>⟨_,W,_,_,W,W,BE,W,_,W,?_⟩⟩;have L:∀{P:Nat->Str->Prop}{A:Addr}{l:Hp}{G:List V},AF k l->k A=ν->l A=Z (.lst G)->G.length=4->(∀(j:Nat) v,G[j]?=Z v->∃y:Str,v=.str y/\P j y)->(∀(i j:Nat) y,i<j->j<4->P i y->P j y->False)->En.rt (.ref A) l:=λ{P A l G} s hD d B ov inj=>by
   obtain⟨ns,rfl⟩:=Zs λj v I=>let⟨y,e,_⟩:=ov j v I;⟨y,e⟩;rw[bi]at B;refine q A ns l s hD ⟨d,B,Ws P (λj y I=>?_) λi j y C I=>inj i j y C<|B▸I,λ_ _=>rfl⟩;obtain⟨y',e,h⟩:=ov j (.str y) (by rw[b6,I];rfl);cases e;exact h
  refine Wf (λ_=>?_) λ_=>?_
  .have m5:=Dl (E/3) (n:=5) ac;obtain⟨X,M⟩:∃z:Int,z=E/3 % 5:=⟨_,W⟩;rw[<-M]at m5;refine⟨4,W,ac,ac,CO (n:=4) (λi=>.int<|0+(i:Int)) (λi v=>∃y:Str,v=.str y/\(y.length:Int)=(i:Int)+1+X) ac (λi l o N=>o) (λi l v H' o N y=>⟨y.2,y.1⟩) (λl N=>bv _) (λi k R o O r=>?_) λA k G D O Y B ov=>L O D Y B ov λi j y C _ p1 p2=>by lia⟩;refine⟨_,W,_,W,_,_,W,W,_,W,_,_,W,W,By,_,_,W,W,BE,_,_,W,W,_,W,ξ,W,by rw[p];decide,r _ k (AF.refl k) ⟨_,W,?_⟩⟩;obtain⟨n,hn⟩:∃n:Nat,0+(i:Int)+1+X=(n:Int):=⟨(0+(i:Int)+1+X).toNat,z_⟩;rw[<-M,hn,Zq p z_];lia
  .refine⟨4,W,ac,ac,CO (n:=4) (λi=>.int<|0+(i:Int)) (λi v=>∃y:Str,v=.str y/\∃n c:Nat,(E/3+(0+(i:Int))) % 26=(n:Int)/\dP[n]?=Z c/\y=U0 ξ ν (Z<|t % 8)++(⟨#[c]⟩:Str)++U0 ξ (Z<|t % 8+1) ν) ac (λi l o N=>o) (λi l v H' o N y=>⟨y.2,y.1⟩) (λl N=>bv _) (λi k R o O r=>?_) λA k G D O Y B ov=>L O D Y B ov ?_⟩
   .obtain⟨n,u,e,g,x⟩:=Ro<|E/3+(0+(i:Int));have l1:=P6 ξ ν<|some<|t % 8;have l2:=P6 ξ (Z<|t % 8+1) ν;rw[p]at l1 l2;have l3:(U0 ξ ν (Z<|t % 8)++(⟨#[u]⟩:Str)).length<=9:=by rw[Str.length_append];exact gl l1 1
    exact⟨_,W,_,W,_,W,ξ,W,by rw[p];decide,_,W,_,W,_,_,W,W,By,_,W,_,_,W,W,_,_,W,W,BE,f',_,u,W,W,by rw[NV];decide,x,_,_,W,W,gt<|Aw<|am (gl l1 1) ac,_,W,_,W,_,_,W,W,_,W,ξ,W,by rw[p];decide,_,_,W,W,gt<|Aw<|am (tz l3 l2) ac,r _ k (AF.refl k) ⟨_,W,n,u,e,g,W⟩⟩
   .rintro i j y C I ⟨n,c,e1,g1,y1⟩ ⟨m,d,e2,g2,y2⟩;cases Zr (y1.symm.trans y2);have nl:dP.Nodup:=by decide+kernel
    have:=(O5 (Cd g1) nl).mp<|g1.trans g2.symm;lia
theorem fG(F:Fq K "_law_doc" 38 f fd)(T:Txt mg)(J:Df P w K mg base "_law_mix" lqb 1 EO):Ar P w K mg base CA 2 f fd lqd Gm:=by
 refine F.oq ["_law_cell_here","_law_k","_law_names_here","_law_number","_law_small","_law_some"] λH En _ m _ hr h=>?_;obtain⟨c,k,n,ys,rfl,hk,s,q⟩:=h;refine⟨_,(AA (Ad 3 m<|BM J hr<|AB (pv 0)<|AU<|pv 1)<|AA (Ad 4 m<|AN Aq (AN Bb (pv 3) AG) AG)<|AA (Ad 5 m<|Ap<|AB (AN IY (pv 4) AG)<|AB (DP NU AS (Dp<|pv 4) Eu)<|AB (Ap BL)<|AB KY<|AB (AN Bm (AN RL AG AG)<|pv 3)<|AB (Ap<|AU<|pv 4)<|AB (Ap<|AB (Ap BL)<|AU AS)<|AU<|NS (HW (FN K (pv 2)<|AN Aq (pv 4) AG) AG NR) W W GE GE)<|AA (Ad 5 m<|AN RV (pv 5)<|Ap<|AB (NS (HW (FN K (pv 2) AG) (Ap BL)<|HW (FN K (pv 2) AG) AS NR) W W GE GE)<|AB (pv 4)<|AB AS<|AU<|Ap<|AB (pv 4)<|AU KY)<|AE<|AI<|FN K (pv 5)<|AN Aq (pv 3) AG),?_⟩;have get:∀j:Nat,j<4->∃y,Oz (ys.map V.str) (j:Int)=Z (.str y)/\ys[j]?=Z y/\Uz y=true:=λj hj=>⟨ys[j]'(by rw[s.len];exact hj),Aa<|by rw[b6,zc<|by rw[s.len];exact hj];rfl,zc<|by rw[s.len];exact hj,s.nb _<|G7 _⟩;obtain⟨d,a0,g0,b0⟩:=get 0 ac;obtain⟨g,a1,g1,b1⟩:=get 1 ac;have O:g≠d:=λz=>by
  rw[z,<-g0]at g1;have:=(O5 (by rw[s.len];decide) s.nd).mp g1;lia
 refine⟨_,W,_,W,c,k,W,hk,λr _ _=>⟨_,W,_,_,W,W,By,_,_,W,W,BE,?_⟩⟩;have m5:=Dl (r/12) (n:=5) ac;obtain⟨e,he⟩:∃e:Nat,r/12 % 5=(e:Int):=⟨(r/12 % 5).toNat,(x5 m5.1).symm⟩;have e5:e<5:=G9.mp<|he▸m5.2;rw[he];obtain⟨x,hx⟩:∃x,x=U0 "abcde" (Z (e:Int)) none:=⟨_,W⟩;have lx:x.length<=100:=by
  have:=P6 "abcde" (Z (e:Int)) ν;rw[<-hx]at this;exact am this ac
 obtain⟨B,az,gz,bz⟩:∃y,Oz (ys.map V.str) ((e:Int) % 4)=Z (.str y)/\True/\Uz y=true:=by
  obtain⟨y,Q,_,R⟩:=get (e % 4) (aaO _ ac);exact⟨y,by rw[<-Q];rfl,trivial,R⟩
 refine⟨_,W,_,_,W,W,_,W,_,W,"abcde",W,ac,?_⟩;rw[<-hx];refine⟨j5 _,λp1 S=>?_⟩;obtain⟨H2,a,t1,f1⟩:=Dj (o:=.lst []) S;rw[a];clear a;refine λp2 U=>?_;obtain⟨H3,a,t2,f2⟩:=Dj (o:=.dK []) U;rw[a];clear a;have X:=t1.trans t2;refine⟨_,_,W,W,⟨ac,ac,ac⟩,_,W,_,_,W,W,?_⟩;obtain⟨Y,vh⟩:∃Y:Int,Y=(10:Int) ^ (30:Int).toNat+r:=⟨_,W⟩;rw[<-vh];refine⟨_,W,BZ,λp3 ζ=>?_⟩;obtain⟨H4,a,t3,f3⟩:=Dj (o:=.lst [.int (e:Int)]) ζ;rw[a];clear a;have t13:=X.trans t3;refine⟨j5 _,λp4 cP=>?_⟩;obtain⟨H5,a,t4,f4⟩:=Dj (o:=.lst []) cP;rw[a];clear a;have t14:=t13.trans t4;refine⟨Ac,λp5 Lg=>?_⟩;obtain⟨H6,a,t5,f5⟩:=Dj (o:=.lst [.ref p4,.str "b"]) Lg;rw[a];clear a;have C:=t14.trans t5;refine λl D=>?_;have t6:=AF.new (o:=.dK []) D;refine⟨_,W,_,W,_,_,W,W,BE,n,_,_,_,W,W,Ab.of ((C.trans t6) _ _ s.at_),az,AD,[(e9 B,.int 1)],W,GE,?_⟩;have m6:CN [] [((e9 B:Key),V.int 1)]=[(e9 B,.int 1)]:=rfl;rw[m6];have E:AF H6 (upd (upd H6 l (.dK [])) l (.dK [(e9 B,.int 1)])):=t6.put D;have f6:upd (upd H6 l (.dK [])) l (.dK [(e9 B,.int 1)]) l=Z (.dK [(e9 B,.int 1)]):=AD;generalize upd (upd H6 l (.dK [])) l (.dK [(e9 B,.int 1)])=H7 at E f6⊢;have t16:=C.trans E;refine⟨AX (show 8<=1000 by decide),λL hL=>?_⟩;obtain⟨H8,a,tL,fL⟩:=Dj (o:=.lst [.int ((e:Int)-2),.str x,.ref p1,.ref p2,.int Y,.ref p3,.ref p5,.ref l]) hL;rw[a];clear a;have i:=t16.trans tL;refine⟨_,W,λu G=>?_⟩;obtain⟨HA,a,t9,f9⟩:=Dj (o:=.dK []) G;rw[a];clear a;refine⟨_,W,n,_,_,_,W,W,Ab.of ((i.trans t9) _ _ s.at_),a1,j5 _,λb I=>?_⟩;have tA:=AF.new (o:=.lst []) I;have fA:upd HA b (.lst []) b=Z (.lst []):=AD;refine⟨_,W,n,_,_,_,W,W,Ab.of (((i.trans t9).trans tA) _ _ s.at_),a0,tA _ _ f9,[(e9 g,.ref b),(e9 d,.str "a")],W,GE,?_⟩;have m9:CN [] [((e9 g:Key),V.ref b),(e9 d,.str "a")]=[(e9 g,.ref b),(e9 d,.str "a")]:=E' _ _ (by
  have:(e9 g:Key)≠e9 d:=λz=>O (G0 z);simpa using this)
 rw[m9];have vj:b≠u:=zn<|Al f9 I;have A:AF H8 (upd (upd HA b<|.lst []) u<|.dK [(e9 g,.ref b),(e9 d,.str "a")]):=(t9.trans tA).put G;have qc:upd (upd HA b<|.lst []) u (.dK [(e9 g,.ref b),(e9 d,.str "a")]) u=Z (.dK [(e9 g,.ref b),(e9 d,.str "a")]):=AD;have qd:upd (upd HA b<|.lst []) u (.dK [(e9 g,.ref b),(e9 d,.str "a")]) b=Z (.lst []):=(AH vj).trans fA;have vm:H b=none:=i.free<|t9.free I;generalize upd (upd HA b<|.lst []) u (.dK [(e9 g,.ref b),(e9 d,.str "a")])=HB at A qc qd⊢;have t19:=i.trans A;refine⟨_,W,_,W,λpB qe=>?_⟩;obtain⟨HC,a,tB,fB⟩:=Dj (o:=.dK []) qe;rw[a];clear a;have qf:=t19.trans tB;refine⟨Ac,λpC qg=>?_⟩;obtain⟨HD,a,tC,fC⟩:=Dj (o:=.lst [.int (e:Int),.ref pB]) qg;rw[a];clear a;have vn:=qf.trans tC;refine⟨AX<|show 4<=1000 by decide,λM hM=>?_⟩;obtain⟨HE,a,tM,fM⟩:=Dj (o:=.lst [.ref u,.int (e:Int),.str "",.ref pC]) hM;rw[a];clear a;have vo:=vn.trans tM;refine⟨L,M,_,_,W,W,(((A.trans tB).trans tC).trans tM) _ _ fL,fM,AX<|show 12<=1000 by decide,λN hN=>?_⟩;obtain⟨HF,a,tN,fN⟩:=Dj (o:=.lst<|[.int<|(e:Int)-2,.str x,.ref p1,.ref p2,.int Y,.ref p3,.ref p5,.ref l]++[.ref u,.int (e:Int),.str "",.ref pC]) hN;rw[a];clear a;have mb:=Dl r (n:=12) ac;obtain⟨v,hv,mv⟩:=FZ (xs:=([V.int<|(e:Int)-2,.str x,.ref p1,.ref p2,.int Y,.ref p3,.ref p5,.ref l]++[V.ref u,.int (e:Int),.str "",.ref pC]:List V)) mb.1 (by exact mb.2);refine⟨_,W,_,W,_,_,W,W,BE,N,_,_,_,W,W,Ab.of fN,hv,?_⟩;have z:=vo.trans tN;have sC:=tM.trans tN;have sB:=tC.trans sC;have s9:=tB.trans sB;have sL:=A.trans s9;have s6:=tL.trans sL;have s5:=E.trans s6;have s4:=t5.trans s5;have s3:=t4.trans s4;have s2:=t3.trans s3;have s1:=t2.trans s2;have new:∀{p:Addr}{o:HO},H p=ν->HF p=Z o->nw H HF p=Z o:=λQ R=>by rw[BC Q];exact R
 have v1:=new S<|s1 _ _ f1;have v2:=new (t1.free U)<|s2 _ _ f2;have v3:=new (X.free ζ)<|s3 _ _ f3;have v4:=new (t13.free cP)<|s4 _ _ f4;have v5:=new (t14.free Lg)<|s5 _ _ f5;have v6:=new (C.free D)<|s6 _ _ f6;have v9:=new (i.free G)<|s9 _ _ qc;have vA:=new vm<|s9 _ _ qd;have vB:=new (t19.free qe)<|sB _ _ fB;have vC:=new (qf.free qg)<|sC _ _ fC;have k:∀t:Pt,Small H HF v t->En.rt v HF:=λt h=>q v t HF z h;simp only[D7,N6,j4,M9,or_false]at mv;have one:∀{P:Pt->Prop}{x:Pt},P x->∀y∈[x],P y:=λh y hy=>by rw[io.mp hy];exact h
 have two:∀{P:Pt->Prop}{x y:Pt},P x->P y->∀z∈[x,y],P z:=λQ R z hz=>by
  rcases j4.mp hz with rfl|hz
  .exact Q
  .rw[io.mp hz];exact R
 rcases mv with rfl|rfl|rfl|rfl|rfl|rfl|rfl|rfl|rfl|rfl|rfl|rfl
 .exact k _ ⟨.int _,.one<|.int _,trivial,by simp[Pt.size],by simp[Pt.deep]⟩
 .exact k _ ⟨.str _,.one<|.str _,lx,by simp[Pt.size],by simp[Pt.deep]⟩
 .exact k _ ⟨.lst (.inl v1) .nil,.one .nil,trivial,by simp[Pt.size,Pt.AM],by simp[Pt.deep,Pt.AW]⟩
 .exact k _ ⟨.Ah (ks:=[]) (.inl v2) W .nil,.one .emp,by simp[Pt.doc,Pt.Cr],by simp[Pt.size,Pt.AM],by simp[Pt.deep,Pt.AW]⟩
 .exact k _ ⟨.int _,.one<|.int _,trivial,by simp[Pt.size],by simp[Pt.deep]⟩
 .exact k _ ⟨.lst (.inl v3)<|.cons (.int _) .nil,.row<|one<|.int _,by simp[Pt.doc,Pt.Cr],by simp[Pt.size,Pt.AM],by simp[Pt.deep,Pt.AW]⟩
 .exact k _ ⟨.lst (.inl v5)<|.cons (.lst (.inl v4) .nil)<|.cons (.str _) .nil,.row<|two .nil<|.str _,by simp only[Pt.doc,Pt.Cr,and_true,true_and];decide,by simp[Pt.size,Pt.AM],by simp[Pt.deep,Pt.AW]⟩
 .exact k _ ⟨.Ah (ks:=[B]) (.inl v6) W<|.cons (.int _) .nil,.tab<|one<|.int _,by simp[Pt.doc,Pt.Cr,bz],by simp[Pt.size,Pt.AM],by simp[Pt.deep,Pt.AW]⟩
 .exact k _ ⟨.Ah (ks:=[g,d]) (.inl v9) W (.cons (.lst (.inl vA) .nil) (.cons (.str _) .nil)),.tab (two .nil (.str _)),by
   simp only[Pt.doc,Pt.Cr,and_true,true_and];exact⟨W,GT O,λ_ _=>rfl,GE,ac⟩,by simp[Pt.size,Pt.AM],by simp[Pt.deep,Pt.AW]⟩
 .exact k _ ⟨.int _,.one<|.int _,trivial,by simp[Pt.size],by simp[Pt.deep]⟩
 .exact k _ ⟨.str _,.one<|.str _,by simp only[Pt.doc];decide,by simp[Pt.size],by simp[Pt.deep]⟩
 .exact k _ ⟨.lst (.inl vC)<|.cons (.int _)<|.cons (.Ah (ks:=[]) (.inl vB) W .nil) .nil,.row<|two (.int _) .emp,by simp[Pt.doc,Pt.Cr],by simp[Pt.size,Pt.AM],by simp[Pt.deep,Pt.AW]⟩
theorem au(F:Fq K "_law_copy" 39 f fd)(T:Txt mg)(A:Df P w K mg base "_law_copy" lqj n (Ds n)):Ar P w K mg base CA (n+1) f fd lqj (Ds (n+1)):=by
 refine F.oq lqj λH _ _ _ m hr h=>?_;obtain⟨v,t,rfl,hv,C,N,q⟩:=h;refine⟨_,(AA (AO (Ag<|JQ K T (pv 0) T.list BR) (AE<|AI<|cmp [] [] (BQ<|pv 0) λ_ _ _ _=>(BM A hr<|AU<|pv 0)) AJ)<|AA (AO (Ag<|JQ K T (pv 0) T.tuple E_) (AE<|AI<|Ai Ln W T.tuple E_<|AU<|cmp [] [] (WE<|pv 0) λ_ _ _ _=>(BM A hr<|AU<|pv 0)) AJ)<|AA (AO (Ag<|JQ K T (pv 0) T.dict CC) (AE<|AI<|Ai (De W) W T.dict CC<|AU<|Hg<|cmp lqj [0] (ER<|pv 0) λ_ _ _ _=>(Ao<|AB (pv 0)<|AU<|BM A hr<|AU<|Qi m (pv 1)<|pv 0)) AJ)<|AE<|AI<|pv 0),?_⟩;cases hv with
 |int i=>exact⟨_,W,_,"list","int",W,W,.n (.int i),_,W,AQ ⟨_,W,_,"tuple","int",W,W,.n (.int i),_,W,AQ ⟨_,W,_,"dict","int",W,W,.n (.int i),_,W,AQ ⟨_,W,q _ H (AF.refl H) (.int i)⟩⟩⟩⟩|str i=>exact⟨_,W,_,"list","str",W,W,.n (.str i),_,W,AQ ⟨_,W,_,"tuple","str",W,W,.n (.str i),_,W,AQ ⟨_,W,_,"dict","str",W,W,.n (.str i),_,W,AQ ⟨_,W,q _ H (AF.refl H) (.str i)⟩⟩⟩⟩|bl i=>exact⟨_,W,_,"list","bool",W,W,.n (.bl i),_,W,AQ ⟨_,W,_,"tuple","bool",W,W,.n (.bl i),_,W,AQ ⟨_,W,_,"dict","bool",W,W,.n (.bl i),_,W,AQ ⟨_,W,q _ H (AF.refl H) (.bl i)⟩⟩⟩⟩
 |AZ=>exact⟨_,W,_,"list","NoneType",W,W,.n .AZ,_,W,AQ ⟨_,W,_,"tuple","NoneType",W,W,.n .AZ,_,W,AQ ⟨_,W,_,"dict","NoneType",W,W,.n .AZ,_,W,AQ ⟨_,W,q _ H (AF.refl H) .AZ⟩⟩⟩⟩|@lst a U E h r=>
  refine⟨_,W,_,"list","list",W,W,.n<|.lst h,_,W,As ?_⟩;simp only[Pt.nice,Pt.deep]at C N;have V:=r.length;refine⟨_,W,a,W,⟨_,.inl h⟩,?_⟩;refine EI ν E.length (λi=>U.getD i .AZ) (λi g d=>g=E.take i) (am C.1 ac) (λD G=>rfl) (λi g d D I s G c=>c) (λl z=>nomatch z) (λi g d B s c=>⟨_,_,.inl<|h.up<|s.same _,zc<|bn B<|bm V.symm⟩) (λi g d v H' B s c y=>?_) (λg d s c=>⟨_,.inl<|h.up<|s.same _,bm V⟩) (λi g d R B s c X k=>?_) λD d I g G s Y X S c=>?_
  .obtain⟨e,y⟩:=y;refine⟨?_,e⟩;have:=y _<|.inl<|h.up<|s.same _;rw[b7,this];rfl
  .obtain⟨u,m⟩:=BH E i B;obtain⟨x,hx,vx⟩:=r.get' m;have J:=zf m;have dx:=Pt.Au J;have ev:U.getD i .AZ=x:=by rw[b7,hx];rfl
   rw[ev];refine⟨_,W,x,u,W,vx.up s.same,Pt.DJ C.2 u J,z_,λw ζ s3 v3=>k w u ζ (.of s3) v3 ?_⟩;rw[c,u8,m];rfl
  .rw[xL]at c;subst c;exact q _ d s.same (.lst (.inl<|by rw[BC G];exact Y) S)
 |@tup a U E h r=>
  refine⟨_,W,_,"list","tuple",W,W,.t h,_,W,AQ ⟨_,W,_,"tuple","tuple",W,W,.t h,_,W,As ?_⟩⟩;simp only[Pt.nice,Pt.deep]at C N;have V:=r.length;refine⟨_,W,a,W,⟨_,h⟩,?_⟩;refine EI ν E.length (λi=>U.getD i .AZ) (λi g d=>g=E.take i) (am C.1 ac) (λD G=>rfl) (λi g d D I s G c=>c) (λl z=>nomatch z) (λi g d B s c=>⟨_,_,h.up s.same,zc<|bn B<|bm V.symm⟩) (λi g d v H' B s c y=>?_) (λg d s c=>⟨_,h.up s.same,bm V⟩) (λi g d R B s c X k=>?_) λD d I g G s Y X S c=>?_
  .obtain⟨e,y⟩:=y;refine⟨?_,e⟩;have:=y _<|h.up s.same;rw[b7,this];rfl
  .obtain⟨u,m⟩:=BH E i B;obtain⟨x,hx,vx⟩:=r.get' m;have J:=zf m;have dx:=Pt.Au J;have ev:U.getD i .AZ=x:=by rw[b7,hx];rfl
   rw[ev];refine⟨_,W,x,u,W,vx.up s.same,Pt.DJ C.2 u J,z_,λw ζ s3 v3=>k w u ζ (.of s3) v3 ?_⟩;rw[c,u8,m];rfl
  .rw[xL]at c;subst c;refine⟨D,I,W,.inl ⟨Ab.of Y,λp L=>?_⟩⟩;have kU:=s.same.free L;exact q _ _ (s.same.trans<|AF.new L) (.tup (BO.of<|by rw[BC kU,AD])<|S.up<|Bi (λb h=>h) λb e h1 M=>(AH<|EK M L).trans M)
 |@Ah a kvs O E h hk r=>
  refine⟨_,W,_,"list","dict",W,W,.n<|.dK h,_,W,AQ ⟨_,W,_,"tuple","dict",W,W,.n<|.dK h,_,W,AQ ⟨_,W,_,"dict","dict",W,W,.n<|.dK h,_,W,As ?_⟩⟩⟩;simp only[Pt.nice,Pt.deep]at C N;obtain⟨Q,qh,n9,C⟩:=C;have kl:kvs.length=O.length:=EU hk;refine⟨a,_,h,λo Hf F=>⟨_,W,a,o,_,W,F.at_,?_⟩⟩;refine Mz ν E.length (λi=>.str<|O.getD i "") O (λi g d=>g=E.take i) (am (am (bm Q.symm) n9) ac) (λD G=>rfl) (λi g d D I s G c=>c) (λl z=>nomatch z) (λi g d B s c=>⟨s.same _ _ F.at_,bn B<|am (bm Q.symm)<|bm kl.symm⟩) (λi g d v H' B s c y=>?_) (λg d s c=>⟨s.same _ _ F.at_,Q.symm.trans kl.symm⟩) (λi g d R B s c X k=>?_) λD d qs I g G s Y lq X tt S c=>?_
  .obtain⟨e,k,w',e1,e2⟩:=y;rw[(Kx hk e1).2]at e2;exact⟨e2,e⟩
  .obtain⟨x,u,g1,g2,g3⟩:=Rn hk r qh (i:=i)<|bn B<|bm Q.symm;have J:=zf g2;have dx:=Pt.Au J;have vp:Fc H d:=F.rd.trans s.same.r;refine⟨_,W,_,W,_,W,a,x,W,.inl ⟨kvs,e9<|O.getD i "",vp a _ h,W,g1.symm⟩,x,u,W,g3.Je<|(JG.Ca F).trans<|.of s.same,Pt.DJ C u J,z_,λw ζ s3 v3=>⟨Ac,λt ht=>k w u ζ t (.of s3) v3 ?_ ht⟩⟩;rw[c,u8,g2];rfl
  .refine⟨s.same _ _ F.at_,?_⟩;rw[xL]at c;subst c;have sb:=F.back s.same;have ba:∀b,b≠a->back a H d b=d b:=λb hb=>Dq hb;have Da:D≠a:=(F.free G).2;have lw:=S.length;have el:O.length=I.length:=Q.trans lw.symm;refine⟨D,qs,Bo O I,W,Ab.of<|by rw[ba D Da];exact Y,by rw[DO el];exact lq.trans Q.symm,λj k v e=>?_,by rw[DO el];exact am n9 ac,λp L=>?_⟩
   .obtain⟨x,h1,M,h3⟩:=Nh e;obtain⟨t,ht⟩:=BH qs j (by have:=(Cd h1);exact bn this<|am (bm Q)<|bm lq.symm);obtain⟨g2,g3⟩:=tt j t v ht M;refine⟨t,ht,?_⟩;rw[ba t (F.free g3).2,g2,h3,b7,h1];rfl
   .rw[Ek el qh];have vq:H p=none:=sb.free L;have Yv:AR (nw H (upd (back a H d) p (.dK (Bo O I)))) I g:=S.up (Bi (λb h=>(F.free h).1) λb e h1 M=>by
     have hb:=(F.free h1).2;have nb:b≠p:=λz=>by rw[z]at M hb;rw[ba p hb,M]at L;cases L
     rw[AH nb,ba b hb];exact M)
    exact q _ _ (sb.trans<|AF.new L)<|.Ah (.inl<|by rw[BC vq,AD]) (BI el)<|by rw[CJ el];exact Yv
theorem IU{f:Addr}{fd:AT}(F:Fq K "_law_copy" 39 f fd)(T:Txt mg)(b:Binds K fd lqj [])(m:mg "_law_copy"=Z (.ref f)):∀n:Nat,Ar P w K mg base CA n f fd lqj (Ds n)
 |0=>GZ (λvs H Q E h=>by obtain⟨v,t,_,_,_,a,_⟩:=h;have:=Pt.DV t;lia)
 |n+1=>au F T (Df.mk' F b m (IU F T b m n))
theorem av(F:Fq K "_law_ruin" 40 f fd)(T:Txt mg)(s:Df P w K mg base "_law_ruin" lqj n (Jy n)):Ar P w K mg base CA (n+1) f fd lqj (Jy (n+1)):=by
 refine F.oq ["_law_thing","_law_name","_law_one"] λH _ tn C g hr h=>?_;obtain⟨G,v,t,c,rfl,kf,B,R,S,hz,hw,q⟩:=h;refine⟨_,(AA (AO (Ag<|JQ K T (pv 0) T.dict CC) (AA (NY<|Sg (ER<|pv 0) (Dn 1 C)<|AE<|Bq<|BM s hr<|AU<|Qi g (pv 0)<|pv 1)<|AE<|Ex g (pv 0) AS AG W) AJ)<|AA (AO (Ag<|Am (Rk:Ba _ _ (W' K)) W T.isinstance Hd<|AB (pv 0)<|AU<|Ao<|AB (NF (v:=.ty "list") W T.list BR W)<|AU<|NF (v:=.ty "tuple") W T.tuple E_ W) (AE<|Rg (Sg (BQ<|pv 0) (Dn 2 C)<|AE<|Bq<|BM s hr<|AU<|pv 2)<|Sg (WE<|pv 0) (Dn 2 C)<|AE<|Bq<|BM s hr<|AU<|pv 2) AJ)<|AE<|AO (Ag<|JQ K T (pv 0) T.list BR) (AE<|Bq<|gA K (pv 0) AG) AJ),?_⟩;have q:=λH c f {σ}=>tn (σ:=σ)<|q H c f;rcases B.kinds with⟨T,ty,k1,k2,k3,k4⟩|⟨a,D,d,rfl,rfl,L,O⟩|⟨a,D,d,rfl,rfl,L,O⟩|⟨a,M,ks,d,rfl,rfl,L,hk,O⟩
 .refine⟨_,W,_,"dict",T,W,W,ty _,_,W,BP k1 ⟨_,W,Ac,λp U=>⟨_,p,T,W,AD,ty _,_,W,BP k2 ⟨_,W,_,"list",T,W,W,ty _,_,W,BP k3 ?_⟩⟩⟩⟩;have m:=AF.new (o:=.tup [V.ty "list",V.ty "tuple"]) U;exact q _ ((hw.up m).mono (bv _)<|ci _ _)<|.of m
 .simp only[Pt.QI,Pt.FI,Pt.size,Pt.Jh]at R S hz q;have la:=O.length;have lt:d.length<=Pt.AM d:=Pt.CQ d;have Y:(Pt.lst d).FI=1+Pt.Fp d:=by simp only[Pt.FI]
  obtain⟨u',ζ,wo⟩:=hw a (.lst D) _ trivial L B<|bv _;cases wo with
  |lst _ k hk=>
   obtain⟨us,ru,wt⟩:=Wt.lst O k;have lu:=ru.length;refine⟨_,W,_,"dict","list",W,W,.n (.lst (.inl ζ)),_,W,BP W ⟨_,W,Ac,λp U=>?_⟩⟩;have m:=AF.new (o:=.tup [V.ty "list",V.ty "tuple"]) U;have e1:=m _ _ ζ;have w1:=hw.up m;refine⟨_,p,"list",W,AD,.n (.lst (.inl e1)),_,W,Bf W ?_⟩;generalize upd H p (.tup [V.ty "list",V.ty "tuple"])=H1 at m e1 w1⊢;refine .inl ⟨_,W,a,W,⟨_,Ab.of e1⟩,Dy (K:=K) (xs:=D++r4 k (.int 77)) (λi σ j=>∃(E I:Option V),σ=[Z (.ref a),E,I]/\Wn G (Pt.lst d).FI (c+Pt.BS (us.take i)) j/\IV G (Pt.Fp d) H1 j)
    ⟨ν,ν,W,w1,.refl⟩ (λi σ j _ ⟨_,_,_,_,f⟩=>Ab.of (f.at_ kf B z_ e1)) ?_ ?_⟩
   .refine λi x σ j _ go hx h0=>Lo λX hX=>?_;obtain⟨E,I,rfl,y,A⟩:=h0;obtain⟨u,g,vu⟩:=ru.get hx;have z1:=wt.size g;have z2:=wt.FI g;subst hX;refine⟨_,W,G,x,u,c+Pt.BS (us.take i),W,kf,vu,wt.QI R g,z_,z_,y.mono (am (am z2<|d0 _ _)<|bm Y.symm)<|bv _,λH2 Q J=>?_⟩;refine go.n ⟨_,_,W,?_,A.trans<|J.mono z2⟩;rw[Pt.Gv g,<-V3];exact y.next kf Q J<|ci _ _
   .rintro σ j ⟨E,I,rfl,y,A⟩;have z3:=wt.take (D++r4 k (V.int 77)).length;have z4:=Pt.EG d (D++r4 k (V.int 77)).length;have ei:=A.at_ kf B z_ e1;refine⟨_,W,_,"list","list",W,W,.n<|.lst<|.inl ei,_,W,Bf W ⟨_,W,.inl ⟨W,_,Ab.of ei⟩,a,_,_,W,W,ei,Xm<|by rw[q5,abj];lia,?_⟩⟩;rw[zx,show r4 k (V.int 77)++[V.int 77]=r4 (k+1) (V.int 77)from(List.replicate_succ' ..).symm];exact q _ ((y.mono (bv _)<|im (am z3<|am z4<|d0 _ _) _).change (u:=.lst D) trivial L<|.lst D (k+1)<|tz hk<|ci _ _)<|((IV.of m).trans<|A.mono<|d0 _ _).change (u:=.lst D) trivial L B<|bv _
 .simp only[Pt.QI,Pt.FI,Pt.size,Pt.Jh]at R S hz q;have la:=O.length;have lt:d.length<=Pt.AM d:=Pt.CQ d;have Y:(Pt.tup d).FI=1+Pt.Fp d:=by simp only[Pt.FI]
  have tq:∀{j:Hp},Wn G (Pt.tup d).FI (c+Pt.BS d) j->BO K j a D:=λw=>L.imp (λr=>by
   obtain⟨u',e,wo⟩:=w a (.tup D) _ trivial r B (bv _);cases wo;exact .inl e) id
  have w0:=hw.mono (bv _) (show c<=c+Pt.BS d from(ci _ _));refine⟨_,W,_,"dict","tuple",W,W,.t (tq w0),_,W,BP W ⟨_,W,Ac,λp U=>?_⟩⟩;have m:=AF.new (o:=.tup [V.ty "list",V.ty "tuple"]) U;have w1:=hw.up m;refine⟨_,p,"tuple",W,AD,.t (tq (w0.up m)),_,W,Bf W ?_⟩;generalize upd H p (.tup [V.ty "list",V.ty "tuple"])=H1 at m w1⊢;have mo:∀{j:Hp}{i:Nat},Wn G (Pt.tup d).FI (c+Pt.BS (d.take i)) j->Wn G (Pt.tup d).FI (c+Pt.BS d) j:=λ{j i} w=>w.mono (bv _) (by have:=Pt.EG d i;exact im this _);refine .inr ⟨_,W,a,W,⟨_,tq (w1.mono (bv _) (ci _ _))⟩,ZE (K:=K) (xs:=D) (λi σ j=>∃(E I:Option V),σ=[Z (.ref a),E,I]/\Wn G (Pt.tup d).FI (c+Pt.BS (d.take i)) j/\IV G (Pt.Fp d) H1 j)
   ⟨ν,ν,W,w1,.refl⟩ (λi σ j _ ⟨_,_,_,w,f⟩=>tq (mo w)) ?_ ?_⟩
  .refine λi x σ j _ go hx h0=>Lo λX hX=>?_;obtain⟨E,I,rfl,y,A⟩:=h0;obtain⟨u,g,vu⟩:=O.get hx;have wt:Wt d d:=λ_ _ h=>.inl h;have z1:=wt.size g;have z2:=wt.FI g;subst hX;refine⟨_,W,G,x,u,c+Pt.BS (d.take i),W,kf,vu,wt.QI R g,z_,z_,y.mono (am (am z2<|d0 _ _)<|bm Y.symm)<|bv _,λH2 Q J=>?_⟩;refine go.n ⟨_,_,W,?_,A.trans<|J.mono z2⟩;rw[Pt.Gv g,<-V3];exact y.next kf Q J<|ci _ _
  .rintro σ j ⟨E,I,rfl,y,A⟩;exact⟨_,W,_,"list","tuple",W,W,.t<|tq<|mo y,_,W,BP W<|q _ (mo y)<|(IV.of m).trans<|A.mono<|d0 _ _⟩
 .simp only[Pt.QI,Pt.FI,Pt.size,Pt.Jh]at R S hz q;have la:=O.length;have lt:d.length<=Pt.AM d:=Pt.CQ d;rw[bi]at la;have Y:(Pt.Ah ks d).FI=1+Pt.Fp d:=by simp only[Pt.FI]
  obtain⟨u',ζ,wo⟩:=hw a (.dK M) _ trivial L B<|bv _;cases wo with
  |Ah _ l wd=>
   have C:(M.map (·.1)).Nodup:=by
    rw[hk];exact List.Pairwise.map _ (λa b h e=>h<|G0 e) R.1
   obtain⟨us,ru,wt⟩:=Wt.Ah O wd;have lu:=ru.length;have wl:=wd.len;refine⟨_,W,_,"dict","dict",W,W,.n<|.dK<|.inl ζ,_,W,Bf W ⟨a,_,.inl ζ,λo Hf F=>⟨_,W,a,o,_,W,F.at_,?_⟩⟩⟩;have wf:Wn G (Pt.Fp d) c Hf:=λb u t p r v z=>by
    have N:b≠a:=λe=>by
     subst e;have:=Val.eI kf _ B v;subst this;lia
    rw[F.ne b N];exact hw b u t p r v<|am (am z<|d0 _ _)<|bm Y.symm
   refine PZ (λi σ j=>∃(E I:Option V),σ=[Z<|.ref a,E,I]/\Wn G (Pt.Fp d) (c+Pt.BS (us.take i)) j/\IV G (Pt.Fp d) Hf j)
    ⟨ν,ν,W,wf,.refl⟩ (λi σ j _ ⟨_,_,_,_,f⟩=>f.at_ kf B z_ F.at_) ?_ ?_
   .refine λi key x σ j _ go hx h0=>Lo λX hX=>?_;obtain⟨E,I,rfl,y,A⟩:=h0;obtain⟨u,g,vu⟩:=ru.get (show(l.map (·.2))[i]?=Z x by rw[b6,hx];rfl);have z1:=wt.size g;have z2:=wt.FI g;have rd:Rd j a (.dK l):=.inr ⟨o,A.at_ kf B z_ F.at_⟩;subst hX;refine⟨_,W,_,W,a,x,W,.inl ⟨_,key,rd,W,(QN (wd.nd C) hx).symm⟩,G,x,u,c+Pt.BS (us.take i),W,kf,vu,wt.QI R.2 g,z_,z_,y.mono (z2)<|bv _,λH2 Q J=>?_⟩;refine go.n ⟨_,_,W,?_,A.trans<|J.mono z2⟩;rw[Pt.Gv g,<-V3];exact y.next kf Q J<|ci _ _
   .rintro σ j ⟨E,I,rfl,y,A⟩;have z3:=wt.take l.length;have z4:=Pt.EG d l.length;refine⟨A.at_ kf B z_ F.at_,?_⟩;have eb:back a H j a=Z (.dK l):=by rw[Jp];exact ζ
    have wb:Wn G (Pt.Ah ks d).FI (c+Pt.BS d) (back a H j):=λb u t p r v z=>by
     by_cases N:b=a
     .subst N;obtain⟨u',e,w⟩:=hw b u t p r v z;exact⟨u',by rw[Jp];exact e,w.mono<|ci _ _⟩
     .rw[Dq N];rcases C7 (Pt.Fp d) t.FI with z'|z'
      .obtain⟨u',e,w⟩:=hw b u t p r v z;exact⟨u',A.at_ kf v z'<|by rw[F.ne b N];exact e,w.mono<|ci _ _⟩
      .obtain⟨u',e,w⟩:=y b u t p r v z';exact⟨u',e,w.mono<|im (am z3 z4) _⟩
    have fb:IV G (Pt.Ah ks d).FI H (back a H j):=λb o' e=>by
     by_cases N:b=a
     .subst N;exact .inl<|by rw[Jp];exact e
     .rw[Dq N];exact(A b o'<|by rw[F.ne b N];exact e).imp id λ⟨u,t,p,r,v,z⟩=>⟨u,t,p,r,v,am (am z<|d0 _ _)<|bm Y.symm⟩
    have Q:=wb.change (u:=.dK M) trivial L<|.Ah _ _ wd.put;have J:=fb.change (u:=.dK M) (u':=.dK<|putK l VU<|.int 77) trivial L B<|bv _;refine⟨_,W,a,_,W,Ue.k (k:=VU) eb<|Xm z_,?_⟩;have e2:upd (back a H j) a (.dK<|putK l VU<|.int 77) a=Z (.dK<|putK l VU<|.int 77):=AD;generalize upd (back a H j) a (.dK<|putK l VU<|.int 77)=H3 at Q J e2⊢;refine⟨_,W,Ac,λp U=>?_⟩;have m:=AF.new (o:=.tup [V.ty "list",V.ty "tuple"]) U;exact⟨_,p,"dict",W,AD,.n<|.dK<|.inl<|m _ _ e2,_,W,BP W ⟨_,W,_,"list","dict",W,W,.n<|.dK<|.inl<|m _ _ e2,_,W,BP W<|q _ (Q.up m)<|J.trans<|.of m⟩⟩
theorem Qt{f:Addr}{fd:AT}(F:Fq K "_law_ruin" 40 f fd)(T:Txt mg)(b:Binds K fd lqj [])(m:mg "_law_ruin"=Z (.ref f)):∀n:Nat,Ar P w K mg base CA n f fd lqj (Jy n)
 |0=>GZ (λvs H Q E h=>by obtain⟨_,_,t,_,_,_,_,_,a,_⟩:=h;lia)
 |n+1=>av F T (Df.mk' F b m (Qt F T b m n))
theorem a_(F:Fq K "_law_asks" 41 f fd)(T:Txt mg)(L:Df P w K mg base "_law_mix" lqb 1 EO)(Qu:Df P w K mg base "_law_doc" lqd 2 Gm)(N:Df P w K mg base "_law_asks" lqe n (Gn n)):Ar P w K mg base CA (n+1) f fd lqe (Gn (n+1)):=by
 refine F.oq ["_law_cells","_law_deep","_law_names_here","_law_cell_here","_law_kind","_law_more","_law_told","_law_lacking","_law_k","_law_way"] λH En _ J G_ hr h=>?_;obtain⟨l,d,nm,E,ys,rfl,hd,hl,lc,nl,hn,q⟩:=h;refine⟨_,(AA (AO (AK (Wi<|Bn.Dd hr) (pv 0) (Ap BL)<|AL _) (AE<|AI<|Ao<|AU AS) AJ)<|AA (Ad 3 J<|Cm (KW x8 C3 C2 FV (pv 0)<|AU AG)<|FX (pv 0) AG ⟨W,W,W,W⟩)<|AA (Ad 4 J<|AN Aq (BM L hr<|AB (pv 3)<|AU AG) AG)<|AA (Ad 5 J<|BD Aj (AN Aq (BM L hr<|AB (pv 3)<|AU AG) AG) AG<|AL _)<|AA (AO (PW.pt<|pw_or (AK Aj (pv 4) AG<|AL _)<|pw_or1<|PW.pt<|pw_and (AK Aj (pv 1) AG<|AL _)<|pw_and1<|AK Ot (pv 4) AG<|AL _) (AE<|AI<|Ao<|AU AS) AJ)<|AA (AO (AK FT (pv 4) AG<|AL _) (AE<|AI<|Ao<|AB AS<|AU<|BM Qu hr<|AB (pv 3)<|AB AG<|AU<|pv 2) AJ)<|AA (AO (AK FT (pv 4) AG<|AL _) (AE<|AI<|Ao<|AB AS<|AB (cmp ["_law_cells","_law_names_here","_law_deep"] [0,2,1] (BU W T.range<|AU<|AN Aq (BM L hr<|AB (pv 3)<|AU AG) AG) λ_ _ _ _=>(BM N hr<|AB (pv 1)<|AB (AN IY (pv 3) AG)<|AU<|pv 2))<|AU<|pv 5) AJ)<|AA (Ad 6 J KY)<|AA (Ad 7 J<|Ap BL)<|AA (Sg (BU W T.range<|AU AG) (Dn 8 J)<|AA (Ad 9 J<|AN Aq (AN Bb (BM L hr<|AB (pv 3)<|AU AG)<|FN K (Ap<|AB AG<|AB AG<|AB AG<|AU AG)<|pv 8) AG)<|AA (AO (AK Ot (pv 9) AG<|AL _) (AE<|Ex G_ (pv 6) (FN K (pv 2)<|pv 8) (BM N hr<|AB (pv 0)<|AB (AN IY (pv 1) AG)<|AU<|pv 2) W) AJ)<|AE<|AO (AK Aj (pv 9) AG<|AL _) (AE<|Bq<|gA K (pv 7)<|FN K (pv 2)<|pv 8) AJ)<|AE<|AI<|Ao<|AB AS<|AB (pv 6)<|AB (Am (H_ W:Ba _ _ (Rq K)) W T.sorted CP<|AU<|pv 7)<|AU<|pv 5),?_⟩;have Yw:H l≠none:=by rw[hl];exact λz=>nomatch z
 refine⟨_,W,j5 _,λpe NA=>⟨l,pe,_,W,W,Ab.of<|(AF.new NA) _ _ hl,Ab.of AD,_,W,?_⟩⟩;have se:=AF.new (o:=.lst []) NA;generalize upd H pe (.lst [])=H1 at se⊢;have S:=se _ _ hl;cases E with
 |nil=>
  refine As ⟨BZ,λp A=>?_⟩;have U:=se.free A;have lp:l≠p:=λz=>by rw[<-z,S]at A;cases A
  exact q _ .any [] _ (.of<|se.trans<|AF.new A) ((AH lp).trans S) (bv _) (.tup (BO.of<|by rw[BC U,AD])<|.cons (.str _) .nil) trivial (by simp[Ak.size]) (by simp[Ak.deep]) trivial
 |cons c E=>
  refine AQ ?_;refine .inl ⟨_,W,.inl ⟨W,_,Ab.of S⟩,l,_,0,0,.int c,W,W,S,ac,ac,(HS<|by unfold Uc;rw[if_pos ac,if_pos GE];rfl).1,W,?_⟩;have u:Bt (Z l) H (upd H1 l<|.lst<|E.map V.int):=(Bt.of se).put;have C:upd H1 l (.lst<|E.map V.int) l=Z (.lst<|E.map V.int):=AD;show JT _ _ _ _ (upd H1 l<|.lst<|E.map V.int);generalize upd H1 l (.lst<|E.map V.int)=H2 at u C⊢;have cS:=hn.but u nl;simp only[j3]at lc q;have cC:∀{M Y:Hp}{v:V}{t:Pt},Val (nw H2 M) v t->(∀b o,M b=Z o->Y b=Z o)->Val (nw H Y) v t:=λh s=>h.up (Bi (λb h=>u.EJ b h) λb e _ h=>s b e h);refine⟨_,W,c,0,W,ac,λr0 _ _=>⟨_,_,W,W,BE,?_⟩⟩;have m8:=Dl r0 (n:=8) ac;generalize r0 % 8=kd at m8⊢;refine⟨_,W,c,2,W,ac,λr2 _ _=>⟨_,_,W,W,BE,W,?_⟩⟩;generalize decide (V.int (r2 % 2)=V.int 1)=mo;dsimp only[BY];have jJ:∀p,H2 p=ν->En.rt (.ref p) (upd H2 p<|.tup [.str "any"]):=λp A=>by
   have lp:l≠p:=λz=>by rw[<-z,C]at A;cases A
   exact q _ .any E _ (u.trans<|.of<|AF.new A) ((AH lp).trans C) (ci _ _) (.tup (BO.of<|by rw[BC<|u.EJ p A,AD])<|.cons (.str _) .nil) trivial (by simp[Ak.size]) (by simp[Ak.deep]) trivial
  refine Rf (t:=Er _ _ _) (λH5=>H2=H5/\(d=0->kd<=2)) (λH5 ⟨e5,hk⟩=>?_) (λkey=>?_);rotate_left
  .refine⟨_,W,W,_,W,Bh (λ_=>As ⟨BZ,jJ⟩) λ_=>⟨_,W,W,_,W,Bh (λh2=>?_) λh2=>?_⟩⟩
   .refine⟨_,W,_,_,W,W,_,W,Bh (λ_=>⟨BZ,jJ⟩) λh3=>key H2 ⟨W,λ_=>?_⟩⟩;have:=of_decide_eq_false h3;lia
   .refine AQ<|key H2 ⟨W,λz=>?_⟩;have:=of_decide_eq_false h2;subst z;exact absurd W this
  subst e5;refine⟨_,W,_,_,W,W,_,W,Bh (λ_=>?_) λh3=>?_⟩
  .refine⟨_,W,_,W,c,1,nm,ys,W,ac,cS,λv t M s3 sm=>⟨Ac,λp A=>?_⟩⟩;have O:=s3.free A;have lp:l≠p:=λz=>by rw[<-z,C]at O;cases O
   refine q _ (.AY t) E _ (u.trans<|.of<|s3.trans<|AF.new A) ((AH lp).trans<|s3 _ _ C) (ci _ _) (.tup (BO.of<|by rw[BC<|u.EJ p O,AD])<|.cons (.str _)<|.cons (cC sm.val<|AF.new A) .nil) ?_ (by simp[Ak.size]) (by simp[Ak.deep]) trivial;simp only[Ak.ok];exact⟨sm.sm,sm.doc,by have:=sm.size;exact this⟩
  have h3:=of_decide_eq_false h3;obtain⟨Q,rfl⟩:∃Q,d=Q+1:=⟨d-1,z_⟩;have ed:(((Q+1:Nat):Int)-1)=(Q:Int):=by lia
  refine⟨_,W,_,_,W,W,_,W,Bh (λ_=>?_) λ_=>?_⟩
  .refine⟨_,W,c,1,W,ac,λr1 _ _=>⟨_,_,W,W,BE,?_⟩⟩;have m4:=Dl r1 (n:=4) ac;obtain⟨k4,qi⟩:∃k:Nat,r1 % 4=(k:Int):=⟨(r1 % 4).toNat,(x5 m4.1).symm⟩;have jK:k4<4:=G9.mp<|qi▸m4.2;rw[qi];refine⟨k4,W,F6 ac<|wT _,zi (F5.mpr<|gt jK) ac,?_⟩;refine EI (Z l) k4 (λi=>.int<|0+(i:Int)) (λi us M=>∃(I:List Ak)(g:List Int),us=Ak.EZ I/\M l=Z (.lst<|g.map V.int)/\g.length<=E.length/\Ak.Js I/\Ak.AM I<=i+4*(E.length-g.length)/\Ak.AW I<=Q+1/\Ak.Lq I) (am (gt jK) ac) (λD hD=>⟨[],E,W,(AH λz=>by rw[<-z,C]at hD;cases hD).trans C,bv _,trivial,by simp[Ak.AM],by simp[Ak.AW],trivial⟩) (λi us M D ws bt hD y=>by obtain⟨I,g,h1,h2,h3⟩:=y;exact⟨I,g,h1,(AH λz=>by rw[<-z,C]at hD;cases hD).trans h2,h3⟩) (λl' z=>by cases z;rw[C];exact λz=>nomatch z) (λi us M hi s iv=>hi) (λi us M v H' hi s iv y=>⟨y.2,y.1⟩) (λus M s iv=>bv _) (λi us M R hi bt ⟨I,g,e1,e2,e3,e4,e5,e6,e7⟩ lu k=>?_) (λD M ws us hD bt d2 lu vl ⟨I,g,e1,e2,e3,e4,e5,e6,e7⟩=>?_)
   .refine⟨_,W,_,W,_,_,W,W,_,W,l,Q,nm,g,ys,by rw[ed];rfl,z_,e2,am (lM e3) lc,nl,cS.but bt nl,λv a Vx Y ζ Yg a' v4 vr y_ v_ wA=>k v a.pt Y ζ v4 ⟨I++[a],Vx,?_,Yg,am a' e3,Ak.Co e4<|Ak.FE vr,?_,?_,Ak.ES e7 ⟨wA,trivial⟩⟩⟩
    .rw[Ak.FD,e1];rfl
    .rw[Ak.A_,Ak.GG];lia
    .rw[Ak.Cv,Ak.GH];exact y9.mpr ⟨e6,v_⟩
   .refine⟨_,W,Ld,λp A=>?_⟩;have O:=bt.EJ p A;have pD:D≠p:=λz=>by rw[<-z,d2]at A;cases A
    have lp:l≠p:=λz=>by rw[<-z,e2]at A;cases A
    subst e1;refine q _ (.row I mo) g _ ((u.trans bt).trans<|.of<|AF.new A) ((AH lp).trans e2) (lM e3) (.tup (BO.of<|by rw[BC<|u.EJ p O,AD])<|.cons (.str _)<|.cons (.lst (.inl<|by rw[BC<|u.EJ D hD,AH pD];exact d2)<|vl.up<|Bi (λb h=>u.EJ b h) λb e _ h=>AF.new A b e h)<|.cons (.bl _) .nil) e4 ?_ ?_ e7
    .simp only[Ak.size];lia
    .simp only[Ak.deep];lia
  .refine λp6 kW=>?_;obtain⟨M,eH,t6,f6⟩:=Dj (o:=.dK []) kW;rw[eH];clear eH;refine⟨j5 _,.mk λp7 Y wB t7 f7=>?_⟩;have kb:=t7 _ _ f6;have ζ:Bt (Z l) H Y:=u.trans (.of (t6.trans t7));have T0:GX H Y l p6 p7 ys (Q+1) E.length 0 Y [] [] [] E []:={
    n6:=u.EJ p6 kW
    n7:=u.EJ p7 (t6.free wB)
    o6:=by rw[kb];exact λz=>nomatch z
    o7:=by rw[f7];exact λz=>nomatch z
    ne:=λz=>by rw[z,f7]at kb;cases kb
    hl:=Yw
    h4:=ζ.EJ
    bt:=ζ
    dm:=λb h=>h
    e6:=kb
    e7:=f7
    el:=(t6.trans t7) _ _ C
    le:=bv _
    lw:=rfl
    la:=rfl
    vl:=.nil
    ok:=trivial
    fw:=trivial
    lm:=bv _
    sz:=by simp[Ak.AM]
    dp:=by simp[Ak.AW]
    ik:=λk h=>nomatch h
    il:=λk h=>nomatch h
    nk:=.nil
    dj:=λk h=>nomatch h
    l4:=bv _
    m4:=bv _
    nl:=.nil}
   refine⟨4,W,ac,ac,Du (lo:=0) (n:=4) (λi σ Hi=>∃(ks:List Str)(I:List Ak)(ls:List Str)(g:List Int)(ws:List V)(o8 o9:Option V),σ=[Z (.ref l),Z (.int ((Q+1:Nat):Int)),Z (.ref nm),Z (.int c),Z (.int kd),Z (.bl mo),Z (.ref p6),Z (.ref p7),o8,o9]/\GX H Y l p6 p7 ys (Q+1) E.length i Hi ks I ls g ws)
    ⟨[],[],[],E,[],ν,ν,W,T0⟩ ?_ ?_⟩
   .refine λi σ Hi _ go hi h0=>Lo λX hX=>?_;obtain⟨ks,I,ls,g,ws,o8,o9,rfl,TI⟩:=h0;obtain⟨y,hy⟩:=BH ys i (by rw[hn.len];exact hi);have ay:Oz (ys.map V.str) (0+(i:Int))=Z (.str y):=by
     rw[aaT];exact Aa<|by rw[b6,hy];rfl
    obtain⟨v4,wC,qj⟩:=FZ (xs:=[V.int 1,V.int 4,V.int 16,V.int 64]) (i:=0+(i:Int)) z_ (by simp only[j3,B6];lia);have vb:∃m:Int,v4=.int m/\0<m/\m<1073741824:=by
     simp only[j4,M9,or_false]at qj;rcases qj with rfl|rfl|rfl|rfl
     .exact⟨_,W,ac,ac⟩
     .exact⟨_,W,ac,ac⟩
     .exact⟨_,W,ac,ac⟩
     .exact⟨_,W,ac,ac⟩
    obtain⟨m,rfl,ec,gC⟩:=vb;subst hX;refine⟨_,W,c,1,W,ac,λr1 _ _=>⟨AX<|show 4<=1000 by decide,λpl Zm=>⟨_,W,pl,_,_,_,W,W,Ab.of AD,wC,_,_,W,W,⟨ec,gC⟩,_,_,W,W,BE,?_⟩⟩⟩;have B:=TI.up<|AF.new (o:=.lst [V.int 1,V.int 4,V.int 16,V.int 64]) Zm;generalize upd Hi pl (.lst [V.int 1,V.int 4,V.int 16,V.int 64])=Hj at B⊢;clear TI;generalize r1/m % 4=wy;have nj:=hn.but B.bt nl;dsimp only[BY];refine⟨_,W,_,_,W,W,_,W,Bh (λh1=>?_) λh1=>?_⟩
    .have h1:=of_decide_eq_true h1;refine⟨_,W,_,W,_,_,W,W,_,W,l,Q,nm,g,ys,by rw[ed];rfl,z_,B.el,by have:=B.le;exact am (lM this) lc,nl,nj,λv a Vx H5 qk fH wD v5 wF wG wH wI=>?_⟩;obtain⟨g1,g2,wJ⟩:=B.asked hy hn.nd qk fH wD v5 wF wG wH wI;have l4:=B.l4;refine⟨_,W,_,W,_,W,nm,_,_,_,W,W,Ab.of (nj.but qk nl).at_,ay,p6,_,W,.inl ⟨_,e9 y,g1,W,Aw<|by rw[DO B.lw];exact am (am l4<|gt hi) ac,W⟩,?_⟩;rw[g2];refine⟨_,W,W,_,W,BP (decide_eq_false λz=>?_)<|go.n ⟨_,_,_,_,_,_,_,W,wJ⟩⟩;have:=V.int.inj z;lia
    .refine⟨_,W,W,_,W,Bh (λ_=>?_) λ_=>go.n ⟨_,_,_,_,_,_,_,W,B.weak⟩⟩;have m4:=B.m4;exact⟨_,W,.inl ⟨W,_,Ab.of B.e7⟩,_,W,_,W,nm,_,_,_,W,W,Ab.of nj.at_,ay,p7,_,_,W,W,B.e7,Aw<|by rw[bi];exact am (am m4<|gt hi) ac,go.n ⟨_,_,_,_,_,_,_,W,B.mn hy hn.nd⟩⟩
   .rintro σ Hi ⟨ks,I,ls,g,ws,o8,o9,rfl,TI⟩;have l4:=TI.l4;have m4:=TI.m4;refine⟨_,W,_,W,p7,ls,W,Ab.of TI.e7,d8 m4 ac,λp8 ss H5 wL s5 f8 pm wM=>⟨_,W,AX<|show 4<=1000 by decide,λp A=>?_⟩⟩;have aO:=s5.free A;have U:=TI.bt.EJ p aO;have wN:p8≠p:=λz=>by rw[<-z,f8]at A;cases A
    have h8:H p8=none:=TI.bt.EJ p8 wL;have lp:l≠p:=λz=>Yw (by rw[z];exact U);have zA:p6≠p:=λz=>by have:=s5 _ _ TI.e6;rw[z,A]at this;cases this
    have s6:=s5.trans<|AF.new (o:=.tup [.str "table",.ref p6,.ref p8,.bl mo]) A;refine q _ (.tab ks I ss mo) g _ (TI.bt.trans<|.of s6) (s6 _ _ TI.el) (by have:=TI.le;exact lM this) (.tup (BO.of<|by rw[BC U,AD])<|.cons (.str _)<|.cons (.Ah (.inl<|by rw[BC TI.n6];exact s6 _ _ TI.e6) (BI TI.lw) ?_)<|.cons (.lst (.inl<|by rw[BC h8,AH wN];exact f8) ?_)<|.cons (.bl _) .nil) ?_ ?_ ?_ ?_
    .rw[CJ TI.lw];exact TI.vl.up<|Bi (λb h=>TI.h4 b h) λb e _ h=>s6 _ _ h
    .have gen:∀{G:Hp}(ls:List Str),AR G (ls.map V.str) (ls.map Pt.str):=by
      intro G ls
      induction ls with
      |nil=>exact .nil|cons x r ih=>exact .cons (.str x) ih
     exact gen ss
    .simp only[Ak.ok];exact⟨TI.la,TI.nk,λk hk=>let⟨j,_,h2⟩:=TI.ik k hk;hn.nb k<|zf h2,d8 l4 ac,⟨by rw[pm.length_eq];exact am m4 ac,pm.nodup_iff.mpr TI.nl,wM⟩,λx hx=>TI.dj x<|pm.mem_iff.mp hx,TI.ok⟩
    .have:=TI.sz;have:=TI.le;simp only[Ak.size];lia
    .have:=TI.dp;simp only[Ak.deep];lia
    .have:=TI.lm;exact⟨by rw[pm.length_eq];exact this,TI.fw⟩
theorem Qv{f:Addr}{fd:AT}(F:Fq K "_law_asks" 41 f fd)(T:Txt mg)(b:Binds K fd lqe [])(m:mg "_law_asks"=Z (.ref f))(a:Df P w K mg base "_law_mix" lqb 1 EO)(c:Df P w K mg base "_law_doc" lqd 2 Gm):∀n:Nat,Ar P w K mg base CA n f fd lqe (Gn n)
 |0=>GZ (λvs H Q E h=>by obtain⟨_,_,_,_,_,_,d,_⟩:=h;lia)
 |n+1=>a_ F T a c (Df.mk' F b m (Qv F T b m a c n))
theorem Qw(F:Fq K "_law_kin_table" 42 f fd)(T:Txt mg)(Qx:Df P w K mg base "_law_mix" lqb 1 EO):Ar P w K mg base CA 2 f fd lqh Sb:=by
 refine F.oq ["_law_asks_here","_law_told","_law_way","_law_cell_here","_law_names_here","_law_lacking","_law_left","_law_name"] λH En _ EW G_ hr h=>?_;obtain⟨G,Hs,v0,d,ζ,c,nm,E,zC,M,ls,zD,ws,as,m,rfl,hv,I,nq,wO,hd,lw,vl,BN,h4,ql,hn,D,gI,qm,q⟩:=h;refine gen (AA (DD (i:=5) EW W (O9 W)<|Ai Br W T.list BR<|AU<|Ay K 0)<|AA (DF (i:=6) (fv:=["_law_told","_law_lacking"]) (fs:=[1,5]) W (.of<|by rfl) EW W (Y3 W) (BQ<|pv 4) (λC s0 H0 fp=>GB<|PW.pt<|pw_and (Gf<|Ef G_ (pv 0)<|pv 1)<|pw_and1<|AK (Ew:DA _ _ (WT K true)) (pv 0) (pv 2) W) λC s0 H0 fp=>(pv 0))<|AA (Ad 7 EW<|FN K (pv 4)<|AN Aq (BM Qx hr<|AB (pv 3)<|AU AG) AG)<|AA (AO (PW.pt<|pw_and (AK Aj (pv 2) AG<|AL _)<|pw_and1<|Gf<|Ie G_ (pv 7)<|pv 1) (AE<|Bq<|Cm (KW x8 C3 C2 FV (pv 1)<|AU<|pv 7)<|FX (pv 1) (pv 7) ⟨W,W,W,W⟩) AJ)<|AA (AO (PW.pt<|pw_and (AK Aj (pv 2) AG<|AL _)<|pw_and1<|AK (Dv:DA _ _ (WT K false)) (pv 7) (pv 6) W) (AE<|Ex G_ (pv 1) (pv 7) (Ao<|AU AS) W) AJ)<|AA (AO (PW.pt<|pw_and (AK Aj (pv 2) AG<|AL _)<|pw_and1<|AK (Dv:DA _ _ (WT K false)) (pv 7) (pv 6) W) (AE<|Bq<|gA K (pv 5)<|pv 7) AJ)<|AE<|AI<|Ao<|AB AS<|AB (pv 1)<|AB (Am (H_ W:Ba _ _ (Rq K)) W T.sorted CP<|AU<|pv 5)<|AU<|BD KQ (Oi (Ay K 0)<|Bw<|BD Aj (pv 2) AG<|AL _) (BD Aj (pv 2) AG<|AL _)<|AL _) λX hX=>?_;obtain⟨t0,w0,rest,ht,cs⟩:=hv.ak;rcases cs with _|_|_|⟨_,_,_,_,u,z,G_,hz⟩;obtain⟨l0,Ye,rfl,Yw,jI⟩:=hz.Fd;have e0:=CF jI;subst e0;simp only[Ak.ok]at BN;obtain⟨o1,o2,o3,o4,o5,o6,o7⟩:=BN;subst hX;refine⟨_,W,t0,_,2,_,W,W,ht,at2,l0,_,W,.inl<|.inl Yw,.mk λN H1 nr s1 f1=>?_⟩;dsimp only[BY];have qo:=s1 _ _ hd;have dL:d≠N:=EK hd nr;have MB:=hn.up s1;have li:∀i,i<E.length->(E.map V.str)[i]?=Z (.str<|E.getD i ""):=λi hi=>by
  rw[b6,zc hi,b7,zc hi];rfl
 refine⟨_,W,nm,W,⟨_,Ab.of MB.at_⟩,?_⟩;refine MS (n:=E.length) (λi=>.str<|E.getD i "") (λi=>.str<|E.getD i "") (λi=> !decide (E.getD i ""∈M)&& !decide (E.getD i ""∈ls)) (AX<|by rw[hn.len];decide) (λi H2 hi U=>⟨_,_,Ab.of<|U _ _ MB.at_,li i hi⟩) (λi H2 v H' hi U yd=>?_) (λH2 U=>⟨_,Ab.of<|U _ _ MB.at_,by rw[bi];exact bv _⟩) (λi H2 R hi U r=>?_) (λi H2 R hi U pi r=>⟨_,W,r _<|AF.refl _⟩) λpF H2 hF U fF=>?_
 .obtain⟨e,yd⟩:=yd;have:=yd _<|Ab.of<|U _ _ MB.at_;rw[li i hi]at this;exact⟨(ze this).symm,e⟩
 .generalize E.getD i ""=y at r⊢;refine⟨_,W,_,W,d,_,W,.inl ⟨_,e9 y,.inl<|U _ _ qo,W,W⟩,_,W,?_⟩;rw[FL<|BI lw];by_cases L:y∈M
  .rw[decide_eq_true L]at r⊢;exact AQ<|r _<|AF.refl _
  .rw[decide_eq_false L]at r⊢;refine As ⟨_,W,_,W,N,_,W,.inl<|Ab.of<|U _ _ f1,W,by rw[G8];exact re.mpr λ_ _=>rfl,_,W,?_⟩;show R (!Yr (V.str y) (ls.map V.str)) H2;rw[DS];exact r _<|AF.refl _
 obtain⟨O,ez,hz⟩:∃O:List Str,(((j9 E.length).filter λi=> !decide (E.getD i ""∈M)&& !decide (E.getD i ""∈ls)).map λi=>V.str (E.getD i ""))=O.map V.str/\∀y∈O,y∉M/\y∉ls:=⟨((j9 E.length).filter λi=> !decide (E.getD i ""∈M)&& !decide (E.getD i ""∈ls)).map λi=>E.getD i "",by rw[u5];rfl,λy L=>by
  obtain⟨i,hi,rfl⟩:=u7.mp L;have:=(E5.mp hi).2;simpa using this⟩
 rw[ez]at fF;have s02:=s1.trans U;have cS:=MB.up U;dsimp only;refine⟨_,W,_,W,c,1,W,ac,λr1 _ _=>⟨_,_,W,W,BE,?_⟩⟩;have m4:=Dl r1 (n:=4) ac;obtain⟨jj,UJ⟩:∃j:Nat,r1 % 4=(j:Int):=⟨(r1 % 4).toNat,(x5 m4.1).symm⟩;obtain⟨y,L⟩:=BH E jj (by rw[hn.len];exact G9.mp<|UJ▸m4.2);have wQ:=hn.nb _<|zf L;refine⟨nm,_,_,_,W,W,Ab.of cS.at_,by rw[UJ];exact Aa<|by rw[b6,L];rfl,?_⟩;dsimp only[BY];have k0:KTb (K:=K) G Hs H H2 d N M ls ws as (Ak.Bv as+1) D:=⟨U _ _ qo,U _ _ f1,.of s02,lw,vl.up<|EF I (λb h=>h) λb o _ h=>by rw[Bj<|EK (Ci _ _ h) nr];exact(Bt.of s02).CU _ _ h,o2,o3,o7,ql,o5.2.1,o6,acL h4,V7 _,qm⟩;refine Dg (t:=Er _ _ _) (λJ Hi=>∃(g:List Str)(s:List V)(A:List Ak),J=[Z<|.ref t0,Z<|.ref d,Z<|.int ζ,Z<|.int c,Z<|.ref nm,Z<|.ref N,Z<|.ref pF,Z<|.str y]/\KTb (K:=K) G Hs H Hi d N g ls s A (Ak.Bv as) D/\Hi pF=Z (.lst<|O.map V.str)/\g.length+ls.length<=4/\(ζ≠2->g=M)) (λJ Hi ⟨g,s,A,es,k1,ke,wR,qp⟩=>?_) (λp=>?_);rotate_left
 .refine⟨_,W,W,_,W,Bh (λY=>?_) λY=>AQ<|p _ _ ⟨M,ws,as,W,{k0 with wt:=bv _},fF,h4,λ_=>rfl⟩⟩;have w2:ζ=2:=V.int.inj<|of_decide_eq_true Y;refine⟨_,W,_,W,d,_,W,.inl ⟨_,e9 y,.inl k0.fd,W,W⟩,_,W,?_⟩;rw[FL<|BI lw];by_cases hk:y∈M
  .rw[decide_eq_true hk];obtain⟨x2,nv⟩:∃x,CG (Bo M ws) (e9 y:Key)=Z x:=by
    have:=FL (BI lw) y;rw[decide_eq_true hk]at this;cases e:CG (Bo M ws) (e9 y:Key)with
    |none=>rw[e]at this;cases this|some x=>exact⟨x,W⟩
   obtain⟨B,Q,S,i1,i2,i3,i4,i5⟩:=UE y lw k0.vl;refine As<|.inr ⟨_,W,d,W,.inl ⟨_,.inl k0.fd⟩,_,W,Bo M ws,e9 y,x2,k0.fd,W,nv,?_⟩;rw[i1];exact p _ _ ⟨B,Q,S,W,⟨AD,(AH dL.symm).trans k0.fl,k0.bt.put,i2,i5.up<|EF I (λb h=>h) λb o _ h=>ae (λb o h1 _ h=>(AH h1).trans h) _ _ h,i3.nodup o2,λk hk=>o3 k<|i3.subset hk,Ak.Kt λx hx=>Ak.Ct o7 x<|i4.subset hx,Ak.EH λx hx=>Ak.Cq ql x<|i4.subset hx,o5.2.1,λl hl z=>o6 l hl<|i3.subset z,by have:=i3.length_le;lia,Ak.OS i4,Ak.GU λx hx=>am (Ak.Au<|i4.subset hx) qm⟩,(AH<|EK fF k0.fd λz=>nomatch z).trans fF,by have:=i3.length_le;exact am (gl this _) h4,λz=>absurd w2 z⟩
  .rw[decide_eq_false hk];exact AQ<|p _ _ ⟨M,ws,as,W,{k0 with wt:=bv _},fF,h4,λz=>absurd w2 z⟩
 subst es;refine Dg (t:=Er _ _ _) (λJ Hi=>∃(g:List Str)(s:List V)(A:List Ak),J=[Z<|.ref t0,Z<|.ref d,Z<|.int ζ,Z<|.int c,Z<|.ref nm,Z<|.ref N,Z<|.ref pF,Z<|.str y]/\KTb (K:=K) G Hs H Hi d N g ls s A (Ak.Bv as+1) D/\Hi pF=Z (.lst<|O.map V.str)/\(ζ=5->g.length+ls.length<=4/\g=M)) (λJ Hj ⟨B,Q,S,es,k2,wU,wV⟩=>?_) (λp=>?_);rotate_left
 .have same:ζ≠3∨y∉O->∃(B:List Str)(Q:List V)(S:List Ak),[Z<|V.ref t0,Z<|.ref d,Z<|.int ζ,Z<|.int c,Z<|.ref nm,Z<|.ref N,Z<|.ref pF,Z<|.str y]=[Z<|V.ref t0,Z<|.ref d,Z<|.int ζ,Z<|.int c,Z<|.ref nm,Z<|.ref N,Z<|.ref pF,Z<|.str y]/\KTb (K:=K) G Hs H Hi d N B ls Q S (Ak.Bv as+1) D/\Hi pF=Z (.lst<|O.map V.str)/\(ζ=5->B.length+ls.length<=4/\B=M):=λ_=>⟨g,s,A,W,{k1 with wt:=acL k1.wt},ke,λz=>⟨wR,qp z_⟩⟩;refine⟨_,W,W,_,W,Bh (λY=>?_) λY=>AQ<|p _ _<|same<|.inl λz=>of_decide_eq_false Y<|by rw[z]⟩;have w3:ζ=3:=V.int.inj<|of_decide_eq_true Y;have e1:=qp z_;subst e1;refine⟨_,W,_,W,pF,_,W,.inl<|Ab.of ke,W,by rw[G8];exact re.mpr λ_ _=>rfl,_,W,?_⟩;have hv:Yr (V.str y) (O.map V.str)=decide (y∈O):=DS y O;by_cases L:y∈O
  .obtain⟨yk,yl⟩:=hz y L;refine Bf (hv.trans<|decide_eq_true L) ⟨BZ,.mk λpa Ha jL sa fa=>?_⟩;have da:pa≠d:=λz=>by rw[z,k1.fd]at jL;cases jL
   refine⟨_,W,_,W,d,_,W,.inl ⟨_,e9 y,sa _ _ k1.fd,W,Aw<|by rw[DO k1.lw];exact am (gt o4) ac,W⟩,?_⟩;rw[Ni k1.lw yk];have b0:=k1.bt.trans<|.of sa;have vA:AR (K:=K) (ov G Hs<|CU N<|CU d Ha) (s++[.ref pa]) ((A++[Ak.any]).map Ak.pt):=by
    rw[sU];refine(k1.vl.up<|EF I (λb h=>h) λb o _ h=>ae (λb o _ _ h=>sa _ _ h) _ _ h).snoc<|.tup (BO.of ?_)<|.cons (.str _) .nil;rw[Cc I<|nq _<|k1.bt.EJ _ jL,Bj (λz=>by rw[z,k1.fl]at jL;cases jL),Bj da];exact fa
   have lk:=k1.lw;exact p _ _ ⟨g++[y],s++[.ref pa],A++[Ak.any],W,⟨AD,(AH dL.symm).trans<|sa _ _ k1.fl,b0.put,by simp[lk],vA.up<|EF I (λb h=>h) λb o _ h=>ae (λb o h1 _ h=>(AH h1).trans h) _ _ h,A7.mpr ⟨k1.nk,GE,λa ha b hb z=>yk<|by rw[io]at hb;rw[<-hb,<-z];exact ha⟩,λk hk=>(rc.mp hk).elim (k1.nb k) λh=>by rw[io.mp h];exact wQ,Ak.Co k1.ok<|Ak.FE trivial,Ak.Gy k1.sl trivial,k1.nl,λl hl z=>(rc.mp z).elim (k1.dj l hl) λh=>yl<|by rw[<-io.mp h];exact hl,by simp;lia,by rw[Ak.Bx];have:=k1.wt;simp only[Ak.Bv,Ak.wt];exact tz this<|am (gl (bv _) _) ac,Ak.Gx k1.de gI⟩,(AH<|EK ke k1.fd λz=>nomatch z).trans<|sa _ _ ke,λz=>by lia⟩
  .exact BP (hv.trans<|decide_eq_false L)<|p _ _<|same<|.inr L
 subst es;refine Dg (t:=Er _ _ _) (λJ Hi=>∃(g wW:List Str)(s:List V)(A:List Ak),J=[Z<|.ref t0,Z<|.ref d,Z<|.int ζ,Z<|.int c,Z<|.ref nm,Z<|.ref N,Z<|.ref pF,Z<|.str y]/\KTb (K:=K) G Hs H Hi d N g wW s A (Ak.Bv as+1) D) (λJ Hk ⟨n_,wX,qr,wY,es,k3⟩=>?_) (λp=>?_);rotate_left
 .refine⟨_,W,W,_,W,Bh (λY=>?_) λY=>AQ<|p _ _ ⟨B,ls,Q,S,W,k2⟩⟩;obtain⟨zE,e2⟩:=wV<|V.int.inj<|of_decide_eq_true Y;subst e2;refine⟨_,W,_,W,pF,_,W,.inl<|Ab.of wU,W,by rw[G8];exact re.mpr λ_ _=>rfl,_,W,?_⟩;have hv:Yr (V.str y) (O.map V.str)=decide (y∈O):=DS y O;by_cases L:y∈O
  .obtain⟨yk,yl⟩:=hz y L;refine Bf (hv.trans<|decide_eq_true L) ⟨_,W,.inl ⟨W,_,Ab.of k2.fl⟩,_,W,N,_,_,W,W,k2.fl,Aw<|by rw[bi];exact am o5.1 ac,?_⟩;exact p _ _ ⟨B,ls++[y],Q,S,W,{k2 with fd:=(AH dL).trans k2.fd,fl:=by rw[AD,sU];rfl,bt:=k2.bt.new nr,vl:=k2.vl.up<|EF I (λb h=>h) λb o _ h=>ae (λb o _ Y h=>(AH Y).trans h) _ _ h,nl:=A7.mpr ⟨k2.nl,GE,λa ha b hb z=>yl<|by rw[io]at hb;rw[<-hb,<-z];exact ha⟩,dj:=λl hl=>(rc.mp hl).elim (k2.dj l) λh=>by rw[io.mp h];exact yk,sm:=by simp;lia}⟩
  .exact BP (hv.trans<|decide_eq_false L)<|p _ _ ⟨B,ls,Q,S,W,k2⟩
 subst es;have l3:=k3.sm;have lu:=k3.vl.length;rw[bi]at lu;refine⟨_,W,_,W,N,wX,W,Ab.of k3.fl,d8 (am (d0 _ _) l3) ac,λpS ss H4 hS s4 fS pm so=>?_⟩;have b4:=k3.bt.trans (.of s4);have Yh:=pm.length_eq;have n':=k3.lw;have fin:∀mo:Bool,[V.str "table",.ref d,.ref pS,.bl mo].length<=sizeLine/\OZ H4 (.tup [.str "table",.ref d,.ref pS,.bl mo]) En.rt:=λmo=>⟨AX (show 4<=1000 by decide),.mk λpT H5 hT s5 fT=>by
  have b5:=b4.trans<|.of s5;have at_:∀{b:Addr}{o:HO},Hs b=ν->H5 b=Z o->ov G Hs H5 b=Z o:=λh1 Y=>by rw[Cc I h1];exact Y
  refine q _ (.tab n_ wY ss mo) H5 b5 ?_ ?_ ⟨am (im (bm Yh) _) l3,k3.sl⟩ (by have:=k3.wt;simp only[Ak.wt];lia)<|im k3.de 1
  .simp only[Ak.pt];rw[Ak.AV];exact .tup (BO.of<|at_ (nq _<|b4.EJ _ hT) fT)<|.cons (.str _)<|.cons (.Ah (.inl<|at_ wO<|s5 _ _<|s4 _ _ k3.fd) (BI n')<|by rw[CJ n'];exact k3.vl.up<|EF I (λb h=>h) λb o _ h=>s5 _ _<|s4 _ _<|Ci _ _<|Ci _ _ h)<|.cons (.lst (.inl<|at_ (nq _<|k3.bt.EJ _ hS)<|s5 _ _ fS)<|IB ss)<|.cons (.bl mo) .nil
  .simp only[Ak.ok];exact⟨n'.trans lu,k3.nk,k3.nb,d8 (am (ci _ _) l3) ac,⟨am (am (bm Yh) (am (d0 _ _) l3)) ac,pm.nodup_iff.mpr k3.nl,so⟩,λl hl=>k3.dj l (pm.mem_iff.mp hl),k3.ok⟩⟩
 refine⟨_,W,t0,_,3,_,W,W,ht.iy hd b4,Aa (j:=3) W,_,W,?_⟩;cases m with
 |true=>exact As ⟨_,W,W,W,fin _⟩|false=>exact AQ ⟨_,W,W,_,W,W,W,fin _⟩
theorem fK(F:Fq K "_law_kin" 43 f fd)(T:Txt mg)(Qx:Df P w K mg base "_law_mix" lqb 1 EO)(NB:Df P w K mg base "_law_copy" lqj 6 (Ds 6))(Yi:Df P w K mg base "_law_asks" lqe 10 (Gn 10))(Vs:Df P w K mg base "_law_kin_table" lqh 2 Sb)(bA:Df P w K mg base "_law_kin" lqa n (UH n)):Ar P w K mg base CA (n+1) f fd lqa (UH (n+1)):=by
 refine F.oq ["_law_asks_here","_law_cells","_law_names_here","_law_cell_here","_law_way","_law_inner","_law_told"] λH En _ EW G_ hr h=>?_;obtain⟨G,v0,a,l,nm,cs,ys,rfl,sG,hw,A,cT,Yj,za,hl,lc,nl,hn,q⟩:=h;refine⟨_,(AA (Ad 3 EW AG)<|AA (AO (AK (FY<|Bn.Dd hr) (pv 1) (Ap BL)<|AL _) (AE<|Ad 3 EW<|Cm (KW x8 C3 C2 FV (pv 1)<|AU AG)<|FX (pv 1) AG ⟨W,W,W,W⟩) AJ)<|AA (Ad 4 EW<|AN Aq (BM Qx hr<|AB (pv 3)<|AU AG) AG)<|AA (AO (AK Aj (pv 4) AG<|AL _) (AE<|AI<|Ao<|AU AS) AJ)<|AA (AO (PW.pt<|pw_or (AK Aj (pv 4) AG<|AL _)<|pw_or1<|AK Aj (Ay K 0) AS<|AL _) (AE<|AI<|BM Yi hr<|AB (pv 1)<|AB AG<|AU<|pv 2) AJ)<|AA (AO (AK Aj (Ay K 0) AS<|AL _) (AA (AO (PW.pt<|pw_and (Ag<|JQ K T (Ay K 0) T.list BR)<|pw_and1<|AK FT (pv 4) AG<|AL _) (AE<|AI<|Ao<|AB AS<|AB (cmp [] [] (BQ<|DP (r:=WQ K) Jm (Ay K 0) Eu<|Dp<|pv 4) λ_ _ _ _=>(Ao<|AB AS<|AU<|pv 0))<|AU<|BD Aj (AN Aq (pv 4) AG) AG<|AL _) AJ)<|AE<|AI<|Ao<|AB AS<|AU<|BM NB hr<|AU<|Ay K 0) AJ)<|AA (AO (AK Aj (Ay K 0) AS<|AL _) (AA (DF (i:=5) (fv:=["_law_cells","_law_names_here"]) (fs:=[1,2]) W (.of<|by rfl) EW W (Y3 W) (BQ<|Ay K 0) (λ_ _ _ _=>HY) λC s0 H0 fp=>(BM bA hr<|AB (pv 0)<|AB (pv 1)<|AU<|pv 2))<|AA (AO (AK Aj (pv 4) AG<|AL _) (AE<|AI<|Ao<|AB AS<|AB (DP (r:=WQ K) Jm (pv 5) Eu<|Dp<|Oq KP AG)<|AU Bp) AJ)<|AA (AO (AK Aj (pv 4) AG<|AL _) (AE<|AI<|Ao<|AB AS<|AB (AN TX (pv 5)<|Ap<|AU<|Ao<|AU AS)<|AU<|Ay K 0) AJ)<|AE<|AI<|Ao<|AB AS<|AB (pv 5)<|AU<|BD KQ (Ay K 0) (BD Aj (pv 4) AG<|AL _)<|AL _) AJ)<|AA (Ad 6 EW<|Ai (De W) W T.dict CC<|AU<|cmp lqt [1,2,0] (BQ<|Am (CT W) W T.sorted CP<|AU<|Ay K 0) λ_ _ _ _=>(Ao<|AB (pv 0)<|AU<|BM bA hr<|AB (Qi G_ (Ay K 3)<|pv 0)<|AB (pv 1)<|AU<|pv 2))<|AE<|AI<|BM Vs hr<|AB (pv 0)<|AB (pv 6)<|AB (pv 4)<|AB (pv 3)<|AU<|pv 2),?_⟩;have Yw:H l≠none:=by rw[hl];exact λz=>nomatch z
 have B:AF G H:=sG.trans Ci;refine b_ ?_;refine Dg (t:=Er _ _ _) (fun σ' H1=>∃(c:Int)(I:List Int),σ'=[Z v0,Z<|.ref l,Z<|.ref nm,Z<|.int c,ν,ν,ν]/\Bt (Z l) H H1/\H1 l=Z (.lst<|I.map V.int)/\I.length<=cs.length) (fun σ' H1 ⟨c,I,es,M,J,Y⟩=>?_) (λkey=>?_);rotate_left
 .refine⟨_,W,j5 _,λpe NA=>⟨l,pe,_,W,W,Ab.of<|(AF.new NA) _ _ hl,Ab.of AD,_,W,?_⟩⟩;have se:=AF.new (o:=.lst []) NA;generalize upd H pe (.lst [])=H1 at se⊢;have J:=se _ _ hl;cases cs with
  |nil=>exact AQ (key _ _ ⟨1009,[],W,.of se,J,bv _⟩)|cons c cs=>
   refine As ?_;exact .inl ⟨_,W,.inl ⟨W,_,Ab.of J⟩,l,_,0,0,.int c,W,W,J,ac,ac,(HS<|by unfold Uc;rw[if_pos ac,if_pos GE];rfl).1,W,key _ _ ⟨c,cs,W,(Bt.of se).put,AD,GE⟩⟩
 subst es;have MB:=hn.but M nl;have gB:∀{Hi:Hp},Bt (Z l) H1 Hi->AF G Hi:=λS=>sG.trans<|(M.trans S).CU.trans Ci;have gJ:AF G H1:=gB .refl;have d1:∀b,H1 b=ν->H b=none:=λb h=>M.EJ b h;have wp:=a.Iv;have zp:=Ak.size_pos a;have oA:=Ak.DV a;refine⟨_,W,c,0,W,ac,λr0 _ _=>⟨_,_,W,W,BE,?_⟩⟩;have m9:=Dl r0 (n:=9) ac;generalize r0 % 9=wy at m9⊢;dsimp only[BY];obtain⟨t0,w0,rest,Yk,kinds⟩:=hw.ak;have L:=Yk.up gJ;refine⟨_,W,W,_,W,Bh (λ_=>⟨BZ,.mk λp H2 hp s2 f2=>?_⟩) λ_=>?_⟩
 .exact q _ .any I H2 (M.trans<|.of s2) (s2 _ _ J) Y (.tup (BO.of<|by rw[Cc B<|d1 _ hp];exact f2)<|.cons (.str _) .nil) trivial trivial (by simp only[Ak.wt];lia)<|by simp only[Ak.deep];exact lM oA
 have fresh:Gn 10 [.ref l,.int 2,.ref nm] H1 En.rt E0:=⟨l,2,nm,I,ys,W,ac,J,am Y lc,nl,MB,λv b g H' jN qt qu vv ok sz dp fw=>q v b g H' (M.trans jN) qt (am qu Y) (vv.up<|Me B d1 λb o _ h=>h) ok (Ak.IS _ (bv _) fw) (by have:=Ak.XP b ok;lia) z_⟩;refine⟨_,W,W,_,W,Bh (λ_=>As ⟨_,W,_,W,fresh⟩) λ_=>⟨_,W,t0,_,0,_,W,W,L,C',W,_,W,?_⟩⟩;rcases kinds with _|⟨d,u,G_⟩|⟨xs,m,u,G_⟩|⟨ks,xs,ls,m,u,z,G_,hz⟩
 .exact Ep ⟨_,W,_,W,fresh⟩
 .refine C_<|Gz L ?_;simp only[Ak.ok]at A;have qv:=G_.up gJ;have dd:=A.1.Zt;have jw:(Ak.AY d).wt=d.size:=by simp only[Ak.wt]
  have jz:(Ak.AY d).size=1:=by simp only[Ak.size]
  have jd:(Ak.AY d).deep=1:=by simp only[Ak.deep]
  have cp:Ds 6 [u] H1 (λx H2=>[V.str "just",x].length<=sizeLine/\OZ H2 (.tup [.str "just",x]) En.rt) E0:=⟨u,d,W,qv,Pt.Hv d A.2.1<|am A.2.2 ac,am dd ac,λw H2 s2 vw=>⟨Ac,.mk λp E hp s3 f3=>q _ (.AY d) I E (M.trans<|.of<|s2.trans s3) (s3 _ _<|s2 _ _ J) Y (.tup (BO.of<|by rw[Cc B<|d1 _<|s2.free hp];exact f3)<|.cons (.str _)<|.cons (vw.up<|Me B d1 λb o _ h=>s3 _ _ h) .nil) (by simp only[Ak.ok];exact A) trivial z_<|ci _ _⟩⟩;refine⟨_,W,t0,_,1,u,W,W,L,CL,_,"list",d.TL,W,W,qv.ty,_,W,?_⟩;cases G_ with
  |int i=>exact AQ (AQ ⟨_,W,t0,_,1,_,W,W,L,CL,cp⟩)|str i=>exact AQ (AQ ⟨_,W,t0,_,1,_,W,W,L,CL,cp⟩)|bl b=>simp[Pt.doc]at A|AZ=>simp[Pt.doc]at A|tup _ _=>simp[Pt.doc]at A|Ah _ _ _=>exact AQ (AQ ⟨_,W,t0,_,1,_,W,W,L,CL,cp⟩)|@lst a1 vs ts ha ra=>
   refine As ⟨_,W,_,_,W,W,_,W,Bh (λ_=>?_) λ_=>⟨_,W,t0,_,1,_,W,W,L,CL,cp⟩⟩;have lv:=ra.length;have lt:=Pt.CQ ts;simp only[Pt.size]at A jw;obtain⟨k,ek⟩:∃k,JV vs ν (Z wy)=vs.take k:=⟨_,by unfold JV;rw[show HT.MJ vs.length 0 ν=0 from W,abA]⟩;refine⟨_,W,t0,_,1,_,W,W,L,CL,_,W,_,W,a1,vs,W,.inl<|ha.up<|gJ _,.mk λpS H2 hS s2 f2=>⟨pS,W,⟨_,Ab.of f2⟩,?_⟩⟩;rw[ek]at f2;have qw:=ra.TZ k;have qx:=qw.length;have oB:=gJ.trans s2;have tl:(ts.take k).length<=ts.length:=by rw[B8];exact U4 _ _
   refine OP G ν (vs.take k).length (λi=>(vs.take k).getD i .AZ) (λi N E=>N=((ts.take k).take i).map λt=>(Ak.AY t).pt) (am (bm qx)<|am tl<|am (am lt<|am (d0 _ _) A.2.2) ac) (λD ζ=>rfl) (λi N E D ws S ζ iv=>iv) (λl' z=>nomatch z) (λi N E U s iv=>⟨_,_,Ab.of<|s.same _ _ f2,zc U⟩) (λi N E v H' U s iv yd=>?_) (λN E s iv=>⟨_,Ab.of<|s.same _ _ f2,bv _⟩) (λi N E R U S iv lu kk=>?_) λD E ws N ζ S d3 lu vl iv=>?_
   .obtain⟨e,yd⟩:=yd;refine⟨?_,e⟩;have:=yd _<|Ab.of<|s.same _ _ f2;rw[b7,this];rfl
   .obtain⟨x,O⟩:=BH (vs.take k) i U;obtain⟨tx,ao,vx⟩:=qw.get O;rw[show(vs.take k).getD i .AZ=x by rw[b7,O];rfl];refine⟨_,W,Ac,.mk λp X hp Q f4=>kk _ (Ak.AY tx).pt X (.of Q) (.tup (BO.of<|by rw[Cc (oB.trans S.same) hp];exact f4)<|.cons (.str _)<|.cons (vx.up Ky) .nil) ?_⟩;rw[u8,ao,sU,<-iv];rfl
   .rw[qx,xL]at iv;subst iv;refine⟨_,W,_,_,W,W,BE,W,?_⟩;generalize decide (V.int (wy % 2)=V.int 0)=mo;refine⟨Ld,.mk λp X hp Q f4=>?_⟩;have s34:=S.same.trans Q;have ww:=am (Ak.OS<|(aak k ts).map Ak.AY)<|bm Ak.QR;refine q _ (.row ((ts.take k).map Ak.AY) mo) I X (M.trans<|.of<|s2.trans s34) (s34 _ _<|s2 _ _ J) Y (.tup (BO.of<|by rw[Cc B<|d1 _<|(s2.trans S.same).free hp];exact f4)<|.cons (.str _)<|.cons (.lst (.inl<|by rw[Cc B<|d1 _<|s2.free ζ];exact Q _ _ d3) ?_)<|.cons (.bl mo) .nil) (Ak.Kt λx O=>?_) (Ak.EH λx O=>?_) (by show 1+Ak.Bv ((ts.take k).map Ak.AY)+16*I.length<=(Ak.AY<|.lst ts).wt+3*(Ak.AY<|.lst ts).size+16*cs.length;lia) (am (im (Ak.GU (as:=(ts.take k).map Ak.AY) (n:=1) λx O=>by obtain⟨t,_,rfl⟩:=u7.mp O;simp[Ak.deep]) 1)<|show 1+1<=(Ak.AY<|.lst ts).deep+2 by rw[jd];decide)
    .rw[Ak.AV,u5];exact vl.up<|EF B (λb h=>d1 _<|s2.free h) λb o _ h=>Q _ _ h
    .obtain⟨t,ht,rfl⟩:=u7.mp O;have ht:=Wp ht;have zt:=Pt.Ae ht;have dt:=A.2.1;simp only[Pt.doc]at dt;simp only[Ak.ok];refine⟨?_,Pt.Af dt t ht,am (am zt<|d0 _ _) A.2.2⟩;rcases A.1 with h|h|h
     .cases h;cases ht
     .exact .one<|h t ht
    .obtain⟨t,_,rfl⟩:=u7.mp O;trivial
 .refine C_<|JP L<|Gz L ?_;simp only[Ak.ok]at A;simp only[Ak.F']at cT;simp only[Ak.wt,Ak.size,Ak.deep]at q Yj za;have cU:=Ak.CQ xs;obtain⟨a1,vs,rfl,ha,ra⟩:=G_.Fd;have la:=ra.length;rw[Ak.AV,bi]at la;refine⟨_,W,t0,_,1,_,W,W,L,CL,a1,W,⟨_,.inl<|ha.up<|gJ _⟩,?_⟩;refine OP G (Z l) xs.length (λi=>vs.getD i .AZ) (λi N E=>∃(as:List Ak)(g:List Int),N=as.map Ak.pt/\E l=Z (.lst<|g.map V.int)/\g.length<=I.length/\Ak.Js as/\Ak.Fv as/\Ak.Bv as+16*g.length<=Ak.Bv (xs.take i)+3*Ak.AM (xs.take i)+16*I.length/\Ak.AW as<=Ak.AW xs+2) (am (am cU<|am (d0 _ _) za) ac) (λD ζ=>⟨[],I,W,(AH λz=>by rw[<-z,J]at ζ;cases ζ).trans J,bv _,trivial,trivial,by simp[Ak.Bv],by simp[Ak.AW]⟩) (λi N E D ws S ζ y=>by obtain⟨as,g,h1,h2,h3⟩:=y;exact⟨as,g,h1,(AH λz=>by rw[<-z,J]at ζ;cases ζ).trans h2,h3⟩) (λl' z=>by cases z;rw[J];exact λz=>nomatch z) (λi N E U s iv=>⟨_,_,.inl<|ha.up<|gB s _,zc<|bn U<|bm la.symm⟩) (λi N E v H' U s iv yd=>?_) (λN E s iv=>⟨_,.inl<|ha.up<|gB s _,bm la⟩) (λi N E R U S ⟨as,g,e1,e2,e3,e4,e5,e6,e7⟩ lu k=>?_) (λD E ws N ζ S d3 lu vl ⟨as,g,e1,e2,e3,e4,e5,e6,e7⟩=>?_)
  .obtain⟨e,yd⟩:=yd;refine⟨?_,e⟩;have:=yd _<|.inl<|ha.up<|gB s _;rw[b7,this];rfl
  .obtain⟨x,O⟩:=BH vs i<|bn U<|bm la.symm;obtain⟨px,g1,vx⟩:=ra.get O;obtain⟨ax,Ob⟩:=BH xs i U;rw[Ak.AV,b6,Ob]at g1;cases g1;have m1:=zf Ob;have dd:=Ak.Au m1;have zz:=Ak.Ae m1;rw[show vs.getD i .AZ=x by rw[b7,O];rfl];refine⟨_,W,_,W,_,W,G,x,ax,l,nm,g,ys,W,sG.trans (M.trans S).CU,vx,Ak.Ct A _ m1,Ak.Fi cT _ m1,z_,am (am zz<|d0 _ _) za,e2,am (am e3 Y) lc,nl,MB.but S nl,λv b Vx X fO Yg a' v4 o4 Q w4 p4=>k v b.pt X fO v4 ⟨as++[b],Vx,by rw[sU,e1];rfl,Yg,am a' e3,Ak.Co e4<|Ak.FE o4,Ak.Gy e5 Q,?_,Ak.Gx e7<|am p4<|gl dd 2⟩⟩;rw[Ak.Bx,u8,Ob,Ak.Bx,Ak.A_];simp only[Ak.Bv,Ak.AM,aeh];lia
  .rw[xL]at e6;subst e1;rw[bi]at lu;have lw:=vl.length;rw[bi]at lw;have b03:=M.trans S;have wZ:=d1 _ ζ;have Ye:AR (K:=K) (ov G H E) ws (as.map Ak.pt):=vl.up (EF B d1 λb o _ h=>h);have fin:∀(bs:List Ak)(zs:List V)(mo:Bool)(pR p:Addr)(X H5:Hp),AF E X->H pR=ν->X pR=Z (.lst zs)->AR (K:=K) (ov G H X) zs (bs.map Ak.pt)->X p=ν->AF X H5->H5 p=Z (.tup [.str "row",.ref pR,.bl mo])->(∀x∈bs,x∈as∨x=.any)->Ak.Bv bs<=Ak.Bv as+1->En.rt (.ref p) H5:=λbs zs mo pR p X H5 Q nR fR vR np s5 fp sub wb=>by
    have s45:=Q.trans s5;have we:H p=none:=b03.EJ _<|Q.free np;have de:=Ak.GU (as:=bs) (n:=Ak.AW xs+2) λx O=>by
     rcases sub x O with h|rfl
     .exact am (Ak.Au h) e7
     .exact d0 1 _
    refine q _ (.row bs mo) g H5 (b03.trans<|.of s45) (s45 _ _ e2) (am e3 Y) (.tup (BO.of<|by rw[Cc B we];exact fp)<|.cons (.str _)<|.cons (.lst (.inl<|by rw[Cc B nR];exact s5 _ _ fR) ?_)<|.cons (.bl mo) .nil) (Ak.Kt λx O=>?_) (Ak.EH λx O=>?_) (by simp only[Ak.wt];lia)<|im de 1
    .rw[Ak.AV];exact vR.up<|EF B (λb h=>h) λb o _ h=>s5 _ _ h
    .rcases sub x O with h|rfl
     .exact Ak.Ct e4 x h
     .trivial
    .rcases sub x O with h|rfl
     .exact Ak.Cq e5 x h
     .trivial
   dsimp only;refine⟨_,W,W,_,W,Bh (λ_=>?_) λ_=>⟨_,W,W,_,W,Bh (λ_=>?_) λ_=>?_⟩⟩
   .refine⟨_,W,_,W,_,W,D,ws,W,Ab.of d3,.mk λpR X hR Q fR=>⟨Ld,.mk λp H5 hp s5 fp=>?_⟩⟩;obtain⟨kc,oC⟩:=Mf ws;rw[oC]at fR;refine fin (as.take kc) _ true pR p X H5 Q (b03.EJ _ hR) fR ?_ hp s5 fp (λx O=>.inl<|Wp O) (by have:=Ak.OS<|aak kc as;exact lM this);rw[aei];exact(Ye.up<|EF B (λb h=>h) λb o _ h=>Q _ _ h).TZ kc
   .refine⟨_,W,BZ,.mk λpa Ha wg sa fa=>⟨BZ,.mk λpq Hq hq sq fq=>?_⟩⟩;have oE:=sa.trans sq;refine⟨D,pq,ws,[.ref pa],W,W,.inl<|oE _ _ d3,.inl fq,AX<|by simp only[x9];lia,.mk λpR X hR Q fR=>?_⟩;have s34:=oE.trans Q;refine⟨_,W,t0,_,2,_,W,W,(Yk.up<|gB S).up s34,at2,Ld,.mk λp H5 hp s5 fp=>?_⟩;refine fin (as++[.any]) _ m pR p X H5 s34 (b03.EJ _<|oE.free hR) fR ?_ hp s5 fp (λx O=>(rc.mp O).imp id io.mp) (by rw[Ak.Bx];simp only[Ak.Bv,Ak.wt];exact im (am (gl (bv _) _) ac) _);rw[sU];exact(Ye.up<|EF B (λb h=>h) λb o _ h=>s34 _ _ h).snoc<|.tup (BO.of<|by rw[Cc B<|b03.EJ _ wg];exact Q _ _<|sq _ _ fa)<|.cons (.str _) .nil
   .exact⟨_,W,_,W,t0,_,2,_,W,W,Yk.up<|gB S,at2,_,W,W,W,Ld,.mk λp H5 hp s5 fp=>fin as ws _ D p E H5 (AF.refl _) wZ d3 Ye hp s5 fp (λx O=>.inl O)<|V7 _⟩
 .refine C_<|JP L<|JP L ?_;have wh:=A;simp only[Ak.ok]at A;simp only[Ak.F']at cT;simp only[Ak.wt,Ak.size,Ak.deep]at q Yj za;have cU:=Ak.CQ xs;obtain⟨o1,o2,o3,o4,o5,o6,o7⟩:=A;obtain⟨a1,kvs,rfl,ha,Jg,ra⟩:=G_.Nd;have kl:=EU Jg;refine⟨_,W,t0,_,1,_,W,W,L,CL,a1,kvs,ks,W,ha.up<|gJ _,Jg,d8 (am (bm kl)<|gt o4) ac,λps ss H2 gK s2 fP pm st=>?_⟩;have b12:Bt (Z l) H1 H2:=.of s2;have Oa:=s2 _ _ J;obtain⟨kh,Yb⟩:=Gj o1 (ss:=ss) λk hk=>pm.mem_iff.mp hk;have cQ:=Cu o1 o2 pm Yb;have Zn:kh.length=ss.length:=by have:=congrArg sw Yb;simpa using this.symm
  have Yh:=pm.length_eq;have eZ:ss.Nodup:=pm.nodup_iff.mpr o2;have Jj:l≠ps:=λz=>by rw[<-z,J]at gK;cases gK
  have fQ:∀{E:Hp},Bt (Z l) H2 E->E ps=Z (.lst<|ss.map V.str):=λS=>S.keep _ _ (λz=>Jj<|ze z) fP;have li:∀i,i<ss.length->(ss.map V.str)[i]?=Z (.str<|ss.getD i ""):=λi U=>by
   rw[b6,zc U,b7,zc U];rfl
  refine⟨ps,W,⟨_,Ab.of fP⟩,?_⟩;refine Qf G (Z l) ss.length (λi=>.str<|ss.getD i "") ss (λi N E=>∃(as:List Ak)(g:List Int),N=as.map Ak.pt/\E l=Z (.lst<|g.map V.int)/\g.length<=I.length/\Ak.Js as/\Ak.Fv as/\Ak.Bv as+16*g.length<=Ak.Bv (kh.take i)+3*Ak.AM (kh.take i)+16*I.length/\Ak.AW as<=Ak.AW xs+2) (am (am (bm Yh)<|gt o4) ac) (λD ζ=>⟨[],I,W,(AH λz=>by rw[<-z,Oa]at ζ;cases ζ).trans Oa,bv _,trivial,trivial,by simp[Ak.Bv],by simp[Ak.AW]⟩) (λi N E D e S ζ y=>by obtain⟨as,g,h1,h2,h3⟩:=y;exact⟨as,g,h1,(AH λz=>by rw[<-z,Oa]at ζ;cases ζ).trans h2,h3⟩) (λl' z=>by cases z;rw[Oa];exact λz=>nomatch z) (λi N E U s iv=>⟨_,_,Ab.of<|fQ s,li i U⟩) (λi N E v H' U s iv yd=>?_) (λN E s iv=>⟨_,Ab.of<|fQ s,by rw[bi];exact bv _⟩) (λi N E R U S ⟨as,g,e1,e2,e3,e4,e5,e6,e7⟩ lu k=>?_) λD E ts ws N ζ S d3 lt lu tt vl ⟨as,g,e1,e2,e3,e4,e5,e6,e7⟩=>?_
  .obtain⟨e,yd⟩:=yd;have:=yd _<|Ab.of<|fQ s;rw[li i U]at this;exact⟨(ze this).symm,e⟩
  .obtain⟨cV,hk⟩:=BH ss i U;obtain⟨ax,Ob⟩:=BH kh i<|bn U<|bm Zn.symm;have en:ss.getD i ""=cV:=by rw[b7,hk];rfl
   rw[en]at k⊢;have ki:lk ks xs cV=Z ax:=by
    have:=congrArg (λz=>z[i]?) Yb;simp only[b6,hk,Ob]at this;exact ze this
   rcases Val.Dr Jg ra cV with⟨x,tx,k1,k2,vx⟩|⟨_,k2⟩
   .have oF:tx=ax.pt:=by
     rw[show Pt.look ks (Ak.EZ xs) cV=(lk ks xs cV).map Ak.pt by rw[Ak.AV];exact Ea Ak.pt,ki]at k2;exact(ze k2).symm
    subst oF;have m1:=cQ.mem_iff.mp<|zf Ob;have dd:=Ak.Au m1;have zz:=Ak.Ae m1;have bb:=b12.trans S;refine⟨_,W,_,W,t0,_,1,_,W,W,Yk.up<|gB bb,CL,_,W,a1,x,W,.inl ⟨kvs,e9 cV,ha.up<|gB bb _,W,k1.symm⟩,_,W,_,W,G,x,ax,l,nm,g,ys,W,sG.trans (M.trans bb).CU,vx,Ak.Ct o7 _ m1,Ak.Fi cT.2 _ m1,z_,am (am zz<|d0 _ _) za,e2,am (am e3 Y) lc,nl,MB.but bb nl,λv b Vx X fO Yg a' v4 o4 Q w4 p4=>⟨Ac,λpt oG=>k v b.pt X pt fO v4 ⟨as++[b],Vx,by rw[sU,e1];rfl,Yg,am a' e3,Ak.Co e4<|Ak.FE o4,Ak.Gy e5 Q,?_,Ak.Gx e7<|am p4<|gl dd 2⟩ oG⟩⟩;rw[Ak.Bx,u8,Ob,Ak.Bx,Ak.A_];simp only[Ak.Bv,Ak.AM,aeh];lia
   .rw[show Pt.look ks (Ak.EZ xs) cV=(lk ks xs cV).map Ak.pt by rw[Ak.AV];exact Ea Ak.pt,ki]at k2;cases k2
  .rw[<-Zn,xL,EE cQ,Ak.LA cQ]at e6;subst e1;rw[bi]at lu;have lw:=vl.length;rw[bi]at lw;have el:ss.length=ws.length:=lu.symm.trans lw.symm;refine⟨D,ts,Bo ss ws,W,Ab.of d3,by rw[DO el];exact lt,λj k v e=>?_,by rw[DO el];exact am (am (bm Yh)<|gt o4) ac,λp5 Lg=>?_⟩
   .obtain⟨x,h1,h2,h3⟩:=Nh e;obtain⟨t,ht⟩:=BH ts j (by have:=Cd h1;exact bn this<|bm lt.symm);obtain⟨g2,g3⟩:=tt j t v ht h2;refine⟨t,ht,?_⟩;rw[g2,h3,b7,h1];rfl
   rw[Ek el eZ];have b13:=b12.trans S;have b03:=M.trans b13;have Q:=AF.new (o:=.dK<|Bo ss ws) Lg;have f5:upd E p5 (.dK<|Bo ss ws) p5=Z (.dK<|Bo ss ws):=AD;have gL:H p5=none:=b03.EJ p5 Lg;have oH:l≠p5:=EK e2 Lg;have qy:AR (K:=K) (ov G H<|CU p5<|upd E p5<|.dK<|Bo ss ws) ws (as.map Ak.pt):=vl.up (EF B (λb h=>d1 _<|s2.free h) λb o _ h=>by rw[Bj<|EK h Lg];exact Q _ _ h);generalize upd E p5 (.dK<|Bo ss ws)=X at Q f5 qy⊢;have b14:Bt (Z l) H1 X:=b13.trans<|.of Q;have b04:=M.trans b14;refine⟨_,W,_,W,_,W,_,W,_,W,G,H,.ref t0,p5,wy,c,nm,ys,ks,ss,ls,xs,ws,as,m,W,hw.up<|gB b14,B,λb h=>b04.EJ b h,gL,f5,el,qy,?_,am (gl (bm Yh) _) cT.1,e5,MB.but b14 nl,Ak.AW xs+2,d0 1 _,e7,λv b H' jN vb ob sb wb db=>?_⟩
   .simp only[Ak.ok];exact⟨lu.symm,eZ,λk hk=>o3 k<|pm.mem_iff.mp hk,d8 (bm Yh) o4,o5,λl hl z=>o6 l hl<|pm.mem_iff.mp z,e4⟩
   .exact q v b g H' ⟨λb e n h=>jN.keep b e (λz=>by rw[<-ze z,gL]at h;cases h)<|b04.keep b e n h,λb h=>b04.EJ b<|jN.EJ b h⟩ (jN.keep _ _ (λz=>oH (ze z).symm)<|Q _ _ e2) (am e3 Y) vb ob sb z_ db
theorem UK{f:Addr}{fd:AT}(F:Fq K "_law_kin" 43 f fd)(T:Txt mg)(b:Binds K fd lqa [])(m:mg "_law_kin"=Z (.ref f))(e:Df P w K mg base "_law_mix" lqb 1 EO)(c:Df P w K mg base "_law_copy" lqj 6 (Ds 6))(d:Df P w K mg base "_law_asks" lqe 10 (Gn 10))(a:Df P w K mg base "_law_kin_table" lqh 2 Sb):∀n:Nat,Ar P w K mg base CA n f fd lqa (UH n)
 |0=>GZ (λvs H Q E h=>by obtain⟨_,_,_,_,_,_,_,_,_,_,_,_,g,_⟩:=h;lia)
 |n+1=>fK F T e c d a (Df.mk' F b m (UK F T b m e c d a n))
theorem fW(F:Fq K "_law_fit" 44 f fd)(T:Txt mg)(Qx:Df P w K mg base "_law_mix" lqb 1 EO)(Qu:Df P w K mg base "_law_doc" lqd 2 Gm)(NB:Df P w K mg base "_law_copy" lqj 30 (Ds 30))(Vt:Df P w K mg base "_law_fit" lqa n (Lb n)):Ar P w K mg base CA (n+1) f fd lqa (Lb (n+1)):=by
 refine F.oq ["_law_asks_here","_law_cells","_law_names_here","_law_cell_here","_law_some","_law_doc_here","_law_k","_law_name"] λH En _ EW G_ hr h=>?_;obtain⟨w,a0,l,nm,cs,ys,rfl,hw,BN,bB,hd,Vu,za,hl,lc,nl,hn,q⟩:=h;refine⟨_,(AA (DD (i:=3) EW W (O9 W) AG)<|AA (AO (AK (FY<|Bn.Dd hr) (pv 1) (Ap BL)<|AL _) (AE<|DD (i:=3) EW W (O9 W)<|Cm (KW x8 C3 C2 FV (pv 1)<|AU AG)<|FX (pv 1) AG ⟨W,W,W,W⟩) AJ)<|AA (AO (AK Aj (Ay K 0) AS<|AL _) (AE<|AI<|BM Qu hr<|AB (pv 3)<|AB AG<|AU<|pv 2) AJ)<|AA (AO (AK Aj (Ay K 0) AS<|AL _) (AE<|AI<|BM NB hr<|AU<|Ay K 0) AJ)<|AA (DF (i:=4) (fv:=["_law_cell_here","_law_names_here"]) (fs:=[3,2]) W (.of<|by rfl) EW W (Y3 W) (BU W T.range<|AU<|AN Aq (BM Qx hr<|AB (pv 3)<|AU AG) AG) (λ_ _ _ _=>HY) λC s0 H0 fp=>(BM Qu hr<|AB (pv 1)<|AB (AN Bm AG<|pv 0)<|AU<|pv 2))<|AA (AO (AK Aj (Ay K 0) AS<|AL _) (AE<|AI<|AN RV (cmp ["_law_cells","_law_names_here"] [1,2] (BQ<|Ay K 0) λ_ _ _ _=>(BM Vt hr<|AB (pv 0)<|AB (pv 1)<|AU<|pv 2))<|AN WX (pv 4)<|Ai ME W T.int bh<|AU<|Ay K 0) AJ)<|AA (Ad 5 EW<|Ai (De W) W T.dict CC<|AU<|cmp lqt [1,2,0] (BQ<|Am (CT W) W T.sorted CP<|AU<|Ay K 0) λ_ _ _ _=>(Ao<|AB (pv 0)<|AU<|BM Vt hr<|AB (Qi G_ (Ay K 3)<|pv 0)<|AB (pv 1)<|AU<|pv 2))<|AA (Sg (BU W T.range<|AU<|AN FR (CH K T<|pv 4)<|Ai ME W T.int bh<|AU<|Ay K 0) (Dn 6 EW)<|AA (Ad 7 EW<|FN K (pv 2)<|AN Aq (AN Bm (BM Qx hr<|AB (pv 3)<|AU AG)<|pv 6) AG)<|AE<|AO (PW.pt<|pw_and (Gf<|Ef G_ (pv 7)<|Ay K 0)<|pw_and1<|AK (Ew:DA _ _ (WT K true)) (pv 7) (Ay K 0) W) (AE<|Ex G_ (pv 5) (pv 7) (FN K (pv 4)<|pv 6) W) AJ)<|AE<|AI<|pv 5),?_⟩;have Yw:H l≠none:=by rw[hl];exact λz=>nomatch z
 refine b_ ?_;refine Dg (t:=Er _ _ _) (fun σ' H1=>∃(c:Int)(NC:List Int),σ'=[Z w,Z<|.ref l,Z<|.ref nm,Z<|.int c,ν,ν,ν,ν]/\Bt (Z l) H H1/\H1 l=Z (.lst<|NC.map V.int)/\NC.length<=cs.length) (fun σ' H1 ⟨c,NC,es,L,S,gM⟩=>?_) (λkey=>?_);rotate_left
 .refine⟨_,W,j5 _,λpe NA=>⟨l,pe,_,W,W,Ab.of<|(AF.new NA) _ _ hl,Ab.of AD,_,W,?_⟩⟩;have se:=AF.new (o:=.lst []) NA;generalize upd H pe (.lst [])=H1 at se⊢;have S:=se _ _ hl;cases cs with
  |nil=>exact AQ (key _ _ ⟨1001,[],W,.of se,S,bv _⟩)|cons c cs=>
   refine As ?_;exact .inl ⟨_,W,.inl ⟨W,_,Ab.of S⟩,l,_,0,0,.int c,W,W,S,ac,ac,(HS<|by unfold Uc;rw[if_pos ac,if_pos GE];rfl).1,W,key _ _ ⟨c,cs,W,(Bt.of se).put,AD,GE⟩⟩
 subst es;have MB:=hn.but L nl;have wk:=hw.up L.CU;obtain⟨t0,w0,rest,Yk,kinds⟩:=wk.ak;have Y:=Yk.up Ci;rcases kinds with _|⟨d,u,RF⟩|⟨xs,m,u,RF⟩|⟨ks,xs,ls,m,u,z,RF,hz⟩
 .refine Gz Y ?_;refine⟨_,W,_,W,c,3,nm,ys,W,ac,MB,λv t X s2 sm=>q v t NC X (L.trans<|.of s2) (s2 _ _ S) gM (sm.val.up<|Bi (λb h=>L.EJ b h) λb e _ h=>h)<|Pt.GS sm.doc sm.size sm.deep ac ac<|d0 _ _⟩
 .refine JP Y ?_;refine Gz Y ?_;simp only[Ak.Az]at BN;simp only[Ak.dp]at hd Vu;simp only[Ak.wt]at za;simp only[Ak.BF]at bB;refine⟨_,W,t0,_,1,u,W,W,Y,CL,u,d,W,RF.up Ci,Pt.Hv d BN<|za,Vu,λv X s2 v2=>q v d NC X (L.trans<|.of s2) (s2 _ _ S) gM (v2.up<|Bi (λb h=>L.EJ b h) λb e _ h=>h) ⟨BN,am (Pt.Fy d BN) ?_,am bB ac,ci _ 2⟩⟩;exact am za ac
 .skip
  refine JP Y ?_;refine JP Y ?_;refine⟨_,W,c,3,W,ac,λr3 _ _=>⟨_,_,W,W,BE,?_⟩⟩;have m3:=Dl r3 (n:=3) ac;obtain⟨k3,jO⟩:∃k:Nat,r3 % 3=(k:Int):=⟨(r3 % 3).toNat,(x5 m3.1).symm⟩;have I:k3<3:=G9.mp<|jO▸m3.2;rw[jO];refine⟨k3,W,F6 ac<|wT _,zi (F5.mpr<|gt I) ac,?_⟩;refine EI ν k3 (λi=>.int<|0+(i:Int)) (λi E X=>Ru E) (am (gt I) ac) (λD hD u h=>nomatch h) (λi E X D ws B hD iv=>iv) (λl' z=>nomatch z) (λi E X M s iv=>M) (λi E X v H' M s iv y=>⟨y.2,y.1⟩) (λE X s iv=>bv _) (λi E X R M B iv lu k=>?_) λD4 X O gN jP oI d4 kr jQ oJ=>?_
  .have e0:(4:Int)+(0+(i:Int))=((4+i:Nat):Int):=by lia
   refine⟨_,W,_,W,_,_,W,W,_,W,c,4+i,nm,ys,by rw[e0];rfl,am (im (am (gt M)<|gt I) _) ac,MB.up B.same,λv t g s3 sm=>k v t g (.of s3) sm.val ?_⟩;intro x hx;rcases rc.mp hx with hx|hx
   .exact iv x hx
   .rw[io.mp hx];exact⟨sm.doc,sm.size,sm.deep⟩
  have U:=oI.same;have jR:Bt (Z l) H X:=L.trans<|.of U;have Oa:=U _ _ S;have Yd:=Y.up U;have cS:=MB.up U;have ku:=jQ.length;refine Gz Yd ?_;simp only[Ak.Az]at BN;simp only[Ak.dp]at hd Vu;simp only[Ak.wt]at za;simp only[Ak.BF]at bB;have cU:=Ak.CQ xs;have qz:=Ak.B_ xs;cases RF with
  |@lst a vs _ jS ra=>
   have la:=ra.length;rw[Ak.AV,bi]at la;have Yx:Rd H1 a (.lst vs):=jS.up<|Ci _;have al:a≠l:=λz=>by
    subst z;rcases jS with h|⟨o,h⟩<;>(unfold CU at h;rw[if_pos W]at h;cases h)
   have fX:∀{g:Hp},Bt (Z l) H1 g->Rd g a (.lst vs):=λB=>Yx.up λo e=>B.keep a o (λz=>al (ze z).symm) e;have b12:Bt (Z l) H1 X:=.of U;refine⟨_,W,t0,_,1,_,W,W,Yd,CL,a,W,⟨_,.inl<|fX b12⟩,?_⟩;refine EI (Z l) xs.length (λi=>vs.getD i .AZ) (λi E g=>∃A:List Int,g l=Z (.lst<|A.map V.int)/\A.length<=NC.length/\∀u∈E,u.Bd 910 12<|Ak.FO xs+2) (am cU<|am (am qz<|am (d0 _ _) za) ac) (λD hD=>⟨NC,(AH λz=>by rw[<-z,Oa]at hD;cases hD).trans Oa,bv _,λu h=>nomatch h⟩) (λi E g D ws B hD ⟨A,h1,h2⟩=>⟨A,(AH λz=>by rw[<-z,Oa]at hD;cases hD).trans h1,h2⟩) (λl' z=>by cases z;rw[Oa];exact λz=>nomatch z) (λi E g M s iv=>⟨_,_,.inl<|fX<|b12.trans s,zc<|bn M<|bm la.symm⟩) (λi E g v H' M s iv y=>?_) (λE g s iv=>⟨_,.inl<|fX<|b12.trans s,bm la⟩) (λi E g R M B ⟨A,e2,e3,e4⟩ lu k=>?_) λD g ws E hD B d2 lu vl ⟨A,e2,e3,e4⟩=>?_
   .obtain⟨e,y⟩:=y;refine⟨?_,e⟩;have:=y _<|.inl<|fX<|b12.trans s;rw[b7,this];rfl
   .obtain⟨x,hx⟩:∃x,vs[i]?=Z x:=⟨_,zc<|bn M<|bm la.symm⟩;obtain⟨px,g1,vx⟩:=ra.get hx;obtain⟨ax,Ob⟩:∃ax,xs[i]?=Z ax:=⟨_,zc M⟩;rw[Ak.AV,b6,Ob]at g1;cases g1;have m1:=zf Ob;have d1:=Ak.CV m1;have z1:=Ak.FG m1;have ev:vs.getD i .AZ=x:=by rw[b7,hx];rfl
    rw[ev];refine⟨_,W,_,W,_,W,x,ax,l,nm,A,ys,W,vx.up (b12.trans B).CU,Ak.BB BN _ m1,Ak.Eo bB _ m1,z_,am (am d1<|d0 _ _) Vu,am (am z1<|d0 _ _) za,e2,am (am e3 gM) lc,nl,cS.but B nl,λv t Vx H4 fO Yg a' v4 oK=>k v t H4 fO v4 ⟨Vx,Yg,am a' e3,Pt.OR e4<|oK.up (bv _) (bv _)<|gl d1 2⟩⟩
   .have d43:=B.keep D4 _ (λz=>by rw[<-ze z,S]at jP;cases jP) d4;have t3:=Yk.qG<|(Bt.of U).trans B;refine⟨_,W,_,W,t0,_,2,_,W,W,t3,at2,.inr ⟨m,W,?_⟩⟩;have lv:=vl.length;have zF:=Pt.CQ E;have fin:∀(kk:Nat),kk<=1->Oo iC (fun σ H Q=>Q (V.ref D) H) (fun σ H Q=>iE (V.ref D4) (V.int (kk:Int)) H Q) [] g En.rt:=λkk q_=>by
     refine⟨D4,(kk:Int),O,W,W,d43,F6 ac<|wT _,zi (F5.mpr q_) ac,AX<|by rw[A8];have:O.length*kk<=O.length*1:=M5 _ q_;lia,λp hp=>?_⟩;rw[A8];obtain⟨wr,ur,rp,ru⟩:∃(wr:List V)(ur:List Pt),(r4 kk O).flatten=wr/\(wr=O/\ur=gN∨wr=[]/\ur=[]):=by
      have:kk=0∨kk=1:=by lia
      rcases this with rfl|rfl
      .exact⟨[],[],GE,.inr ⟨W,W⟩⟩
      .exact⟨O,gN,GE,.inl ⟨W,W⟩⟩
     rw[rp];have x4:Ru ur:=by
      rcases ru with⟨rfl,rfl⟩|⟨rfl,rfl⟩
      .exact oJ
      .exact λu h=>nomatch h
     have lr:wr.length<=2:=by
      rcases ru with⟨rfl,rfl⟩|⟨rfl,rfl⟩
      .rw[ku,kr];exact Nat.le_of_lt_succ I
      .exact j5 _
     have v4:AR (nw H1 X) wr ur:=by
      rcases ru with⟨rfl,rfl⟩|⟨rfl,rfl⟩
      .exact jQ
      .exact .nil
     obtain⟨H4,eH,sp,fp⟩:=Dj (o:=.lst wr) hp;rw[eH];clear eH;refine⟨D,p,_,_,W,W,sp _ _ d2,fp,AX z_,λp2 bC=>?_⟩;have fY:=sp.trans<|AF.new (o:=.lst<|ws++wr) bC;have oM:=jR.EJ p2<|B.EJ p2<|sp.free bC;refine q _ (.lst<|E++ur) A _ ((jR.trans B).trans<|.of fY) (fY _ _ e2) (am e3 gM) (.lst (.inl<|by rw[BC oM,AD])<|(vl.up<|Bi (λb h=>jR.EJ b h) λb e h1 h2=>fY _ _ h2).append<|v4.up<|Bi (λb h=>L.EJ b h) λb e h1 h2=>fY _ _<|B.keep b e (λz=>by rw[<-ze z,S]at h1;cases h1) h2) ((Pt.Bd.kR (D:=Ak.FO xs+2) ?_<|Pt.YO e4 λu G_=>Pt.GS (x4 u G_).1 (x4 u G_).2.1 (x4 u G_).2.2 ac ac<|d0 _ _).up (bv _) (bv _)<|by simp only[Ak.dp];lia);have:=v4.length;rw[q5];lia
    cases m with
    |true=>exact fin 1 ac|false=>exact fin 0 ac
 .skip
  refine JP Y ?_;refine JP Y ?_;refine⟨_,W,c,3,W,ac,λr3 _ _=>⟨_,_,W,W,BE,?_⟩⟩;have m3:=Dl r3 (n:=3) ac;obtain⟨k3,jO⟩:∃k:Nat,r3 % 3=(k:Int):=⟨(r3 % 3).toNat,(x5 m3.1).symm⟩;have I:k3<3:=G9.mp<|jO▸m3.2;rw[jO];refine⟨k3,W,F6 ac<|wT _,zi (F5.mpr<|gt I) ac,?_⟩;refine EI ν k3 (λi=>.int<|0+(i:Int)) (λi E X=>Ru E) (am (gt I) ac) (λD hD u h=>nomatch h) (λi E X D ws B hD iv=>iv) (λl' z=>nomatch z) (λi E X M s iv=>M) (λi E X v H' M s iv y=>⟨y.2,y.1⟩) (λE X s iv=>bv _) (λi E X R M B iv lu k=>?_) λD4 X O gN jP oI d4 kr jQ oJ=>?_
  .have e0:(4:Int)+(0+(i:Int))=((4+i:Nat):Int):=by lia
   refine⟨_,W,_,W,_,_,W,W,_,W,c,4+i,nm,ys,by rw[e0];rfl,am (im (am (gt M)<|gt I) _) ac,MB.up B.same,λv t g s3 sm=>k v t g (.of s3) sm.val ?_⟩;intro x hx;rcases rc.mp hx with hx|hx
   .exact iv x hx
   .rw[io.mp hx];exact⟨sm.doc,sm.size,sm.deep⟩
  have U:=oI.same;have jR:Bt (Z l) H X:=L.trans<|.of U;have Oa:=U _ _ S;have Yd:=Y.up U;have cS:=MB.up U;have ku:=jQ.length;refine JP Yd ?_;simp only[Ak.Az]at BN;simp only[Ak.dp]at hd Vu;simp only[Ak.wt]at za;simp only[Ak.BF]at bB;have cU:=Ak.CQ xs;have qz:=Ak.B_ xs;obtain⟨o1,o2,o3,o4,o5,o6,o7⟩:=BN;cases RF with
  |@Ah a kvs _ _ jS Jg ra=>
   cases hz with
   |@lst lz Ye _ rA rl=>
    have kl:kvs.length=ks.length:=by have:=congrArg sw Jg;simpa using this
    have Yx:Rd H1 a (.dK kvs):=jS.up<|Ci _;have al:a≠l:=λz=>by
     subst z;rcases jS with h|⟨o,h⟩<;>(unfold CU at h;rw[if_pos W]at h;cases h)
    have fX:∀{g:Hp},Bt (Z l) H1 g->Rd g a (.dK kvs):=λB=>Yx.up λo e=>B.keep a o (λz=>al (ze z).symm) e;have e_:Rd H1 lz (.lst Ye):=rA.up<|Ci _;have zl:lz≠l:=λz=>by
     subst z;rcases rA with h|⟨o,h⟩<;>(unfold CU at h;rw[if_pos W]at h;cases h)
    have zG:∀{g:Hp},Bt (Z l) H1 g->Rd g lz (.lst Ye):=λB=>e_.up λo e=>B.keep lz o (λz=>zl (ze z).symm) e;have oN:∀{g:Hp},Bt (Z l) H1 g->BO K g t0 [.str "table",.ref a,.ref lz,.bl m]:=λB=>Yk.qG B;have jD:Ye=ls.map V.str:=by
     have gen:∀{G:Hp}{vs:List V}{ls:List Str},AR G vs (ls.map Pt.str)->vs=ls.map V.str:=by
      intro G vs ls
      induction ls generalizing vs with
      |nil=>intro h;cases h;rfl|cons x r ih=>
       intro h;cases h with
       |cons h1 h2=>cases h1;rw[jp,ih h2]
     exact gen rl
    have b12:Bt (Z l) H1 X:=.of U;refine⟨_,W,t0,_,1,_,W,W,Yd,CL,a,kvs,ks,W,fX b12,Jg,d8 (am (bm kl) bB.1) ac,λps ss rB gK jT fP pm st=>?_⟩;have bb:Bt (Z l) H1 rB:=b12.trans<|.of jT;have bD:=jT _ _ Oa;obtain⟨as,Yb⟩:=Gj o1 (ss:=ss) λk hk=>pm.mem_iff.mp hk;have cQ:=Cu o1 o2 pm Yb;have Zn:as.length=ss.length:=by have:=congrArg sw Yb;simpa using this.symm
    have Yh:=pm.length_eq;have eZ:ss.Nodup:=pm.nodup_iff.mpr o2;refine⟨ps,W,⟨_,Ab.of fP⟩,?_⟩;have Jj:l≠ps:=λz=>by rw[<-z,Oa]at gK;cases gK
    have fQ:∀{g:Hp},Bt (Z l) rB g->g ps=Z (.lst<|ss.map V.str):=λB=>B.keep _ _ (λz=>Jj<|ze z) fP;have li:∀i,i<ss.length->(ss.map V.str)[i]?=Z (.str<|ss.getD i ""):=λi M=>by
     rw[b6,zc M,b7,zc M];rfl
    refine Mz (Z l) ss.length (λi=>.str<|ss.getD i "") ss (λi E g=>∃A:List Int,g l=Z (.lst<|A.map V.int)/\A.length<=NC.length/\∀u∈E,u.Bd 910 12<|Ak.FO xs+2) (am (am (bm Yh) bB.1) ac) (λD hD=>⟨NC,(AH λz=>by rw[<-z,bD]at hD;cases hD).trans bD,bv _,λu h=>nomatch h⟩) (λi E g D e B hD ⟨A,h1,h2⟩=>⟨A,(AH λz=>by rw[<-z,bD]at hD;cases hD).trans h1,h2⟩) (λl' z=>by cases z;rw[bD];exact λz=>nomatch z) (λi E g M s iv=>⟨_,_,Ab.of<|fQ s,li i M⟩) (λi E g v H' M s iv y=>?_) (λE g s iv=>⟨_,Ab.of<|fQ s,by rw[bi];exact bv _⟩) (λi E g R M B ⟨A,e2,e3,e4⟩ lu k=>?_) λD g ts ws E hD B d2 lt lu tt vl ⟨A,e2,e3,e4⟩=>?_
    .obtain⟨e,y⟩:=y;have:=y _<|Ab.of<|fQ s;rw[li i M]at this;exact⟨(ze this).symm,e⟩
    .have hk:ss[i]?=Z (ss.getD i ""):=by rw[b7,zc M];rfl
     obtain⟨ax,Ob⟩:∃ax,as[i]?=Z ax:=⟨_,zc<|bn M<|bm Zn.symm⟩;have ki:lk ks xs (ss.getD i "")=Z ax:=by
      have:=congrArg (λz=>z[i]?) Yb;simp only[b6,hk,Ob]at this;exact ze this
     have rC:lk ks (Ak.EZ xs) (ss.getD i "")=Z ax.pt:=by rw[Ak.AV,Ea,ki];rfl
     rcases Val.Dr Jg ra (ss.getD i "")with⟨x,tx,k1,k2,vx⟩|⟨_,k2⟩
     .have oF:tx=ax.pt:=ze<|k2.symm.trans rC;subst oF;have m1:=cQ.mem_iff.mp<|zf Ob;have d1:=Ak.CV m1;have z1:=Ak.FG m1;refine⟨_,W,_,W,t0,_,1,_,W,W,oN<|bb.trans B,CL,_,W,a,x,W,.inl ⟨kvs,e9<|ss.getD i "",fX<|bb.trans B,W,k1.symm⟩,_,W,_,W,x,ax,l,nm,A,ys,W,vx.up (bb.trans B).CU,Ak.BB o7 _ m1,Ak.Eo bB.2 _ m1,z_,am (am d1<|d0 _ _) Vu,am (am z1<|d0 _ _) za,e2,am (am e3 gM) lc,nl,(cS.up jT).but B nl,λv t Vx H4 fO Yg a' v4 oK=>⟨Ac,λpt oG=>k v t H4 pt fO v4 ⟨Vx,Yg,am a' e3,Pt.OR e4<|oK.up (bv _) (bv _)<|gl d1 2⟩ oG⟩⟩
     .exact absurd (k2.symm.trans rC) λz=>nomatch z
    .have lw:=vl.length;have el:ss.length=ws.length:=lu.symm.trans lw.symm;refine⟨D,ts,Bo ss ws,W,Ab.of d2,by rw[DO el];exact lt,λj k v e=>?_,by rw[DO el];exact am (am (bm Yh) bB.1) ac,λp5 Lg=>?_⟩
     .obtain⟨x,h1,h2,h3⟩:=Nh e;obtain⟨t,ht⟩:∃t,ts[j]?=Z t:=⟨_,zc<|by have:=(zd h1).1;exact bn this<|bm lt.symm⟩;obtain⟨g2,g3⟩:=tt j t v ht h2;refine⟨t,ht,?_⟩;rw[g2,h3,b7,h1];rfl
     rw[Ek el eZ];have s4:=AF.new (o:=.dK<|Bo ss ws) Lg;have f5:upd g p5 (.dK<|Bo ss ws) p5=Z (.dK<|Bo ss ws):=AD;have b13:=bb.trans B;have b23:Bt (Z l) X g:=(Bt.of jT).trans B;have d43:=b23.keep D4 _ (λz=>by rw[<-ze z,S]at jP;cases jP) d4;have oO:AR (nw H g) ws E:=vl.up (Bi (λb h=>jR.EJ b<|jT.free h) λb e _ h=>h);have oP:AR (nw H g) O gN:=jQ.up (Bi (λb h=>L.EJ b h) λb e h1 h2=>b23.keep b e (λz=>by rw[<-ze z,S]at h1;cases h1) h2);have gL:H p5=none:=L.EJ p5<|b13.EJ p5 Lg;generalize upd g p5 (.dK<|Bo ss ws)=H4 at s4 f5⊢;have ζ:Bt (Z l) H1 H4:=b13.trans<|.of s4;have Yg:=s4 _ _ e2;refine⟨_,W,D4,_,W,.inl<|Ab.of<|s4 _ _ d43,_,W,t0,_,3,_,W,W,oN ζ,Aa (j:=3) W,.inr ⟨m,W,_,_,W,W,.inl ⟨Int.lt_of_lt_of_le ac<|wT _,zi (F5.mpr<|am (bm ku)<|am (bm kr)<|gt I) ac⟩,?_⟩⟩;obtain⟨N,hN,rD⟩:∃N:Nat,((O.length:Nat):Int)*(if m=true then 1 else 0)=(N:Int)/\N<=O.length:=by
      cases m with
      |true=>exact⟨O.length,GE,bv _⟩|false=>exact⟨0,GE,j5 _⟩
     rw[hN];refine⟨N,W,F6 ac (wT _),zi (F5.mpr (am rD (am (bm ku) (am (bm kr) (gt I))))) ac,Du (lo:=0) (n:=N) (λi σ Hi=>∃(Qy:List Str)(Yl:List V)(Vy:List Pt)(o6 o7:Option V),σ=[Z (.ref t0),Z (.ref l),Z (.ref nm),Z (.int c),Z (.ref D4),Z (.ref p5),o6,o7]/\(∀b,b≠p5->Hi b=H4 b)/\Hi p5=Z (.dK (Bo Qy Yl))/\Qy.length=Yl.length/\Qy.Nodup/\AR (nw H g) Yl Vy/\ (∀k∈Qy,Uz k=true)/\(∀u∈Vy,u.Bd 910 12 (Ak.FO xs+2))/\Qy.length<=ks.length+i)
      ⟨ss,ws,E,ν,ν,W,λb _=>rfl,f5,el,eZ,oO,λk hk=>o3 k (pm.mem_iff.mp hk),e4,lM (bm Yh)⟩ ?_ ?_⟩
     .rintro i σ Hi _ go M ⟨Qy,Yl,Vy,o6,o7,rfl,J,kv,l2,kx,Yv,ky,k_,ln2⟩;have ne5:∀{b:Addr}{o:HO},H1 b=Z o->b≠p5:=λh z=>by rw[z,b13.EJ p5 Lg]at h;cases h
      have wm:Hi nm=Z (.lst<|ys.map V.str):=by
       rw[J nm<|ne5 MB.at_];exact(MB.but ζ nl).at_
      have zH:=oN ζ;have rE:BO K Hi t0 [.str "table",.ref a,.ref lz,.bl m]:=Yk.imp (λr=>r.up λo e=>by
       have hb:t0≠l:=λz=>by unfold CU at e;rw[if_pos z]at e;cases e
       rw[Bj hb]at e;rw[J t0 (ne5 e)];exact ζ.keep _ _ (λz=>hb (ze z).symm) e) id
      have wq:Rd Hi a (.dK kvs):=by
       rcases Yx with h|⟨o,h⟩
       .exact .inl<|by rw[J a<|ne5 h];exact ζ.keep a _ (λz=>al (ze z).symm) h
       .exact .inr ⟨o,by rw[J a<|ne5 h];exact ζ.keep a _ (λz=>al (ze z).symm) h⟩
      have wu:Rd Hi lz (.lst Ye):=by
       rcases e_ with h|⟨o,h⟩
       .exact .inl<|by rw[J lz<|ne5 h];exact ζ.keep lz _ (λz=>zl (ze z).symm) h
       .exact .inr ⟨o,by rw[J lz<|ne5 h];exact ζ.keep lz _ (λz=>zl (ze z).symm) h⟩
      have wx:D4≠p5:=λz=>by rw[z,Lg]at d43;cases d43
      have wz:Hi D4=Z (.lst O):=by rw[J D4 wx];exact s4 _ _ d43
      refine⟨_,W,_,W,c,6,W,ac,λr6 _ _=>⟨_,W,_,_,W,W,_,_,W,W,BE,?_⟩⟩;have m4:=Dl (r6+(0+(i:Int))) (n:=4) ac;obtain⟨jj,UJ⟩:∃j:Nat,(r6+(0+(i:Int))) % 4=(j:Int):=⟨((r6+(0+(i:Int))) % 4).toNat,(x5 m4.1).symm⟩;obtain⟨y,hy⟩:∃y,ys[jj]?=Z y:=⟨_,zc<|by rw[hn.len];exact G9.mp<|UJ▸m4.2⟩;refine⟨nm,_,_,_,W,W,Ab.of wm,by rw[UJ];exact Aa<|by rw[b6,hy];rfl,?_⟩;dsimp only[BY];have keep:∃(Ym:List Str)(fZ:List V)(jU:List Pt)(o6 o7:Option V),[Z<|V.ref t0,Z<|V.ref l,Z<|V.ref nm,Z<|V.int c,Z<|V.ref D4,Z<|V.ref p5,Z<|V.int<|0+(i:Int),Z<|V.str y]=[Z<|.ref t0,Z<|.ref l,Z<|.ref nm,Z<|.int c,Z<|.ref D4,Z<|.ref p5,o6,o7]/\(∀b,b≠p5->Hi b=H4 b)/\Hi p5=Z (.dK<|Bo Ym fZ)/\Ym.length=fZ.length/\Ym.Nodup/\AR (nw H g) fZ jU/\ (∀k∈Ym,Uz k=true)/\(∀u∈jU,u.Bd 910 12<|Ak.FO xs+2)/\Ym.length<=ks.length+(i+1):=⟨Qy,Yl,Vy,_,_,W,J,kv,l2,kx,Yv,ky,k_,am ln2<|im (ci _ _) _⟩;refine⟨_,W,_,W,t0,_,1,_,W,W,rE,CL,a,_,W,.inl ⟨kvs,e9 y,wq,W,W⟩,_,W,?_⟩;refine Bh (λ_=>?_) (λ_=>AQ<|go.n keep);refine⟨_,W,_,W,t0,_,2,_,W,W,rE,at2,lz,_,W,.inl<|.inl wu,W,?_,_,W,?_⟩
      .rw[jD,G8];exact re.mpr λ_ _=>rfl
      refine Bh (λ_=>?_) (λ_=>go.n keep);obtain⟨v,hv⟩:∃v,O[i]?=Z v:=⟨_,zc<|bn M rD⟩;obtain⟨t,ht,vt⟩:=oP.get hv;have oQ:=oJ t<|zf ht;have e0:(0:Int)+(i:Int)=(i:Int):=aaT _;obtain⟨n_,qr,gO,g1,g2,g3,g4,g5,g6,g7,g8,_⟩:=TV (y:=y) vt l2 kx Yv;refine⟨_,W,_,W,D4,_,_,_,W,W,Ab.of wz,by rw[e0];exact Aa hv,_,W,_,W,p5,_,W,.inl ⟨_,e9 y,kv,W,Aw<|by rw[DO l2];lia,W⟩,go.n ⟨n_,qr,gO,_,_,W,λb hb=>(AH hb).trans<|J b hb,by rw[AD,g1],g2,g3,g4,λk hk=>?_,λu G_=>?_,z_⟩⟩
      .rcases g5 k hk with h|rfl
       .exact ky k h
       .exact hn.nb _<|zf hy
      .rcases g6 u G_ with h|rfl
       .exact k_ u h
       .exact Pt.GS oQ.1 oQ.2.1 oQ.2.2 ac ac<|d0 _ _
     .rintro σ Hi ⟨Qy,Yl,Vy,o6,o7,rfl,J,kv,l2,kx,Yv,ky,k_,ln2⟩;have oH:l≠p5:=λz=>by rw[<-z,e2]at Lg;cases Lg
      have gF:=Yv.length;refine⟨_,W,q _ (.Ah Qy Vy) A _ ⟨λb e n h=>?_,λb h=>?_⟩ (by rw[J l oH];exact Yg) (am e3 gM) (.Ah (.inl<|by rw[BC gL];exact kv) (BI l2) ?_)<|(Pt.Bd.nN (D:=Ak.FO xs+2) (l2.trans gF) kx ky z_ z_ z_ k_).up (bv _) (bv _)<|by simp only[Ak.dp];lia⟩
      .rw[J b λz=>by rw[z,gL]at h;cases h];exact(L.trans ζ).keep b e n h
      .by_cases hb:b=p5
       .rw[hb];exact gL
       .rw[J b hb]at h;exact(L.trans ζ).EJ b h
      .rw[CJ l2];exact Yv.up (Bi (λb h=>h) λb e h1 h2=>by
        have hb:b≠p5:=λz=>by rw[z,Lg]at h2;cases h2
        rw[J b hb];exact s4 _ _ h2)
theorem UL{f:Addr}{fd:AT}(F:Fq K "_law_fit" 44 f fd)(T:Txt mg)(b:Binds K fd lqa [])(m:mg "_law_fit"=Z (.ref f))(c:Df P w K mg base "_law_mix" lqb 1 EO)(d:Df P w K mg base "_law_doc" lqd 2 Gm)(a:Df P w K mg base "_law_copy" lqj 30 (Ds 30)):∀n:Nat,Ar P w K mg base CA n f fd lqa (Lb n)
 |0=>GZ (λvs H Q E h=>by obtain⟨_,_,_,_,_,_,_,_,_,_,e,_⟩:=h;lia)
 |n+1=>fW F T c d a (Df.mk' F b m (UL F T b m c d a n))
theorem bF(F:Fq K "_law_bent" 45 f fd)(T:Txt mg)(Qx:Df P w K mg base "_law_mix" lqb 1 EO)(Qu:Df P w K mg base "_law_doc" lqd 2 Gm)(UM:Df P w K mg base "_law_bent" lqc n (KI n)):Ar P w K mg base CA (n+1) f fd lqc (KI (n+1)):=by
 refine F.oq ["_law_doc_here","_law_cell_here","_law_deep","_law_names_here","_law_inner","_law_way","_law_bent_here","_law_step"] λH En _ Y s hr h=>?_;obtain⟨G,v,t,c,d,nm,ys,g,B,D,rfl,J,hv,gP,hg,h12,h5,hn,hB,rF,q⟩:=h;refine⟨_,(AA (Ad 4 Y<|Ap BL)<|AA (AO (Ag<|Ya CK T (pv 0) T.list BR) (AE<|Ad 4 Y<|Ai (EY W) W T.list BR<|AU<|Ki W T.range<|AU<|CH K T<|pv 0) AJ)<|AA (AO (Ag<|Ya CK T (pv 0) T.dict CC) (AE<|Ad 4 Y<|Am (CT W) W T.sorted CP<|AU<|pv 0) AJ)<|AA (Ad 5 Y<|BM Qx hr<|AB (pv 1)<|AU<|pv 2)<|AA (AO (PW.pt<|pw_or (AK (Wi<|Bn.Dd hr) (pv 4) (Ap BL)<|AL _)<|pw_or (AK Ot (pv 2) AG<|AL _)<|pw_or1<|AK Aj (AN Aq (pv 5) AG) AG<|AL _) (AA (AO (PW.pt<|pw_and (Ag<|Ya CK T (pv 0) T.list BR)<|pw_and1<|AK FT (AN Aq (AN Bb (pv 5) AG) AG) AG<|AL _) (AE<|AI<|FN K (Ap<|AB (AN TX (pv 0)<|Ap<|AU<|BM Qu hr<|AB (pv 1)<|AB AG<|AU<|pv 3)<|AU<|DP (r:=WQ K) Jm (pv 0) Eu<|Dp<|Oq KP AG)<|AN Aq (AN Bb (pv 5) AG) AG) AJ)<|AA (AO (PW.pt<|pw_and (Ag<|Ya CK T (pv 0) T.dict CC)<|pw_and1<|AK FT (AN Aq (AN Bb (pv 5) AG) AG) AG<|AL _) (AA (Ad 6 Y<|Ai ED W T.dict CC<|AU<|pv 0)<|AA (Ex s (pv 6) (FN K (pv 3)<|AN Aq (AN Bb (pv 5) AG) AG) (BM Qu hr<|AB (pv 1)<|AB AG<|AU<|pv 3) W)<|AA (AO (PW.pt<|pw_and (AK Aj (AN Aq (AN Bb (pv 5) AG) AG) AG<|AL _)<|pw_and1<|AK (FY<|Bn.Dd hr) (pv 4) (Ap BL)<|AL _) (AE<|Bq<|Cm (KW x8 C3 C2 FV (pv 6)<|AU<|FN K (pv 4)<|AN Aq (AN Bb (pv 5) AG)<|CH K T<|pv 4)<|FX (pv 6) (FN K (pv 4)<|AN Aq (AN Bb (pv 5) AG)<|CH K T<|pv 4) ⟨W,W,W,W⟩) AJ)<|AE<|AI<|pv 6) AJ)<|AE<|AI<|BM Qu hr<|AB (pv 1)<|AB AG<|AU<|pv 3) AJ)<|AA (Ad 6 Y<|Cm (Ai Br W T.list BR<|AU<|pv 0)<|Ai (Kz W) W T.list BR<|AU<|pv 0)<|AA (AO (Ag<|Ya CK T (pv 0) T.dict CC) (AE<|Ad 6 Y<|Ai ED W T.dict CC<|AU<|pv 0) AJ)<|AA (Ad 7 Y<|FN K (pv 4)<|AN Aq (AN Bb (pv 5) AG)<|CH K T<|pv 4)<|AA (Rg (RI (BM UM hr<|AB (Cm (FN K (pv 0)<|pv 7)<|Qi s (pv 0)<|pv 7)<|AB (pv 1)<|AB (AN Bm (pv 2) AG)<|AU<|pv 3)<|RH (pv 6) (pv 7) set_list)<|Ex s (pv 6) (pv 7) (BM UM hr<|AB (Cm (FN K (pv 0)<|pv 7)<|Qi s (pv 0)<|pv 7)<|AB (pv 1)<|AB (AN Bm (pv 2) AG)<|AU<|pv 3) W)<|AE<|AI<|pv 6),?_⟩;have oR:=hv.up J;have ζ:=gP.doc;have dq:∀{H5:Hp},AF H H5->∀v t' H6,AF H5 H6->Small H5 H6 v t'->En.rt v H6:=λ{H5} s5 v t' H6 Q sm=>q v t' H6 (s5.trans Q) (sm.val.up<|Me J (λb h=>s5.free h) λb o _ h=>h)<|Pt.GS sm.doc sm.size sm.deep (d0 _ _) (lM<|am ac hB)<|d0 _ _;refine⟨j5 _,λp0 kU=>?_⟩;obtain⟨H0,eH,s0,f0⟩:=Dj (o:=.lst []) kU;rw[eH];clear eH;dsimp only[BY];refine Dg (t:=Er _ _ _) (fun σ' H1=>∃(pi:Addr)(l:List V),σ'=[Z v,Z<|.int c,Z<|.int (d:Int),Z<|.ref nm,Z<|.ref pi,ν,ν,ν]/\AF H H1/\H1 pi=Z (.lst l)/\((∀ks xs,t≠.Ah ks xs)->Ma t l)) (fun σ' H1 ⟨oS,l0,es,s1,f1,gG⟩=>?_) (λR=>?_);rotate_left
 .refine⟨_,W,_,"list",t.TL,W,W,((oR.up s0).mh ζ),_,W,?_⟩;cases hv with
  |int i=>exact AQ (R _ _ ⟨p0,[],W,s0,f0,λ_=>rfl⟩)|str i=>exact AQ (R _ _ ⟨p0,[],W,s0,f0,λ_=>rfl⟩)|bl b=>simp[Pt.doc]at ζ|AZ=>simp[Pt.doc]at ζ|tup _ _=>simp[Pt.doc]at ζ|Ah _ _ _=>exact AQ (R _ _ ⟨p0,[],W,s0,f0,λz=>absurd W (z _ _)⟩)|@lst a L ts ha X=>
   have lv:=X.length;obtain⟨E,eE,zl,_⟩:=gP.lst;refine As ⟨_,W,a,_,W,.inl<|.inl<|(ha.up<|J _).up<|s0 _,_,W,λr hr=>⟨r,L.length,W,AD,am (bm lv)<|am (am zl hg) ac,λpl Zm=>?_⟩⟩;have sr:=(s0.trans<|AF.new (o:=.bW 0 (L.length:Int)) hr).trans<|AF.new (o:=.lst<|(j9 L.length).map λ(i:Nat)=>V.int (i:Int)) Zm;exact R _ _ ⟨pl,_,W,sr,AD,λ_=>by rw[lv];exact W⟩
 subst es;refine Dg (t:=Er _ _ _) (fun σ' H1=>∃(pi:Addr)(l:List V),σ'=[Z v,Z<|.int c,Z<|.int (d:Int),Z<|.ref nm,Z<|.ref pi,ν,ν,ν]/\AF H H1/\H1 pi=Z (.lst l)/\Ma t l) (fun σ' H1 ⟨pi,l,es,s1,f1,st⟩=>?_) (λR=>?_);rotate_left
 .refine⟨_,W,_,"dict",t.TL,W,W,((oR.up s1).mh ζ),_,W,?_⟩;cases hv with
  |int i=>exact AQ (R _ _ ⟨oS,l0,W,s1,f1,gG λ_ _ z=>nomatch z⟩)
  |str i=>exact AQ (R _ _ ⟨oS,l0,W,s1,f1,gG λ_ _ z=>nomatch z⟩)
  |bl b=>simp[Pt.doc]at ζ|AZ=>simp[Pt.doc]at ζ|tup _ _=>simp[Pt.doc]at ζ|lst _ _=>exact AQ (R _ _ ⟨oS,l0,W,s1,f1,gG λ_ _ z=>nomatch z⟩)
  |@Ah a m ks ts ha M X=>
   have kl:m.length=ks.length:=by have:=congrArg sw M;simpa using this
   simp only[Pt.doc]at ζ;refine As ⟨_,W,a,m,ks,W,(ha.up<|J _).up<|s1 _,M,d8 (bm kl) ζ.2.2.2.1,λps ss H2 gK s2 fP pm so=>?_⟩;exact R _ _ ⟨ps,_,W,s1.trans s2,fP,⟨ss,W,pm,so⟩⟩
 subst es;clear f0 s0 gG;refine⟨_,W,_,W,c,d,W,am h5 ac,λwy _ _=>?_⟩;dsimp only[BY];have MB:=hn.up s1;refine Rf (t:=Er _ _ _) (λH5=>AF H1 H5/\l≠[]/\d<=4) (λH5 ⟨s5,jV,d4⟩=>?_) (λoU=>?_);rotate_left
 .refine Zv (λH5=>AF H1 H5) (λH5 s5=>?_) (λfe=>?_);rotate_left
  .refine⟨_,W,j5 _,λpe NA=>⟨pi,pe,_,W,W,Ab.of<|(AF.new NA) _ _ f1,Ab.of AD,_,W,?_⟩⟩;have se:=AF.new (o:=.lst []) NA;refine Bh (λ_=>As<|fe _ se) (λh1=>?_);have jV:l≠[]:=λz=>by rw[z]at h1;cases h1
   refine⟨_,W,_,_,W,W,_,W,Bh (λ_=>As<|fe _ se) λh2=>?_⟩;have h2:=of_decide_eq_false h2;exact⟨_,W,_,_,W,W,BE,W,_,W,Bh (λ_=>fe _ se) λ_=>oU _ ⟨se,jV,z_⟩⟩
  .have p:=s1.trans s5;have N:=MB.up s5;refine⟨_,W,_,"list",t.TL,W,W,((oR.up p).mh ζ),_,W,?_⟩;cases hv with
   |int i=>exact AQ (AQ ⟨_,W,_,"dict","int",W,W,.int i,_,W,AQ (AQ ⟨_,W,_,W,c,6,nm,ys,W,ac,N,dq p⟩)⟩)|str i=>exact AQ (AQ ⟨_,W,_,"dict","str",W,W,.str i,_,W,AQ (AQ ⟨_,W,_,W,c,6,nm,ys,W,ac,N,dq p⟩)⟩)|bl b=>simp[Pt.doc]at ζ|AZ=>simp[Pt.doc]at ζ|tup _ _=>simp[Pt.doc]at ζ|@lst a L ts ha X=>
    have Yn:=(ha.up<|J _).up<|p _;have lv:=X.length;obtain⟨E,rfl,zl,zm⟩:=gP.lst;refine As ⟨_,W,_,_,W,W,By,_,_,W,W,BE,_,_,W,W,_,W,Bh (λh2=>?_) λ_=>?_⟩
    .have h2:=of_decide_eq_true h2;have m3:=Dl (wy/3) (n:=3) ac;refine⟨_,W,_,W,_,W,c,6,nm,ys,W,ac,N,λv1 t1 H6 Q sm=>⟨BZ,λp1 eY=>?_⟩⟩;have rG:upd H6 p1 (.lst [v1]) p1=Z (.lst [v1]):=AD;have s7:=AF.new (o:=.lst [v1]) eY;generalize upd H6 p1 (.lst [v1])=H7 at rG s7⊢;have s17:=(p.trans Q).trans s7;refine⟨a,p1,_,_,W,W,(ha.up<|J _).up<|s17 _,.inl rG,AX<|by simp only[j3,B6];exact am (tz (am (bm lv)<|am zl hg)<|gl (bv _) _) ac,λp2 bC=>?_⟩;have rH:upd H7 p2 (.lst<|L++[v1]) p2=Z (.lst<|L++[v1]):=AD;have s8:=AF.new (o:=.lst<|L++[v1]) bC;generalize upd H7 p2 (.lst<|L++[v1])=S at rH s8⊢;have s18:=s17.trans s8;refine⟨_,W,_,W,_,W,a,_,W,.inl<|(ha.up<|J _).up<|s18 _,λp3 jG=>?_⟩;obtain⟨kc,oC⟩:=Mf L;rw[oC];have rJ:upd S p3 (.lst<|L.take kc) p3=Z (.lst<|L.take kc):=AD;have s9:=AF.new (o:=.lst<|L.take kc) jG;generalize upd S p3 (.lst<|L.take kc)=H9 at rJ s9⊢;refine⟨Ac,λp4 cP=>?_⟩;have rK:upd H9 p4 (.lst [.ref p2,.ref p3]) p4=Z (.lst [.ref p2,.ref p3]):=AD;have sA:=AF.new (o:=.lst [.ref p2,.ref p3]) cP;generalize upd H9 p4 (.lst [.ref p2,.ref p3])=HA at rK sA⊢;obtain⟨v2,iX,jW⟩:=FZ (xs:=[V.ref p2,V.ref p3]) (i:=wy/3 % 3) m3.1 (by simp only[j3,B6];lia);refine⟨_,W,_,_,W,W,By,_,_,W,W,BE,p4,_,_,_,W,W,Ab.of rK,iX,?_⟩;have rL:=(s18.trans s9).trans sA;have oV:Val (ov G H HA) v1 t1:=sm.val.up (Me J (λb h=>p.free h) λb o _ h=>((s7.trans s8).trans s9).trans sA b o h);have lA:AR (ov G H HA) L ts:=X.up Ky;simp only[j4,M9,or_false]at jW;rcases jW with rfl|rfl
     .refine q _ (.lst<|ts++[t1]) HA rL (.lst (.inl<|by rw[Cc J<|s17.free bC];exact(s9.trans sA) _ _ rH)<|lA.snoc oV) (.kR (by rw[q5,x9];exact tz zl ac) λu s=>(rc.mp s).elim (λh=>(zm u h).up (ci _ _) (ci _ _)<|ci _ _) λh=>?_);rw[io.mp h];exact Pt.GS sm.doc sm.size sm.deep (d0 _ _) (lM<|am ac hB)<|d0 _ _
     .exact q _ (.lst<|ts.take kc) HA rL (.lst (.inl<|by rw[Cc J<|s18.free jG];exact sA _ _ rJ)<|lA.TZ kc)<|.kR (by rw[B8];exact am (U4 _ _)<|lM zl) λu s=>(zm u<|Wp s).up (ci _ _) (ci _ _)<|ci _ _
    .exact⟨_,W,_,"dict","list",W,W,.lst Yn,_,W,AQ<|AQ ⟨_,W,_,W,c,6,nm,ys,W,ac,N,dq p⟩⟩
   |@Ah a m ks ts ha M X=>
    have Yn:=(ha.up<|J _).up<|p _;refine AQ<|AQ ⟨_,W,_,"dict","dict",W,W,.dK Yn,_,W,As ⟨_,W,_,_,W,W,By,_,_,W,W,BE,_,_,W,W,_,W,Bh (λh2=>?_) λ_=>⟨_,W,_,W,c,6,nm,ys,W,ac,N,dq p⟩⟩⟩;have kl:m.length=ks.length:=by have:=congrArg sw M;simpa using this
    have ek:=Nj M;obtain⟨ws,aj⟩:∃ws,ws=m.map (·.2):=⟨_,W⟩;rw[<-aj]at X ek;have lw:=X.length;obtain⟨E,rfl,ff,jX,oW,lB,zl,zB,zm⟩:=gP.Ah;have el:ks.length=ws.length:=ff.trans lw.symm;refine⟨_,W,a,m,W,Yn,λA U=>?_⟩;have f6:upd H5 A (.dK m) A=Z (.dK m):=AD;have Q:=AF.new (o:=.dK m) U;generalize upd H5 A (.dK m)=H6 at f6 Q⊢;have n6:=p.free U;refine⟨_,W,_,W,c,6,nm,ys,W,ac,N.up Q,λv1 t1 H7 s7 sm=>?_⟩;have m4:=Dl (wy/9) (n:=4) ac;obtain⟨jj,UJ⟩:∃j:Nat,wy/9 % 4=(j:Int):=⟨(wy/9 % 4).toNat,(x5 m4.1).symm⟩;obtain⟨y,hy⟩:∃y,ys[jj]?=Z y:=⟨_,zc<|by rw[hn.len];exact G9.mp<|UJ▸m4.2⟩;refine⟨_,W,_,W,_,W,_,_,W,W,By,_,_,W,W,BE,nm,_,_,_,W,W,Ab.of ((N.up Q).up s7).at_,by rw[UJ];exact Aa<|by rw[b6,hy];rfl,A,_,W,.inl ⟨m,e9 y,s7 _ _ f6,W,Aw<|am (am (bm kl)<|gt lB) ac,W⟩,?_⟩;have s17:=(p.trans Q).trans s7;have I:=p.trans Q;have w_:AF G H6:=J.trans I;have lA:AR (ov G H6 H7) ws ts:=X.up Ky;have xA:Val (ov G H6 H7) v1 t1:=sm.val.up (Me w_ (λb h=>h) λb o _ h=>h);rw[ek];obtain⟨C,O,gO,g1,g2,g3,g4,g5,g6,g7,g8,g9,_⟩:=TV (y:=y) xA el jX lA;rw[g1];have xB:∀k∈C,Uz k=true:=λk hk=>by
     rcases g5 k hk with h|rfl
     .exact oW k h
     .exact hn.nb _<|zf hy
    have oX:∀u∈gO,u.Bd (g+4) (B+1) (E+2):=λu s=>by
     rcases g6 u s with h|rfl
     .exact(zm u h).up (ci _ _) (ci _ _)<|ci _ _
     .exact Pt.GS sm.doc sm.size sm.deep (d0 _ _) (lM<|am ac hB)<|d0 _ _
    have fin:∀(Qy:List Str)(Yl:List V)(Vy:List Pt)(S:Hp),AF H S->(∀b o,b≠A->H7 b=Z o->S b=Z o)->S A=Z (.dK<|Bo Qy Yl)->Qy.length=Yl.length->Qy.Nodup->AR (ov G H6 H7) Yl Vy->(∀k∈Qy,k∈C)->(∀u∈Vy,u∈gO)->Pt.AM Vy<=Pt.AM gO->Qy.length<=C.length->En.rt (.ref A) S:=λQy Yl Vy S s8 k8 f8 e1 e2 e3 e4 e5 e6 e7=>by
     have lu:=e3.length;exact q _ (.Ah Qy Vy) S s8 (.Ah (.inl<|by rw[Cc J n6];exact f8) (BI e1)<|by rw[CJ e1];exact e3.up<|EF J (λb h=>I.free h) λb o h1 h2=>k8 b o (λz=>by rw[z,f6]at h1;cases h1) h2)<|.nN (e1.trans lu) e2 (λk hk=>xB k<|e4 k hk) z_ (am e7<|am g8<|tz zl ac) (am e7<|am g8<|gl zB _) λu s=>oX u<|e5 u s
    have s08:AF H (upd H7 A<|.dK<|Bo C O):=s17.put n6;have k08:∀b o,b≠A->H7 b=Z o->upd H7 A (.dK<|Bo C O) b=Z o:=λb o hb h=>(AH hb).trans h;have f8:upd H7 A (.dK<|Bo C O) A=Z (.dK<|Bo C O):=AD;have xC:pi≠A:=λz=>by have:=s5 _ _ f1;rw[z,U]at this;cases this
    have oY:upd H7 A (.dK<|Bo C O) pi=Z (.lst l):=(AH xC).trans<|s7 _ _<|Q _ _<|s5 _ _ f1;generalize upd H7 A (.dK<|Bo C O)=S at s08 k08 f8 oY⊢;have ret:∀H9,AF S H9->En.rt (.ref A) H9:=λH9 s9=>fin C O gO H9 (s08.trans s9) (λb o hb h=>s9 _ _<|k08 b o hb h) (s9 _ _ f8) g2 g3 g4 (λk h=>h) (λu h=>h) (bv _)<|bv _;dsimp only;refine⟨_,W,_,_,W,W,By,_,_,W,W,BE,W,_,W,Bh (λ_=>?_) λ_=>AQ ⟨_,W,ret S<|AF.refl _⟩⟩;refine⟨_,W,j5 _,λpe NA=>⟨pi,pe,_,W,W,Ab.of<|(AF.new NA) _ _ oY,Ab.of AD,_,W,?_⟩⟩;have se:=AF.new (o:=.lst []) NA;generalize upd S pe (.lst [])=H9 at se⊢;obtain⟨ss,rfl,pm,so⟩:=st;have jY:=se _ _ oY;refine Bh (λh3=>?_) (λ_=>⟨_,W,ret H9 se⟩);have xD:ss≠[]:=λz=>by subst z;cases h3
    have xE:0<ss.length:=abW.mpr xD;have ms:0<=wy/9 % (ss.length:Int)/\wy/9 % (ss.length:Int)<(ss.length:Int):=⟨B7 _ z_,D5 _ z_⟩;obtain⟨j2,xF⟩:∃j:Nat,wy/9 % (ss.length:Int)=(j:Int):=⟨(wy/9 % (ss.length:Int)).toNat,(x5 ms.1).symm⟩;obtain⟨y2,rM⟩:∃y,ss[j2]?=Z y:=⟨_,zc z_⟩;have xG:y2∈C:=g9 y2<|pm.mem_iff.mp<|zf rM;obtain⟨x2,nv⟩:∃x,CG (Bo C O) (e9 y2:Key)=Z x:=by
     have:=FL (BI g2) y2;rw[decide_eq_true xG]at this;cases e:CG (Bo C O) (e9 y2:Key)with
     |none=>rw[e]at this;cases this|some x=>exact⟨x,W⟩
    have f9:=se _ _ f8;obtain⟨xH,xI,gN,i1,i2,i3,i4,i5,i6,i7,i8⟩:=P_ y2 g2 g3 g4;refine .inr ⟨_,W,A,W,.inl ⟨_,.inl f9⟩,_,W,_,W,_,_,W,W,By,_,W,pi,_,W,.inl<|Ab.of jY,_,_,W,W,(by show(0:Int)<_;rw[bi];lia),pi,_,_,_,W,W,Ab.of jY,by rw[bi,xF];exact Aa<|by rw[b6,rM];rfl,Bo C O,e9 y2,x2,f9,W,nv,_,W,?_⟩;rw[i1];exact fin xH xI gN _ ((s08.trans se).put n6) (λb o hb h=>(AH hb).trans<|se _ _<|k08 b o hb h) AD i2 i3 i4 i5 i6 i7 i8
 .have p:=s1.trans s5;have N:=MB.up s5;have f5:=s5 _ _ f1;have xJ:0<l.length:=abW.mpr jV;have ms:0<=wy/3 % (l.length:Int)/\wy/3 % (l.length:Int)<(l.length:Int):=⟨B7 _ z_,D5 _ z_⟩;obtain⟨jj,UJ⟩:∃j:Nat,wy/3 % (l.length:Int)=(j:Int):=⟨(wy/3 % (l.length:Int)).toNat,(x5 ms.1).symm⟩;have jl:jj<l.length:=by lia
  have ed:((d:Int)+1)=((d+1:Nat):Int):=by lia
  cases hv with
  |int i=>exact absurd (show l=[]from st) jV|str i=>exact absurd (show l=[]from st) jV|bl b=>simp[Pt.doc]at ζ|AZ=>simp[Pt.doc]at ζ|tup _ _=>simp[Pt.doc]at ζ|@lst a L ts ha X=>
   have el:l=_:=st;have lv:=X.length;have ll:l.length=ts.length:=by rw[el];simp
   obtain⟨E,rfl,zl,zm⟩:=gP.lst;refine .inl ⟨_,W,a,_,W,.inl<|.inl<|(ha.up<|J _).up<|p _,λA U=>?_⟩;have f6:upd H5 A (.lst L) A=Z (.lst L):=AD;have Q:=AF.new (o:=.lst L) U;generalize upd H5 A (.lst L)=H6 at f6 Q⊢;have I:=p.trans Q;have n6:=p.free U;have gQ:=(ha.up<|J _).up<|I _;have f56:=Q _ _ f5;refine⟨_,W,_,"dict","list",W,W,.lst gQ,_,W,AQ ?_⟩;have hl:l[jj]?=Z (.int (jj:Int)):=by
    rw[el,b6,J7<|bn jl<|bm ll];rfl
   refine⟨_,W,_,W,_,_,W,W,By,_,W,pi,_,W,.inl<|Ab.of f56,_,_,W,W,(by show(0:Int)<_;lia),pi,_,_,_,W,W,Ab.of f56,by rw[UJ];exact Aa hl,?_⟩;obtain⟨tx,ao⟩:∃t,ts[jj]?=Z t:=⟨_,zc<|bn jl<|bm ll⟩;obtain⟨x,hx,vx⟩:=X.get' ao;have mt:=zf ao;refine .inl<|.inl ⟨_,W,_,W,a,_,_,x,W,W,.inl gQ,Aa hx,_,W,_,W,_,_,W,W,_,W,G,x,tx,c,d+1,nm,ys,g,B,E,by rw[ed];rfl,J.trans I,vx,zm _ mt,hg,z_,am (gl d4 _) ac,N.up Q,hB,rF,λw t' S s8 v8 b8=>?_⟩;have f8:=s8 _ _ f6;refine⟨_,W,_,W,A,L,(jj:Int),jj,W,W,f8,by unfold Uc;rw[if_pos<|wT _,if_pos<|G9.mpr<|bn jl<|am (bm ll)<|bm lv.symm,A8],⟨_,W,?_⟩⟩;have s08:=I.trans s8;have oZ:AF (ov G H6 S) (ov G H<|upd S A<|.lst<|L.set jj w):=EF J (λb h=>I.free h) λb o h1 h2=>(AH λz=>by rw[z,f6]at h1;cases h1).trans h2;refine q _ (.lst<|ts.set jj t') _ (s08.put n6) (.lst (.inl<|by rw[Cc J n6,AD])<|((X.up Ky).Zu v8 jj).up oZ) (.kR (by rw[E6];exact lM zl) λu s=>?_);rcases mem_set s with h|rfl
   .exact(zm u h).up (ci _ _) (ci _ _)<|ci _ _
   .exact b8
  |@Ah a m ks ts ha M X=>
   obtain⟨ss,el,pm,so⟩:=st;have kl:m.length=ks.length:=by have:=congrArg sw M;simpa using this
   have ek:=Nj M;have xK:=X;obtain⟨ws,aj⟩:∃ws,ws=m.map (·.2):=⟨_,W⟩;rw[<-aj]at X ek;have lw:=X.length;obtain⟨E,rfl,ff,jX,oW,lB,zl,zB,zm⟩:=gP.Ah;have rN:ks.length=ws.length:=ff.trans lw.symm;have Yn:=(ha.up<|J _).up<|p _;refine .inr ⟨_,W,a,m,ks,W,Yn,M,λp5 Lg=>?_⟩;have sl:=AF.new (o:=.lst<|ks.map V.str) Lg;generalize upd H5 p5 (.lst<|ks.map V.str)=rO at sl⊢;have jZ:=p.trans sl;refine⟨_,W,_,"dict","dict",W,W,.dK<|Yn.up<|sl _,_,W,As ⟨_,W,a,m,W,Yn.up<|sl _,λA U=>?_⟩⟩;have f6:upd rO A (.dK m) A=Z (.dK m):=AD;have Q:=AF.new (o:=.dK m) U;generalize upd rO A (.dK m)=H6 at f6 Q⊢;have I:=jZ.trans Q;have n6:=jZ.free U;have gQ:=(ha.up<|J _).up<|I _;have f56:=Q _ _<|sl _ _ f5;obtain⟨y,hy⟩:∃y,ss[jj]?=Z y:=⟨_,zc<|by rw[el,bi]at jl;exact jl⟩;have hl:l[jj]?=Z (.str y):=by rw[el,b6,hy];rfl
   refine⟨_,W,_,W,_,_,W,W,By,_,W,pi,_,W,.inl<|Ab.of f56,_,_,W,W,(by show(0:Int)<_;lia),pi,_,_,_,W,W,Ab.of f56,by rw[UJ];exact Aa hl,?_⟩;obtain⟨kj,oe⟩:=O0.mp<|pm.mem_iff.mp<|zf hy;have og:=(zd oe).1;have eg:ks.getD kj ""=y:=by rw[b7,oe];rfl
   obtain⟨x,tx,k1,ao,vx⟩:=Rn M xK jX og;rw[eg]at k1;have mt:=zf ao;refine .inr<|.inr ⟨_,W,_,W,a,x,W,.inl ⟨m,e9 y,gQ,W,k1.symm⟩,_,W,_,W,_,_,W,W,_,W,G,x,tx,c,d+1,nm,ys,g,B,E,by rw[ed];rfl,J.trans I,vx,zm _ mt,hg,z_,am (gl d4 _) ac,(N.up sl).up Q,hB,rF,λw t' S s8 v8 b8=>?_⟩;have f8:=s8 _ _ f6;refine⟨_,W,_,W,A,_,W,.inl ⟨m,e9 y,f8,W,Aw<|am (am (bm kl)<|gt lB) ac,W⟩,?_⟩;rw[ek,XH w rN jX oe];have s08:=I.trans s8;have oZ:AF (ov G H6 S) (ov G H<|upd S A<|.dK<|Bo ks<|ws.set kj w):=EF J (λb h=>I.free h) λb o h1 h2=>(AH λz=>by rw[z,f6]at h1;cases h1).trans h2;have rP:ks.length=(ws.set kj w).length:=by rw[E6];exact rN
   refine⟨_,W,q _ (.Ah ks<|ts.set kj t') _ (s08.put n6) (.Ah (.inl<|by rw[Cc J n6,AD]) (BI rP)<|by rw[CJ rP];exact(((X.up Ky).Zu v8 kj).up oZ))<|.nN (by rw[E6];exact ff) jX oW lB (lM zl) (lM zB) λu s=>?_⟩;rcases mem_set s with h|rfl
   .exact(zm u h).up (ci _ _) (ci _ _)<|ci _ _
   .exact b8
theorem Qz{f:Addr}{fd:AT}(F:Fq K "_law_bent" 45 f fd)(T:Txt mg)(b:Binds K fd lqc [])(m:mg "_law_bent"=Z (.ref f))(a:Df P w K mg base "_law_mix" lqb 1 EO)(c:Df P w K mg base "_law_doc" lqd 2 Gm):∀n:Nat,Ar P w K mg base CA n f fd lqc (KI n)
 |0=>GZ (λvs H Q E h=>by obtain⟨_,_,_,_,_,_,_,_,_,_,_,_,_,_,_,d,e,_⟩:=h;lia)
 |n+1=>bF F T a c (Df.mk' F b m (Qz F T b m a c n))
theorem bG(F:Fq K "_law_lets" 46 f fd)(T:Txt mg)(Q_:Df P w K mg base "_law_lets" lqi n (FK n)):Ar P w K mg base CA (n+1) f fd lqi (FK (n+1)):=by
 refine F.oq ["_law_asks_here","_law_doc_here","_law_others"] λH En _ EW G_ hr h=>?_;obtain⟨v,y,a0,t,rfl,hv,hy,J,L,za,zt,Q,Yj,q⟩:=h;refine⟨_,(AA (AO (AK Aj (Ay K 0) AS<|AL _) (AE<|AI Bp) AJ)<|AA (AO (AK Aj (Ay K 0) AS<|AL _) (AE<|AI<|BD (Nz (Bn.units hr):DA _ _ Xi) (Ay K 0) (pv 1)<|AL _) AJ)<|AA (AO (AK Aj (Ay K 0) AS<|AL _) (AA (AO (PW.pt<|pw_or (Cj<|Ag<|JQ K T (pv 1) T.list BR)<|pw_or (AK FT (CH K T<|pv 1) (CH K T<|Ay K 0)<|AL _)<|pw_or1<|PW.pt<|pw_and (Cj<|Ag<|Ay K 0)<|pw_and1<|AK Ot (CH K T<|pv 1) (CH K T<|Ay K 0)<|AL _) (AE<|AI Bp) AJ)<|AE<|AI<|Am (Eh W) W T.all MU<|AU<|cmp ["_law_doc_here","_law_asks_here"] [1,0] (BU W T.range<|AU<|CH K T<|Ay K 0) λ_ _ _ _=>(BM Q_ hr<|AB (FN K (Ay K 2)<|pv 0)<|AU<|FN K (pv 1)<|pv 0)) AJ)<|AA (AO (Cj<|Ag<|JQ K T (pv 1) T.dict CC) (AE<|AI Bp) AJ)<|AA (NY<|DF (i:=2) (fv:=lqk) (fs:=[0]) W (.of<|by rfl) EW W (Y3 W) (ER<|pv 1) (λC s0 H0 fp=>GB<|Gf<|Ef G_ (pv 0)<|Ay K 1) λC s0 H0 fp=>(pv 0))<|AA (AO (PW.pt<|pw_or (AK FT (AN IY (Am GD W T.len T2<|AU<|pv 1)<|CH K T<|pv 2) (Am GD W T.len T2<|AU<|Ay K 0)<|AL _)<|pw_or1<|PW.pt<|pw_and (Cj<|Ag<|Ay K 0)<|pw_and1<|AK (FY<|Bn.Dd hr) (pv 2) (Ap BL)<|AL _) (AE<|AI Bp) AJ)<|AA (AO (AK (FY<|Bn.Dd hr) (HZ (fv:=lqk) (fs:=[0]) W (.of<|by rfl) (BQ<|pv 2) (λC s0 H0 fp=>GB<|AK (Dv:DA _ _ (WT K false)) (pv 0) (Ay K 1) W) λC s0 H0 fp=>(pv 0)) (Ap BL)<|AL _) (AE<|AI Bp) AJ)<|AE<|AI<|Am (Eh W) W T.all MU<|AU<|Hg<|cmp ["_law_doc_here","_law_asks_here"] [1,0] (ER<|Ay K 0) λ_ _ _ _=>(BM Q_ hr<|AB (Qi G_ (Ay K 2)<|pv 0)<|AU<|Qi G_ (pv 1)<|pv 0)),?_⟩;obtain⟨S,w0,rest,G,cs⟩:=hv.ak;rcases cs with _|⟨d,u,RF⟩|⟨g,m,u,RF⟩|⟨B,g,ls,m,u,z,RF,hz⟩
 .exact(Gz G<|by simp only[Ak.lets]at q;exact q H<|AF.refl H)
 .refine JP G ?_;refine Gz G ?_;simp only[Ak.Az]at J;simp only[Ak.dp]at Q;simp only[Ak.lets]at q;exact⟨_,W,S,_,1,u,W,W,G,CL,_,W,d,t,RF,hy,(λb e=>by rw[e]at J;simp[Pt.doc]at J),.inl ⟨J,L⟩,Q,q H<|AF.refl H⟩
 .refine JP G ?_;refine JP G ?_;refine Gz G ?_;refine⟨_,W,_,"list",t.TL,W,W,hy.ty,_,W,?_⟩;simp only[Ak.Az]at J;simp only[Ak.deep]at Yj;simp only[Ak.dp]at Q;simp only[Ak.size]at za;cases RF with
  |@lst a vs _ ha ra=>
   have la:=ra.length;rw[Ak.AV,bi]at la;have cU:=Ak.CQ g;cases hy with
   |@lst b ws s hb rb=>
    have lb:=rb.length;simp only[Pt.doc]at L;simp only[Pt.UA]at zt;simp only[Ak.lets]at q;refine AQ ⟨_,W,b,_,W,.inl<|.inl hb,_,W,S,_,1,_,W,W,G,CL,a,_,W,.inl<|.inl ha,_,_,W,W,_,W,?_⟩;refine Bh (λU=>?_) λU=>?_
    .have U:=of_decide_eq_true U;have e:Ak.cnt s.length g.length m=false:=by
      have e1:(s.length==g.length)=false:=by simp;lia
      have M:decide (g.length<s.length)=false:=by simp;lia
      simp[Ak.cnt,e1,M]
     rw[e,F7]at q;exact As<|q H<|AF.refl H
    have U:=of_decide_eq_false U;have key:(Ak.cnt s.length g.length m=true->gj (c_ (Ke K) (DB (Kc (WH (DB (c_ (Dz K) (DB (Oo (RO K) (GV 0) (tC (V.int 1))) Ia))
             Ia))
           Jb
           (Ow (FK n) [] E0 (DB (Oo (WN K) (Oo (RO K) (GV 2) (tC (V.int 1))) (GV 0)) (DB (Oo (WN K) (GV 1) (GV 0)) Ia)))
           [1,0])
          Ia)) {nx:=λx H'=>En.rt V.AZ H',rt:=En.rt} [Z (V.ref S),Z (V.ref b),ν] H):=λhc=>by
     rw[hc,zk]at q;refine⟨_,W,S,_,1,_,W,W,G,CL,a,_,W,.inl<|.inl ha,vs.length,W,F6 ac<|wT _,zi (F5.mpr<|am (bm la)<|am cU<|am (d0 _ _) za) ac,?_⟩;refine CO (n:=vs.length) (λi=>.int<|0+(i:Int)) (λi v=>∃p,(g.zip s)[i]?=Z p/\v=.bl (Ak.lets p.1 p.2)) (AX<|am (bm la)<|am (am cU<|am (d0 _ _) za) ac) (λi H2 A I=>A) (λi H2 v H' A I y=>⟨y.2,y.1⟩) (λH2 I=>bv _) (λi H2 R A I r=>?_) λD H2 rs X I d2 lr or=>?_
     .have e0:(0:Int)+(i:Int)=(i:Int):=aaT _;rw[e0];obtain⟨x,hx⟩:∃x,vs[i]?=Z x:=⟨_,zc A⟩;obtain⟨y,hy⟩:∃y,ws[i]?=Z y:=⟨_,zc z_⟩;obtain⟨px,g1,vx⟩:=ra.get hx;obtain⟨py,g2,vy⟩:=rb.get hy;rw[Ak.AV,b6]at g1;obtain⟨ax,N⟩:∃ax,g[i]?=Z ax:=⟨_,zc z_⟩;rw[N]at g1;cases g1;have m1:=zf N;have m2:=zf g2;have d1:=Ak.Au m1;have d6:=Ak.CV m1;have z1:=Ak.Ae m1;have z2:=Pt.Fx m2;refine⟨_,W,S,_,1,_,W,W,G.up I,CL,_,W,a,_,_,x,W,W,.inl<|ha.up<|I _,Aa hx,_,W,_,W,b,_,_,y,W,W,.inl<|hb.up<|I _,Aa hy,x,y,ax,py,W,vx.up I,vy.up I,Ak.BB J _ m1,Pt.Af L _ m2,am (am z1<|d0 _ _) za,am (am z2<|y4 _ _) zt,am (am d6<|d0 _ _) Q,z_,λH3 s3=>r _ H3 s3 ⟨(ax,py),?_,W⟩⟩;rw[u9];exact⟨N,g2⟩
     .have lz:(g.zip s).length=g.length:=by rw[Rs];lia
      have e:=Hy (ps:=g.zip s) (f:=λp=>Ak.lets p.1 p.2) (vs:=rs) (lr.trans<|la.trans lz.symm) or;rw[e]at d2;refine⟨D,_,W,Ab.of d2,?_⟩;have M:((g.zip s).map λp=>Ak.lets p.1 p.2).all id=Ak.Fj g s:=by rw[Ak.Im,G8];rfl
      rw[M];exact q H2 I
    refine⟨_,W,S,_,2,_,W,W,G,at2,_,W,?_⟩;cases m with
    |true=>
     refine AQ<|AQ<|key ?_;have:g.length<=s.length:=by lia
     rw[show Ak.cnt s.length g.length true=(s.length==g.length||decide (g.length<s.length))from W];rcases C7 g.length s.length with h|h
     .simp[h]
     .have:s.length=g.length:=by lia
      simp[this]
    |false=>
     refine As ⟨_,W,b,_,W,.inl<|.inl hb,_,W,S,_,1,_,W,W,G,CL,a,_,W,.inl<|.inl ha,_,_,W,W,_,W,?_⟩;refine Bh (λh2=>?_) λh2=>?_
     .have h2:=of_decide_eq_true h2;have e:Ak.cnt s.length g.length false=false:=by
       have e1:(s.length==g.length)=false:=by simp;lia
       simp[Ak.cnt,e1]
      rw[e,F7]at q;exact q H<|AF.refl H
     .have h2:=of_decide_eq_false h2;refine key ?_;have:s.length=g.length:=by lia
      simp[Ak.cnt,this]
   |int i=>exact As (As (q H (AF.refl H)))|str i=>exact As (As (q H (AF.refl H)))|bl b=>simp[Pt.doc]at L|AZ=>simp[Pt.doc]at L|tup _ _=>simp[Pt.doc]at L|Ah _ _ _=>exact As (As (q H (AF.refl H)))
 .refine JP G ?_;refine JP G ?_;refine JP G ?_;refine⟨_,W,_,"dict",t.TL,W,W,hy.ty,_,W,?_⟩;simp only[Ak.Az]at J;simp only[Ak.deep]at Yj;simp only[Ak.dp]at Q;simp only[Ak.size]at za;obtain⟨o1,o2,o3,o4,o5,o6,o7⟩:=J;cases hy with
  |int i=>exact As (q H (AF.refl H))|str i=>exact As (q H (AF.refl H))|bl b=>simp[Pt.doc]at L|AZ=>simp[Pt.doc]at L|tup _ _=>simp[Pt.doc]at L|lst _ _=>exact As (q H (AF.refl H))|@Ah b bZ O s hb Th rb=>
   refine AQ ?_;cases RF with
   |@Ah a Y _ _ ha Jg ra=>
    cases hz with
    |@lst l vl _ hl rl=>
     have kl:Y.length=B.length:=by have:=congrArg sw Jg;simpa using this
     have jC:bZ.length=O.length:=by have:=congrArg sw Th;simpa using this
     simp only[Pt.doc]at L;simp only[Pt.UA]at zt;simp only[Ak.lets]at q;rw[XG m o2 L.2.1 o6]at q;have jD:vl=ls.map V.str:=by
      have gen:∀{vs:List V}{ls:List Str},AR H vs (ls.map Pt.str)->vs=ls.map V.str:=by
       intro vs ls
       induction ls generalizing vs with
       |nil=>intro h;cases h;rfl|cons x r ih=>
        intro h;cases h with
        |cons U h2=>cases U;rw[jp,ih h2]
      exact gen rl
     subst jD;refine⟨b,bZ,hb,λo Hf F=>⟨_,W,b,o,_,W,F.at_,?_⟩⟩;refine DG (n:=O.length) (λi=>.str<|O.getD i "") (λi=>.str<|O.getD i "") (λi=> !decide (O.getD i ""∈B)) (AX<|am (gt L.2.2.2.1) ac) (λi D s A X=>⟨(AH<|Al F.at_ X).trans F.at_,by rw[jC];exact A⟩) (λi D s v H' A X y=>?_) (λD s X=>⟨(AH<|Al F.at_ X).trans F.at_,jC.symm⟩) (λi D s R A X r=>?_) (λi D s R A X _ r=>⟨_,W,r⟩) λD X=>?_
     .obtain⟨e,k,w',e1,M⟩:=y;rw[(Kx Th e1).2]at M;exact⟨M,e⟩
     .have mZ:Rd (upd Hf D<|.lst s) a (.dK Y):=(F.rd _ _ ha).up λo e=>(AH<|Al e X).trans e;have xM:=(G.Je<|JG.Ca F).up<|AF.new (o:=.lst s) X;refine⟨_,W,_,W,S,_,1,_,W,W,xM,CL,a,_,W,.inl ⟨Y,e9<|O.getD i "",mZ,W,W⟩,_,W,?_⟩;rw[FL Jg];exact r
     .have nX:=F.free X;refine⟨(AH<|Al F.at_ X).trans F.at_,?_⟩;rw[Ir O λn=> !decide (n∈B)];obtain⟨os,oh⟩:∃os,os=O.filter λn=> !decide (n∈B):=⟨_,W⟩;rw[<-oh]at q⊢;have xN:os.length<=O.length:=by rw[oh];exact C4 _ _
      have s1:AF H (back b H<|upd Hf D<|.lst<|os.map V.str):=F.back<|AF.new X;have fD:back b H (upd Hf D<|.lst<|os.map V.str) D=Z (.lst<|os.map V.str):=by rw[Dq nX.2,AD]
      generalize back b H (upd Hf D<|.lst<|os.map V.str)=H1 at s1 fD⊢;have Yu:=G.up s1;have ew:=hb.up<|s1 _;have Yx:=ha.up<|s1 _;dsimp only;refine Rf (t:=Er _ _ _) (λH5=>AF H1 H5/\(decide<|((O.length:Nat):Int)-((os.length:Nat):Int)<((B.length:Nat):Int))=false/\(m||os.isEmpty)=true) (λH5 ⟨s5,c1,c2⟩=>?_) (λkey=>?_);rotate_left
      .refine⟨_,W,b,bZ,W,ew,_,W,D,_,W,.inl<|Ab.of fD,_,_,W,W,_,W,S,_,1,_,W,W,Yu,CL,a,Y,W,Yx,_,_,W,W,_,W,?_⟩;rw[jC,kl,bi];refine Bh (λU=>?_) (λU=>?_)
       .rw[U,aca,F7,F7,F7]at q;exact As<|q H1 s1
       refine⟨_,W,S,_,3,_,W,W,Yu,Aa (j:=3) W,_,W,?_⟩;cases m with
       |true=>exact AQ (AQ (key H1 ⟨AF.refl _,U,W⟩))|false=>
        refine As ⟨_,W,j5 _,λpe NA=>⟨D,pe,_,W,W,Ab.of<|(AF.new NA) _ _ fD,Ab.of AD,_,W,?_⟩⟩;have se:=AF.new (o:=.lst []) NA;cases os with
        |nil=>exact AQ (key _ ⟨se,U,W⟩)|cons x r=>
         rw[U]at q;exact As<|q _<|s1.trans se
      .have s05:=s1.trans s5;rw[c1,c2,ZB,zk,zk]at q;have oj:=s5 _ _ fD;have ef:=G.up s05;have fH:=hl.up<|s05 _;have li:∀i,i<os.length->(os.map V.str)[i]?=Z (.str<|os.getD i ""):=λi A=>by
        rw[b6,zc A,b7,zc A];rfl
       have cC:∀{ζ:Addr}{zs:List V},H5 ζ=ν->upd H5 ζ (.lst zs) D=Z (.lst<|os.map V.str):=λh=>(AH<|Al oj h).trans oj;refine⟨_,W,D,W,⟨_,Ab.of oj⟩,?_⟩;refine DG (n:=os.length) (λi=>.str<|os.getD i "") (λi=>.str<|os.getD i "") (λi=>decide<|os.getD i ""∈ls) (AX<|am (am xN<|gt L.2.2.2.1) ac) (λi ζ zs A E=>⟨_,_,Ab.of<|cC E,li i A⟩) (λi ζ zs v H' A E y=>?_) (λζ zs E=>⟨_,Ab.of<|cC E,by rw[bi];exact bv _⟩) (λi ζ zs R A E r=>?_) (λi ζ zs R A E _ r=>⟨_,W,r⟩) λζ E=>?_
       .obtain⟨e,y⟩:=y;have:=y _<|Ab.of<|cC E;rw[li i A]at this;exact⟨(ze this).symm,e⟩
       .have rQ:Rd (upd H5 ζ<|.lst zs) l (.lst<|ls.map V.str):=fH.up λo e=>(AH<|Al e E).trans e;refine⟨_,W,_,W,S,_,2,_,W,W,ef.up<|AF.new (o:=.lst zs) E,at2,l,_,W,.inl<|.inl rQ,W,?_,_,W,?_⟩
        .rw[G8];exact re.mpr λ_ _=>rfl
        .rw[DS];exact r
       .rw[Ir os λn=>decide<|n∈ls];obtain⟨us,xO⟩:∃us,us=os.filter λn=>decide (n∈ls):=⟨_,W⟩;rw[<-xO]at q⊢;have s6:=s05.trans<|AF.new (o:=.lst<|us.map V.str) E;have f6:upd H5 ζ (.lst<|us.map V.str) ζ=Z (.lst<|us.map V.str):=AD;generalize upd H5 ζ (.lst<|us.map V.str)=H6 at s6 f6⊢;refine⟨j5 _,λpe NA=>⟨ζ,pe,_,W,W,Ab.of<|(AF.new NA) _ _ f6,Ab.of AD,_,W,?_⟩⟩;have s7:=s6.trans<|AF.new (o:=.lst []) NA;generalize upd H6 pe (.lst [])=H7 at s7⊢;cases us with
        |cons x r=>exact As (q H7 s7)|nil=>
         refine AQ ?_;simp only[List.isEmpty_nil,zk]at q;have om:∀k∈B,k∈O:=by
          have c:=cntK o2 L.2.1;rw[<-oh]at c;have c1:=of_decide_eq_false c1;have le:(B.filter λk=>decide<|k∈O).length<=B.length:=C4 _ _;have:=Uf.mp (show(B.filter λk=>decide<|k∈O).length=B.length by lia);exact λk hk=>of_decide_eq_true<|this k hk
         obtain⟨bs,M⟩:=Gj L.1 (ss:=B) om;rw[Ak.FC,Kq _ o1 o2 (.refl _) (Ht o1 o2) M]at q;have xP:bs.length=B.length:=by have:=congrArg sw M;simpa using this.symm
         have xQ:=G.up s7;have xR:=ha.up<|s7 _;refine⟨a,Y,xR,λxS zI F2=>⟨_,W,S,_,1,.ref a,W,W,xQ.Je<|JG.Ca F2,CL,a,xS,_,W,F2.at_,?_⟩⟩;refine CO (n:=B.length) (λi=>.str<|B.getD i "") (λi v=>∃p,(g.zip bs)[i]?=Z p/\v=.bl (Ak.lets p.1 p.2)) (AX<|am (gt o4) ac) (λi H2 A I=>⟨I _ _ F2.at_,bn A<|bm kl.symm⟩) (λi H2 v H' A I y=>?_) (λH2 I=>⟨I _ _ F2.at_,kl.symm⟩) (λi H2 R A I r=>?_) λD3 H2 rs kZ I d2 lr or=>?_
         .obtain⟨e,k,w',e1,M⟩:=y;rw[(Kx Jg e1).2]at M;exact⟨M,e⟩
         .have kp:JG H H2:=((JG.of s7).trans<|JG.Ca F2).trans<|.of I;obtain⟨x,px,g1,g2,g3⟩:=Rn Jg ra o2 A;obtain⟨ax,N⟩:∃ax,g[i]?=Z ax:=⟨_,zc z_⟩;rw[Ak.AV,b6,N]at g2;cases g2;have hk:B[i]?=Z (B.getD i ""):=by rw[b7,zc A];rfl
          have mk:B.getD i ""∈B:=zf hk;obtain⟨pb,rR⟩:∃pb,bs[i]?=Z pb:=⟨_,zc<|bn A<|bm xP.symm⟩;have e3:lk O s (B.getD i "")=Z pb:=by
           have:=congrArg (λz=>z[i]?) M;simp only[b6,hk,rR]at this;exact ze this
          rcases Val.Dr Th rb (B.getD i "")with⟨y,ty,k1,k2,vy⟩|⟨_,k2⟩
          .have e4:ty=pb:=ze<|k2.symm.trans e3;subst e4;have m1:=zf N;have m2:=(Ax e3).2;have d1:=Ak.Au m1;have d6:=Ak.CV m1;have z1:=Ak.Ae m1;have z2:=Pt.Fx m2;refine⟨_,W,S,_,1,_,W,W,G.Je kp,CL,_,W,a,x,W,.inl ⟨Y,e9<|B.getD i "",kp.rd _ _ ha,W,g1.symm⟩,_,W,_,W,b,y,W,.inl ⟨bZ,e9<|B.getD i "",kp.rd _ _ hb,W,k1.symm⟩,x,y,ax,ty,W,g3.Je kp,vy.Je kp,Ak.BB o7 _ m1,Pt.Af L.2.2.2.2 _ m2,am (am z1<|d0 _ _) za,am (am z2<|y4 _ _) zt,am (am d6<|d0 _ _) Q,z_,λH3 s3=>r _ H3 s3 ⟨(ax,ty),?_,W⟩⟩;rw[u9];exact⟨N,rR⟩
          .exact absurd (k2.symm.trans e3) λz=>nomatch z
         .refine⟨I _ _ F2.at_,?_⟩;have lz:(g.zip bs).length=B.length:=by rw[Rs];lia
          have e:=Hy (ps:=g.zip bs) (f:=λp=>Ak.lets p.1 p.2) (vs:=rs) (lr.trans lz.symm) or;rw[e]at d2;have Da:D3≠a:=(F2.free kZ).2;have sb:=s7.trans<|F2.back I;have d3:back a H7 H2 D3=Z (.lst<|((g.zip bs).map λp=>Ak.lets p.1 p.2).map V.bl):=by rw[Dq Da];exact d2
          refine⟨D3,_,W,Ab.of d3,?_⟩;have M:((g.zip bs).map λp=>Ak.lets p.1 p.2).all id=(g.zip bs).all λp=>Ak.lets p.1 p.2:=by rw[G8];rfl
          rw[M];exact q _ sb
theorem Lh{f:Addr}{fd:AT}(F:Fq K "_law_lets" 46 f fd)(T:Txt mg)(b:Binds K fd lqi [])(m:mg "_law_lets"=Z (.ref f)):∀n:Nat,Ar P w K mg base CA n f fd lqi (FK n)
 |0=>GZ (λvs H Q E h=>by obtain⟨_,_,a,_,_,_,_,_,_,_,_,_,c,_⟩:=h;have:=Ak.DV a;lia)
 |n+1=>bG F T (Df.mk' F b m (Lh F T b m n))
theorem Vv(F:Fq K "_law_is_good" 47 f fd)(T:Txt mg)(N:Df P w K mg base "_law_is_good" lqk n (IL n))(Qs:mg "set"=ν):Ar P w K mg base CA (n+1) f fd lqk (IL (n+1)):=by
 refine F.oq ["_law_asks_here","_law_inner"] λH _ _ EW G_ hr h=>?_;obtain⟨G,v,a0,rfl,pl,xT,BN,hg,Yj,za,q⟩:=h;refine⟨_,(AA (AO (PW.pt<|pw_or (Cj<|Ag<|JQ K T (pv 0) T.tuple E_)<|pw_or1<|AK (Xk (Bn.units hr):DA _ _ (VS K)) (pv 0) (Ao BL)<|AL _) (AE<|AI Bp) AJ)<|AA (AO (AK (Xk (Bn.units hr):DA _ _ (VS K)) (pv 0) (Ao<|AU AS)<|AL _) (AE<|AI Bp) AJ)<|AA (AO (AK Aj (Ay K 0) AS<|AL _) (AE<|AI<|BD Aj (CH K T<|pv 0) AG<|AL _) AJ)<|AA (AO (PW.pt<|pw_and (AK Aj (Ay K 0) AS<|AL _)<|pw_and (AK Aj (CH K T<|pv 0) AG<|AL _)<|pw_and (Ag<|JQ K T (Ay K 0) T.list BR)<|pw_and1<|Ag<|JQ K T (Ay K 0) T.bool Wk) (AE<|Ad 1 EW<|Ay K 0)<|AE<|AO (PW.pt<|pw_and (AK Aj (Ay K 0) AS<|AL _)<|pw_and (AK Aj (CH K T<|pv 0) AG<|AL _)<|pw_and (Ag<|JQ K T (Ay K 0) T.dict CC)<|pw_and1<|Ag<|JQ K T (Ay K 0) T.bool Wk) (AA (Ad 1 EW<|Ai (Ji W) W T.list BR<|AU<|NP aaJ aat PySem.F.type_dict_values SU<|Ay K 0)<|AA (AO (PW.pt<|pw_or (Cj<|Ag<|JQ K T (Ay K 0) T.list BR)<|pw_or (AK (dZ<|Bn.Dd hr) (Am (FH W:Ba _ _ (Nr P w)) W T.sorted CP<|AU<|Ai (Iz W:Ba _ _ (Tf K P w)) W Qs QP<|AU<|Ay K 0) (Ay K 0)<|AL _)<|pw_or1<|PW.pt<|pw_and (AK (FY<|Bn.Dd hr) (Ay K 0) (Ap BL)<|AL _)<|pw_and1<|Cj<|Ag<|Ay K 0) (AE<|AI Bp) AJ)<|AE<|AO (AK (FY<|Bn.Dd hr) (HZ (fv:=lqk) (fs:=[0]) W (.of<|by rfl) (BQ<|Ay K 0) (λC s0 H0 fp=>GB<|Gf<|Ie G_ (pv 0)<|Ay K 1) λC s0 H0 fp=>(pv 0)) (Ap BL)<|AL _) (AE<|AI Bp) AJ)<|AE<|AI Bp)<|AA (AO (Cj<|Ag<|Am (Eh W) W T.all MU<|AU<|cmp [] [] (BQ<|pv 1) λ_ _ _ _=>(BM N hr<|AU<|pv 0)) (AE<|AI Bp) AJ)<|AE<|AI<|Oi (MK (r:=RO K) WO (pv 0) (Oq KP AG) λ_ _=>rfl)<|Bw<|BD (FY<|Bn.Dd hr) (HZ (fv:=[]) (fs:=[]) W (.of<|by rfl) (BQ<|pv 1) (λC s0 H0 fp=>GB<|AK KQ (Ay K 0) AS<|AL _) λC s0 H0 fp=>(pv 0)) (Ap BL)<|AL _),?_⟩;obtain⟨g,w0,rest,rfl,Yk,kk⟩:=Ak.kinds xT BN hg Yj za;have ht:BO K H g (.str w0::rest):=Yk.imp (λr=>.inl<|pl _ _ trivial r) id;refine⟨_,W,_,"tuple","tuple",W,W,.t ht,_,W,AQ ?_⟩;refine⟨_,W,j5 _,λp1 eY=>.nil g p1 w0 rest W W (ht.put eY) (BO.of AD) ⟨_,W,AQ ?_⟩⟩;have s1:=AF.new (o:=.tup []) eY;generalize upd H p1 (.tup [])=H1 at s1⊢;refine⟨_,W,BZ,λp2 bC=>?_⟩;have s:=s1.trans<|AF.new (o:=.tup [V.str "any"]) bC;have f2:upd H1 p2 (.tup [V.str "any"]) p2=Z (.tup [V.str "any"]):=AD;generalize upd H1 p2 (.tup [V.str "any"])=H2 at s f2⊢;have c:=ht.up s;rcases kk with⟨rfl,rfl⟩|⟨rfl,u,rfl⟩|⟨B,m,kg,ko,kd,kz,km,kl,kc⟩
 .exact .same g p2 "any" rfl W c (BO.of f2) ⟨_,W,As<|q H2 s⟩
 .refine .other g p2 "just" "any" _ W W c (BO.of f2) ac ⟨_,W,AQ ?_⟩;refine⟨_,W,g,_,0,_,W,W,c,C',W,_,W,Ep ?_⟩;exact⟨_,W,g,_,W,.inr c,W,q H2 s⟩
 have wn:w0≠"any"/\w0≠"just":=by
  rcases kc with⟨rfl,_⟩|⟨rfl,_⟩
  .exact By
  .exact By
 refine .other g p2 w0 "any" _ W W c (BO.of f2) wn.1 ⟨_,W,AQ ?_⟩;refine⟨_,W,g,_,0,_,W,W,c,C',W,_,W,BP (decide_eq_false λz=>wn.2<|V.str.inj z) ?_⟩;dsimp only[Ss];refine Dg (t:=Er _ _ _) (λO X=>∃(D:Addr)(d:List V),O=[Z<|.ref g,Z<|.ref D]/\AF H X/\Rd X D (.lst d)/\AR G d (Ak.EZ B)) (λO X ⟨D,d,es,s5,hD,rv⟩=>?_) (λkey=>?_);rotate_left
 .rcases kc with⟨rfl,a,d,rfl,ha,ra⟩|⟨rfl,a,p,ks,lz,ls,rfl,ha,Jg,ra,xU,ml,dj⟩
  .have A:=s _ _<|pl a (.lst d) trivial ha;refine⟨_,W,g,_,0,_,W,W,c,C',W,_,W,Ep ?_⟩;refine⟨_,W,g,_,W,.inr c,W,_,W,Bf W ?_⟩;refine⟨_,W,g,_,1,_,W,W,c,CL,_,"list","list",W,W,.n<|.lst<|.inl A,_,W,Bf W ?_⟩;refine⟨_,W,g,_,2,_,W,W,c,at2,_,"bool","bool",W,W,.n<|.bl m,_,W,Bf W ?_⟩;exact⟨_,W,g,_,1,_,W,W,c,CL,key _ _ ⟨a,d,W,s,.inl A,ra⟩⟩
  .have A:=s _ _<|pl a (.dK p) trivial ha;have Oa:=s _ _<|pl lz (.lst<|ls.map V.str) trivial xU;have lf:ls.length<=60/\ls.Nodup/\abG ls=true:=by
    rcases ml with⟨_,h⟩|⟨_,rfl⟩
    .exact h
    .exact⟨GE,.nil,W⟩
   have fl:∀z∈ls.map V.str,Dk z=true:=λz hz=>by
    obtain⟨y,_,rfl⟩:=u7.mp hz;rfl
   refine⟨_,W,g,_,0,_,W,W,c,C',W,_,W,C_ ?_⟩;refine⟨_,W,g,_,0,_,W,W,c,C',W,_,W,Ep ?_⟩;refine⟨_,W,g,_,W,.inr c,W,_,W,Bf W ?_⟩;refine⟨_,W,g,_,1,_,W,W,c,CL,_,"dict","dict",W,W,.n<|.dK<|.inl A,_,W,Bf W ?_⟩;refine⟨_,W,g,_,3,_,W,W,c,Aa (j:=3) W,_,"bool","bool",W,W,.n<|.bl m,_,W,Bf W ?_⟩;refine⟨_,W,g,_,1,_,W,W,c,CL,.inr<|.inr<|.inl ⟨W,.inl ⟨_,A⟩⟩,a,p,W,W,.inl A,λpv nZ=>?_⟩;obtain⟨H3,eH,s3,f3⟩:=Dj (o:=QQ pv a) nZ;rw[eH];clear eH;refine⟨pv,a,p,W,f3,.inl<|s3 _ _ A,λpD xV=>?_⟩;have s4:=s3.trans (AF.new (o:=.lst (p.map (·.2))) xV);have f4:upd H3 pD (.lst (p.map (·.2))) pD=Z (.lst (p.map (·.2))):=AD;generalize upd H3 pD (.lst (p.map (·.2)))=H4 at s4 f4⊢;have L:=c.up s4;have Q:=s4 _ _ Oa;dsimp only[BY];refine Dg (t:=Er _ _ _) (λO X=>O=[Z<|.ref g,Z<|.ref pD]/\AF H4 X) (λO X ⟨es,s5⟩=>?_) (λS=>?_);rotate_left
   .refine⟨_,W,g,_,2,_,W,W,L,at2,_,"list","list",W,W,.n<|.lst<|.inl Q,_,W,AQ ?_⟩;refine⟨_,W,g,_,2,_,W,W,L,at2,lz,ls,W,Ab.of Q,d8 lf.1 ac,λps xW=>⟨ps,_,W,AD,by have:=Gq ls;exact d8 (am this lf.1) ac,λp6 ss H6 zJ s6 f6 pm so=>?_⟩⟩;have e6:ss=ls:=Bs so lf.2.2 (pm.trans<|(K7 (QD ls) lf.2.1).mpr λa=>LN);subst e6;have Y:=(AF.new xW).trans s6;refine⟨_,W,g,_,2,_,W,W,L.up Y,at2,p6,lz,_,_,W,W,Ab.of f6,Ab.of<|Y _ _ Q,fl,fl,?_⟩;rw[MV fl];refine⟨_,W,AQ ?_⟩;refine⟨_,W,g,_,2,_,W,W,L.up Y,at2,j5 _,λpe E=>?_⟩;have M:=Y.trans<|AF.new (o:=.lst []) E;have f7:upd H6 pe (.lst []) pe=Z (.lst []):=AD;generalize upd H6 pe (.lst [])=H7 at M f7⊢;refine⟨lz,pe,_,W,W,Ab.of<|M _ _ Q,Ab.of f7,_,W,?_⟩;rcases ml with⟨rfl,_⟩|⟨rfl,rfl⟩
    .refine Bh (λ_=>?_) (λ_=>AQ<|S _ _ ⟨W,M⟩);exact⟨_,W,g,_,3,_,W,W,L.up M,Aa (j:=3) W,_,W,AQ<|S _ _ ⟨W,M⟩⟩
    .exact AQ<|AQ<|S _ _ ⟨W,M⟩
   .subst es;have ef:=L.up s5;have fH:=s5 _ _ Q;have Yn:=s5 _ _<|s4 _ _ A;have li:∀i,i<ls.length->(ls.map V.str)[i]?=Z (.str<|ls.getD i ""):=λi k=>by
     rw[b6,zc k,b7,zc k];rfl
    refine⟨_,W,g,_,2,_,W,W,ef,at2,lz,W,⟨_,Ab.of fH⟩,?_⟩;have I:∀{l:Addr}{J:List V},X l=ν->upd X l (.lst J) lz=Z (.lst<|ls.map V.str):=λh=>(AH<|Al fH h).trans fH;refine DG (n:=ls.length) (λi=>.str<|ls.getD i "") (λi=>.str<|ls.getD i "") (λi=>decide<|ls.getD i ""∈ks) (AX<|am lf.1 ac) (λi l J k b=>⟨_,_,Ab.of<|I b,li i k⟩) (λi l J v H' k b y=>?_) (λl J b=>⟨_,Ab.of<|I b,by rw[bi];exact bv _⟩) (λi l J R k b r=>?_) (λi l J R k b _ r=>⟨_,W,r⟩) λl b=>?_
    .obtain⟨e,y⟩:=y;have:=y _<|Ab.of<|I b;rw[li i k]at this;exact⟨(ze this).symm,e⟩
    .have gQ:upd X l (.lst J) a=Z (.dK p):=(AH<|Al Yn b).trans Yn;refine⟨_,W,_,W,g,_,1,_,W,W,ef.put b,CL,a,_,W,.inl ⟨p,e9<|ls.getD i "",.inl gQ,W,W⟩,_,W,?_⟩;rw[FL Jg];exact r
    .rw[Ir ls λn=>decide<|n∈ks];have e0:ls.filter (λn=>decide<|n∈ks)=[]:=aa1.mpr λx hx=>GT<|dj x hx
     rw[e0];obtain⟨H6,eH,s6,f6⟩:=Dj (o:=.lst<|([]:List Str).map V.str) b;rw[eH];clear eH;refine⟨j5 _,λpe E=>?_⟩;have M:=s6.trans<|AF.new (o:=.lst []) E;refine⟨l,pe,_,W,W,Ab.of<|(AF.new E) _ _ f6,Ab.of AD,_,W,AQ<|key _ _ ⟨pD,_,W,((s.trans s4).trans s5).trans M,.inl<|M _ _<|s5 _ _ f4,ra⟩⟩
 .subst es;have lv:=rv.length;rw[Ak.AV,bi]at lv;have lx:=Ak.CQ B;have gi:∀{i:Nat}{x:V},d[i]?=Z x->d.getD i .AZ=x:=λh=>by rw[b7,h];rfl
  refine⟨_,W,D,W,⟨_,.inl hD⟩,CO (n:=d.length) (λi=>d.getD i .AZ) (λ_ v=>v=.bl true) (AX<|am (bm lv)<|am (am lx kz) ac) (λi H2 k s=>⟨_,_,s.seq<|.inl hD,zc k⟩) (λi H2 v H' k s y=>?_) (λH2 s=>⟨_,s.seq<|.inl hD,bv _⟩) (λi H2 R k s r=>?_) λD3 H6 rs kZ s6 d6 lr or=>?_⟩
  .obtain⟨e,y⟩:=y;exact⟨(gi<|y _<|s.seq<|.inl hD).symm,e⟩
  .obtain⟨x,hx⟩:∃x,d[i]?=Z x:=⟨_,zc k⟩;obtain⟨px,g1,vx⟩:=rv.get hx;obtain⟨ζ,U⟩:∃ζ,B[i]?=Z ζ:=⟨_,zc<|bn k<|bm lv⟩;rw[Ak.AV,b6,U]at g1;cases g1;have m1:=zf U;have d1:=Ak.Au m1;have z1:=Ak.Ae m1;rw[gi hx];exact⟨_,W,G,x,ζ,W,(pl.up s5).up s,vx,Ak.BB ko _ m1,Ak.QO kg _ m1,am d1 kd,am z1 kz,λH3 s3=>r _ H3 s3 W⟩
  have e:rs=(r4 d.length true).map V.bl:=by
   rw[List.map_replicate];refine List.eq_replicate_iff.mpr ⟨lr,λz hz=>?_⟩;obtain⟨i,k,rfl⟩:=List.getElem_of_mem hz;exact or i _<|zc k
  rw[e]at d6;refine⟨D3,_,W,Ab.of d6,?_⟩;have ea:(r4 d.length true).all id=true:=by simp
  rw[ea];refine⟨_,W,AQ ?_⟩;have s56:=s5.trans s6;refine⟨_,W,_,W,g,_,-1,.bl m,W,W,ht.up s56,kl,m,W,?_⟩;cases m with
  |true=>exact As (q _ s56)|false=>
   refine AQ ?_;have rS:=hD.up<|s6 _;have kn:Ak.CW B=none:=km.resolve_left (λz=>nomatch z);obtain⟨j,xj,hj,wj⟩:=Ak.Mt kn;refine⟨_,W,D,W,⟨_,.inl rS⟩,?_⟩;have I:∀{l:Addr}{J:List V},H6 l=ν->Ab K (upd H6 l<|.lst J) D d:=λh=>(AF.new h).seq<|.inl rS;refine DG (n:=d.length) (λi=>d.getD i .AZ) (λi=>d.getD i .AZ) (λi=> !decide ((B.getD i .any).word="just")) (AX<|am (bm lv)<|am (am lx kz) ac) (λi l J k b=>⟨_,_,I b,zc k⟩) (λi l J v H' k b y=>?_) (λl J b=>⟨_,I b,bv _⟩) (λi l J R k b r=>?_) (λi l J R k b _ r=>⟨_,W,r⟩) λl b=>?_
   .obtain⟨e,y⟩:=y;exact⟨(gi<|y _<|I b).symm,e⟩
   .obtain⟨x,hx⟩:∃x,d[i]?=Z x:=⟨_,zc k⟩;obtain⟨px,g1,vx⟩:=rv.get hx;obtain⟨ζ,U⟩:∃ζ,B[i]?=Z ζ:=⟨_,zc<|bn k<|bm lv⟩;rw[Ak.AV,b6,U]at g1;cases g1;have ex:B.getD i .any=ζ:=by rw[b7,U];rfl
    rw[gi hx];rw[ex]at r;obtain⟨t1,r1,rfl,h1⟩:=((pl.up s56).val vx).word;refine⟨_,W,t1,_,0,_,W,W,h1.put b,C',W,_,W,?_⟩;have ed:decide (V.str ζ.word=V.str "just")=decide (ζ.word="just"):=by
     rw[ul,decide_eq_true_iff,decide_eq_true_iff];exact⟨V.str.inj,λz=>by rw[z]⟩
    rw[ed];exact r
   .have M:=AF.new (o:=.lst<|((j9 d.length).filter λi=> !decide ((B.getD i .any).word="just")).map λi=>d.getD i .AZ) b;have ne:(((j9 d.length).filter λi=> !decide ((B.getD i .any).word="just")).map λi=>d.getD i V.AZ).isEmpty=false:=by
     have xX:=(zd hj).1;have ex:B.getD j .any=xj:=by rw[b7,hj];rfl
     have hm:d.getD j V.AZ∈((j9 d.length).filter λi=> !decide ((B.getD i .any).word="just")).map λi=>d.getD i V.AZ:=u7.mpr ⟨j,E5.mpr ⟨zw.mpr<|bn xX<|bm lv.symm,by rw[ex];simpa using wj⟩,W⟩;cases hc:((j9 d.length).filter λi=> !decide ((B.getD i .any).word="just")).map λi=>d.getD i V.AZ with
     |nil=>rw[hc]at hm;exact nomatch hm
     |cons _ _=>rfl
    have f7:upd H6 l (.lst<|((j9 d.length).filter λi=> !decide ((B.getD i .any).word="just")).map λi=>d.getD i .AZ) l=Z (.lst<|((j9 d.length).filter λi=> !decide ((B.getD i .any).word="just")).map λi=>d.getD i .AZ):=AD;generalize upd H6 l (.lst<|((j9 d.length).filter λi=> !decide ((B.getD i .any).word="just")).map λi=>d.getD i .AZ)=H7 at M f7⊢;refine⟨j5 _,λpe E=>⟨l,pe,_,W,W,Ab.of<|(AF.new E) _ _ f7,Ab.of AD,?_⟩⟩;rw[ne];exact q _<|(s56.trans M).trans<|AF.new E
theorem Li{f:Addr}{fd:AT}(F:Fq K "_law_is_good" 47 f fd)(T:Txt mg)(b:Binds K fd lqk [])(m:mg "_law_is_good"=Z (.ref f))(c:mg "set"=ν):∀n:Nat,Ar P w K mg base CA n f fd lqk (IL n)
 |0=>GZ (λvs H Q E h=>by obtain⟨_,_,a,_,_,_,_,_,d,_⟩:=h;have:=Ak.DV a;lia)
 |n+1=>Vv F T (Df.mk' F b m (Li F T b m c n)) c
theorem RA(F:Fq K "_law_rows_meet" 48 f fd)(T:Txt mg)(A:Df P w K mg base "_law_meet" lqf n (YU n)):Ar P w K mg base CA (n+1) f fd lqf (eT (n+1)):=by
 refine F.oq ["_law_one","_law_other","_law_least","_law_here"] λH En _ Y ζ hr h=>?_;obtain⟨v,y,xs,a,m,k,rfl,hv,hy,ma,mb,Yj,q⟩:=h;refine gen (AA (Ad 2 Y<|Am (UY W) W T.min iO<|AB (CH K T<|Ay K 0)<|AU<|CH K T<|Ay K 1)<|AA (Sg (BQ<|Ap<|AB (pv 0)<|AU<|pv 1) (Dn 3 Y)<|AE<|AO (PW.pt<|pw_and (Cj<|Ag<|Ay K 3)<|pw_and1<|AK FT (CH K T<|Ay K 3) (Am (MD W) W T.max bj<|AB (CH K T<|Ay K 0)<|AU<|CH K T<|Ay K 1)<|AL _) (AE<|AI Bp) AJ)<|AE<|AI<|Am (Eh W) W T.all MU<|AU<|cmp lqf [0,1] (BU W T.range<|AU<|pv 2) λ_ _ _ _=>(BM A hr<|AB (FN K (Ay K 1)<|pv 0)<|AU<|FN K (Ay K 2)<|pv 0)) λX hX=>?_;obtain⟨l,w0,rest,ht,cs⟩:=hv.ak;obtain⟨t1,w1,cR,B,NC⟩:=hy.ak;rcases cs with _|_|⟨_,_,u,ζ⟩;rcases NC with _|_|⟨_,_,u1,nh⟩;obtain⟨a1,c,rfl,C,r1⟩:=ζ.Fd;obtain⟨M,d,rfl,E,r2⟩:=nh.Fd;have lv:=r1.length;have lw:=r2.length;rw[Ak.AV,bi]at lv lw;have wa:=ma.wt;have wb:=mb.wt;simp only[Ak.wt]at wa wb;have:=Ak.CQ xs;have:=Ak.CQ a;have:=Ak.B_ xs;have:=Ak.B_ a;subst hX;refine⟨_,W,l,_,1,_,W,W,ht,CL,a1,_,W,.inl<|.inl C,_,W,t1,_,1,_,W,W,B,CL,M,_,W,.inl<|.inl E,_,_,W,?_⟩;dsimp only[BY];rw[show(if((d.length:Nat):Int)<((c.length:Nat):Int)then((d.length:Nat):Int)else((c.length:Nat):Int))=((min xs.length a.length:Nat):Int)by split<;>lia];have no:(Ak.cells m xs.length a.length=false∨Ak.cells k a.length xs.length=false)->∀H',AF H H'->En.rt (.bl false) H':=λh H' s=>by
  have:=q H' s;rwa [show Ak.meet (.row xs m) (.row a k)=false by rcases h with h|h<;>simp[Ak.meet,h],F7]at this
 refine⟨_,W,_,W,Ac,λp hp=>⟨p,W,⟨_,Ab.of AD⟩,?_⟩⟩;obtain⟨H1,eH,s1,f1⟩:=Dj (o:=.lst [.ref l,.ref t1]) hp;rw[eH];clear eH;refine Dy (xs:=[.ref l,.ref t1]) (λj σ Hj=>∃o3:Option V,σ=[Z<|.ref l,Z<|.ref t1,Z<|.int ((min xs.length a.length:Nat):Int),o3]/\AF H1 Hj/\(0<j->Ak.cells m xs.length a.length=true)/\(1<j->Ak.cells k a.length xs.length=true)) ⟨ν,W,AF.refl _,λh=>by lia,λh=>by lia⟩ (λj σ Hj _ z=>by obtain⟨_,_,G,_⟩:=z;exact Ab.of<|G _ _ f1) ?_ ?_
 .refine λj x σ Hj _ go N h0=>Lo λX hX=>?_;obtain⟨o3,rfl,G,c1,c2⟩:=h0;have O:=s1.trans G;have t:=ht.up O;have b:=B.up O;have e:Ab K Hj a1 c:=.inl<|C.up<|O _;have g:Ab K Hj M d:=.inl<|E.up<|O _;have mx:(if((d.length:Nat):Int)>((c.length:Nat):Int)then((d.length:Nat):Int)else((c.length:Nat):Int))=((max xs.length a.length:Nat):Int):=by split<;>lia
  subst hX;rcases j with _|_|j
  .cases N;refine⟨_,W,l,_,2,_,W,W,t,at2,_,W,?_⟩;cases m with
   |true=>exact AQ (AQ (go.n ⟨_,W,G,λ_=>rfl,λh=>by lia⟩))|false=>
    refine As ⟨_,W,l,_,1,_,W,W,t,CL,a1,_,W,.inl e,_,W,l,_,1,_,W,W,t,CL,a1,_,W,.inl e,_,W,t1,_,1,_,W,W,b,CL,M,_,W,.inl g,_,_,W,?_⟩;rw[mx];refine⟨_,_,W,W,_,W,Bh (λh=>?_) λh=>go.n ⟨_,W,G,λ_=>?_,λh=>by lia⟩⟩
    .have h:=of_decide_eq_true h;exact go.r<|no (.inl<|by simp[Ak.cells];lia) _ O
    .have h:=of_decide_eq_false h;simp[Ak.cells];lia
  .cases N;refine⟨_,W,t1,_,2,_,W,W,b,at2,_,W,?_⟩;cases k with
   |true=>exact AQ (AQ (go.n ⟨_,W,G,λ_=>c1 ac,λ_=>rfl⟩))|false=>
    refine As ⟨_,W,t1,_,1,_,W,W,b,CL,M,_,W,.inl g,_,W,l,_,1,_,W,W,t,CL,a1,_,W,.inl e,_,W,t1,_,1,_,W,W,b,CL,M,_,W,.inl g,_,_,W,?_⟩;rw[mx];refine⟨_,_,W,W,_,W,Bh (λh=>?_) λh=>go.n ⟨_,W,G,λ_=>c1 ac,λ_=>?_⟩⟩
    .have h:=of_decide_eq_true h;exact go.r<|no (.inr<|by simp[Ak.cells];lia) _ O
    .have h:=of_decide_eq_false h;simp[Ak.cells];lia
  .simp at N
 rintro σ HD ⟨o3,rfl,sD,c1,c2⟩;have S:=s1.trans sD;have c1:=c1 GE;have c2:=c2 GE;have hm:Ak.meet (.row xs m) (.row a k)=true:=by simp[Ak.meet,c1,c2]
 rw[hm,zk]at q;refine⟨_,W,((min xs.length a.length:Nat):Int),W,F6 ac<|wT _,z_,?_⟩;refine CO (n:=min xs.length a.length) (λi=>.int<|0+(i:Int)) (λi v=>∃p,(xs.zip a)[i]?=Z p/\v=.bl (Ak.mt p.1 p.2)) (AX z_) (λi H2 I Q=>I) (λi H2 v H' I Q y=>⟨y.2,y.1⟩) (λH2 Q=>bv _) (λi H2 R I Q r=>?_) λD H2 rs hD Q d2 lr or=>?_
 .have e0:(0:Int)+(i:Int)=(i:Int):=aaT _;rw[e0];obtain⟨x,N⟩:=BH c i<|bn I<|am (J3 _ _)<|bm lv.symm;obtain⟨y,hy⟩:=BH d i<|bn I<|am (U4 _ _)<|bm lw.symm;obtain⟨ax,J⟩:=BH xs i<|bn I<|J3 _ _;obtain⟨ay,L⟩:=BH a i<|bn I<|U4 _ _;obtain⟨px,g1,vx⟩:=r1.get N;obtain⟨py,g2,vy⟩:=r2.get hy;rw[Ak.AV,b6,J]at g1;rw[Ak.AV,b6,L]at g2;cases g1;cases g2;have m1:=zf J;have d1:=Ak.Au m1;have U:=S.trans Q;simp only[Ak.deep]at Yj;exact⟨_,W,l,_,1,_,W,W,ht.up U,CL,_,W,a1,_,_,x,W,W,.inl<|C.up<|U _,Aa N,_,W,t1,_,1,_,W,W,B.up U,CL,_,W,M,_,_,y,W,W,.inl<|E.up<|U _,Aa hy,x,y,ax,ay,W,vx.up U,vy.up U,ma.row ax m1,mb.row ay<|zf L,z_,λH3 s3=>r _ H3 s3 ⟨(ax,ay),u9.mpr ⟨J,L⟩,W⟩⟩
 .rw[Hy (ps:=xs.zip a) (f:=λp=>Ak.mt p.1 p.2) (vs:=rs) (by rw[Rs];exact lr) or]at d2;refine⟨D,_,W,Ab.of d2,?_⟩;rw[<-Ak.UC];exact q H2<|S.trans Q
theorem bH(F:Fq K "_law_meet" 49 f fd)(T:Txt mg)(Q_:Df P w K mg base "_law_lets" lqi 20 (FK 20))(N:Df P w K mg base "_law_rows_meet" lqf n (eT n))(Yo:Df P w K mg base "_law_meet" lqf n (YU n)):Ar P w K mg base CA (n+1) f fd lqf (YU (n+1)):=by
 refine F.oq ["_law_one","_law_other","_law_here","_law_there","_law_name"] λH _ _ EW J hr h=>?_;obtain⟨v,y,a,b,rfl,hv,hy,ma,mb,Yj,q⟩:=h;refine gen (AA (AO (PW.pt<|pw_or (AK Aj (Ay K 0) AS<|AL _)<|pw_or1<|AK Aj (Ay K 1) AS<|AL _) (AE<|AI Bp) AJ)<|AA (AO (AK Aj (Ay K 0) AS<|AL _) (AE<|AI<|BM Q_ hr<|AB (pv 1)<|AU<|Ay K 0) AJ)<|AA (AO (AK Aj (Ay K 1) AS<|AL _) (AE<|AI<|BM Q_ hr<|AB (pv 0)<|AU<|Ay K 1) AJ)<|AA (AO (AK KQ (Ay K 0) (Ay K 1)<|AL _) (AE<|AI Bp) AJ)<|AA (AO (AK Aj (Ay K 0) AS<|AL _) (AE<|AI<|BM N hr<|AB (pv 0)<|AU<|pv 1) AJ)<|AA (Sg (BQ<|Ap<|AB (Ao<|AB (pv 0)<|AU<|pv 1)<|AU<|Ao<|AB (pv 1)<|AU<|pv 0) (cm W<|Ol (Dn 2 EW)<|Ol (Dn 3 EW) ZA)<|AE<|NY<|Sg (ER<|Ay K 2) (Dn 4 EW)<|AE<|AO (PW.pt<|pw_and (Gf<|Ef J (pv 4)<|Ay K 3)<|pw_and1<|PW.pt<|pw_or (AK (Dv:DA _ _ (WT K false)) (pv 4) (Ay K 3) W)<|pw_or1<|Cj<|Ag<|Ay K 3) (AE<|AI Bp) AJ)<|AE<|AI<|Am (Eh W) W T.all MU<|AU<|Hg<|HZ (fv:=lqf) (fs:=[0,1]) W (.of<|by rfl) (ER<|Ay K 0) (λC s0 H0 fp=>GB<|Gf<|Ie J (pv 0)<|Ay K 2) λC s0 H0 fp=>(BM Yo hr<|AB (Qi J (Ay K 1)<|pv 0)<|AU<|Qi J (Ay K 2)<|pv 0)) λX hX=>?_;obtain⟨B,w0,rest,ht,cs⟩:=hv.ak;obtain⟨t1,w1,cR,Q,NC⟩:=hy.ak;have sH:=AF.refl H;subst hX;refine⟨_,W,B,_,0,_,W,W,ht,C',W,_,W,?_⟩;by_cases h1:w0="any"
 .have:=cs.isAny h1;subst this;simp only[Ak.mt]at q;exact Bf (cL h1)<|As<|q H sH
 refine BP (cM h1) ⟨_,W,t1,_,0,_,W,W,Q,C',W,_,W,?_⟩;by_cases h2:w1="any"
 .have:=NC.isAny h2;subst this;rw[Ak.OH]at q;exact Bf (cL h2)<|q H sH
 refine BP (cM h2) ⟨_,W,B,_,0,_,W,W,ht,C',W,_,W,?_⟩;have za:=a.Cw;have zb:=b.Cw;have wa:=ma.wt;have wb:=mb.wt;by_cases h3:w0="just"
 .obtain⟨d,u,rfl,rfl,J⟩:=cs.OO h3;have G:=ma.ok;simp only[Ak.ok]at G;have:=Pt.Fy d G.2.1;simp only[Ak.mt]at q;exact Bf (cL h3) ⟨_,W,_,W,B,_,1,u,W,W,ht,CL,.ref t1,u,b,d,W,hy,J,mb.Az,G.2.1,am zb wb,am (am this G.2.2) ac,mb.dp,mb.de,q⟩
 refine BP (cM h3) ⟨_,W,t1,_,0,_,W,W,Q,C',W,_,W,?_⟩;by_cases h4:w1="just"
 .obtain⟨d,u,rfl,rfl,J⟩:=NC.OO h4;have G:=mb.ok;simp only[Ak.ok]at G;have:=Pt.Fy d G.2.1;rw[show Ak.mt a (.AY d)=Ak.lets a d by rcases cs with _|_|_|_<;>first|exact absurd rfl h1|exact absurd rfl h3|simp only[Ak.mt]]at q;exact Bf (cL h4) ⟨_,W,_,W,t1,_,1,u,W,W,Q,CL,.ref B,u,a,d,W,hv,J,ma.Az,G.2.1,am za wa,am (am this G.2.2) ac,ma.dp,ma.de,q⟩
 refine BP (cM h4) ⟨_,W,B,_,0,_,W,W,ht,C',_,W,t1,_,0,_,W,W,Q,C',W,_,W,?_⟩;rcases cs with _|⟨d,u,RF⟩|⟨xs,m,u,RF⟩|⟨g,xs,ls,m,u,z,RF,gH⟩
 .exact absurd W h1
 .exact absurd W h3
 .rcases NC with _|⟨d,u1,U⟩|⟨ys,E,u1,U⟩|⟨t,ys,os,E,u1,z1,U,e_⟩
  .exact absurd W h2
  .exact absurd W h4
  .simp only[Ak.mt]at q;exact C_<|Gz ht ⟨_,W,_,W,.ref B,.ref t1,xs,ys,m,E,W,hv,hy,ma,mb,z_,q⟩
  .simp only[Ak.mt]at q;exact Ep<|q H sH
 rcases NC with _|⟨d,u1,U⟩|⟨ys,E,u1,U⟩|⟨t,ys,os,E,u1,z1,U,e_⟩
 .exact absurd W h2
 .exact absurd W h4
 .simp only[Ak.mt]at q;exact Ep<|q H sH
 simp only[Ak.mt]at q;refine C_<|JP ht ?_;obtain⟨a1,A,rfl,Yx,Jg,ra⟩:=RF.Nd;obtain⟨b1,I,rfl,ew,Th,rb⟩:=U.Nd;obtain⟨l0,Ye,rfl,Yw,jI⟩:=gH.Fd;obtain⟨l1,kX,rfl,Zc,jE⟩:=e_.Fd;have e0:=CF jI;have e1:=CF jE;subst e0 e1;have oa:=ma.ok;have ob:=mb.ok;simp only[Ak.ok]at oa ob;have kl:=EU Jg;have zK:=EU Th;refine⟨_,W,_,W,Ac,λp hp=>?_⟩;obtain⟨H1,eH,sp,fp⟩:=Dj (o:=.tup [.ref B,.ref t1]) hp;rw[eH];clear eH;refine⟨_,W,_,W,Ac,λp2 bC=>?_⟩;obtain⟨H2,eH,fY,xY⟩:=Dj (o:=.tup [.ref t1,.ref B]) bC;rw[eH];clear eH;refine⟨Ac,.mk λp3 H3 jG oo rT=>⟨p3,W,⟨_,Ab.of rT⟩,?_⟩⟩;have s3:=(sp.trans fY).trans oo;refine Dy (xs:=[.ref p,.ref p2]) (λj σ L=>∃o2 o3 Y:Option V,σ=[Z<|.ref B,Z<|.ref t1,o2,o3,Y]/\AF H3 L/\(0<j->Ak.cnames t os E g=true)/\(1<j->Ak.cnames g ls m t=true)) ⟨ν,ν,ν,W,AF.refl _,λh=>by lia,λh=>by lia⟩ (λj σ L _ z=>by obtain⟨_,_,_,_,sj,_⟩:=z;exact Ab.of<|sj _ _ rT) ?_ ?_
 .refine λj x σ L e go hx h0=>Lo λX hX=>?_;obtain⟨o2,o3,Y,rfl,sj,c1,c2⟩:=h0;have S:=s3.trans sj;have inner:∀(th O a b l z:Addr)(A I:List (Key×V))(g t os:List Str)(v0:V)(m E:Bool),BO K L th [.str "table",.ref a,v0,.bl m]->BO K L O [.str "table",.ref b,.ref l,.bl E]->Rd L a (.dK A)->Rd L b (.dK I)->Rd L l (.lst<|os.map V.str)->A.map (·.1)=g.map e9->I.map (·.1)=t.map e9->(Ak.cnames t os E g=false->∀ζ,AF L ζ->e.rt (.bl false) ζ)->(Ak.cnames t os E g=true->∀Y ζ,AF L ζ->e.nx [Z<|.ref B,Z<|.ref t1,Z<|.ref th,Z<|.ref O,Y] ζ)->X e [Z<|.ref B,Z<|.ref t1,Z<|.ref th,Z<|.ref O,Y] L:=λth O a b l z A I g t os v0 m E h1 h2 h3 h4 h5 h6 h7 kF kT=>by
   subst hX;have kl:=EU h6;refine⟨a,A,h3,λo Hf F=>⟨_,W,th,_,1,_,W,W,h1.Je<|.Ca F,CL,a,o,A,W,F.at_,?_⟩⟩;refine PZ (λi σ Hi=>∃Y:Option V,σ=[Z<|.ref B,Z<|.ref t1,Z<|.ref th,Z<|.ref O,Y]/\AF Hf Hi/\((g.take i).map<|Ak.QV t os E).all id=true) ⟨Y,W,AF.refl _,W⟩ (λi σ Hi _ ⟨_,_,s,_⟩=>s _ _ F.at_) ?_ ?_
   .refine λi key y σ Hi _ go2 hy h0=>?_;obtain⟨o5,rfl,si,al⟩:=h0;have kI:JG L Hi:=(JG.Ca F).trans<|.of si;obtain⟨c,hk⟩:=BH g i (by have:=Cd hy;exact bn this<|bm kl);have ek:key=e9 c:=by
     have:=congrArg (λz=>z[i]?) h6;simp only[b6,hy,hk]at this;exact ze this
    subst ek;have nx:Ak.QV t os E c=true->∃Y:Option V,[Z<|V.ref B,Z<|V.ref t1,Z<|V.ref th,Z<|V.ref O,Z<|kV<|e9 c]=[Z<|V.ref B,Z<|V.ref t1,Z<|V.ref th,Z<|V.ref O,Y]/\AF Hf Hi/\((g.take<|i+1).map<|Ak.QV t os E).all id=true:=λh=>⟨_,W,si,by rw[u8,hk,sU,R0,al];simpa using h⟩;have stop:Ak.QV t os E c=false->e.rt (.bl false) (back a L Hi):=λh=>kF (aal.mpr λz=>Bool.noConfusion<|(show Ak.QV t os E c=true from re.mp z _ (A1<|zf hk)).symm.trans h) _<|F.back si;dsimp only[BY];refine⟨_,W,_,W,O,_,1,_,W,W,h2.Je kI,CL,b,_,W,.inl ⟨I,e9 c,kI.rd _ _ h4,W,W⟩,_,W,?_⟩;rw[FL h7];by_cases hm:c∈t
    .rw[decide_eq_true hm];exact AQ<|AQ<|go2.n<|nx<|by simp[Ak.QV,hm]
    .rw[decide_eq_false hm];refine As ⟨_,W,_,W,O,_,2,_,W,W,h2.Je kI,at2,l,_,W,.inl<|.inl<|kI.rd _ _ h5,W,by rw[G8];exact re.mpr λ_ _=>rfl,_,W,?_⟩;have hv:Yr (V.str c) (os.map V.str)=decide (c∈os):=DS c os;by_cases ho:c∈os
     .exact Bf (hv.trans<|decide_eq_true ho)<|As<|go2.r ⟨si _ _ F.at_,stop<|by simp[Ak.QV,hm,ho]⟩
     .refine BP (hv.trans<|decide_eq_false ho) ⟨_,W,O,_,3,_,W,W,h2.Je kI,Aa (j:=3) W,_,W,?_⟩;cases E with
      |true=>exact AQ (go2.n (nx (by simp[Ak.QV,hm,ho])))|false=>exact As (go2.r ⟨si _ _ F.at_,stop (by simp[Ak.QV,hm,ho])⟩)
   .rintro σ Hi ⟨o5,rfl,si,al⟩;rw[kl,xL]at al;exact⟨si _ _ F.at_,kT al _ _<|F.back si⟩
  have tg:∀(q0 th O:Addr),L q0=Z (.tup [.ref th,.ref O])->X e [Z (.ref B),Z (.ref t1),Z (.ref th),Z (.ref O),Y] L->gs K 2 (WC (BY 2) (WC (BY 3) gq)) (.ref q0) [Z (.ref B),Z (.ref t1),o2,o3,Y] L (X e):=λq0 th O h k=>⟨q0,_,W,BO.of h,W,_,_,W,_,_,W,W,k⟩;have hT:=ht.up S;have ja:=Q.up S;have no:(Ak.cnames g ls m t=false∨Ak.cnames t os E g=false)->∀ζ,AF L ζ->e.rt (.bl false) ζ:=λh ζ s=>go.r (by
   have:=q ζ (S.trans s);rwa [show Ak.meet (.tab g xs ls m) (.tab t ys os E)=false by rcases h with h|h<;>simp[Ak.meet,h],F7]at this)
  rcases j with _|_|j
  .cases hx;exact tg p B t1 (sj _ _<|oo _ _<|fY _ _ fp)<|inner B t1 a1 b1 l1 l0 A I g t os _ m E hT ja (Yx.up<|S _) (ew.up<|S _) (Zc.up<|S _) Jg Th (λh=>no<|.inr h) λh o ζ s=>go.n ⟨_,_,o,W,sj.trans s,λ_=>h,λh=>by lia⟩
  .cases hx;exact tg p2 t1 B (sj _ _<|oo _ _ xY)<|inner t1 B b1 a1 l0 l1 I A t g ls _ E m ja hT (ew.up<|S _) (Yx.up<|S _) (Yw.up<|S _) Th Jg (λh=>no<|.inl h) λh o ζ s=>go.n ⟨_,_,o,W,sj.trans s,λ_=>c1<|A6<|bv _,λ_=>h⟩
  .simp at hx
 rintro σ HD ⟨o2,o3,Y,rfl,sD,c1,c2⟩;have S:=s3.trans sD;have c1:=c1 GE;have c2:=c2 GE;have xZ:Ak.meet (.tab g xs ls m) (.tab t ys os E)=true:=by simp[Ak.meet,c1,c2]
 rw[xZ,zk]at q;have hT:=ht.up S;have ja:=Q.up S;have ha:=Yx.up<|S _;have hb:=ew.up<|S _;simp only[Ak.deep]at Yj;refine⟨a1,A,ha,λo Hf F=>⟨_,W,B,_,1,_,W,W,hT.Je<|.Ca F,CL,a1,o,A,W,F.at_,?_⟩⟩;have kI:∀{Hi:Hp},AF Hf Hi->JG HD Hi:=λs=>(JG.Ca F).trans<|.of s;refine MS (n:=g.length) (λi=>.str<|g.getD i "") (λi=>.bl<|Ak.mt (xs.getD i .any)<|(lk t ys<|g.getD i "").getD .any) (λi=>decide<|g.getD i ""∈t) (AX<|am (gt oa.2.2.2.1) ac) (λi H2 hi M=>⟨M _ _ F.at_,bn hi<|bm kl.symm⟩) (λi H2 v ζ hi M y=>?_) (λH2 M=>⟨M _ _ F.at_,kl.symm⟩) (λi H2 R hi M r=>?_) (λi H2 R hi M pi r=>?_) λD H2 hD M d2=>?_
 .obtain⟨e,k,w',e1,e2⟩:=y;rw[(Kx Jg e1).2]at e2;exact⟨e2,e⟩
 .refine⟨_,W,_,W,t1,_,1,_,W,W,ja.Je<|kI M,CL,b1,_,W,.inl ⟨I,e9<|g.getD i "",(kI M).rd _ _ hb,W,W⟩,_,W,?_⟩;rw[FL Th];exact r _<|AF.refl _
 .obtain⟨c,hk⟩:=BH g i hi;obtain⟨ax,Ob⟩:=BH xs i<|bn hi<|bm oa.1;have e1:g.getD i ""=c:=by rw[b7,hk];rfl
  have e2:xs.getD i .any=ax:=by rw[b7,Ob];rfl
  rw[e1]at pi r⊢;rw[e2]at r;obtain⟨ay,lC⟩:=CD ob.1<|of_decide_eq_true pi;rw[lC]at r;have lm:∀{g:List Str}{xs:List Ak},Pt.look g (Ak.EZ xs) c=(lk g xs c).map Ak.pt:=λ{g xs}=>by rw[Ak.AV];exact Ea Ak.pt
  rcases Val.Dr Jg ra c with⟨x,tx,k1,k2,vx⟩|⟨_,k2⟩
  .rcases Val.Dr Th rb c with⟨y,ty,g1,g2,vy⟩|⟨_,g2⟩
   .rw[lm,Ak.UD oa.1 oa.2.1 hk Ob]at k2;rw[lm,lC]at g2;cases k2;cases g2;have m1:=zf Ob;have d1:=Ak.Au m1;have kk:JG H H2:=(JG.of S).trans<|kI M;exact⟨_,W,B,_,1,_,W,W,hT.Je<|kI M,CL,_,W,a1,x,W,.inl ⟨A,e9 c,(kI M).rd _ _ ha,W,k1.symm⟩,_,W,t1,_,1,_,W,W,ja.Je<|kI M,CL,_,W,b1,y,W,.inl ⟨I,e9 c,(kI M).rd _ _ hb,W,g1.symm⟩,x,y,ax,ay,W,vx.Je kk,vy.Je kk,ma.tab ax m1,mb.tab ay (Ax lC).2,z_,λH3 s3=>r H3 s3⟩
   .rw[lm,lC]at g2;cases g2
  .rw[lm,Ak.UD oa.1 oa.2.1 hk Ob]at k2;cases k2
 .refine⟨M _ _ F.at_,?_⟩;have d3:back a1 HD H2 D=Z (.lst<|(((j9 g.length).filter λi=>decide<|g.getD i ""∈t).map λi=>Ak.mt (xs.getD i .any)<|(lk t ys<|g.getD i "").getD .any).map V.bl):=by rw[Dq (F.free hD).2,d2,u5];rfl
  refine⟨D,_,W,Ab.of d3,?_⟩;rw[<-Ak.Vk oa.1 oa.2.1 ob.1];exact q _<|S.trans<|F.back M
theorem Yp{f g:Addr}{fd c:AT}(F:Fq K "_law_meet" 49 f fd)(d:Fq K "_law_rows_meet" 48 g c)(T:Txt mg)(b:Binds K fd lqf [])(m:mg "_law_meet"=Z (.ref f))(e:Binds K c lqf [])(i:mg "_law_rows_meet"=Z (.ref g))(a:Df P w K mg base "_law_lets" lqi 20 (FK 20)):∀n:Nat,Ar P w K mg base CA n f fd lqf (YU n)/\Ar P w K mg base CA n g c lqf (eT n)
 |0=>⟨GZ (λvs H Q E h=>by obtain⟨_,_,_,_,_,_,_,_,_,k,_⟩:=h;lia),GZ (λvs H Q E h=>by obtain⟨_,_,_,_,_,_,_,_,_,_,_,k,_⟩:=h;lia)⟩
 |n+1=>by
  obtain⟨j,l⟩:=Yp F d T b m e i a n;exact⟨bH F T a (Df.mk' d e i l)<|Df.mk' F b m j,RA d T<|Df.mk' F b m j⟩
theorem Yq(F:Fq K "_law_large" 50 f fd)(T:Txt mg)(d:Df P w K mg base "_law_mix" lqb 1 EO):Ar P w K mg base CA 2 f fd lqm Qg:=by
 refine F.oq ["_law_asks_here","_law_cell_here","_law_names_here","_law_way","_law_number","_law_k","_law_more","_law_cells"] λH _ _ e _ hr h=>?_;obtain⟨v,a0,c,nm,ys,rfl,hv,BN,za,da,cT,hn,q⟩:=h;refine⟨_,(AA (Ad 3 e<|AN Aq (BM d hr<|AB (pv 1)<|AU AG) AG)<|AA (Ad 4 e<|BM d hr<|AB (pv 1)<|AU AG)<|AA (AO (AK Aj (pv 3) AG<|AL _) (AE<|Sg (BU W T.range<|AU<|AN Bm AG<|AN Aq (pv 4) AG) (Dn 5 e)<|AA (Ad 6 e<|BD Aj (AN Aq (AN Bb (BM d hr<|AB (pv 1)<|AU AG)<|FN K (@Ap _ _ _ _<|M'<|M'<|M'<|M'<|M'<|M'<|M'<|M'<|M'<|M' BL)<|pv 5) AG) AG<|AL _)<|AE<|AO (AK Aj (AN Aq (AN Bb (BM d hr<|AB (pv 1)<|AU AG)<|FN K (@Ap _ _ _ _<|M'<|M'<|M'<|M'<|M'<|M'<|M'<|M'<|M'<|M' BL)<|pv 5) AG) AG<|AL _) (AE<|Ad 0 e<|Ao<|AB AS<|AB (Ap<|AU<|pv 0)<|AU<|pv 6)<|AE<|Ad 0 e<|Ao<|AB AS<|AB (NS (HW (FN K (pv 2)<|AN Aq (pv 5) AG) (pv 0) NR) W W GE GE)<|AB (Ap BL)<|AU<|pv 6) AJ)<|AA (AO (AK Aj (pv 3) AG<|AL _) (AA (DF (i:=7) (fv:=lqz) (fs:=[1]) W (.of<|by rfl) e W (Y3 W) (BU W T.range<|AU<|AN Bm AG<|AN Aq (pv 4) AG) (λ_ _ _ _=>HY) λC s0 H0 fp=>(FN K (Ap<|AB (Ao<|AU AS)<|AU<|Ao<|AB AS<|AU<|pv 0)<|AN Aq (AN Bb (BM d hr<|AB (pv 1)<|AU AG)<|AN Bm (pv 0) AG) AG))<|AE<|Ad 0 e<|Ao<|AB AS<|AB (AN RV (pv 7)<|Ap<|AU<|pv 0)<|AU<|BD Aj (AN Aq (AN Bb (pv 4) AG) AG) AG<|AL _) AJ)<|AE<|AI<|pv 0),?_⟩;refine⟨_,W,c,6,W,ac,λr6 _ _=>⟨_,_,W,W,BE,?_⟩⟩;generalize r6 % 8=wy;refine⟨_,W,c,7,W,ac,λE _ _=>?_⟩;dsimp only[BY];refine Dg (t:=Er _ _ _) (fun σ' H1=>∃(w:V)(b:Ak)(G I:Option V),σ'=[Z w,Z<|.int c,Z<|.ref nm,Z<|.int wy,Z<|.int E,G,I,ν]/\AF H H1/\Val H1 w b.pt/\b.ok/\b.size<=67/\b.deep<=15/\b.F'/\b.wt<=a0.wt+10/\(wy≠0->b.size<=57/\b.deep<=5/\b.wt<=a0.wt)) (fun σ' H1 ⟨w,b,G,I,es,s1,ζ,J,bz,bd,M,bq,bw⟩=>?_) (λkey=>?_);rotate_left
 .refine⟨_,W,W,_,W,Bh (λh0=>?_) λh0=>key _ _ ⟨v,a0,ν,ν,W,AF.refl H,hv,BN,am za ac,am da ac,cT,ci _ _,λ_=>⟨za,da,bv _⟩⟩⟩;have xa:wy=0:=V.int.inj<|of_decide_eq_true h0;have m5:=Dl E (n:=5) ac;obtain⟨k5,xb⟩:∃k:Nat,6+E % 5=(k:Int):=⟨_,(x5<|ad3 ac<|B7 _ ac).symm⟩;have k10:k5<=10:=by lia
  refine⟨_,W,_,_,W,W,BE,_,_,W,W,?_⟩;rw[xb];refine⟨k5,W,F6 ac<|wT _,zi (F5.mpr k10) ac,Du (lo:=0) (n:=k5) (λi σ Hi=>∃(w:V)(b:Ak)(G I:Option V),σ=[Z w,Z<|.int c,Z<|.ref nm,Z<|.int wy,Z<|.int E,G,I,ν]/\AF H Hi/\Val Hi w b.pt/\b.ok/\b.size<=57+i/\b.deep<=5+i/\b.F'/\b.wt<=a0.wt+i) ⟨v,a0,ν,ν,W,AF.refl H,hv,BN,lM za,lM da,cT,bv _⟩ ?_ ?_⟩
  .refine λi σ Hi _ go hi h0=>Lo λX hX=>?_;obtain⟨w,b,G,I,rfl,si,ζ,J,bz,bd,M,bq⟩:=h0;obtain⟨L,hL⟩:∃L:List V,L=[V.int 1,.int 2,.int 4,.int 8,.int 16,.int 32,.int 64,.int 128,.int 256,.int 512]:=⟨_,W⟩;obtain⟨v4,N,r⟩:=FZ (xs:=L) (i:=0+(i:Int)) z_ (by rw[hL];simp only[j3,B6];lia);have xc:∃m:Int,v4=.int m/\0<m/\m<1073741824:=by
    rw[hL]at r;simp only[j4,M9,or_false]at r;rcases r with rfl|rfl|rfl|rfl|rfl|rfl|rfl|rfl|rfl|rfl<;>exact⟨_,W,ac,ac⟩
   obtain⟨m,rfl,ec,gC⟩:=xc;rw[hL]at N;clear r hL;subst hX;refine⟨_,W,c,8,W,ac,λr8 _ _=>⟨AX<|show 10<=1000 by decide,λpl Zm=>⟨_,W,pl,_,_,_,W,W,Ab.of AD,N,_,_,W,W,⟨ec,gC⟩,_,_,W,W,BE,W,?_⟩⟩⟩;have sl:=AF.new (o:=.lst [V.int 1,.int 2,.int 4,.int 8,.int 16,.int 32,.int 64,.int 128,.int 256,.int 512]) Zm;generalize upd Hi pl (.lst [V.int 1,.int 2,.int 4,.int 8,.int 16,.int 32,.int 64,.int 128,.int 256,.int 512])=Hj at sl⊢;generalize decide (V.int (r8/m % 2)=V.int 1)=O;refine⟨_,W,c,9,W,ac,λr9 _ _=>⟨AX<|show 10<=1000 by decide,λrV ow=>⟨_,W,rV,_,_,_,W,W,Ab.of AD,N,_,_,W,W,⟨ec,gC⟩,_,_,W,W,BE,W,_,W,?_⟩⟩⟩;have Q:=AF.new (o:=.lst [V.int 1,.int 2,.int 4,.int 8,.int 16,.int 32,.int 64,.int 128,.int 256,.int 512]) ow;generalize upd Hj rV (.lst [V.int 1,.int 2,.int 4,.int 8,.int 16,.int 32,.int 64,.int 128,.int 256,.int 512])=Hk at Q⊢;have sk:=(si.trans sl).trans Q;have vk:=(ζ.up sl).up Q;refine Bh (λ_=>?_) λ_=>?_
   .refine⟨_,W,BZ,λg l=>⟨_,W,Ld,λp2 u=>?_⟩⟩;have t1:=AF.new (o:=.lst [w]) l;have A:upd Hk g (.lst [w]) g=Z (.lst [w]):=AD;generalize upd Hk g (.lst [w])=Hm at t1 A u⊢;have t2:=AF.new (o:=.tup [.str "row",.ref g,.bl O]) u;refine go.n ⟨.ref p2,.row [b] O,_,_,W,(sk.trans t1).trans t2,.tup (BO.of AD)<|.cons (.str _)<|.cons (.lst (.inl<|t2 _ _ A)<|.cons ((vk.up t1).up t2) .nil)<|.cons (.bl _) .nil,⟨J,trivial⟩,?_,?_,⟨M,trivial⟩,by simp only[Ak.wt,Ak.Bv];lia⟩
    .simp only[Ak.size,Ak.AM];lia
    .simp only[Ak.deep,Ak.AW];lia
   .have m4:=Dl (0+(i:Int)) (n:=4) ac;obtain⟨jj,UJ⟩:∃j:Nat,(0+(i:Int)) % 4=(j:Int):=⟨((0+(i:Int)) % 4).toNat,(x5 m4.1).symm⟩;obtain⟨y,hy⟩:=BH ys jj (by rw[hn.len];exact G9.mp<|UJ▸m4.2);refine λg l=>?_;have t1:=AF.new (o:=.dK []) l;refine⟨_,W,_,W,_,_,W,W,BE,nm,_,_,_,W,W,Ab.of<|(sk.trans t1) _ _ hn.at_,by rw[UJ];exact Aa<|by rw[b6,hy];rfl,_,W,AD,[(e9 y,w)],W,GE,?_⟩;have m1:CN [] [((e9 y:Key),w)]=[(e9 y,w)]:=rfl;rw[m1];have ff:AF Hk (upd (upd Hk g<|.dK []) g<|.dK [(e9 y,w)]):=t1.put l;have A:upd (upd Hk g<|.dK []) g (.dK [(e9 y,w)]) g=Z (.dK [(e9 y,w)]):=AD;generalize upd (upd Hk g<|.dK []) g (.dK [(e9 y,w)])=Hm at ff A⊢;refine⟨j5 _,.mk λp2 Hn u t2 f2=>⟨_,W,AX<|show 4<=1000 by decide,λp3 S=>?_⟩⟩;have t3:=AF.new (o:=.tup [.str "table",.ref g,.ref p2,.bl O]) S;have t12:=ff.trans t2;refine go.n ⟨.ref p3,.tab [y] [b] [] O,_,_,W,(sk.trans t12).trans t3,.tup (BO.of AD)<|.cons (.str _)<|.cons (.Ah (ks:=[y]) (.inl<|t3 _ _<|t2 _ _ A) W<|.cons ((vk.up t12).up t3) .nil)<|.cons (.lst (.inl<|t3 _ _ f2) .nil)<|.cons (.bl _) .nil,?_,?_,?_,⟨GE,M,trivial⟩,by simp only[Ak.wt,Ak.Bv];lia⟩
    .simp only[Ak.ok];exact⟨W,GE,λk hk=>by rw[io.mp hk];exact hn.nb _<|zf hy,GE,⟨GE,.nil,W⟩,λx hx=>(nomatch hx),J,trivial⟩
    .simp only[Ak.size,Ak.AM];lia
    .simp only[Ak.deep,Ak.AW];lia
  .rintro σ Hi ⟨w,b,G,I,rfl,si,ζ,J,bz,bd,M,bq⟩;exact key _ _ ⟨w,b,G,I,W,si,ζ,J,am bz<|am (im k10 _) ac,am bd<|am (im k10 _) ac,M,am bq<|im k10 _,λz=>absurd xa z⟩
 subst es;refine⟨_,W,W,_,W,Bh (λh1=>?_) λ_=>⟨_,W,q w b H1 s1 ζ J (am bz ac) bd M<|am bq<|im ac _⟩⟩;have zL:wy=1:=V.int.inj<|of_decide_eq_true h1;have bw:=bw z_;have m4:=Dl E (n:=4) ac;obtain⟨n4,jb⟩:∃k:Nat,9+E % 4=(k:Int):=⟨_,(x5<|ad3 ac<|B7 _ ac).symm⟩;have B:n4<=12:=by lia
 refine⟨_,W,_,_,W,W,BE,_,_,W,W,?_⟩;rw[jb];refine⟨n4,W,F6 ac<|wT _,zi (F5.mpr B) ac,?_⟩;refine EI ν n4 (λi=>.int<|0+(i:Int)) (λi U Y=>∃p:List Ak,U=Ak.EZ p/\Ak.Js p/\Ak.AM p<=i/\Ak.AW p<=1/\Ak.Lq p/\Ak.Bv p<=i) (am B ac) (λD hD=>⟨[],W,trivial,by simp[Ak.AM],by simp[Ak.AW],trivial,by simp[Ak.Bv]⟩) (λi U Y D ws bt hD iv=>iv) (λl' z=>nomatch z) (λi U Y hi s iv=>hi) (λi U Y v H' hi s iv y=>⟨y.2,y.1⟩) (λU Y s iv=>bv _) (λi U Y R hi bt ⟨p,e1,e2,e3,e4,e5,e6⟩ lu k=>?_) λD Y ws U hD bt d2 lu vl ⟨p,e1,e2,e3,e4,e5,e6⟩=>?_
 .refine⟨BZ,.mk λq1 H3 xf t1 A=>⟨_,W,Ac,.mk λq2 H4 xg t2 f2=>⟨Ac,.mk λq3 H5 zM t3 f3=>⟨_,W,c,8,W,ac,λr8 _ _=>?_⟩⟩⟩⟩;have m2:=Dl (r8/(0+(i:Int)+1)) (n:=2) ac;obtain⟨v2,iX,jW⟩:=FZ (xs:=[V.ref q1,V.ref q2]) (i:=r8/(0+(i:Int)+1) % 2) m2.1 m2.2;refine⟨_,W,_,_,W,W,_,_,W,W,⟨z_,z_⟩,_,_,W,W,BE,q3,_,_,_,W,W,Ab.of f3,iX,?_⟩;have tt:=(t1.trans t2).trans t3;have add:∀a:Ak,a.ok->a.size=1->a.deep=1->Val (nw Y H5) v2 a.pt->a.F'->a.wt=1->R v2 H5:=λa h1 h2 h3 h4 h5 h6=>k v2 a.pt H5 (.of tt) h4 ⟨p++[a],by rw[Ak.FD,e1];rfl,Ak.Co e2<|Ak.FE h1,by rw[Ak.A_,Ak.GG];exact tz e3<|bm h2,by rw[Ak.Cv,Ak.GH];exact(y9.mpr ⟨e4,bm h3⟩:_<=1),Ak.ES e5 ⟨h5,trivial⟩,by rw[Ak.Bx];simp only[Ak.Bv];exact tz e6<|am (gl (bm h6) _) ac⟩;simp only[j4,M9,or_false]at jW;rcases jW with rfl|rfl
  .exact add .any trivial W W (.tup (BO.of<|by rw[BC xf];exact(t2.trans t3) _ _ A)<|.cons (.str _) .nil) trivial W
  .exact add (.AY<|.int<|0+(i:Int)) (by simp only[Ak.ok];exact⟨.one<|.int _,trivial,by simp[Pt.size]⟩) W W (.tup (BO.of<|by rw[BC<|t1.free xg];exact t3 _ _ f2)<|.cons (.str _)<|.cons (.int _) .nil) trivial W
 .subst e1;have s2:=bt.same;refine⟨_,W,_,W,BZ,.mk λg H3 l t1 A=>?_⟩;have xh:=vl.length;refine⟨D,g,_,_,W,W,t1 _ _ d2,A,AX<|by simp only[j3,B6];exact am (tz (am (bm xh)<|am (bm lu) B)<|gl (bv _) _) ac,.mk λp2 H4 u t2 f2=>⟨_,W,_,_,W,W,By,_,_,W,W,BE,W,Ld,λp3 S=>?_⟩⟩;generalize decide (V.int (E/4 % 2)=V.int 1)=O;have t3:=AF.new (o:=.tup [.str "row",.ref p2,.bl O]) S;have tt:=(t1.trans t2).trans t3;refine⟨_,W,q (.ref p3) (.row (p++[b]) O) _ ((s1.trans s2).trans tt) (.tup (BO.of AD)<|.cons (.str _)<|.cons (.lst (.inl<|t3 _ _ f2) ?_)<|.cons (.bl _) .nil) (Ak.Co e2<|Ak.FE J) ?_ ?_ (Ak.ES e5 ⟨M,trivial⟩)<|by simp only[Ak.wt];rw[Ak.Bx];simp only[Ak.Bv];lia⟩
  .rw[Ak.FD];exact((vl.up Cn).up tt).snoc<|(ζ.up s2).up tt
  .simp only[Ak.size];rw[Ak.A_,Ak.GG];exact am (im (tz (am e3 B) bw.1) _) ac
  .simp only[Ak.deep];rw[Ak.Cv,Ak.GH];exact am (im ((y9.mpr ⟨am e4 ac,bw.2.1⟩:_<=5)) _) ac
theorem fg(F:Fq K "law" 51 f fd)(T:Txt mg)(J:Df P w K mg base "both_of" lqg 10 Qe)(G:Df P w K mg base "_law_cell" lqv 1 (Rc K))(fh:Df P w K mg base "_law_names" lqz 2 Px)(NB:Df P w K mg base "_law_copy" lqj 50 (Ds 50))(cW:Df P w K mg base "_law_ruin" lqj 50 (Jy 50))(Yi:Df P w K mg base "_law_asks" lqe 10 (Gn 10))(bA:Df P w K mg base "_law_kin" lqa 30 (UH 30))(Vt:Df P w K mg base "_law_fit" lqa 60 (Lb 60))(UM:Df P w K mg base "_law_bent" lqc 20 (KI 20))(Y:Df P w K mg base "_law_lets" lqi 25 (FK 25))(bK:Df P w K mg base "_law_is_good" lqk 30 (IL 30))(Yo:Df P w K mg base "_law_meet" lqf 60 (YU 60))(fj:Df P w K mg base "_law_large" lqm 2 Qg):Ar P w K mg base CA 80 f fd lqq (PY K):=by
 refine F.oq ["_law_script","_law_names_here","_law_drawn","_law_one","_law_other","_law_cells","_law_kept","_law_told","_law_docs","_law_k","_law_doc_here","_law_both","_law_due","_law_turned"] λH _ _ I B A h=>?_;obtain⟨a,ns,rfl,hS,hlen,q⟩:=h;refine⟨_,(AA (Ad 1 I<|BM fh A<|AU<|BM G A<|AB (pv 0)<|AU AG)<|AA (Ad 2 I<|BM Yi A<|AB (cmp lqq [0] (BU W T.range<|AU AG) λ_ _ _ _=>(BM G A<|AB (pv 1)<|AU<|AN Bm AG<|pv 0))<|AB AG<|AU<|pv 1)<|AA (Ad 3 I<|BM fj A<|AB (pv 2)<|AB (BM G A<|AB (pv 0)<|AU AG)<|AU<|pv 1)<|AA (Ad 4 I<|BM bA A<|AB (pv 3)<|AB (cmp lqq [0] (BU W T.range<|AU AG) λ_ _ _ _=>(BM G A<|AB (pv 1)<|AU<|AN Bm AG<|pv 0))<|AU<|pv 1)<|AA (DF (i:=5) (fv:=lqq) (fs:=[0]) W (.of<|by rfl) I W (Y3 W) (BU W T.range<|AU AG) (λ_ _ _ _=>HY) λC s0 H0 fp=>(BM G A<|AB (pv 1)<|AU<|AN Bm AG<|pv 0))<|AA (Ad 6 I<|BM NB A<|AU<|Ao<|AB (pv 3)<|AU<|pv 4)<|AA (Ad 7 I<|SR<|BM J A<|AB (pv 3)<|AU<|pv 4)<|AA (AO (AK Aj (BD NI (pv 7) Dx<|AL _) (BM Yo A<|AB (pv 3)<|AU<|pv 4)<|AL _) (AE<|AI Bp) AJ)<|AA (Ad 8 I<|Ap<|AB (BM Vt A<|AB (pv 3)<|AB (Ai Br W T.list BR<|AU<|pv 5)<|AU<|pv 1)<|AU<|BM Vt A<|AB (pv 4)<|AB (Ai Br W T.list BR<|AU<|pv 5)<|AU<|pv 1)<|AA (AO (AK Sy (pv 7) Dx<|AL _) (AA (AO (Cj<|Ag<|BM bK A<|AU<|pv 7) (AE<|AI Bp) AJ)<|AA (Bq<|gA K (pv 8)<|BM Vt A<|AB (pv 7)<|AB (Ai Br W T.list BR<|AU<|pv 5)<|AU<|pv 1)<|AE<|Sg (BU W T.range<|AU AG) (Dn 9 I)<|AE<|Bq<|gA K (pv 8)<|BM UM A<|AB (FN K (pv 8) AG)<|AB (BM G A<|AB (pv 0)<|AU<|AN Bm AG<|pv 9)<|AB AG<|AU<|pv 1) AJ)<|AA (Sg (BQ<|pv 8) (Dn 10 I)<|AA (Ad 11 I<|Cb (BM Y A<|AB (pv 3)<|AU<|pv 10)<|Bw<|BM Y A<|AB (pv 4)<|AU<|pv 10)<|AE<|AO (AK KQ (pv 11) (Cb (BD Sy (pv 7) Dx<|AL _)<|Bw<|BM Y A<|AB (pv 7)<|AU<|pv 10)<|AL _) (AE<|AI Bp) AJ)<|AA (Ad 12 I<|BM NB A<|AU<|pv 7)<|AA (Ad 13 I<|SR<|BM J A<|AB (pv 4)<|AU<|pv 3)<|AA (AO (PW.pt<|pw_or (AK (eU (Bn.units A):DA _ _ YW) (pv 13) (pv 12)<|AL _)<|pw_or1<|AK (Xj (Bn.units A):DA _ _ eD) (Ao<|AB (pv 3)<|AU<|pv 4) (pv 6)<|AL _) (AE<|AI Bp) AJ)<|AA (Bq<|BM cW A<|AU<|pv 7)<|AA (Bq<|BM cW A<|AU<|pv 13)<|AE<|AI<|Cb (BD (Nz (Bn.units A):DA _ _ Xi) (SR<|BM J A<|AB (pv 3)<|AU<|pv 4) (pv 12)<|AL _)<|Bw<|BD (Nz (Bn.units A):DA _ _ Xi) (Ao<|AB (pv 3)<|AU<|pv 4) (pv 6)<|AL _),?_⟩;refine hide λe1 E=>?_;refine⟨_,W,a,ns,0,W,hS,λc0 _=>⟨c0,W,λnm ys H1 s1 nn hn=>?_⟩⟩;have cells:∀(k n:Nat){L:Hp}{Q:VK}{σ:St},n<=1000->AF H L->σ.head?=Z (Z<|.ref a)->(∀D U (cs:List Int),L D=ν->AF L U->U D=Z (.lst<|cs.map V.int)->cs.length=n->Q (.ref D) U)->Kc (WH<|DB (tC<|V.int (n:Int)) Ia) Jb (Ow (Rc K) [] E0<|DB (GV 1)<|DB (Oo (ZF λi j=>V.int<|i+j) (tC<|V.int (k:Int))<|GV 0) Ia) [0] σ L Q:=λk n {L Q σ} rW sI hσ kq=>by
  obtain⟨N,rfl⟩:∃N,σ=Z (.ref a)::N:=by
   cases σ with
   |nil=>cases hσ|cons x r=>cases hσ;exact⟨r,W⟩
  refine⟨n,W,F6 ac<|wT _,zi (F5.mpr rW) ac,CO (n:=n) (λi=>.int<|0+(i:Int)) (λ_ v=>∃z:Int,v=.int z) (AX rW) (λi U hi s2=>hi) (λi U v H' hi s2 y=>⟨y.2,y.1⟩) (λU s2=>bv _) (λi U R hi s2 r=>⟨_,W,_,W,_,_,W,W,a,ns,k+i,(by show[V.ref a,V.int<|(k:Int)+(0+(i:Int))]=_;simp),(sI.trans s2).seq hS,λc _=>r _ U (AF.refl _) ⟨c,W⟩⟩) λD1 U zN gI s2 d1 lD oV=>?_⟩;obtain⟨NC,rfl⟩:=ints_of oV;rw[bi]at lD;exact kq D1 U NC gI s2 d1 lD
 refine E.n ?_;refine hide λe1 E=>?_;refine cells 1 12 ac s1 W λD1 U NC gI s2 d1 lD=>?_;have xi:nm≠D1:=EK hn.at_ gI;refine⟨_,W,D1,4,nm,NC,ys,W,ac,d1,am (bm lD) ac,xi,hn.up s2,λv1 a1 xk H3 xl rX zO v3 rY xm rZ xn=>?_⟩;have s13:AF H1 H3:=xl.over s2 gI;have S3:=s1.trans s13;have V1:Val H3 v1 a1.pt:=v3.up Cn;have aw:a1.wt<=4*a1.size:=Ak.XP a1 rY;have z1:a1.size<=49:=by lia
 have z2:a1.deep<=5:=am rZ (am (gl (bv _) _) ac);have aw:a1.wt<=196:=am aw (am (M5 _ z1) ac);clear xm rZ;refine E.n ?_;refine hide λe1 E=>?_;refine⟨_,W,_,W,a,ns,0,W,S3.seq hS,λc1 _=>⟨_,W,v1,a1,c1,nm,ys,W,V1,rY,am z1 ac,z2,xn,hn.up s13,λw1 b H4 s4 vb bo bz M bf bw=>?_⟩⟩;have S4:=S3.trans s4;have jb:=(hn.up s13).up s4;have O:=Ak.XQ b bo;have wb:b.wt<=209:=am bw<|gl aw 13;clear bw;have g:b.Sd:=⟨bo,Ak.IS _ (bv _) bf,am wb ac⟩;dsimp only[BY];refine E.n ?_;refine hide λe1 E=>?_;refine⟨_,W,?_⟩;refine cells 13 14 ac S4 W λD2 H5 Vx jF s5 d2 gF=>?_;have xo:nm≠D2:=EK jb.at_ jF;refine⟨_,W,H4,w1,b,D2,nm,Vx,ys,W,IA s5 jF,vb,bo,bf,am (gl M _) ac,am bz ac,d2,am (bm gF) ac,xo,jb.up s5,λv2 a2 xp H6 xq rQ zP v6 o6 xr w6 p6=>?_⟩;have s46:AF H4 H6:=xq.over s5 jF;have S6:=S4.trans s46;have xt:=jb.up s46;have V2:Val H6 v2 a2.pt:=v6.up<|ag s46;have zQ:=Ak.XQ a2 o6;have wa:a2.wt<=643:=by lia
 clear w6;have m:a2.Sd:=⟨o6,xr,am wa ac⟩;clear v6 V1 v3;dsimp only[BY];refine E.n ?_;refine hide λe1 E=>?_;refine cells 27 12 ac S6 W λD3 H7 ni kZ s7 d3 xu=>?_;have S7:=S6.trans s7;have rg:=xt.up s7;have rh:=(vb.up s46).up s7;have v27:=V2.up s7;refine E.n ?_;refine hide λe1 E=>?_;have tb:=Se g.Az (am wb ac) (am O (am (gl M _) ac));have ta:=Se m.Az (am wa ac) z_;refine⟨_,W,_,W,Ac,.mk λpT HE zR tT fT=>?_⟩;have nK:(Pt.tup [b.pt,a2.pt]).nice:=by
  simp only[Pt.nice,Pt.Dm];exact⟨GE,tb.n,ta.n,trivial⟩
 have zS:=Ak.Ta b;have zT:=Ak.Ta a2;have dK:(Pt.tup [b.pt,a2.pt]).deep<=50:=by simp only[Pt.deep,Pt.AW];lia
 have eK:=Pt.IF _<|Pt.Nw _ nK;refine⟨.ref pT,.tup [b.pt,a2.pt],W,.tup (BO.of fT)<|.cons (rh.up tT)<|.cons (v27.up tT) .nil,nK,dK,λwK HF sF vK=>?_⟩;have ri:=vK.up Cn;have gR:=tT.trans sF;have jc:=rh.up gR;have je:=v27.up gR;have zU:=rg.up gR;have zV:=gR _ _ d3;have SF:=S7.trans gR;clear vK;dsimp only[BY];refine E.n ?_;refine hide λe1 E=>?_;refine⟨_,W,_,W,w1,v2,b,a2,W,jc,je,g,m,λtw r lE xw vG ζ xx=>?_⟩;have TG:=Told.of xw vG xx;obtain⟨HG,jf⟩:∃HG,HG=Ga HF lE:=⟨_,W⟩;rw[<-jf];have gS:AF HF HG:=by rw[jf];exact TG.s
 have pG:VX (nw HF lE) HG:=by rw[jf];exact TG.p
 have tr:=OT ζ g m (am (tz wb wa) ac) (am O<|am (gl M _) ac) z_;have ox:∀{H':Hp},AF HG H'->Val H' tw (Ak.opt r):=λs=>(pG.up s).val vG;dsimp only[BY];refine E.n ?_;refine hide λe1 E=>?_;have AZ:decide (tw=.AZ)=r.isNone:=T' vG;have xy:=Ak.aa ζ g.Az m.Az;have cK:∀c,r=Z c->c.Az/\c.wt<=851/\c.dp<=19:=λc hc=>by
  obtain⟨cG,cw,cd⟩:=Ak.LY ζ g.L_ m.L_ c hc;exact⟨cG,by clear cd;lia,am cd<|y9.mpr ⟨by clear cd;exact am O<|am (gl M _) ac,by clear cd;lia⟩⟩
 have lF:=jc.up gS;have lG:=je.up gS;refine⟨_,W,W,_,W,_,W,w1,v2,b,a2,W,lF,lG,⟨g,am O<|am (gl M _) ac,am M ac⟩,⟨m,z_,am p6<|am (gl M _) ac⟩,am (gl (M5 _ M) _) ac,λHH sH=>⟨W,_,W,BP (by rw[AZ,<-xy];cases r<;>rfl) ?_⟩⟩;have rj:=(gR.trans gS).trans sH;have oy:=rg.up rj;have oz:=rj _ _ d3;have fk:∀{x:V}{c:Ak}{L:Hp}{Q:VK},Val L x c.pt->c.Az->c.BF->c.dp<=23->c.wt<=900->AF HH L->(∀v t H',AF L H'->Val (nw L H') v t->t.Bd 910 12 25->Q v H')->∀l U,L l=ν->AF L U->U l=Z (.lst<|ni.map V.int)->Lb 60 [x,.ref l,.ref nm] U Q E0:=λ{x c L Q} vx oc tc dc wc sI k l U hl s2 f2=>⟨x,c,l,nm,ni,ys,W,vx.up<|IA s2 hl,oc,tc,am (gl dc _) ac,am dc ac,wc,f2,am (bm xu) ac,EK (oy.up sI).at_ hl,(oy.up sI).up s2,λv t Rt H' bt qt qu vv M=>k v t H' (bt.over s2 hl) (vv.up<|Bi (λb h=>s2.free h) λb e _ h=>h)<|M.up (bv _) (bv _)<|gl dc 2⟩;have x_:=Ak.Sd.BF _ (bv _) g;have yA:=Ak.Sd.BF _ (bv _) m;refine E.n ?_;refine hide λe1 E=>?_;refine⟨_,W,_,W,D3,_,W,.inl<|Ab.of oz,.mk λl1 Ha Zc yB yC=>⟨_,W,fk (lF.up sH) g.Az x_ (am O<|am (gl M _) ac) g.wt (AF.refl _) (λx0 t0 HI sI vI rk=>?_) l1 Ha Zc yB yC⟩⟩;refine⟨_,W,_,W,D3,_,W,.inl<|Ab.of<|sI _ _ oz,.mk λl2 Hb Oa nJ yD=>⟨_,W,fk ((lG.up sH).up sI) m.Az yA z_ m.wt sI (λx1 t1 HJ sJ vJ rm=>⟨Ac,.mk λp5 H8 Lg s8 f8=>?_⟩) l2 Hb Oa nJ yD⟩⟩;have gT:=sI.trans sJ;have I0:El HJ H8 p5 [x0,x1] [t0,t1]:=⟨s8,Lg,f8,.cons (((vI.up Cn).up sJ).up<|IA s8 Lg)<|.cons ((vJ.up Cn).up<|IA s8 Lg) .nil⟩;dsimp only[BY];refine E.n ?_;have S8:AF HG H8:=(sH.trans gT).trans s8;refine Dg (t:=Er _ _ _) (λN L=>∃(ws:List V)(us:List Pt)(o9:Option V),N=[Z<|.ref a,Z<|.ref nm,Z v1,Z w1,Z v2,Z<|.ref D3,Z wK,Z tw,Z<|.ref p5,o9,ν,ν,ν,ν]/\El HJ L p5 ws us/\AF HG L/\∀u∈us,u.Bd 914 13 27) (λN HL ⟨ws,us,o9,es,DI,sL,du⟩=>?_) (λkey=>?_);rotate_left
 .have M:∀{t:Pt},t.Bd 910 12 25->t.Bd 914 13 27:=λh=>h.up ac ac ac;have d2:∀u∈[t0,t1],u.Bd 914 13 27:=λu B=>by
   simp only[j4,M9,or_false]at B;rcases B with rfl|rfl
   .exact M rk
   .exact M rm
  refine⟨_,W,W,_,W,?_⟩;rw[AZ];cases r with
  |none=>exact AQ (key _ _ ⟨_,_,ν,W,I0,S8,d2⟩)|some c=>
   obtain⟨cG,cw,cd⟩:=cK c W;have yE:=Ak.YR ζ g m c W;have yF:=Ak.YG ζ g.L_ m.L_ c W;have o_:=Ak.OC c;have pA:=Ak.Cw c;refine As ⟨_,W,nw HF lE,tw,c,W,pG.up S8,vG,cG,yF,am (am o_ cd) ac,am (am pA cw) ac,λHK sK=>⟨_,W,AQ ?_⟩⟩;have SK:=S8.trans sK;have gU:=s8.trans sK;have IK:=I0.up sK;refine⟨_,W,.inl ⟨W,_,Ab.of IK.f⟩,_,W,_,W,D3,_,W,.inl<|Ab.of<|gU _ _<|gT _ _ oz,.mk λl3 Hc rX yG yH=>⟨_,W,fk (ox SK) cG yE (am cd ac) (am cw ac) (gT.trans gU) (λx2 t2 HM sM vM rn=>?_) l3 Hc rX yG yH⟩⟩;have IM:=IK.push sM<|IK.fit (AF.refl _) vM;have nM:=sM _ _ IK.f;refine⟨p5,_,x2,W,W,nM,Aw GE,?_⟩;have SM:AF HG (upd HM p5<|.lst<|[x0,x1]++[x2]):=λb o h=>by
    rw[AH<|EK ((sH.trans gT) _ _ h) Lg];exact sM _ _<|SK _ _ h
   generalize upd HM p5 (.lst<|[x0,x1]++[x2])=HN at IM SM⊢;refine⟨3,W,ac,ac,Du (lo:=0) (n:=3) (λi σ L=>∃(ws:List V)(us:List Pt)(o9:Option V),σ=[Z<|.ref a,Z<|.ref nm,Z v1,Z w1,Z v2,Z<|.ref D3,Z wK,Z tw,Z<|.ref p5,o9,ν,ν,ν,ν]/\El HJ L p5 (x0::x1::x2::ws) (t0::t1::t2::us)/\AF HG L/\ws.length=i/\∀u∈us,u.Bd 914 13 27) ⟨[],[],ν,W,IM,SM,W,λu B=>nomatch B⟩ ?_ ?_⟩
   .refine λi σ L _ go hi h0=>Lo λX hX=>?_;obtain⟨ws,us,o9,rfl,DI,sL,lw,du⟩:=h0;obtain⟨u2,yI,yJ⟩:=DI.v.get (show(x0::x1::x2::ws)[2]?=Z x2 from W);cases yI;have yK:=(oy.up gT).up DI.s;have Si:=(SF.trans gS).trans sL;subst hX;refine⟨_,W,.inl ⟨W,_,Ab.of DI.f⟩,_,W,p5,_,2,x2,W,W,Ab.of DI.f,at2,_,W,_,W,_,_,W,W,a,ns,39+i,(by show[V.ref a,V.int<|39+(0+(i:Int))]=_;simp),Si.seq hS,λc9 _=>⟨_,W,CU p5 L,x2,t2,c9,0,nm,ys,910,12,25,W,Ci,yJ,rn,ac,ac,ac,yK,ac,ac,λw' t' H' s' v' d'=>?_⟩⟩;refine⟨p5,_,w',W,W,s' _ _ DI.f,Aw<|by simp only[j3];lia,go.n ⟨ws++[w'],us++[t'],_,W,DI.push s'<|DI.mq s' v',λb o h=>(AH<|EK ((sH.trans gT) _ _ h) Lg).trans<|s' _ _<|sL _ _ h,by simp[lw],Pt.OR du d'⟩⟩
   .rintro σ L ⟨ws,us,o9,rfl,DI,sL,lw,du⟩;refine key _ _ ⟨_,_,o9,W,DI,sL,λu B=>?_⟩;simp only[j4]at B;rcases B with rfl|rfl|rfl|B
    .exact M rk
    .exact M rm
    .exact M rn
    .exact du u B
 subst es;have bL:=Ak.Vf ζ g.Az m.Az;have zb:=Ak.Cw b;have za:=Ak.Cw a2;refine hide λe1 E=>?_;refine⟨_,W,p5,W,⟨_,Ab.of DI.f⟩,Dy (xs:=ws) (λj σ Hj=>∃o10 o11:Option V,σ=[Z<|.ref a,Z<|.ref nm,Z v1,Z w1,Z v2,Z<|.ref D3,Z wK,Z tw,Z<|.ref p5,o9,o10,o11,ν,ν]/\AF HL Hj) ⟨ν,ν,W,AF.refl _⟩ (λj σ Hj _ z=>by obtain⟨_,_,_,sj⟩:=z;exact Ab.of<|sj _ _ DI.f) ?_ ?_⟩
 .refine λj x σ Hj e go hx h0=>?_;obtain⟨o10,o11,rfl,sj⟩:=h0;obtain⟨u,B,vu⟩:=(DI.v.up Ci).get hx;have dc:=du u<|zf B;have lH:=dc.doc;have pE:u.UA<=950:=am dc.gi ac;have SJ:=sL.trans sj;have pH:=vu.up sj;dsimp only[BY];refine Dg (λN Hk=>N=[Z<|.ref a,Z<|.ref nm,Z v1,Z w1,Z v2,Z<|.ref D3,Z wK,Z tw,Z<|.ref p5,o9,Z x,Z<|.bl<|Ak.lets b u&&Ak.lets a2 u,ν,ν]/\AF Hj Hk) (λN Hk ⟨es,sk⟩=>?_) (λkey=>?_);rotate_left
  .refine⟨_,W,_,W,w1,x,b,u,W,lF.up SJ,pH,g.Az,lH,am bz ac,pE,am O<|am (gl M _) ac,am M ac,λHk sk=>⟨_,W,?_⟩⟩;cases hl:Ak.lets b u with
   |false=>
    rw[hl]at key;exact AQ (key _ _ ⟨W,sk⟩)
   |true=>
    rw[hl]at key;exact As ⟨_,W,_,W,v2,x,a2,u,W,(lG.up SJ).up sk,pH.up sk,m.Az,lH,am (am za wa) ac,pE,z_,am p6<|am (gl M _) ac,λHm sm=>key _ _ ⟨W,sk.trans sm⟩⟩
  subst es;have bE:=bL u lH;refine⟨_,W,_,W,W,_,W,?_⟩;rw[AZ];cases r with
  |none=>
   simp only[Ak.ol]at bE;exact AQ ⟨W,_,W,BP (by rw[<-bE];rfl)<|go.n ⟨_,_,W,sj.trans sk⟩⟩
  |some c=>
   simp only[Ak.ol]at bE;obtain⟨cG,cw,cd⟩:=cK c W;have o_:=Ak.OC c;have pA:=Ak.Cw c;exact As ⟨_,W,_,W,tw,x,c,u,W,ox<|SJ.trans sk,pH.up sk,cG,lH,am (am pA cw) ac,pE,am cd ac,am (am o_ cd) ac,λHm sm=>⟨W,_,W,BP (by rw[<-bE];simp)<|go.n ⟨_,_,W,(sj.trans sk).trans sm⟩⟩⟩
 rintro σ ro ⟨o10,o11,rfl,yL⟩;have lI:=sL.trans yL;have SH:=gS.trans lI;refine E.n ?_;refine hide λe1 E=>?_;refine⟨_,W,tw,Ak.opt r,W,ox lI,tr.n,tr.d,λdw S yM rq=>?_⟩;dsimp only[BY];refine E.n ?_;refine hide λe1 E=>?_;have S1:=lI.trans yM;have rz:=gS.trans S1;refine⟨_,W,_,W,v2,w1,a2,b,W,lG.up S1,lF.up S1,m,g,λuw r2 lJ yN pK pN yO=>?_⟩;have TJ:=Told.of yN pK yO;have rel:=Ak.My ζ g.L_ m.L_ pN;have jg:=OT pN m g (am (tz wa wb) ac) z_ (am O<|am (gl M _) ac);obtain⟨jh,pO⟩:∃jh,jh=Ga S lJ:=⟨_,W⟩;rw[<-pO];have r_:AF S jh:=by rw[pO];exact TJ.s
 have pJ:VX (nw S lJ) jh:=by rw[pO];exact TJ.p
 dsimp only[BY];refine E.n ?_;refine hide λe1 E=>?_;have d2:=jg.d;refine⟨_,W,_,W,eX rel ((pJ.up<|AF.refl _).val pK) ((rq.up Cn).up r_) (am d2 ac) ⟨_,W,AQ ?_⟩⟩;refine⟨_,W,_,W,Ac,.mk λpU HK zW tU fU=>?_⟩;have gU:=r_.trans tU;have SK:=rz.trans gU;refine⟨_,W,[b.pt,a2.pt],[b.pt,a2.pt],.tup (BO.of fU)<|.cons (jc.up SK)<|.cons (je.up SK) .nil,ri.up SK,eK,am dK ac,_,W,AQ ?_⟩;refine E.n ?_;refine hide λe1 E=>?_;refine⟨_,W,nw HF lE,tw,Ak.opt r,0,W,TG.k,vG,Pt.Nw _ tr.n,tr.h,by have:=tr.z;exact am (gl this _) ac,Wn.of (pG.up<|S1.trans gU) _,λHM wn fr=>?_⟩;have yP:AF HF HM:=TG.out fr SK λb x e z=>by rw[e]at z;cases z
 have dM:AF (nw ro S) HM:=TG.past (by rw[<-jf];exact lI) fr<|Cn.trans gU;have jM:AF (nw S jh) HM:=TG.past (by rw[<-jf];exact S1) fr<|Cn.trans tU;have pM:VX (nw S lJ) HM:=λb u B rd=>jM _ _ (by rw[BC<|iz rd];exact pJ b u B rd);refine E.n ?_;refine hide λe1 E=>?_;refine⟨_,W,nw S lJ,uw,Ak.opt r2,0,W,TJ.k,pK,Pt.Nw _ jg.n,jg.h,by have:=jg.z;exact am (gl this _) ac,Wn.of pM _,λHN zX sE=>?_⟩;have ji:AF HF HN:=TJ.out sE yP λb x e z=>by rw[rz _ _ e]at z;cases z
 have dN:AF (nw ro S) HN:=TJ.out sE dM λb x e z=>by rw[Cn _ _ e]at z;cases z
 refine E.n ?_;refine⟨_,W,_,W,w1,v2,b,a2,W,jc.up ji,je.up ji,g,m,λw3 r3 yQ yR vO sP yS=>?_⟩;have TO:=Told.of yR vO yS;have sQ:=OT sP g m (am (tz wb wa) ac) (am O<|am (gl M _) ac) z_;have e3:=af rel (Ak.My sP g.L_ m.L_ pN) tr jg sQ;have sR:=TO.val<|AF.refl _;have sO:=TO.s;generalize Ga HN yQ=HO at sR sO⊢;have yT:=sQ.d;refine⟨_,W,Ak.opt r3,Ak.opt r,sR,(rq.up dN).up sO,eW,.inr e3,am yT ac,_,W,Bf e3 ?_⟩;refine⟨_,W,_,W,Ac,.mk λpV HR zY tV fV=>?_⟩;have pP:=sO.trans tV;refine⟨_,W,.tup [b.pt,a2.pt],.tup [b.pt,a2.pt],.tup (BO.of fV)<|.cons ((jc.up ji).up pP)<|.cons ((je.up ji).up pP) .nil,(ri.up ji).up pP,(λ_ z=>nomatch z),.inr eK,am dK ac,?_⟩;rw[eK];exact q _
end
end JR
namespace JR
open PySem L2
abbrev NZ(K:zg)(x:Str):Prop:=P7 K zj x=Z ν
theorem nz{K:zg}{x:Str}(h:P7 K zj x=Z ν):NZ K x:=h
variable{P:List ce->Prop}
theorem ls{n:Nat}(h:∀a r,r.length=n->P (a::r)):∀us,us.length=n+1->P us:=λus e=>by
 cases us with
 |nil=>cases e|cons a r=>exact h a r (Nat.succ.inj e)
theorem lz(h:P []):∀us,us.length=0->P us:=λus e=>by
 cases us with
 |nil=>exact h|cons a r=>cases e
variable{mg:Str->Option ce}
theorem gn{K:zg}{h:Heap}{x:Str}{st:Stmt}(X:K.In h)(G:h.Ns zj mg)(A:FA K x st)(ps:List Str)(b:∀(kV doc e:ce) (g:Option Addr) (d ct:ce) (us:List ce),us.length=ps.length->aeK (K1 x x (EN st) (DN st) (Bg st) .none kV doc e g d ct) ⟨us,[]⟩=pure (ps.zip us):=by intro _ _ _ _ _ _;(repeat refine ls λ_=>?_);exact lz W):∃f c,Ul K x x st f c/\Binds K c ps []/\mg x=Z (.ref f):=by
 obtain⟨f,c,F,a⟩:=A;exact⟨f,c,F,F.binds b,aaq X G a⟩
theorem dk{P:wv}{w:y8}{K:zg}{mg:Str->Option ce}{base:Heap}{x:Str}{st:Stmt}{n:Nat}{sp:Sp}{ps:List Str}(g:∃f fd,Ul K x x st f fd/\Binds K fd ps []/\mg x=Z (.ref f))(ok:∀f fd,Ul K x x st f fd->Binds K fd ps []->mg x=Z (.ref f)->Ar P w K mg base CA n f fd ps sp):Df P w K mg base x ps n sp:=by
 obtain⟨f,fd,F,b,m⟩:=g;exact .mk' F b m<|ok f fd F b m
variable{l:ado}
theorem all_mk{w:y8}{K:zg}{h:Heap}{fa f46:Addr}(X:K.In h)(G:h.Ns zj mg)(yU:mg "law"=Z (.ref fa)){pQ jk:Option Addr}{pW:Array (Option ce)}{pX jm jo jq Y jr:ce}(h1:Fb K "gathered" 1)(h2:Fb K "folded" 2)(h3:Fb K "steps_of" 4)(h4:Fb K "inner_of" 5)(h5:Fb K "are_level" 6)(h6:Fb K "are_equal" 7)(h7:Fb K "outer_copy" 8)(h8:Fb K "copy_of" 9)(h9:Fb K "holds" 11)(h10:Fb K "holder_in" 14)(h11:Fb K "inner_nodes" 15)(h12:Fb K "filled" 16)(h13:Fb K "inner_just" 17)(h14:Fb K "lets_in" 18)(h15:Fb K "lets_in_outside" 19)(h16:Fb K "is_count" 20)(h17:Fb K "has_names" 21)(h18:Fb K "good_form" 22)(h19:Fb K "good_part" 23)(h20:Fb K "good_row" 24)(h21:Fb K "good_table" 25)(h22:Fb K "both_of" 26)(h23:Fb K "pairs_within" 27)(h24:Fb K "do_meet" 28)(h25:Fb K "can_have_cells" 29)(h26:Fb K "can_have_names" 30)(h27:Fb K "told_or_any" 31)(h28:Fb K "steps_of_both" 32)(h29:Fb K "both_part" 33)(h30:Fb K "_law_cell" 35)(h31:Fb K "_law_mix" 36)(h32:Fb K "_law_names" 37)(h33:Fb K "_law_doc" 38)(h34:Fb K "_law_copy" 39)(h35:Fb K "_law_ruin" 40)(h36:Fb K "_law_asks" 41)(h37:Fb K "_law_kin_table" 42)(h38:Fb K "_law_kin" 43)(h39:Fb K "_law_fit" 44)(h40:Fb K "_law_bent" 45)(h41:Fb K "_law_lets" 46)(h42:Fb K "_law_is_good" 47)(h43:Fb K "_law_rows_meet" 48)(h44:Fb K "_law_meet" 49)(h45:Fb K "_law_large" 50)(a46:P7 K zj "law"=Z (Z (.ref f46)))(l46:K.lookup f46=Z ⟨pX,pQ,.func (K1 "law" "law" (EN Sh) (DN Sh) (Bg Sh) .none jm jo jq jk Y jr),pW⟩)(c46:T3 K Y "law"=true)(k46:A4 K (.ref f46)=true)(z1:NZ K "isinstance")(z2:NZ K "int")(z3:NZ K "bool")(z4:NZ K "str")(z5:NZ K "list")(z6:NZ K "dict")(z7:NZ K "tuple")(z8:NZ K "len")(z9:NZ K "range")(z10:NZ K "max")(z11:NZ K "min")(z12:NZ K "sorted")(z13:NZ K "all")(z14:NZ K "any")(z15:NZ K "reversed")(z16:NZ K "ValueError")(z17:NZ K "sum"){aA:Addr}(zZ:NZ K "zip")(fm:NZ K "set")(eA:P7 K zj "ANY"=Z (Z (.ref aA)))(hA:Wx K aA ["any"]=true)
  :∃fd:AT,(∀(s:fx)(v:ce),abO s fd ⟨[v],[]⟩ [("_law_script",v)])/\∀base:Heap,K.In base->base.Ns zj mg->Ar l.prog w K mg base CA 80 fa fd lqq (PY K):=by
 haveI:Be K:=⟨trivial⟩;have e:=yU.symm.trans<|aaq X G a46;cases e;have gm:=λ{x:Str}{v:ce}(a:P7 K zj x=Z (Z v))=>aaq X G a;have T:Txt mg:=by constructor<;>(apply Z1 X G;assumption)
 have g1:=gn X G h1 lqw;have g2:=gn X G h2 lqo;have g10:=gn X G h10 lqu;obtain⟨f11,d11,lK,b11,m11⟩:=gn X G h11 lqu;obtain⟨f19,d19,sS,b19,m19⟩:=gn X G h19 lqx;obtain⟨f23,d23,lL,b23,m23⟩:=gn X G h23 ["pair"];obtain⟨f29,d29,sT,b29,m29⟩:=gn X G h29 lqD;have g34:=gn X G h34 lqj;have g41:=gn X G h41 lqi;obtain⟨f43,d43,yV,b43,m43⟩:=gn X G h43 lqf;have yW:=We (st:=Sh) l46 c46 k46;have ζ:=Z1 X G zZ;have Qs:=Z1 X G fm;have mA:=aaq X G eA;refine⟨K1 "law" "law" (EN Sh) (DN Sh) (Bg Sh) .none jm jo jq jk Y jr,λs v=>.of_eq W,λbase _ _=>?_⟩;have dk:=@dk l.prog w K mg base;have t:=dk (gn X G h25 lqB) λ_ _ F b m=>Jk F T;have u:=dk (gn X G h26 lqC) λ_ _ F b m=>Jl F T;have o:=dk (gn X G h24 lqg) λ_ _ F b m=>Vr F T t u;have bM:=dk (gn X G h9 ["doc","step"]) λ_ _ F b m=>Yc F T;have k:=dk (gn X G h27 lqy) λ_ _ F b m=>OY F T bM mA hA;have c:=dk (gn X G h28 lqg) λ_ _ F b m=>Lf F T Qs;have I:=dk g1 λ_ _ F b m=>IT F T lL.kp b23<|Fz lL T o k c;have f:=dk (gn X G h3 lql) λ_ _ F b m=>Sj F T;have J:=dk g10 λ_ _ F b m=>MA F T;have g:=dk (gn X G h4 lql) λ_ _ F b m=>Sk F T f;have A:=dk (gn X G h5 lqg) λ_ _ F b m=>Qk F T;have L:=dk (gn X G h6 lqg) λ_ _ F b m=>Ql F T g A ζ;have q:=dk (gn X G h16 lqp) λ_ _ F b m=>Sl F T;have B:=dk (gn X G h17 lqn) λ_ _ F b m=>Qo F T q;have p:=dk (gn X G h15 lqn) λ_ _ F b m=>JD F T L q B;have Q:=dk (gn X G h14 lqn) λ_ _ F b m=>Vp F T f J p;have n:=dk g10 λ_ _ F b m=>Qm F T;have C:=dk g1 λ_ _ F b m=>IT F T lK.kp b11<|Gb lK T g n;have z:=dk (gn X G h7 lql) λ_ _ F b m=>OV F T;have N:=dk (gn X G h8 lql) λ_ _ F b m=>Vn F T f z;have y:=dk (gn X G h12 lqs) λ_ _ F b m=>Vo F T f ζ;have i:=dk (gn X G h13 ["holder"]) λ_ _ F b m=>OW F T g y;have r:=dk (gn X G h20 lqA) λ_ _ F b m=>Sn F T i;have j:=dk (gn X G h21 lqr) λ_ _ F b m=>OX F T i;have O:=dk g2 λ_ _ F b m=>Vm F T C lK.kp b11 (Gb lK T g n) sS.kp b19<|Qq sS T N y r j mA hA;have D:=dk (gn X G h18 ["asks"]) λ_ _ F b m=>Qp F T O m11 m19;have R:=dk g2 λ_ _ F b m=>Qj F T I lL.kp b23 (Fz lL T o k c) sT.kp b29<|Qr sT T Q D r j o c Qs ζ;have S:=dk (gn X G h22 lqg) λ_ _ F b m=>Vq F T R m23 m29;have bN:=dk (gn X G h30 lqv) λ_ _ F b m=>aq F T;have d:=dk (gn X G h31 lqb) λ_ _ F b m=>ar F T;have U:=dk (gn X G h32 lqz) λ_ _ F b m=>Yf F T d;have bO:=dk g34 λ_ _ F b m=>IU F T b m 50;have bP:=dk (gn X G h35 lqj) λ_ _ F b m=>Qt F T b m 50;have E:=dk (gn X G h33 lqd) λ_ _ F b m=>fG F T d;have M:=dk (gn X G h36 lqe) λ_ _ F b m=>Qv F T b m d E 10;have bQ:=dk g34 λ_ _ F b m=>IU F T b m 6;have H:=dk (gn X G h37 lqh) λ_ _ F b m=>Qw F T d;have fo:=dk (gn X G h38 lqa) λ_ _ F b m=>UK F T b m d bQ M H 30;have bR:=dk g34 λ_ _ F b m=>IU F T b m 30;have fu:=dk (gn X G h39 lqa) λ_ _ F b m=>UL F T b m d E bR 60;have bS:=dk (gn X G h40 lqc) λ_ _ F b m=>Qz F T b m d E 20;have bT:=dk g41 λ_ _ F b m=>Lh F T b m 25;have P:=dk (gn X G h42 lqk) λ_ _ F b m=>Li F T b m Qs 30;have bU:=dk g41 λ_ _ F b m=>Lh F T b m 20;have bV:=dk (gn X G h44 lqf) λ_ _ F b m=>(Yp F yV T b m b43 m43 bU 60).1;have V:=dk (gn X G h45 lqm) λ_ _ F b m=>Yq F T d;exact fg yW T S bN U bO bP M fo fu bS bT P bV V
variable{loose:List Str}{K:Params->zg}{q:wv}{d:DefRec}
theorem walk{c:(Str->Option ce)->Heap->Prop}{YP:y8->Heap->Prop}(e:l.most=Z 63)(b:d.params.defaults=[])(g:∀(w:y8) (h:Heap),YP w h->(K w.params).In h)(F:∀(w:y8) (mg:Str->Option ce) (fa:Addr) (h:Heap),(K w.params).In h->h.Ns zj mg->mg d.name=Z (.ref fa)->
   ∃fd:AT,(∀(s:fx) (u:ce),abO s fd ⟨[u],[]⟩ [("_law_script",u)])/\∀base:Heap,(K w.params).In base->base.Ns zj mg->Ar l.prog w (K w.params) mg base CA 80 fa fd lqq (PY (K w.params))):
  aef q loose c YP l.row.toRowW d [] (λf vs=>acf f vs):=
 L2.ZV (n:=63) (k:=80) (x:="_law_script") (CX:=λ_=>CA) (sp:=λw=>PY (K w.params)) e ac b ⟨W,ac,ac,W⟩ g F (λ_ _ a i j _ m=>⟨a,i,W,m,j,λ_=>rfl⟩) λ_ _ _ _ _ z=>z
theorem walkZ{j:(Str->Option ce)->Heap->Prop}{as:List Addr}{n t:Nat}(e:∀P:Params,as=aeL (λx=>x.fst) (K P))(k:l.most=Z 63)(g:d.params.defaults=[])(F:∀(w:y8) (mg:Str->Option ce) (fa:Addr) (h:Heap),(K w.params).In h->h.Ns zj mg->mg d.name=Z (.ref fa)->
   ∃fd:AT,(∀(s:fx) (u:ce),abO s fd ⟨[u],[]⟩ [("_law_script",u)])/\∀base:Heap,(K w.params).In base->base.Ns zj mg->Ar l.prog w (K w.params) mg base CA 80 fa fd lqq (PY (K w.params))):
  PySem.W.WalkX q loose j (PySem.W.X.obsZ as) (PySem.W.X.valZ K n t) l.row.toRowW d [] (λf vs=>acf f vs):=
 λw b c mg m G y a o p r doc v kV A B C D E H args vals i L I J M N O=>
  walk (YP:=λw h=>(K w.params).In h) k g (λ_ _ z=>z) F w b c mg m G ((show(K w.params).In b.heap from(PySem.W.X.z_facts e y).2.1).keeps L.keeps) a o p r doc v kV A B C D E H args vals i I J M N O
end JR
namespace PySem.W.Fast
def tw16271836678135180932:=0
def tw9407485203645240607:=0
def tw8414771471030712329:=0
def tw16717790509937055297:=0
def tw8908203264175953279:=0
def tw15115975681930150730:=0
def tw8863144044841595169:=0
def tw16945934302224032825:=0
def tw7162024189256691023:=0
def tw4448831232590203656:=0
def tw4651487404453670443:=0
def tw16438576715654632783:=0
def tw11545840083357564877:=0
def tw3056934377774519114:=0
def tw11326444155977445704:=0
def tw14393911440393796803:=0
def tw14698761676145162612:=0
def tw9774664911596624867:=0
def tw8212077397582378433:=0
def tw3882651100290652923:=0
def tw17032105153750118613:=0
def tw6676954703922974016:=0
def tw11499613934407068508:=0
def tw7898549479115488000:=0
def tw12737031855742903211:=0
def tw4336933002183437566:=0
def tw2151111254277182532:=0
def tw15048735892006051796:=0
def tw9079450076658448318:=0
def tw12641024816092737762:=0
def tw18257720484727998364:=0
def tw13687754625302081481:=0
def tw7213689395519768815:=0
def tw3155833837165595812:=0
def tw4716554791020179220:=0
def tw13231010806285817236:=0
def tw4480560014277212037:=0
def tw10603079884957622035:=0
def tw11417359856129469442:=0
def tw10505204576343145983:=0
def tw8056339930817917545:=0
def tw1618762323455520258:=0
def tw787526065332100276:=0
def tw5419942868384512382:=0
def tw2535949096731589681:=0
def tw11292536763888550020:=0
def tw15762083423035694715:=0
def tw3097345661938211579:=0
def tw13048447515182178793:=0
def tw16993817815776248967:=0
def tw9215252592903265670:=0
def tw11227314113204655861:=0
def tw2441989061281354459:=0
def tw3364408284906184088:=0
def tw5726021941254958218:=0
def tw763753919210486757:=0
def tw883150502488669162:=0
def tw12490264445901012146:=0
def tw6727709818104248468:=0
def tw15314196741027670335:=0
def tw13578871273731996046:=0
def tw2450782514917894845:=0
def tw1257075017690588099:=0
def tw2907515211188013647:=0
def tw11756253551890771870:=0
def tw9608070869515027002:=0
def tw12882009833550089005:=0
def tw13294126635392877178:=0
def tw14356237615531596048:=0
def tw5299557707978749940:=0
def tw6457605431446597078:=0
def tw5270822523439818024:=0
def tw16330408186262306053:=0
def tw9528853431919146635:=0
def tw6686633664445856384:=0
def tw8600382934801265344:=0
def tw8822041010423787006:=0
def tw8075833854608095033:=0
def tw7089678472288299571:=0
def tw10845565384441337933:=0
def tw12251305030910148810:=0
def tw17784450867398267051:=0
def tw10044867348292953514:=0
def tw3771226206942464276:=0
def tw17963925970687072802:=0
def tw8322060670964728632:=0
def tw1846187400966538527:=0
def tw12338337690004647610:=0
def tw13550678262727516055:=0
def tw13975147751010413464:=0
def tw7235776831264429033:=0
def tw5419543438875255742:=0
def tw12463401474752965364:=0
def tw9703575267994221159:=0
def tw8029153620648043063:=0
def tw7733443314162588143:=0
def tw5443307864238196140:=0
def tw28535605707375176:=0
def tw10146582719783904818:=0
def tw10287587258781341073:=0
def tw18194518198895093738:=0
def tw9652297760917944510:=0
def tw14240175204435894985:=0
def tw7491724627486972134:=0
def tw6720004936654295339:=0
def tw11236479149445880330:=0
def tw8555297291789955974:=0
def tw9218891157869738995:=0
def tw3282470135609030279:=0
def tw6066071826519730790:=0
def tw5050566947180340552:=0
def tw13903703684381222589:=0
def tw2627997716069610250:=0
def tw12464830992558677862:=0
def tw8919785808544969603:=0
def tw5702163157747237909:=0
def tw13853063837460609131:=0
def tw3396426457780078148:=0
def tw5995748929378863414:=0
def tw5537283304122148141:=0
def tw1180197176725683383:=0
def tw3508161969963623093:=0
def tw1257033309251537323:=0
def tw11093753778365313457:=0
def tw383918332989001947:=0
def tw366438343131388635:=0
def tw15008781952956724175:=0
def tw10340770918911612249:=0
def tw2054819435721942683:=0
def tw15368514323734042907:=0
def tw6510561664240904329:=0
def tw16964195143412588410:=0
def tw15805640660830792578:=0
def tw13811225832192365582:=0
def tw16929953013891784099:=0
def tw7478225926741400975:=0
def tw7366291794831530041:=0
def tw2603404329523484428:=0
def tw1590936697939246777:=0
def tw6453426325155542465:=0
def tw997428778119843680:=0
def tw14748462739087999419:=0
def tw1920948691935295694:=0
def tw9012785044097034388:=0
def tw18111590225620568543:=0
def tw10298790758754502713:=0
def tw6696651745097550619:=0
def tw4369134895006081756:=0
def tw1626825605713214438:=0
def tw11016273066026314021:=0
def tw7728159818693993920:=0
def tw13286594992318992952:=0
def tw1274813171812488965:=0
def tw5496175373802259788:=0
def tw751525960578828310:=0
def tw18074321212964525167:=0
def tw15412202050886481154:=0
def tw7655400913690809722:=0
def tw8429384308019107159:=0
def tw17056043442588952778:=0
def tw18280889780923594745:=0
def tw581052808457245720:=0
def tw16897141781819775540:=0
def tw2387282341794959608:=0
def tw5556118816899791358:=0
def tw7518275702914668994:=0
def tw6124374935031562200:=0
def tw8168042966756422094:=0
def tw17905427112368960820:=0
def tw5981530013182313382:=0
def tw3623402398516104356:=0
def tw16168871878705687380:=0
def tw2527050404041420848:=0
def tw11953675302148772980:=0
def tw10747469942509864760:=0
def tw10452150826713818628:=0
def tw18264945581601312022:=0
def tw10679793732845863362:=0
def tw1007141529418276083:=0
def tw14691234866479446015:=0
def tw10268666161957444426:=0
def tw8941765994744402199:=0
def tw5630718753783016231:=0
def tw3558000169019273419:=0
def tw654814814116275564:=0
def tw4715459877874351947:=0
def tw633398854291474859:=0
def tw2898461919493461279:=0
def tw1962448821741176849:=0
def tw3259737048173699392:=0
def tw6806119870584795120:=0
def tw5871360244610095752:=0
def tw16652960105245558487:=0
def tw14660557038306652914:=0
def tw16092517243548370667:=0
def tw8363456101143298781:=0
def tw13982401563612280969:=0
def tw17552741604959195768:=0
def tw7575701846071022640:=0
def tw5917802721250005988:=0
def tw10856999841485994009:=0
def tw13707072268540895966:=0
def tw6661810987310525001:=0
def tw2262880722599110044:=0
def tw106963650901691666:=0
def tw6034984635006081380:=0
def tw9480946275141296010:=0
def tw12621790227624153933:=0
def tw8286341764737514867:=0
def tw11626580909733330910:=0
def tw2129600098931214223:=0
def tw7798592607425109433:=0
def tw18103817958316952306:=0
def tw10968359151256067895:=0
def tw11907775754935926645:=0
def tw18207706325113041623:=0
def tw9239711110077412104:=0
def tw13287641349277585470:=0
def tw4717919607012725207:=0
def tw4210165868203089278:=0
def tw2814799031041613395:=0
def tw11290199784471190070:=0
def tw16194219740734847832:=0
def tw7948477494639275204:=0
def tw7626254758082646934:=0
def tw13995606690816414233:=0
def tw5655900419164913266:=0
def tw15091976946944991351:=0
def tw880305515511322921:=0
def tw817303264229894693:=0
end PySem.W.Fast
open PySem PySem.W PyProof.Rows
set_option maxRecDepth 100000 in
set_option maxHeartbeats 0 in
theorem PySem.Challenge.cw_patchbough_k43_what_both_let_in_holds : PySem.Challenge.rw_patchbough_k43_what_both_let_in.Holds := by
 w_on;o_law;z_head;(case hw=>w_witness2)
 k_fill
 refine JR.walkZ (l:=PySem.Challenge.rw_patchbough_k43_what_both_let_in) (fun _=>rfl) rfl rfl ?F
 case F=>
  intro w c fa h b G a
  apply JR.all_mk b G a
  all_goals first|(apply L2.fa<;>k_is)|(apply JR.nz;k_is)|k_is|kernel_rfl
#print axioms PySem.Challenge.cw_patchbough_k43_what_both_let_in_holds
