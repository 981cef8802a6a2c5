import PyProof.Rows.All
import Wide.All
import OpenK.AllK
import Wide.FinOn
import Lean
import PyProof.EqAt
import PyProof.EqKinds
import PyProof.TupleCall
import PyProof.ReprRoads
import PyProof.ReprBulk
import PyProof.ZipIter
import KE.KItemsList
import PyProof.P3Eq
import KE.KEqDict
import PyProof.Rows.Range3
import PyProof.Rows.SetFrom
import PyProof.EnumMake
import PyProof.Draws
import PyProof.ExcInit
import PyProof.NsDelKeeps
import KE.KDictList
import PySem.Challenge.RW_patchbough_k84_both_ways_round
set_option compiler.extract_closed false
set_option bootstrap.genMatcherCode false
noncomputable section
set_option Elab.async false
set_option tactic.hygienic false
set_option linter.all false
set_option maxRecDepth 100000
set_option maxHeartbeats 40000000
open Option renaming some->ι,none->ν
open Array renaming getElem?_eq_getElem->p8,length_toList->q4,getElem?_toList->v5,findIdx?_eq_some_iff_getElem->D0,toArray_toList->IN,getElem_mem->aas,toList->abS
open Bool renaming false_ne_true->d5,and_eq_true->g9,eq_false_iff->yj,not_not->zk,eq_iff_iff->zP,false_and->zZ,or_eq_false_iff->AT,and_false->L6,not_eq_true'->N9,and_self->O1,false_eq_true->Z9,or_eq_true->aaV,true_and->abA,not_true->abB,and_true->abC
open False renaming elim->zo
open ForInStep renaming yield->zO
open Int renaming toNat_natCast->i6,toNat_of_nonneg->j4,natCast_nonneg->j9,emod_nonneg->py,emod_lt_of_pos->xz,ofNat_le->y8,lt_of_le_of_lt->zb,eq_ofNat_of_zero_le->zB,ofNat_lt->zF,le_trans->A7,min_eq_left->Re,add_zero->aaf,toNat_eq_max->aaC,min_eq_right->aaD,natCast_add->aaP,zero_add->abQ,ediv_one->abR,not_lt->acj
open List renaming mem_append->am,length_map->be,mem_cons_of_mem->bi,cons_prefix_cons->bv,size_toArray->b6,nodup_append->b7,mem_append_left->b9,map_append->ca,mem_cons->ce,mem_singleton->ci,getD_eq_getElem?_getD->cr,length_append->d7,prefix_append->d8,mem_append_right->d9,dropLast_concat->e5,mem_cons_self->e9,dropLast_concat_getLast->f6,getElem?_map->f8,nodup_cons->f9,append_nil->ge,length_cons->g7,getElem?_append_right->ii,mem_of_mem_take->i1,map_cons->i2,getElem?_append_left->i4,cons_append->i5,append_assoc->j3,length_singleton->j5,eq_nil_of_length_eq_zero->j7,lookup_cons->j8,prefix_append_right_inj->lQ,dropLast_cons_of_ne_nil->ms,zip_cons_cons->m6,getElem?_set_self->nw,prefix_refl->nH,length_take->n6,prefix_nil->n7,dropLast_subset->n8,mem_map->n9,dropLast_append_of_ne_nil->ol,take_append_drop->pi,range->pu,getElem_mem->re,getElem?_eq_none_iff->rS,getElem?_set_ne->r9,not_mem_nil->t7,length_drop->t8,all_eq_true->t9,getLastD_eq_getLast?->uW,nil_prefix->u6,length_nil->u7,take_length->v7,append_inj'->wf,mem_or_eq_of_mem_set->wp,length->ww,drop_left->wP,mem_of_mem_eraseIdx->wS,length_set->wT,mem_range->ye,length_pos_iff->ym,eraseIdx_eq_take_drop_succ->yn,map_nil->yq,mem_of_getLast?->yu,length_dropLast->yw,take_add_one->yz,length_eraseIdx_of_lt->zc,getElem?_zip_eq_some->ze,mem_of_mem_drop->zm,getElem?_of_mem->zn,getElem?_take_of_lt->zq,nodup_nil->zv,filter_cons->zw,append_cancel_left->zA,getLast?_eq_some_getLast->zC,map_map->zE,drop_eq_nil_of_le->zG,append_eq_nil_iff->zH,find?_cons->zN,mem_iff_getElem->AC,pairwise_iff_getElem->B0,drop_eq_getElem_cons->B1,map_congr_left->B3,any_cons->B7,lookup_append->Db,getElem?_drop->Do,lookup->D3,set_eq_take_append_cons_drop->D6,drop_zero->E2,findIdx_cons->E5,getElem_cons_drop->E7,eraseIdxIfInBounds_toArray->E9,cons_ne_nil->G5,any_eq_true->G6,range_succ->J3,of_mem_zip->J4,mem_filter->J5,getElem?_eraseIdx_of_lt->J7,getElem?_eraseIdx_of_ge->J8,length_reverse->KF,getElem_of_mem->KM,filterMap_cons->K0,set_cons_zero->M0,mem_filterMap->M2,getLast?_eq_some_iff->M8,getElem?_inj->N6,ext_getElem?->N7,any_eq_false->N8,map_drop->Os,all_cons->O0,map->O4,range'_succ->O9,perm_middle->Ps,map_snd_zip->PP,map_fst_zip->P0,getElem?_cons_zero->P3,getElem?_cons_succ->P4,take_of_length_le->Q3,all_append->Q9,take_eq_take_min->SZ,perm_append_comm->S0,mem_iff_getElem?->S1,length_filter_le->S8,filterMap_append->Tk,eraseIdx_sublist->TD,range'->U0,take_zero->U5,take_eq_nil_iff->V4,reverse_reverse->V5,length_eraseIdx->V6,forall_mem_cons->V7,dropLast_prefix->V8,toList_toArray->W1,reverse_append->W2,map_take->W8,set_cons_succ->Y9,getElem?_tail->ZB,filterMap_map->Z0,eraseIdx_zero->Z5,map_set->aae,reverse_cons->aap,length_range->aaq,drop_length->aaB,zip_append->aaM,sum_append->aaN,nil_append->aaO,take_left->abh,tail_cons->abi,sum_cons->abx
open List.cons renaming inj->b8,injEq->J6
open Nat renaming le_trans->al,le_of_eq->bm,lt_of_lt_of_le->bn,le_refl->b5,le_add_left->fr,le_add_right->gT,zero_le->gU,lt_of_le_of_lt->g8,add_le_add_right->io,ne_of_lt->i9,le_of_lt->jp,le_add_right_of_le->j6,lt_irrefl->rc,add_le_add_left->rs,add_le_add->tt,sub_self->u5,lt_trichotomy->yi,not_lt_zero->zL,min_eq_left->zM,lt_succ_of_le->zV,sub_zero->A4,lt_trans->A5,lt_or_ge->A6,min_le_right->A8,lt_succ_self->A9,min_eq_right->F7,lt_of_not_le->Gc,le_of_not_lt->GM,le_of_not_le->G0,mul_le_mul_left->KB,max_le->L1,sub_eq_zero_of_le->SL,le_succ->UV,pow_le_pow_right->V3,not_le->X7,add_sub_cancel->Y8,le_max_right->aaA,min_le_left->aaK,le_max_left->aaL,zero_add->abN,ne_of_gt->abO,add_zero->abP,div_one->ab1
open Ne renaming symm->u8
open Option renaming isSome_iff_exists->gt,map_eq_some_iff->kw,isSome_map->zl,map_some->zK,bind_eq_some_iff->D5,isSome_some->Y7,getD_none->aaz,ext->aa8,none->ab0
open Or renaming inr->D9,inl->I0
open Prod renaming fst->T8,snd->aa2
open PyProof.Rows renaming slot_tuple_getitem->sB,callWith_type1->x6,AllBare->N0,envOfC->Op,subscriptTail_builtinR->P9,entry_tuple_getitem->W0,subscriptTail->W5,args_tuple_getitem->X9,IsTup->aaa,callWith_builtin1->aaF,IntsAre->aaX,boot_range->aa6,Subscript_->aa7,slicePart_none->abc,tupleItemsOf_->abn,StrsAre->abL,sortedS->ab5
open PySem renaming wpAny_bind->ap,Value->bd,Shared->d6,wpAny_pure->e7,wpAny->im,Around->i8,model->j1,starEach->m7,Program->m8,FuncData->m9,mem_of_lookup->o0,World->q3,sysModules->q5,bootBuiltins->q7,mainGlobals->q8,Expr->r6,compareOp->ut,wpAny_holding->u9,wpAny_truthy_bool->wE,wpAny_call_entry->xL,wpAny_richCompare_same_room->x5,wpAny_newObj_type->yf,wpAny_dictEntries->yg,foldedSetIterable->yh,lookup_relabel_local->yt,wpAny_mono->y3,eval->y9,call_meets->za,wpAny_passesOwn->zi,valueAt->zt,wpAny_getItem_str_slice->zx,wpAny_callSpecial?_slot->zy,codeAny_builtin->zI,PyData->zT,wpAny_notOrdered_dict->zU,binaryOp->zW,typeIs_str->zX,codeAny->A1,cellsFrom->A2,plainId_quiet->B4,behindInMarks->B5,wpAny_comprehension_free->B8,wpAny_Call_Name_kw->C7,tupleKind_room_in1->C8,findBy_of_findIdx?->C9,wpAny_field->D1,sliceBounds->D2,relabel->Ev,wpAny_typeOf->EQ,backTo->FM,typeIs_int->FS,attributeBase->G7,wpAny_execs_nil->I9,wpAny_dictEpoch->J0,post_val_or_str->J1,letOwnedTupleGo->J2,getItem->K3,pushCells->K7,DictEntry->K8,assignEach->K9,newFunctionEnv->L4,wpAny_pyIter_tuple->L7,holding->M9,Keyword->No,wpAny_of_eq->N1,sizeLine_eq->N2,wpAny_pyIter_list->N4,rawInt->On,swapsWith->O5,wpAny_isInstance->O6,wpAny_forIn_list->O7,noFill_tuple_add->O8,IsPart->P6,wpAny_rule->P7,codeAny_compStart_list->Q0,wpAny_isTrue_Compare1->R5,Result->T6,subscripted->Uf,keywordEach->UF,boot_len->U1,callerA->Wp,BindsTo->WF,tupleKind->WP,wpAny_standAt->W4,seq_tuple_add->W6,KeyKind->W7,ExceptHandler->W9,assign->XV,wpAny_load->X0,call->X6,getattributeRaised->X8,seqIndex_neg->aab,concat_meets->aac,codeAny_mono->aad,wpAny_sequenceKey->aag,wpAny_pyIter_enum->aah,wpAny_dictFind_of->aai,wpAny_assign_Name->aaj,slot_list_getitem->aak,merged->aau,wpAny_execs_cons->aav,atKey->aaG,seqIndex_of->aaH,richCompare->aaI,bindL->aaY,bindC->aaZ,isTrue->aa0,backToKw->aa1,wpAny_Name->aa3,typeLookup->aa4,builtinsNs->aa5,wpAny_setField->aa9,wpAny_seqItems->aba,wpAny_Compare1->abb,firstArgMember->abd,rangeSize_one->abo,intBits_le_64->abp,eval_ListComp->abq,evalPart_none->abr,call_list_seq->abt,seqItems?->abG,seqIndex?->abH,PassesOwn->abI,pyNext->abJ,findBy->abK,Within->abM,compEnvC->abU,bindArgs->abV
open PySem.Around renaming under_plainId->yx
open PySem.AutoSeq1 renaming wpAny_loadPart'->C4,sub_list_list->Q6,list_insert_list_int_val_1->R4
open PySem.Builtin.Dict renaming dictSlotArgs->wr,updateFrom->P5,samePairs->Q5,showsAll->T0,selfAndRest->abE,addKeywords->abF,pairItems->abT
open PySem.Builtin.List renaming listTooLong->C3,listFitsIndex->M7
open PySem.Builtin.Slice renaming slicePlaces->zg,sliceAdjust->B2,sliceApplied->M6,slicePartIndex->aaW,sliceFields->abm
open PySem.Builtin.SmallTypes renaming nextOf->zf
open PySem.Builtin.Tuple renaming tupleExact->zr,tupleItemsOf->M4,tupleIsExact->M5,tupleCompareSizes->aat
open PySem.Calls renaming callWith_builtin->E8,Name_function_global->M3,evalArgs_plain->V9,spliced_cons->Z8,spliced_nil->aar
open PySem.F renaming plainAttrs_list->v6,slot_tuple_iterator_next->zd,slot_list_insert->B9,args_tuple_add_2->Ch,slot_list_getattribute->C1,entry_tuple_add->D4,slot_tuple_add->E6,type_list_pop->Fa,slot_list_pop->Fk,slot_dict_eq->Ix,args_tuple_iterator_next_1->J9,slot_dict_eq_refl->K2,entry_tuple_iterator_next->K6,slot_list_eq->L5,type_list_insert->O2,slot_dict_values->O3,args_list_eq_2->P1,plainAttrs_dict->P2,args_dict_eq_2->Q2,sub_list_dict->Rs,entry_list_eq->R0,sub_dict_dict->Sc,slot_dict_pop->SB,entry_dict_eq->SC,sub_str_dict->U7,sub_int_dict->U8,slot_dict_eq->U9,slot_dict_ne->V1,slot_list_eq_refl->W3,slot_str_eq_refl->Z6,slot_int_eq_refl->Z7,entry_list_pop->aaE,sub_dict_list->aaQ,slot_tuple_eq->aaR,slot_list_pop->aaS,args_str_eq_2->aaT,args_int_eq_2->aaU,slot_list_ne->abj,entry_str_eq->abk,entry_int_eq->abl,slot_str_eq->aby,slot_int_eq->abz
open PySem.Heap renaming get?_push_of_some->d0,lt_size->g6,get?_push_size->i7,SameBut->K5,get?_update_other->Q4,get?_update_self->TW,size_push->U6
open PySem.NameKind renaming free->x8,cell->B6
open PySem.Paired renaming length->zQ,snoc->abZ
open PySem.PyData renaming leavesShort->yo,showable->zJ,leavesShortAll->FB,depth->K4,showableAll->L9,bulk->N3,tuple->P8,depthAll->Q8,bulkAll->U4,leavesShortKv->V2,showableKv->aao,depthKv->abg,bulkKv->abw
open PySem.SeqAt renaming rc_eq_decline_or->yk,RcAt->C6,EqAt->F5,wpAny_isSame_ref_other'->IR
open PySem.SeqAt.EqAt renaming same->C5,str_int->Y0,int_str->Y5,none_bool->ab2,bool_none->ab3,bool_bool->ab4,str_none->aca,str_bool->acb,none_str->acc,none_int->acd,int_none->ace,int_bool->acf,bool_str->acg,bool_int->ach,str_str->aco,of_refs->acp,int_int->acq
open PySem.SeqAt.RcAt renaming none_none->G9,tuple_none->R7,none_tuple->R9,tuples->aal,lists_lengths->abD,str_list->ab6,list_str->ab7,list_int->ab8,int_list->ab9,str_str->ack,str_int->acl,int_str->acm,int_int->acn
open PySem.Txt renaming slice->yy,slice_le->A3,join->abW
open PySem.Value renaming ref->i3,none->u0,bool->x9,int->zh,str->zu,notImplemented->V0,isStrOf->abu,isInt->abX,float->abY,type->aci
open PySem.W renaming kia_one->sK,fnOf->y6,kia_tup->zj,nsIn->zD,keepIn->zY,codeIn->E1,kitx_list->E3,kitx_dict->E4,mg_of->G8,mg_none_of->L8,methodObj->N5,cellsFrom_some->Q1,instObj->Q7,lookIn->U2,kitOne->U3,kitx_tuple->Y6,kitx_none->aam,kitx_bool->aan,plainGet->aaw,kitx_str->aax,kitx_int->aay,OpenLaw->aaJ,kitAny->abe,findIn->abf,WalkO->abv
open Std.Legacy.Range renaming forIn_eq_forIn_range'->A0,size->R6
open Sum renaming inr->dL,inl->y4
open Sum.inr renaming inj->yr
open True renaming intro->w6
open Option renaming some->Z
theorem W{α:Sort _}{a:α}:a=a:=rfl
theorem ac{p:Prop}(h:p:=by decide):p:=h
theorem y_{p:Prop}(h:p:=by lia):p:=h
theorem z_{p:Prop}(h:p:=by simp):p:=h
theorem GE{p q:Prop}(h:p)(e:p->q:=by intro h;simpa using h):q:=e h
theorem yZ{α:Type _}{l:List α}{i:Nat}(h:i<l.length):l[i]?=Z l[i]:=List.getElem?_eq_getElem h
theorem ya{α:Type _}{l:List α}{i:Nat}{a:α}(h:l[i]?=Z a):∃h:i<l.length,l[i]=a:=List.getElem?_eq_some_iff.mp h
theorem yb{α:Type _}{a b:α}(h:Z a=Z b):a=b:=Option.some.inj h
theorem yc{α:Type _}{l:List α}{i:Nat}{a:α}(h:l[i]?=Z a):a∈l:=List.mem_of_getElem? h
abbrev yd:=PySem.W.Frag
namespace L2
open PySem PySem.Spec PyProof.Rows
abbrev Key:=Sum Int Str
abbrev lqa:List Str:=["one","other"]
abbrev lqb:List Str:=["_law_cell_here","_law_one","_law_doc_here","_law_names_here"]
abbrev lqc:List Str:=["_law_doc_here","_law_row_here"]
abbrev lqd:List Str:=["_law_cell_here","_law_k"]
abbrev lqe:List Str:=["_law_word","_law_path","_law_cell_here","_law_doc_here","_law_names_here"]
abbrev lqf:List Str:=["row"]
abbrev lqg:List Str:=["_law_some","_law_cell_here","_law_k"]
abbrev lqh:List Str:=["_law_doc_here","_law_path"]
abbrev lqi:List Str:=["_law_cell_here","_law_doc_here","_law_names_here"]
abbrev lqj:List Str:=["put","take","move","copy","change","ask","has","lacks","is","move","put","take"]
abbrev lqk:List Str:=["_law_doc_here","_law_ahead"]
abbrev lql:List Str:=["_law_doc_here","_law_names_here"]
abbrev lqm:List Str:=["_law_doc_here"]
abbrev lqn:List Str:=["_law_doc_here","_law_path","_law_value_here"]
abbrev lqo:List Str:=["_law_cell_here","_law_names_here"]
abbrev lqp:List Str:=["_law_script","_law_at","_law_doc_here","_law_names_here"]
abbrev lqq:List Str:=["_law_script","_law_start","_law_many","_law_names_here"]
abbrev lqr:List Str:=["_law_doc_here","_law_one","_law_other","_law_first"]
abbrev lqs:List Str:=["_law_script","_law_k"]
abbrev lqt:List Str:=["_law_cell_here","_law_one","_law_names_here"]
abbrev lqu:List Str:=["one","other","first"]
abbrev lqv:List Str:=["holder","place","row","ahead"]
abbrev lqw:List Str:=["path","holder","place"]
abbrev lqx:List Str:=["ask","has","lacks","is"]
abbrev lqy:List Str:=["holder","step","row"]
abbrev lqz:List Str:=["_law_cell_here","_law_deep"]
abbrev lqA:List Str:=["take","has","lacks"]
abbrev lqB:List Str:=["path","holder"]
abbrev lqC:List Str:=["path","others"]
abbrev lqD:List Str:=["_law_row_here"]
abbrev lqE:List Str:=["put","change","ask","is"]
abbrev lqF:List Str:=["step"]
abbrev lqG:List Str:=["to","path"]
abbrev lqH:List Str:=["doc"]
abbrev lqI:List Str:=["_law_cell_here"]
abbrev lqJ:List Str:=["_law_one","_law_two"]
abbrev lqK:List Str:=["_law_script"]
noncomputable def KW:Key->bd->Bool
 | .inl k,v=>abX k v| .inr x,v=>abu x v
noncomputable def nI(w:q3):Key->Int
 | .inl k=>hashInt k| .inr x=>hashStr w x
theorem Bf:∀{k:Key}{v:bd},KW k v=true->(∃i t,k=y4 i/\v=zh i t)∨(∃x t,k=dL x/\v=zu x t)
 | .inl i,v,h=>by
  obtain⟨t,e⟩:=Value.isInt_shape (k:=i) (v:=v) h;exact .inl ⟨i,t,W,e⟩
 | .inr x,v,h=>by
  obtain⟨t,e⟩:=Value.isStrOf_shape (x:=x) (v:=v) h;exact .inr ⟨x,t,W,e⟩
theorem VN(i:Int)(t:Tok):KW (.inl i) (.int i t)=true:=by simp[KW,abX]
theorem VO(x:Str)(t:Tok):KW (.inr x) (.str x t)=true:=by simp[KW,abu]
theorem dG(a b:Int):decide ((y4 a:Key)=y4 b)=(a==b):=by
 by_cases e:a=b
 .subst e;simp
 .have h:¬(y4 a:Key)=y4 b:=λq=>e<|Sum.inl.inj q;rw[decide_eq_false h];exact(beq_eq_false_iff_ne.mpr e).symm
theorem dH(a b:Str):decide ((dL a:Key)=dL b)=decide (a=b):=by
 by_cases e:a=b
 .subst e;simp
 .have h:¬(dL a:Key)=dL b:=λq=>e<|yr q;rw[decide_eq_false h,decide_eq_false e]
theorem dI(a:Int)(b:Str):decide ((y4 a:Key)=dL b)=false:=decide_eq_false λq=>nomatch q
theorem dJ(a:Str)(b:Int):decide ((dL a:Key)=y4 b)=false:=decide_eq_false λq=>nomatch q
def A_(prog:m8)(w:q3):W7 prog w Key where
 is:=KW
 hash:=nI w
 inj:=λv a b ha hb=>by
  rcases Bf ha with⟨i,t,rfl,rfl⟩|⟨x,t,rfl,rfl⟩
  .rcases Bf hb with⟨j,u,rfl,e⟩|⟨y,u,rfl,e⟩
   .injection e with e1 _;rw[e1]
   .exact nomatch e
  .rcases Bf hb with⟨j,u,rfl,e⟩|⟨y,u,rfl,e⟩
   .exact nomatch e
   .injection e with e1 _;rw[e1]
 byValue:=λk v h=>by
  rcases Bf h with⟨i,t,rfl,rfl⟩|⟨x,t,rfl,rfl⟩<;>rfl
 pyHash:=λhv h=>by
  rcases Bf hv with⟨i,t,rfl,rfl⟩|⟨x,t,rfl,rfl⟩
  .exact wpAny_pyHash_int h
  .exact wpAny_pyHash_str h
 eqBool:=λhu hv h=>by
  rcases Bf hu with⟨i,t,rfl,rfl⟩|⟨x,t,rfl,rfl⟩
  .rcases Bf hv with⟨j,u,rfl,rfl⟩|⟨y,u,rfl,rfl⟩
   .rw[dG]at h;exact wpAny_eqBool_int h
   .rw[dI]at h;exact Y5 i t y u _ _ _ _ h
  .rcases Bf hv with⟨j,u,rfl,rfl⟩|⟨y,u,rfl,rfl⟩
   .rw[dJ]at h;exact Y0 x t j u _ _ _ _ h
   .rw[dH]at h;exact wpAny_eqBool_str h
 «strs»:=λk x t v h=>by
  rcases Bf h with⟨i,u,rfl,e⟩|⟨y,u,rfl,e⟩
  .exact nomatch e
  .injection e with e1 _;subst e1;cases v<;>rfl
theorem QM(prog:m8)(w:q3)(i:Int)(t:Tok):(A_ prog w).is (.inl i) (.int i t)=true:=VN i t
theorem QN(prog:m8)(w:q3)(x:Str)(t:Tok):(A_ prog w).is (.inr x) (.str x t)=true:=VO x t
inductive V where
 |Al|bl (b:Bool)|int (i:Int)|str (x:Str)|VP (b:Array UInt8)|gW (b:UInt64)|ref (a:Addr)|ty (n:String)
 deriving DecidableEq
def RelV:V->bd->Prop
 | .Al,u=>u=u0| .bl b,u=>u=x9 b| .int i,u=>∃t,u=zh i t| .str x,u=>∃t,u=zu x t| .VP b,u=>∃t,u=Value.bytes b t| .gW b,u=>∃t,u=abY b t| .ref a,u=>u=i3 a| .ty n,u=>u=aci n
abbrev Vals:List V->List bd->Prop:=Paired RelV
theorem Vals.length{xs:List V}{a:List bd}(r:Vals xs a):xs.length=a.length:=zQ r
variable{xs:List V}
theorem Vals.inv{x:V}{c:List bd}(r:Vals (x::xs) c):∃u d,c=u::d/\RelV x u/\Vals xs d:=by
 cases r with
 |cons a b=>exact⟨_,_,W,a,b⟩
theorem Vals.get{c:List bd}{i:Nat}{x:V}(r:Vals xs c)(e:xs[i]?=Z x):∃u,c[i]?=Z u/\RelV x u:=by
 induction r generalizing i with
 |nil=>rw[List.getElem?_nil]at e;exact nomatch e
 |cons a b d=>
  cases i with
  |zero=>exact⟨_,W,yb e▸a⟩|succ j=>exact d (i:=j) e
theorem Vals.set{x:V}{u:bd}(r:RelV x u):∀{xs:List V}{a:List bd}(i:Nat),Vals xs a->Vals (xs.set i x) (a.set i u)
 |_,_,_,.nil=>.nil|_,_,0,.cons _ t=>.cons r t|_,_,i+1,.cons q t=>.cons q (Vals.set r i t)
theorem Vals.append{ys:List V}{b ws:List bd}(r:Vals xs b)(s:Vals ys ws):Vals (xs++ys) (b++ws):=by
 induction r with
 |nil=>exact s|cons a _ c=>exact .cons a c
theorem Vals.take:∀{b:List V}{a:List bd}(n:Nat),Vals b a->Vals (b.take n) (a.take n)
 |_,_,0,_=>.nil|_,_,_+1,.nil=>.nil|_,_,n+1,.cons r t=>.cons r (Vals.take n t)
theorem Vals.drop:∀{xs:List V}{a:List bd}(n:Nat),Vals xs a->Vals (xs.drop n) (a.drop n)
 |_,_,0,r=>r|_,_,_+1,.nil=>.nil|_,_,n+1,.cons _ t=>Vals.drop n t
def Kv:Option V->Option bd->Prop
 |some v,Z u=>RelV v u|none,ν=>True|_,_=>False
def KV{a:Type}:List (a×V)->List (a×bd)->Prop:=Paired λ(p:a×V)(q:a×bd)=>p.1=q.1/\RelV p.2 q.2
noncomputable def kV:Key->V
 | .inl i=>.int i| .inr x=>.str x
inductive HO where
 |lst (xs:List V)
 |tup (xs:List V)
 |dK (kvs:List (Key×V))|dT (kvs:List (List Key×V))
 |set (S:Int->Bool) (n:Nat)
 |ins (C a:Addr) (fs:List (Str×V))
 |own (x:Addr)
 |xd (fs:List (Str×V))
 |met (f x:Addr)
 |dM (lo b:Int)
 |Di (o:Obj) (u:HO)
 |dN (c:Array bd)
 |ext (d:Heap->Prop)
abbrev Hp:=Addr->Option HO
def upd(H:Hp)(a:Addr)(o:HO):Hp:=λb=>if b=a then Z o else H b
def Wx(H:Hp)(o:HO)(Q:V->Hp->Prop):Prop:=∀p,H p=ν->Q (.ref p) (upd H p o)
variable{H:Hp}{a:Addr}{o:HO}
theorem AD:upd H a o a=Z o:=by unfold upd;rw[if_pos W]
variable{b:Addr}
theorem AM(h:b≠a):upd H a o b=H b:=by unfold upd;rw[if_neg h]
theorem Z_{u:HO}:upd (upd H a o) a u=upd H a u:=by
 funext b;unfold upd;split<;>rfl
theorem GI{u:HO}(h:H a=Z o)(h':H b=Z u)(d:o≠u):a≠b:=by
 intro e;subst e;rw[h]at h';exact d<|yb h'
theorem Am(h:H a=Z o)(h':H b=ν):a≠b:=by
 intro e;subst e;rw[h]at h';cases h'
section
variable(P:m8) (w:q3)
def BR(H:Hp)(h:Heap)(a:Addr):HO->Prop
 | .lst xs=>xs.length<=sizeLine/\∃(its:List bd)(n:Nat),Vals xs its/\h.get? a=Z {cls:=.type "list",data:=.seq its.toArray n}| .tup xs=>xs.length<=sizeLine/\∃its:List bd,Vals xs its/\aaa h a its.toArray| .dK kvs=>kvs.length<=sizeLine/\(a==q5)=false/\∃e,KV kvs e/\h.DictOf (A_ P w) a e| .dT kvs=>kvs.length<=sizeLine/\(a==q5)=false/\∃xs:List (List Key×Addr×bd),
   Paired (λ(p:List Key×V)(q:List Key×Addr×bd)=>p.1=q.1/\H q.2.1=Z (.tup (p.1.map kV))/\RelV p.2 q.2.2) kvs xs/\
   ∃o g k,h.get? a=Z o/\o.ExactDict/\o.data=.dict g k/\g.toList=xs.map (entryOfKey (WP (A_ P w)))/\(xs.map (·.1)).Nodup
 | .set S n=>h.SetOf (intKind P w) a S n| .ins C c fs=>H c=Z (.own a)/\fs.length<=1000/\c≠a/\h.get? a=Z (Q7 C c)/\
   ∃b,h.Ns1 c b/\(∀f,Kv (fs.lookup f) (b f))/\abM b (fs.map (·.1))
 | .own _=>∃o,h.get? a=Z o| .xd fs=>∃b,h.Ns1 a b/\∀f,Kv (fs.lookup f) (b f)| .dM lo l=>∃t u v,h.get? a=Z {cls:=.type "range",data:=.fields #[.int lo t,.int l u,.int 1 v]}
 | .Di o u=>h.get? a=Z o/\BR H h a u| .dN m=>h.get? a=Z {cls:=.none,data:=.fields m}| .met f x=>h.get? a=Z (N5 (.ref f) (.ref x))| .ext d=>d h/\(∃o,h.get? a=Z o)/\∀i j:Heap,d i->(∀o,i.get? a=Z o->j.get? a=Z o)->d j
def Hq(H:Hp)(h:Heap):Prop:=∀a o,H a=Z o->BR P w H h a o
end
variable{P:m8}{w:q3}{h h':Heap}{H':Hp}
section
theorem BR.lt(x:BR P w H h a o):a<h.objs.size:=by
 cases o with
 |lst b=>obtain⟨_,_,_,_,e⟩:=x;exact g6 e
 |tup b=>obtain⟨_,_,_,p⟩:=x;exact p.lt
 |dK kvs=>obtain⟨_,_,_,_,o,_,_,e,_⟩:=x;exact g6 e
 |dT kvs=>obtain⟨_,_,_,_,o,_,_,e,_⟩:=x;exact g6 e
 |set S n=>obtain⟨o,_,_,_,e,_⟩:=x;exact g6 e
 |ins C c fs=>obtain⟨_,_,_,e,_⟩:=x;exact g6 e
 |own y=>obtain⟨_,e⟩:=x;exact g6 e
 |xd fs=>obtain⟨_,⟨_,_,_,e,_⟩,_⟩:=x;exact g6 e
 |dM lo d=>obtain⟨_,_,_,e⟩:=x;exact g6 e
 |Di g u=>obtain⟨e,_⟩:=x;exact g6 e
 |dN i=>exact g6 (show h.get? a=Z _ from x)|met f y=>exact g6 (show h.get? a=Z _ from x)|ext j=>obtain⟨_,⟨_,e⟩,_⟩:=x;exact g6 e
theorem Paired.hJ{e g:Type}{F G:e->g->Prop}{c:List e}{d:List g}(r:Paired F c d)(f:∀a b,F a b->G a b):Paired G c d:=by
 induction r with
 |nil=>exact .nil|cons a _ i=>exact .cons (f _ _ a) i
theorem BR.Kw(x:BR P w H h a o)(k:∀b u,(b=a∨H b=Z (.own a))->h.get? b=Z u->h'.get? b=Z u)(B:∀b,H b=Z (.own a)->H' b=Z (.own a))(D:∀b xs,H b=Z (.tup xs)->H' b=Z (.tup xs)):BR P w H' h' a o:=by
 induction o with
 |lst xs=>obtain⟨z,l,n,r,e⟩:=x;exact⟨z,l,n,r,k _ _ (.inl W) e⟩
 |tup xs=>obtain⟨z,l,r,g,e,c⟩:=x;exact⟨z,l,r,g,k _ _ (.inl W) e,c⟩
 |dK kvs=>obtain⟨z,y,E,r,g,i,j,e,c⟩:=x;exact⟨z,y,E,r,g,i,j,k _ _ (.inl W) e,c⟩
 |dT kvs=>
  obtain⟨z,y,xs,r,g,i,j,e,c⟩:=x;exact⟨z,y,xs,Paired.hJ r λp q z=>⟨z.1,D _ _ z.2.1,z.2.2⟩,g,i,j,k _ _ (.inl W) e,c⟩
 |set S n=>obtain⟨g,i,j,t,e,c⟩:=x;exact⟨g,i,j,t,k _ _ (.inl W) e,c⟩
 |ins C I fs=>
  obtain⟨d,z,ne,e,m,⟨s,i,j,F,c⟩,r⟩:=x;exact⟨B _ d,z,ne,k _ _ (.inl W) e,m,⟨s,i,j,k _ _ (.inr d) F,c⟩,r⟩
 |own y=>obtain⟨g,e⟩:=x;exact⟨g,k _ _ (.inl W) e⟩
 |xd fs=>obtain⟨m,⟨s,i,j,e,c⟩,r⟩:=x;exact⟨m,⟨s,i,j,k _ _ (.inl W) e,c⟩,r⟩
 |dM lo J=>obtain⟨t,u,v,e⟩:=x;exact⟨t,u,v,k _ _ (.inl W) e⟩
 |Di g u G=>obtain⟨e,q⟩:=x;exact⟨k _ _ (.inl W) e,G q⟩
 |dN A=>
  have e:h.get? a=Z {cls:=.none,data:=.fields A}:=x;show h'.get? a=Z {cls:=.none,data:=.fields A};exact k a _ (.inl W) e
 |met f y=>
  have e:h.get? a=Z (N5 (.ref f)<|.ref y):=x;show h'.get? a=Z (N5 (.ref f)<|.ref y);exact k a _ (.inl W) e
 |ext L=>obtain⟨p,⟨o,e⟩,st⟩:=x;exact⟨st _ _ p λo q=>k _ _ (.inl W) q,⟨o,k _ _ (.inl W) e⟩,st⟩
theorem Hq.lt(x:Hq P w H h)(e:H a=Z o):a<h.objs.size:=(x a o e).lt
theorem Hq.fresh(x:Hq P w H h)(e:h.objs.size<=a):H a=none:=by
 cases q:H a with
 |none=>rfl|some u=>exact absurd (bn (x.lt q) e) (rc _)
theorem Hq.kept(x:Hq P w H h)(k:∀b u,h.get? b=Z u->h'.get? b=Z u):Hq P w H h':=λa o e=>
 (x a o e).Kw (λb u _ q=>k b u q) (λ_ q=>q) λ_ _ q=>q
theorem Hq.laid(x:Hq P w H h)(k:∀b u,h.get? b=Z u->h'.get? b=Z u)(g:h.objs.size<=a)(new:BR P w (upd H a o) h' a o):Hq P w (upd H a o) h':=λb u e=>by
 have d:=x.fresh g;by_cases f:b=a
 .subst f;rw[AD]at e;cases e;exact new
 .rw[AM f]at e;exact(x b u e).Kw (λc v _ q=>k c v q) (λc q=>by rw[AM<|Am q d];exact q) λc i q=>by rw[AM<|Am q d];exact q
end
def Rd(H:Hp)(a:Addr)(u:HO):Prop:=H a=Z u∨∃o,H a=Z (.Di o u)
theorem Rd.ok{u:HO}(r:Rd H a u)(x:Hq P w H h):BR P w H h a u:=by
 rcases r with r|⟨o,r⟩
 .exact x a u r
 .obtain⟨_,q⟩:=x a _ r;exact q
def hR:Option HO->Prop
 |some (.lst _)=>True|some (.dK _)=>True|some (.dT _)=>True|some (.set _ _)=>True|some (.ins _ _ _)=>True|some (.ext _)=>True|_=>False
section
variable {x e:Addr} {o':HO}
theorem Hq.write(ok:Hq P w H h)(g:hR (H x))(n:e=x∨H e=Z (.own x))(k:∀b u,b≠e->h.get? b=Z u->h'.get? b=Z u)(m:∃u,h'.get? e=Z u)(new:BR P w (upd H x o') h' x o'):Hq P w (upd H x o') h':=λb u q=>by
 have d:∀c y,H c=Z (.own y)->c≠x:=λc y r z=>by subst z;rw[r]at g;exact g
 have f:∀c i,H c=Z (.tup i)->c≠x:=λc i r z=>by subst z;rw[r]at g;exact g
 by_cases j:b=x
 .subst j;rw[AD]at q;cases q;exact new
 .rw[AM j]at q;by_cases a:b=e
  .have o:H b=Z (.own x):=by
    rcases n with z|z
    .exact absurd (a.trans z) j
    .rw[a];exact z
   rw[q]at o;cases o;obtain⟨v,p⟩:=m;exact⟨v,by rw[a];exact p⟩
  .refine(ok b u q).Kw (λc v l r=>k c v ?_ r) (λc r=>by rw[AM<|d c b r];exact r) λc i r=>by rw[AM<|f c i r];exact r
   rcases l with rfl|l
   .exact a
   .rintro rfl;rcases n with z|z
    .exact d c b l z
    .rw[l]at z;cases z;exact j W
end
structure Un(fs ex:List Addr)(H H':Hp)(h h':Heap):Prop where
 keep:∀b o,h.get? b=Z o->H b=ν->b∉fs->b∉ex->h'.get? b=Z o
 slot:∀b o,h.get? b=Z o->H b=ν->b∈fs->b∉ex->∃sl,h'.get? b=Z {o with slots:=sl}
 free:∀b o,h.get? b=Z o->H b=ν->b∉ex->H' b=ν
 there:∀b o,h.get? b=Z o->b∉ex->∃o',h'.get? b=Z o'
 Mz:∀b xs,H b=Z (.tup xs)->H' b=Z (.tup xs)
 Lg:∀b o u,H b=Z (.Di o u)->H' b=Z (.Di o u)
 OV:∀b ps,H b=Z (.dN ps)->∃more,H' b=Z (.dN (ps++more))
section
variable{fs uX ex yF:List Addr} {H1 H2:Hp} {h1 h2:Heap} {x e:Addr} 
theorem Un.any(u:Un fs ex H H1 h h1){c:Obj}(q:h.get? b=Z c)(n:H b=ν)(d:b∉ex):∃g,h1.get? b=Z {c with slots:=g}:=by
 by_cases f:b∈fs
 .exact u.slot b c q n f d
 .exact⟨c.slots,u.keep b c q n f d⟩
theorem Un.kept(k:∀b u,h.get? b=Z u->h'.get? b=Z u):Un fs ex H H h h':=
 ⟨λb c q _ _ _=>k b c q,λb c q _ _ _=>⟨c.slots,k b c q⟩,λ_ _ _ n _=>n,λb c q _=>⟨c,k b c q⟩,λ_ _ q=>q,λ_ _ _ q=>q,λ_ d q=>⟨#[],by rw[q];simp⟩⟩
theorem Un.refl:Un fs ex H H h h:=Un.kept λ_ _ q=>q
theorem Un.laid(k:∀b u,h.get? b=Z u->h'.get? b=Z u)(hp:h.objs.size<=a)(hn:H a=ν):Un fs ex H (upd H a o) h h' where
 keep:=λb u q _ _ _=>k b u q
 slot:=λb u q _ _ _=>⟨u.slots,k b u q⟩
 free:=λb u q n _=>by rw[AM (i9 (bn (g6 q) hp))];exact n
 there:=λb u q _=>⟨u,k b u q⟩
 Mz:=λb xs q=>by rw[AM (Am q hn)];exact q
 Lg:=λb u xs q=>by rw[AM (Am q hn)];exact q
 OV:=λb ps q=>⟨#[],by rw[AM (Am q hn),q];simp⟩
theorem Un.write(d:hR (H x))(l:e=x∨H e=Z (.own x))(k:∀b u,b≠e->h.get? b=Z u->h'.get? b=Z u)(f:∃u,h'.get? e=Z u):Un fs ex H (upd H x o) h h':=by
 have i:∀b,H b=ν->b≠x:=λb n z=>by subst z;rw[n]at d;exact d
 have j:∀b,H b=ν->b≠e:=λb n z=>by
  subst z;rcases l with r|r
  .exact i b n r
  .rw[n]at r;cases r
 have g:∀b u,H b=Z u->¬hR (Z u)->b≠x:=λb u q m z=>by subst z;rw[q]at d;exact m d
 refine⟨λb u q n _ _=>k b u (j b n) q,λb u q n _ _=>⟨u.slots,k b u (j b n) q⟩,λb u q n _=>by rw[AM (i b n)];exact n,λb u q _=>?_,
  λb p q=>by rw[AM (g b _ q λz=>z)];exact q,λb u p q=>by rw[AM (g b _ q λz=>z)];exact q,λb s q=>⟨#[],by rw[AM (g b _ q λz=>z),q];simp⟩⟩
 by_cases c:b=e
 .subst c;exact f
 .exact⟨u,k b u c q⟩
end
def lR(h:Heap)(H:Hp):List Addr:=(pu h.objs.size).filter λa=>(H a).isSome
def OW(h:Heap)(H:Hp):Heap:=PySem.W.hideAll h<|lR h H
theorem VQ(h:Heap)(H:Hp):(OW h H).objs.size=h.objs.size:=PySem.W.hideAll_size _ _
theorem Wy{o:Obj}(e:h.get? b=Z o)(n:H b=ν):(OW h H).get? b=Z o:=
 PySem.W.hideAll_get _ e λa=>by
  have q:(H b).isSome=true:=(J5.mp a).2;rw[n]at q;simp at q
theorem Z'{o:Obj}(e:(OW h H).get? b=Z o):h.get? b=Z o/\H b=none:=by
 have a:h.get? b=Z o:=PySem.W.of_hideAll (lR h H) e;refine⟨a,?_⟩;cases q:H b with
 |none=>rfl|some x=>
  have c:b∈lR h H:=J5.mpr ⟨ye.mpr<|g6 a,by simp[q]⟩;have z:(OW h H).get? b=none:=PySem.W.hideAll_none (lR h H) c;rw[z]at e;cases e
structure Mod(K:yd)(mg:Str->Option bd)(base:Heap):Prop where
 lT:K.In base
 glob:base.Ns q8 mg
 blt:∃mb,base.Ns aa5 mb/\∀x:Str,x≠"__name__"->mb x=q7 x
 nolimit:base.NoLimit
structure Cx where
 prog:m8
 w:q3
 K:yd
 mg:Str->Option bd
 base:Heap
 A:i8
 N:List Str
 s₀:d6
 H₀:Hp
 env:Env
 outer:List Env
 stack:List Env
 ex:List Addr
 fn:Str->Bool
 calm:Bool
 pn:List (Addr×Obj)
 xe:bd->d6->Prop
def Wz(l:List Env):List Addr:=l.filterMap (·.frame)
abbrev Cx.fs(X:Cx):List Addr:=Wz X.outer
def lU(a:Scope)(x:Str):Prop:=a.names.lookup x=Z .local∨a.names.lookup x=Z .cell∨a.names.lookup x=Z .free
def Loc(a:Scope)(x:Str):Prop:=a.names.lookup x=Z .local∨a.names.lookup x=Z .cell
def Look(env:Env)(h:Heap)(m:Str->Option bd)(x:Str)(u:bd):Prop:= (env.kindOf x=Z .local/\m x=Z u)∨((env.kindOf x=Z .cell∨env.kindOf x=Z .free)/\∃c,env.cells.lookup x=Z c/\h.IsCell c (Z u))
structure Cx.Ok(X:Cx):Prop where
 mod:Mod X.K X.mg X.base
 kind:X.env.scope.kind=.function
 glob:X.env.globals=q8
 blt:X.env.builtins=aa5
 above:X.s₀.heap.objs.size<=X.env.locals
 inj:∀x y c,X.env.cells.lookup x=Z c->X.env.cells.lookup y=Z c->x=y
 has:∀x,(X.env.kindOf x=Z .cell∨X.env.kindOf x=Z .free)->∃c,X.env.cells.lookup x=Z c
 hU:∀x c,X.fn x=true->X.env.cells.lookup x=Z c->X.s₀.heap.objs.size<=c
 hd:X.calm=true->X.A.handled=ν
 frames:X.A.frames=Z X.stack
 lV:X.stack=X.outer∨(X.stack=X.env::X.outer/\X.env.frame=Z X.env.locals)
 gX:∀b∈X.ex,b≠X.env.locals/\∀x c,X.env.cells.lookup x=Z c->c≠b
 bs:∀b o,X.base.get? b=Z o->X.s₀.heap.get? b=Z o/\X.H₀ b=ν
 Zt:X.base.objs.size<=X.s₀.heap.objs.size
 VR:∀b o,X.base.get? b=Z o->b∉X.ex
 VS:∀b∈X.ex,b∉X.fs
 Lh:X.s₀.heap.FunFrames X.base X.outer
 gY:∀b∈X.fs,X.H₀ b=ν
structure Inv(X:Cx)(pins:List (Addr×Obj))(σ:List (Option V))(H:Hp)(s:d6):Prop where
 ok:X.Ok
 os:s.os=X.s₀.os
 bare:N0 s.gens
 base:Un X.fs X.ex X.H₀ H X.s₀.heap s.heap
 loc:∃m,s.heap.Ns X.env.locals m/\∀(i:Nat)(x:Str)(v:V),X.N[i]?=Z x->σ[i]?=Z (Z v)->lU X.env.scope x->∃u,RelV v u/\Look X.env s.heap m x u
 cell:∀x c,X.env.cells.lookup x=Z c->∃v,s.heap.IsCell c v
 free:H X.env.locals=ν
 GJ:∀x c,X.env.cells.lookup x=Z c->H c=ν
 pin:∀p∈X.pn++pins,s.heap.get? p.1=Z p.2/\H p.1=ν/\p.1≠X.env.locals/\p.1∉X.fs/\∀v,p.2.data≠.cell v
 Bi:Hq X.prog X.w H s.heap
 len:σ.length=X.N.length
variable{pins:List (Addr×Obj)}{E:bd->d6->Prop}{s:d6}{X:Cx}{u:bd}{x:Str}{ch:List Addr}{g':Array GenState}{M:Model}{t':Nat}{v:V}{N:List Str}{d':Drawn}{it:Addr}
section
variable {σ:List (Option V)} 
theorem Cx.Ok.nJ(ok:X.Ok){o:Obj}(e:X.base.get? b=Z o):b∉X.fs:=λa=>by
 have:=(ok.Lh.mem a).1;rw[e]at this;cases this
theorem Inv.bs(I:Inv X pins σ H s):∀b o,X.base.get? b=Z o->s.heap.get? b=Z o/\H b=none:=λb o e=>
 ⟨I.base.keep b o (I.ok.bs b o e).1 (I.ok.bs b o e).2 (I.ok.nJ e) (I.ok.VR b o e),I.base.free b o (I.ok.bs b o e).1 (I.ok.bs b o e).2 (I.ok.VR b o e)⟩
theorem Inv.bk(I:Inv X pins σ H s):∀b o,X.base.get? b=Z o->s.heap.get? b=Z o:=λb o e=>(I.bs b o e).1
theorem Inv.mod(I:Inv X pins σ H s):Mod X.K X.mg X.base:=I.ok.mod
theorem Inv.KX(I:Inv X pins σ H s):X.K.In s.heap:=I.ok.mod.lT.keeps I.bk
theorem Inv.lt(I:Inv X pins σ H s):X.env.locals<s.heap.objs.size:=let⟨_,a,_⟩:=I.loc;a.lt
theorem Inv.sz(I:Inv X pins σ H s):X.s₀.heap.objs.size<=s.heap.objs.size:=al I.ok.above<|jp I.lt
theorem Inv.nK(I:Inv X pins σ H s)(h:s.heap.objs.size<=a):a∉X.fs:=λb=>by
 obtain⟨_,o,c,_⟩:=I.ok.Lh.mem b;exact absurd (bn (g6 c)<|al I.sz h)<|rc _
theorem Inv.dO(I:Inv X pins σ H s):∀x c,X.env.cells.lookup x=Z c->c≠X.env.locals:=λx c e z=>by
 obtain⟨v,o,d,f⟩:=I.cell x c e;obtain⟨m,⟨g,h,i,a,b,_⟩,_⟩:=I.loc;rw[z,a]at d;cases d;rw[b]at f;cases f
theorem Inv.Lh(I:Inv X pins σ H s):s.heap.FunFrames X.base X.outer:=by
 have all:∀(l:List Env),(∀b∈Wz l,b∈X.fs)->X.s₀.heap.FunFrames X.base l->s.heap.FunFrames X.base l:=by
  intro l
  induction l with
  |nil=>intro _ _;trivial|cons env r g=>
   intro f h;obtain⟨i,⟨L,o,a,j,k,m⟩,n⟩:=h;have c:L∈X.fs:=f L (by unfold Wz;rw[K0,a];exact e9);obtain⟨p,e⟩:=I.base.slot L o k (I.ok.gY L c) c λz=>I.ok.VS L z c;exact⟨i,⟨L,_,a,j,e,m⟩,g (λb d=>f b<|by unfold Wz;rw[K0,a];exact bi _ d) n⟩
 exact all X.outer (λ_ d=>d) I.ok.Lh
theorem Inv.stack(I:Inv X pins σ H s):s.heap.FunFrames X.base X.stack:=by
 rcases I.ok.lV with e|⟨e,a⟩
 .rw[e];exact I.Lh
 .rw[e];obtain⟨m,b,_⟩:=I.loc;refine .cons (by rw[I.ok.kind];decide) a b ?_ I.Lh;exact Heap.get?_none_of_le<|al I.ok.Zt I.ok.above
theorem Inv.OX(I:Inv X pins σ H s):∀b∈Wz X.stack,b∈X.env.locals::X.fs:=λb a=>by
 rcases I.ok.lV with e|⟨e,c⟩
 .rw[e]at a;exact bi _ a
 .rw[e]at a;unfold Wz at a;rw[K0,c]at a;exact a
theorem Inv.OY(I:Inv X pins σ H s):∀b∈Wz X.stack,H b=none:=λb a=>by
 rcases ce.mp (I.OX b a)with e|a
 .rw[e];exact I.free
 .obtain⟨_,o,c,_⟩:=I.ok.Lh.mem a;exact I.base.free b o c (I.ok.gY b a) λz=>I.ok.VS b z a
theorem Inv.step(I:Inv X pins σ H s)(f:∀b∈ch,(b∈X.ex∨X.s₀.heap.objs.size<=b)/\b≠X.env.locals/\(∀x c,X.env.cells.lookup x=Z c->c≠b)/\∀p∈X.pn++pins,p.1≠b)(keep:∀b o,b≠X.env.locals->b∉X.fs->b∉ch->s.heap.get? b=Z o->H b=ν->h'.get? b=Z o)(slot:∀b o,b≠X.env.locals->b∈X.fs->b∉ch->s.heap.get? b=Z o->H b=ν->∃F,h'.get? b=Z {o with slots:=F})(free:∀b o,b∉ch->s.heap.get? b=Z o->H b=ν->H' b=ν)(there:∀b o,b∉ch->s.heap.get? b=Z o->∃B,h'.get? b=Z B)(Mz:∀b t,H b=Z (.tup t)->H' b=Z (.tup t))(Lg:∀b o u,H b=Z (.Di o u)->H' b=Z (.Di o u))(OV:∀b E,H b=Z (.dN E)->∃more,H' b=Z (.dN (E++more)))(O:∀m,s.heap.Ns X.env.locals m->h'.Ns X.env.locals m)(G:Hq X.prog X.w H' h')(P:N0 g'):
  Inv X pins σ H' {s with heap:=h',gens:=g',drawn:=d',toks:=t'}:=by
 have C:∀b o,X.s₀.heap.get? b=Z o->b≠X.env.locals:=λb o e=>i9<|bn (g6 e) I.ok.above;have h:∀b o,X.s₀.heap.get? b=Z o->b∉X.ex->b∉ch:=λb o e a y=>by
  rcases(f b y).1 with z|z
  .exact a z
  .exact absurd (bn (g6 e) z)<|rc _
 have cellK:∀x c,X.env.cells.lookup x=Z c->∀v,s.heap.IsCell c v->h'.IsCell c v:=λx c e v ⟨o,A,J⟩=>by
  have g:c∉ch:=λz=>(f c z).2.2.1 x c e W;by_cases M:c∈X.fs
  .obtain⟨F,q⟩:=slot c o (I.dO x c e) M g A<|I.GJ x c e;exact⟨_,q,J⟩
  .exact⟨o,keep c o (I.dO x c e) M g A<|I.GJ x c e,J⟩
 refine⟨I.ok,I.os,P,⟨λb o e n y a=>?_,λb o e n y a=>?_,λb o e n a=>?_,λb o e a=>?_,λb t e=>Mz b t<|I.base.Mz b t e,λb o t e=>Lg b o t<|I.base.Lg b o t e,λb E e=>?_⟩,?_,λx c e=>?_,?_,λx c e=>?_,λp N=>?_,G,I.len⟩
 .exact keep b o (C b o e) y (h b o e a) (I.base.keep b o e n y a)<|I.base.free b o e n a
 .obtain⟨F,j⟩:=I.base.slot b o e n y a;obtain⟨L,D⟩:=slot b _ (C b o e) y (h b o e a) j<|I.base.free b o e n a;exact⟨L,D⟩
 .obtain⟨B,j⟩:=I.base.there b o e a;exact free b B (h b o e a) j<|I.base.free b o e n a
 .obtain⟨B,j⟩:=I.base.there b o e a;exact there b B (h b o e a) j
 .obtain⟨Q,j⟩:=I.base.OV b E e;obtain⟨R,D⟩:=OV b _ j;exact⟨Q++R,by rw[D,Array.append_assoc]⟩
 .obtain⟨m,S,T⟩:=I.loc;refine⟨m,O m S,λi x v j D U=>?_⟩;obtain⟨u,r,l⟩:=T i x v j D U;refine⟨u,r,?_⟩;rcases l with l|⟨k,c,e,z⟩
  .exact .inl l
  .exact .inr ⟨k,c,e,cellK x c e _ z⟩
 .obtain⟨v,z⟩:=I.cell x c e;exact⟨v,cellK x c e v z⟩
 .obtain⟨m,⟨o,_,_,A,_⟩,_⟩:=I.loc;exact free _ o (λz=>(f _ z).2.1 W) A I.free
 .obtain⟨v,o,A,J⟩:=I.cell x c e;exact free c o (λz=>(f c z).2.2.1 x c e W) A<|I.GJ x c e
 .obtain⟨e,n,ne,nf,d⟩:=I.pin p N;have g:p.1∉ch:=λz=>(f p.1 z).2.2.2 p N W;exact⟨keep p.1 p.2 ne nf g e n,free p.1 p.2 g e n,ne,nf,d⟩
theorem Inv.un(I:Inv X pins σ H s)(u:Un X.fs [] H H' s.heap h')(c:Hq X.prog X.w H' h'):Inv X pins σ H' {s with heap:=h',toks:=t'}:=by
 obtain⟨m,⟨o,l,p,h,r⟩,_⟩:=id I.loc;obtain⟨q,i⟩:=u.any h I.free z_;exact I.step (g':=s.gens) (d':=s.drawn) (ch:=[]) (λ_ z=>nomatch z) (λb o _ d _ e n=>u.keep b o e n d z_) (λb o _ d _ e n=>u.slot b o e n d z_) (λb o _ e n=>u.free b o e n z_) (λb o _ e=>u.there b o e z_) u.Mz u.Lg u.OV (λt j=>by
  obtain⟨v,f,g,a,k⟩:=j;rw[h]at a;cases a;exact⟨_,f,g,i,k⟩) c I.bare
theorem Inv.call(I:Inv X pins σ H s)(u:Un (Wz X.stack) ch H H' s.heap h')(g:Hq X.prog X.w H' h')(l:N0 g')(d:∀b∈ch,(b∈X.ex∨X.s₀.heap.objs.size<=b)/\b≠X.env.locals/\(∀x c,X.env.cells.lookup x=Z c->c≠b)/\∀p∈X.pn++pins,p.1≠b):
  Inv X pins σ H' {s with heap:=h',gens:=g',drawn:=d',toks:=t'}:=by
 obtain⟨m,⟨o,y,A,k,r⟩,_⟩:=id I.loc;obtain⟨B,h⟩:=u.any k I.free λz=>(d _ z).2.1 W;exact I.step (ch:=ch) d (λb o h q a e n=>u.keep b o e n (λz=>(ce.mp (I.OX b z)).elim h q) a) (λb o _ _ a e n=>u.any e n a) (λb o a e n=>u.free b o e n a) (λb o a e=>u.there b o e a) u.Mz u.Lg u.OV (λC t=>by
  obtain⟨D,i,j,f,v⟩:=t;rw[k]at f;cases f;exact⟨_,i,j,h,v⟩) g l
theorem Inv.turned(I:Inv X pins σ H s)(k:∀b o,b≠it->s.heap.get? b=Z o->h'.get? b=Z o)(g:H it=ν)(f:it≠X.env.locals)(h:it∈X.ex∨X.s₀.heap.objs.size<=it)(i:∀x c,X.env.cells.lookup x=Z c->c≠it)(j:∀p∈X.pn++pins,p.1≠it):Inv X pins σ H {s with heap:=h',toks:=t'}:=by
 have d:∀b u,H b=Z u->b≠it:=λb u e z=>by rw[z,g]at e;cases e
 refine I.step (g':=s.gens) (d':=s.drawn) (ch:=[it]) (λb l=>?_) (λb o _ _ a e _=>k b o (λz=>a<|by simp[z]) e) (λb o _ _ a e _=>⟨o.slots,k b o (λz=>a<|by simp[z]) e⟩) (λ_ _ _ _ n=>n) (λb o a e=>⟨o,k b o (λz=>a<|by simp[z]) e⟩) (λ_ _ e=>e) (λ_ _ _ e=>e) (λb B e=>⟨#[],by rw[e];simp⟩) (λm t=>?_) (λb u e=>?_) I.bare
 .have e:b=it:=GE l
  subst e;exact⟨h,f,i,j⟩
 .obtain⟨o,w,y,A,r⟩:=t;exact⟨o,w,y,k _ o (u8 f) A,r⟩
 .refine(I.Bi b u e).Kw (λc v a q=>k c v ?_ q) (λ_ q=>q) λ_ _ q=>q;rcases a with z|z
  .rw[z];exact d b u e
  .exact d c _ z
theorem Inv.tok(I:Inv X pins σ H s)(t:Nat):Inv X pins σ H {s with toks:=t}:=I.un (h':=s.heap) (t':=t) Un.refl I.Bi
theorem Inv.kept{t':Nat}(I:Inv X pins σ H s)(k:∀b u,s.heap.get? b=Z u->h'.get? b=Z u):Inv X pins σ H {s with heap:=h',toks:=t'}:=I.un (Un.kept k)<|I.Bi.kept k
theorem Inv.laid{a:Addr}{o:HO}{t':Nat}(I:Inv X pins σ H s)(k:∀b u,s.heap.get? b=Z u->h'.get? b=Z u)(c:s.heap.objs.size<=a)(new:BR X.prog X.w (upd H a o) h' a o):
  Inv X pins σ (upd H a o) {s with heap:=h',toks:=t'}:=I.un (Un.laid k c (I.Bi.fresh c)) (I.Bi.laid k c new)
theorem Inv.write{x e:Addr}{o:HO}{t':Nat}(I:Inv X pins σ H s)(c:hR (H x))(d:e=x∨H e=Z (.own x))(k:∀b u,b≠e->s.heap.get? b=Z u->h'.get? b=Z u)(a:∃u,h'.get? e=Z u)(new:BR X.prog X.w (upd H x o) h' x o):Inv X pins σ (upd H x o) {s with heap:=h',toks:=t'}:=I.un (Un.write c d k a)<|I.Bi.write c d k a new
theorem Inv.Tq{a:List (Addr×Obj)}(I:Inv X pins σ H s)(h:∀p∈a,s.heap.get? p.1=Z p.2/\H p.1=ν/\p.1≠X.env.locals/\p.1∉X.fs/\∀v,p.2.data≠.cell v):Inv X a σ H s:=
 ⟨I.ok,I.os,I.bare,I.base,I.loc,I.cell,I.free,I.GJ,λp b=>(am.mp b).elim (λz=>I.pin p (b9 _ z)) (h p),I.Bi,I.len⟩
theorem GK(c:N.Nodup){i j:Nat}(a:N[i]?=Z x)(b:N[j]?=Z x):i=j:=by
 obtain⟨f,d⟩:=ya a;obtain⟨g,e⟩:=ya b;exact(List.getElem_inj c).mp<|d.trans e.symm
theorem NM{A:i8}{i:Nat}{Q:Unit->d6->Prop}(I:Inv X pins σ H s)(hN:X.N.Nodup)(O:X.N[i]?=Z x)(t:Loc X.env.scope x)(r:RelV v u)(h:∀ξ,Inv X pins (σ.set i (Z v)) H ξ->(∃a,K5 a s.heap ξ.heap/\(a=X.env.locals∨X.env.cells.lookup x=Z a))->Q () ξ)(hf:X.fn x=true∨X.env.scope.names.lookup x=Z .local:=by first|exact .inl rfl|exact .inr rfl|assumption):im M A (storeName X.env x u) Q E s:=by
 obtain⟨m,hn,hl⟩:=id I.loc;have P:(X.env.scope.kind==.class||(X.env.scope.kind==.module&&X.env.locals !=X.env.globals))=false:=by rw[I.ok.kind];rfl
 have D:i<σ.length:=by rw[I.len];exact(ya O).1
 have dO:=I.dO;have tracked:∀{a:Addr}{h':Heap},(∃o,s.heap.get? a=Z o/\H a=ν)->K5 a s.heap h'->Hq X.prog X.w H h':=λ{a h'} ha f b ob e=>by
  obtain⟨_,_,B⟩:=ha;refine(I.Bi b ob e).Kw (λc Y l q=>(f.2 c ?_).trans q) (λ_ q=>q) λ_ _ q=>q;rintro rfl;rcases l with rfl|l
  .rw[B]at e;cases e
  .rw[B]at l;cases l
 rcases t with F|F
 .refine wpAny_storeName_local F hn (λh' uY f=>?_) P;obtain⟨oL,_,_,uZ,_⟩:=id hn;refine h _ ⟨I.ok,I.os,I.bare,⟨λb o e n G t=>?_,λb o e n G t=>?_,I.base.free,λb o e t=>?_,I.base.Mz,I.base.Lg,I.base.OV⟩,⟨_,uY,λj y v' g C e3=>?_⟩,λy c e=>?_,I.free,I.GJ,λp hp=>?_,tracked ⟨oL,uZ,I.free⟩ f,GE I.len⟩ ⟨_,f,.inl W⟩
  .exact(f.2 b<|i9<|bn (g6 e) I.ok.above).trans<|I.base.keep b o e n G t
  .obtain⟨sl,g⟩:=I.base.slot b o e n G t;exact⟨sl,(f.2 b<|i9<|bn (g6 e) I.ok.above).trans g⟩
  .obtain⟨o',g⟩:=I.base.there b o e t;exact⟨o',(f.2 b<|i9<|bn (g6 e) I.ok.above).trans g⟩
  .by_cases J:j=i
   .subst J;rw[O]at g;cases g;rw[nw D]at C;cases C;exact⟨u,r,.inl ⟨F,z_⟩⟩
   .rw[r9<|u8 J]at C;obtain⟨u',r',q⟩:=hl j y v' g C e3;refine⟨u',r',?_⟩;rcases q with⟨k,e⟩|⟨k,c,e,z⟩
    .refine .inl ⟨k,?_⟩;have:y≠x:=λe=>J<|GK hN g<|e▸O;simp[this,e]
    .exact .inr ⟨k,c,e,z.sameBut f<|dO y c e⟩
  .obtain⟨Y,z⟩:=I.cell y c e;exact⟨Y,z.sameBut f<|dO y c e⟩
  .obtain⟨e,n,ne,nf,d⟩:=I.pin p hp;exact⟨(f.2 p.1 ne).trans e,n,ne,nf,d⟩
 .have L:X.fn x=true:=by
   rcases hf with z|z
   .exact z
   .rw[z]at F;cases F
  obtain⟨c,l⟩:=I.ok.has x<|.inl F;obtain⟨Y,z⟩:=I.cell x c l;refine wpAny_storeName_cell I.ok.kind F l z (λh' R f=>?_);obtain⟨oc,S,T⟩:=id z;refine h {s with heap:=h'} ⟨I.ok,I.os,I.bare,⟨λb o e n G t=>?_,λb o e n G t=>?_,I.base.free,λb o e t=>?_,I.base.Mz,I.base.Lg,I.base.OV⟩,⟨m,hn.sameBut f<|u8<|dO x c l,λj y v' g C e3=>?_⟩,λy ζ e=>?_,I.free,I.GJ,λp hp=>?_,tracked ⟨oc,S,I.GJ x c l⟩ f,GE I.len⟩ ⟨c,f,.inr l⟩
  .exact(f.2 b<|i9<|bn (g6 e)<|I.ok.hU x c L l).trans<|I.base.keep b o e n G t
  .obtain⟨sl,g⟩:=I.base.slot b o e n G t;exact⟨sl,(f.2 b<|i9<|bn (g6 e)<|I.ok.hU x c L l).trans g⟩
  .obtain⟨o',g⟩:=I.base.there b o e t;exact⟨o',(f.2 b<|i9<|bn (g6 e)<|I.ok.hU x c L l).trans g⟩
  .by_cases J:j=i
   .subst J;rw[O]at g;cases g;rw[nw D]at C;cases C;exact⟨u,r,.inr ⟨.inl F,c,l,R⟩⟩
   .rw[r9<|u8 J]at C;obtain⟨u',r',q⟩:=hl j y v' g C e3;refine⟨u',r',?_⟩;rcases q with q|⟨k,ζ,e,z'⟩
    .exact .inl q
    .refine .inr ⟨k,ζ,e,z'.sameBut f ?_⟩;rintro rfl;exact J<|GK hN g<|I.ok.inj _ _ _ e l▸O
  .by_cases U:ζ=c
   .subst U;exact⟨_,R⟩
   .obtain⟨w2,z2⟩:=I.cell y ζ e;exact⟨w2,z2.sameBut f U⟩
  .obtain⟨e,n,ne,nf,d⟩:=I.pin p hp;refine⟨(f.2 p.1 ?_).trans e,n,ne,nf,d⟩;intro q;rw[q,S]at e;have q':oc=p.2:=yb e;exact d Y<|by rw[<-q'];exact T
theorem QO{A:i8}{i:Nat}{Q:Unit->d6->Prop}(I:Inv X pins σ H s)(b:X.N.Nodup)(c:X.N[i]?=Z x)(d:Loc X.env.scope x)(r:RelV v u)(h:∀a,Inv X pins (σ.set i (Z v)) H a->Q () a)(e:X.fn x=true∨X.env.scope.names.lookup x=Z .local:=by first|exact .inl rfl|exact .inr rfl|assumption):im M A (storeName X.env x u) Q E s:=
 NM I b c d r (λa f _=>h a f) e
theorem Inv.hV{a:d6}(I:Inv X pins σ H s)(g:a.os=s.os)(u:Un (Wz X.stack) ch H H' s.heap a.heap)(d:Hq X.prog X.w H' a.heap)(h:N0 a.gens)(f:∀b∈ch,(b∈X.ex∨X.s₀.heap.objs.size<=b)/\b≠X.env.locals/\(∀x c,X.env.cells.lookup x=Z c->c≠b)/\∀p∈X.pn++pins,p.1≠b):Inv X pins σ H' a:=by
 obtain⟨h',g',d',t',i⟩:=a;have e:i=s.os:=g;subst e;exact I.call (g':=g') (t':=t') (d':=d') u d h f
end
abbrev XK:=bd->Option Addr->Hp->Prop
abbrev St:=List<|Option V
abbrev VK:=V->Hp->Prop
abbrev TE:=St->Hp->VK->Prop
abbrev TT:=St->Hp->(Bool->Hp->Prop)->Prop
abbrev TA:=St->Hp->(List V->Hp->Prop)->Prop
structure Ends where
 nx:St->Hp->Prop
 rt:VK
 bk:St->Hp->Prop:=λ_ _=>False
 ct:St->Hp->Prop:=λ_ _=>False
abbrev TS:=Ends->St->Hp->Prop
inductive rV(x:V)(H:Hp)(Q:Bool->Hp->Prop):Prop|mk(c:Bool)(e:x=.bl c)(q:Q c H)
inductive nM(a:TE)(σ:St)(x:V)(H:Hp)(Q:VK):Prop|mk(c:Bool)(e:x=.bl c)(q:if c=true then a σ H Q else Q (.bl false) H)
inductive ua(a:TE)(σ:St)(x:V)(H:Hp)(Q:VK):Prop|mk(c:Bool)(e:x=.bl c)(q:if c=true then Q (.bl true) H else a σ H Q)
inductive nN(x:V)(H:Hp)(Q:VK):Prop|mk(c:Bool)(e:x=.bl c)(q:Q (.bl (!c)) H)
inductive ub(x:V)(H:Hp)(Q:Option Int->Hp->Prop):Prop|mk(i:Int)(e:x=.int i)(q:Q (Z i) H)
inductive EP(X:Cx)(pins:List (Addr×Obj))(σ:St)(Q:VK)(u:bd)(a:d6):Prop|mk(v:V)(H':Hp)(I:Inv X pins σ H' a)(r:RelV v u)(q:Q v H')
inductive TP(X:Cx)(pins:List (Addr×Obj))(σ:St)(Q:Bool->Hp->Prop)(b:Bool)(a:d6):Prop|mk(H':Hp)(I:Inv X pins σ H' a)(q:Q b H')
inductive AP(X:Cx)(pins:List (Addr×Obj))(σ:St)(Q:List V->Hp->Prop)(b:List bd)(c:d6):Prop|mk(a:List V)(H':Hp)(I:Inv X pins σ H' c)(r:Vals a b)(q:Q a H')
variable{σ:St}{G:Prop}
theorem EP.elim{Q:VK}{a:d6}(h:EP X pins σ Q u a)(k:∀(v:V) (H':Hp),Inv X pins σ H' a->RelV v u->Q v H'->G):G:=by
 cases h with
 |mk v H' I r q=>exact k v H' I r q
theorem AP.elim{Q:List V->Hp->Prop}{a:List bd}{b:d6}(h:AP X pins σ Q a b)(k:∀(c:List V) (H':Hp),Inv X pins σ H' b->Vals c a->Q c H'->G):G:=by
 cases h with
 |mk v H' I r q=>exact k v H' I r q
theorem TP.elim{Q:Bool->Hp->Prop}{b:Bool}{a:d6}(h:TP X pins σ Q b a)(k:∀H':Hp,Inv X pins σ H' a->Q b H'->G):G:=by
 cases h with
 |mk H' I q=>exact k H' I q
inductive nO(X:Cx)(pins:List (Addr×Obj))(N:St->Hp->Prop)(a:d6):Prop|mk(σ:St)(H':Hp)(I:Inv X pins σ H' a)(q:N σ H')
inductive uc(X:Cx)(pins:List (Addr×Obj))(Q:VK)(u:bd)(a:d6):Prop|mk(v:V)(σ:St)(H':Hp)(I:Inv X pins σ H' a)(r:RelV v u)(q:Q v H')
def SP(X:Cx)(pins:List (Addr×Obj))(D:Ends)(f:Flow)(a:d6):Prop:=
 match f with
 | .next=>nO X pins D.nx a| .brk=>nO X pins D.bk a| .cont=>nO X pins D.ct a| .ret u=>uc X pins D.rt u a
def PE(X:Cx)(e:r6)(t:TE):Prop:=
 ∀(pins:List (Addr×Obj))(s:d6)(a:St)(H:Hp)(Q:VK),Inv X pins a H s->t a H Q->im (j1 X.prog X.w) X.A (y9 e X.env) (EP X pins a Q) X.xe s
def PT(X:Cx)(e:r6)(t:TT):Prop:=
 ∀(pins:List (Addr×Obj))(s:d6)(a:St)(H:Hp)(Q:Bool->Hp->Prop),Inv X pins a H s->t a H Q->im (j1 X.prog X.w) X.A (aa0 e X.env (y9 e X.env)) (TP X pins a Q) X.xe s
def PW(X:Cx)(e:r6)(t:TT):Prop:=
 ∀(whole:Sem bd)(pins:List (Addr×Obj))(s:d6)(a:St)(H:Hp)(Q:Bool->Hp->Prop),Inv X pins a H s->t a H Q->im (j1 X.prog X.w) X.A (aa0 e X.env whole) (TP X pins a Q) X.xe s
variable{e:r6}
theorem PW.pt{t:TT}(h:PW X e t):PT X e t:=h _
def PA(X:Cx)(b:List r6)(t:TA):Prop:=
 ∀(pos:Pos)(pins:List (Addr×Obj))(s:d6)(a:St)(H:Hp)(Q:List V->Hp->Prop),Inv X pins a H s->t a H Q->im (j1 X.prog X.w) X.A (spliced (FM pos (m7 b X.env))) (AP X pins a Q) X.xe s
def PS(X:Cx)(st:Stmt)(t:TS):Prop:=
 ∀(pins:List (Addr×Obj))(s:d6)(a:St)(H:Hp)(D:Ends),Inv X pins a H s->t D a H->im (j1 X.prog X.w) X.A (exec st X.env) (SP X pins D) X.xe s
def OZ(X:Cx)(st:List Stmt)(t:TS):Prop:=
 ∀(pins:List (Addr×Obj))(s:d6)(a:St)(H:Hp)(D:Ends),Inv X pins a H s->t D a H->im (j1 X.prog X.w) X.A (execs st X.env) (SP X pins D) X.xe s
theorem CF{b:Type}{t:Sem b}{Q c:b->d6->Prop}{A:i8}(h:im M A t Q E s)(d:∀a s,Q a s->c a s):im M A t c E s:=y3 h d λ_ _ x=>x
variable{pos:Pos}{Q:bd->d6->Prop}{op:CmpOp}{c:r6}{ta t tb:TE}
section
inductive hY(i:Nat)(σ:St)(H:Hp)(Q:VK):Prop|mk(v:_)(a:σ[i]?=Z (Z v))(b:Q v H)
def Oa(i:Nat):TE:=λa H Q=>hY i a H Q
def tC(v:V):TE:=λ_ H Q=>Q v H
theorem dP{i:Nat}(j:X.N[i]?=Z x)(k:lU X.env.scope x)(d:(x==("__debug__":Str))=false:=by decide)(f:(x==("__classdict__":Str))=false:=by decide):PE X (.Name x pos) (Oa i):=by
 intro pins s n H Q I h;obtain⟨v,e,h⟩:=h;obtain⟨m,o,p⟩:=I.loc;obtain⟨u,r,l⟩:=p i x v j e k;have fin:EP X pins n Q u s:=⟨v,H,I,r,h⟩;rcases l with⟨b,q⟩|⟨b,c,g,a⟩
 .exact aa3 (wpAny_loadName_local I.ok.kind b o q fin) d
 .rcases b with b|b
  .exact aa3 (wpAny_loadName_cell I.ok.kind b g a fin) d
  .exact aa3 (wpAny_loadName_free I.ok.kind b g a fin f) d
theorem AG{i j pos}:PE X (.Constant (.int i) j pos) (tC (.int i)):=λ_ _ _ H _ I h=>wpAny_Constant_int ⟨.int i,H,I.tok _,⟨_,W⟩,h⟩
theorem GL{d j pos}:PE X (.Constant (.bool d) j pos) (tC (.bl d)):=λ_ _ _ H _ I h=>Constant_bool ⟨.bl d,H,I,W,h⟩
theorem A'{j pos}:PE X (.Constant .none j pos) (tC .Al):=λ_ _ _ H _ I h=>Constant_none ⟨.Al,H,I,W,h⟩
theorem AN{d j f}:PE X (.Constant (.str d) j f) (tC (.str d)):=λ_ _ _ H _ I h=>Calls.Constant_str ⟨.str d,H,I.tok _,⟨_,W⟩,h⟩
def Gl(X:Cx)(x:Str):Prop:=X.env.kindOf x=Z .globalImplicit
theorem Tr(I:Inv X pins σ H s)(a:Gl X x)(b:X.mg x=Z u)(h:Q u s)(c:(x==("__debug__":Str))=false:=by decide):im (j1 X.prog X.w) X.A (y9 (.Name x pos) X.env) Q E s:=
 M3 I.ok.kind a (Calls.loadGlobal_global (by rw[I.ok.glob];exact I.mod.glob.keeps I.bk) b h) c
theorem IP(I:Inv X pins σ H s)(a:Gl X x)(b:X.mg x=ν)(c:q7 x=Z u)(h:Q u s)(d:x≠"__name__":=by decide)(e:(x==("__debug__":Str))=false:=by decide):im (j1 X.prog X.w) X.A (y9 (.Name x pos) X.env) Q E s:=by
 obtain⟨i,f,g⟩:=I.mod.blt;exact M3 I.ok.kind a (Calls.loadGlobal_builtin (by rw[I.ok.glob];exact I.mod.glob.keeps I.bk) b (by rw[I.ok.blt];exact f.keeps I.bk) ((g x d).trans c) h) e
theorem Ob(a:Gl X x)(b:X.mg x=Z u)(r:RelV v u)(c:(x==("__debug__":Str))=false:=by decide):PE X (.Name x pos) (tC v):=
 λ_ _ _ H _ I h=>Tr I a b ⟨v,H,I,r,h⟩ c
theorem Oc(a:Gl X x)(b:X.mg x=ν)(c:q7 x=Z u)(r:RelV v u)(d:x≠"__name__":=by decide)(e:(x==("__debug__":Str))=false:=by decide):PE X (.Name x pos) (tC v):=
 λ_ _ _ H _ I h=>IP I a b c ⟨v,H,I,r,h⟩ d e
variable{a b:r6} 
def PC(X:Cx)(op:CmpOp)(a b:r6)(t:TE):Prop:=
 ∀(pins:List (Addr×Obj))(s:d6)(e:St)(H:Hp)(Q:VK),Inv X pins e H s->t e H Q->
  im (j1 X.prog X.w) X.A (y9 a X.env) (λv c=>im (j1 X.prog X.w) X.A (y9 b X.env) (λu d=>im (j1 X.prog X.w) X.A (ut op v u) (EP X pins e Q) X.xe d) X.xe c) X.xe s
def tB(t:TE):TT:=λc H Q=>t c H λx d=>rV x d Q
theorem dQ(h:PC X op a b t)(d:B5 op b=false:=by first|exact c _ ac ac|rfl):PE X (.Compare a [op] [b] pos) t:=λpins s e H Q I hw=>abb (h pins s e H Q I hw) d
theorem Od(h:PC X op a b t)(f:B5 op b=false:=by first|exact e _ ac ac|rfl):PT X (.Compare a [op] [b] pos) (tB t):=by
 intro pins s g H Q I hw;refine R5 (CF (h pins s g H _ I hw) λv o f=>CF f λu p i=>CF i λc r j=>j.elim λx k l m n=>?_) f;obtain⟨d,rfl,q⟩:=n;cases m;exact wE ⟨k,l,q⟩
theorem Ag(h:PE X e t)(c:∀whole,aa0 e X.env whole=(do let v<-whole;standAt e.pos;M9 [v] (truthy v)):=by intro _;rfl):PT X e (tB t):=by
 intro pins s f H Q I hw;refine isTrue_plain (CF (h pins s f H _ I hw) λv m g=>g.elim λx i j k l=>?_)<|c _;obtain⟨d,rfl,q⟩:=l;cases k;exact wE ⟨i,j,q⟩
variable{tA lW:TT} {rest:List r6}
def nP(t u:TT):TT:=λd H Q=>t d H λc e=>if c=true then u d e Q else Q false e
def ud(t u:TT):TT:=λd H Q=>t d H λc e=>if c=true then Q true e else u d e Q
def nQ(t:TT):TT:=λd H Q=>t d H λc e=>Q (!c) e
theorem pw_and1(d:PT X a tA):PW X (.BoolOp .And [a] pos) tA:=by
 intro g pins s f H Q I h;refine isTrue_and (CF (d pins s f H Q I h) λc i e=>?_);cases c with
 |true=>exact isTrue_and_nil e|false=>exact e
theorem pw_or1(d:PT X a tA):PW X (.BoolOp .Or [a] pos) tA:=by
 intro g pins s f H Q I h;refine isTrue_or (CF (d pins s f H Q I h) λc i e=>?_);cases c with
 |false=>exact isTrue_or_nil e|true=>exact e
theorem pw_and(i:PT X a tA)(j:PW X (.BoolOp .And (b::rest) pos) lW):PW X (.BoolOp .And (a::b::rest) pos) (nP tA lW):=by
 intro k pins s d H Q I h;refine isTrue_and (CF (i pins s d H _ I h) λc l m=>m.elim λe f g=>?_);cases c with
 |true=>exact j k pins l d e Q f g|false=>exact⟨e,f,g⟩
theorem pw_or(i:PT X a tA)(j:PW X (.BoolOp .Or (b::rest) pos) lW):PW X (.BoolOp .Or (a::b::rest) pos) (ud tA lW):=by
 intro k pins s d H Q I h;refine isTrue_or (CF (i pins s d H _ I h) λc l m=>m.elim λe f g=>?_);cases c with
 |true=>exact⟨e,f,g⟩|false=>exact j k pins l d e Q f g
theorem ES(e:PT X a tA):PT X (.UnaryOp .Not a pos) (nQ tA):=by
 intro pins s f H Q I h;exact isTrue_not<|CF (e pins s f H (λc d=>Q (!c) d) I h) λc k g=>g.elim λd i j=>⟨d,i,j⟩
def hZ(ta tb:TE):TE:=λc H Q=>ta c H λx d=>nM tb c x d Q
def nR(ta tb:TE):TE:=λc H Q=>ta c H λx d=>ua tb c x d Q
def h_(ta:TE):TE:=λc H Q=>ta c H λx d=>nN x d Q
theorem D_{d}(h:PE X a t):PE X (.BoolOp d [a] pos) t:=λpins s c H Q I hw=>BoolOp_one<|h pins s c H Q I hw
theorem Dp(i:PE X a ta)(j:PE X (.BoolOp .And (b::rest) pos) tb):PE X (.BoolOp .And (a::b::rest) pos) (hZ ta tb):=by
 intro pins s e H Q I h;refine BoolOp_and (CF (i pins s e H _ I h) λv k l=>l.elim λx f g m d=>?_);obtain⟨c,rfl,d⟩:=d;cases m;refine wE ?_;cases c with
 |true=>exact j pins k e f Q g d|false=>exact⟨.bl false,f,g,W,d⟩
theorem cU(i:PE X a ta)(j:PE X (.BoolOp .Or (b::rest) pos) tb):PE X (.BoolOp .Or (a::b::rest) pos) (nR ta tb):=by
 intro pins s e H Q I h;refine BoolOp_or (CF (i pins s e H _ I h) λv k l=>l.elim λx f g m d=>?_);obtain⟨c,rfl,d⟩:=d;cases m;refine wE ?_;cases c with
 |false=>exact j pins k e f Q g d|true=>exact⟨.bl true,f,g,W,d⟩
theorem Oe(e:PE X a ta):PE X (.UnaryOp .Not a pos) (h_ ta):=by
 intro pins s f H Q I h;refine UnaryOp_ (CF (e pins s f H _ I h) λv l g=>g.elim λx i j k d=>?_);obtain⟨c,rfl,d⟩:=d;cases k;exact not_of<|wE ⟨.bl<|!c,i,j,W,d⟩
def ue(t:TT)(ta tb:TE):TE:=λd H Q=>t d H λc e=>if c=true then ta d e Q else tb d e Q
theorem W_(k:PT X c tA)(l:PE X a ta)(m:PE X b tb):PE X (.IfExp c a b pos) (ue tA ta tb):=by
 intro pins s e H Q I h;refine wpAny_IfExp (CF (k pins s e H _ I h) λd f n=>n.elim λg i j=>?_);cases d with
 |true=>exact l pins f e g Q i j|false=>exact m pins f e g Q i j
end
def Ax(K:yd)(H:Hp)(a:Addr)(xs:List V):Prop:=
 Rd H a (.lst xs)∨
  ∃(o:Obj)(b:Array bd)(n:Nat),K.lookup a=Z o/\o.cls=.type "list"/\o.dict=ν/\o.data=.seq b n/\b.size<=sizeLine/\Vals xs b.toList
def Ae(K:yd)(H:Hp)(a:Addr)(xs:List V):Prop:=
 Rd H a (.tup xs)∨
  ∃(o:Obj)(b:Array bd)(n:Nat),K.lookup a=Z o/\o.cls=.type "tuple"/\o.data=.seq b n/\b.size<=sizeLine/\Vals xs b.toList
noncomputable def nU:bd->Option V
 | .none=>Z .Al| .bool b=>Z (.bl b)| .int i _=>Z (.int i)| .str x _=>Z (.str x)| .bytes b _=>Z (.VP b)| .float b _=>Z (.gW b)| .ref a=>Z (.ref a)| .type n=>Z (.ty n)|_=>ν
theorem RelV.abs{x:V}(r:RelV x u):nU u=Z x:=by
 cases x with
 |Al=>cases r;rfl|bl _=>cases r;rfl|int _=>obtain⟨t,rfl⟩:=r;rfl
 |str _=>obtain⟨t,rfl⟩:=r;rfl
 |VP _=>obtain⟨t,rfl⟩:=r;rfl
 |gW _=>obtain⟨t,rfl⟩:=r;rfl
 |ref _=>cases r;rfl|ty _=>cases r;rfl
theorem RelV.inj{x y:V}(r:RelV x u)(q:RelV y u):x=y:=yb<|r.abs.symm.trans q.abs
theorem Vals.inj{xs ys:List V}{b:List bd}(r:Vals xs b)(s:Vals ys b):xs=ys:=by
 induction r generalizing ys with
 |nil=>exact(j7 (zQ s)).symm|cons a _ c=>
  cases ys with
  |nil=>exact absurd (zQ s) (Nat.succ_ne_zero _).symm|cons y g=>
   obtain⟨u,i,e,h,t⟩:=Vals.inv s;injection e with d f;subst d f;rw[a.inj h,c t]
variable{K:yd}
section
variable {ys:List V}
theorem Ax.of(h:H a=Z (.lst xs)):Ax K H a xs:=.inl<|.inl h
theorem Ae.of(h:H a=Z (.tup xs)):Ae K H a xs:=.inl<|.inl h
theorem Inv.list(I:Inv X pins σ H s)(h:Ax X.K H a xs):∃its:List bd,Vals xs its/\PlainL s.heap a its.toArray/\xs.length<=sizeLine:=by
 rcases h with h|⟨o,its,n,b,c,d,f,g,r⟩
 .obtain⟨z,its,n,r,e⟩:=h.ok I.Bi;exact⟨its,r,⟨_,n,e,W,W,W⟩,z⟩
 .refine⟨its.toList,r,⟨o,n,I.KX a o b,c,d,GE f⟩,?_⟩;have e:=r.length;simp only[q4]at e;lia
theorem Inv.tuple(I:Inv X pins σ H s)(h:Ae X.K H a xs):∃its:List bd,Vals xs its/\aaa s.heap a its.toArray/\xs.length<=sizeLine:=by
 rcases h with h|⟨o,its,n,b,c,d,f,r⟩
 .obtain⟨z,its,r,p⟩:=h.ok I.Bi;exact⟨its,r,p,z⟩
 .refine⟨its.toList,r,⟨o,I.KX a o b,c,n,GE d⟩,?_⟩;have e:=r.length;simp only[q4]at e;lia
theorem Inv.W'(I:Inv X pins σ H s)(h:Ax X.K H a xs)(h':Ax X.K H a ys):xs=ys:=by
 obtain⟨c,r,⟨o,n,e,_,_,d⟩,_⟩:=I.list h;obtain⟨b,i,⟨k,l,f,_,_,g⟩,_⟩:=I.list h';rw[e]at f;cases f;rw[d]at g;injection g with j _;have:c=b:=GE<|congrArg abS j
 subst this;exact r.inj i
theorem Inv.NN(I:Inv X pins σ H s)(h:Ae X.K H a xs)(h':Ae X.K H a ys):xs=ys:=by
 obtain⟨c,r,⟨o,e,_,n,d⟩,_⟩:=I.tuple h;obtain⟨b,i,⟨k,f,_,l,g⟩,_⟩:=I.tuple h';rw[e]at f;cases f;rw[d]at g;injection g with j _;have:c=b:=GE<|congrArg abS j
 subst this;exact r.inj i
end
abbrev Cx.M_(X:Cx)(E:bd->d6->Prop):Cx:={X with xe:=E}
abbrev Cx.iA(X:Cx):Cx:=X.M_ λ_ _=>False
theorem Cx.Ok.M_(ok:X.Ok)(E:bd->d6->Prop):(X.M_ E).Ok:=
 ⟨ok.mod,ok.kind,ok.glob,ok.blt,ok.above,ok.inj,ok.has,ok.hU,ok.hd,ok.frames,ok.lV,ok.gX,ok.bs,ok.Zt,ok.VR,ok.VS,ok.Lh,ok.gY⟩
theorem Cx.Ok.HQ(ok:(X.M_ E).Ok):X.Ok:=
 ⟨ok.mod,ok.kind,ok.glob,ok.blt,ok.above,ok.inj,ok.has,ok.hU,ok.hd,ok.frames,ok.lV,ok.gX,ok.bs,ok.Zt,ok.VR,ok.VS,ok.Lh,ok.gY⟩
section
theorem Inv.M_(I:Inv X pins σ H s)(E:bd->d6->Prop):Inv (X.M_ E) pins σ H s:=⟨I.ok.M_ E,I.os,I.bare,I.base,I.loc,I.cell,I.free,I.GJ,I.pin,I.Bi,I.len⟩
theorem Inv.HQ(I:Inv (X.M_ E) pins σ H s):Inv X pins σ H s:=⟨I.ok.HQ,I.os,I.bare,I.base,I.loc,I.cell,I.free,I.GJ,I.pin,I.Bi,I.len⟩
theorem SP.HQ{D:Ends}{f:Flow}{c:d6}(h:SP (X.M_ E) pins D f c):SP X pins D f c:=by
 cases f with
 |next=>obtain⟨a,b,I,q⟩:=h;exact⟨a,b,I.HQ,q⟩
 |brk=>obtain⟨a,b,I,q⟩:=h;exact⟨a,b,I.HQ,q⟩
 |cont=>obtain⟨a,b,I,q⟩:=h;exact⟨a,b,I.HQ,q⟩
 |ret u=>obtain⟨v,a,b,I,r,q⟩:=h;exact⟨v,a,b,I.HQ,r,q⟩
theorem OZ.iA{st:List Stmt}{t:TS}(h:OZ X.iA st t):OZ X st t:=λpins s σ H D I hw=>
 y3 (h pins s σ H D (I.M_ _) hw) (λ_ _ q=>q.HQ) λ_ _ z=>zo z
end
variable{te:TE}
section
variable {st:Stmt} {rest:List Stmt} {t u:TS} 
def Li:TS:=λD a H=>D.nx a H
def QP(t u:TS):TS:=λD a H=>t {D with nx:=u D} a H
theorem AK:OZ X [] Li:=λ_ _ a H _ I h=>I9 ⟨a,H,I,h⟩
theorem AB(b:PS X st t)(c:OZ X rest u):OZ X (st::rest) (QP t u):=by
 intro pins s d H D I h;refine aav (CF (b pins s d H {D with nx:=u D} I h) λf g q=>?_);cases f with
 |next=>
  obtain⟨a,i,j,q⟩:=q;exact c pins g a i D j q
 |ret v=>exact q|brk=>exact q|cont=>exact q
theorem AE(a:PS X st t):OZ X [st] t:=by
 intro pins s b H D I h;refine aav (CF (a pins s b H D I h) λf c q=>?_);cases f with
 |next=>exact I9 q|ret v=>exact q|brk=>exact q|cont=>exact q
theorem Inv.quiet(I:Inv X pins σ H s):interactive X.env=false:=by simp[interactive,I.ok.kind]
def iB(te:TE):TS:=λD a H=>te a H λ_ b=>D.nx a b
theorem CO(b:PE X e te)(c:O5 e ν pos.line X.env=pure false:=by rfl):PS X (.Expr e pos) (iB te):=by
 intro pins s a H D I h;exact wpAny_Expr_any (CF (b pins s a H _ I h) λv j d=>d.elim λx f g k i=>⟨a,f,g,i⟩) I.quiet c
def dR(te:TE):TS:=λD a H=>te a H D.rt
theorem AI(b:PE X e te):PS X (.Return (Z e) pos) (dR te):=by
 intro pins s a H D I h;exact wpAny_Return_some<|CF (b pins s a H _ I h) λv j c=>c.elim λx d f g i=>⟨x,a,d,f,g,i⟩
def Kx(c:TT)(t u:TS):TS:=λD a H=>c a H λb d=>if b=true then t D a d else u D a d
theorem AU{a b:List Stmt}{g:TT}(m:PT X c g)(n:OZ X a t)(o:OZ X b u):PS X (.If c a b pos) (Kx g t u):=by
 intro pins s f H D I h;refine wpAny_If (CF (m pins s f H _ I h) λd i p=>p.elim λj k l=>?_);cases d with
 |true=>exact n pins i f j D k l|false=>exact o pins i f j D k l
end
abbrev TG:=V->St->Hp->(St->Hp->Prop)->Prop
abbrev aA:=List V->St->Hp->(St->Hp->Prop)->Prop
def PG(X:Cx)(target:r6)(t:TG):Prop:=
 ∀(pins:List (Addr×Obj))(s:d6)(b:St)(H:Hp)(v:V)(u:bd)(Q:St->Hp->Prop),Inv X pins b H s->RelV v u->t v b H Q->
  im (j1 X.prog X.w) X.A (XV target X.env u) (λ_ d=>∃a c,Inv X pins a c d/\Q a c) X.xe s
def lY(X:Cx)(f:List r6)(t:aA):Prop:=
 ∀(pins:List (Addr×Obj))(s:d6)(b:St)(H:Hp)(c:List V)(d:List bd)(Q:St->Hp->Prop),Inv X pins b H s->Vals c d->t c b H Q->
  im (j1 X.prog X.w) X.A (assignInOrder ((K9 f X.env).map (·.2)) d) (λ_ g=>∃a e,Inv X pins a e g/\Q a e) X.xe s
abbrev dS:=V->V->V->Hp->(Hp->Prop)->Prop
def iC(X:Cx)(t:dS):Prop:=
 ∀(pins:List (Addr×Obj))(s:d6)(a:St)(H:Hp)(o i v:V)(ov b u:bd)(Q:Hp->Prop),Inv X pins a H s->RelV o ov->RelV i b->RelV v u->t o i v H Q->
  im (j1 X.prog X.w) X.A (setItem ov b u) (λ_ d=>∃c,Inv X pins a c d/\Q c) X.xe s
variable{n:Nat}
section
def Bv(i:Nat):TG:=λv a H Q=>Q (a.set i<|some v) H
theorem Gi{i:Nat}(a:X.N.Nodup)(b:X.N[i]?=Z x)(c:Loc X.env.scope x)(d:X.fn x=true∨X.env.scope.names.lookup x=Z .local:=by first|exact .inl rfl|exact .inr rfl|assumption):PG X (.Name x pos) (Bv i):=by
 intro pins s f H v u Q I r h;exact aaj<|QO I a b c r (λg e=>⟨_,H,e,h⟩) d
def iD:aA:=λa b H Q=>a=[]/\Q b H
inductive dU(t:TG)(u:aA)(b:List V)(σ:St)(H:Hp)(Q:(St->Hp->Prop)):Prop|mk(v r:_)(c:b=v::r)(d:t v σ H λa H'=>u r a H' Q)
def XA(t:TG)(u:aA):aA:=λa b H Q=>dU t u a b H Q
theorem LJ:lY X [] iD:=by
 intro pins s a H b c Q I r h;obtain⟨e,h⟩:=h;subst e;cases r;exact assignInOrder_nil ⟨a,H,I,h⟩
theorem Et{a:List r6}{t:TG}{u:aA}(c:PG X e t)(d:lY X a u)(f:(K9 (e::a) X.env).map (·.2)=XV e X.env::(K9 a X.env).map (·.2):=by rfl):lY X (e::a) (XA t u):=by
 intro pins s g H o p Q I r h;obtain⟨v,q,i,h⟩:=h;subst i;cases r with
 |cons r j=>
  rw[f];refine assignInOrder_cons (CF (c pins s g H _ _ _ I r h) λ_ k ⟨b,l,m,n⟩=>?_);exact d pins k b l _ _ Q m j n
inductive iE(K:yd)(n:Nat)(t:aA)(v:V)(σ:St)(H:Hp)(Q:(St->Hp->Prop)):Prop|mk(a xs:_)(b:v=.ref a)(c:Ae K H a xs)(d:xs.length=n)(e:t xs σ H Q)
def iF(K:yd)(n:Nat)(t:aA):TG:=λv a H Q=>iE K n t v a H Q
theorem Of{c:List r6}{k:Nat}{t:aA}(i:X.calm=true)(h:lY X c t)(j:(K9 c X.env).length=n:=by rfl)(d:(K9 c X.env).findIdx? (·.1)=none:=by rfl):PG X (.Tuple c k pos) (iF X.K n t):=by
 intro pins s f H v u Q I r hw;obtain⟨a,l,m,p,q,hw⟩:=hw;subst m;cases r;obtain⟨w,g,x,B⟩:=I.tuple p;refine assign_Tuple_tuple (I.ok.hd i) x (by simp[j,<-q,g.length]) d λy z=>?_;have A:Inv X pins f H {s with heap:=y}:=I.kept (t':=s.toks) λb o e=>z b o (i9<|g6 e) e;exact h pins _ f H l _ Q A (GE g) hw
def nV(to b:TE)(t:dS):TG:=λv a H Q=>to a H λo c=>b a c λi d=>t o i v d λe=>Q a e
theorem SI{o i:r6}{to d:TE}{t:dS}(e:PE X o to)(f:PE X i d)(g:iC X t)(j:∀v,XV (.Subscript o i pos) X.env v=(do
   let ov<-M9 [v] (y9 o X.env)
   let a<-M9 [v,ov] (y9 i X.env)
   standAt pos
   M9 [v,ov,a] (setItem ov a v)
   release [v,ov,a] []):=by intro _;rfl):PG X (.Subscript o i pos) (nV to d t):=by
 intro pins s b H v u Q I r h;rw[j];refine ap (u9<|CF (e pins s b H _ I h) λov k c=>c.elim λx l m n p=>?_);refine ap (u9<|CF (f pins k b l _ m p) λa q c=>c.elim λy w z A B=>?_);refine ap (W4<|ap<|u9<|CF (g pins q b w x y v ov a u _ z n A r B) λ_ F ⟨C,D,E⟩=>?_);exact wpAny_release ⟨b,C,D,E⟩
def dV(b:TE)(g:TG):TS:=λD a H=>b a H λx c=>g x a c D.nx
theorem Lj{a:r6}{c:TE}{g:TG}(f:PE X e c)(i:PG X a g)(j:swapsWithSole [a] e pos.line X.env=pure false:=by rfl)(hw:swappedStores [a] e X.env=pure none:=by rfl)(k:(K9 [a] X.env).map (·.2)=[XV a X.env]:=by rfl):PS X (.Assign [a] e pos) (dV c g):=by
 intro pins s d H D I h;refine wpAny_Assign_stores (CF (f pins s d H _ I h) λv l m=>m.elim λx n o p q=>?_) j hw;rw[k];exact CF (i pins l d n x v _ o p q) λ_ w ⟨b,r,t,u⟩=>⟨b,r,t,u⟩
theorem Ju{i:Nat}{x:Str}{e:r6}{a:TE}{pos':Pos}(b:X.N.Nodup)(c:X.N[i]?=Z x)(d:Loc X.env.scope x)(f:PE X e a)(g:O5 e (Z (.Name x pos')) pos.line X.env=pure false:=by rfl)(j:X.fn x=true∨X.env.scope.names.lookup x=Z .local:=by first|exact .inl rfl|exact .inr rfl|assumption):
  PS X (.Assign [.Name x pos'] e pos) (dV a (Bv i)):=by
 intro pins s k H D I h;refine wpAny_Assign_Name (CF (f pins s k H _ I h) λv r l=>l.elim λy m n o p=>?_) g;exact QO n b c d o (λt q=>⟨_,m,q,p⟩) j
end
variable{body:List Stmt}
section
inductive aB(c:TT)(f:TS)(D:Ends)(σ:St)(H:Hp):Prop|mk(ξ:Nat->St->Hp->Prop)(g:(∃m,ξ m σ H))(h:∀m σ H,ξ m σ H->c σ H λb d=>if b=true then∃N:St->Hp->Prop,(∀a H',N a H'->∃e,e<m/\ξ e a H')/\f {D with nx:=N,ct:=N,bk:=D.nx} σ d else D.nx σ d)
def XB(c:TT)(a:TS):TS:=λD b H=>aB c a D b H
theorem QQ{q:TT}{r:TS}(t:abI (j1 X.prog X.w) X.A X.env X.xe)(C:PT X c q)(E:OZ X body r):PS X (.While c body [] pos) (XB q r):=by
 intro pins s F H D I h;obtain⟨ξ,⟨G,J⟩,turn⟩:=h;refine wpAny_While<|codeAny_whileLoop (λn L=>∃e u,Inv X pins e u L/\ξ n e u) ?_ G ⟨F,H,I,J⟩;rintro n M ⟨d,x,O,P⟩;refine zi t (CF (C pins M d x _ O<|turn n d x P) λb Q R=>R.elim λy z i=>?_);cases b with
 |true=>
  obtain⟨N,B,i⟩:=i;rw[if_pos W];refine zi t (CF (E pins Q d y _ z i) λf S j=>?_);cases f with
  |next=>
   obtain⟨a,g,k,l⟩:=j;obtain⟨m,o,p⟩:=B a g l;exact⟨m,o,a,g,k,p⟩
  |cont=>
   obtain⟨a,g,k,l⟩:=j;obtain⟨m,o,p⟩:=B a g l;exact⟨m,o,a,g,k,p⟩
  |brk=>exact j|ret v=>exact j
 |false=>
  rw[if_neg d5];exact I9 ⟨d,y,z,i⟩
end
structure It where
 go:Nat->Hp->Prop
 cV:Nat->Hp->V->Hp->Prop
 stop:Nat->Hp->Prop
def GB(X:Cx)(pins:List (Addr×Obj))(H:Hp)(b:Addr):Prop:=
 H b=ν/\b≠X.env.locals/\b∉X.fs/\(b∈X.ex∨X.s₀.heap.objs.size<=b)/\(∀x c,X.env.cells.lookup x=Z c->c≠b)/\∀p∈X.pn++pins,p.1≠b
theorem Inv.SJ(I:Inv X pins σ H s)(a:s.heap.objs.size<=b)(d:H' b=ν):GB X pins H' b:=by
 refine⟨d,abO<|bn I.lt a,I.nK a,.inr<|al I.sz a,λx c e z=>?_,λp f z=>?_⟩
 .obtain⟨v,q⟩:=I.cell x c e;exact absurd (bn q.lt<|by rw[z];exact a)<|rc _
 .exact absurd (bn (g6 (I.pin p f).1)<|by rw[z];exact a)<|rc _
structure Turn(P:m8)(w:q3)(K:yd)(tg:r6)(J:It)(fp:List Addr)(it:Addr)(tn:Nat->Heap->Prop):Prop where
 mem:it∈fp
 obj:∀i h,tn i h->∀b∈fp,∃o,h.get? b=Z o/\∀v,o.data≠.cell v
 keep:∀i h h',tn i h->(∀b∈fp,∀o,h.get? b=Z o->h'.get? b=Z o)->tn i h'
 item:∀(X:Cx),X.prog=P->X.w=w->X.K=K->X.calm=true->∀(i:Nat)(pins:List (Addr×Obj))(s:d6)(σ:St)(H:Hp)(E:bd->d6->Prop),Inv X pins σ H s->(∀b∈fp,GB X pins H b)->tn i s.heap->J.go i H->
  im (j1 P w) X.A (abJ (.ref it)) (λr s1=>∃u,r=Z u/\
   im (j1 P w) X.A (J2 tg (.ref it) u) (λ_ s2=>∃x H',Inv X pins σ H' s2/\RelV x u/\J.cV i H x H'/\tn (i+1) s2.heap/\∀b∈fp,H' b=ν) E s1) E s
 done:∀(X:Cx),X.prog=P->X.w=w->X.K=K->X.calm=true->∀(i:Nat)(pins:List (Addr×Obj))(s:d6)(σ:St)(H:Hp)(E:bd->d6->Prop),Inv X pins σ H s->(∀b∈fp,GB X pins H b)->tn i s.heap->J.stop i H->
  im (j1 P w) X.A (abJ (.ref it)) (λr s1=>r=ν/\Inv X pins σ H s1) E s
 self:∀(A:i8)(i:Nat)(s:d6)(Q:bd->d6->Prop)(E:bd->d6->Prop),tn i s.heap->Q (.ref it) s->im (j1 P w) A (pyIter (.ref it)) Q E s
abbrev TI:=St->Hp->(It->Hp->Prop)->Prop
inductive rW(X:Cx)(pins:List (Addr×Obj))(σ:St)(h:r6)(R:It->Hp->Prop)(a:bd)(c:d6):Prop|mk(it:Addr)(d:List Addr)(g:Nat->Heap->Prop)(J:It)(H':Hp)(e:a=.ref it)(I:Inv X pins σ H' c)(t:Turn X.prog X.w X.K h J d it g)(z:g 0 c.heap)(f:∀b∈d,GB X pins H' b)(q:R J H')
def PI(X:Cx)(b iter:r6)(c:TI):Prop:=
 ∀(pins:List (Addr×Obj))(s:d6)(a:St)(H:Hp)(R:It->Hp->Prop),Inv X pins a H s->c a H R->
  im (j1 X.prog X.w) X.A (y9 iter X.env) (λv d=>im (j1 X.prog X.w) X.A (pyIter v) (rW X pins a b R) X.xe d) X.xe s
theorem Ts{A:i8}{b:r6}{o:Obj}{n:String}{c:Array bd}{Q:Unit->d6->Prop}(d:s.heap.get? it=Z o)(e:o.cls=.type n)(f:o.data=.fields c)(g:["enumerate","zip","dict_itemiterator","dict_reverseitemiterator","odict_iterator","itertools.zip_longest","itertools.pairwise"].contains n=false)(a:Q () s):im M A (J2 b (.ref it) u) Q E s:=by
 unfold J2;cases b<;>first
  |exact e7 a
  |(cases u<;>first
    |exact e7 a
    |(refine ap (X0 d ?_)
      rw[e,f];show im M A (if(["enumerate","zip","dict_itemiterator","dict_reverseitemiterator","odict_iterator","itertools.zip_longest","itertools.pairwise"].contains n&&c[0]?==Z (On _))=true then _ else _) Q E s;rw[if_neg (by intro h;rw[g,zZ]at h;cases h)];exact e7 a))
def nW(K:yd)(a:Addr):It:=
 ⟨λi H=>∃b x,Ax K H a b/\b[i]?=Z x,λi H x c=>c=H/\∀b,Ax K H a b->b[i]?=Z x,λi H=>∃b,Ax K H a b/\b.length<=i⟩
def nX(K:yd)(a:Addr):It:=
 ⟨λi H=>∃b x,Ae K H a b/\b[i]?=Z x,λi H x c=>c=H/\∀b,Ae K H a b->b[i]?=Z x,λi H=>∃b,Ae K H a b/\b.length<=i⟩
def iG(lo:Int)(n:Nat):It:=⟨λi _=>i<n,λi H x a=>a=H/\x=.int (lo+i),λi _=>n<=i⟩
variable{tg:r6}
theorem VT(a it:Addr):Turn P w K tg (nW K a) [it] it (λi h=>h.IsListIter it a i)where
 mem:=by simp
 obj:=λi h st b hb=>by
  have e:b=it:=GE hb
  subst e;obtain⟨o,e,c,d⟩:=st;exact⟨o,e,λv z=>by rw[d]at z;cases z⟩
 keep:=λi h h' st k=>st.at λo e=>k it z_ o e
 item:=by
  intro X hP hw hK hc i pins s σ H E I hf st hg;subst hP hw hK;obtain⟨xs,x,hq,hx⟩:=hg;obtain⟨its,rv,p,hz⟩:=I.list hq;obtain⟨u,hu,ru⟩:=rv.get hx;obtain⟨f0,f1,f2,f3,f4,f5⟩:=hf it z_;refine wpAny_pyNext_list_item st p.isList (x:=u) (GE hu) λh' XC sb=>?_;have I1:Inv X pins σ H {s with heap:=h'}:=I.turned (t':=s.toks) (λb o hb e=>(sb.2 b hb).trans e) f0 f1 f3 f4 f5;obtain⟨o,e,c,d⟩:=id XC;exact⟨u,W,Ts (s:={s with heap:=h'}) e c d ac ⟨x,H,I1,ru,⟨W,λys hy=>by rw[I.W' hy hq];exact hx⟩,XC,λb hb=>(hf b hb).1⟩⟩
 done:=by
  intro X hP hw hK hc i pins s σ H E I hf st hg;subst hP hw hK;obtain⟨xs,hq,hx⟩:=hg;obtain⟨its,rv,p,hz⟩:=I.list hq;obtain⟨f0,f1,f2,f3,f4,f5⟩:=hf it z_;have hl:=rv.length;exact wpAny_pyNext_list_end (I.ok.hd hc) st p.isList (by simp;lia) λh' eb=>⟨W,I.turned (t':=s.toks) (λb o hb e=>eb b o hb e) f0 f1 f3 f4 f5⟩
 self:=λ_ _ _ _ _ st h=>wpAny_pyIter_listiter st h
theorem SK(a it:Addr):Turn P w K tg (nX K a) [it] it (λi h=>h.IsTupleIter it a i)where
 mem:=by simp
 obj:=λi h st b hb=>by
  have e:b=it:=GE hb
  subst e;obtain⟨o,e,c,d⟩:=st;exact⟨o,e,λv z=>by rw[d]at z;cases z⟩
 keep:=λi h h' st k=>st.at λo e=>k it z_ o e
 item:=by
  intro X hP hw hK hc i pins s σ H E I hf st hg;subst hP hw hK;obtain⟨xs,x,hq,hx⟩:=hg;obtain⟨its,rv,p,hz⟩:=I.tuple hq;obtain⟨u,hu,ru⟩:=rv.get hx;obtain⟨f0,f1,f2,f3,f4,f5⟩:=hf it z_;refine wpAny_pyNext_tuple_item st (show s.heap.IsTuple a its.toArray from p) (x:=u) (GE hu) λh' XC sb=>?_;have I1:Inv X pins σ H {s with heap:=h'}:=I.turned (t':=s.toks) (λb o hb e=>(sb.2 b hb).trans e) f0 f1 f3 f4 f5;obtain⟨o,e,c,d⟩:=id XC;exact⟨u,W,Ts (s:={s with heap:=h'}) e c d ac ⟨x,H,I1,ru,⟨W,λys hy=>by rw[I.NN hy hq];exact hx⟩,XC,λb hb=>(hf b hb).1⟩⟩
 done:=by
  intro X hP hw hK hc i pins s σ H E I hf st hg;subst hP hw hK;obtain⟨xs,hq,hx⟩:=hg;obtain⟨its,rv,p,hz⟩:=I.tuple hq;obtain⟨f0,f1,f2,f3,f4,f5⟩:=hf it z_;have hl:=rv.length;exact wpAny_pyNext_tuple_end (I.ok.hd hc) st (show s.heap.IsTuple a its.toArray from p) (by simp;lia) λh' eb=>⟨W,I.turned (t':=s.toks) (λb o hb e=>eb b o hb e) f0 f1 f3 f4 f5⟩
 self:=λ_ _ _ _ _ st h=>wpAny_pyIter_tupleiter st h
theorem SM(it:Addr)(lo:Int)(n:Nat):Turn P w K tg (iG lo n) [it] it (λi h=>IsRangeIter h it (lo+(i:Nat)*1) ((n:Int)-(i:Nat)) 1)where
 mem:=by simp
 obj:=λi h st b hb=>by
  have e:b=it:=GE hb
  subst e;exact⟨_,st,λv z=>by
   have z':Data.fields _=Data.cell v:=z;cases z'⟩
 keep:=λi h h' st k=>k it z_ _ st
 item:=by
  intro X hP hw hK hc i pins s σ H E I hf st hg;subst hP hw hK;obtain⟨f0,f1,f2,f3,f4,f5⟩:=hf it z_;have ξ:=Walks.range (prog:=X.prog) (w:=X.w) (I.ok.hd hc) it lo 1 n;refine ξ.item i s _ _ hg st λv h' tk hv XC kk=>?_;obtain⟨t,rfl⟩:=hv;have I1:Inv X pins σ H {s with heap:=h',toks:=tk}:=I.turned (λb o hb e=>kk b o (GE hb) e) f0 f1 f3 f4 f5;refine⟨_,W,Ts (s:={s with heap:=h',toks:=tk}) (n:="range_iterator") XC W W ac ⟨.int<|lo+i,H,I1,⟨t,?_⟩,⟨W,W⟩,XC,λb hb=>(hf b hb).1⟩⟩;rw[Int.mul_one]
 done:=by
  intro X hP hw hK hc i pins s σ H E I hf st hg;subst hP hw hK;obtain⟨f0,f1,f2,f3,f4,f5⟩:=hf it z_;exact wpAny_pyNext_range_end (I.ok.hd hc) st (by have:n<=i:=hg;lia) λh' eb=>⟨W,I.turned (t':=s.toks) (λb o hb e=>eb b o hb e) f0 f1 f3 f4 f5⟩
 self:=λ_ _ _ _ _ st h=>wpAny_pyIter_rangeiter st h
variable{p:Pos}
section
def iH(K:yd)(c:TE):TI:=λd H R=>c d H λx b=>∃a,x=.ref a/\(∃e,Ax K b a e)/\R (nW K a) b
def nY(K:yd)(c:TE):TI:=λd H R=>c d H λx b=>∃a,x=.ref a/\(∃e,Ae K b a e)/\R (nX K a) b
theorem D'{l:r6}{f:TE}(g:PE X l f):PI X tg l (iH X.K f):=by
 intro pins s i H R I h;refine CF (g pins s i H _ I h) λv c j=>j.elim λx k d m n=>?_;obtain⟨a,e,⟨w,r⟩,q⟩:=n;subst e;cases m;obtain⟨t,y,p,z⟩:=d.list r;refine N4 p.isList ?_;refine⟨c.heap.objs.size,[c.heap.objs.size],_,_,k,W,d.kept (t':=c.toks) λb o e=>d0 _ e,VT a _,⟨_,i7 _ W,W,W⟩,λb u=>?_,q⟩;have e:b=c.heap.objs.size:=GE u
 subst e;exact d.SJ (b5 _)<|d.Bi.fresh<|b5 _
theorem dW{l:r6}{g:TE}(i:PE X l g):PI X tg l (nY X.K g):=by
 intro pins s j H R I h;refine CF (i pins s j H _ I h) λv c k=>k.elim λx m d n r=>?_;obtain⟨a,e,⟨w,t⟩,q⟩:=r;subst e;cases n;obtain⟨f,y,p,z⟩:=d.tuple t;refine L7 (show c.heap.IsTuple a f.toArray from p) ?_;refine⟨c.heap.objs.size,[c.heap.objs.size],_,_,m,W,d.kept (t':=c.toks) λb o e=>d0 _ e,SK a _,⟨_,i7 _ W,W,W⟩,λb u=>?_,q⟩;have e:b=c.heap.objs.size:=GE u
 subst e;exact d.SJ (b5 _)<|d.Bi.fresh<|b5 _
theorem QR{R:It->Hp->Prop}{lo a:Int}{t u v:Tok}{tk:Nat}(I:Inv X pins σ H s)(d: -(2 ^ 62)<=lo)(f:lo<2 ^ 62)(g: -(2 ^ 62)<=a)(h:a<2 ^ 62)(q:R (iG lo (a-lo).toNat) H):im (j1 X.prog X.w) X.A (pyIter (.ref s.heap.objs.size)) (rW X pins σ tg R) E {s with heap:=s.heap.push {cls:=.type "range",data:=.fields #[.int lo t,.int a u,.int 1 v]},toks:=tk}:=by
 refine wpAny_pyIter_range (IsRange.new ..) (small_one d f g h) ?_;have c:Inv X pins σ H {s with heap:=s.heap.push {cls:=.type "range",data:=.fields #[.int lo t,.int a u,.int 1 v]},toks:=tk}:=I.kept λb o e=>d0 _ e;refine⟨(s.heap.push {cls:=.type "range",data:=.fields #[.int lo t,.int a u,.int 1 v]}).objs.size,[(s.heap.push {cls:=.type "range",data:=.fields #[.int lo t,.int a u,.int 1 v]}).objs.size],_,_,H,W,
  c.kept (t':=tk) λb o e=>d0 _ e,SM _ lo (a-lo).toNat,?_,λb i=>?_,q⟩
 .have j:lo+((0:Nat):Int)*1=lo:=by simp
  have k:(((a-lo).toNat:Nat):Int)-((0:Nat):Int)=Builtin.Range.rangeSize lo a 1:=by rw[abo];split<;>lia
  show IsRangeIter _ _ (lo+((0:Nat):Int)*1) ((((a-lo).toNat:Nat):Int)-((0:Nat):Int)) 1;rw[j,k];exact i7 _ W
 .have e:b=(s.heap.push {cls:=.type "range",data:=.fields #[.int lo t,.int a u,.int 1 v]}).objs.size:=GE i
  subst e;exact c.SJ (b5 _)<|c.Bi.fresh<|b5 _
def iI(a:TA):TI:=λb H R=>a b H λc d=>∃j:Int,c=[.int j]/\ -(2 ^ 62)<=j/\j<2 ^ 62/\R (iG 0 j.toNat) d
def iJ(a:TA):TI:=λb H R=>a b H λc d=>∃i j:Int,c=[.int i,.int j]/\(-(2 ^ 62)<=i/\i<2 ^ 62/\ -(2 ^ 62)<=j/\j<2 ^ 62)/\R (iG i (j-i).toNat) d
theorem ET{a:r6}{c:TA}(d:Gl X "range")(f:X.mg "range"=ν)(g:PA X [a] c)(i:m7 [a] X.env=[(false,y9 a X.env)]:=by rfl):PI X tg (.Call (.Name "range" p) [a] [] pos) (iI c):=by
 intro pins s k H R I h;refine Call_<|IP I d f aa6<|x6 (CF (g pos pins s k H _ I h) λv w l=>l.elim λx y m n b=>?_) i W;obtain⟨j,e,b,o,q⟩:=b;subst e;cases n with
 |cons r u=>
  cases u;obtain⟨t,rfl⟩:=r;exact call_range_1<|QR m y_ y_ b o<|by simpa using q
theorem VU{a b:r6}{g:TA}(k:Gl X "range")(l:X.mg "range"=ν)(m:PA X [a,b] g)(n:m7 [a,b] X.env=[(false,y9 a X.env),(false,y9 b X.env)]:=by rfl)(c:m7 [b] X.env=[(false,y9 b X.env)]:=by rfl):
  PI X tg (.Call (.Name "range" p) [a,b] [] pos) (iJ g):=by
 intro pins s o H R I h;refine Call_ (IP I k l aa6<|x6 (CF (m pos pins s o H _ I h) λB C u=>u.elim λD E v w d=>?_) (by rw[n,c])<|by rw[c];rfl);obtain⟨i,j,e,⟨d,x,y,z⟩,q⟩:=d;subst e;cases w with
 |cons r f=>
  cases f with
  |cons A f=>
   cases f;obtain⟨t,rfl⟩:=r;obtain⟨F,rfl⟩:=A;exact call_range_2<|QR v d x y z q
structure Go(D:Ends)(P:St->Hp->Prop)(e:Ends):Prop where
 n:∀{σ H},P σ H->e.nx σ H
 r:∀{v H},D.rt v H->e.rt v H
def aC(J:It)(g:TG)(e:TS)(D:Ends)(σ:St)(f:Hp):Prop:=∃ξ:Nat->Nat->St->Hp->Prop,(∃m,ξ 0 m σ f)/\∀i m σ H,ξ i m σ H-> (J.stop i H/\D.nx σ H)∨(J.go i H/\∃N:St->Hp->Prop,(∀a b,N a b->∃d,d<m/\ξ (i+1) d a b)/\∀x b,J.cV i H x b->g x σ b λc h=>e {D with nx:=N,ct:=N,bk:=D.nx} c h)
def iK(b:TI)(g:TG)(c:TS):TS:=λD a H=>b a H λJ d=>aC J g c D a d
def Jv(a:List Addr)(h:Heap):List (Addr×Obj):=a.filterMap λb=>(h.get? b).map λo=>(b,o)
theorem EU{a:List Addr}{o:Obj}(c:b∈a)(e:h.get? b=Z o):(b,o)∈Jv a h:=M2.mpr ⟨b,c,by rw[e];rfl⟩
theorem VW{a:List Addr}{p:Addr×Obj}(c:p∈Jv a h):p.1∈a/\h.get? p.1=Z p.2:=by
 obtain⟨b,d,e⟩:=M2.mp c;cases q:h.get? b with
 |none=>rw[q]at e;cases e|some o=>
  rw[q]at e;have f:(b,o)=p:=yb e;subst f;exact⟨d,q⟩
theorem Inv.pinned{a:List Addr}(I:Inv X pins σ H s)(g:∀b∈a,GB X pins H b)(h:∀b∈a,∃o,s.heap.get? b=Z o/\∀v,o.data≠.cell v):Inv X (pins++Jv a s.heap) σ H s:=
 I.Tq λp i=>(am.mp i).elim (λz=>I.pin p (d9 _ z)) λz=>by
  obtain⟨c,e⟩:=VW z;obtain⟨j,k,l,_⟩:=g p.1 c;obtain⟨o,f,d⟩:=h p.1 c;rw[e]at f;cases f;exact⟨e,j,k,l,d⟩
theorem Inv.FU{a:List (Addr×Obj)}(I:Inv X (pins++a) σ H s):Inv X pins σ H s:=I.Tq λp b=>I.pin p<|d9 _<|b9 _ b
theorem dX{iter:r6}{U:TI}{g:TG}{V:TS}(B:abI (j1 X.prog X.w) X.A X.env X.xe)(Y:X.calm=true)(hi:PI X tg iter U)(hg:PG X tg g)(c:OZ X body V)(hs:∀x,yh iter X.env x=pure x:=by intro _;rfl):PS X (.For tg iter body [] pos) (iK U g V):=by
 intro pins s ζ H D I h;refine wpAny_For (CF (hi pins s ζ H _ I h) λv s1 h1=>CF h1 λyG s2 h2=>?_) hs;obtain⟨it,C,tn,J,H2,e,I2,T,M,f2,ξ,⟨m0,w0⟩,turn⟩:=h2;subst e;have j:∀{t:Hp},(∀b∈C,t b=ν)->∀b∈C,GB X pins t b:=λhn b c=>⟨hn b c,(f2 b c).2⟩;refine codeAny_forLoop_any (λn s'=>∃i k t,Inv X pins k t s'/\tn i s'.heap/\(∀b∈C,t b=ν)/\ξ i n k t) ?_ m0 ⟨0,ζ,H2,I2,M,λb c=>(f2 b c).1,w0⟩;rintro n s3 ⟨i,l,L,I3,E,F,w3⟩;rcases turn i n l L w3 with⟨stop,qn⟩|⟨go,N,hN,step⟩
 .refine zi B (CF (T.done X W W W Y i pins s3 l L X.xe I3 (j F) E stop) λr s4 ⟨O,I4⟩=>?_);subst O;exact I9 ⟨l,L,I4,qn⟩
 .refine zi B (CF (T.item X W W W Y i pins s3 l L X.xe I3 (j F) E go) λr s4 ⟨u,O,h4⟩=>?_);subst O;refine zi B (CF h4 λ_ s5 ⟨x,H5,I5,r5,y5,z,P⟩=>?_);have Q:=I5.pinned (j P)<|T.obj _ _ z;refine zi B (CF (hg _ s5 l H5 x u _ Q r5<|step x H5 y5) λ_ s6 ⟨R,H6,I6,q6⟩=>?_);refine zi B (CF (c _ s6 R H6 _ I6 q6) λf S y=>?_);have again:∀{a:St}{p:Hp},Inv X (pins++Jv C s5.heap) a p S->N a p->∃m,m<n/\∃i k t,Inv X pins k t S/\tn i S.heap/\(∀b∈C,t b=ν)/\ξ i m k t:=λ{a p} q G=>by
   obtain⟨m',hm,w7⟩:=hN a p G;refine⟨m',hm,i+1,a,p,q.FU,T.keep _ _ _ z λb c o e=>(q.pin (b,o)<|d9 _<|d9 _<|EU c e).1,λb c=>?_,w7⟩;obtain⟨o,e,d⟩:=T.obj _ _ z b c;exact(q.pin (b,o)<|d9 _<|d9 _<|EU c e).2.1
  cases f with
  |next=>obtain⟨a,p,q,G⟩:=y;exact again q G
  |cont=>obtain⟨a,p,q,G⟩:=y;exact again q G
  |brk=>obtain⟨a,p,q,y⟩:=y;exact⟨a,p,q.FU,y⟩
  |ret v=>obtain⟨x7,a,p,q,r7,y⟩:=y;exact⟨x7,a,p,q.FU,r7,y⟩
end
variable{D:Ends}
theorem FV{g:TG}{c:TS}(Pv:Nat->St->Hp->Prop)(d:Pv 0 σ H)(f:∀i σ H,i<=xs.length->Pv i σ H->Ax K H a xs)(h:∀i x σ H e,Go D (Pv (i+1)) e->xs[i]?=Z x->Pv i σ H->g x σ H (c e))(j:∀σ H,Pv xs.length σ H->D.nx σ H):
  aC (nW K a) g c D σ H:=by
 refine⟨λi m σ H=>m=xs.length-i/\i<=xs.length/\Pv i σ H,⟨xs.length,z_,gU _,d⟩,?_⟩;rintro i m σ H ⟨rfl,k,p⟩;have q:=f i σ H k p;by_cases b:i<xs.length
 .refine .inr ⟨⟨xs,xs[i],q,by simp[b]⟩,Pv<|i+1,λl n o=>⟨xs.length-(i+1),y_,W,b,o⟩,λx n y=>?_⟩;obtain⟨e,y⟩:=y;subst e;exact h i x σ _ _ ⟨id,id⟩ (y xs q) p
 .have e:i=xs.length:=by lia
  subst e;exact .inl ⟨⟨xs,q,b5 _⟩,j σ H p⟩
theorem aD{g:TG}{c:TS}(Pv:Nat->St->Hp->Prop)(d:Pv 0 σ H)(f:∀i σ H,i<=xs.length->Pv i σ H->Ae K H a xs)(h:∀i x σ H e,Go D (Pv (i+1)) e->xs[i]?=Z x->Pv i σ H->g x σ H (c e))(j:∀σ H,Pv xs.length σ H->D.nx σ H):
  aC (nX K a) g c D σ H:=by
 refine⟨λi m σ H=>m=xs.length-i/\i<=xs.length/\Pv i σ H,⟨xs.length,z_,gU _,d⟩,?_⟩;rintro i m σ H ⟨rfl,k,p⟩;have q:=f i σ H k p;by_cases b:i<xs.length
 .refine .inr ⟨⟨xs,xs[i],q,by simp[b]⟩,Pv<|i+1,λl n o=>⟨xs.length-(i+1),y_,W,b,o⟩,λx n y=>?_⟩;obtain⟨e,y⟩:=y;subst e;exact h i x σ _ _ ⟨id,id⟩ (y xs q) p
 .have e:i=xs.length:=by lia
  subst e;exact .inl ⟨⟨xs,q,b5 _⟩,j σ H p⟩
theorem GN{lo:Int}{g:TG}{b:TS}(Pv:Nat->St->Hp->Prop)(c:Pv 0 σ H)(d:∀i σ H e,Go D (Pv (i+1)) e->i<n->Pv i σ H->g (.int (lo+i)) σ H (b e))(f:∀σ H,Pv n σ H->D.nx σ H):
  aC (iG lo n) g b D σ H:=by
 refine⟨λi m σ H=>m=n-i/\i<=n/\Pv i σ H,⟨n,z_,gU _,c⟩,?_⟩;rintro i m σ H ⟨rfl,l,p⟩;by_cases a:i<n
 .refine .inr ⟨a,Pv<|i+1,λh j k=>⟨n-(i+1),y_,W,a,k⟩,λx j y=>?_⟩;obtain⟨e,y⟩:=y;subst e y;exact d i σ _ _ ⟨id,id⟩ a p
 .have e:i=n:=by lia
  subst e;exact .inl ⟨b5 _,f σ H p⟩
abbrev R2:=V->V->Hp->VK->Prop
def EN(X:Cx)(f:bd->bd->Sem bd)(r:R2):Prop:=
 ∀(pins:List (Addr×Obj))(s:d6)(a:St)(H:Hp)(x y:V)(v u:bd)(Q:VK),Inv X pins a H s->RelV x v->RelV y u->r x y H Q->
  im (j1 X.prog X.w) X.A (f v u) (EP X pins a Q) X.xe s
def nZ(X:Cx)(f:bd->Sem bd)(r:V->Hp->VK->Prop):Prop:=
 ∀(pins:List (Addr×Obj))(s:d6)(a:St)(H:Hp)(x:V)(v:bd)(Q:VK),Inv X pins a H s->RelV x v->r x H Q->
  im (j1 X.prog X.w) X.A (f v) (EP X pins a Q) X.xe s
def Dx(X:Cx)(f:bd)(r:List V->Hp->VK->Prop):Prop:=
 ∀(pins:List (Addr×Obj))(s:d6)(a:St)(H:Hp)(b:List V)(c:List bd)(Q:VK),Inv X pins a H s->Vals b c->r b H Q->
  im (j1 X.prog X.w) X.A (call f c) (EP X pins a Q) X.xe s
def ng(X:Cx)(r:V->Hp->(Bool->Hp->Prop)->Prop):Prop:=
 ∀(pins:List (Addr×Obj))(s:d6)(a:St)(H:Hp)(x:V)(v:bd)(Q:Bool->Hp->Prop),Inv X pins a H s->RelV x v->r x H Q->
  im (j1 X.prog X.w) X.A (truthy v) (TP X pins a Q) X.xe s
def Zu(r:R2)(b c:TE):TE:=λa H Q=>b a H λx d=>c a d λy e=>r x y e Q
def uf(r:V->Hp->VK->Prop)(a:TE):TE:=λb H Q=>a b H λx c=>r x c Q
inductive ug(C:Int->Int->Prop)(g:Int->Int->V)(x y:V)(H:Hp)(Q:VK):Prop|mk(i j:_)(a:x=.int i)(b:y=.int j)(c:C i j)(d:Q (g i j) H)
def rI(C:Int->Int->Prop)(g:Int->Int->V):R2:=λx y H Q=>ug C g x y H Q
inductive nh(g:Int->Int->V)(x y:V)(H:Hp)(Q:VK):Prop|mk(i j:_)(a:x=.int i)(b:y=.int j)(c:Q (g i j) H)
def cW(g:Int->Int->V):R2:=λx y H Q=>nh g x y H Q
inductive uh(g:Int->V)(x:V)(H:Hp)(Q:VK):Prop|mk(i:_)(a:x=.int i)(b:Q (g i) H)
def rU(g:Int->V):V->Hp->VK->Prop:=λx H Q=>uh g x H Q
variable{f:bd->bd->Sem bd}{g:Int->Int->Int}
section
variable {a b:r6} {tc:TE} 
theorem dY(k:PE X a ta)(l:PE X b tb){R:V->V->Hp->Prop}(I:Inv X pins σ H s)(h:ta σ H λx i=>tb σ i λy H2=>R x y H2)(m:∀v u g x y H2,Inv X pins σ H2 g->RelV x v->RelV y u->R x y H2->im (j1 X.prog X.w) X.A (f v u) Q X.xe g):
  im (j1 X.prog X.w) X.A (y9 a X.env) (λv d=>im (j1 X.prog X.w) X.A (y9 b X.env) (λu e=>im (j1 X.prog X.w) X.A (f v u) Q X.xe e) X.xe d) X.xe s:=by
 refine CF (k pins s σ H _ I h) λv n j=>j.elim λx i o p q=>?_;refine CF (l pins n σ i _ o q) λu g j=>j.elim λy H2 r t z=>?_;exact m v u g x y H2 r p t z
theorem AQ{op:Operator}{r:R2}(d:EN X (zW op) r)(e:PE X a ta)(f:PE X b tb):PE X (.BinOp a op b pos) (Zu r ta tb):=by
 intro pins s g H Q I h;exact wpAny_BinOp<|dY e f I h λv u i x y j k l m q=>d pins i g j x y v u Q k l m q
theorem Bo{op:UnaryOp}{r:V->Hp->VK->Prop}(e:nZ X (unaryOp op) r)(f:PE X a ta):PE X (.UnaryOp op a pos) (uf r ta):=by
 intro pins s d H Q I h;exact UnaryOp_<|CF (f pins s d H _ I h) λv g i=>i.elim λx j k l m=>e pins g d j x v Q k l m
theorem lZ{C:Int->Int->Prop}(rule:∀(i j:Int) (t u:Tok) (s:d6) (Q:bd->d6->Prop) (E:bd->d6->Prop),C i j->Q (.int (g i j) s.toks) {s with toks:=s.toks+1}->im (j1 X.prog X.w) X.A (f (.int i t) (.int j u)) Q E s):
  EN X f (rI C λi j=>.int (g i j)):=by
 intro pins s m H x y v u Q I d e h;obtain⟨i,j,rfl,rfl,k,q⟩:=h;obtain⟨t,rfl⟩:=d;obtain⟨l,rfl⟩:=e;exact rule i j t l s _ _ k ⟨.int<|g i j,H,I.tok _,⟨_,W⟩,q⟩
theorem iL  (rule:∀(i j:Int)(t u:Tok)(s:d6)(Q:bd->d6->Prop)(E:bd->d6->Prop),Q (.int (g i j) s.toks) {s with toks:=s.toks+1}->im (j1 X.prog X.w) X.A (f (.int i t) (.int j u)) Q E s):
  EN X f (cW λi j=>.int (g i j)):=by
 intro pins s l H x y v u Q I d e h;obtain⟨i,j,rfl,rfl,q⟩:=h;obtain⟨t,rfl⟩:=d;obtain⟨k,rfl⟩:=e;exact rule i j t k s _ _ ⟨.int<|g i j,H,I.tok _,⟨_,W⟩,q⟩
theorem aE{g:Int->Int->Bool}(rule:∀(i j:Int) (t u:Tok) (s:d6) (Q:bd->d6->Prop) (E:bd->d6->Prop),Q (.bool (g i j)) s->im (j1 X.prog X.w) X.A (f (.int i t) (.int j u)) Q E s):
  EN X f (cW λi j=>.bl (g i j)):=by
 intro pins s l H x y v u Q I d e h;obtain⟨i,j,rfl,rfl,q⟩:=h;obtain⟨t,rfl⟩:=d;obtain⟨k,rfl⟩:=e;exact rule i j t k s _ _ ⟨.bl<|g i j,H,I,W,q⟩
def nj(i j:Int):Prop:=0<j/\j<1073741824
def nq(i j:Int):Prop:=0<=j/\j<=1000000/\i.natAbs<2 ^ 64
def dZ(i j:Int):Prop:=(-(2 ^ 64)<i/\i<2 ^ 64)∨(-(2 ^ 64)<j/\j<2 ^ 64)
theorem dZ.ok{i j:Int}(h:dZ i j):IntMulOk i j:=by
 rcases h with⟨d,e⟩|⟨d,e⟩
 .exact .of_left<|abp d e
 .exact .of_right<|abp d e
theorem Bg:EN X (zW .Add) (cW λi j=>.int (i+j)):=iL λ_ _ _ _ _ _ _ q=>add_int q
theorem Lk:EN X (zW .Sub) (cW λi j=>.int (i-j)):=iL λ_ _ _ _ _ _ _ q=>sub_int q
theorem HR:EN X (zW .Mult) (rI dZ λi j=>.int (i*j)):=lZ λ_ _ _ _ _ _ _ d q=>mul_int q d.ok
theorem Hr:EN X (zW .FloorDiv) (rI nj λi j=>.int (i/j)):=lZ λi j _ _ _ _ _ d q=>by
 have e:(0:Int)<j:=d.1;have f:j<1073741824:=d.2;exact floordiv_int y_ (by rw[Int.fdiv_eq_ediv_of_nonneg i y_];exact q)<|.inl<|PyProof.noPylong_small y_
theorem BB:EN X (zW .Mod) (rI (λ_ j=>0<j) λi j=>.int (i % j)):=lZ λi j _ _ _ _ _ d q=>by
 have e:(0:Int)<j:=d;exact mod_int' y_<|by rw[Int.fmod_eq_emod_of_nonneg i y_];exact q
theorem XD:EN X (zW .Pow) (rI nq λi j=>.int (i ^ j.toNat)):=lZ λ_ _ _ _ _ _ _ d q=>pow_int_small d.1 d.2.1 d.2.2 q
theorem ui{f:bd->Sem bd}{g:Int->Int}(rule:∀(i:Int) (t:Tok) (s:d6) (Q:bd->d6->Prop) (E:bd->d6->Prop),Q (.int (g i) s.toks) {s with toks:=s.toks+1}->im (j1 X.prog X.w) X.A (f (.int i t)) Q E s):
  nZ X f (rU λi=>.int (g i)):=by
 intro pins s e H x v Q I d h;obtain⟨i,rfl,q⟩:=h;obtain⟨t,rfl⟩:=d;exact rule i t s _ _ ⟨.int<|g i,H,I.tok _,⟨_,W⟩,q⟩
theorem BJ:nZ X (unaryOp .USub) (rU λi=>.int (-i)):=ui λ_ _ _ _ _ q=>neg_int q
end
noncomputable def iM:V->V->Bool
 | .Al,.Al=>true| .Al,.int _=>true| .int _,.Al=>true| .Al,.bl _=>true| .bl _,.Al=>true| .Al,.str _=>true| .str _,.Al=>true
 | .int _,.int _=>true| .bl _,.bl _=>true| .str _,.str _=>true| .VP _,.VP _=>true
 | .int _,.str _=>true| .str _,.int _=>true| .bl _,.str _=>true| .str _,.bl _=>true
 |_,_=>false
def nr:R2:=λx y H Q=>iM x y=true/\Q (.bl<|decide<|x=y) H
def uj:R2:=λx y H Q=>iM x y=true/\Q (.bl<|!decide (x=y)) H
theorem Tt{i j:Int}:decide (V.int i=V.int j)=(i==j):=by
 rw[zP];simp
theorem XE{i j:Bool}:decide (V.bl i=V.bl j)=(i==j):=by
 rw[zP];simp
theorem Tu{i j:Str}:decide (V.str i=V.str j)=(i==j):=by
 rw[zP];simp
theorem Tv{i j:Array UInt8}:decide (V.VP i=V.VP j)=(i.toList==j.toList):=by
 rw[zP];cases i;cases j;simp
variable{d:List bd}
section
variable {a b:r6} {tc:TE} 
theorem BU{Q:VK}{k d:Bool}(I:Inv X pins σ H s)(q:Q (.bl k) H)(e:k=d):EP X pins σ Q (.bool d) s:=by
 subst e;exact⟨.bl k,H,I,W,q⟩
theorem BE:EN X (ut .Eq) nr:=by
 intro pins s k H x y v u Q I g d h;obtain⟨f,q⟩:=h;cases x with
 |Al=>
  cases g;cases y with
  |Al=>cases d;exact PySem.EqNone.eq_none_none (BU I q z_)|bl j=>cases d;exact PySem.EqNone.eq_none_bool (BU I q z_)|int j=>obtain⟨e,rfl⟩:=d;exact PySem.EqNone.eq_none_int (BU I q z_)
  |str j=>obtain⟨e,rfl⟩:=d;exact PySem.EqNone.eq_none_str (BU I q z_)
  |_=>exact absurd (show false=true from f) d5
 |bl i=>
  cases g;cases y with
  |Al=>cases d;exact PySem.EqNone.eq_bool_none (BU I q z_)|bl j=>cases d;exact eq_bool (BU I q XE)|str j=>obtain⟨e,rfl⟩:=d;exact PySem.EqMixed.eq_bool_str (BU I q z_)
  |_=>exact absurd (show false=true from f) d5
 |int i=>
  obtain⟨t,rfl⟩:=g;cases y with
  |Al=>cases d;exact PySem.EqNone.eq_int_none (BU I q z_)|int j=>obtain⟨e,rfl⟩:=d;exact eq_int (BU I q Tt)
  |str j=>obtain⟨e,rfl⟩:=d;exact PySem.EqMixed.eq_int_str (BU I q z_)
  |_=>exact absurd (show false=true from f) d5
 |str i=>
  obtain⟨t,rfl⟩:=g;cases y with
  |Al=>cases d;exact PySem.EqNone.eq_str_none (BU I q z_)|bl j=>cases d;exact PySem.EqMixed.eq_str_bool (BU I q z_)|int j=>obtain⟨e,rfl⟩:=d;exact PySem.EqMixed.eq_str_int (BU I q z_)
  |str j=>obtain⟨e,rfl⟩:=d;exact eq_str (BU I q Tu)
  |_=>exact absurd (show false=true from f) d5
 |VP i=>
  obtain⟨t,rfl⟩:=g;cases y with
  |VP j=>obtain⟨e,rfl⟩:=d;exact PySem.W.eq_bytes (BU I q Tv)
  |_=>exact absurd (show false=true from f) d5
 |_=>cases y<;>exact absurd (show false=true from f) d5
theorem Ll:EN X (ut .NotEq) uj:=by
 intro pins s k H x y v u Q I g d h;obtain⟨f,q⟩:=h;cases x with
 |Al=>
  cases g;cases y with
  |Al=>cases d;exact PySem.EqNone.ne_none_none (BU I q z_)|bl j=>cases d;exact PySem.EqNone.ne_none_bool (BU I q z_)|int j=>obtain⟨e,rfl⟩:=d;exact PySem.EqNone.ne_none_int (BU I q z_)
  |str j=>obtain⟨e,rfl⟩:=d;exact PySem.EqNone.ne_none_str (BU I q z_)
  |_=>exact absurd (show false=true from f) d5
 |bl i=>
  cases g;cases y with
  |Al=>cases d;exact PySem.EqNone.ne_bool_none (BU I q z_)|bl j=>cases d;exact ne_bool (BU I q (congrArg not XE))|str j=>obtain⟨e,rfl⟩:=d;exact PySem.EqMixed.ne_bool_str (BU I q z_)
  |_=>exact absurd (show false=true from f) d5
 |int i=>
  obtain⟨t,rfl⟩:=g;cases y with
  |Al=>cases d;exact PySem.EqNone.ne_int_none (BU I q z_)|int j=>obtain⟨e,rfl⟩:=d;exact ne_int (BU I q (congrArg not Tt))
  |str j=>obtain⟨e,rfl⟩:=d;exact PySem.EqMixed.ne_int_str (BU I q z_)
  |_=>exact absurd (show false=true from f) d5
 |str i=>
  obtain⟨t,rfl⟩:=g;cases y with
  |Al=>cases d;exact PySem.EqNone.ne_str_none (BU I q z_)|bl j=>cases d;exact PySem.EqMixed.ne_str_bool (BU I q z_)|int j=>obtain⟨e,rfl⟩:=d;exact PySem.EqMixed.ne_str_int (BU I q z_)
  |str j=>obtain⟨e,rfl⟩:=d;exact ne_str (BU I q (congrArg not Tu))
  |_=>exact absurd (show false=true from f) d5
 |VP i=>
  obtain⟨t,rfl⟩:=g;cases y with
  |VP j=>obtain⟨e,rfl⟩:=d;exact PySem.W.ne_bytes (BU I q (congrArg not Tv))
  |_=>exact absurd (show false=true from f) d5
 |_=>cases y<;>exact absurd (show false=true from f) d5
theorem IJ:EN X (ut .Lt) (cW λi j=>.bl (decide (i<j))):=aE λ_ _ _ _ _ _ _ q=>lt_int q
theorem iN:EN X (ut .LtE) (cW λi j=>.bl (decide (i<=j))):=aE λ_ _ _ _ _ _ _ q=>le_int q
theorem XF:EN X (ut .Gt) (cW λi j=>.bl (decide (j<i))):=aE λ_ _ _ _ _ _ _ q=>gt_int q
theorem cX:EN X (ut .GtE) (cW λi j=>.bl (decide (j<=i))):=aE λ_ _ _ _ _ _ _ q=>ge_int q
theorem HS:EN X (ut .Is) (λx y H Q=>y=.Al/\Q (.bl (decide (x=.Al))) H):=by
 intro pins s f H x y v u Q I d e h;obtain⟨rfl,q⟩:=h;cases e;refine is_none_gen<|BU I q ?_;cases x<;>first
  |(cases d;rfl)
  |(obtain⟨t,rfl⟩:=d;rfl)
theorem Ck:EN X (ut .IsNot) (λx y H Q=>y=.Al/\Q (.bl (!decide (x=.Al))) H):=by
 intro pins s f H x y v u Q I d e h;obtain⟨rfl,q⟩:=h;cases e;refine isnot_none_gen<|BU I q ?_;cases x<;>first
  |(cases d;rfl)
  |(obtain⟨t,rfl⟩:=d;rfl)
theorem AL(b:r6)(h:op≠.In:=by decide)(d:op≠.NotIn:=by decide):B5 op b=false:=by
 have e:(op==CmpOp.In)=false:=by cases op<;>first|rfl|exact absurd rfl h
 have f:(op==CmpOp.NotIn)=false:=by cases op<;>first|rfl|exact absurd rfl d
 cases b<;>simp[B5,e,f]
theorem Bm{r:R2}(d:EN X (ut op) r)(e:PE X a ta)(f:PE X b tb)(g:B5 op b=false):PE X (.Compare a [op] [b] pos) (Zu r ta tb):=by
 intro pins s i H Q I h;exact abb (dY e f I h λv u j x y k l m n q=>d pins j i k x y v u Q l m n q) g
def XG(t:TE):TT:=λd H Q=>t d H λx e=>rV x e Q
theorem AJ{r:R2}(f:EN X (ut op) r)(g:PE X a ta)(i:PE X b tb)(j:B5 op b=false):PT X (.Compare a [op] [b] pos) (XG (Zu r ta tb)):=by
 intro pins s d H Q I h;refine R5 (CF (g pins s d H _ I h) λv l m=>m.elim λx n o p q=>CF (i pins l d n _ o q) λu t ⟨y,w,A,B,C⟩=>
  CF (f pins t d w x y v u _ A p B C) λc J ⟨z,D,E,F,k,e,G⟩=>?_) j
 subst e;cases F;exact wE ⟨D,E,G⟩
def iO(K:yd)(x:V)(H:Hp)(k:Bool):Prop:=
 match x with
 | .Al=>k=false| .bl b=>k=b| .int i=>k=(i !=0)| .str y=>y.length<=sizeLine/\k=((y.length:Int) !=0)| .VP y=>y.size<=sizeLine/\k=((y.size:Int) !=0)| .ref p=>(∃d,Ax K H p d/\k= !d.isEmpty)∨(∃d,Ae K H p d/\k= !d.isEmpty)∨∃kvs,H p=Z (.dK kvs)/\k= !kvs.isEmpty|_=>False
theorem SN{d:Type}{kvs:List (d×V)}{e:List (d×bd)}(r:KV kvs e):(!e.isEmpty)= !kvs.isEmpty:=by
 cases r<;>rfl
theorem Lm{its:List bd}(r:Vals xs its):(!its.toArray.isEmpty)= !xs.isEmpty:=by
 cases r<;>simp
theorem IQ:(sizeLine:Nat)<2 ^ 63:=by rw[N2];decide
theorem da:ng X (λx H Q=>∃k,iO X.K x H k/\Q k H):=by
 intro pins s B H x v Q I g h;obtain⟨k,e,q⟩:=h;have C:=IQ;have D:sizeLine=16777216:=N2;cases x with
 |Al=>
  cases g;have d:k=false:=e;subst d;exact truthy_none ⟨H,I,q⟩
 |bl b=>
  cases g;have d:k=b:=e;subst d;exact wE ⟨H,I,q⟩
 |int i=>
  obtain⟨t,rfl⟩:=g;have d:k=(i !=0):=e;subst d;exact PySem.P.truthy_int ⟨H,I,q⟩
 |str y=>
  obtain⟨t,rfl⟩:=g;obtain⟨z,d⟩:y.length<=sizeLine/\k=((y.length:Int) !=0):=e;subst d;exact PySem.P.truthy_str y_ ⟨H,I.tok _,q⟩
 |VP y=>
  obtain⟨t,rfl⟩:=g;obtain⟨z,d⟩:y.size<=sizeLine/\k=((y.size:Int) !=0):=e;subst d;exact PySem.W.truthy_bytes y_ ⟨H,I.tok _,q⟩
 |ref p=>
  cases g;have d:(∃f,Ax X.K H p f/\k= !f.isEmpty)∨(∃f,Ae X.K H p f/\k= !f.isEmpty)∨∃kvs,H p=Z (.dK kvs)/\k= !kvs.isEmpty:=e;rcases d with⟨f,j,d⟩|⟨f,j,d⟩|⟨kvs,j,d⟩
  .subst d;obtain⟨n,r,o,u⟩:=I.list j;have hlen:=r.length;exact wpAny_truthy_list o.isList (by simp only[b6];lia) ⟨H,I.tok _,by rw[Lm r];exact q⟩
  .subst d;obtain⟨n,r,o,u⟩:=I.tuple j;have hlen:=r.length;exact truthy_tuple o (by simp only[b6];lia) ⟨H,I.tok _,by rw[Lm r];exact q⟩
  .subst d;obtain⟨u,A,l,r,m⟩:kvs.length<=sizeLine/\(p==q5)=false/\∃l,KV kvs l/\s.heap.DictOf (A_ X.prog X.w) p l:=I.Bi p _ j;have hlen:kvs.length=l.length:=zQ r;exact wpAny_truthy_dict A m y_ ⟨H,I.tok _,by rw[SN r];exact q⟩
 |_=>exact(show False from e).elim
theorem XH(d:PE X a ta)(e:∀whole,aa0 a X.env whole=(do let v<-whole;standAt a.pos;M9 [v] (truthy v))):
  PT X a (fun σ H Q=>ta σ H λx H'=>∃k,iO X.K x H' k/\Q k H'):=by
 intro pins s σ H Q I h;exact isTrue_plain (CF (d pins s σ H _ I h) λv f g=>g.elim λx i j l m=>da pins f σ i x v Q j l m)<|e _
inductive M'(x y:V)(H:Hp)(Q:VK):Prop|mk(i j:_)(d:x=.str i)(e:y=.str j)(f:i.length+j.length<=sizeLine)(g:Q (.str (i++j)) H)
def Og:V->V->Hp->VK->Prop:=λx y H Q=>M' x y H Q
theorem Ln:EN X (zW .Add) Og:=by
 intro pins s k H x y v u Q I d e h;obtain⟨i,j,rfl,rfl,f,q⟩:=h;obtain⟨t,rfl⟩:=d;obtain⟨g,rfl⟩:=e;exact add_str (λg l=>⟨.str<|i++j,H,I.tok _,⟨_,W⟩,q⟩) f
theorem vals1{x:V}(r:Vals [x] d):∃u,d=[u]/\RelV x u:=by
 cases r with
 |cons e f=>cases f;exact⟨_,W,e⟩
theorem vals2{x y:V}(r:Vals [x,y] d):∃u e,d=[u,e]/\RelV x u/\RelV y e:=by
 cases r with
 |cons f g=>
  cases g with
  |cons h i=>cases i;exact⟨_,_,W,f,h⟩
inductive Oh(xs:List V)(H:Hp)(Q:VK):Prop|mk(i j:_)(d:xs=[.int i,.int j])(e:Q (.int (if j>i then j else i)) H)
def QS:List V->Hp->VK->Prop:=λd H Q=>Oh d H Q
theorem VX(e:X.calm=true):Dx X (.builtin "max") QS:=by
 intro pins s f H g l Q I r h;obtain⟨i,j,rfl,q⟩:=h;obtain⟨u,m,rfl,⟨t,rfl⟩,⟨n,rfl⟩⟩:=vals2 r;refine max_two_ints (I.ok.hd e) λo p k=>⟨_,H,I.kept k,?_,q⟩;by_cases d:j>i
 .rw[if_pos d,if_pos d];exact⟨_,W⟩
 .rw[if_neg d,if_neg d];exact⟨_,W⟩
inductive Oi(xs:List V)(H:Hp)(Q:VK):Prop|mk(i j:_)(d:xs=[.int i,.int j])(e:Q (.int (if j<i then j else i)) H)
def QT:List V->Hp->VK->Prop:=λd H Q=>Oi d H Q
theorem VY(e:X.calm=true):Dx X (.builtin "min") QT:=by
 intro pins s f H g l Q I r h;obtain⟨i,j,rfl,q⟩:=h;obtain⟨u,m,rfl,⟨t,rfl⟩,⟨n,rfl⟩⟩:=vals2 r;refine min_two_ints (I.ok.hd e) λo p k=>⟨_,H,I.kept k,?_,q⟩;by_cases d:j<i
 .rw[if_pos d,if_pos d];exact⟨_,W⟩
 .rw[if_neg d,if_neg d];exact⟨_,W⟩
theorem NO:Dx X (.type "int") (λxs H Q=>(∃i,xs=[.int i]/\Q (.int i) H)∨∃k,xs=[.bl k]/\Q (.int (if k then 1 else 0)) H):=by
 intro pins s e H xs f Q I r h;rcases h with⟨i,rfl,q⟩|⟨k,rfl,q⟩
 .obtain⟨u,rfl,t,rfl⟩:=vals1 r;exact call_int_int ⟨.int i,H,I,⟨_,W⟩,q⟩
 .obtain⟨u,rfl,d⟩:=vals1 r;cases d;exact call_int_bool ⟨.int<|if k then 1 else 0,H,I.tok _,⟨_,W⟩,q⟩
end
structure dc(h:Heap)(x dx C:Addr)(mA:Str->Option bd):Prop where
 obj:h.get? x=Z (Q7 C dx)
 ns:h.Ns1 dx mA
 ne:dx≠x
set_option tactic.hygienic true in
theorem VZ{c:Addr}{d:Str->Option bd}(n:h.Ns1 c d):∃f,h.get? c=Z f/\∀name,U2 name f=Z (d name):=by
 obtain⟨o,g,r,i,j,k,_,l⟩:=n;refine⟨o,i,λname=>?_⟩;have e:=l name;unfold nsFind abK at e;rw[<-Array.find?_toList]at e;unfold U2;rw[j];dsimp only;split
 .rename_i y q
  rw[q]at e;exact congrArg Z e
 .rename_i q
  rw[q]at e;have a:g.toList.any (·.refKey)=false:=by
   rw[N8];intro y m;obtain⟨z,t,b⟩:=k y<|Array.mem_toList_iff.mp m;simp[DictEntry.refKey,b]
  have p:¬g.toList.any (·.refKey)=true:=by rw[a];exact d5
  rw[if_neg p];exact congrArg Z e
variable{C:Addr}
theorem dc.look{x:Addr}{c:Str->Option bd}(I:dc h x b C c):∃a,PySem.W.InstAt h x (Q7 C b) C (Z a)/\∀name,U2 name a=Z (c name):=
 let⟨a,d,e⟩:=VZ I.ns
 ⟨a,⟨I.obj,W,W,d⟩,e⟩
variable{dx:Addr}
theorem Kv.some_of{o:Option bd}(r:Kv (Z v) o):∃u,o=Z u/\RelV v u:=by
 cases o with
 |none=>exact(show False from r).elim|some u=>exact⟨u,W,r⟩
section
variable {fs uX:List (Str×V)}
theorem Iw(c:Hq P w H h)(e:H a=Z (.ins C dx fs)):∃b,dc h a dx C b/\(∀f,Kv (fs.lookup f) (b f))/\abM b (fs.map (·.1))/\fs.length<=1000/\H dx=Z (.own a):=by
 obtain⟨d,z,ne,g,b,n,r,q⟩:=(show BR P w H h a (.ins C dx fs)from c a _ e);exact⟨b,⟨g,n,ne⟩,r,q,z,d⟩
end
structure nu(K:yd)(C:Addr):Prop where
 pg:aaw K C Str.empty=true
 hd:PySem.W.hasDictIn K C=true
 po:PySem.W.plainOver K C=true
 sa:abf K (.ref C) "__setattr__"=Z (Z (.builtin "object.__setattr__"))
theorem nu.get(c:nu K C)(f:Str):aaw K C f=true:=c.pg
section
variable {A:i8} {c:bd} {b:Bool}
inductive Ky(K:yd)(H:Hp):V->bd->Prop where
 |Al:Ky K H .Al (.type "NoneType")
 |bl (x:Bool):Ky K H (.bl x) (.type "bool")
 |int (i:Int):Ky K H (.int i) (.type "int")
 |str (x:Str):Ky K H (.str x) (.type "str")
 |gW (x:UInt64):Ky K H (.gW x) (.type "float")
 |lst {a:Addr} {xs:List V} (e:H a=Z (.lst xs)):Ky K H (.ref a) (.type "list")
 |Di {a:Addr} {o:Obj} {xs:List V} (e:H a=Z (.Di o (.lst xs))):Ky K H (.ref a) (.type "list")
 |tup {a:Addr} {xs:List V} (e:H a=Z (.tup xs)):Ky K H (.ref a) (.type "tuple")
 |dK {a:Addr} {kvs:List (Key×V)} (e:H a=Z (.dK kvs)):Ky K H (.ref a) (.type "dict")
 |dT {a:Addr} {kvs:List (List Key×V)} (e:H a=Z (.dT kvs)):Ky K H (.ref a) (.type "dict")
 |ins {a C d:Addr} {fs:List (Str×V)} (e:H a=Z (.ins C d fs)) (g:nu K C) (h:abf K (.ref C) "__class__"=Z (Z (.builtin "object.__class__"))) (j:PySem.W.specialIn K (.builtin "object.__class__") "__get__"=Z (Z (.builtin "getset_descriptor.__get__"))) (f:PySem.W.takesIn K (.builtin "object.__class__")=Z true) (k:PySem.W.mroIn K C (.type "object")=Z true):Ky K H (.ref a) (.ref C)
theorem GO{x:V}{t:bd}(I:Inv X pins σ H s)(d:RelV x u)(ty:Ky X.K H x t)(e:U3 X.K t c=Z b)(h:∀tk,Q (.bool b) {s with toks:=tk}):
  im (j1 X.prog X.w) A (call (.builtin "isinstance") [u,c]) Q E s:=by
 cases ty with
 |Al=>cases(show u=u0 from d);exact sK aam I.KX w6 e (λz=>nomatch z) h
 |bl y=>cases(show u=x9 y from d);exact sK aan I.KX w6 e (λz=>nomatch z) h
 |int i=>obtain⟨t,q⟩:=(show∃t,u=zh i t from d);cases q;exact sK aay I.KX w6 e (λz=>nomatch z) h
 |str y=>obtain⟨t,q⟩:=(show∃t,u=zu y t from d);cases q;exact sK aax I.KX w6 e (λz=>nomatch z) h
 |gW y=>obtain⟨t,q⟩:=(show∃t,u=abY y t from d);cases q;exact sK PySem.W.kitx_float I.KX w6 e (λz=>nomatch z) h
 |@lst a j f=>
  cases(show u=i3 a from d);obtain⟨_,_,n,_,g⟩:=(show BR X.prog X.w H s.heap a (.lst j)from I.Bi a _ f);exact sK E3 I.KX ⟨_,g,W⟩ e (λz=>nomatch z) h
 |@Di a r j f=>
  cases(show u=i3 a from d);obtain⟨_,_,_,n,_,g⟩:=(show BR X.prog X.w H s.heap a (.Di r<|.lst j)from I.Bi a _ f);exact sK E3 I.KX ⟨_,g,W⟩ e (λz=>nomatch z) h
 |@tup a j f=>
  cases(show u=i3 a from d);obtain⟨_,_,_,p⟩:=(show BR X.prog X.w H s.heap a (.tup j)from I.Bi a _ f);obtain⟨o,g,k,_⟩:=p;exact sK Y6 I.KX ⟨o,g,k⟩ e (λz=>nomatch z) h
 |@dK a kvs f=>
  cases(show u=i3 a from d);obtain⟨_,_,L,_,p⟩:=(show BR X.prog X.w H s.heap a (.dK kvs)from I.Bi a _ f);obtain⟨o,v,B,g,k,_⟩:=p;exact sK E4 I.KX ⟨o,g,k.1⟩ e (λz=>nomatch z) h
 |@dT a kvs f=>
  cases(show u=i3 a from d);obtain⟨_,_,j,_,o,v,B,g,k,_⟩:=(show BR X.prog X.w H s.heap a (.dT kvs)from I.Bi a _ f);exact sK E4 I.KX ⟨o,g,k.1⟩ e (λz=>nomatch z) h
 |@ins a C M fs f m D F l G=>
  cases(show u=i3 a from d);obtain⟨N,O,_⟩:=Iw I.Bi f;obtain⟨P,J,_⟩:=O.look;exact sK (PySem.W.kitx_own (m.get _) m.hd D F l G) I.KX J e (λz=>nomatch z) h
end
structure CD(k:Nat)(A:i8):Prop where
 hd:A.handled=ν
 dp:A.depth+3*k+5<recursionLimit
 un:A.units+16*k+200<cLine
 gd:A.guards=Z []
theorem CD.mono{j k:Nat}{A:i8}(r:CD k A)(h:j<=k):CD j A:=⟨r.hd,by have:=r.dp;lia,by have:=r.un;lia,r.gd⟩
theorem CD.deeper{k:Nat}{A:i8}(r:CD (k+1) A)(env:Env):CD k (A.deeper env):=
 ⟨r.hd,by have:=r.dp;show A.depth+1+3*k+5<_;lia,by have:=r.un;show A.units+3+16*k+200<_;lia,r.gd⟩
theorem CD.depth{k:Nat}{A:i8}(r:CD k A):A.depth<recursionLimit:=by have:=r.dp;lia
theorem CD.units{k:Nat}{A:i8}(r:CD k A):A.units+64<cLine:=by have:=r.un;lia
theorem CD.Cm{k:Nat}{A:i8}(r:CD k A):A.units<cLine:=by have:=r.un;lia
def SO:TA:=λ_ H Q=>Q [] H
def IK(b:TE)(tr:TA):TA:=λa H Q=>b a H λx c=>tr a c λd e=>Q (x::d) e
variable{es:List r6}
section
variable {t:TA} 
theorem Bp:PA X [] SO:=λ_ _ _ _ H Q I h=>aar ⟨[],H,I,.nil,h⟩
theorem AA(c:PE X e te)(d:PA X es t)(f:m7 (e::es) X.env=(false,y9 e X.env)::m7 es X.env:=by rfl):PA X (e::es) (IK te t):=by
 intro pos pins s b H Q I h;rw[f];show im _ _ (spliced ((false,y9 e X.env)::FM pos (m7 es X.env))) _ _ s;refine Z8 (CF (c pins s b H _ I h) λu g a=>a.elim λx i j k l=>?_);exact CF (d pos pins g b i _ j l) λr v a=>a.elim λm n o p q=>⟨x::m,n,o,.cons k p,q⟩
def oA(t:TA):TE:=λb H Q=>t b H λa c=>a.length<=sizeLine/\Wx c (.tup a) Q
def oB(t:TA):TE:=λb H Q=>t b H λa c=>a.length<=sizeLine/\Wx c (.lst a) Q
theorem AX{m}(h:PA X es t):PE X (.Tuple es m pos) (oA t):=by
 intro pins s g H Q I i;refine wpAny_Tuple_spliced (CF (h pos pins s g H _ I i) λj a ⟨k,c,d,r,z,q⟩=>⟨by rw[<-r.length];exact z,?_⟩);have l:c a.heap.objs.size=none:=d.Bi.fresh<|b5 _;refine⟨.ref a.heap.objs.size,upd c a.heap.objs.size<|.tup k,d.laid (t':=a.toks) (λb u e=>d0 _ e) (b5 _) ?_,W,q _ l⟩;exact⟨z,j,r,⟨_,i7 _ W,W,_,W⟩⟩
theorem BC(h:PA X es t):PE X (.List es pos) (oB t):=by
 intro pins s f H Q I g;refine wpAny_List_spliced (CF (h pos pins s f H _ I g) λi a ⟨j,c,d,r,z,q⟩=>⟨by rw[<-r.length];exact z,?_⟩);have k:c a.heap.objs.size=none:=d.Bi.fresh<|b5 _;refine⟨.ref a.heap.objs.size,upd c a.heap.objs.size<|.lst j,d.laid (t':=a.toks) (λb u e=>d0 _ e) (b5 _) ?_,W,q _ k⟩;exact⟨z,i,0,r,i7 _ W⟩
end
abbrev Sp:=List V->Hp->VK->XK->Prop
abbrev SQ:=List Env->Hp->d6->XK->bd->d6->Prop
structure aF(P:m8)(w:q3)(K:yd)(mg:Str->Option bd)(base:Heap)(A:i8)(outer:List Env)(s:d6)(H:Hp):Prop where
 frames:A.frames=Z outer
 mod:Mod K mg base
 bs:∀b o,base.get? b=Z o->s.heap.get? b=Z o/\H b=ν
 Zt:base.objs.size<=s.heap.objs.size
 Lh:s.heap.FunFrames base outer
 gY:∀b∈Wz outer,H b=ν
 Bi:Hq P w H s.heap
 bare:N0 s.gens
inductive CE(outer:List Env)(P:m8)(w:q3)(H:Hp)(s:d6)(Q:VK)(u:bd)(a:d6):Prop|mk(v:V)(H':Hp)(os:a.os=s.os)(bare:N0 a.gens)(un:Un (Wz outer) [] H H' s.heap a.heap)(b:Hq P w H' a.heap)(r:RelV v u)(q:Q v H')
def CR(CX:SQ)(outer:List Env)(P:m8)(w:q3)(H:Hp)(s:d6)(Q:VK)(E:XK)(r:T6)(a:d6):Prop:=
 match r with
 | .ok (.ret u)=>CE outer P w H s Q u a| .ok _=>False| .error e=>CX outer H s E e a
structure BA(P:m8)(w:q3)(K:yd)(mg:Str->Option bd)(base:Heap)(CX:SQ)(k:Nat)(f:Addr)(fd:m9)(ps:List Str)(sp:Sp):Prop where
 len:∀vs H Q E,sp vs H Q E->vs.length=ps.length
 run:∀(A:i8)(outer:List Env)(s:d6)(H:Hp)(args:Args)(us:List bd)(vs:List V)(Q:VK)(E:XK),CD k A->aF P w K mg base A outer s H->WF s fd args (ps.zip us)->Vals vs us->sp vs H Q E->
  A1 (j1 P w) A (.call (.ref f) args) (CR CX outer P w H s Q E) s
variable{mg:Str->Option bd}{CX:SQ}{base:Heap}{sp:Sp}
theorem BA.imp{k:Nat}{f:Addr}{c:m9}{d:List Str}{b:Sp}(F:BA P w K mg base CX k f c d sp)(h:∀a H Q E,b a H Q E->sp a H Q E):BA P w K mg base CX k f c d b:=
 ⟨λa H Q E q=>F.len a H Q E (h _ _ _ _ q),λA outer s H args e a Q E g i j l m=>F.run A outer s H args e a Q E g i j l (h _ _ _ _ m)⟩
section
variable {s':d6}
theorem Inv.oC(I:Inv X pins σ H s):aF X.prog X.w X.K X.mg X.base X.A X.stack s H:=
 ⟨I.ok.frames,I.ok.mod,I.bs,al I.ok.Zt I.sz,I.stack,I.OY,I.Bi,I.bare⟩
theorem Inv.after{Q:VK}(I:Inv X pins σ H s)(h:CE X.stack X.prog X.w H s Q u s'):EP X pins σ Q u s':=by
 obtain⟨v,e,os,bare,un,a,r,q⟩:=h;obtain⟨f,g,d,t,c⟩:=s';obtain rfl:c=s.os:=os;exact⟨v,e,I.call (h':=f) (g':=g) (d':=d) (t':=t) (ch:=[]) un a bare λb z=>absurd z z_,r,q⟩
end
def XI(sp:Sp)(a:List V)(E:XK)(t:TA):TE:=λb H Q=>t b H λc d=>sp (c++a) d Q E
def Binds(K:yd)(c:m9)(b:List Str)(ds:List bd):Prop:=
 ∀(s:d6)(a:List bd),K.In s.heap->(a++ds).length=b.length->WF s c ⟨a,[]⟩ (b.zip (a++ds))
theorem Binds.all{c:m9}{b:List Str}(h:∀a:List bd,a.length=b.length->abV c ⟨a,[]⟩=pure (b.zip a)):Binds K c b []:=λs a _ d=>by
 rw[ge]at d⊢;exact .of_eq<|h a d
def Passes(CX:SQ)(X:Cx)(E:XK):Prop:=∀(pins:List (Addr×Obj))(b:St)(H:Hp)(s:d6)(e:bd)(a:d6),Inv X pins b H s->CX X.stack H s E e a->X.xe e a
variable{fd:m9}{ps:List Str}
section
variable {k:Nat} {f:Addr} {cY:List V} {ds:List bd} {E:XK} {m:Str} {apos:Pos} {o:r6} {t:TA}
theorem de{Q:VK}{a:List bd}{c:List V}(F:BA X.prog X.w X.K X.mg X.base CX k f fd ps sp)(g:CD k X.A)(i:Binds X.K fd ps ds)(j:Vals cY ds)(l:Passes CX X E)(I:Inv X pins σ H s)(r:Vals c a)(h:sp (c++cY) H Q E):im (j1 X.prog X.w) X.A (call (.ref f) a) (EP X pins σ Q) X.xe s:=by
 have d:Vals (c++cY) (a++ds):=r.append j;have n:(a++ds).length=ps.length:=by rw[<-d.length];exact F.len _ _ _ _ h
 refine wpAny_call (aad (F.run X.A X.stack s H ⟨a,[]⟩ (a++ds) (c++cY) Q E g I.oC (i s a I.KX n) d h) λr q b=>?_);cases r with
 |error e=>exact l pins σ H s e q I b|ok v=>
  cases v with
  |ret u=>exact I.after b|next=>exact zo b|brk=>exact zo b|cont=>exact zo b
theorem aG(F:BA X.prog X.w X.K X.mg X.base CX k f fd ps sp)(d:CD k X.A)(g:Gl X x)(i:X.mg x=Z (.ref f))(j:zY X.K (.ref f)=true)(l:Binds X.K fd ps ds)(n:Vals cY ds)(u:Passes CX X E)(v:PA X (e::es) t)(a:(x==("__debug__":Str))=false:=by decide)(y:m7 (e::es) X.env=(false,y9 e X.env)::m7 es X.env:=by rfl)(b:(FM pos (m7 es X.env)).any (·.1)=false:=by rfl):
  PE X (.Call (.Name x p) (e::es) [] pos) (XI sp cY E t):=by
 intro pins s z H Q I h;refine C7<|Tr I g i ?_ a;refine PySem.W.callWith_K (h₀:=X.base) I.ok.mod.lT j (CF (v pos pins s z H _ I h) λD G B=>B.elim λJ L c r q=>⟨c.KX,?_⟩) y b;exact de F d l n u c r q
end
structure LK(N P:List Str)(sc:Scope):Prop where
 kind:sc.kind=.function:=by rfl
 co:sc.isCoroutine=false:=by rfl
 gen:sc.isGenerator=false:=by rfl
 nd:N.Nodup:=by decide+kernel
 pre:N.take P.length=P:=by rfl
 par:∀x∈P,sc.names.lookup x=Z .local∨sc.names.lookup x=Z .cell:=by decide+kernel
 df:∀y∈sc.names,y.2≠.free:=by decide+kernel
theorem NP{kindOf:Str->Option NameKind}{x:Str}:∀{binds:List (Str×bd)}{m:Str->Option bd},(∀v,(x,v)∉binds)->aaY kindOf binds m x=m x
 |[],_,_=>rfl|(n,v)::r,m,h=>by
  unfold aaY;rw[NP λw hw=>h w<|bi _ hw];split
  .have:x≠n:=by rintro rfl;exact h v e9
   simp[this]
  .rfl
theorem NQ{kindOf:Str->Option NameKind}{x:Str}:∀{binds:List (Str×bd)}{m:Str->Option bd},(∀v,(x,v)∉binds)->aaZ kindOf binds m x=m x
 |[],_,_=>rfl|(n,v)::r,m,h=>by
  unfold aaZ;rw[NQ λw hw=>h w<|bi _ hw];split
  .rfl
  .have:x≠n:=by rintro rfl;exact h v e9
   simp[this]
theorem NR{kindOf:Str->Option NameKind}{x:Str}{v:bd}:∀{j:List Str}{l:List bd}{i:Nat}{m:Str->Option bd},j.Nodup->j[i]?=Z x->l[i]?=Z v->kindOf x=Z .local->
  aaY kindOf (j.zip l) m x=Z v
 |[],_,_,_,_,h,_,_=>by simp at h|_::_,[],_,_,_,_,h,_=>by simp at h|p::j,w::l,0,m,d,b,c,e=>by
  simp at b c;subst b;subst c;show aaY kindOf ((p,w)::j.zip l) m p=_;unfold aaY;rw[NP λv f=>(f9.mp d).1 (J4 f).1,if_pos e];simp
 |p::j,w::l,i+1,m,d,b,c,e=>by
  show aaY kindOf ((p,w)::j.zip l) m x=_;unfold aaY;exact NR (i:=i) (f9.mp d).2 (GE b) (GE c) e
theorem NS{kindOf:Str->Option NameKind}{x:Str}{v:bd}:∀{j:List Str}{l:List bd}{i:Nat}{m:Str->Option bd},j.Nodup->j[i]?=Z x->l[i]?=Z v->kindOf x≠Z .local->
  aaZ kindOf (j.zip l) m x=Z v
 |[],_,_,_,_,h,_,_=>by simp at h|_::_,[],_,_,_,_,h,_=>by simp at h|p::j,w::l,0,m,d,b,c,e=>by
  simp at b c;subst b;subst c;show aaZ kindOf ((p,w)::j.zip l) m p=_;unfold aaZ;rw[NQ λv f=>(f9.mp d).1 (J4 f).1,if_neg e];simp
 |p::j,w::l,i+1,m,d,b,c,e=>by
  show aaZ kindOf ((p,w)::j.zip l) m x=_;unfold aaZ;exact NS (i:=i) (f9.mp d).2 (GE b) (GE c) e
def start(N:List Str)(a:List V):St:=a.map Z++List.replicate (N.length-a.length) ν
def SR(CX:SQ)(P:m8)(w:q3)(K:yd)(mg:Str->Option bd)(base:Heap)(N:List Str)(qual:Str)(scope:Scope)(f:Addr)(cd:bd)(A:i8)(outer:List Env)(s:d6)(H:Hp)(E:XK):Cx where
 prog:=P
 w:=w
 K:=K
 mg:=mg
 base:=base
 A:=A.deeper (Op qual scope s.heap.objs.size f cd)
 N:=N
 s₀:=s
 H₀:=H
 env:=Op qual scope s.heap.objs.size f cd
 outer:=outer
 stack:=Op qual scope s.heap.objs.size f cd::outer
 ex:=[]
 calm:=true
 fn:=λ_=>true
 pn:=[]
 xe:=λe s'=>im (j1 P w) (A.deeper (Op qual scope s.heap.objs.size f cd)) (leaving (Op qual scope s.heap.objs.size f cd) e) (λ_ lb=>CX outer H s E e lb) (λe' lb=>CX outer H s E e' lb) s'
theorem QU{a:Scope}(h:a.names.lookup x=Z .cell):∃c,(A2 n a.names []).lookup x=Z c:=by
 have q:=Q1 a.names n []<|.inl h;exact gt.mp q
variable{scope:Scope}
theorem Va{j:List Str}{qual:Str}{f:Addr}{C:bd}{A:i8}{outer:List Env}{I:d6}{E:XK}{G:List bd}{l:List V}(S:LK N j scope)(M:A.handled=ν)(g:aF P w K mg base A outer s H)(T:l.length=j.length)(r:Vals l G)(x:InCallC s s.heap.objs.size (aaY (Op qual scope s.heap.objs.size f C).kindOf (j.zip G) λ_=>ν) (A2 (s.heap.objs.size+1) scope.names []) (aaZ (Op qual scope s.heap.objs.size f C).kindOf (j.zip G) λ_=>ν) I):
  Inv (SR CX P w K mg base N qual scope f C A outer s H E) [] (start N l) H I:=by
 have O:j.length<=N.length:=by have:=congrArg ww S.pre;rw[n6]at this;lia
 obtain⟨D,U,rfl,J⟩:=x.done;have m:∀b:Addr,b∉(SR CX P w K mg base N qual scope f C A outer s H E).ex:=λb z=>absurd (show b∈([]:List Addr)from z) z_;refine⟨⟨g.mod,S.kind,W,W,b5 _,λy z c D d=>?_,λy o=>?_,λy c _ h=>?_,λ_=>M,Around.frames_deeper g.frames,.inr ⟨W,W⟩,λb z=>absurd z (m b),g.bs,g.Zt,λb _ _=>m b,λb z=>absurd z (m b),g.Lh,g.gY⟩,
  rfl,g.bare,Un.kept J,⟨_,x.toInCall.ns,λi y v D d X=>?_⟩,λy c h=>⟨_,x.cell y c h⟩,g.Bi.fresh (b5 _),λy c h=>?_,λp t=>absurd (show p∈([]:List (Addr×Obj))from t) z_,g.Bi.kept J,?_⟩
 .exact name_of_addr x.apart (o0 D)<|o0 d
 .have o:scope.names.lookup y=Z .cell∨scope.names.lookup y=Z .free:=o;rcases o with o|o
  .exact QU o
  .exact absurd W<|S.df _<|o0 o
 .exact jp<|x.above y c<|o0 h
 .have F:i<l.length:=by
   unfold start at d;by_cases F:i<l.length
   .exact F
   .rw[ii<|GE F]at d;rw[List.getElem?_replicate]at d;split at d<;>cases d
  have Q:l[i]?=Z v:=by
   unfold start at d;rw[i4<|GE F,f8]at d;cases e:l[i]? with
   |none=>rw[e]at d;cases d|some a=>rw[e]at d;cases d;rfl
  obtain⟨u,L,R⟩:=r.get Q;have t:j[i]?=Z y:=by
   rw[<-S.pre,zq y_];exact D
  have B:j.Nodup:=by rw[<-S.pre];exact S.nd.sublist<|List.take_sublist _ _
  refine⟨u,R,?_⟩;rcases S.par y (yc t)with k|k
  .exact .inl ⟨k,NR B t L k⟩
  .obtain⟨c,e⟩:=QU (n:=s.heap.objs.size+1) k;refine .inr ⟨.inl k,c,e,?_⟩;have q:=x.cell y c e;rw[NS B t L<|by show scope.names.lookup y≠_;rw[k];decide]at q;exact q
 .exact g.Bi.fresh<|jp<|x.above y c<|o0 h
 .unfold start;show _=N.length;rw[d7,be,List.length_replicate];lia
theorem iP{k:Nat}{f:Addr}{name qual:Str}{params:Arguments}{L kV doc M a ct U:bd}{O X:Option Addr}{z:Array (Option bd)}{p:List Str}(lk:K.lookup f=Z ⟨U,X,.func (y6 name qual params body scope L kV doc M O a ct),z⟩)(B:E1 K a qual=true)(S:LK N p scope)(len:∀c H Q E,sp c H Q E->c.length=p.length)(h:∀(A:i8) (outer:List Env) (s:d6) (H:Hp) (c:List V) (Q:VK) (E:XK),CD k (A.deeper (Op qual scope s.heap.objs.size f a))->sp c H Q E->
   ∃t,OZ (SR CX P w K mg base N qual scope f a A outer s H E) body t/\t {nx:=λ_ g=>Q .Al g,rt:=Q} (start N c) H):
  BA P w K mg base CX (k+1) f (y6 name qual params body scope L kV doc M O a ct) p sp:=by
 refine⟨len,λA outer s H args Y c Q E C l ζ r m=>?_⟩;have hl:=len _ _ _ _ m;have R:K.In s.heap:=l.mod.lT.keeps λb o e=>(l.bs b o e).1;have D:s.heap.NoLimit:=l.mod.nolimit.keeps λb o e=>(l.bs b o e).1;have i:∀y∈p.zip Y,scope.names.lookup y.1=Z .local∨(scope.names.lookup y.1=Z .cell/\((A2 (s.heap.objs.size+1) scope.names []).lookup y.1).isSome=true):=λ⟨n,v⟩ hy=>by
  rcases S.par n (J4 hy).1 with q|q
  .exact .inl q
  .exact .inr ⟨q,Q1 _ _ _<|.inl q⟩
 refine codeAny_call_function C.depth (R _ _ lk) W S.co S.gen W (PySem.W.codeRec_of R B)<|ζ _ _ _ _ ?_;refine wpAny_newFunctionEnv_cells S.kind i λenv he T x=>?_;subst he;refine⟨D.keeps x.toInCall.keep,codeAny_func ?_⟩;obtain⟨t,ht,hq⟩:=h A outer s H c Q E (C.deeper _) m;have I:Inv (SR CX P w K mg base N qual scope f a A outer s H E) [] (start N c) H T:=Va S C.hd l hl r x;refine y3 (ht [] T (start N c) H _ I hq) (λfl F j=>?_) λe F j=>j;have fin:∀{d:St}{g:Hp}{v:V}{u:bd},Inv (SR CX P w K mg base N qual scope f a A outer s H E) [] d g F->RelV v u->Q v g->CE outer P w H s Q u F:=
  λ{d g v u} J G q=>⟨v,g,J.os,J.bare,J.base,J.Bi,G,q⟩
 cases fl with
 |ret u=>
  obtain⟨v,d,g,J,G,q⟩:=j;exact fin J G q
 |next=>
  obtain⟨d,g,J,q⟩:=j;exact fin (v:=V.Al) (u:=u0) J W q
 |brk=>
  obtain⟨_,_,_,q⟩:=j;exact zo q
 |cont=>
  obtain⟨_,_,_,q⟩:=j;exact zo q
section
variable {t:TA} {id T:String} {r:List V->Hp->VK->Prop}
def lg(r:List V->Hp->VK->Prop)(t:TA):TE:=λa H Q=>t a H λb c=>r b c Q
theorem Ct(d:Dx X (.builtin id) r)(f:Gl X x)(g:X.mg x=ν)(i:q7 x=Z (.builtin id))(j:PA X (e::es) t)(k:x≠"__name__":=by decide)(a:(x==("__debug__":Str))=false:=by decide)(l:m7 (e::es) X.env=(false,y9 e X.env)::m7 es X.env:=by rfl)(b:(FM pos (m7 es X.env)).any (·.1)=false:=by rfl):PE X (.Call (.Name x p) (e::es) [] pos) (lg r t):=by
 intro pins s c H Q I h;refine C7<|IP I f g i ?_ k a;exact aaF (CF (j pos pins s c H _ I h) λm n o=>o.elim λq u v w y=>d pins n c u q m Q v w y) l b
theorem Cz(d:Dx X (.type T) r)(f:Gl X x)(g:X.mg x=ν)(i:q7 x=Z (.type T))(j:PA X (e::es) t)(k:x≠"__name__":=by decide)(a:(x==("__debug__":Str))=false:=by decide)(l:m7 (e::es) X.env=(false,y9 e X.env)::m7 es X.env:=by rfl)(b:(FM pos (m7 es X.env)).any (·.1)=false:=by rfl):PE X (.Call (.Name x p) (e::es) [] pos) (lg r t):=by
 intro pins s c H Q I h;refine C7<|IP I f g i ?_ k a;exact x6 (CF (j pos pins s c H _ I h) λm n o=>o.elim λq u v w y=>d pins n c u q m Q v w y) l b
end
end L2
namespace HT
open PySem PyProof.Rows
variable{Q:bd->d6->Prop}
section
variable{prog:m8} {w:q3} {A:i8} {E:bd->d6->Prop} {s:d6}
theorem aH{t b:Addr}{c ws:List bd}(u:aaa s.heap t c.toArray)(v:aaa s.heap b ws.toArray)(k:c≠[])(x:ws=[]->Q (.ref t) s)(y:ws≠[]->Q (.ref s.heap.objs.size) {s with heap:=s.heap.push {cls:=.type "tuple",data:=.seq (c++ws).toArray}})(j:c.length+ws.length<=sizeLine):im (j1 prog w) A (zW .Add (.ref t) (.ref b)) Q E s:=by
 obtain⟨⟨cls,l,data,m⟩,i,o,n,p⟩:=id u;obtain⟨⟨q,d,data2,f⟩,a,g,r,h⟩:=id v;simp only at o p g h;subst o p g h;have e:c.toArray++ws.toArray=(c++ws).toArray:=by simp
 by_cases hw:ws=[]
 .exact aac ⟨_,i,W⟩ ⟨_,a,W⟩ O8 W6 E6 D4 (Ch _ _) (tuple_addW1 t b c.toArray ws.toArray n r l d m f (GE k)<|by simp[hw]) ⟨i,a,x hw⟩
 .refine aac ⟨_,i,W⟩ ⟨_,a,W⟩ O8 W6 E6 D4 (Ch _ _) (tuple_addW2 t b c.toArray ws.toArray n r l d m f (GE k) (GE hw)<|by rw[b6,b6];exact j) ⟨i,a,?_⟩;rw[e];exact y hw
noncomputable def Ci(n d:Nat):Option Int->Nat
 |none=>d|some v=>if v<0 then(v+(n:Int)).toNat else min v.toNat n
theorem QV(n d:Nat):Ci n d ν=d:=rfl
theorem Tw(n d k:Nat):Ci n d (Z (k:Int))=min k n:=by
 show(if(k:Int)<0 then((k:Int)+(n:Int)).toNat else min (k:Int).toNat n)=min k n;rw[if_neg y_,i6]
theorem dh(n d:Nat)(b:d<=n)(o:Option Int):Ci n d o<=n:=by
 cases o with
 |none=>exact b|some v=>
  show(if v<0 then(v+(n:Int)).toNat else min v.toNat n)<=n;by_cases a:v<0
  .rw[if_pos a];lia
  .rw[if_neg a];exact A8 _ _
theorem Tx(v:Int)(n d:Nat):(if v<0 then max (v+(n:Int)) 0 else min v (n:Int))=((Ci n d (Z v):Nat):Int):=by
 show(if v<0 then max (v+(n:Int)) 0 else min v (n:Int))=(((if v<0 then(v+(n:Int)).toNat else min v.toNat n):Nat):Int);by_cases a:v<0
 .simp only[if_pos a];exact(aaC _).symm
 .simp only[if_neg a];obtain⟨m,rfl⟩:=zB<|acj.mp a;show min (m:Int) (n:Int)=((min m n:Nat):Int);by_cases h:m<=n
  .rw[zM h,Re<|y8.mpr h]
  .rw[F7<|G0 h,aaD<|y8.mpr<|G0 h]
theorem SS(lo a:Option Int)(n:Nat):B2 lo a 1 (n:Int)=(((Ci n 0 lo:Nat):Int),((Ci n n a:Nat):Int)):=by
 have b:¬((1:Int)<0):=by lia
 unfold B2;simp only[b,if_false];refine Prod.ext ?_ ?_
 .cases lo with
  |none=>rfl|some v=>exact Tx v n 0
 .cases a with
  |none=>rfl|some v=>exact Tx v n n
theorem SU(i j:Nat):zg (i:Int) (j:Int) 1=j-i:=by
 unfold zg;have a:(1:Int)>0:=by lia
 simp only[a,if_true,abR];split<;>lia
theorem Lo{v:bd}{o:Option Int}{Q:Option Int->d6->Prop}(p:P6 v o)(h:Q o s):im (j1 prog w) A (aaW v) Q E s:=by
 cases p with
 |none=>exact abc h|int i t=>exact slicePart_int h
theorem GP{f:Addr}{d e:bd}{lo a:Option Int}{n:Nat}{Q:Int×Int×Nat->d6->Prop}(g:s.heap.IsSliceOf f d e .none)(i:P6 d lo)(j:P6 e a)(h:Q (((Ci n 0 lo:Nat):Int),1,Ci n n a-Ci n 0 lo) s):im (j1 prog w) A (M6 (.ref f) (pure (n:Int))) Q E s:=by
 obtain⟨os,b,k,c⟩:=id g;unfold M6 abm;refine ap<|ap<|D1 b c (x:=d) W<|ap<|D1 b c (x:=e) W<|ap<|D1 b c (x:=.none) W<|e7 ?_;refine ap<|abc ?_;show im _ _ (if((1:Int)==0)=true then _ else _) _ _ s;rw[if_neg ac];refine ap<|Lo i<|ap<|Lo j<|ap<|e7 ?_;show im _ _ (match B2 lo a 1 (n:Int)with|(lo,a)=>pure (lo,(1:Int),zg lo a 1)) _ _ s;rw[SS lo a n];show im _ _ (pure (((Ci n 0 lo:Nat):Int),(1:Int),zg ((Ci n 0 lo:Nat):Int) ((Ci n n a:Nat):Int) 1)) _ _ s;rw[SU];exact e7 h
theorem XJ(xs:Array bd)(i k:Nat):((pu k).filterMap λ(m:Nat)=>xs[((i:Int)+(m:Int)*1).toNat]?).toArray=((xs.toList.drop i).take k).toArray:=by
 have e:(λ(m:Nat)=>xs[((i:Int)+(m:Int)*1).toNat]?)=λm=>xs[i+m]?:=by
  funext m;have:((i:Int)+(m:Int)*1).toNat=i+m:=by lia
  rw[this]
 rw[e];have:=pick_run xs i k;rw[Z0]at this;have a:((λx=>xs[x]?)∘λx=>i+x)=λm=>xs[i+m]?:=rfl;rw[a]at this;rw[this]
theorem Iy{t d:Addr}{items:Array bd}{i j:bd}{lo b:Option Int}(c:aaa s.heap t items)(k:s.heap.IsSliceOf d i j .none)(l:P6 i lo)(n:P6 j b)(hw:¬(Ci items.size 0 lo=0/\Ci items.size items.size b=items.size))(h:Q (.ref s.heap.objs.size) {s with heap:=s.heap.push {cls:=.type "tuple",data:=.seq ((items.toList.drop (Ci items.size 0 lo)).take (Ci items.size items.size b-Ci items.size 0 lo)).toArray}})(o:items.size<=sizeLine):im (j1 prog w) A (K3 (.ref t) (.ref d)) Q E s:=by
 have a:sizeOk (.seq ((items.toList.drop<|Ci items.size 0 lo).take<|Ci items.size items.size b-Ci items.size 0 lo).toArray):=by
  show((items.toList.drop<|Ci items.size 0 lo).take<|Ci items.size items.size b-Ci items.size 0 lo).toArray.size<=sizeLine;rw[b6,n6,t8,q4];lia
 have r:Ci items.size items.size b<=items.size:=dh _ _ (b5 _) b;obtain⟨os,e,f,p⟩:=id k;have g:s.TypeIs (.ref d) "slice":=⟨os,e,f⟩;unfold K3
 try with_reducible refine u9 ?_
 first|refine ap (e7 ?_)|skip
 refine ap<|aag c.typeIs ac ?_;refine ap<|zy (name:=Str.ofString "__getitem__") c.typeIs sB<|xL sB c.typeIs W0 ?_<|X9 _ _;show im _ _ (M4 (.ref t)>>=_) _ _ s;refine ap<|abn c ?_;refine ap<|EQ g ?_;rw[if_pos ac];refine ap<|GP k l n ?_;have Vb:¬((((Ci items.size 0 lo:Nat):Int)==0&&(1:Int)==1&&(Ci items.size items.size b-Ci items.size 0 lo)==items.size)=true):=by
  intro q;rw[g9,g9]at q;have u:((Ci items.size 0 lo:Nat):Int)=0:=eq_of_beq q.1.1;have v:Ci items.size items.size b-Ci items.size 0 lo=items.size:=eq_of_beq q.2;exact hw ⟨y_,y_⟩
 show im _ _ (if(((Ci items.size 0 lo:Nat):Int)==0&&(1:Int)==1&&(Ci items.size items.size b-Ci items.size 0 lo)==items.size)=true then _ else _) _ _ s;rw[if_neg Vb,XJ]
 first
  |exact ap (m:=zr _) (yf (e7 ⟨_,rfl,e7 h⟩) a)
  |exact ap (m:=zr _) (yf (ap (e7 (e7 ⟨_,rfl,e7 h⟩))) a)
  |exact ap (ap (m:=zr _) (yf (e7 (e7 ⟨_,rfl,e7 h⟩)) a))
  |exact ap (ap (m:=zr _) (yf (e7 ⟨_,rfl,e7 h⟩) a))
end
end HT
namespace L2
open PySem PySem.Spec PyProof.Rows
abbrev TO:=St->Hp->(Option Int->Hp->Prop)->Prop
def PO(X:Cx)(e:Option r6)(t:TO):Prop:=
 ∀(pins:List (Addr×Obj))(s:d6)(a:St)(H:Hp)(Q:Option Int->Hp->Prop),Inv X pins a H s->t a H Q->
  im (j1 X.prog X.w) X.A (evalPart e X.env) (λu c=>∃o b,Inv X pins a b c/\P6 u o/\Q o b) X.xe s
def aI:TO:=λ_ H Q=>Q ν H
def iQ(t:TE):TO:=λa H Q=>t a H λx b=>ub x b Q
variable{X:Cx}{pos:Pos}{a:List bd}{e:r6}
section
variable {te:TE} {lo hi:Option r6} {tl th:TO} {p2:Pos}
theorem Az:PO X ν aI:=by
 intro pins s a H Q I h;rw[abr];exact e7 ⟨ν,H,I,.none,h⟩
theorem Aw(h:PE X e te):PO X (Z e) (iQ te):=by
 intro pins s a H Q I hw;rw[evalPart_some];refine CF (h pins s a H _ I hw) λu j b=>b.elim λx c d f g=>?_;obtain⟨i,rfl,q⟩:=g;obtain⟨t,rfl⟩:=f;exact⟨Z i,c,d,.int i t,q⟩
def iR(X:Cx)(r:V->Option Int->Option Int->Hp->VK->Prop):Prop:=
 ∀(pins:List (Addr×Obj))(s:d6)(a:St)(H:Hp)(x:V)(v b c:bd)(lo hi:Option Int)(d:Addr)(Q:VK),Inv X pins a H s->RelV x v->s.heap.IsSliceOf d b c .none->P6 b lo->P6 c hi->r x lo hi H Q->
  ∃T id,aa4 (.type T) "__getitem__"=pure (Z (.builtin id))/\s.TypeIs v T/\im (j1 X.prog X.w) X.A (K3 v (.ref d)) (EP X pins a Q) X.xe s
def um(r:V->Option Int->Option Int->Hp->VK->Prop)(te:TE)(tl th:TO):TE:=λa H Q=>te a H λx b=>tl a b λl c=>th a c λu d=>r x l u d Q
theorem Ai{r:V->Option Int->Option Int->Hp->VK->Prop}(i:iR X r)(j:PE X e te)(k:PO X lo tl)(m:PO X hi th):PE X (.Subscript e (.Slice lo hi ν p2) pos) (um r te tl th):=by
 intro pins s c H Q I h;refine aa7 (CF (j pins s c H _ I h) λv n o=>o.elim λx p t y z=>?_);refine wpAny_Slice (CF (k pins n c p _ t z) λd B ⟨l,C,D,E,F⟩=>CF (m pins B c C _ D F) λf a ⟨u,g,G,J,L⟩=>?_);rw[abr];refine e7 ?_;have M:Inv X pins c g {a with heap:=a.heap.push {cls:=.type "slice",data:=.fields #[d,f,.none]}}:=G.kept (t':=a.toks) λb R q=>d0 _ q;obtain⟨T,id,N,O,P⟩:=i pins {a with heap:=a.heap.push {cls:=.type "slice",data:=.fields #[d,f,.none]}} c g x v d f l u a.heap.objs.size Q M y (Heap.IsSliceOf.new ..) E J L;show im (j1 X.prog X.w) X.A (W5 e (.Slice lo hi ν p2) v<|.ref a.heap.objs.size) (EP X pins c Q) X.xe {a with heap:=a.heap.push {cls:=.type "slice",data:=.fields #[d,f,.none]}};exact tail_any (ops:=[.ref a.heap.objs.size,v]) O N P<|by with_unfolding_all rfl
def Gj(xs:List V)(lo hi:Option Int):List V:=(xs.drop<|HT.Ci xs.length 0 lo).take<|HT.Ci xs.length xs.length hi-HT.Ci xs.length 0 lo
theorem KY(xs:List V)(lo hi:Option Int):(Gj xs lo hi).length<=xs.length:=by
 unfold Gj;rw[n6,t8];lia
inductive iS(K:yd)(x:V)(lo hi:Option Int)(H:Hp)(Q:VK):Prop|mk(a xs:_)(b:x=.ref a)(c:Ae K H a xs)(d:¬(HT.Ci xs.length 0 lo=0/\HT.Ci xs.length xs.length hi=xs.length))(f:∀p,H p=ν->Q (.ref p) (upd H p (.tup (Gj xs lo hi))))
def oE(K:yd):V->Option Int->Option Int->Hp->VK->Prop:=λx lo hi H Q=>iS K x lo hi H Q
theorem di:iR X (oE X.K):=by
 intro pins s n H x v p t lo hi u Q I i j k l h;obtain⟨a,c,rfl,m,hw,q⟩:=h;cases i;obtain⟨d,r,f,g⟩:=I.tuple m;have hlen:d.toArray.size=c.length:=by rw[b6];exact r.length.symm
 refine⟨"tuple",_,sB.lookup,f.typeIs,?_⟩;refine HT.Iy f j k l (by rw[hlen];exact hw) ?_ (by rw[hlen];exact g);rw[hlen];refine⟨.ref s.heap.objs.size,_,I.laid (t':=s.toks) (o:=.tup<|Gj c lo hi) (λb w q=>d0 _ q) (b5 _) ?_,W,q _<|I.Bi.fresh<|b5 _⟩;exact⟨al (KY c lo hi) g,_,(r.drop<|HT.Ci c.length 0 lo).take<|HT.Ci c.length c.length hi-HT.Ci c.length 0 lo,IsTup.new _ _⟩
inductive dj(K:yd)(x y:V)(H:Hp)(Q:VK):Prop|mk(a b xs ys:_)(c:x=.ref a)(d:y=.ref b)(f:Ae K H a xs)(g:Ae K H b ys)(h:xs≠[])(i:xs.length+ys.length<=sizeLine)(j:(ys=[]->Q (.ref a) H))(k:(ys≠[]->∀p,H p=ν->Q (.ref p) (upd H p (.tup (xs++ys)))))
def iT(K:yd):R2:=λx y H Q=>dj K x y H Q
theorem Vals.LM{xs:List V}(r:Vals xs a):a=[]↔xs=[]:=by
 cases r with
 |nil=>simp|cons _ _=>simp
theorem aJ:EN X (zW .Add) (iT X.K):=by
 intro pins s C H x y v u Q I i j h;obtain⟨a,b,k,l,rfl,rfl,m,n,p,f,r,t⟩:=h;cases i;cases j;obtain⟨A,d,B,_⟩:=I.tuple m;obtain⟨g,c,p2,_⟩:=I.tuple n;refine HT.aH B p2 (λz=>p<|d.LM.mp z) (λz=>⟨.ref a,H,I,W,r<|c.LM.mp z⟩) (λz=>?_) (by rw[<-d.length,<-c.length];exact f);refine⟨.ref s.heap.objs.size,_,I.laid (t':=s.toks) (o:=.tup<|k++l) (λb D q=>d0 _ q) (b5 _) ?_,W,t (λw=>z<|c.LM.mpr w) _<|I.Bi.fresh<|b5 _⟩;exact⟨by rw[d7];exact f,_,d.append c,IsTup.new _ _⟩
end
def QW(n:Nat)(i:Int):Option Nat:=if 0<=i then(if i<n then Z i.toNat else ν)else if-(n:Int)<=i then Z (i+n).toNat else ν
def QX{a:Type}(xs:List a)(i:Int):Option a:=(QW xs.length i).bind λj=>xs[j]?
variable{n:Nat}
theorem LN{i:Int}{j:Nat}(h:QW n i=Z j):abH i n=Z j/\j<n/\ -(n:Int)<=i/\i<n:=by
 unfold QW at h;by_cases b:0<=i
 .rw[if_pos b]at h;by_cases a:i<n
  .rw[if_pos a]at h;have e:i.toNat=j:=yb h;exact⟨by rw[aaH b a,e],y_,y_,a⟩
  .rw[if_neg a]at h;cases h
 .rw[if_neg b]at h;by_cases a: -(n:Int)<=i
  .rw[if_pos a]at h;have e:(i+n).toNat=j:=yb h;exact⟨by rw[aab y_ a,e],y_,a,y_⟩
  .rw[if_neg a]at h;cases h
theorem Iz{a:Type}{xs:List a}{i:Int}{v:a}(h:QX xs i=Z v):∃j,abH i xs.length=Z j/\xs[j]?=Z v/\j<xs.length/\ -(xs.length:Int)<=i/\i<xs.length:=by
 unfold QX at h;cases e:QW xs.length i with
 |none=>rw[e]at h;cases h|some j=>
  rw[e]at h;obtain⟨b,c,d,f⟩:=LN e;exact⟨j,b,h,c,d,f⟩
theorem Ba{a:Type}{xs:List a}{j:Nat}{v:a}(h:xs[j]?=Z v):QX xs (j:Int)=Z v:=by
 have b:j<xs.length:=(ya h).1;have e:QW xs.length (j:Int)=Z j:=by
  unfold QW;rw[if_pos y_,if_pos y_];simp
 unfold QX;rw[e];exact h
theorem BS{a:Type}(xs:List a)(v:a):QX (xs++[v]) (-1)=Z v:=by
 have b:(xs++[v]).length=xs.length+1:=by simp
 have e:QW (xs++[v]).length (-1)=Z xs.length:=by
  unfold QW;rw[b,if_neg ac,if_pos y_];congr 1;lia
 unfold QX;rw[e];show(xs++[v])[xs.length]?=Z v;simp
def Tz(b:r6):Prop:=∀o i,Uf b false o i=operate [o,i] (K3 o i)
def l_(X:Cx)(r:R2):Prop:=
 ∀(value slice:r6)(pins:List (Addr×Obj))(s:d6)(a:St)(H:Hp)(x y:V)(v u:bd)(Q:VK),Inv X pins a H s->RelV x v->RelV y u->r x y H Q->
  Uf slice false v u=operate [v,u] (K3 v u)->im (j1 X.prog X.w) X.A (W5 value slice v u) (EP X pins a Q) X.xe s
def oF(X:Cx)(id:String)(r:V->List V->Hp->VK->Prop):Prop:=
 ∀(pins:List (Addr×Obj))(s:d6)(a:St)(H:Hp)(x:V)(b:List V)(v:bd)(c:List bd)(Q:VK),Inv X pins a H s->RelV x v->Vals b c->r x b H Q->
  im (j1 X.prog X.w) X.A (call (.builtin id) (v::c)) (EP X pins a Q) X.xe s
variable{pins:List (Addr×Obj)}{s:d6}{H:Hp}{u:bd}{σ:St}{y x:V}{its:List bd}{T:String}
section
variable {a b:r6} {ta tb:TE} 
theorem CS{r:R2}(c:l_ X r)(d:PE X a ta)(e:PE X b tb)(f:Tz b):PE X (.Subscript a b pos) (Zu r ta tb):=by
 intro pins s g H Q I h;exact aa7<|dY d e I h λv u i x y j k l m q=>c a b pins i g j x y v u Q k l m q<|f _ _
inductive iU(K:yd)(x y:V)(H:Hp)(Q:VK):Prop|mk(p xs i v:_)(c:x=.ref p)(d:y=.int i)(e:Ax K H p xs)(f:QX xs i=Z v)(g:Q v H)
def iV(K:yd):R2:=λx y H Q=>iU K x y H Q
inductive iW(K:yd)(x y:V)(H:Hp)(Q:VK):Prop|mk(p xs i v:_)(c:x=.ref p)(d:y=.int i)(e:Ae K H p xs)(f:QX xs i=Z v)(g:Q v H)
def Dz(K:yd):R2:=λx y H Q=>iW K x y H Q
inductive iX(x y:V)(H:Hp)(Q:VK):Prop|mk(z i c:_)(d:x=.str z)(e:y=.int i)(f:z.length<=sizeLine)(g:QX z.cps.toList i=Z c)(h:Q (.str ⟨#[c]⟩) H)
def oG:R2:=λx y H Q=>iX x y H Q
theorem aK:l_ X (iV X.K):=by
 intro value slice pins s k H x y v u Q I o A h l;obtain⟨p,L,i,z,rfl,rfl,B,C,q⟩:=h;cases o;obtain⟨t,rfl⟩:=A;obtain⟨d,r,e,M⟩:=I.list B;obtain⟨j,c,D,N,E,F⟩:=Iz C;obtain⟨w,m,f⟩:=r.get D;have G:=r.length;have O:=IQ;have fin:EP X pins k Q w s:=⟨z,H,I,f,q⟩;by_cases n:0<=i
 .have g:i.toNat=j:=by
   rw[aaH n F]at c;exact yb c
  exact item_listR e.isList n y_ (by rw[g];simpa using m) fin l
 .have g:(i+(d.toArray.size:Int)).toNat=j:=by
   rw[aab y_ E]at c;rw[b6,<-G];exact yb c
  exact P9 (x:=w) e.isList.typeIs aak.lookup (wpAny_getItem_list_neg (Q:=λr J=>r=w/\EP X pins k Q r J) e.isList y_ (by rw[b6]<;>lia) y_ (by rw[g];simpa using m) ⟨W,fin⟩) l
theorem Bj:l_ X (Dz X.K):=by
 intro value slice pins s d H x y v u Q I f g h k;obtain⟨p,E,i,z,rfl,rfl,l,m,q⟩:=h;cases f;obtain⟨t,rfl⟩:=g;obtain⟨n,r,e,F⟩:=I.tuple l;obtain⟨j,o,A,G,J,L⟩:=Iz m;obtain⟨w,B,c⟩:=r.get A;have C:=r.length;have M:=IQ;have fin:EP X pins d Q w s:=⟨z,H,I,c,q⟩;exact P9 (x:=w) e.typeIs slot_tuple_getitem.lookup (getItem_tuple (j:=j) (Q:=λr D=>r=w/\EP X pins d Q r D) e y_ y_ (by rw[b6,<-C];exact o) (GE B) ⟨W,fin⟩) k
theorem XM:l_ X oG:=by
 intro value slice pins s w H x y v u Q I e f h g;obtain⟨z,i,c,rfl,rfl,A,k,q⟩:=h;obtain⟨t,rfl⟩:=e;obtain⟨B,rfl⟩:=f;obtain⟨j,d,l,C,m,n⟩:=Iz k;have o:z.cps.toList.length=z.length:=by simp[Str.length]
 rw[o]at d m n;have D:=IQ;exact tail_any (zX s z t) slot_str_getitem.lookup (getItem_str (c:=c) (by
  have p:decide (i< -(2 ^ 63:Int))=false:=decide_eq_false y_;have r:decide (i≥2 ^ 63)=false:=decide_eq_false y_;rw[p,r,Bool.or_false]) (by rw[d];simpa using l) ⟨.str ⟨#[c]⟩,H,I.tok _,⟨_,W⟩,q⟩) g
theorem SV(its:List bd)(n j:Nat)(u:bd):Obj.mapSeq (·.setIfInBounds j u) {cls:=.type "list",data:=.seq its.toArray n}={cls:=.type "list",data:=.seq (its.set j u).toArray n}:=by
 simp[Obj.mapSeq]
theorem Inv.lst{pins:List (Addr×Obj)}{σ:St}{H:Hp}{s:d6}{p:Addr}{xs:List V}(I:Inv X pins σ H s)(h:H p=Z (.lst xs)):
  ∃(its:List bd)(n:Nat),Vals xs its/\s.heap.get? p=Z {cls:=.type "list",data:=.seq its.toArray n}/\xs.length<=sizeLine:=by
 obtain⟨z,its,n,r,e⟩:=I.Bi p _ h;exact⟨its,n,r,e,z⟩
theorem Inv.dm{p:Addr}{xs ys:List V}{its':List bd}{c:Nat}{f:Obj->Obj}(I:Inv X pins σ H s)(h:H p=Z (.lst xs))(g:s.heap.get? p=Z {cls:=.type "list",data:=.seq its.toArray n})(d:f {cls:=.type "list",data:=.seq its.toArray n}={cls:=.type "list",data:=.seq its'.toArray c})(r:Vals ys its')(i:ys.length<=sizeLine)(t:Nat):
  Inv X pins σ (upd H p (.lst ys)) {s with heap:=s.heap.update p f,toks:=t}:=by
 have e:(s.heap.update p f).get? p=Z {cls:=.type "list",data:=.seq its'.toArray c}:=by
  rw[TW f g<|by rw[d]<;>rfl,d]
 refine I.write (x:=p) (e:=p) (by rw[h];trivial) (.inl W) (λb u j q=>(Q4 _ _<|u8 j).trans q) ⟨_,e⟩ ?_;exact⟨i,its',c,r,e⟩
inductive dq(o i v:V)(H:Hp)(Q:(Hp->Prop)):Prop|mk(p xs k j:_)(c:o=.ref p)(d:i=.int k)(e:H p=Z (.lst xs))(f:QW xs.length k=Z j)(g:Q (upd H p (.lst (xs.set j v))))
def iY:V->V->V->Hp->(Hp->Prop)->Prop:=λo i v H Q=>dq o i v H Q
theorem set_list:iC X iY:=by
 intro pins s z H o i v ov G u Q I A B C h;obtain⟨p,D,k,j,rfl,rfl,l,E,q⟩:=h;cases A;obtain⟨t,rfl⟩:=B;obtain⟨c,n,r,e,F⟩:=I.lst l;obtain⟨d,J,m,w⟩:=LN E;have f:=r.length;have L:=IQ;have x:Inv X pins z (upd H p<|.lst<|D.set j v) {s with heap:=s.heap.update p (Obj.mapSeq (·.setIfInBounds j u))}:=
  I.dm l e (SV c n j u) (r.set C j) (by rw[wT];exact F) s.toks
 by_cases y:0<=k
 .have g:k.toNat=j:=by
   rw[aaH y w]at d;exact yb d
  exact PySem.W.ki_setAt e y y_ (by rw[b6,<-f];exact w)<|by rw[g];exact⟨_,x,q⟩
 .have g:(k+(c.toArray.size:Int)).toNat=j:=by
   rw[aab y_ m]at d;rw[b6,<-f];exact yb d
  exact PySem.W.ki_setBack e y_ (by rw[b6,<-f];exact m) y_<|by rw[g];exact⟨_,x,q⟩
theorem Oj(lo c:Option Int)(n:Nat):(D2 lo c ν n).1=((HT.Ci n 0 lo:Nat):Int)/\(D2 lo c ν n).2.1=((HT.Ci n n c:Nat):Int)/\(D2 lo c ν n).2.2=1:=by
 refine⟨?_,?_,W⟩
 .cases lo with
  |none=>simp[D2,HT.Ci]|some i=>
   simp only[D2,HT.Ci,aaz,show(1:Int)>0 by decide,if_true];by_cases h:i<0
   .simp only[h,if_true]<;>lia
   .simp only[h,if_false]<;>lia
 .cases c with
  |none=>simp[D2,HT.Ci]|some i=>
   simp only[D2,HT.Ci,aaz,show(1:Int)>0 by decide,if_true];by_cases h:i<0
   .simp only[h,if_true]<;>lia
   .simp only[h,if_false]<;>lia
theorem NA(its:List bd)(lo c:Option Int):slicePick its.toArray lo c ν=((its.drop (HT.Ci its.length 0 lo)).take (HT.Ci its.length its.length c-HT.Ci its.length 0 lo)).toArray:=by
 obtain⟨d,e,f⟩:=Oj lo c its.toArray.size;unfold slicePick;rw[d,e,f];simp only[sliceRange_one,pick_run,b6]<;>rfl
inductive iZ(K:yd)(x:V)(lo c:Option Int)(H:Hp)(Q:VK):Prop|mk(a xs:_)(d:x=.ref a)(e:Ax K H a xs)(f:Wx H (.lst (Gj xs lo c)) Q)
def du(K:yd):V->Option Int->Option Int->Hp->VK->Prop:=λx lo c H Q=>iZ K x lo c H Q
theorem T_:iR X (du X.K):=by
 intro pins s n H x v p t lo d u Q I f g i j h;obtain⟨a,c,rfl,k,q⟩:=h;cases f;obtain⟨l,r,e,m⟩:=I.list k;have hlen:=r.length;refine⟨"list",_,aak.lookup,e.isList.typeIs,?_⟩;refine wpAny_getItem_list_slice e.isList g i j .none z_ ?_ (by rw[b6]<;>lia);rw[NA,<-hlen];refine⟨.ref s.heap.objs.size,_,I.laid (t':=s.toks) (o:=.lst<|Gj c lo d) (λb w q=>d0 _ q) (b5 _) ?_,W,q _<|I.Bi.fresh<|b5 _⟩;exact⟨al (KY c lo d) m,_,0,(r.drop<|HT.Ci c.length 0 lo).take<|HT.Ci c.length c.length d-HT.Ci c.length 0 lo,i7 _ W⟩
noncomputable def Cj:V->Bool
 | .Al=>true| .bl _=>true| .int _=>true| .str _=>true|_=>false
noncomputable def Kz:V->V->Bool
 | .Al,.Al=>true| .bl a,.bl b=>a==b| .bl a,.int b=>(if a then 1 else 0)==b| .int a,.bl b=>a==(if b then 1 else 0)| .int a,.int b=>a==b| .str a,.str b=>a==b|_,_=>false
theorem Lp{A:i8}{v:bd}(e:RelV y u)(c:RelV x v)(g:Cj y=true)(f:Cj x=true):F5 A s u v (Kz y x):=by
 cases y with
 |Al=>
  cases e;cases x with
  |Al=>cases c;exact C5 _|bl b=>cases c;exact ab2 b|int b=>obtain⟨t,rfl⟩:=c;exact acd b t
  |str b=>obtain⟨t,rfl⟩:=c;exact acc b t
  |_=>exact absurd (show false=true from f) d5
 |bl a=>
  cases e;cases x with
  |Al=>cases c;exact ab3 a|bl b=>cases c;exact ab4 a b|int b=>obtain⟨t,rfl⟩:=c;exact ach a b t
  |str b=>obtain⟨t,rfl⟩:=c;exact acg a b t
  |_=>exact absurd (show false=true from f) d5
 |int a=>
  obtain⟨d,rfl⟩:=e;cases x with
  |Al=>cases c;exact ace a d|bl b=>cases c;exact acf a d b|int b=>obtain⟨t,rfl⟩:=c;exact acq a d b t
  |str b=>obtain⟨t,rfl⟩:=c;exact Y5 a d b t
  |_=>exact absurd (show false=true from f) d5
 |str a=>
  obtain⟨d,rfl⟩:=e;cases x with
  |Al=>cases c;exact aca a d|bl b=>cases c;exact acb a d b|int b=>obtain⟨t,rfl⟩:=c;exact Y0 a d b t
  |str b=>obtain⟨t,rfl⟩:=c;exact aco a d b t
  |_=>exact absurd (show false=true from f) d5
 |_=>exact absurd (show false=true from g) d5
def SW(x:V)(u:bd):Bool:=match u with
 | .none=>Kz .Al x| .bool b=>Kz (.bl b) x| .int i _=>Kz (.int i) x| .str z _=>Kz (.str z) x|_=>false
theorem XN(r:RelV y u)(f:Cj y=true):SW x u=Kz y x:=by
 cases y with
 |Al=>cases r;rfl|bl b=>cases r;rfl|int i=>obtain⟨t,rfl⟩:=r;rfl
 |str z=>obtain⟨t,rfl⟩:=r;rfl
 |_=>exact absurd (show false=true from f) d5
theorem I_{x:V}:∀{xs:List V}{c:List bd},Vals xs c->xs.all Cj=true->c.any (SW x)=xs.any λy=>Kz y x
 |_,_,.nil,_=>rfl|y::xs,u::c,.cons r t,f=>by
  rw[O0,g9]at f;rw[B7,B7,XN r f.1,I_ t f.2]
theorem HU{A:i8}{s:d6}{x:V}{v:bd}(e:RelV x v)(g:Cj x=true):∀{xs:List V}{d:List bd},Vals xs d->xs.all Cj=true->∀u∈d,F5 A s u v (SW x u)
 |_,_,.nil,_=>λu c=>by cases c|y::xs,u::d,.cons r t,f=>λh c=>by
  rw[O0,g9]at f;rcases ce.mp c with rfl|c
  .rw[XN r f.1];exact Lp r e f.1 g
  .exact HU e g t f.2 h c
def DX(x:V)(xs:List V):Bool:=xs.any λy=>Kz y x
inductive oH(K:yd)(c:Bool)(x y:V)(H:Hp)(Q:VK):Prop|mk(p xs:_)(d:y=.ref p)(e:(Ax K H p xs∨Ae K H p xs))(f:Cj x=true)(g:xs.all Cj=true)(h:Q (.bl (if c then !DX x xs else DX x xs)) H)
def SE(K:yd)(c:Bool):R2:=λx y H Q=>oH K c x y H Q
theorem CI:EN X (ut .In) (SE X.K false):=by
 intro pins s k H x y v u Q I f i h;obtain⟨p,l,rfl,d,g,fs,q⟩:=h;cases i;rcases d with d|d
 .obtain⟨c,r,e,j⟩:=I.list d;refine SeqAt.in_listAt (SW x) e.isList (λw hw=>HU f g r fs w<|GE hw) ⟨.bl _,H,I,W,?_⟩;rw[show c.toArray.any (SW x)=c.any (SW x)by simp,I_ r fs];exact q
 .obtain⟨c,r,e,j⟩:=I.tuple d;refine SeqAt.in_tupleAt (SW x) e (λw hw=>HU f g r fs w<|GE hw) ⟨.bl _,H,I,W,?_⟩;rw[show c.toArray.any (SW x)=c.any (SW x)by simp,I_ r fs];exact q
theorem Ol:EN X (ut .NotIn) (SE X.K true):=by
 intro pins s k H x y v u Q I f i h;obtain⟨p,l,rfl,d,g,fs,q⟩:=h;cases i;rcases d with d|d
 .obtain⟨c,r,e,j⟩:=I.list d;refine SeqAt.notIn_listAt (SW x) e.isList (λw hw=>HU f g r fs w<|GE hw) ⟨.bl _,H,I,W,?_⟩;rw[show c.toArray.any (SW x)=c.any (SW x)by simp,I_ r fs];exact q
 .obtain⟨c,r,e,j⟩:=I.tuple d;refine SeqAt.notIn_tupleAt (SW x) e (λw hw=>HU f g r fs w<|GE hw) ⟨.bl _,H,I,W,?_⟩;rw[show c.toArray.any (SW x)=c.any (SW x)by simp,I_ r fs];exact q
inductive K_(K:yd)(xs:List V)(H:Hp)(Q:VK):Prop|mk(p ys:_)(c:xs=[.ref p])(d:(Ax K H p ys∨Ae K H p ys))(e:Q (.int ys.length) H)
def EA(K:yd):List V->Hp->VK->Prop:=λc H Q=>K_ K c H Q
theorem Gk:Dx X (.builtin "len") (EA X.K):=by
 intro pins s k H l m Q I r h;obtain⟨p,g,rfl,c,q⟩:=h;obtain⟨u,rfl,i⟩:=vals1 r;cases i;have n:=IQ;rcases c with c|c
 .obtain⟨d,e,f,j⟩:=I.list c;have hlen:=e.length;exact Calls.call_len_list f.isList (by simp only[b6]<;>lia) ⟨.int g.length,H,I.tok _,⟨s.toks+1,by rw[b6,hlen]⟩,q⟩
 .obtain⟨d,e,f,j⟩:=I.tuple c;have hlen:=e.length;exact len_tuple f (by simp only[b6]<;>lia) ⟨.int g.length,H,I.tok _,⟨s.toks+1,by rw[b6,hlen]⟩,q⟩
inductive K'(K:yd)(xs:List V)(H:Hp)(Q:VK):Prop|mk(p ys:_)(c:xs=[.ref p])(d:(Ax K H p ys∨Ae K H p ys))(e:Wx H (.lst ys) Q)
def Lq(K:yd):List V->Hp->VK->Prop:=λc H Q=>K' K c H Q
theorem JA:Dx X (.type "list") (Lq X.K):=by
 intro pins s z H B C Q I r h;obtain⟨p,l,rfl,i,q⟩:=h;obtain⟨u,rfl,A⟩:=vals1 r;cases A;have fin:∀(c:List bd),Vals l c->l.length<=sizeLine->∀(d:Heap)(f:Nat),(∀b y,s.heap.get? b=Z y->d.get? b=Z y)->
   d.get? s.heap.objs.size=Z {cls:=.type "list",dict:=ν,data:=.seq c.toArray f,slots:= #[]}->EP X pins z Q (.ref s.heap.objs.size) {s with heap:=d}:=λc g j d f k e=>
  ⟨.ref s.heap.objs.size,_,I.laid (t':=s.toks) k (b5 _) (show BR X.prog X.w _ d _ (.lst l)from⟨j,c,f,g,e⟩),W,q _ (I.Bi.fresh (b5 _))⟩
 rcases i with i|i
 .obtain⟨c,g,m,j⟩:=I.list i;have hlen:=g.length;obtain⟨o,t,v,n,x⟩:=m.isList;exact abt p (.inl W) t v x (λd f k e=>fin c g j d f k e)<|by simp only[b6]<;>lia
 .obtain⟨c,g,m,j⟩:=I.tuple i;have hlen:=g.length;obtain⟨o,t,v,n,x⟩:=m;exact abt p (.inr W) t v x (λd f k e=>fin c g j d f k e)<|by simp only[b6]<;>lia
inductive Jw(K:yd)(xs:List V)(H:Hp)(Q:VK):Prop|mk(p ys:_)(c:xs=[.ref p])(d:((Ax K H p ys/\∀l,H l=ν->Q (.ref l) (upd H l (.tup ys)))∨(Ae K H p ys/\Q (.ref p) H)))
def LA(K:yd):List V->Hp->VK->Prop:=λc H Q=>Jw K c H Q
theorem IL:Dx X (.type "tuple") (LA X.K):=by
 intro pins s j H x y Q I r h;obtain⟨p,k,rfl,h⟩:=h;obtain⟨u,rfl,n⟩:=vals1 r;cases n;rcases h with⟨f,q⟩|⟨f,q⟩
 .obtain⟨c,g,i,l⟩:=I.list f;have hlen:=g.length;refine call_tuple_list i.isList (λd t=>?_) (by simp only[b6]<;>lia);have m:Inv X pins j H {s with heap:=d}:=I.kept (t':=s.toks) t;have v:Inv X pins j (upd H d.objs.size<|.tup k) {s with heap:=d.push {cls:=.type "tuple",data:=.seq c.toArray}}:=
   m.laid (t':=s.toks) (λb o e=>d0 _ e) (b5 _) (show BR X.prog X.w _ _ _ (.tup k)from⟨l,c,g,IsTup.new _ _⟩)
  exact⟨.ref d.objs.size,_,v,W,q _<|m.Bi.fresh<|b5 _⟩
 .obtain⟨c,g,i,l⟩:=I.tuple f;exact call_tuple_same i ⟨.ref p,H,I,W,q⟩
def oI(K:yd)(T:String)(x:V)(H:Hp):Prop:=match x with
 | .str _=>T="str"| .int _=>T="int"| .ref p=>(T="list"/\∃c,Ax K H p c)∨(T="tuple"/\∃o,K.lookup p=Z o/\o.cls=.type "tuple"/\o.dict=ν)∨ (T="dict"/\((∃kvs,H p=Z (.dK kvs))∨∃kvs,H p=Z (.dT kvs)))∨(T="set"/\∃S n,H p=Z (.set S n))|_=>False
theorem XO{v:bd}(I:Inv X pins σ H s)(r:RelV x v)(ty:oI X.K T x H):
  s.TypeIs v T/\∀a,v=.ref a->∃h,s.heap.get? a=Z h/\h.dict=none:=by
 cases x with
 |str z=>
  obtain⟨t,rfl⟩:=r;cases(show T="str"from ty);exact⟨zX s z t,λ_ e=>nomatch e⟩
 |int i=>
  obtain⟨t,rfl⟩:=r;cases(show T="int"from ty);exact⟨FS s i t,λ_ e=>nomatch e⟩
 |ref p=>
  cases r;rcases ty with⟨rfl,q,k⟩|⟨rfl,o,d,l,f⟩|⟨rfl,d⟩|⟨rfl,S,n,d⟩
  .obtain⟨m,_,j,_⟩:=I.list k;refine⟨j.isList.typeIs,λa e=>?_⟩;cases e;obtain⟨o,n,e,c,f,_⟩:=j;exact⟨o,e,f⟩
  .refine⟨⟨o,I.KX p o d,l⟩,λa e=>?_⟩;cases e;exact⟨o,I.KX _ o d,f⟩
  .have z:∃o,s.heap.get? p=Z o/\o.ExactDict:=by
    rcases d with⟨kvs,d⟩|⟨kvs,d⟩
    .obtain⟨_,_,_,_,o,_,_,e,ex,_⟩:=I.Bi p _ d;exact⟨o,e,ex⟩
    .obtain⟨_,_,_,_,o,_,_,e,ex,_⟩:=I.Bi p _ d;exact⟨o,e,ex⟩
   obtain⟨o,e,ex⟩:=z;refine⟨⟨o,e,ex.1⟩,λa g=>?_⟩;cases g;exact⟨o,e,ex.2.1⟩
  .obtain⟨o,_,_,_,e,ex,_⟩:=I.Bi p _ d;refine⟨⟨o,e,ex.1⟩,λa g=>?_⟩;cases g;exact⟨o,e,ex.2.1⟩
 |_=>exact zo ty
def oJ(K:yd)(T:String)(r:V->List V->Hp->VK->Prop)(to:TE):TE:=λd H Q=>to d H λx c=>oI K T x c/\r x [] c Q
def oK(K:yd)(T:String)(r:V->List V->Hp->VK->Prop)(to:TE)(t:TA):TE:=λc H Q=>to c H λx d=>oI K T x d/\t c d λe f=>r x e f Q
variable{o:r6} {es:List r6} {to:TE} {t:TA} {name:Str} {apos Eu:Pos} {id:String} {r:V->List V->Hp->VK->Prop}
theorem SX(k:PlainAttrs T)(slot:Slot T name id)(f:typeOf (.builtin id)=pure (.type "method_descriptor"))(l:oF X id r)(m:PE X o to)(c:G7 o name X.env (y9 o X.env)=y9 o X.env:=by rfl)(d:(apos.endLine==Eu.line)=true:=by rfl):PE X (.Call (.Attribute o name apos) [] [] Eu) (oJ X.K T r to):=by
 intro pins s g H Q I h;refine wpAny_Call_method0_late c d (CF (m pins s g H _ I h) λv n ⟨x,p,i,j,ty,q⟩=>?_);obtain⟨u,w⟩:=XO i j ty;exact⟨T,id,k,slot,f,u,w,E8 W<|PySem.evalArgs_none<|l pins n g p x [] v [] Q i j .nil q⟩
theorem NT(n:PlainAttrs T)(slot:Slot T name id)(i:typeOf (.builtin id)=pure (.type "method_descriptor"))(p:oF X id r)(q:PE X o to)(u:PA X (e::es) t)(d:G7 o name X.env (y9 o X.env)=y9 o X.env:=by rfl)(g:((FM Eu (m7 (e::es) X.env)).all (λx=> !x.1)&&(aa1 Eu (UF [] X.env)).all (λx=>x.1.isSome)
   &&decide ((e::es).length+([]:List No).length+(if([]:List No).isEmpty then 0 else 1)<30))=true:=by rfl)(f:(apos.endLine==Eu.line)=true:=by rfl)(w:m7 (e::es) X.env=(false,y9 e X.env)::m7 es X.env:=by rfl)(c:(FM Eu (m7 es X.env)).any (·.1)=false:=by rfl):
  PE X (.Call (.Attribute o name apos) (e::es) [] Eu) (oK X.K T r to t):=by
 intro pins s j H Q I h;refine wpAny_Call_method_late d g f W (CF (q pins s j H _ I h) λv y ⟨x,z,k,l,ty,A⟩=>?_);obtain⟨B,C⟩:=XO k l ty;refine⟨T,id,n,slot,i,B,C,?_⟩;have m:=u Eu pins y j z _ k A;rw[w]at m⊢;refine E8 (by show(false||(FM Eu<|m7 es X.env).any (·.1))=false;rw[c]<;>rfl) (V9 ?_);exact CF m λD E F=>F.elim λG J L M N=>p pins E j J x G v D Q L l M N
end
def gZ(X:Cx)(id:String)(r:V->List V->Hp->VK->Prop):Prop:=
 ∀(pins:List (Addr×Obj))(s:d6)(a:St)(H:Hp)(x:V)(b:List V)(v:bd)(c:List bd)(Q:VK),Inv X pins a H s->RelV x v->Vals b c->r x b H Q->
  im (j1 X.prog X.w) X.A (call (.builtin id) (v::c)) (EP X pins a Q) X.xe s
theorem Vals.zero(r:Vals [] a):a=[]:=j7 (zQ r).symm
theorem Vals.one(r:Vals [x] a):∃u,a=[u]/\RelV x u:=by
 obtain⟨u,b,rfl,h,t⟩:=r.inv;rw[t.zero];exact⟨u,W,h⟩
theorem Vals.two(r:Vals [x,y] a):∃u v,a=[u,v]/\RelV x u/\RelV y v:=by
 obtain⟨u,c,rfl,h,t⟩:=r.inv;obtain⟨v,rfl,b⟩:=t.one;exact⟨u,v,W,h,b⟩
theorem Vals.dropLast{xs:List V}(h:Vals xs a):Vals xs.dropLast a.dropLast:=by
 induction h with
 |nil=>exact .nil|cons r t b=>
  cases t with
  |nil=>exact .nil|cons q c=>exact .cons r b
theorem Vals.eraseIdx:∀{xs:List V}{a:List bd}(i:Nat),Vals xs a->Vals (xs.eraseIdx i) (a.eraseIdx i)
 |_,_,_,.nil=>.nil|_,_,0,.cons _ t=>t|_,_,i+1,.cons r t=>.cons r (Vals.eraseIdx i t)
theorem SY{a:Type}(l:List a):l.eraseIdx (l.length-1)=l.dropLast:=List.eraseIdx_length_sub_one
theorem NU{a:Type}:∀(l:List a)(i:Nat),(l.eraseIdx i).length<=l.length
 |[],_=>b5 _|_::_,0=>UV _|_::r,i+1=>Nat.succ_le_succ (NU r i)
variable{t':Nat}
section
variable {l b:Addr} {xs ys zs:List V}
theorem Inv.XP{its':List bd}{f:Array bd->Array bd}(I:Inv X pins σ H s)(a:H l=Z (.lst xs))(e:s.heap.get? l=Z {cls:=.type "list",data:=.seq its.toArray n})(c:f its.toArray=its'.toArray)(d:Vals ys its')(g:ys.length<=sizeLine):
  Inv X pins σ (upd H l (.lst ys)) {s with heap:=s.heap.update l (Obj.mapSeq f),toks:=t'}:=by
 have q:=PySem.IsL.update e f;rw[c]at q;refine I.write (x:=l) (e:=l) (by rw[a];exact trivial) (.inl W) (λj u h i=>(Q4 s.heap (Obj.mapSeq f)<|u8 h).trans i) ⟨_,q⟩ ?_;exact⟨g,its',_,d,q⟩
theorem Inv.dw(I:Inv X pins σ H s)(a:Vals ys its)(c:ys.length<=sizeLine):
  Inv X pins σ (upd H s.heap.objs.size (.lst ys)) {s with heap:=s.heap.push {cls:=.type "list",data:=.seq its.toArray},toks:=t'}:=
 I.laid (λ_ _ q=>d0 _ q) (b5 _) ⟨c,its,0,a,i7 _ W⟩
theorem Inv.fresh(I:Inv X pins σ H s):H s.heap.objs.size=none:=I.Bi.fresh<|b5 _
theorem Inv.QY(I:Inv X pins σ H s)(a:H l=Z (.lst xs)):xs.length<=sizeLine/\∃(its:List bd)(n:Nat),Vals xs its/\xs.length=its.length/\s.heap.get? l=Z {cls:=.type "list",data:=.seq its.toArray n}:=by
 obtain⟨z,its,n,r,e⟩:=I.Bi l _ a;exact⟨z,its,n,r,r.length,e⟩
theorem XQ(h:n<=sizeLine):C3 n=false:=by
 unfold C3;exact decide_eq_false y_
end
section
inductive XR(x:V)(a:List V)(H:Hp)(Q:VK):Prop|mk(l xs y:_)(b:x=.ref l)(c:a=[y])(d:H l=Z (.lst xs))(e:xs.length<sizeLine)(f:Q .Al (upd H l (.lst (xs++[y]))))
def UA:V->List V->Hp->VK->Prop:=λx a H Q=>XR x a H Q
theorem Jx:gZ X "list.append" UA:=by
 intro pins s g H x i v j Q I c d h;obtain⟨l,k,y,rfl,rfl,b,m,q⟩:=h;cases c;obtain⟨u,rfl,f⟩:=d.one;obtain⟨z,a,n,r,o,e⟩:=I.QY b;refine za F.slot_list_append ⟨_,e,W⟩ F.entry_list_append (F.args_list_append_2 _ _) (PySem.list_append l a.toArray n u<|by rw[b6];lia) ⟨e,?_⟩;refine⟨.Al,_,I.XP (its':=a++[u]) b e z_ (r.append<|.cons f .nil) ?_,W,q⟩;rw[d7,j5];lia
inductive XS(x:V)(a:List V)(H:Hp)(Q:VK):Prop|mk(l b xs zs:_)(c:x=.ref l)(d:a=[.ref b])(e:H l=Z (.lst xs))(f:H b=Z (.lst zs))(g:xs.length+zs.length<=sizeLine)(h:Q .Al (upd H l (.lst (xs++zs))))
def UB:V->List V->Hp->VK->Prop:=λx a H Q=>XS x a H Q
theorem Vc:gZ X "list.extend" UB:=by
 intro pins s y H x A v B Q I i j h;obtain⟨l,b,C,D,rfl,rfl,g,k,E,q⟩:=h;cases i;obtain⟨u,rfl,m⟩:=j.one;cases m;obtain⟨z,c,n,r,G,e⟩:=I.QY g;obtain⟨z2,a,o,p,t,w⟩:=I.QY k;have f:c.toArray.size+a.toArray.size<=sizeLine:=by rw[b6,b6];lia
 have d:¬(!c.toArray.isEmpty&&C3 (c.toArray.size+a.toArray.size))=true:=by
  rw[XQ f,L6];exact d5
 refine za F.slot_list_extend ⟨_,e,W⟩ F.entry_list_extend (F.args_list_extend_2 _ _) (AutoSeq1.list_extend_list_list_0 l c.toArray n b a.toArray o d (by rw[b6];lia) y_) ⟨e,w,?_⟩;refine⟨.Al,_,I.XP (its':=c++a) g e z_ (r.append p) ?_,W,q⟩;rw[d7];lia
inductive ia(x:V)(a:List V)(H:Hp)(Q:VK):Prop|mk(l xs y:_)(b:x=.ref l)(c:a=[])(d:H l=Z (.lst xs))(e:xs[xs.length-1]?=Z y)(f:Q y (upd H l (.lst xs.dropLast)))
def oM:V->List V->Hp->VK->Prop:=λx a H Q=>ia x a H Q
theorem XT:gZ X "list.pop" oM:=by
 intro pins s o H x p v t Q I f g h;obtain⟨l,w,y,rfl,rfl,d,i,q⟩:=h;cases f;have b:=g.zero;subst b;obtain⟨z,a,n,r,j,e⟩:=I.QY d;obtain⟨u,k,m⟩:=r.get i;have c:a.toArray[a.toArray.size-1]?=Z u:=by
  show a.toArray[a.length-1]?=Z u;rw[<-v5,<-j];exact k
 refine za aaS ⟨_,e,W⟩ aaE (F.args_list_pop_1 _) (MeetsSeq.list_pop_last l a.toArray n u c<|by rw[b6];lia) ⟨e,?_⟩;refine⟨y,_,I.XP (its':=a.dropLast) d e ?_ r.dropLast ?_,m,q⟩
 .show a.toArray.eraseIdxIfInBounds (a.toArray.size-1)=a.dropLast.toArray;rw[b6,E9,SY]
 .rw[yw];lia
inductive aM(x:V)(a:List V)(H:Hp)(Q:VK):Prop|mk(l xs i k y:_)(b:x=.ref l)(c:a=[.int i])(d:H l=Z (.lst xs))(e: -(2 ^ 63)<=i)(f:i<2 ^ 63)(g:abH i xs.length=Z k)(h:xs[k]?=Z y)(j:Q y (upd H l (.lst (xs.eraseIdx k))))
def dy:V->List V->Hp->VK->Prop:=λx a H Q=>aM x a H Q
theorem XU:gZ X "list.pop" dy:=by
 intro pins s C H x D v E Q I d f h;obtain⟨l,g,i,k,y,rfl,rfl,c,j,m,o,p,q⟩:=h;cases d;obtain⟨u,rfl,A⟩:=f.one;obtain⟨t,rfl⟩:=A;obtain⟨z,a,n,r,B,e⟩:=I.QY c;obtain⟨w,hw,b⟩:=r.get p;refine za aaS ⟨_,e,W⟩ aaE (F.args_list_pop_2 _ _) (MeetsSeq.list_pop_at l a.toArray n i t k w (fitsIndex_both j m) (by rw[b6,<-B];exact o) (by rw[<-v5];exact hw)<|by rw[b6];lia) ⟨e,?_⟩;refine⟨y,_,I.XP (its':=a.eraseIdx k) c e ?_ (r.eraseIdx k) ?_,b,q⟩
 .show a.toArray.eraseIdxIfInBounds k=(a.eraseIdx k).toArray;rw[E9]
 .have:=NU g k;lia
inductive ib(x y:V)(H:Hp)(Q:VK):Prop|mk(l b xs zs:_)(a:x=.ref l)(c:y=.ref b)(d:H l=Z (.lst xs))(e:H b=Z (.lst zs))(f:xs.length+zs.length<=sizeLine)(g:Wx H (.lst (xs++zs)) Q)
def oN:R2:=λx y H Q=>ib x y H Q
theorem dz:EN X (zW .Add) oN:=by
 intro pins s p H x y v u Q I d f h;obtain⟨l,b,t,w,rfl,rfl,g,i,A,q⟩:=h;cases d;cases f;obtain⟨z,c,n,r,B,e⟩:=I.QY g;obtain⟨z2,a,C,j,k,m⟩:=I.QY i;refine PySem.P.add_list e m ?_ (by rw[b6,b6];lia);have o:c.toArray++a.toArray=(c++a).toArray:=by simp
 rw[o];exact⟨.ref _,_,I.dw (t':=s.toks) (r.append j)<|by rw[d7];lia,W,q _ I.fresh⟩
end
variable{E:bd->d6->Prop}{w:q3}{prog:m8}
variable{o:Option V}
section
variable{κ:Type} [DecidableEq κ]
def Cg(kvs:List (κ×V))(k:κ):Option V:=(kvs.find? λa=>decide<|a.1=k).map (·.2)
def putK(kvs:List (κ×V))(k:κ)(v:V):List (κ×V):=
 if(kvs.any λa=>decide (a.1=k))=true then kvs.map (λa=>if a.1=k then(a.1,v)else a)else kvs++[(k,v)]
def GQ(kvs:List (κ×V))(k:κ):List (κ×V):=kvs.filter λa=>decide<|a.1≠k
theorem XW{k:κ}:Cg ([]:List (κ×V)) k=none:=rfl
theorem GR{p:κ×V}{r:List (κ×V)}{k:κ}(e:p.1=k):Cg (p::r) k=Z p.2:=by simp[Cg,zN,e]
theorem FW{p:κ×V}{r:List (κ×V)}{k:κ}(e:¬p.1=k):Cg (p::r) k=Cg r k:=by simp[Cg,zN,e]
theorem GS(k:κ):∀kvs:List (κ×V),(kvs.any λkv=>decide (kv.1=k))=(Cg kvs k).isSome
 |[]=>rfl|p::r=>by
  rw[B7];by_cases e:p.1=k
  .simp only[GR e,decide_eq_true e,Bool.true_or,Y7]
  .rw[FW e,decide_eq_false e,Bool.false_or];exact GS k r
theorem HV(kvs:List (κ×V))(k:κ)(v:V):(putK kvs k v).length<=kvs.length+1:=by
 unfold putK;split
 .rw[be];lia
 .rw[d7,g7,u7];lia
theorem JB{kvs:List (κ×V)}{k:κ}(v:V)(h:Cg kvs k=ν):putK kvs k v=kvs++[(k,v)]:=by
 unfold putK;rw[GS,h];exact if_neg ac
theorem Kv.GU{u:Option bd}(r:Kv o u):o.isSome=u.isSome:=by
 cases o with
 |none=>cases u with
  |none=>rfl|some _=>exact(show False from r).elim
 |some _=>cases u with
  |none=>exact(show False from r).elim|some _=>rfl
theorem KV.val{kvs:List (κ×V)}{d:List (κ×bd)}(r:KV kvs d)(k:κ):Kv (Cg kvs k) (zt d k):=by
 unfold KV at r
 induction r with
 |nil=>exact w6|@cons p q j a h t g=>
  obtain⟨f,i⟩:=h;by_cases e:p.1=k
  .have c:q.1=k:=f.symm.trans e;have b:zt (q::a) k=Z q.2:=by simp[zt,zN,c]
   rw[GR e,b];exact i
  .have c:¬q.1=k:=λz=>e<|f.trans z;have b:zt (q::a) k=zt a k:=by simp[zt,zN,c]
   rw[FW e,b];exact g
theorem KV.any{kvs:List (κ×V)}{a:List (κ×bd)}(r:KV kvs a)(k:κ):(kvs.any λkv=>decide (kv.1=k))=a.any λkv=>decide (kv.1=k):=by
 unfold KV at r
 induction r with
 |nil=>rfl|cons h t b=>rw[B7,B7,b,h.1]
theorem KV.d_{kvs:List (κ×V)}{b:List (κ×bd)}(r:KV kvs b)(k:κ)(c:RelV y u):
  KV (kvs.map λkv=>if kv.1=k then(kv.1,y)else kv) (b.map λkv=>if kv.1=k then(kv.1,u)else kv):=by
 unfold KV at r⊢
 induction r with
 |nil=>exact .nil|@cons p q g i h t d=>
  rw[i2,i2];refine .cons ?_ d;obtain⟨a,f⟩:=h;by_cases e:p.1=k
  .rw[if_pos e,if_pos<|a.symm.trans e];exact⟨a,c⟩
  .rw[if_neg e,if_neg λz=>e<|a.trans z];exact⟨a,f⟩
theorem KV.put{kvs:List (κ×V)}{a:List (κ×bd)}(r:KV kvs a)(k:κ){y:V}{u:bd}(b:RelV y u):KV (putK kvs k y) (stored a k u):=by
 unfold putK stored;rw[r.any k];by_cases e:(a.any λc=>decide<|c.1=k)=true
 .rw[if_pos e,if_pos e];exact r.d_ k b
 .rw[if_neg e,if_neg e];exact abZ r ⟨W,b⟩
theorem KV.drop{kvs:List (κ×V)}{d:List (κ×bd)}(r:KV kvs d)(k:κ):KV (GQ kvs k) (without d k):=by
 unfold KV at r⊢;unfold GQ without
 induction r with
 |nil=>exact .nil|@cons p q j l h t f=>
  obtain⟨c,g⟩:=h;rw[zw,zw];by_cases e:p.1=k
  .have a:¬decide (p.1≠k)=true:=by simp[e]
   have b:¬decide (q.1≠k)=true:=by simp[c.symm.trans e]
   rw[if_neg a,if_neg b];exact f
  .have i:¬q.1=k:=λz=>e<|c.trans z;have a:decide (p.1≠k)=true:=by simp[e]
   have b:decide (q.1≠k)=true:=by simp[i]
   rw[if_pos a,if_pos b];exact .cons ⟨c,g⟩ f
theorem KV.keys{kvs:List (κ×V)}{a:List (κ×bd)}(r:KV kvs a):kvs.map (·.1)=a.map (·.1):=by
 unfold KV at r
 induction r with
 |nil=>rfl|cons h t b=>rw[i2,i2,b,h.1]
theorem KV.length{kvs:List (κ×V)}{a:List (κ×bd)}(r:KV kvs a):kvs.length=a.length:=zQ r
theorem XX(kvs:List (κ×V))(k:κ):(GQ kvs k).length<=kvs.length:=S8 _ _
end
variable{P:m8}
theorem KZ{k:Key}(r:RelV (kV k) u):(A_ P w).is k u=true:=by
 cases k with
 |inl i=>obtain⟨t,e⟩:=(show∃t,u=zh i t from r);subst e;exact QM P w i t
 |inr x=>obtain⟨t,e⟩:=(show∃t,u=zu x t from r);subst e;exact QN P w x t
theorem NV{P:m8}{w:q3}:∀{ks:List Key}{a:List bd},Vals (ks.map kV) a->ItemsAre (A_ P w) ks a
 |[],_,r=>by rw[yq]at r;cases r;exact .nil|k::ks,_,r=>by
  rw[i2]at r;cases r with
  |cons h t=>exact .cons (KZ h) (NV t)
abbrev KT(H:Hp):List (List Key×V)->List (List Key×Addr×bd)->Prop:=Paired λp q=>p.1=q.1/\H q.2.1=Z (.tup<|p.1.map kV)/\RelV p.2 q.2.2
variable{xs:List (List Key×Addr×bd)}
theorem KT.val{kvs:List (List Key×V)}(r:KT H kvs xs)(k:List Key):Kv (Cg kvs k) ((aaG xs k).map (·.2)):=by
 induction r with
 |nil=>exact w6|@cons p q i a h t f=>
  obtain⟨d,_,g⟩:=h;by_cases e:p.1=k
  .have c:q.1=k:=d.symm.trans e;have b:aaG (q::a) k=Z q.2:=by simp[aaG,zN,c]
   rw[GR e,b];exact g
  .have c:¬q.1=k:=λz=>e<|d.trans z;have b:aaG (q::a) k=aaG a k:=by simp[aaG,zN,c]
   rw[FW e,b];exact f
theorem KT.d_{kvs:List (List Key×V)}(r:KT H kvs xs)(k:List Key)(c:RelV y u):
  KT H (kvs.map λkv=>if kv.1=k then(kv.1,y)else kv) (xs.map (putAt k u)):=by
 induction r with
 |nil=>exact .nil|@cons p q g i h t d=>
  rw[i2,i2];refine .cons ?_ d;obtain⟨a,b,f⟩:=h;unfold putAt;by_cases e:p.1=k
  .rw[if_pos e,if_pos<|a.symm.trans e];exact⟨a,b,c⟩
  .rw[if_neg e,if_neg λz=>e<|a.trans z];exact⟨a,b,f⟩
theorem KT.put{H:Hp}{kvs:List (List Key×V)}{xs:List (List Key×Addr×bd)}(r:KT H kvs xs)(k:List Key){b:Addr}{y:V}{u:bd}(c:H b=Z (.tup (k.map kV)))(a:RelV y u):
  KT H (putK kvs k y) (storedH xs k b u):=by
 have e:(kvs.any λd=>decide<|d.1=k)=(aaG xs k).isSome:=by
  rw[GS,(r.val k).GU,zl]
 unfold putK storedH;rw[e];by_cases q:(aaG xs k).isSome=true
 .rw[if_pos q,if_pos q];exact r.d_ k a
 .rw[if_neg q,if_neg q];exact abZ r ⟨W,c,a⟩
variable{H':Hp}
theorem KT.keeps{kvs:List (List Key×V)}(r:KT H kvs xs)(a:∀b ys,H b=Z (.tup ys)->H' b=Z (.tup ys)):KT H' kvs xs:=
 Paired.hJ r λ_ _ z=>⟨z.1,a _ _ z.2.1,z.2.2⟩
section
variable {h:Heap} {a:Addr}
theorem UC{u:HO}(ok:Hq P w H h)(e:Rd H a u):BR P w H h a u:=e.ok ok
theorem GV{kvs:List (Key×V)}(ok:Hq P w H h)(e:Rd H a (.dK kvs)):kvs.length<=sizeLine/\(a==q5)=false/\∃b,KV kvs b/\h.DictOf (A_ P w) a b:=
 show BR P w H h a (.dK kvs)from UC ok e
theorem QZ{kvs:List (Key×V)}(ok:Hq P w H h)(e:H a=Z (.dK kvs)):kvs.length<=sizeLine/\(a==q5)=false/\∃b,KV kvs b/\h.DictOf (A_ P w) a b:=GV ok<|.inl e
theorem Lr{ks:List Key}(ok:Hq P w H h)(e:H a=Z (.tup (ks.map kV))):(WP (A_ P w)).is h ks a:=by
 obtain⟨_,b,r,o,c,d,n,f⟩:=(show BR P w H h a (.tup<|ks.map kV)from ok a _ e);exact⟨o,b.toArray,n,c,d,f,GE<|NV r⟩
theorem NW{kvs:List (List Key×V)}(ok:Hq P w H h)(e:Rd H a (.dT kvs)):kvs.length<=sizeLine/\(a==q5)=false/\
  ∃xs,KT H kvs xs/\h.DictOfH (WP (A_ P w)) a xs:=by
 obtain⟨z,y,xs,r,o,d,f,g,i,j,k,n⟩:=(show BR P w H h a (.dT kvs)from UC ok e);refine⟨z,y,xs,r,o,d,f,g,i,j,k,λx b=>?_,n⟩;have all:∀{l:List (List Key×V)}{m:List (List Key×Addr×bd)},KT H l m->∀x∈m,(WP<|A_ P w).is h x.1 x.2.1:=by
  intro l m q
  induction q with
  |nil=>intro x b;exact nomatch b
  |@cons p q u v c t s=>
   intro x b;rcases ce.mp b with e|b
   .subst e;exact Lr ok<|by rw[<-c.1];exact c.2.1
   .exact s x b
 exact all r x b
theorem ie{kvs:List (List Key×V)}(ok:Hq P w H h)(e:H a=Z (.dT kvs)):kvs.length<=sizeLine/\(a==q5)=false/\
  ∃xs,KT H kvs xs/\h.DictOfH (WP (A_ P w)) a xs:=NW ok (.inl e)
end
def Ls(H:Hp)(a:Addr)(y:V)(r:Option V):Prop:= (∃kvs k,Rd H a (.dK kvs)/\y=kV k/\r=Cg kvs k)∨∃kvs k b,Rd H a (.dT kvs)/\y=.ref b/\H b=Z (.tup<|k.map kV)/\r=Cg kvs k
def IS(H:Hp)(a:Addr)(y v:V)(H':Hp):Prop:= (∃kvs k,H a=Z (.dK kvs)/\y=kV k/\kvs.length<sizeLine/\H'=upd H a (.dK<|putK kvs k v))∨
 ∃kvs k b,H a=Z (.dT kvs)/\y=.ref b/\H b=Z (.tup (k.map kV))/\kvs.length<sizeLine/\H'=upd H a (.dT (putK kvs k v))
theorem Ls.k{H:Hp}{a:Addr}{kvs:List (Key×V)}{k:Key}(e:H a=Z (.dK kvs)):Ls H a (kV k) (Cg kvs k):=.inl ⟨kvs,k,.inl e,W,W⟩
theorem IS.k{H:Hp}{a:Addr}{kvs:List (Key×V)}{k:Key}{v:V}(e:H a=Z (.dK kvs))(b:kvs.length<sizeLine):IS H a (kV k) v (upd H a (.dK (putK kvs k v))):=.inl ⟨kvs,k,e,W,b,W⟩
variable{Q:bd->d6->Prop}{h':Heap}
section
variable {a:Addr} {v:V} {r:bd} {A:i8} 
theorem Inv.big(I:Inv X pins σ H s):q5<s.heap.objs.size:=by
 have h:q8<s.heap.objs.size:=(I.mod.glob.keeps I.bk).lt;exact A5 ac h
theorem Vd(t:A.units+1<cLine)(I:Inv X pins σ H s)(g:Ls H a y (Z v))(n:RelV y u)(h:∀f q,Inv X pins σ H q->RelV v f->Q f q):
  im (j1 X.prog X.w) A (K3 (.ref a) u) Q E s:=by
 rcases g with⟨kvs,k,e,i,l⟩|⟨kvs,k,b,e,i,x,l⟩
 .subst i;obtain⟨z,B,C,c,j⟩:=GV I.Bi e;obtain⟨f,hw,d⟩:=Kv.some_of (v:=v) (o:=zt C k) (by rw[l];exact c.val k);exact wpAny_getItem_of (KZ n) j.mapOf hw<|h f _ (I.tok _) d
 .subst i;cases(show u=i3 b from n);obtain⟨z,B,D,c,j⟩:=NW I.Bi e;obtain⟨f,hw,d⟩:=Kv.some_of (v:=v) (o:=(aaG D k).map (·.2)) (by rw[l];exact c.val k);obtain⟨p,F,m⟩:=kw.mp hw;refine wpAny_getItem_heap (C8 t) (Lr I.Bi x) j F ?_;rw[m];exact h f _ (I.tok _) d
theorem oO(n:A.units+1<cLine)(I:Inv X pins σ H s)(g:Ls H a y o)(j:RelV y u)(h:∀m,Inv X pins σ H m->Q (.bool o.isSome) m):
  im (j1 X.prog X.w) A (ut .In u (.ref a)) Q E s:=by
 rcases g with⟨kvs,k,e,d,l⟩|⟨kvs,k,b,e,d,p,l⟩
 .subst d;obtain⟨z,f,t,c,i⟩:=GV I.Bi e;refine wpAny_in_of (KZ j) f i.mapOf ?_;rw[<-(c.val k).GU,<-l];exact h _<|I.tok _
 .subst d;cases(show u=i3 b from j);obtain⟨z,f,x,c,i⟩:=NW I.Bi e;refine wpAny_in_heap (C8 n) (Lr I.Bi p) f i ?_;have q:=(c.val k).GU;rw[zl]at q;rw[<-q,<-l];exact h _<|I.tok _
theorem aN(n:A.units+1<cLine)(I:Inv X pins σ H s)(g:Ls H a y o)(j:RelV y u)(h:∀m,Inv X pins σ H m->Q (.bool (!o.isSome)) m):
  im (j1 X.prog X.w) A (ut .NotIn u (.ref a)) Q E s:=by
 rcases g with⟨kvs,k,e,d,l⟩|⟨kvs,k,b,e,d,p,l⟩
 .subst d;obtain⟨z,f,t,c,i⟩:=GV I.Bi e;refine wpAny_notIn_of (KZ j) f i.mapOf ?_;rw[<-(c.val k).GU,<-l];exact h _<|I.tok _
 .subst d;cases(show u=i3 b from j);obtain⟨z,f,x,c,i⟩:=NW I.Bi e;refine wpAny_notIn_heap (C8 n) (Lr I.Bi p) f i ?_;have q:=(c.val k).GU;rw[zl]at q;rw[<-q,<-l];exact h _<|I.tok _
theorem LO{c:HO}(I:Inv X pins σ H s)(d:hR (H a))(f:K5 a s.heap h')(g:∃q,h'.get? a=Z q)(new:BR X.prog X.w (upd H a c) h' a c):
  Inv X pins σ (upd H a c) {s with heap:=h',toks:=t'}:=
 I.write (x:=a) (e:=a) d (.inl W) (λb q h z=>(f.2 b h).trans z) g new
theorem Lu{kvs:List (Key×V)}{b:List (Key×bd)}(z:kvs.length<=sizeLine)(d:(a==q5)=false)(c:KV kvs b)(e:h'.DictOf (A_ P w) a b):
  BR P w H' h' a (.dK kvs):=⟨z,d,b,c,e⟩
theorem Ve{Q:Unit->d6->Prop}(M:A.units+1<cLine)(I:Inv X pins σ H s)(g:IS H a y v H')(C:RelV y u)(D:RelV v r)(h:∀F,Inv X pins σ H' F->Q () F):
  im (j1 X.prog X.w) A (setItem (.ref a) u r) Q E s:=by
 rcases g with⟨kvs,k,e,j,l,m⟩|⟨kvs,k,b,e,j,G,l,m⟩
 .subst j m;obtain⟨z,n,N,d,p⟩:=QZ I.Bi e;have t:N.length<=sizeLine:=by rw[<-d.length];exact z
  have x:(putK kvs k v).length<=sizeLine:=by have:=HV kvs k v;lia
  refine wpAny_setItem_pairs (hsz:=t) (KZ C) p λJ f B=>h _ ?_;have O:∃q,J.get? a=Z q:=let⟨q,_,_,i,_⟩:=f;⟨q,i⟩;exact LO I (by rw[e];exact w6) B O<|Lu x n (d.put k D) f
 .subst j m;cases(show u=i3 b from C);obtain⟨z,n,P,d,p⟩:=ie I.Bi e;have t:P.length<=sizeLine:=by rw[<-zQ d];exact z
  have x:(putK kvs k v).length<=sizeLine:=by have:=HV kvs k v;lia
  refine wpAny_setItem_heap (hsz:=t) (C8 M) (Lr I.Bi G) p λJ f B=>h _ ?_;obtain⟨q,R,S,i,T,U,Y,_,ζ⟩:=f;refine LO I (by rw[e];exact w6) B ⟨q,i⟩ ⟨x,n,_,(d.put k G D).keeps λc ξ L=>?_,q,R,S,i,T,U,Y,ζ⟩;rw[AM<|GI L e λz=>nomatch z];exact L
end
section
variable {a:Addr} {kvs:List (Key×V)} {k:Key} {A:i8} 
theorem ig{v:V}{more:List bd}(I:Inv X pins σ H s)(e:H a=Z (.dK kvs))(f:RelV (kV k) u)(l:Cg kvs k=Z v)(j:more=[]∨∃x,more=[x])(h:∀c m,Inv X pins σ (upd H a (.dK (GQ kvs k))) m->RelV v c->Q c m):im (j1 X.prog X.w) A (call (.builtin "dict.pop") (.ref a::u::more)) Q E s:=by
 obtain⟨z,r,n,b,p⟩:=QZ I.Bi e;obtain⟨c,hw,g⟩:=Kv.some_of (v:=v) (o:=zt n k) (by rw[<-l];exact b.val k);have y:(keyPart u).isSome=true:=by
  cases k with
  |inl i=>obtain⟨t,q⟩:=(show∃t,u=zh i t from f);subst q;rfl
  |inr x=>obtain⟨t,q⟩:=(show∃t,u=zu x t from f);subst q;rfl
 have B:argsOk "dict.pop" ⟨.ref a::u::more,[]⟩:=by
  rcases j with q|⟨x,q⟩
  .subst q;exact PySem.F.args_dict_pop_2 _ _
  .subst q;exact PySem.F.args_dict_pop_3 _ _ _
 refine call_meetsIn SB p.typeIs PySem.F.entry_dict_pop B (meets_dict_pop_there (A_ X.prog X.w) a (KZ f) more j y)
  ⟨n,c,p,by rw[<-b.length];exact z,hw,λC d D=>h c _ ?_ g⟩
 have G:∃q,C.get? a=Z q:=let⟨q,_,_,J,_⟩:=d;⟨q,J⟩;exact LO I (by rw[e];exact w6) D G<|Lu (al (XX kvs k) z) r (b.drop k) d
end
def eA(i:r6):Prop:=∀ov a,Uf i false ov a=operate [ov,a] (K3 ov a)
theorem aO{A:i8}{env:Env}{value slice:r6}{id:String}(j:aa4 (.type T) "__getitem__"=pure (Z (.builtin id)))(k:eA slice)(h:im (j1 prog w) A (y9 value env) (λo c=>im (j1 prog w) A (y9 slice env) (λi a=>a.TypeIs o T/\im (j1 prog w) A (K3 o i) Q E a) E c) E s):
  im (j1 prog w) A (y9 (.Subscript value slice pos) env) Q E s:=by
 refine aa7 (y3 h (λo c e=>y3 e (λi a b=>?_) λ_ _ x=>x) λ_ _ x=>x);obtain⟨g,b⟩:=b;unfold W5;refine ap ?_;rw[getitemInPython_of_ne g.not_modules];refine ap<|wpAny_specialOf g j ?_;have fin:im (j1 prog w) A (Uf slice false o i) (λr d=>im (j1 prog w) A (letTemporaryGo value o r>>=λ_=>pure r) Q E d) E a:=by
  rw[k o i];exact wpAny_operating<|y3 b (λr d f=>ap<|wpAny_letTemporaryGo<|e7 f) λ_ _ x=>x
 first
  |exact e7 (ap fin)
  |exact ap (e7 (ap fin))
  |exact ap fin
theorem Qa{a:Addr}(I:Inv X pins σ H s)(g:Ls H a y o):s.TypeIs (.ref a) "dict":=by
 rcases g with⟨kvs,k,e,_,_⟩|⟨kvs,k,b,e,_,_,_⟩
 .obtain⟨_,_,d,_,c⟩:=GV I.Bi e;exact c.typeIs
 .obtain⟨_,_,f,_,c⟩:=NW I.Bi e;exact c.typeIs
inductive uq(x y:V)(H:Hp)(Q:VK):Prop|mk(a:Addr)(v:V)(e:x=.ref a)(g:Ls H a y (Z v))(q:Q v H)
inductive ur(x y:V)(H:Hp)(Q:VK):Prop|mk(a:Addr)(o:Option V)(e:x=.ref a)(g:Ls H a y o)(q:Q (.bl o.isSome) H)
inductive uu(x y:V)(H:Hp)(Q:VK):Prop|mk(a:Addr)(o:Option V)(e:x=.ref a)(g:Ls H a y o)(q:Q (.bl (!o.isSome)) H)
def cZ(b ty:TE):TE:=λa H Q=>b a H λx c=>ty a c λy d=>uq x y d Q
def oP(ty b:TE):TE:=λa H Q=>ty a H λy c=>b a c λx d=>ur x y d Q
def aP(ty b:TE):TE:=λa H Q=>ty a H λy c=>b a c λx d=>uu x y d Q
def ij(d ty e:TE):TS:=λD b H=>e b H λv f=>d b f λx g=>ty b g λy h=>∃a c,x=.ref a/\IS h a y v c/\D.nx b c
section
variable {o i value:r6} {pos' n_:Pos} {td ty tv:TE}
theorem aQ(f:X.A.units+1<cLine)(j:PE X o td)(k:PE X i ty)(l:eA i):PE X (.Subscript o i pos) (cZ td ty):=by
 intro pins s c H Q I h;refine aO PySem.F.slot_dict_getitem.lookup l (CF (j pins s c H _ I h) λu m n=>n.elim λx p q r t=>CF (k pins m c p _ q t) λD E ⟨y,w,d,z,a,v,ex,g,B⟩=>?_);subst ex;obtain rfl:u=i3 a:=r;exact⟨Qa d g,Vd f d g z λG J C b=>⟨v,w,C,b,B⟩⟩
theorem eB(c:X.A.units+1<cLine)(d:PE X i ty)(f:PE X o td):PC X .In i o (oP ty td):=by
 intro pins s b H Q I h;refine CF (d pins s b H _ I h) λz j k=>k.elim λy l m n p=>CF (f pins j b l _ m p) λu B ⟨x,q,r,t,a,ov,ex,g,v⟩=>?_;subst ex;obtain rfl:u=i3 a:=t;exact oO c r g n λC w=>⟨.bl ov.isSome,q,w,W,v⟩
theorem Hs(c:X.A.units+1<cLine)(d:PE X i ty)(f:PE X o td):PC X .NotIn i o (aP ty td):=by
 intro pins s b H Q I h;refine CF (d pins s b H _ I h) λz j k=>k.elim λy l m n p=>CF (f pins j b l _ m p) λu B ⟨x,q,r,t,a,ov,ex,g,v⟩=>?_;subst ex;obtain rfl:u=i3 a:=t;exact aN c r g n λC w=>⟨.bl<|!ov.isSome,q,w,W,v⟩
theorem JC(d:X.A.units+1<cLine)(f:PE X o td)(j:PE X i ty)(k:PE X value tv)(l:O5 value (Z (.Subscript o i pos')) pos.line X.env=pure false):
  PS X (.Assign [.Subscript o i pos'] value pos) (ij td ty tv):=by
 intro pins s b H D I h;refine wpAny_Assign_Subscript (CF (k pins s b H _ I h) λr m c=>c.elim λv n p q t=>CF (f pins m b n _ p t) λu w c=>c.elim λx z B C E=>CF (j pins w b z _ B E) λN O ⟨y,P,F,G,a,J,ex,g,L⟩=>?_) l;subst ex;obtain rfl:u=i3 a:=C;exact Ve d F g G q λQ M=>⟨b,J,M,L⟩
end
theorem Qb(h:Heap)(a:q5<h.objs.size):BR P w H (h.push {cls:=.type "dict",data:=.dict #[]}) h.objs.size (.dK []):=
 ⟨gU _,beq_eq_false_iff_ne.mpr (u8 (i9 a)),[],.nil,Heap.DictOf.new h⟩
def eD:TE:=λ_ H Q=>Wx H (.dK []) Q
section
theorem Lv:PE X (.Dict [] [] pos) eD:=λpins s b H Q I h=>
 wpAny_Dict_empty ⟨.ref s.heap.objs.size,_,I.laid (a:=s.heap.objs.size) (o:=.dK []) (t':=s.toks) (λ_ _ q=>d0 _ q) (b5 _) (Qb s.heap I.big),W,h _ (I.Bi.fresh (b5 _))⟩
end
def Sa:List (TE×TE)->St->Hp->(List (V×V)->Hp->Prop)->Prop
 |[],_,H,Q=>Q [] H|(tk,a)::r,σ,H,Q=>tk σ H λx b=>a σ b λy H2=>Sa r σ H2 λc d=>Q ((x,y)::c) d
abbrev VV:List (V×V)->List (bd×bd)->Prop:=Paired λp q=>RelV p.1 q.1/\RelV p.2 q.2
def l'(X:Cx)(pos:Pos)(keys:List (Option r6))(values:List r6)(a:List (TE×TE)):Prop:=
 ∀(pins:List (Addr×Obj))(s:d6)(b:St)(H:Hp)(Q:List (V×V)->Hp->Prop),Inv X pins b H s->Sa a b H Q->
  im (j1 X.prog X.w) X.A (evalPairs (pairTrees keys values X.env pos)) (λe f=>∃c d,Inv X pins b d f/\VV c e/\Q c d) X.xe s
theorem aR:l' X pos [] [] []:=λpins s a H Q I h=>pairTrees_nil_walk ⟨[],H,I,.nil,h⟩
theorem XY{k v:r6}{ks:List (Option r6)}{d:List r6}{tk e:TE}{a:List (TE×TE)}(f:PE X k tk)(g:PE X v e)(i:l' X pos ks d a):
  l' X pos (Z k::ks) (v::d) ((tk,e)::a):=λpins s b H Q I h=>
 pairTrees_cons_walk (CF (f pins s b H _ I h) λu j l=>l.elim λx m n o p=>CF (g pins j b m _ n p) λE q ⟨y,r,t,w,z⟩=>
  CF (i pins q b r _ t z) λF G ⟨A,B,C,c,D⟩=>⟨(x,y)::A,B,C,.cons ⟨o,w⟩ c,D⟩)
def FD(kvs more:List (Key×V)):List (Key×V):=more.foldl (λa b=>putK a b.1 b.2) kvs
theorem KV.merge:∀{more:List (Key×V)}{b:List (Key×bd)}{kvs:List (Key×V)}{i:List (Key×bd)},KV more b->KV kvs i->KV (FD kvs more) (aau i b):=by
 intro more b kvs i r;unfold KV at r
 induction r generalizing kvs i with
 |nil=>intro q;exact q|@cons p q f g h t c=>
  intro d;have e:KV (putK kvs p.1 p.2) (stored i q.1 q.2):=by
   have:=d.put p.1 h.2;rw[<-h.1];exact this
  exact c e
theorem GC:∀(more kvs:List (Key×V)),(FD kvs more).length<=kvs.length+more.length
 |[],kvs=>by show kvs.length<=kvs.length+0;lia|p::r,kvs=>by
  have a:=GC r<|putK kvs p.1 p.2;have b:=HV kvs p.1 p.2;show(FD (putK kvs p.1 p.2) r).length<=_;rw[g7];lia
theorem Lw{P:m8}{w:q3}:∀{kvs:List (Key×V)}{ws:List (bd×bd)},VV (kvs.map λkv=>(kV kv.1,kv.2)) ws->∃d,Carries (A_ P w) ws d/\KV kvs d
 |[],_,r=>by rw[yq]at r;cases r;exact⟨[],w6,.nil⟩|p::kvs,_,r=>by
  rw[i2]at r;cases r with
  |@cons a b f bs h t=>
   obtain⟨d,c,q⟩:=Lw (P:=P) (w:=w) t;obtain⟨g,e⟩:=b;exact⟨(p.1,e)::d,⟨KZ h.1,W,c⟩,.cons ⟨W,h.2⟩ q⟩
def ik(a:List (TE×TE)):TE:=λd H Q=>∀p,H p=ν->Sa a d (upd H p<|.dK []) λe b=>b p=Z (.dK [])/\∃kvs:List (Key×V),e=kvs.map (λc=>(kV c.1,c.2))/\kvs.length<=15/\Q (.ref p) (upd b p<|.dK<|FD [] kvs)
theorem aS{keys:List (Option r6)}{values:List r6}{b:List (TE×TE)}(h:l' X pos keys values b)(d:keys.all (·.isSome)=true)(k:keys.length=values.length)(l:keys≠[])(g:keys.length<=15):PE X (.Dict keys values pos) (ik b):=by
 intro pins s m H Q I q;have n:=I.Bi.fresh<|b5 s.heap.objs.size;have p:=I.laid (a:=s.heap.objs.size) (o:=.dK []) (h':=s.heap.push {cls:=.type "dict",data:=.dict #[]}) (t':=s.toks) (λ_ _ q=>d0 _ q) (b5 _)<|Qb s.heap I.big;refine wpAny_Dict_walk (knd:=A_ X.prog X.w) d k l g (CF (h pins _ m _ _ p<|q _ n) λJ L ⟨M,N,j,i,e,kvs,r,lk,t⟩=>?_);subst r;obtain⟨u,c,v⟩:=Lw (P:=X.prog) (w:=X.w) i;obtain⟨z,x,y,A,B⟩:=QZ j.Bi e;cases A;refine⟨u,c,B,λh' f C=>⟨.ref s.heap.objs.size,_,?_,W,t⟩⟩;have D:(FD [] kvs).length<=sizeLine:=by
  have E:=GC kvs [];rw[u7]at E;rw[N2];lia
 have F:∃q,h'.get? s.heap.objs.size=Z q:=let⟨q,_,_,G,_⟩:=f;⟨q,G⟩;exact LO j (by rw[e];exact w6) C F<|Lu D x (v.merge .nil) f
structure M1(X:Cx)(o:r6)(m:Str)(apos:Pos)(e:r6)(Eu:Pos):Prop where
 base:G7 o m X.env (y9 o X.env)=y9 o X.env
 uv:((FM Eu (m7 [e] X.env)).all (λx=> !x.1)&&(aa1 Eu (UF [] X.env)).all (λx=>x.1.isSome)
  &&decide (([e]:List r6).length+([]:List No).length+(if([]:List No).isEmpty then 0 else 1)<30))=true
 line:(apos.endLine==Eu.line)=true
 trees:FM Eu (m7 [e] X.env)=[(false,y9 e X.env)]
def rX(H:Hp)(a:Addr):Prop:=(∃kvs,Rd H a<|.dK kvs)∨∃kvs,Rd H a<|.dT kvs
theorem eE{a:Addr}(I:Inv X pins σ H s)(d:rX H a):
  s.TypeIs (.ref a) "dict"/\(∀b,i3 a=.ref b->∃c,s.heap.get? b=Z c/\c.dict=ν)/\(a==q5)=false:=by
 rcases d with⟨kvs,e⟩|⟨kvs,e⟩
 .obtain⟨_,g,j,_,f⟩:=GV I.Bi e;refine⟨f.typeIs,λb q=>?_,g⟩;cases q;obtain⟨c,_,_,h,i,_⟩:=f;exact⟨c,h,i.2.1⟩
 .obtain⟨_,g,k,_,f⟩:=NW I.Bi e;refine⟨f.typeIs,λb q=>?_,g⟩;cases q;obtain⟨c,_,_,h,i,_⟩:=f;exact⟨c,h,i.2.1⟩
def eF(e ty:TE):TE:=λb H Q=>e b H λx c=>∃a,x=.ref a/\rX c a/\ty b c λy d=>∃kvs k v,d a=Z (.dK kvs)/\y=kV k/\Cg kvs k=Z v/\Q v (upd d a<|.dK<|GQ kvs k)
section
variable {o f:r6} {apos Eu:Pos} {td ty tx:TE}
theorem XZ(i:PE X o td)(j:PE X e ty)(m:M1 X o "pop" apos e Eu):PE X (.Call (.Attribute o "pop" apos) [e] [] Eu) (eF td ty):=by
 intro pins s c H Q I h;refine wpAny_Call_method m.base m.uv m.line P2 SB PySem.F.type_dict_pop (CF (i pins s c H _ I h) λu n ⟨x,p,g,q,a,ex,d,r⟩=>?_);subst ex;obtain rfl:u=i3 a:=q;obtain⟨t,w,_⟩:=eE g d;refine⟨t,w,?_⟩;rw[m.trees];refine E8 W (V9<|Z8<|CF (j pins n c p _ g r) λG J ⟨y,L,z,A,kvs,k,v,B,C,l,D⟩=>aar ?_);subst C;exact ig z B A l (.inl W) λM N E b=>⟨v,_,E,b,D⟩
end
section
variable {a:Addr} {kvs:List (Key×V)} {A:i8} 
theorem Xa(I:Inv X pins σ H s)(e:Rd H a (.dK kvs))(h:∀p f,H p=ν->Inv X pins σ (upd H p (.dK kvs)) f->Q (.ref p) f):im (j1 X.prog X.w) A (call (.type "dict") [.ref a]) Q E s:=by
 obtain⟨z,i,l,c,j⟩:=GV I.Bi e;refine kt_call_dict i j (by rw[<-c.length];exact z) λm d k=>?_;refine h _ _ (I.Bi.fresh<|b5 _)<|I.laid (a:=s.heap.objs.size) (o:=.dK kvs) (t':=s.toks) (λb q g=>?_) (b5 _)<|Lu z (beq_eq_false_iff_ne.mpr<|u8<|i9 I.big) c d;exact(k.2 b<|i9<|g6 g).trans<|d0 _ g
end
end L2
namespace rY
open PySem PySem.W PySem.Calls PyProof.Rows
variable{P:Params}
theorem LB{h:Heap}:∀(c:List Int)(d:List bd),WellAll P h d (c.map WData.int)->aaX d c:=by
 intro c
 induction c with
 |nil=>
  intro d w;rw[yq]at w;cases w;exact .nil
 |cons n c e=>
  intro d w;rw[i2]at w;cases w with
  |cons a b=>
   cases a;exact .cons _ _<|e _ b
variable{l:OpenLaw}
theorem Vf{n:Nat}(o:l.most=Z n){h:Heap}{args:List WData}{vals:List bd}(c:l.row.toRowW.claim.pre args=true)(i:WellAll P h vals args):
  ∃a k b,vals=[i3 a]/\args=[WData.list (b.map WData.int)]/\h.get? a=Z {cls:=.type "list",data:=.seq k.toArray}/\aaX k b/\b.length<=n:=by
 have j:WShape.hasAll [] args [.list .int]=true:=(pre_splitW c).1;have m:l.pre.holds [] {args:=args}=true:=(pre_splitW c).2;obtain⟨d,r,rfl,p,s⟩:=hasAllW_cons j;obtain rfl:=hasAllW_nil s;obtain⟨y,rfl,t⟩:=hasW_list p;obtain⟨b,rfl⟩:=items_int t;have hlen:b.length<=n:=by
  unfold OpenLaw.pre at m;have f:(WTm.not<|.lt (.lit<|.int (n:Int))<|.len<|.arg 0).holds [] {args:=[.list<|b.map .int]}=true:=by
   have f:=(holds_andW m).1;rw[o]at f;exact f
  have g:=condW_of f<|w_not<|w_lt w_lit<|w_len_list<|w_arg W;rw[be]at g;refine GM λq=>?_;have u:(n:Int)<((b.length:Nat):Int):=by lia
  first
   |(rw[decide_eq_true u]at g;exact absurd g ac)
   |(simp at g;lia)
 cases i with
 |cons v w=>
  cases w;cases v with
  |list x e=>exact⟨_,_,b,W,W,x,LB b _ e,hlen⟩
theorem Vg(l:OpenLaw)(args:List WData):l.row.toRowW.claim.post args (.bool true) args=true:=
 postW_of (r:=l.row.toRowW) (X:=(true==true)) (show WShape.has [] (.bool true) .bool=true by first|rfl|decide|simp[WShape.has,WShape.arms,WShape.armsAll]) (show(WTm.eq .res (.lit (.bool true))).value [] {args:=args,res:=Z (.bool true),after:=args}=Z (.bool (true==true))from w_eq_bool (w_res W) w_lit) W
theorem Qc{n:Nat}{q:m8}{loose:List Str}{v:(Str->Option bd)->Heap->Prop}{YP:q3->Heap->Prop}{d:DefRec}(z:l.most=Z n)(k:d.params.defaults=[])(call:∀(w:q3) (s₀ b:d6) (mg m:Str->Option bd) (fa:Addr) (o:Obj) (p h doc:bd) (a:Addr) (c:List bd) (i:List Int),
   Ground q loose [] v w s₀ mg m b.heap->YP w b.heap->
   b.heap.get? fa=Z o->o.data=.func (docDef d.name d.params d.body d.scope p h doc)->b.heap.CodeRec h d.name->mg d.name=Z (.ref fa)->
   b.heap.get? a=Z {cls:=.type "list",data:=.seq c.toArray}->aaX c i->i.length<=n->b.gens= #[]->
   A1 (j1 l.prog w) Wp (.call (.ref fa) ⟨[.ref a],[]⟩) (λr j=>r=.ok (.ret (.bool true))/\OldK b.heap j.heap/\j.os=b.os/\N0 j.gens) b):
  WalkO q loose v YP l.row.toRowW d [] (λf c=>X6 f c):=by
 intro w s₀ b mg m G Y fa o p h doc A kV B C s x t D args vals N e y E u F;obtain rfl:A=.none:=Dflts.none x k;obtain rfl:kV=.none:=Dflts.noKw x;obtain⟨a,c,i,rfl,rfl,g,hints,hlen⟩:=Vf z e u;refine enter_call (aad (call w s₀ b mg m fa o p h doc a c i G Y B (fd_plain C) s t g hints hlen D) λr j H=>?_);obtain⟨rfl,I,J,L⟩:=H;exact⟨.inl ⟨.bool true,.bool true,[],W,λ_=>rfl,.bool true,Vg l _,λ_=>⟨List.Pairwise.nil,λ_ M=>(nomatch M)⟩⟩,I,J,L⟩
end rY
namespace L2
open PySem PySem.Spec PyProof.Rows
theorem Vh{a:List bd}{b:List Int}(h:aaX a b):Vals (b.map V.int) a:=by
 induction h with
 |nil=>exact .nil|cons n t _ c=>exact .cons ⟨t,W⟩ c
def eH(H:Hp):Prop:=∀b,H b=ν∨∃o a,H b=Z (.Di o<|.lst a)
variable{x:Str}{mg:Str->Option bd}{w:q3}{P:m8}{K:yd}
theorem Xb{M:Str->Option bd}{CX:SQ}{k:Nat}{fa a:Addr}{U:m9}{sp:Sp}{c:d6}{l:List bd}{t:List Int}(X:K.In c.heap)(y:c.heap.Ns q8 mg)(g:c.heap.Ns aa5 M)(N:∀x:Str,x≠"__name__"->M x=q7 x)(A:c.heap.NoLimit)(hg:c.gens= #[])(L:c.heap.get? a=Z {cls:=.type "list",data:=.seq l.toArray})(Y:aaX l t)(ζ:t.length<=sizeLine)(hr:CD k Wp)(F:∀base:Heap,K.In base->base.Ns q8 mg->BA P w K mg base CX k fa U [x] sp)(p:∀(s:d6) (u:bd),WF s U ⟨[u],[]⟩ [(x,u)])(O:∀H:Hp,eH H->Ax K H a (t.map V.int)->sp [.ref a] H (λv _=>v=.bl true) λ_ _ _=>False)(Q:∀H e i,CX [] H c (λ_ _ _=>False) e i->False):
  A1 (j1 P w) Wp (.call (.ref fa) ⟨[.ref a],[]⟩) (λr i=>r=.ok (.ret (.bool true))/\OldK c.heap i.heap/\i.os=c.os/\N0 i.gens) c:=by
 have rv:=Vh Y;have B:=Y.length;have core:∀H:Hp,eH H->Ax K H a (t.map V.int)->Hq P w H c.heap->(∀b,H b≠ν->b=a)->(H a≠ν->K.lookup a=ν)->
   A1 (j1 P w) Wp (.call (.ref fa) ⟨[.ref a],[]⟩) (λr i=>r=.ok (.ret (.bool true))/\OldK c.heap i.heap/\i.os=c.os/\N0 i.gens) c:=by
  intro H hO hS C hA hK;have f:∀{b:Addr}{o:Obj},c.heap.get? b=Z o->H b=ν->(OW c.heap H).get? b=Z o:=λe n=>Wy e n;have R:∀{b:Addr}{o:Obj}{D:Array K8}{E:Nat},c.heap.get? b=Z o->o.data=.dict D E->H b=none:=λ{b o D E} e d=>by
   cases q:H b with
   |none=>rfl|some u=>
    have S:b=a:=hA b (by rw[q];simp);subst S;rw[L]at e;cases e;have d':Data.seq l.toArray _=Data.dict D E:=d;cases d'
  have j:∀{b:Addr}{m:Str->Option bd},c.heap.Ns b m->(OW c.heap H).Ns b m:=λ{b m} ⟨o,D,E,e,d,r⟩=>⟨o,D,E,f e (R e d),d,r⟩;have G:K.In (OW c.heap H):=λb o e=>f (X b o e) (by
   cases q:H b with
   |none=>rfl|some u=>
    have S:b=a:=hA b (by rw[q];simp);subst S;rw[hK (by rw[q];simp)]at e;cases e)
  have hM:Mod K mg (OW c.heap H):=⟨G,j y,⟨M,j g,N⟩,let⟨mc,h1,h2⟩:=A;⟨mc,j h1,h2⟩⟩;have e0:aF P w K mg (OW c.heap H) Wp [] c H:=⟨W,hM,λb o e=>Z' e,bm<|VQ _ _,trivial,λb g=>absurd (show b∈([]:List Addr)from g) z_,C,.of_eq hg⟩;refine aad ((F _ G<|j y).run Wp [] c H ⟨[.ref a],[]⟩ [.ref a] [.ref a] _ _ hr e0 (p c<|.ref a) (.cons W .nil)<|O H hO hS) λr i h=>?_;cases r with
  |error e=>exact(Q H e i h).elim|ok fl=>
   cases fl with
   |next=>exact zo h|brk=>exact zo h|cont=>exact zo h|ret u=>
    obtain⟨v,H',os,bare,un,I,r',q⟩:=h;have q':v=.bl true:=q;subst q';obtain rfl:u=x9 true:=r';refine⟨W,OldK.of_keep λb o e=>?_,os,bare⟩;cases q:H b with
    |none=>exact un.keep b o e q (by intro z;exact absurd (show b∈([]:List Addr)from z) z_) z_|some u=>
     rcases hO b with z|⟨ob,xs,z⟩
     .rw[q]at z;cases z
     .have z2:=un.Lg b ob _ z;obtain⟨e1,_⟩:=C b _ z;obtain⟨e2,_⟩:=I b _ z2;rw[e]at e1;cases e1;exact e2
 cases T:K.lookup a with
 |some o=>
  have e:=X a o T;rw[L]at e;cases e;refine core (λ_=>ν) (λ_=>.inl W) (.inr ⟨_,l.toArray,_,T,W,W,W,by rw[b6,B];exact ζ,GE rv⟩) (λb u z=>by have J:(ν:Option HO)=Z u:=z;cases J) (λb z=>absurd W z) λz=>absurd W z
 |none=>
  refine core (λb=>if b=a then Z (.Di {cls:=.type "list",data:=.seq l.toArray}<|.lst<|t.map V.int)else ν) (λb=>?_) (.inl<|.inr ⟨{cls:=.type "list",data:=.seq l.toArray},if_pos W⟩) (λb u z=>?_) (λb z=>?_) λ_=>T
  .by_cases g:b=a
   .exact .inr ⟨_,_,if_pos g⟩
   .exact .inl<|if_neg g
  .by_cases g:b=a
   .have J:=(if_pos g).symm.trans z;cases J;subst g;exact⟨L,by rw[be];exact ζ,l,_,rv,L⟩
   .have J:=(if_neg g).symm.trans z;cases J
  .by_cases g:b=a
   .exact g
   .exact absurd (if_neg g) z
theorem aT{l:aaJ}{n k:Nat}{q:m8}{loose:List Str}{E:(Str->Option bd)->Heap->Prop}{YP:q3->Heap->Prop}{d:DefRec}{K:Params->yd}{CX:q3->SQ}{sp:q3->Sp}(I:l.most=Z n)(m:n<=sizeLine)(p:d.params.defaults=[])(J:CD k Wp)(L:∀(w:q3) (h:Heap),YP w h->(K w.params).In h)(F:∀(w:q3) (mg:Str->Option bd) (fa:Addr) (h:Heap),(K w.params).In h->h.Ns q8 mg->mg d.name=Z (.ref fa)->
   ∃r:m9,(∀(s:d6) (u:bd),WF s r ⟨[u],[]⟩ [(x,u)])/\
    ∀base:Heap,(K w.params).In base->base.Ns q8 mg->BA l.prog w (K w.params) mg base (CX w) k fa r [x] (sp w))(t:∀(w:q3) (H:Hp) (a:Addr) (j:List Int),j.length<=n->eH H->Ax (K w.params) H a (j.map V.int)->sp w [.ref a] H (λv _=>v=.bl true) λ_ _ _=>False)(y:∀(w:q3) (H:Hp) (s:d6) (e:bd) (z:d6),CX w [] H s (λ_ _ _=>False) e z->False):
  abv q loose E YP l.row.toRowW d [] (λf B=>X6 f B):=by
 refine rY.Qc I p λw C c mg S fa o U X doc a B j G Y ζ hd M A i hints hlen N=>?_;have D:=L w _ Y;obtain⟨r,O,P⟩:=F w mg fa _ D G.T.g A;exact Xb D G.T.g G.T.b G.T.builtins G.T.nolimit N i hints (al hlen m) J P O (λH Q R=>t w H a j hlen Q R) λH e z=>y w H c e z
def Ft(s:Stmt):Arguments:=match s with
 | .FunctionDef _ a _ _ _ _ _ _ _ _=>a|_=>{posonlyargs:=[],args:=[],vararg:=ν,kwonlyargs:=[],kw_defaults:=[],kwarg:=ν,defaults:=[]}
def Ek(s:Stmt):List Stmt:=match s with
 | .FunctionDef _ _ b _ _ _ _ _ _ _=>b|_=>[]
def CK(s:Stmt):Scope:=match s with
 | .FunctionDef _ _ _ _ _ _ a _ _ _=>a|_=>{kind:=.function,names:=[],isGenerator:=false,isCoroutine:=false}
abbrev DC:SQ:=λ_ _ _ _ _ _=>False
abbrev E0:XK:=λ_ _ _=>False
variable{X:Cx}
theorem il:Passes DC X E0:=λ_ _ _ _ _ _ _ h=>h.elim
structure Vi(K:yd)(x qual:Str)(st:Stmt)(f:Addr)(fd:m9):Prop where
 ex:∃(oc:bd)(od:Option Addr)(kV doc pm:bd)(an:Option Addr)(rZ ct:bd)(uw:Array (Option bd)),
  fd=y6 x qual (Ft st) (Ek st) (CK st) .none kV doc pm an rZ ct/\K.lookup f=Z ⟨oc,od,.func fd,uw⟩/\E1 K rZ qual=true
 kp:zY K (.ref f)=true
variable{qual:Str}{f:Addr}
section
variable {base:Heap}
theorem Vi.ok{st:Stmt}{j:m9}{N d:List Str}{k:Nat}{sp:Sp}(F:Vi K x qual st f j)(S:LK N d (CK st))(len:∀b H Q E,sp b H Q E->b.length=d.length)(c:∀(a:bd) (A:i8) (outer:List Env) (s:d6) (H:Hp) (b:List V) (e:Ends) (E:XK),(∀{σ H},e.rt .Al H->e.nx σ H)->CD k (A.deeper (Op qual (CK st) s.heap.objs.size f a))->sp b H e.rt E->
   ∃t,OZ (SR DC P w K mg base N qual (CK st) f a A outer s H E).iA (Ek st) t/\t e (start N b) H):BA P w K mg base DC (k+1) f j d sp:=by
 obtain⟨o,p,kV,doc,r,u,a,v,l,rfl,lk,g⟩:=F.ex;refine iP lk g S len λA outer s H b Q E m i=>?_;obtain⟨t,h,q⟩:=c a A outer s H b {nx:=λ_ n=>Q .Al n,rt:=Q} E id m i;exact⟨t,h.iA,q⟩
theorem Vi.binds{st:Stmt}{g:m9}{b:List Str}(F:Vi K x qual st f g)(h:∀(kV doc c:bd) (d:Option Addr) (a ct:bd) (e:List bd),e.length=b.length->abV (y6 x qual (Ft st) (Ek st) (CK st) .none kV doc c d a ct) ⟨e,[]⟩=pure (b.zip e)):Binds K g b []:=by
 obtain⟨k,l,kV,doc,c,d,a,ct,i,rfl,lk,j⟩:=F.ex;exact .all<|h kV doc c d a ct
theorem Xc{st:Stmt}{g:bd}{h d:Option Addr}{b:Array (Option bd)}{kV doc e a ct:bd}(l:K.lookup f=Z ⟨g,h,.func (y6 x qual (Ft st) (Ek st) (CK st) .none kV doc e d a ct),b⟩)(c:E1 K a qual=true)(k:zY K (.ref f)=true):Vi K x qual st f (y6 x qual (Ft st) (Ek st) (CK st) .none kV doc e d a ct):=⟨⟨g,h,kV,doc,e,d,a,ct,b,W,l,c⟩,k⟩
end
theorem ip{A:i8}{k:Nat}(a:CD k A):A.units+1<cLine:=g8 (rs (by decide:1<=64) _) a.units
theorem As{n:Nat}(h:n<=1000):n<sizeLine:=g8 h ac
variable{pos:Pos}
section
theorem pv(i:Nat)(b:X.N[i]?=Z x:=by rfl)(c:lU X.env.scope x:=by first|exact I0 rfl|exact D9 (I0 rfl)|exact D9 (D9 rfl))(d:(x==("__debug__":Str))=false:=by decide)(a:(x==("__classdict__":Str))=false:=by decide):PE X (.Name x pos) (Oa i):=dP b c d a
end
theorem Ah{A B:Prop}(h:B):if false=true then A else B:=by
 rw[if_neg d5];exact h
theorem An{A B:Prop}(h:A):if true=true then A else B:=by
 rw[if_pos W];exact h
theorem Bu{c A B:Prop}[Decidable c](a:c->A)(b:¬c->B):if c then A else B:=by
 by_cases h:c
 .rw[if_pos h];exact a h
 .rw[if_neg h];exact b h
def AF(H H':Hp):Prop:=∀b o,H b=Z o->H' b=Z o
theorem AF.refl(H:Hp):AF H H:=λ_ _ h=>h
variable{H:Hp}
theorem AF.trans{d H2:Hp}(a:AF H d)(b:AF d H2):AF H H2:=λc o h=>b c o<|a c o h
variable{H':Hp}
theorem AF.free(e:AF H H'){l:Addr}(h:H' l=ab0):H l=ab0:=by
 cases q:H l with
 |none=>rfl|some o=>
  rw[e l o q]at h;cases h
theorem AF.seq{a:Addr}{xs:List V}(e:AF H H')(h:Ax K H a xs):Ax K H' a xs:=by
 rcases h with(h|⟨o,h⟩)|h
 .exact .inl<|.inl<|e _ _ h
 .exact .inl<|.inr ⟨o,e _ _ h⟩
 .exact .inr h
section
variable{κ:Type} [DecidableEq κ]
theorem Xd{kvs:List (κ×V)}{k:κ}(h:Cg kvs k=ν):¬k∈kvs.map (·.1):=by
 intro m;obtain⟨p,a,e⟩:=n9.mp m;have q:(kvs.any λb=>decide<|b.1=k)=true:=G6.mpr ⟨p,a,decide_eq_true e⟩;rw[GS,h]at q;exact absurd q z_
theorem aU{kvs:List (κ×V)}{k:κ}{v:V}(h:Cg kvs k=Z v):k∈kvs.map (·.1):=by
 have q:(kvs.any λa=>decide<|a.1=k)=true:=by
  rw[GS,h]
  all_goals rfl
 obtain⟨p,b,e⟩:=G6.mp q;exact n9.mpr ⟨p,b,of_decide_eq_true e⟩
theorem UD:∀{l:List κ}{k:κ},l.Nodup->¬k∈l->(l++[k]).Nodup
 |[],k,_,_=>by simp|a::r,k,h,b=>by
  obtain⟨c,d⟩:=f9.mp h;show(a::(r++[k])).Nodup;refine f9.mpr ⟨λm=>?_,UD d λm=>b<|ce.mpr<|D9 m⟩;rcases am.mp m with q|q
  .exact c q
  .exact b<|ce.mpr<|I0 (ci.mp q).symm
theorem Vj{p:κ×V}{r:List (κ×V)}{k:κ}(e:p.1=k):GQ (p::r) k=GQ r k:=by
 unfold GQ;rw[zw,if_neg<|by simp[e]]
theorem NX{p:κ×V}{r:List (κ×V)}{k:κ}(e:¬p.1=k):GQ (p::r) k=p::GQ r k:=by
 unfold GQ;rw[zw,if_pos<|by simp[e]]
theorem Qd:∀{kvs:List (κ×V)}{k:κ},¬k∈kvs.map (·.1)->GQ kvs k=kvs
 |[],_,_=>rfl|p::r,k,h=>by
  have h':¬k∈r.map (·.1):=λm=>by
   obtain⟨q,a,e⟩:=n9.mp m;exact h<|n9.mpr ⟨q,ce.mpr<|D9 a,e⟩
  rw[NX λe=>h<|n9.mpr ⟨p,ce.mpr<|I0 W,e⟩,Qd h']
end
variable{s:d6}{scope:Scope}
theorem Lx{prog:m8}{A:i8}{R:T6->d6->Prop}{a f iter:r6}{d:List r6}{it b:bd}{env:Env}(e:Nat->d6->Prop)(step:∀n s,e n s->im (j1 prog w) A (abJ it) (λr o=>match r with
   |none=>R (.ok .next) o|some v=>im (j1 prog w) A (J2 f it v) (λ_ p=>im (j1 prog w) A (XV f env v) (λ_ u=>
     im (j1 prog w) A (forIn d true λc r=>if r=true then do let ok<-aa0 c env (y9 c env);pure (zO ok)else pure (zO r)) (λok g=>
      if ok=true then im (j1 prog w) A (y9 a env) (λy i=>im (j1 prog w) A (call (.builtin "list.append") [b,y]) (λ_ j=>∃m,m<n/\e m j) (λ_ _=>False) i) (λ_ _=>False) g
      else∃m,m<n/\e m g) (λ_ _=>False) u) (λ_ _=>False) p) (λ_ _=>False) o) (λ_ _=>False) s)(n:Nat)(h:e n s):A1 (j1 prog w) A (.compLoop (.ListComp a [⟨f,iter,d,0⟩] scope pos) 0 it b env) R s:=by
 have up:∀{B:Type}{t:Sem B}{Q:B->d6->Prop}{E:bd->d6->Prop}{s:d6},im (j1 prog w) A t Q (λ_ _=>False) s->im (j1 prog w) A t Q E s:=
  λh=>y3 h (λ_ _ q=>q) λ_ _ z=>z.elim
 refine codeAny_loop W e (λk s D=>?_) n h;show im _ A ((compTurn (.ListComp a [⟨f,iter,d,0⟩] scope pos) 0 it b env).onRaise λx=>do noteFrame x env;theTreesLotGoes x) _ _ s;refine wpAny_noted ?_;rw[compTurn_list];refine ap (W4<|ap<|y3 (up<|step k s D) (λr o C=>?_) λ_ _ z=>z);cases r with
 |none=>exact e7 C|some v=>
  refine ap (y3 (up C) (λ_ p F=>?_) λ_ _ z=>z);refine ap (y3 (up F) (λ_ u G=>?_) λ_ _ z=>z);refine ap (y3 (up G) (λok g l=>?_) λ_ _ z=>z);cases ok with
  |false=>exact e7 ⟨W,l⟩|true=>
   have l:im (j1 prog w) A (y9 a env) (λy i=>im (j1 prog w) A (call (.builtin "list.append") [b,y]) (λ_ j=>∃m,m<k/\e m j) (λ_ _=>False) i) (λ_ _=>False) g:=l;exact ap<|ap<|y3 (up l) (λy i H=>ap<|y3 (up H) (λ_ j I=>e7<|e7 ⟨W,I⟩) λ_ _ z=>z) λ_ _ z=>z
noncomputable def Dy(cells:List (Str×Addr)):List (Str×NameKind)->List (Str×Addr)->List (Str×Addr)
 |[],a=>a|(n,k)::r,a=>if k==.free then Dy cells r ((n,(cells.lookup n).getD 0)::a)else Dy cells r a
theorem FJ{x:Str}:∀(names:List (Str×NameKind))(a:List (Str×Addr)),(∀p∈names,p.2=.free->∃c,cells.lookup p.1=Z c)-> (∀y d,a.lookup y=Z d->cells.lookup y=Z d)->(Dy cells names a).lookup x=Z c->cells.lookup x=Z c
 |[],a=>λ_ g h=>g x c h|(n,k)::r,a=>λi g h=>by
  unfold Dy at h;by_cases j:(k==x8)=true
  .rw[if_pos j]at h;have o:k=.free:=GE j
   obtain⟨d,q⟩:=i (n,k) e9 o;refine FJ r _ (λp l=>i p<|bi _ l) (λy e f=>?_) h;rw[j8]at f;cases b:y==n with
   |true=>
    rw[b]at f;have:y=n:=GE b
    subst this;have m:D3 y cells=Z d:=q;rw[m]at f⊢;exact f
   |false=>
    rw[b]at f;exact g y e f
  .rw[if_neg j]at h;exact FJ r a (λp l=>i p<|bi _ l) g h
theorem FQ:∀(names:List (Str×NameKind))(a:List (Str×Addr)),((a.lookup x).isSome=true∨(x,x8)∈names)->((Dy cells names a).lookup x).isSome=true
 |[],a,h=>h.elim (λz=>z) λz=>nomatch z
 |(n,k)::r,a,h=>by
  unfold Dy;by_cases b:(k==x8)=true
  .rw[if_pos b];refine FQ r _ ?_;rcases h with h|h
   .refine .inl ?_;rw[j8];cases x==n<;>simp[h]
   .rcases ce.mp h with e|e
    .refine .inl ?_;have:x=n:=congrArg T8 e;subst this;rw[j8];simp
    .exact .inr e
  .rw[if_neg b];refine FQ r _ ?_;rcases h with h|h
   .exact .inl h
   .rcases ce.mp h with e|e
    .have:x8=k:=congrArg aa2 e;subst this;exact absurd W b
    .exact .inr e
theorem EV(h:∀p∈scope.names,p.2=.free->∃c,env.cells.lookup p.1=Z c):closureFor scope env=pure (Dy env.cells scope.names []):=by
 have go:∀(names:List (Str×NameKind))(b:List (Str×Addr)),(∀p∈names,p.2=.free->∃c,env.cells.lookup p.1=Z c)-> (forIn names b (λ(x:Str×NameKind) r=>if(x.2==x8)=true then do let a<-cellOf env x.1;pure (zO ((x.1,a)::r))else pure (zO r)):Sem (List<|Str×Addr))=pure (Dy env.cells names b):=by
  intro names
  induction names with
  |nil=>intro b _;rfl|cons p r j=>
   intro b f;obtain⟨n,k⟩:=p;rw[List.forIn_cons];unfold Dy;by_cases g:(k==x8)=true
   .have l:k=.free:=GE g
    obtain⟨c,d⟩:=f (n,k) e9 l;have d:D3 n env.cells=Z c:=d;have e:cellOf env n=pure c:=by unfold cellOf;rw[d]
    simp only[g,if_true,e,d,Option.getD_some];exact j _ λp i=>f p<|bi _ i
   .simp only[g,if_false];exact j _ λp i=>f p<|bi _ i
 unfold closureFor;exact Eq.trans (congrArg (λt:Sem (List<|Str×Addr)=>t>>=λm=>pure m)<|go scope.names [] h) W
def JD(env:Env)(n:Str)(k:NameKind):NameKind:=if(k==.free&&env.scope.kind==.function&&env.kindOf n==Z .cell)=true then .cell else k
theorem JE{g:Str->NameKind->NameKind}(y:Str):∀names:List (Str×NameKind),(names.map λp=>(p.1,g p.1 p.2)).lookup y=(names.lookup y).map (g y)
 |[]=>rfl|(n,k)::r=>by
  rw[i2,j8,j8];cases e:y==n with
  |true=>
   have:y=n:=GE e
   subst this;rfl
  |false=>exact JE y r
theorem DG(scope:Scope)(env:Env)(y:Str):(Ev scope env).names.lookup y=(scope.names.lookup y).map (JD env y):=by
 have e:(Ev scope env).names=scope.names.map λp=>(p.1,JD env p.1 p.2):=by
  unfold Ev;refine B3 λp _=>?_;obtain⟨n,k⟩:=p;show(if(k==x8&&env.scope.kind==.function&&env.kindOf n==Z .cell)=true then(n,B6)else(n,k))=(n,if(k==x8&&env.scope.kind==.function&&env.kindOf n==Z .cell)=true then B6 else k);by_cases h:(k==x8&&env.scope.kind==.function&&env.kindOf n==Z .cell)=true
  .rw[if_pos h,if_pos h]
  .rw[if_neg h,if_neg h]
 rw[e];exact JE y _
def Cu(σ:St)(fs:List Nat):St:=fs.map λi=>(σ[i]?).join
variable{σ:St}
theorem NY{fs:List Nat}{j:Nat}{v:V}(h:(Cu σ fs)[j]?=Z (Z v)):∃i,fs[j]?=Z i/\σ[i]?=Z (Z v):=by
 unfold Cu at h;rw[f8]at h;cases e:fs[j]? with
 |none=>rw[e]at h;cases h|some i=>
  rw[e]at h;refine⟨i,W,?_⟩;have a:(σ[i]?).join=Z v:=yb h;cases b:σ[i]? with
  |none=>rw[b]at a;cases a|some o=>
   rw[b]at a;have a:o=Z v:=a;rw[a]
noncomputable def kindB:Bool->NameKind
 |true=>.cell|false=>.local
noncomputable def eI:Bool->Str->List (Str×NameKind)
 |true,x=>[(x,.cell)]|false,_=>[]
noncomputable def LC:Bool->Str->Addr->List (Str×Addr)
 |true,x,C=>[(x,C+1)]|false,_,_=>[]
theorem IT:∀(names:List (Str×NameKind))(n:Nat)(a:List (Str×Addr))(h:Heap),names.filter (λp=>p.2==.cell)=[]->A2 n names a=a/\K7 h names=h
 |[],_,_,_,_=>⟨W,W⟩|(y,k)::r,n,a,h,e=>by
  rw[zw]at e;cases b:k==B6 with
  |true=>rw[b]at e;simp at e|false=>
   rw[b]at e;unfold A2 K7;rw[b];exact IT r n a h<|by simpa using e
theorem Na:∀(names:List (Str×NameKind))(n:Nat)(a:List (Str×Addr))(h:Heap),names.filter (λp=>p.2==.cell)=[(x,.cell)]->A2 n names a=(x,n)::a/\K7 h names=h.push {cls:=.type "cell",data:=.cell ν}
 |[],_,_,_,e=>by simp at e|(y,k)::r,n,a,h,e=>by
  rw[zw]at e;cases b:k==B6 with
  |true=>
   rw[b]at e;simp only[if_true,J6,Prod.mk.injEq]at e;unfold A2 K7;rw[b];simp only[if_true];obtain⟨c,d⟩:=IT r (n+1) ((y,n)::a) (h.push {cls:=.type "cell",data:=.cell ν}) e.2;rw[c,d,e.1.1];exact⟨W,W⟩
  |false=>
   rw[b]at e;unfold A2 K7;rw[b];exact Na r n a h<|by simpa using e
variable{E:bd->d6->Prop}
theorem Ly{M:Model}{A:i8}{globals:Addr}{c:List (Str×Addr)}{outer:Env}{Q:Env->d6->Prop}(h:scope.names.filter (λp=>p.2==.cell)=eI b x)(i:∀h':Heap,h'.Ns s.heap.objs.size (λ_=>ν)->(∀a o,s.heap.get? a=Z o->h'.get? a=Z o)->(b=true->h'.IsCell (s.heap.objs.size+1) ν)->
   Q {scope,locals:=s.heap.objs.size,globals,cells:=LC b x s.heap.objs.size++c,qual,func:=ν,code:=outer.code,frame:=outer.frame,builtins:=outer.builtins} {s with heap:=h'}):
  im M A (L4 scope globals c [] qual ν .none (Z outer)) Q E s:=by
 simp only[L4,Y7,if_true];refine ap<|wpAny_alloc ?_;refine ap<|wpAny_layCells _ (λname kind cells=>by cases d:kind==B6<;>simp[d]) _ _ _ _ ?_;rw[List.forIn_nil];refine ap<|e7<|e7 ?_;have sz:(s.heap.push {cls:=.type "dict",data:=.dict #[]}).objs.size=s.heap.objs.size+1:=U6 ..;cases b with
 |false=>
  obtain⟨f,g⟩:=IT scope.names (s.heap.push {cls:=.type "dict",data:=.dict #[]}).objs.size c (s.heap.push {cls:=.type "dict",data:=.dict #[]}) h;show Q {scope:=_,locals:=_,globals:=_,cells:=A2 (s.heap.push {cls:=.type "dict",data:=.dict #[]}).objs.size scope.names c,qual:=_,func:=_,code:=_,frame:=_,builtins:=_} {s with heap:=K7 (s.heap.push {cls:=.type "dict",data:=.dict #[]}) scope.names};rw[f,g];exact i _ (Heap.Ns.new s.heap<|.type "dict") (λa o e=>d0 _ e) (λz=>nomatch z)
 |true=>
  obtain⟨f,g⟩:=Na scope.names (s.heap.push {cls:=.type "dict",data:=.dict #[]}).objs.size c (s.heap.push {cls:=.type "dict",data:=.dict #[]}) h;show Q {scope:=_,locals:=_,globals:=_,cells:=A2 (s.heap.push {cls:=.type "dict",data:=.dict #[]}).objs.size scope.names c,qual:=_,func:=_,code:=_,frame:=_,builtins:=_} {s with heap:=K7 (s.heap.push {cls:=.type "dict",data:=.dict #[]}) scope.names};rw[f,g,sz];exact i _ ((Heap.Ns.new s.heap<|.type "dict").push _) (λa o e=>d0 _<|d0 _ e) λ_=>⟨_,by rw[<-sz];exact i7 _ W,W⟩
structure EW(X:Cx)(scope:Scope)(x:Str)(fv:List Str)(fs:List Nat)(b:Bool:=false):Prop where
 kind:scope.kind=.function
 rg:scope.names.filter (λp=>p.2==.cell)=eI b x
 names:∀p∈scope.names,p.2=.local->scope.names.lookup p.1=Z .local
 tg:scope.names.lookup x=Z (kindB b)
 free:∀p∈scope.names,p.2=.free->X.env.scope.names.lookup p.1=Z .cell
 nd:(x::fv).Nodup
 oQ:∀(j:Nat) y,fv[j]?=Z y->∃i,fs[j]?=Z i/\X.N[i]?=Z y/\scope.names.lookup y=Z .free
 len:fv.length=fs.length
def UE(a:Scope)(N:List Str)(scope:Scope)(x:Str)(fv:List Str)(fs:List Nat)(b:Bool:=false):Bool:=
 scope.kind==.function&&scope.names.filter (λp=>p.2==.cell)==eI b x&&(scope.names.all λp=>p.2 !=.local||scope.names.lookup p.1==Z .local)&&scope.names.lookup x==Z (kindB b)&&
 (scope.names.all λp=>p.2 !=.free||a.names.lookup p.1==Z .cell)&&decide (x::fv).Nodup&&fs.map (N[·]?)==fv.map Z&&(fv.all λy=>scope.names.lookup y==Z .free)
theorem EW.of(h:UE X.env.scope X.N scope x fv fs b=true):EW X scope x fv fs b:=by
 unfold UE at h;simp only[g9,t9,aaV,bne_iff_ne,beq_iff_eq,decide_eq_true_eq]at h;obtain⟨⟨⟨⟨⟨⟨⟨i,k⟩,m⟩,n⟩,o⟩,q⟩,g⟩,r⟩:=h;have hlen:fs.length=fv.length:=by
  have:=congrArg ww g;simpa using this
 refine⟨i,k,λp c d=>(m p c).resolve_left λz=>z d,n,λp c d=>(o p c).resolve_left λz=>z d,q,λj y e=>?_,hlen.symm⟩;have s:j<fv.length:=(ya e).1;have f:=congrArg (λl=>l[j]?) g;simp only[f8,e]at f;have a:j<fs.length:=by lia
 rw[yZ a]at f;refine⟨fs[j],yZ a,?_,r y<|yc e⟩;simpa using f
abbrev Dq(X:Cx)(ex:List (Str×Addr))(N':List Str)(scope:Scope)(C:Addr)(s0:d6)(H0:Hp)(fp:List Addr):Cx where
 prog:=X.prog
 w:=X.w
 K:=X.K
 mg:=X.mg
 base:=X.base
 A:=X.A
 N:=N'
 s₀:=s0
 H₀:=H0
 env:=abU scope (ex++Dy X.env.cells scope.names []) C X.env
 outer:=X.stack
 stack:=X.stack
 ex:=fp
 fn:=λy=>(ex.lookup y).isSome
 calm:=X.calm
 pn:=[]
 xe:=λ_ _=>False
abbrev FH(X:Cx)(a:List Str)(scope:Scope)(C:Addr)(b:d6)(c:Hp)(d:List Addr):Cx:=Dq X [] a scope C b c d
variable{pins:List (Addr×Obj)}{fv:List Str}
section
variable {s':d6} {fs:List Nat} {fp:List Addr} {b:Bool}
theorem EW.cells(ok:EW X scope x fv fs b)(I:Inv X pins σ H s):∀p∈scope.names,p.2=.free->∃c,X.env.cells.lookup p.1=Z c:=λp a d=>I.ok.has p.1<|.inl<|ok.free p a d
theorem EW.look(ok:EW X scope x fv fs b)(I:Inv X pins σ H s)(h:(Dy X.env.cells scope.names []).lookup y=Z c):X.env.cells.lookup y=Z c:=
 FJ scope.names [] (ok.cells I) (λ_ _ z=>by cases z) h
theorem Lz(h:(LC b x C).lookup y=Z c):b=true/\y=x/\c=C+1:=by
 cases b with
 |false=>cases h|true=>
  have h:(D3 y [(x,C+1)])=Z c:=h;rw[j8]at h;cases e:y==x with
  |true=>rw[e]at h;cases h;exact⟨W,eq_of_beq e,W⟩|false=>rw[e]at h;cases h
theorem Sb(ok:EW X scope x fv fs b)(I:Inv X pins σ H s)(E:∀b∈fp,GB X pins H b)(A:∀b∈fp,∃o,s.heap.get? b=Z o){w:Heap}{m:Str->Option bd}{tk:Nat}(S:w.Ns s.heap.objs.size m)(kept:∀b o,s.heap.get? b=Z o->w.get? b=Z o)(B:b=true->w.IsCell (s.heap.objs.size+1) ν):Inv (Dq X (LC b x s.heap.objs.size) (x::fv) scope s.heap.objs.size s H fp) [] (ν::Cu σ fs) H {s with heap:=w,toks:=tk}:=by
 have C:∀{y c},(LC b x s.heap.objs.size++Dy X.env.cells scope.names []).lookup y=Z c->X.env.cells.lookup y=Z c∨(b=true/\y=x/\c=s.heap.objs.size+1):=λ{y c} h=>by
  rw[Db]at h;cases e:(LC b x s.heap.objs.size).lookup y with
  |some d=>rw[e]at h;cases h;exact .inr (Lz e)|none=>rw[e]at h;exact .inl (ok.look I (GE h))
 have lt:∀{y c},X.env.cells.lookup y=Z c->c<s.heap.objs.size:=λh=>by obtain⟨_,o,n,_⟩:=I.cell _ _ h;exact g6 n
 have G:X.env.scope.kind=.function:=I.ok.kind;refine⟨⟨I.ok.mod,ok.kind,I.ok.glob,I.ok.blt,b5 _,λy z c w T=>?_,λy f=>?_,λy c t h=>?_,I.ok.hd,I.ok.frames,.inl W,λb g=>⟨?_,λy c e z=>?_⟩,I.bs,
  al I.ok.Zt I.sz,λb o e g=>?_,λb g J=>?_,I.stack,I.OY⟩,W,I.bare,Un.kept kept,⟨m,S,λi y v F q e3=>?_⟩,λy c e=>?_,I.fresh,λy c e=>?_,λp U=>absurd (show p∈([]:List (Addr×Obj))from U) z_,I.Bi.kept kept,?_⟩
 .rcases C w with a|⟨_,a1,a2⟩<;>rcases C T with d|⟨_,Y,d2⟩
  .exact I.ok.inj y z c a d
  .have:=lt a;lia
  .have:=lt d;lia
  .rw[a1,Y]
 .have f:(Ev scope X.env).names.lookup y=Z .cell∨(Ev scope X.env).names.lookup y=Z .free:=f;rw[DG]at f;cases e:scope.names.lookup y with
  |none=>rw[e]at f;rcases f with z|z<;>cases z
  |some k=>
   show∃c,(LC b x s.heap.objs.size++Dy X.env.cells scope.names []).lookup y=Z c;rw[Db];rw[e]at f;have f:JD X.env y k=.cell∨JD X.env y k=.free:=f.elim (λz=>.inl<|yb z) λz=>.inr<|yb z;by_cases L:k=.free
   .subst L;have:=FQ (cells:=X.env.cells) scope.names []<|.inr<|o0 e;obtain⟨c,ζ⟩:=gt.mp this;rw[ζ];cases(LC b x s.heap.objs.size).lookup y<;>exact⟨_,W⟩
   .have q:JD X.env y k=k:=by
     unfold JD;have:(k==x8)=false:=GE L
     rw[this];rfl
    rw[q]at f;rcases f with z|z
    .subst z;have M:(y,B6)∈scope.names.filter (λp=>p.2==.cell):=J5.mpr ⟨o0 e,W⟩;rw[ok.rg]at M;cases b with
     |false=>cases M|true=>
      have:y=x:=congrArg T8<|ci.mp M;subst this;exact⟨s.heap.objs.size+1,by show(D3 y [(y,s.heap.objs.size+1)]).or _=_;rw[j8];simp⟩
    .exact absurd z L
 .have t:((LC b x s.heap.objs.size).lookup y).isSome=true:=t;obtain⟨d,hd⟩:=gt.mp t;have h:(LC b x s.heap.objs.size++Dy X.env.cells scope.names []).lookup y=Z c:=h;rw[Db,hd]at h;cases h;obtain⟨_,_,rfl⟩:=Lz hd;exact UV _
 .obtain⟨o,n⟩:=A b g;exact i9<|g6 n
 .rcases C e with a|⟨_,_,a2⟩
  .exact(E b g).2.2.2.2.1 y c a z
  .obtain⟨o,n⟩:=A b g;have:=g6 n;lia
 .rcases(E b g).2.2.2.1 with z|z
  .exact I.ok.VR b o e z
  .exact absurd (bn (g6 e)<|al I.ok.Zt z)<|rc _
 .rcases ce.mp (I.OX b J)with z|z
  .exact(E b g).2.1 z
  .exact(E b g).2.2.1 z
 .cases i with
  |zero=>
   have q:(Z ν:Option (Option V))=Z (Z v):=q;cases q
  |succ j=>
   have F:fv[j]?=Z y:=F;have q:(Cu σ fs)[j]?=Z (Z v):=q;obtain⟨i,ξ,g2⟩:=NY q;obtain⟨i',R,g4,N⟩:=ok.oQ j y F;rw[ξ]at R;cases R;have O:X.env.scope.names.lookup y=Z .cell:=ok.free (y,.free) (o0 N) W;obtain⟨m0,_,P⟩:=I.loc;obtain⟨u,r,l⟩:=P i y v g4 g2<|.inr<|.inl O;refine⟨u,r,?_⟩;rcases l with⟨k,_⟩|⟨_,c,e,o,n,hd⟩
   .have k:X.env.scope.names.lookup y=Z .local:=k;rw[O]at k;cases k
   .obtain⟨c',D⟩:=gt.mp<|FQ (cells:=X.env.cells) scope.names []<|.inr<|o0 N;have:=ok.look I D;rw[e]at this;cases this;have ny:(LC b x s.heap.objs.size).lookup y=none:=by
     cases ey:(LC b x s.heap.objs.size).lookup y with
     |none=>rfl|some d=>
      obtain⟨_,z,_⟩:=Lz ey;exact absurd (show x∈fv from z▸yc (l:=fv) (show fv[j]?=Z y from F)) (f9.mp ok.nd).1
    refine .inr ⟨.inl ?_,c,by show(LC b x s.heap.objs.size++Dy X.env.cells scope.names []).lookup y=Z c;rw[Db,ny];exact D,o,kept _ _ n,hd⟩;show(Ev scope X.env).names.lookup y=Z .cell;rw[DG,N];show Z (JD X.env y .free)=_;have Q:X.env.kindOf y=Z .cell:=O;unfold JD;rw[G,Q];rfl
 .rcases C e with a|⟨g,_,rfl⟩
  .obtain⟨v,o,n,hd⟩:=I.cell y c a;exact⟨v,o,kept _ _ n,hd⟩
  .exact⟨ν,B g⟩
 .rcases C e with a|⟨_,_,rfl⟩
  .exact I.GJ y c a
  .exact I.Bi.fresh<|UV _
 .show(ν::Cu σ fs).length=(x::fv).length;simp[Cu,ok.len]
theorem L_(I:Inv X pins σ H s)(a:∀b∈fp,GB X pins H b)(c:Inv (Dq X ex g scope C s H fp) [] e H' s'):Inv X pins σ H' s':=
 I.hV (ch:=fp) c.os c.base c.Bi c.bare λb d=>⟨(a b d).2.2.2.1,(a b d).2.1,(a b d).2.2.2.2.1,(a b d).2.2.2.2.2⟩
theorem Inv.off(I:Inv X pins σ H s)(f:GB X pins H C)(a:K5 C s.heap h'):Inv X pins σ H {s with heap:=h'}:=
 I.turned (t':=s.toks) (λb o c e=>a.extBut b o c e) f.1 (λz=>f.2.1 z) f.2.2.2.1 f.2.2.2.2.1 f.2.2.2.2.2
end
def aV(X:Cx)(a:List r6)(t:TT):Prop:=
 ∀(pins:List (Addr×Obj))(s:d6)(b:St)(H:Hp)(Q:Bool->Hp->Prop),Inv X pins b H s->t b H Q->
  im (j1 X.prog X.w) X.A (forIn a true λc r=>if r=true then do let ok<-aa0 c X.env (y9 c X.env);pure (zO ok)else pure (zO r)) (TP X pins b Q) X.xe s
def Vk:TT:=λ_ H Q=>Q true H
theorem UG:aV X [] Vk:=λ_ _ _ H _ I h=>wpAny_tests_nil ⟨H,I,h⟩
theorem JF(h:PT X c t):aV X [c] t:=λpins s a H Q I q=>wpAny_tests_one<|h pins s a H Q I q
def Jy(J:It)(g:TT)(h:TE)(fs:List Nat)(σ:St)(H:Hp)(Q:VK):Prop:=∀D,H D=ν->∃ξ:Nat->Nat->Hp->Prop,(∃m,ξ 0 m (upd H D (.lst [])))/\∀i m a,ξ i m a-> (J.stop i a/\Q (.ref D) a)∨(J.go i a/\∀v d,J.cV i a v d->g (Z v::Cu σ fs) d λok e=>
  if ok=true then h (Z v::Cu σ fs) e λy f=>∃c,f D=Z (.lst c)/\c.length<sizeLine/\∃b,b<m/\ξ (i+1) b (upd f D (.lst (c++[y])))else∃b,b<m/\ξ (i+1) b e)
def Qe(b:TI)(c:TT)(d:TE)(fs:List Nat):TE:=λa H Q=>b a H λJ e=>Jy J c d fs a e Q
variable{Q:VK}{J:It}
section
variable {elt iter:r6} {px:Pos} {ifs:List r6} {fs:List Nat} {wi:TI} {te:TE} {tc:TT}
theorem Qf(hc:X.calm=true)(ok:EW X scope x fv fs b)(oR:∀C s0 H0 f,aV (Dq X (LC b x C) (x::fv) scope C s0 H0 f) ifs tc)(he:∀C s0 H0 f,PE (Dq X (LC b x C) (x::fv) scope C s0 H0 f) elt te){it:Addr}{f:List Addr}{F:Nat->Heap->Prop}(I:Inv X pins σ H s)(T:Turn X.prog X.w X.K (.Name x px) J f it F)(st:F 0 s.heap)(hf:∀b∈f,GB X pins H b)(rd:Jy J tc te fs σ H Q){RR:bd->Addr->T6->d6->Prop}(oT:∀D C t H',Inv X pins σ H' t->GB X pins H' C->(∃m,t.heap.Ns C m)->Q (.ref D) H'->RR (.ref D) C (.ok .next) t):
  im (j1 X.prog X.w) X.A (newList []) (λG c=>im (j1 X.prog X.w) X.A (L4 scope X.env.globals (Dy X.env.cells scope.names []) [] X.env.qual ν .none (Z X.env)) (λh s4=>
   A1 (j1 X.prog X.w) X.A (.compStart (.ListComp elt [⟨.Name x px,iter,ifs,0⟩] scope pos) 0 (.ref it) G {h with scope:=Ev scope X.env}) (RR G h.locals) s4) E c) E s:=by
 obtain⟨ξ,⟨m0,w0⟩,turn⟩:=rd s.heap.objs.size I.fresh;have Y:Inv X pins σ (upd H s.heap.objs.size<|.lst []) {s with heap:=s.heap.push {cls:=.type "list",dict:=ν,data:=.seq ([]:List bd).toArray}}:=I.dw (its:=[]) (ys:=[]) (t':=s.toks) .nil<|gU _;refine yf ?_;show im _ _ _ _ _ ({s with heap:=s.heap.push {cls:=.type "list",dict:=ν,data:=.seq ([]:List bd).toArray}}:d6);generalize oU:({s with heap:=s.heap.push {cls:=.type "list",dict:=ν,data:=.seq ([]:List bd).toArray}}:d6)=c at Y⊢;refine Ly ok.rg λh1 oV kept L=>?_;have eh:c.heap=s.heap.push {cls:=.type "list",dict:=ν,data:=.seq ([]:List bd).toArray}:=by rw[<-oU]
 have M:∀b o,s.heap.get? b=Z o->c.heap.get? b=Z o:=λb o e=>by rw[eh];exact d0 _ e
 have oW:∀b∈f,∃o,c.heap.get? b=Z o:=λb d=>let⟨o,ho,_⟩:=T.obj 0 _ st b d;⟨o,M b o ho⟩;have gb:∀b∈f,b≠s.heap.objs.size:=λb d=>let⟨o,ho,_⟩:=T.obj 0 _ st b d;i9<|g6 ho;have j:∀b∈f,GB X pins (upd H s.heap.objs.size<|.lst []) b:=λb d=>⟨by rw[AM<|gb b d];exact(hf b d).1,(hf b d).2⟩;have ζ:=Sb (tk:=c.toks) ok Y j oW oV kept L;have N:F 0 h1:=T.keep 0 _ _ st λb d o e=>kept b o<|M b o e;have g:∀{H':Hp},(∀b∈f,H' b=ν)->∀a∈f,GB (Dq X (LC b x c.heap.objs.size) (x::fv) scope c.heap.objs.size c (upd H s.heap.objs.size<|.lst []) f) [] H' a:=λhn b d=>
  ⟨hn b d,(ζ.ok.gX b d).1,ζ.ok.VS b d,.inl d,(ζ.ok.gX b d).2,λp hp=>absurd hp z_⟩
 have hg:PG (Dq X (LC b x c.heap.objs.size) (x::fv) scope c.heap.objs.size c (upd H s.heap.objs.size<|.lst []) f) (.Name x px) (Bv 0):=by
  have tg:=ok.tg;cases b with
  |false=>exact Gi ok.nd W (.inl (yt tg)) (.inr (yt tg))|true=>exact Gi ok.nd W (.inr (show(Ev scope X.env).names.lookup x=_ from by rw[DG,tg];rfl)) (.inl (show(D3 x [(x,c.heap.objs.size+1)]).isSome=true from by rw[j8];simp))
 have loop:A1 (j1 X.prog X.w) X.A (.compLoop (.ListComp elt [⟨.Name x px,iter,ifs,0⟩] scope pos) 0 (.ref it) (.ref s.heap.objs.size)<|abU scope (LC b x c.heap.objs.size++Dy X.env.cells scope.names []) c.heap.objs.size X.env) (RR (.ref s.heap.objs.size) c.heap.objs.size)
   {c with heap:=h1}:=by
  refine Lx (λn t=>∃i o H',Inv (Dq X (LC b x c.heap.objs.size) (x::fv) scope c.heap.objs.size c (upd H s.heap.objs.size<|.lst []) f) [] (o::Cu σ fs) H' t/\F i t.heap/\(∀b∈f,H' b=ν)/\ξ i n H') ?_ m0
   ⟨0,ν,_,ζ,N,λb d=>(j b d).1,w0⟩
  rintro n s5 ⟨i,o,H5,I5,O,P,w5⟩;rcases turn i n H5 w5 with⟨stop,q⟩|⟨go,step⟩
  .refine CF (T.done (Dq X (LC b x c.heap.objs.size) (x::fv) scope c.heap.objs.size c (upd H s.heap.objs.size<|.lst []) f) W W W hc i [] s5 _ H5 _ I5 (g P) O stop) λr s6 ⟨hr,I6⟩=>?_;subst hr;obtain⟨m,hm,_⟩:=I6.loc;exact oT _ _ s6 H5 (L_ Y j I6) (Y.SJ (b5 _) I6.free) ⟨m,hm⟩ q
  .refine CF (T.item (Dq X (LC b x c.heap.objs.size) (x::fv) scope c.heap.objs.size c (upd H s.heap.objs.size<|.lst []) f) W W W hc i [] s5 _ H5 _ I5 (g P) O go) λr s6 ⟨u,hr,h6⟩=>?_;subst hr;refine CF h6 λ_ s7 ⟨v,H7,I7,r7,y7,k,oX⟩=>?_;have oY:=I7.pinned (g oX)<|T.obj _ _ k;have back:∀{R:St}{z:Hp}{S:d6},Inv (Dq X (LC b x c.heap.objs.size) (x::fv) scope c.heap.objs.size c (upd H s.heap.objs.size<|.lst []) f) ([]++Jv f s7.heap) R z S->F (i+1) S.heap/\∀b∈f,z b=none:=λ{R z S} B=>
    ⟨T.keep _ _ _ k λb d o e=>(B.pin (b,o) (EU d e)).1,λb d=>by
     obtain⟨o,e,_⟩:=T.obj _ _ k b d;exact(B.pin (b,o) (EU d e)).2.1⟩
   refine CF (hg _ s7 _ H7 v u (fun σ2 H2=>σ2=Z v::Cu σ fs/\H2=H7) oY r7 ⟨W,W⟩) λ_ s8 ⟨σ8,H8,I8,e8,oZ⟩=>?_;subst e8 oZ;refine CF (oR _ _ _ _ _ s8 _ H8 _ I8<|step v H8 y7) λok S ⟨z,B,q9⟩=>?_;cases ok with
   |false=>
    obtain⟨m',l,w9⟩:=q9;obtain⟨b1,b2⟩:=back B;exact⟨m',l,i+1,Z v,z,B.FU,b1,b2,w9⟩
   |true=>
    refine CF (he _ _ _ _ _ S _ z _ B q9) λy s10 ⟨yv,U,og,r10,ys,hD,hz,m',l,w10⟩=>?_;refine CF (Jx _ s10 _ U (.ref s.heap.objs.size) [yv] (.ref s.heap.objs.size) [y] (λ_ H'=>H'=upd U s.heap.objs.size (.lst<|ys++[yv])) og W (.cons r10 .nil) ⟨_,ys,yv,W,W,hD,hz,W⟩) λ_ s11 ⟨_,gc,V,_,e11⟩=>?_;subst e11;obtain⟨b1,b2⟩:=back V;exact⟨m',l,i+1,Z v,_,V.FU,b1,b2,w10⟩
 exact Q0 loop<|T.self _ 0 _ _ _ N loop
theorem Xe(b:Bool)(i:X.calm=true)(ok:EW X scope x fv fs b)(j:PI X (.Name x px) iter wi)(c:∀C d e a,aV (Dq X (LC b x C) (x::fv) scope C d e a) ifs tc)(k:∀C d e a,PE (Dq X (LC b x C) (x::fv) scope C d e a) elt te)(l:∀x,yh iter X.env x=pure x:=by intro _;rfl):PE X (.ListComp elt [⟨.Name x px,iter,ifs,0⟩] scope pos) (Qe wi tc te fs):=by
 intro pins s n H Q I h;rw[abq];refine B8 (use:=ν) W l (EV<|ok.cells I) ok.kind ok.names (CF (j pins s n H _ I h) λB E o=>CF o λp F r=>?_);obtain⟨G,a,L,J,M,rfl,t,T,f,u,v⟩:=r;exact Qf i ok c k t T f u v λD C N w y z ⟨m,A⟩ q=>⟨m,A,λO g=>⟨.ref D,w,y.off z g,W,q⟩⟩
theorem UH(e:X.calm=true)(ok:EW X scope x fv fs)(f:PI X (.Name x px) iter wi)(a:∀C b c d,aV (FH X (x::fv) scope C b c d) ifs tc)(g:∀C b c d,PE (FH X (x::fv) scope C b c d) elt te)(h:∀x,yh iter X.env x=pure x:=by intro _;rfl):PE X (.ListComp elt [⟨.Name x px,iter,ifs,0⟩] scope pos) (Qe wi tc te fs):=Xe false e ok f a g h
theorem Qg(b:Bool){d c:Pos}(M:X.calm=true)(ok:EW X scope x fv fs b)(O:X.N.Nodup)(l:X.N[i]?=Z y)(P:Loc X.env.scope y)(R:PI X (.Name x px) iter wi)(n:∀C o p j,aV (Dq X (LC b x C) (x::fv) scope C o p j) ifs tc)(S:∀C o p j,PE (Dq X (LC b x C) (x::fv) scope C o p j) elt te)(r:O5 (.ListComp elt [⟨.Name x px,iter,ifs,0⟩] scope pos) (Z (.Name y d)) c.line X.env=pure true:=by rfl)(t:X.fn y=true∨X.env.scope.names.lookup y=Z .local:=by first|exact .inl rfl|exact .inr rfl|assumption)(U:∀x,yh iter X.env x=pure x:=by intro _;rfl):PS X (.Assign [.Name y d] (.ListComp elt [⟨.Name x px,iter,ifs,0⟩] scope pos) c) (λD f H=>Qe wi tc te fs f H λv g=>D.nx (f.set i (Z v)) g):=by
 intro pins s f H D I h;rw[exec_Assign_Name_used _ _ _ _ r];refine ap<|W4<|ap ?_;show im _ X.A (comprehension (.ListComp elt [⟨.Name x px,iter,ifs,0⟩] scope pos) scope X.env _ (newList []) false (y9 iter X.env) (Z<|XV (.Name y d) X.env)>>=λ_=>pure ()) _ _ s;refine ap (CF (B8 (use:=Z<|XV (.Name y d) X.env) (Q:=λ_ k=>SP X pins D .next k) W U (EV<|ok.cells I) ok.kind ok.names<|CF (R pins s f H _ I h) λxv s1 V=>CF V λY s2 ζ=>?_) λ_ k ξ=>e7<|e7 ξ);obtain⟨it,j,tn,J,H2,rfl,I2,T,u,f2,rd⟩:=ζ;refine Qf (Q:=λv g=>D.nx (f.set i<|some v) g) M ok n S I2 T u f2 rd λL C k g I' w ⟨m,hm⟩ q=>?_;show im _ X.A (XV (.Name y d) X.env<|.ref L) _ _ k;refine aaj<|NM I' O l P (v:=.ref L) W (λlb B ⟨a,E,ha⟩=>?_) t;have F:C≠a:=by
  rcases ha with z|z
  .rw[z];exact w.2.1
  .exact λe=>w.2.2.2.2.1 y a z e.symm
 exact⟨m,hm.sameBut E F,λh' G=>⟨_,g,B.off w G,q⟩⟩
theorem Gm{j a:Pos}(l:X.calm=true)(ok:EW X scope x fv fs)(m:X.N.Nodup)(b:X.N[i]?=Z y)(n:Loc X.env.scope y)(o:PI X (.Name x px) iter wi)(c:∀C d e f,aV (FH X (x::fv) scope C d e f) ifs tc)(p:∀C d e f,PE (FH X (x::fv) scope C d e f) elt te)(g:O5 (.ListComp elt [⟨.Name x px,iter,ifs,0⟩] scope pos) (Z (.Name y j)) a.line X.env=pure true:=by rfl)(h:X.fn y=true∨X.env.scope.names.lookup y=Z .local:=by first|exact .inl rfl|exact .inr rfl|assumption)(q:∀x,yh iter X.env x=pure x:=by intro _;rfl):PS X (.Assign [.Name y j] (.ListComp elt [⟨.Name x px,iter,ifs,0⟩] scope pos) a) (λD k H=>Qe wi tc te fs k H λv r=>D.nx (k.set i (Z v)) r):=Qg false l ok m b n o c p g h q
end
theorem Nf{k:TT}{f:TE}{fs:List Nat}(item g:Nat->V)(p:Nat->Bool)(y:n<=sizeLine)(h:∀i D ys,i<n->H D=ν->J.go i (upd H D (.lst ys)))(q:∀i D ys v H',i<n->H D=ν->J.cV i (upd H D (.lst ys)) v H'->v=item i/\H'=upd H D (.lst ys))(j:∀D ys,H D=ν->J.stop n (upd H D (.lst ys)))(r:∀i D ys (R:Bool->Hp->Prop),i<n->H D=ν->R (p i) (upd H D (.lst ys))->k (Z (item i)::Cu σ fs) (upd H D (.lst ys)) R)(s:∀i D ys (R:VK),i<n->H D=ν->p i=true->R (g i) (upd H D (.lst ys))->f (Z (item i)::Cu σ fs) (upd H D (.lst ys)) R)(t:∀D,H D=ν->Q (.ref D) (upd H D (.lst (((pu n).filter p).map g)))):
  Jy J k f fs σ H Q:=by
 intro D c;refine⟨λi m l=>m=n-i/\i<=n/\l=upd H D (.lst<|((pu i).filter p).map g),⟨n,z_⟩,?_⟩;rintro i m l ⟨rfl,z,rfl⟩;by_cases a:i<n
 .refine .inr ⟨h i D _ a c,λv u w=>?_⟩;obtain⟨rfl,rfl⟩:=q i D _ v u a c w;refine r i D _ _ a c ?_;have o:∀b,p i=b->((pu<|i+1).filter p).map g=((pu i).filter p).map g++(if b=true then[g i]else[]):=λb d=>by
   rw[J3,List.filter_append,ca];cases b with
   |true=>simp[d]|false=>simp[d]
  cases d:p i with
  |false=>
   show∃x,x<n-i/\_;refine⟨n-(i+1),y_,W,a,?_⟩;rw[o false d];simp
  |true=>
   show f _ _ _;refine s i D _ _ a c d ⟨_,AD,?_,n-(i+1),y_,W,a,?_⟩
   .rw[be];have:=S8 p<|pu i;rw[aaq]at this;lia
   .rw[Z_,o true d];simp
 .have e:i=n:=by lia
  subst e;exact .inl ⟨j D _ c,t D c⟩
theorem AF.put(s:AF a c)(h:a D=ν):AF a (upd c D o):=λb u e=>by
 rw[AM<|Am e h];exact s b u e
theorem AF.new(h:H D=ν):AF H (upd H D o):=(AF.refl H).put h
variable{a:Type _}
theorem HK(l:List a)(i:Nat)(h:i<l.length):∃x,l[i]?=Z x:=⟨_,yZ h⟩
theorem HL{l:List a}{i:Nat}{x:a}(h:l[i]?=Z x):i<l.length:=(ya h).1
theorem Wx.mk{o:HO}(k:∀p H',H p=ν->AF H H'->H' p=Z o->Q (.ref p) H'):Wx H o Q:=λp a=>k p _ a (AF.new a) AD
theorem AF.tup{K:yd}{H H':Hp}{a:Addr}{xs:List V}(e:AF H H')(h:Ae K H a xs):Ae K H' a xs:=by
 rcases h with(h|⟨o,h⟩)|h
 .exact .inl<|.inl<|e _ _ h
 .exact .inl<|.inr ⟨o,e _ _ h⟩
 .exact .inr h
theorem Xf{f:TE}{fs:List Nat}(item:Nat->V)(Ok:Nat->V->Prop)(B:n<=sizeLine)(g:∀i H2,i<n->AF H H2->J.go i H2)(t:∀i H2 v H',i<n->AF H H2->J.cV i H2 v H'->v=item i/\H'=H2)(h:∀H2,AF H H2->J.stop n H2)(u:∀i H2 (R:VK),i<n->AF H H2->(∀y d,AF H2 d->Ok i y->R y d)->f (Z (item i)::Cu σ fs) H2 R)(w:∀D H2 ys,H D=ν->AF H H2->H2 D=Z (.lst ys)->ys.length=n->(∀(i:Nat) y,ys[i]?=Z y->Ok i y)->Q (.ref D) H2):
  Jy J Vk f fs σ H Q:=by
 intro D k;refine⟨λi m H2=>m=n-i/\i<=n/\AF H H2/\∃ys,H2 D=Z (.lst ys)/\ys.length=i/\∀(j:Nat) y,ys[j]?=Z y->Ok j y,⟨n,z_,gU _,AF.new k,[],AD,W,λj y z=>by simp at z⟩,?_⟩;rintro i m H2 ⟨rfl,C,c,ys,o,p,r⟩;by_cases a:i<n
 .refine .inr ⟨g i H2 a c,λv d x=>?_⟩;obtain⟨rfl,rfl⟩:=t i H2 v d a c x;show f _ _ _;refine u i _ _ a c λy E s l=>⟨ys,s _ _ o,y_,n-(i+1),y_,W,a,(c.trans s).put k,ys++[y],AD,by simp[p],λj z b=>?_⟩;by_cases A:j<ys.length
  .rw[i4 A]at b;exact r j z b
  .rw[ii y_]at b;have e:j-ys.length=0:=by
    cases q:j-ys.length with
    |zero=>rfl|succ F=>rw[q]at b;simp at b
   rw[e]at b;have:y=z:=GE b
   subst this;have:j=i:=by lia
   subst this;exact l
 .have e:i=n:=by lia
  subst e;exact .inl ⟨h H2 c,w D H2 ys k c o p r⟩
open Builtin Builtin.Str
theorem aW(n m:Nat):max 0 (min (m:Int) (n:Int))=((min m n:Nat):Int):=by
 rw[Int.max_eq_right<|Int.le_min.mpr ⟨j9 _,j9 _⟩];by_cases h:m<=n
 .rw[zM h,Re<|y8.mpr h]
 .rw[F7<|G0 h,aaD<|y8.mpr<|G0 h]
theorem Xg(n:Nat)(h:i<0):max 0 (min (i+(n:Int)) (n:Int))=(((i+(n:Int)).toNat:Nat):Int):=by
 rw[Re y_,aaC,Int.max_comm]
theorem Xh(l u:Option Int)(n:Nat):strSliceIndices l u 1 n=(pu (HT.Ci n n u-HT.Ci n 0 l)).map (HT.Ci n 0 l+·):=by
 have clip:∀(v:Option Int)(d:Nat),(match v with|none=>(d:Int)|some i=>max 0<|min (if i<0 then i+(n:Int)else i) (n:Int))=((HT.Ci n d v:Nat):Int):=by
  intro v d;cases v with
  |none=>rfl|some i=>
   show max 0 (min (if i<0 then i+(n:Int)else i) (n:Int))=(((if i<0 then(i+(n:Int)).toNat else min i.toNat n):Nat):Int);by_cases h:i<0
   .simp only[if_pos h];exact Xg n h
   .simp only[if_neg h];obtain⟨m,rfl⟩:=zB<|acj.mp h;exact aW n m
 have c:=clip l 0;have e:=clip u n;unfold strSliceIndices sliceRange;simp only[show(1:Int)>0 by decide,if_true,Int.one_mul,abR];have f:((0:Nat):Int)=0:=rfl;rw[f]at c;have gen:∀(A B:Int)(a b:Nat),A=(a:Int)->B=(b:Int)->O4 (λk:Nat=>(A+(k:Int)).toNat) (pu (if A<B then B-A+1-1 else 0).toNat)=O4 (λx=>a+x) (pu<|b-a):=by
  intro A B a b g j;subst g j;have o:(if(a:Int)<(b:Int)then(b:Int)-(a:Int)+1-1 else 0).toNat=b-a:=by
   split<;>lia
  rw[o];refine B3 λk _=>?_;lia
 exact gen _ _ _ _ c e
def Om(xs:List Nat)(l u:Option Int):List Nat:=(xs.drop<|HT.Ci xs.length 0 l).take<|HT.Ci xs.length xs.length u-HT.Ci xs.length 0 l
theorem Sd{c:Type}(xs:List c)(a k:Nat)(h:a+k<=xs.length):((pu k).map (a+·)).filterMap (xs[·]?)=(xs.drop a).take k:=by
 rw[Z0]
 induction k with
 |zero=>simp|succ k d=>
  rw[J3,Tk,d<|al (rs (gT _ _) _) h];have b:a+k<xs.length:=by lia
  have e:(xs.drop a)[k]?=Z (xs[a+k]):=by
   rw[Do];exact yZ b
  rw[yz,e];simp[b]
theorem Qh(x:Str)(l u:Option Int):(yy x l u).cps.toList=Om x.cps.toList l u:=by
 have hlen:x.cps.toList.length=x.length:=by rw[q4];rfl
 have c:HT.Ci x.length x.length u<=x.length:=by
  cases u with
  |none=>exact b5 _|some v=>
   show(if v<0 then(v+(x.length:Int)).toNat else min v.toNat x.length)<=x.length;split<;>lia
 unfold yy Om;rw[hlen,Xh];generalize k:HT.Ci x.length 0 l=a;generalize d:HT.Ci x.length x.length u=b at c;by_cases f:a<=b
 .split
  .rename_i h
   simp at h;have:b-a=x.length:=h;have g:a=0:=by lia
   have j:b=x.length:=by lia
   subst g;rw[j,<-hlen,E2,A4,v7]
  .show(List.filterMap (λi=>x.cps[i]?) _).toArray.toList=_;rw[W1];have e:(λi:Nat=>x.cps[i]?)=λi:Nat=>x.cps.toList[i]?:=by
    funext i;exact(v5).symm
   rw[e];exact Sd _ a (b-a) y_
 .have z:b-a=0:=by lia
  rw[z];simp only[List.range_zero,yq,U5];split
  .rename_i h
   simp at h;have:x.cps.toList=[]:=j7 (by rw[hlen];exact h.symm);exact this
  .rfl
section
inductive iq(x:V)(lo a:Option Int)(H:Hp)(Q:VK):Prop|mk(z:_)(b:x=.str z)(c:z.length<=sizeLine)(d:Q (.str (yy z lo a)) H)
def oh:V->Option Int->Option Int->Hp->VK->Prop:=λx lo a H Q=>iq x lo a H Q
theorem L':iR X oh:=by
 intro pins s g H x v p r lo m w Q I n a o e h;obtain⟨z,rfl,b,q⟩:=h;obtain⟨t,rfl⟩:=n;refine⟨"str",_,F.slot_str_getitem.lookup,zX _ _ _,?_⟩;have fin:∀c k,EP X pins g Q (.str (yy z lo m) c) {s with toks:=k}:=λc k=>⟨.str _,H,I.tok k,⟨c,W⟩,q⟩;cases o with
 |none=>
  cases e with
  |none=>exact zx (l:=ν) (u:=ν) (st:=ν) a W (J1 ⟨al (A3 z _ _) b,fin⟩)|int j d=>exact zx (l:=ν) (u:=Z (j,d)) (st:=ν) a W (J1 ⟨al (A3 z _ _) b,fin⟩)
 |int i f=>
  cases e with
  |none=>exact zx (l:=Z (i,f)) (u:=ν) (st:=ν) a W (J1 ⟨al (A3 z _ _) b,fin⟩)|int j d=>exact zx (l:=Z (i,f)) (u:=Z (j,d)) (st:=ν) a W (J1 ⟨al (A3 z _ _) b,fin⟩)
end
section
variable {tg:r6}
theorem Se:∀{g:List bd},Vals (ys.map V.str) g->abL g ys:=by
 induction ys with
 |nil=>intro g r;rw[yq]at r;cases r;exact .nil|cons n f b=>
  intro g r;rw[i2]at r;cases r with
  |cons c d=>
   obtain⟨t,e⟩:=c;subst e;exact .cons n t<|b d
inductive eJ(K:yd)(x:V)(a:List V)(H:Hp)(Q:VK):Prop|mk(z:Str)(p:Addr)(ys:List Str)(b:x=.str z)(c:a=[.ref p])(d:Ax K H p (ys.map V.str))(e:(ys.map (·.length)).sum+ys.length*z.length<=16777216)(f:Q (.str (abW z ys)) H)
def rJoin(K:yd):V->List V->Hp->VK->Prop:=λx a H Q=>eJ K x a H Q
theorem aX:oF X "str.join" (rJoin X.K):=by
 intro pins s j H x l v m Q I a b h;obtain⟨z,p,n,rfl,rfl,c,d,q⟩:=h;obtain⟨t,rfl⟩:=a;obtain⟨u,rfl,e⟩:=b.one;cases e;obtain⟨f,r,g,_⟩:=I.list c;exact join_list g.isList (by rw[W1];exact Se r) d λi k=>⟨.str _,H,I.tok k,⟨i,W⟩,q⟩
inductive Xi(x:V)(a:List V)(H:Hp)(Q:VK):Prop|mk(l xs i y:_)(b:x=.ref l)(c:a=[.int ((i:Nat):Int),y])(d:H l=Z (.lst xs))(e:i<=xs.length)(f:xs.length<sizeLine)(g:Q .Al (upd H l (.lst (xs.take i++y::xs.drop i))))
def aY:V->List V->Hp->VK->Prop:=λx a H Q=>Xi x a H Q
theorem Ng:gZ X "list.insert" aY:=by
 intro pins s E H x G v J Q I o p h;obtain⟨l,L,i,y,rfl,rfl,f,g,j,q⟩:=h;cases o;obtain⟨M,c,rfl,⟨t,u⟩,w⟩:=p.two;subst u;obtain⟨z,a,n,r,k,e⟩:=I.QY f;have d:a.toArray.size<=sizeLine:=by rw[b6,<-k];exact jp j
 have A:i<2 ^ 63:=g8 (al g<|jp j) IQ;have B:i<=a.length:=by rw[<-k];exact g
 obtain⟨x,C⟩:∃x:Int,x=(i:Int):=⟨_,W⟩;rw[<-C];have b:¬(!Builtin.List.listFitsIndex x)=true:=by
  have:M7 x=true:=by
   unfold M7;simp only[g9,decide_eq_true_eq];constructor<;>lia
  simp[this]
 have D:∀m:Nat,a.length=m->(if x<0 then(x+(m:Int)).toNat else min x.toNat m)=i:=λm N=>by
  rw[if_neg y_];lia
 refine za B9 ⟨_,e,W⟩ PySem.F.entry_list_insert (PySem.F.args_list_insert_3 _ _ _) (R4 l a.toArray n x t c b d) ⟨e,?_⟩;refine⟨.Al,_,I.XP (its':=a.take i++c::a.drop i) f e ?_ ((r.take i).append<|.cons w<|r.drop i) ?_,W,q⟩
 .show(a.toArray.extract 0<|if x<0 then(x+(a.toArray.size:Int)).toNat else min x.toNat a.toArray.size).push c++a.toArray.extract (if x<0 then(x+(a.toArray.size:Int)).toNat else min x.toNat a.toArray.size)=_;rw[D a.toArray.size (b6 ..).symm];apply Array.toList_inj.mp;simp[Q3]
 .simp only[d7,n6,g7,t8];lia
end
section
inductive eK(x y:V)(H:Hp)(Q:VK):Prop|mk(a b xs ys:_)(c:x=.ref a)(d:y=.ref b)(e:H a=Z (.tup xs))(f:H b=Z (.tup ys))(g:xs.length+ys.length<=sizeLine)(h:∀p H',AF H H'->H' p=Z (.tup (xs++ys))->Q (.ref p) H')
def ir:R2:=λx y H Q=>eK x y H Q
theorem Bn:EN X (zW .Add) ir:=by
 intro pins s D H x y v u Q I r t h;obtain⟨a,b,w,E,rfl,rfl,j,k,G,q⟩:=h;by_cases l:w=[]
 .cases r;cases t;obtain⟨c,J,L,_⟩:=I.tuple<|Ae.of j;obtain⟨d,U,M,_⟩:=I.tuple<|Ae.of k;obtain⟨⟨N,O,data,P⟩,z,A,n,B⟩:=id L;obtain⟨⟨C,m,data2,o⟩,f,g,R,i⟩:=id M;simp only at A B g i;subst A B g i;have S:c=[]:=J.LM.mpr l;refine aac ⟨_,z,W⟩ ⟨_,f,W⟩ O8 W6 E6 D4 (Ch _ _) (tuple_addW0 a b c.toArray d.toArray n R O m P o<|by simp[S]) ⟨z,f,?_⟩;refine⟨.ref b,H,I.tok s.toks,W,q b H (AF.refl H) ?_⟩;rw[l];exact k
 .refine aJ pins s D H (.ref a) (.ref b) v u Q I r t ⟨a,b,w,E,W,W,Ae.of j,Ae.of k,l,G,λe=>?_,λe p T=>q p _ (AF.new T) AD⟩;refine q a H (AF.refl H) ?_;rw[e,ge];exact j
end
end L2
namespace HT
open PySem PyProof.Rows
section
variable{prog:m8} {w:q3} {A:i8} {E:bd->d6->Prop} {s:d6}
theorem JG{t d:Addr}{items:Array bd}{i j:bd}{lo c:Option Int}{Q:bd->d6->Prop}(a:aaa s.heap t items)(k:s.heap.IsSliceOf d i j .none)(l:P6 i lo)(n:P6 j c)(hw:Ci items.size 0 lo=0/\Ci items.size items.size c=items.size)(h:Q (.ref t) s):im (j1 prog w) A (K3 (.ref t) (.ref d)) Q E s:=by
 obtain⟨os,e,f,o⟩:=id k;have g:s.TypeIs (.ref d) "slice":=⟨os,e,f⟩;unfold K3
 try with_reducible refine u9 ?_
 first|refine ap (e7 ?_)|skip
 refine ap<|aag a.typeIs ac ?_;refine ap<|zy (name:=Str.ofString "__getitem__") a.typeIs sB<|xL sB a.typeIs W0 ?_<|X9 _ _;show im _ _ (M4 (.ref t)>>=_) _ _ s;refine ap<|abn a ?_;refine ap<|EQ g ?_;rw[if_pos ac];refine ap<|GP k l n ?_;have b:(((Ci items.size 0 lo:Nat):Int)==0&&(1:Int)==1&&(Ci items.size items.size c-Ci items.size 0 lo)==items.size)=true:=by
  rw[hw.1,hw.2];simp
 show im _ _ (if(((Ci items.size 0 lo:Nat):Int)==0&&(1:Int)==1&&(Ci items.size items.size c-Ci items.size 0 lo)==items.size)=true then _ else _) _ _ s;rw[if_pos b];refine ap (m:=M5 _) ?_;unfold M5
 first
  |refine ap (EQ a.typeIs (e7 ?_))
  |refine EQ a.typeIs ?_
 rw[if_pos ac];exact ap<|P7<|e7 ⟨_,W,e7 h⟩
end
end HT
namespace L2
open PySem PySem.Spec PyProof.Rows
variable{X:Cx}
section
inductive iu(x:V)(lo b:Option Int)(H:Hp)(Q:VK):Prop|mk(a xs:_)(c:x=.ref a)(d:H a=Z (.tup xs))(e:∀p H',AF H H'->H' p=Z (.tup (Gj xs lo b))->Q (.ref p) H')
def oj:V->Option Int->Option Int->Hp->VK->Prop:=λx lo a H Q=>iu x lo a H Q
theorem BO:iR X oj:=by
 intro pins s l H x v m n lo e o Q I f g i j h;obtain⟨a,b,rfl,c,q⟩:=h;by_cases hw:HT.Ci b.length 0 lo=0/\HT.Ci b.length b.length e=b.length
 .cases f;obtain⟨d,r,k,u⟩:=I.tuple<|Ae.of c;have hlen:d.toArray.size=b.length:=by rw[b6];exact r.length.symm
  refine⟨"tuple",_,sB.lookup,k.typeIs,?_⟩;refine HT.JG k g i j (by rw[hlen];exact hw) ⟨.ref a,H,I,W,q a H (AF.refl H) ?_⟩;unfold Gj;rw[hw.1,hw.2,E2,A4,v7];exact c
 .exact di pins s l H (.ref a) v m n lo e o Q I f g i j ⟨a,b,W,Ae.of c,hw,λp t=>q p _ (AF.new t) AD⟩
theorem El(l:List V)(k:Nat):Gj l ν (Z (k:Int))=l.take k:=by
 unfold Gj;rw[HT.Tw];show(l.drop 0).take (min k l.length-0)=_;rw[E2,A4,SZ];simp
theorem Ht(l:List V)(k:Nat):Gj l (Z (k:Int)) ν=l.drop k:=by
 unfold Gj;rw[HT.Tw];show(l.drop<|min k l.length).take (l.length-min k l.length)=_;have:(l.drop<|min k l.length).length=l.length-min k l.length:=t8;rw[<-this,v7];by_cases h:k<=l.length
 .rw[zM h]
 .rw[F7 y_,zG<|b5 _,zG y_]
end
inductive UI(H:Hp):V->String->Prop where
 |Al:UI H .Al "NoneType"
 |bl (b:Bool):UI H (.bl b) "bool"
 |int (i:Int):UI H (.int i) "int"
 |str (x:Str):UI H (.str x) "str"
 |lst {a:Addr} {xs:List V} (e:Rd H a (.lst xs)):UI H (.ref a) "list"
 |tup {a:Addr} {xs:List V} (e:H a=Z (.tup xs)):UI H (.ref a) "tuple"
 |dK {a:Addr} {kvs:List (Key×V)} (e:Rd H a (.dK kvs)):UI H (.ref a) "dict"
theorem Rd.up(h:Rd H a u)(s:∀o,H a=Z o->H' a=Z o):Rd H' a u:=by
 rcases h with h|⟨o,h⟩
 .exact .inl<|s _ h
 .exact .inr ⟨o,s _ h⟩
def eM(T c:String):Bool:=T==c||(T=="bool"&&c=="int")
def eN(c:String):Bool:=["int","bool","str","list","tuple","dict"].contains c
variable{H:Hp}{K:yd}{T:String}
theorem aZ{v:V}{c:String}(h:UI H v T)(a:eN c=true):U3 K (.type T) (.type c)=Z (eM T c):=by
 have a:c="int"∨c="bool"∨c="str"∨c="list"∨c="tuple"∨c="dict":=by
  unfold eN at a;simpa using a
 cases h<;>rcases a with rfl|rfl|rfl|rfl|rfl|rfl<;>kernel_rfl
variable{E Q:bd->d6->Prop}
section
inductive iv(xs:List V)(H:Hp)(Q:VK):Prop|mk(x c T:_)(a:xs=[x,.ty c])(b:eN c=true)(d:UI H x T)(e:Q (.bl (eM T c)) H)
def om:List V->Hp->VK->Prop:=λa H Q=>iv a H Q
theorem Xj{A:i8}(I:Inv X pins σ H s)(d:RelV x u)(ty:UI H x T)(e:U3 X.K (.type T) (.type c)=Z b)(h:∀tk,Q (.bool b) {s with toks:=tk}):
  im (j1 X.prog X.w) A (call (.builtin "isinstance") [u,.type c]) Q E s:=by
 cases ty with
 |Al=>exact GO I d .Al e h|bl y=>exact GO I d (.bl y) e h|int i=>exact GO I d (.int i) e h|str y=>exact GO I d (.str y) e h|tup f=>exact GO I d (.tup f) e h|@lst a j f=>
  cases(show u=i3 a from d);obtain⟨_,_,n,_,g⟩:=(show BR X.prog X.w H s.heap a (.lst j)from f.ok I.Bi);exact sK E3 I.KX ⟨_,g,W⟩ e (λz=>nomatch z) h
 |@dK a kvs f=>
  cases(show u=i3 a from d);obtain⟨_,_,l,_,p⟩:=(show BR X.prog X.w H s.heap a (.dK kvs)from f.ok I.Bi);obtain⟨o,m,q,g,k,_⟩:=p;exact sK E4 I.KX ⟨o,g,k.1⟩ e (λz=>nomatch z) h
theorem Af:Dx X (.builtin "isinstance") om:=by
 intro pins s f H g i Q I r h;obtain⟨x,c,T,rfl,b,ty,q⟩:=h;obtain⟨u,j,rfl,d,a⟩:=vals2 r;cases a;exact Xj I d ty (aZ ty b) λe=>⟨.bl _,H,I.tok e,W,q⟩
end
open Builtin Builtin.Str
abbrev sgn(x:Str):List Nat:=x.cps.toList
def Zv:List Nat:=sgn "abcdefghijklmnopqrstuvwxyz"
def Qi(c:Nat):Bool:=decide<|c∈Zv
theorem IU(x:Str):(sgn x).length=x.length:=by
 show x.cps.toList.length=x.cps.size;exact q4
theorem EX(x y:Str):sgn (x++y)=sgn x++sgn y:=by
 show(x.cps++y.cps).toList=_;exact Array.toList_append
theorem EY(x:Str)(l u:Option Int):sgn (yy x l u)=Om (sgn x) l u:=Qh x l u
def Ka(l:List Nat):Bool:=decide (1<=l.length)&&decide (l.length<=8)&&l.all Qi
def CL(x:Str):Bool:=Ka<|sgn x
theorem Qj(ys:List Str):sgn (abW "" ys)=(ys.map sgn).flatten:=by
 have h:∀ys:List Str,sgn (Str.join "" ys)=(ys.map sgn).flatten:=by
  intro ys
  induction ys with
  |nil=>rfl|cons x r a=>
   cases r with
   |nil=>
    show sgn x=_;simp
   |cons y r=>
    show sgn (x++""++Str.join "" (y::r))=_;rw[EX,EX,a];have:sgn ("":Str)=[]:=by decide
    rw[this];simp
 show sgn (Builtin.Str.glued "" ys)=_;rw[StrLaws.glued_eq_join];exact h ys
theorem UJ(n d k:Nat):HT.Ci n d (Z (k:Int))=min k n:=by
 show(if(k:Int)<0 then((k:Int)+(n:Int)).toNat else min (k:Int).toNat n)=min k n;rw[if_neg y_,i6]
theorem MA(l:List Nat)(k:Nat):Om l ν (Z (k:Int))=l.take k:=by
 unfold Om;have e:=UJ l.length l.length k;rw[e];show(l.drop 0).take (min k l.length-0)=_;rw[E2,A4,SZ];simp
theorem Xk(l:List Nat)(k:Nat):Om l (Z (k:Int)) ν=l.drop k:=by
 unfold Om;have e:=UJ l.length 0 k;rw[e];show(l.drop<|min k l.length).take (l.length-min k l.length)=_;have:(l.drop<|min k l.length).length=l.length-min k l.length:=t8;rw[<-this,v7];by_cases h:k<=l.length
 .rw[zM h]
 .rw[F7 y_,zG<|b5 _,zG y_]
theorem aa(l:List Nat)(a b:Nat)(c:a<=b)(d:b<=l.length):Om l (Z (a:Int)) (Z (b:Int))=(l.take b).drop a:=by
 unfold Om;have e:HT.Ci l.length 0 (Z (a:Int))=a:=(UJ _ _ a).trans<|zM<|al c d;have f:HT.Ci l.length l.length (Z (b:Int))=b:=(UJ _ _ b).trans<|zM d;rw[e,f,List.drop_take]
variable{l:List Nat}
theorem JH{p:Nat->Bool}(h:l.all p=true)(k:Nat):(l.take k).all p=true:=by
 rw[t9]at h⊢;exact λx a=>h x<|i1 a
theorem Qk{p:Nat->Bool}(h:l.all p=true)(k:Nat):(l.drop k).all p=true:=by
 rw[t9]at h⊢;exact λx a=>h x<|zm a
theorem MB(h:c∈Zv):Qi c=true:=decide_eq_true h
theorem Vl(h:Ka l=true):1<=l.length/\l.length<=8/\l.all Qi=true:=by
 unfold Ka at h;simp only[g9,decide_eq_true_eq]at h;exact⟨h.1.1,h.1.2,h.2⟩
theorem Ql(a:1<=l.length)(b:l.length<=8)(c:l.all Qi=true):Ka l=true:=by
 unfold Ka;simp only[g9,decide_eq_true_eq];exact⟨⟨a,b⟩,c⟩
inductive Dc where
 |leaf (v:V)
 |row (a:Addr) (xs:List Dc)
 |tab (a:Addr) (ks:List Str) (xs:List Dc)
variable{d:Dc}
namespace Dc
noncomputable def val:Dc->V
 |leaf v=>v|row a _=>.ref a|tab a _ _=>.ref a
mutual
noncomputable def AZ:Dc->List Addr
 |leaf _=>[]|row a xs=>a::AH xs|tab a _ xs=>a::AH xs
noncomputable def AH:List Dc->List Addr
 |[]=>[]|x::r=>AZ x++AH r
end
mutual
noncomputable def size:Dc->Nat
 |leaf _=>1|row _ xs=>1+Ab xs|tab _ _ xs=>1+Ab xs
noncomputable def Ab:List Dc->Nat
 |[]=>0|x::r=>size x+Ab r
end
def Lf(v:V):Prop:=(∃i,v=.int i)∨∃x:Str,v=.str x/\x.length<=100
def kvs(ks:List Str)(xs:List Dc):List (Key×V):=(ks.zip<|xs.map val).map λp=>(dL p.1,p.2)
mutual
def At(H:Hp):Dc->Prop
 |leaf v=>Lf v|row a xs=>Rd H a (.lst (xs.map val))/\CY H xs|tab a ks xs=>Rd H a (.dK (kvs ks xs))/\ks.length=xs.length/\ks.Nodup/\CY H xs
def CY(H:Hp):List Dc->Prop
 |[]=>True|x::r=>At H x/\CY H r
end
mutual
noncomputable def put(b:Addr)(i:Nat)(k:Str)(p:Dc):Dc->Dc
 |leaf v=>leaf v|row a xs=>if a=b then row a (xs.take i++p::xs.drop i)else row a (putL b i k p xs)|tab a ks xs=>if a=b then tab a (ks++[k]) (xs++[p])else tab a ks (putL b i k p xs)
noncomputable def putL(b:Addr)(i:Nat)(k:Str)(p:Dc):List Dc->List Dc
 |[]=>[]|x::r=>put b i k p x::putL b i k p r
end
theorem size_pos(d:Dc):1<=d.size:=by
 cases d<;>simp only[size]<;>lia
theorem Kb(b:Addr)(i:Nat)(k:Str)(p:Dc):∀xs,(putL b i k p xs).length=xs.length
 |[]=>rfl|x::r=>by simp only[putL,g7,Kb b i k p r]
theorem UK(b:Addr)(i:Nat)(k:Str)(p d:Dc):(put b i k p d).val=d.val:=by
 cases d with
 |leaf v=>rfl|row a c=>simp only[put];split<;>rfl|tab a e c=>simp only[put];split<;>rfl
theorem MC(b:Addr)(i:Nat)(k:Str)(p:Dc):∀xs,(putL b i k p xs).map val=xs.map val
 |[]=>rfl|x::r=>by simp only[putL,i2,UK,MC b i k p r]
theorem AO:∀xs ys:List Dc,AH (xs++ys)=AH xs++AH ys
 |[],_=>rfl|x::r,ys=>by simp only[i5,AH,AO r ys,j3]
theorem BP:∀xs ys:List Dc,Ab (xs++ys)=Ab xs+Ab ys
 |[],ys=>by simp[Ab]|x::r,ys=>by simp only[i5,Ab,BP r ys];lia
theorem BK:∀xs ys:List Dc,CY H (xs++ys)↔CY H xs/\CY H ys
 |[],ys=>by simp[CY]|x::r,ys=>by simp only[i5,CY,BK r ys,and_assoc]
theorem Cn:∀{xs:List Dc},CY H xs->∀x∈xs,At H x
 |[],_,x,a=>nomatch a
 |y::r,h,x,a=>by
  simp only[CY]at h;rcases ce.mp a with rfl|a
  .exact h.1
  .exact Cn h.2 x a
theorem Cb:∀{xs:List Dc}{x:Dc},x∈xs->x.size<=Ab xs
 |[],_,h=>nomatch h
 |y::r,x,h=>by
  simp only[Ab];rcases ce.mp h with rfl|h
  .exact gT _ _
  .have:=Cb h;exact al this<|fr _ _
theorem Gn:∀{xs:List Dc}{x:Dc}{a:Addr},x∈xs->a∈x.AZ->a∈AH xs
 |[],_,_=>λh _=>nomatch h
 |y::r,x,a=>λh b=>by
  simp only[AH];rcases ce.mp h with rfl|h
  .exact b9 _ b
  .exact d9 _<|Gn h b
mutual
theorem Cc:∀d:Dc,(∀a∈d.AZ,∀o,e a=Z o->H' a=Z o)->d.At e->d.At H'
 |leaf v=>λ_ h=>h|row a xs=>λf h=>by
  simp only[At]at h⊢;exact⟨h.1.up<|f a<|by simp[AZ],BD xs (λc b=>f c<|by simp only[AZ];exact bi _ b) h.2⟩
 |tab a ks xs=>λf h=>by
  simp only[At]at h⊢;exact⟨h.1.up<|f a<|by simp[AZ],h.2.1,h.2.2.1,BD xs (λc b=>f c<|by simp only[AZ];exact bi _ b) h.2.2.2⟩
theorem BD:∀xs:List Dc,(∀a∈AH xs,∀o,e a=Z o->H' a=Z o)->CY e xs->CY H' xs
 |[]=>λ_ h=>h|x::r=>λf h=>by
  simp only[CY]at h⊢;exact⟨Cc x (λc b=>f c<|by simp only[AH];exact b9 _ b) h.1,BD r (λc b=>f c<|by simp only[AH];exact d9 _ b) h.2⟩
end
mutual
theorem UL:∀d:Dc,(∀a∈d.AZ,∀u,Rd e a u->Rd H' a u)->d.At e->d.At H'
 |leaf v=>λ_ h=>h|row a xs=>λf h=>by
  simp only[At]at h⊢;exact⟨f a (by simp[AZ]) _ h.1,MD xs (λc b=>f c<|by simp only[AZ];exact bi _ b) h.2⟩
 |tab a ks xs=>λf h=>by
  simp only[At]at h⊢;exact⟨f a (by simp[AZ]) _ h.1,h.2.1,h.2.2.1,MD xs (λc b=>f c<|by simp only[AZ];exact bi _ b) h.2.2.2⟩
theorem MD:∀xs:List Dc,(∀a∈AH xs,∀u,Rd e a u->Rd H' a u)->CY e xs->CY H' xs
 |[]=>λ_ h=>h|x::r=>λf h=>by
  simp only[CY]at h⊢;exact⟨UL x (λc b=>f c<|by simp only[AH];exact b9 _ b) h.1,MD r (λc b=>f c<|by simp only[AH];exact d9 _ b) h.2⟩
end
theorem AS{H':Hp}(s:AF H H')(h:d.At H):d.At H':=Cc d (λa _ o e=>s a o e) h
mutual
theorem UM:∀d:Dc,b∉d.AZ->put b i k p d=d
 |leaf v,_=>rfl|row a xs,h=>by
  simp only[AZ,ce,not_or]at h;simp only[put];rw[if_neg λe=>h.1 e.symm,JI xs h.2]
 |tab a ks xs,h=>by
  simp only[AZ,ce,not_or]at h;simp only[put];rw[if_neg λe=>h.1 e.symm,JI xs h.2]
theorem JI:∀xs:List Dc,b∉AH xs->putL b i k p xs=xs
 |[],_=>rfl|x::r,h=>by
  simp only[AH,am,not_or]at h;simp only[putL];rw[UM x h.1,JI r h.2]
end
theorem FX(xs:List Dc)(i:Nat):Ab (xs.take i)+Ab (xs.drop i)=Ab xs:=by
 rw[<-BP,pi]
mutual
theorem Qm:∀d:Dc,b∈d.AZ->d.AZ.Nodup->(put b i k p d).size=d.size+p.size
 |leaf v=>λh _=>by simp[AZ]at h|row a xs=>λh n=>by
  simp only[AZ,ce,f9]at h n;simp only[put];by_cases e:a=b
  .rw[if_pos e];simp only[size,BP,Ab];have:=FX xs i;lia
  .rw[if_neg e];simp only[size];rw[Jz xs (h.resolve_left λz=>e z.symm) n.2];lia
 |tab a c xs=>λh n=>by
  simp only[AZ,ce,f9]at h n;simp only[put];by_cases e:a=b
  .rw[if_pos e];simp only[size,BP,Ab];lia
  .rw[if_neg e];simp only[size];rw[Jz xs (h.resolve_left λz=>e z.symm) n.2];lia
theorem Jz:∀xs:List Dc,b∈AH xs->(AH xs).Nodup->Ab (putL b i k p xs)=Ab xs+p.size
 |[]=>λh _=>by simp[AH]at h|x::r=>λh n=>by
  simp only[AH]at h n;obtain⟨c,d,e⟩:=b7.mp n;simp only[putL,Ab];by_cases a:b∈x.AZ
  .have f:b∉AH r:=λz=>e b a b z W;rw[Qm x a c,JI r f];lia
  .rw[UM x a,Jz r ((am.mp h).resolve_left a) d];lia
end
mutual
theorem EZ:∀(d:Dc)(c:Addr),(c∈(put b i k p d).AZ->c∈d.AZ∨(b∈d.AZ/\c∈p.AZ))/\(c∈d.AZ->c∈(put b i k p d).AZ)/\(b∈d.AZ->c∈p.AZ->c∈(put b i k p d).AZ)
 |leaf v,c=>by simp[put,AZ]|row a xs,c=>by
  have f:=Dr (b:=b) (i:=i) (k:=k) (p:=p) xs c;simp only[put];by_cases e:a=b
  .rw[if_pos e];have j:AH xs=AH (xs.take i)++AH (xs.drop i):=by rw[<-AO,pi]
   simp only[AZ,AO,AH,ce,am];rw[j];simp only[am];subst e;refine⟨?_,?_,?_⟩
   .rintro(h|h|h|h)
    .exact .inl<|.inl h
    .exact .inl<|.inr<|.inl h
    .exact .inr ⟨.inl W,h⟩
    .exact .inl<|.inr<|.inr h
   .rintro(h|h|h)
    .exact .inl h
    .exact .inr<|.inl h
    .exact .inr<|.inr<|.inr h
   .intro _ h;exact .inr<|.inr<|.inl h
  .rw[if_neg e];simp only[AZ,ce];refine⟨?_,?_,?_⟩
   .rintro(h|h)
    .exact .inl<|.inl h
    .exact(f.1 h).imp .inr λz=>⟨.inr z.1,z.2⟩
   .rintro(h|h)
    .exact .inl h
    .exact .inr<|f.2.1 h
   .rintro(h|h) g
    .exact absurd h.symm e
    .exact .inr (f.2.2 h g)
 |tab a l xs,c=>by
  have f:=Dr (b:=b) (i:=i) (k:=k) (p:=p) xs c;simp only[put];by_cases e:a=b
  .rw[if_pos e];simp only[AZ,AO,AH,ce,am,ge];subst e;refine⟨?_,?_,?_⟩
   .rintro(h|h|h)
    .exact .inl<|.inl h
    .exact .inl<|.inr h
    .exact .inr ⟨.inl W,h⟩
   .rintro(h|h)
    .exact .inl h
    .exact .inr<|.inl h
   .intro _ h;exact .inr<|.inr h
  .rw[if_neg e];simp only[AZ,ce];refine⟨?_,?_,?_⟩
   .rintro(h|h)
    .exact .inl<|.inl h
    .exact(f.1 h).imp .inr λz=>⟨.inr z.1,z.2⟩
   .rintro(h|h)
    .exact .inl h
    .exact .inr<|f.2.1 h
   .rintro(h|h) g
    .exact absurd h.symm e
    .exact .inr<|f.2.2 h g
theorem Dr:∀(xs:List Dc)(c:Addr),(c∈AH (putL b i k p xs)->c∈AH xs∨(b∈AH xs/\c∈p.AZ))/\(c∈AH xs->c∈AH (putL b i k p xs))/\(b∈AH xs->c∈p.AZ->c∈AH (putL b i k p xs))
 |[],c=>by simp[putL,AH]|x::r,c=>by
  have a:=EZ (b:=b) (i:=i) (k:=k) (p:=p) x c;have d:=Dr (b:=b) (i:=i) (k:=k) (p:=p) r c;simp only[putL,AH,am];refine⟨?_,?_,?_⟩
  .rintro(h|h)
   .exact(a.1 h).imp .inl λz=>⟨.inl z.1,z.2⟩
   .exact(d.1 h).imp .inr λz=>⟨.inr z.1,z.2⟩
  .rintro(h|h)
   .exact .inl<|a.2.1 h
   .exact .inr<|d.2.1 h
  .rintro(h|h) e
   .exact .inl<|a.2.2 h e
   .exact .inr<|d.2.2 h e
end
mutual
theorem Nh(o:p.AZ.Nodup):∀d:Dc,d.AZ.Nodup->(∀c∈d.AZ,c∉p.AZ)->(put b i k p d).AZ.Nodup
 |leaf v=>λn _=>n|row a xs=>λn j=>by
  simp only[AZ,f9]at n;simp only[put];by_cases e:a=b
  .rw[if_pos e];simp only[AZ,AO,AH];have q:AH xs=AH (xs.take i)++AH (xs.drop i):=by rw[<-AO,pi]
   rw[q]at n;have m:∀c,c∈AH (xs.take i)++AH (xs.drop i)->c∉p.AZ:=λc f=>j c (by simp only[AZ];rw[q];exact bi _ f);obtain⟨s,t,u⟩:=b7.mp n.2;refine f9.mpr ⟨λh=>?_,b7.mpr ⟨s,b7.mpr ⟨o,t,λc f r l g=>?_⟩,λc f r l g=>?_⟩⟩
   .simp only[am]at h;rcases h with h|h|h
    .exact n.1<|b9 _ h
    .exact j a (by simp[AZ]) h
    .exact n.1<|d9 _ h
   .subst g;exact m c (d9 _ l) f
   .subst g;rcases am.mp l with l|l
    .exact m c (b9 _ f) l
    .exact u c f c l W
  .rw[if_neg e];simp only[AZ];refine f9.mpr ⟨λh=>?_,IV o xs n.2 λc f=>j c<|by simp only[AZ];exact bi _ f⟩;rcases(Dr xs a).1 h with h|h
   .exact n.1 h
   .exact j a (by simp[AZ]) h.2
 |tab a w xs=>λn j=>by
  simp only[AZ,f9]at n;simp only[put];by_cases e:a=b
  .rw[if_pos e];simp only[AZ,AO,AH,ge];refine f9.mpr ⟨λh=>?_,b7.mpr ⟨n.2,o,λc f r l g=>?_⟩⟩
   .rcases am.mp h with h|h
    .exact n.1 h
    .exact j a (by simp[AZ]) h
   .subst g;exact j c (by simp only[AZ];exact bi _ f) l
  .rw[if_neg e];simp only[AZ];refine f9.mpr ⟨λh=>?_,IV o xs n.2 λc f=>j c<|by simp only[AZ];exact bi _ f⟩;rcases(Dr xs a).1 h with h|h
   .exact n.1 h
   .exact j a (by simp[AZ]) h.2
theorem IV(l:p.AZ.Nodup):∀xs:List Dc,(AH xs).Nodup->(∀c∈AH xs,c∉p.AZ)->(AH (putL b i k p xs)).Nodup
 |[]=>λn _=>n|x::r=>λn d=>by
  simp only[AH]at n d;obtain⟨q,s,m⟩:=b7.mp n;simp only[putL,AH];have t:=Nh (b:=b) (i:=i) (k:=k) l x q λc f=>d c<|b9 _ f;have u:=IV (b:=b) (i:=i) (k:=k) l r s λc f=>d c<|d9 _ f;refine b7.mpr ⟨t,u,λc f e o g=>?_⟩;subst g;rcases(EZ x c).1 f with h|⟨v,h⟩
  .rcases(Dr r c).1 o with a|⟨_,a⟩
   .exact m c h c a W
   .exact d c (b9 _ h) a
  .rcases(Dr r c).1 o with a|⟨j,a⟩
   .exact d c (d9 _ a) h
   .exact m b v b j W
end
theorem Qn(k:Str)(p:Dc)(h:ks.length=xs.length):kvs (ks++[k]) (xs++[p])=kvs ks xs++[(dL k,p.val)]:=by
 unfold kvs;rw[ca,aaM<|by rw[be];exact h,ca];rfl
theorem EB(h:ks.length=xs.length):(kvs ks xs).map (·.1)=ks.map dL:=by
 unfold kvs;rw[zE];have:(λp:Str×V=>(dL p.1:Key))=(dL:Str->Key)∘T8:=rfl;show O4 ((λp:Key×V=>p.1)∘λp:Str×V=>(dL p.1,p.2)) (ks.zip<|xs.map val)=_;have e:((λp:Key×V=>p.1)∘λp:Str×V=>((dL p.1:Key),p.2))=(dL:Str->Key)∘T8:=rfl;rw[e,<-zE,P0<|by rw[be];exact bm h]
mutual
theorem Xl{k:Str}(r:p.At H')(g:∀s,Rd x b (.lst s)->H' b=Z (.lst (s.take i++p.val::s.drop i)))(j:∀kv,Rd x b (.dK kv)->(dL k:Key)∉kv.map (·.1)/\H' b=Z (.dK (kv++[(dL k,p.val)]))):
  ∀d:Dc,(∀a∈d.AZ,a≠b->∀o,x a=Z o->H' a=Z o)->d.AZ.Nodup->d.At x->(put b i k p d).At H'
 |leaf v=>λ_ _ h=>h|row a xs=>λf n h=>by
  simp only[AZ,f9,At]at n h;simp only[put];by_cases e:a=b
  .rw[if_pos e];subst e;have keep:CY H' xs:=BD xs (λc l=>f c (by simp only[AZ];exact bi _ l) λz=>n.1<|z▸l) h.2;simp only[At];have m:CY H' (xs.take i)/\CY H' (xs.drop i):=(BK _ _).mp (by rw[pi];exact keep);refine⟨?_,(BK _ _).mpr ⟨m.1,by simp only[CY];exact⟨r,m.2⟩⟩⟩;refine .inl ?_;rw[g _ h.1,ca,i2,W8,Os]
  .rw[if_neg e];simp only[At];refine⟨?_,Oo r g j xs (λc l=>f c<|by simp only[AZ];exact bi _ l) n.2 h.2⟩;rw[MC];exact h.1.up (f a (by simp[AZ]) e)
 |tab a m xs=>λf n h=>by
  simp only[AZ,f9,At]at n h;simp only[put];by_cases e:a=b
  .rw[if_pos e];subst e;have keep:CY H' xs:=BD xs (λc l=>f c (by simp only[AZ];exact bi _ l) λz=>n.1<|z▸l) h.2.2.2;simp only[At];obtain⟨t,d⟩:=j _ h.1;rw[EB h.2.1]at t;refine⟨by rw[Qn k p h.2.1];exact .inl d,by rw[d7,d7,h.2.1];rfl,?_,(BK _ _).mpr ⟨keep,by simp only[CY];exact⟨r,trivial⟩⟩⟩;refine b7.mpr ⟨h.2.2.1,z_,λc l e u q=>?_⟩;rw[ci.mp u]at q;subst q;exact t<|n9.mpr ⟨c,l,W⟩
  .rw[if_neg e];simp only[At];refine⟨?_,by rw[Kb];exact h.2.1,h.2.2.1,Oo r g j xs (λc l=>f c<|by simp only[AZ];exact bi _ l) n.2 h.2.2.2⟩;have w:kvs m (putL b i k p xs)=kvs m xs:=by unfold kvs;rw[MC]
   rw[w];exact h.1.up<|f a (by simp[AZ]) e
theorem Oo{k:Str}(l:p.At H')(d:∀g,Rd t b (.lst g)->H' b=Z (.lst (g.take i++p.val::g.drop i)))(e:∀kv,Rd t b (.dK kv)->(dL k:Key)∉kv.map (·.1)/\H' b=Z (.dK (kv++[(dL k,p.val)]))):
  ∀xs:List Dc,(∀a∈AH xs,a≠b->∀o,t a=Z o->H' a=Z o)->(AH xs).Nodup->CY t xs->CY H' (putL b i k p xs)
 |[]=>λ_ _ h=>h|x::r=>λf n h=>by
  simp only[AH]at n f;obtain⟨m,q,s⟩:=b7.mp n;simp only[putL,CY]at h⊢;exact⟨Xl l d e x (λc j=>f c<|b9 _ j) m h.1,Oo l d e r (λc j=>f c<|d9 _ j) q h.2⟩
end
mutual
theorem J_:∀d:Dc,d.At g->b∈d.AZ->(∃f,Rd g b (.lst f)/\f.length<d.size)∨∃ks:List Str,∃kv,Rd g b (.dK kv)/\kv.map (·.1)=ks.map dL/\kv.length<d.size
 |leaf v=>λ_ h=>by simp[AZ]at h|row a xs=>λh c=>by
  simp only[At,AZ,ce]at h c;simp only[size];rcases c with rfl|c
  .refine .inl ⟨_,h.1,?_⟩;rw[be];have:=GD xs;lia
  .rcases IW xs h.2 c with⟨f,e,l⟩|⟨ks,kv,e,z,l⟩
   .exact .inl ⟨f,e,bn l<|fr _ _⟩
   .exact .inr ⟨ks,kv,e,z,bn l<|fr _ _⟩
 |tab a ks xs=>λh c=>by
  simp only[At,AZ,ce]at h c;simp only[size];rcases c with rfl|c
  .refine .inr ⟨ks,_,h.1,EB h.2.1,?_⟩;have e:(kvs ks xs).length=ks.length:=by
    have:=congrArg ww<|EB (ks:=ks) (xs:=xs) h.2.1;simpa using this
   rw[e,h.2.1];have:=GD xs;lia
  .rcases IW xs h.2.2.2 c with⟨f,e,l⟩|⟨ks,kv,e,z,l⟩
   .exact .inl ⟨f,e,bn l<|fr _ _⟩
   .exact .inr ⟨ks,kv,e,z,bn l<|fr _ _⟩
theorem IW:∀xs:List Dc,CY f xs->b∈AH xs->(∃a,Rd f b (.lst a)/\a.length<Ab xs)∨∃ks:List Str,∃kv,Rd f b (.dK kv)/\kv.map (·.1)=ks.map dL/\kv.length<Ab xs
 |[]=>λ_ h=>by simp[AH]at h|x::r=>λh c=>by
  simp only[CY,AH,am]at h c;simp only[Ab];rcases c with c|c
  .rcases J_ x h.1 c with⟨a,e,l⟩|⟨ks,kv,e,z,l⟩
   .exact .inl ⟨a,e,bn l<|gT _ _⟩
   .exact .inr ⟨ks,kv,e,z,bn l<|gT _ _⟩
  .rcases IW r h.2 c with⟨a,e,l⟩|⟨ks,kv,e,z,l⟩
   .exact .inl ⟨a,e,bn l<|fr _ _⟩
   .exact .inr ⟨ks,kv,e,z,bn l<|fr _ _⟩
theorem GD:∀xs:List Dc,xs.length<=Ab xs
 |[]=>b5 _|x::r=>by
  have:=GD r;have:=size_pos x;simp only[Ab,g7];lia
end
end Dc
variable{pins:List (Addr×Obj)}{P:m8}{w:q3}{s:d6}
section
inductive Vm(K:yd)(x y:V)(H:Hp)(Q:VK):Prop|mk(a b:Addr)(xs:List V)(c:x=.ref a)(d:y=.ref b)(e:Ax K H a xs)(f:Ax K H b [])(g:Q (.bl xs.isEmpty) H)
def Xm(K:yd):V->V->Hp->VK->Prop:=λx y H Q=>Vm K x y H Q
theorem ME(c:X.A.units<cLine):EN X (ut .Eq) (Xm X.K):=by
 intro pins s w H x y v u Q I k l h;obtain⟨a,b,m,rfl,rfl,n,o,q⟩:=h;cases k;cases l;obtain⟨p,d,f,_⟩:=I.list n;obtain⟨g,r,i,_⟩:=I.list o;cases r;have l1:=d.length;cases m with
 |nil=>
  cases d;exact SeqAt.eq_listAt (e:=λ_=>true) f.isList i.isList W c (λj t _=>absurd t z_) ⟨.bl true,H,I,W,q⟩
 |cons z B=>
  refine SeqAt.eq_list_lengthsAt f.isList i.isList ?_ c ⟨.bl false,H,I,W,q⟩;rw[b6,<-l1];simp
inductive Vn(K:yd)(x y:V)(H:Hp)(Q:VK):Prop|mk(a b:Addr)(xs:List V)(c:x=.ref a)(d:y=.ref b)(e:Ax K H a xs)(f:Ax K H b [])(g:Q (.bl (!xs.isEmpty)) H)
def Xn(K:yd):V->V->Hp->VK->Prop:=λx y H Q=>Vn K x y H Q
theorem Sf(c:X.A.units<cLine):EN X (ut .NotEq) (Xn X.K):=by
 intro pins s w H x y v u Q I k l h;obtain⟨a,b,m,rfl,rfl,n,o,q⟩:=h;cases k;cases l;obtain⟨p,d,f,_⟩:=I.list n;obtain⟨g,r,i,_⟩:=I.list o;cases r;have l1:=d.length;cases m with
 |nil=>
  cases d;exact SeqAt.RcNeAt.lists (e:=λ_=>true) f.isList i.isList W c (λj t _=>absurd t z_) _ _ _ _ ⟨.bl false,H,I,W,q⟩
 |cons z B=>
  refine SeqAt.RcNeAt.lists_lengths f.isList i.isList ?_ c _ _ _ _ ⟨.bl true,H,I,W,q⟩;rw[b6,<-l1];simp
def BV(xs ys:List V):Bool:=((pu<|min xs.length ys.length).all λj=>Kz (xs.getD j .Al)<|ys.getD j .Al)&&xs.length==ys.length
inductive Vo(K:yd)(x y:V)(H:Hp)(Q:VK):Prop|mk(a b:Addr)(xs ys:List V)(c:x=.ref a)(d:y=.ref b)(e:Ae K H a xs)(f:Ae K H b ys)(g:(∀z∈xs,Cj z=true))(h:(∀z∈ys,Cj z=true))(i:Q (.bl (BV xs ys)) H)
def Qo(K:yd):V->V->Hp->VK->Prop:=λx y H Q=>Vo K x y H Q
theorem J'(t:X.A.units<cLine):EN X (ut .Eq) (Qo X.K):=by
 intro pins s V H x y v u Q I w z h;obtain⟨a,b,d,f,rfl,rfl,B,C,D,E,q⟩:=h;cases w;cases z;obtain⟨k,l,F,_⟩:=I.tuple B;obtain⟨c,m,G,_⟩:=I.tuple C;have n:k.toArray.size=d.length:=by rw[b6];exact l.length.symm
 have o:c.toArray.size=f.length:=by rw[b6];exact m.length.symm
 refine SeqAt.eq_tupleAt (e:=λj=>Kz (d.getD j .Al)<|f.getD j .Al) F G t (λj J L=>?_) ?_
 .have g:j<d.length:=by rw[<-n];exact J
  have i:j<f.length:=by rw[<-o];exact L
  obtain⟨p,M,N⟩:=l.get<|yZ g;obtain⟨r,O,P⟩:=m.get<|yZ i;have R:k.toArray[j]=p:=by
   have:=(ya M).2;simpa using this
  have S:c.toArray[j]=r:=by
   have:=(ya O).2;simpa using this
  rw[R,S];have T:d.getD j .Al=d[j]:=by rw[cr,yZ g];rfl
  have U:f.getD j .Al=f[j]:=by rw[cr,yZ i];rfl
  show F5 _ _ p r (Kz (d.getD j .Al)<|f.getD j .Al);rw[T,U];exact Lp N P (D _<|re g)<|E _<|re i
 .rw[n,o];exact⟨.bl<|BV d f,H,I,W,q⟩
theorem Sg{σ:St}{A:i8}{x:V}{u:bd}{l:Addr}{m:Option Addr}{its:List bd}{n:Nat}{r:Array (Option bd)}{b:Bool}(I:Inv X pins σ H s)(d:RelV x u)(ty:UI H x T)(c:s.heap.get? l=Z ⟨.type "tuple",m,.seq its.toArray n,r⟩)(e:abe X.K (.type T) its=Z b)(h:∀tk,Q (.bool b) {s with toks:=tk}):
  im (j1 X.prog X.w) A (call (.builtin "isinstance") [u,.ref l]) Q E s:=by
 cases ty with
 |Al=>cases(show u=u0 from d);exact zj aam I.KX w6 c e (λz=>nomatch z) h
 |bl y=>cases(show u=x9 y from d);exact zj aan I.KX w6 c e (λz=>nomatch z) h
 |int i=>obtain⟨t,q⟩:=(show∃t,u=zh i t from d);cases q;exact zj aay I.KX w6 c e (λz=>nomatch z) h
 |str y=>obtain⟨t,q⟩:=(show∃t,u=zu y t from d);cases q;exact zj aax I.KX w6 c e (λz=>nomatch z) h
 |@lst a j f=>
  cases(show u=i3 a from d);obtain⟨_,_,n,_,g⟩:=(show BR X.prog X.w H s.heap a (.lst j)from f.ok I.Bi);exact zj E3 I.KX ⟨_,g,W⟩ c e (λz=>nomatch z) h
 |@tup a j f=>
  cases(show u=i3 a from d);obtain⟨_,_,_,p⟩:=(show BR X.prog X.w H s.heap a (.tup j)from I.Bi a _ f);obtain⟨o,g,k,_⟩:=p;exact zj Y6 I.KX ⟨o,g,k⟩ c e (λz=>nomatch z) h
 |@dK a kvs f=>
  cases(show u=i3 a from d);obtain⟨_,_,v,_,p⟩:=(show BR X.prog X.w H s.heap a (.dK kvs)from f.ok I.Bi);obtain⟨o,B,C,g,k,_⟩:=p;exact zj E4 I.KX ⟨o,g,k.1⟩ c e (λz=>nomatch z) h
def cb(T:String):Bool:=T=="list"||T=="dict"
theorem eO{v:V}(h:UI H v T):abe K (.type T) [.type "list",.type "dict"]=Z (cb T):=by
 cases h<;>kernel_rfl
inductive NB(xs:List V)(H:Hp)(Q:VK):Prop|mk(x:V)(p:Addr)(T:String)(a:xs=[x,.ref p])(b:H p=Z (.tup [.ty "list",.ty "dict"]))(c:UI H x T)(d:Q (.bl (cb T)) H)
def Oq:List V->Hp->VK->Prop:=λa H Q=>NB a H Q
theorem Sh:Dx X (.builtin "isinstance") Oq:=by
 intro pins s v H w y Q I r h;obtain⟨x,p,T,rfl,e,ty,q⟩:=h;obtain⟨u,z,rfl,f,a⟩:=vals2 r;cases a;obtain⟨g,i,j,_⟩:=I.tuple<|Ae.of e;obtain⟨⟨k,A,data,B⟩,l,c,n,d⟩:=id j;simp only at c d;subst c d;cases i with
 |cons m b=>
  cases b with
  |cons o b=>
   cases b;cases m;cases o;exact Sg I f ty l (eO ty) λt=>⟨.bl _,H,I.tok t,W,q⟩
theorem Vp{b:List (Key×bd)}{ss:List Str}(c:b.map (·.1)=ss.map dL){ws:List bd}(d:ws.length=b.length)(l:∀(j:Nat) (v:bd),ws[j]?=Z v->∃k x,b[j]?=Z (k,x)/\(A_ P w).is k v=true):abL ws ss:=by
 induction ss generalizing b ws with
 |nil=>
  have:b=[]:=by cases b with|nil=>rfl|cons a r=>simp at c
  subst this;have:ws=[]:=j7 d;subst this;exact .nil
 |cons x r m=>
  cases b with
  |nil=>simp at c|cons a b=>
   simp only[i2,J6]at c;cases ws with
   |nil=>simp at d|cons u ws=>
    obtain⟨k,y,e,f⟩:=l 0 u W;have e:a=(k,y):=GE e
    subst e;have g:k=dL x:=c.1;subst g;have f:KW (dL x) u=true:=f;rcases Bf f with⟨i,t,h,_⟩|⟨z,t,h,n⟩
    .cases h
    .cases h;subst n;exact .cons _ t<|m c.2 (GE d) λj v o=>l (j+1) v<|by simpa using o
theorem Vq(h:abL a ys):Vals (ys.map V.str) a:=by
 induction h with
 |nil=>exact .nil|cons n t _ b=>exact .cons ⟨t,W⟩ b
inductive LD(xs:List V)(H:Hp)(Q:VK):Prop|mk(d:Addr)(kv:List (Key×V))(ss:List Str)(b:xs=[.ref d])(c:Rd H d (.dK kv))(e:kv.map (·.1)=ss.map dL)(f:kv.length<64)(g:∀(p:Addr) (a:List Str) (H':Hp),H p=ν->AF H H'->H' p=Z (.lst (a.map V.str))->a.Perm ss->sortedS a=true->Q (.ref p) H')
def MF:List V->Hp->VK->Prop:=λa H Q=>LD a H Q
theorem JJ(U:X.calm=true):Dx X (.builtin "sorted") MF:=by
 intro pins s σ H xs us Q I r h;obtain⟨d,Y,F,rfl,hd,G,p,q⟩:=h;obtain⟨u,rfl,ζ⟩:=vals1 r;cases ζ;obtain⟨z,hm,k,l,dd⟩:=GV I.Bi hd;have t:X.A.in1.handled=none:=I.ok.hd U;have n:k.length=Y.length:=l.length.symm;have x:k.map (·.1)=F.map dL:=by rw[<-G];exact(KV.keys l).symm
 obtain⟨ep,y⟩:=dd.dictAt;have J:k.length<=sizeLine:=by rw[n];exact z
 refine Calls.call_function_entry kind_sorted plain_sorted entry_sorted (args_sorted1 _) ?_;unfold Builtin.«sorted»;refine ap (m:=checkCount "sorted" 1 1 _) (e7<|ap<|PySem.W.kdu_collect (PySem.W.kdl_dict (knd:=A_ X.prog X.w) (kvs:=k) (ep:=ep) hm) t y J λc L a keep items=>?_);have B:a.toList.length=k.length:=by rw[q4];exact items.1
 have C:abL a.toList F:=Vp (P:=X.prog) (w:=X.w) x B λj v e=>items.2 j v (by rw[<-v5];exact e);refine ap (wpAny_newList ?_<|by rw[B];exact J);have f:(c.push {cls:=.type "list",data:=.seq a.toList.toArray}).get? c.objs.size=Z (seqObj "list" a.toList.toArray 0):=i7 _ W;refine ap<|u9<|xL slot_list_sort ⟨_,f,W⟩ entry_list_sort (list_sort_treeK strKind_oneLt f C.keysOf (λM N rest e=>keyKind_strs<|by rw[<-e];exact C) (by rw[B,n];exact p) λg a1 a2=>⟨_,W,?_⟩)<|args_list_sort _;obtain⟨i,b1,O,b3⟩:=sorted_out_str C a1 a2;obtain⟨ee,he⟩:=sortedHeap_at (out:=(arrOf g).map (·.2)) f;refine e7 ⟨_,W,?_⟩;have D:(c.push {cls:=.type "list",data:=.seq a.toList.toArray}).objs.size=c.objs.size+1:=size_push' ..;have R:=I.kept (t':=L) keep;have k2:∀b o,c.get? b=Z o->(sortedHeap (c.push {cls:=.type "list",data:=.seq a.toList.toArray}) c.objs.size a.toList ((arrOf g).map (·.2))).get? b=Z o:=λb o e=>by
  have S:b<c.objs.size:=g6 e;rw[sortedHeap_old (i9 S)<|by rw[D];exact Nat.lt_succ_of_lt S];exact d0 _ e
 have E:i.length<=sizeLine:=by
  rw[O.length_eq];have:=congrArg ww G;rw[be,be]at this;rw[<-this];exact z
 have new:BR X.prog X.w (upd H c.objs.size<|.lst<|i.map V.str) (sortedHeap (c.push {cls:=.type "list",data:=.seq a.toList.toArray}) c.objs.size a.toList ((arrOf g).map (·.2))) c.objs.size (.lst<|i.map V.str):=
  ⟨by rw[be];exact E,((arrOf g).map (·.2)).toList,ee,Vq b1,by rw[IN];exact he⟩
 have T:H c.objs.size=none:=R.fresh;exact⟨.ref c.objs.size,_,R.laid (t':=L) k2 (b5 _) new,W,q _ i _ T (AF.new T) AD O b3⟩
end
structure Txt(mg:Str->Option bd):Prop where
 isinstance:mg "isinstance"=ν
 int:mg "int"=ν
 bool:mg "bool"=ν
 str:mg "str"=ν
 list:mg "list"=ν
 dict:mg "dict"=ν
 tuple:mg "tuple"=ν
 len:mg "len"=ν
 range:mg "range"=ν
 max:mg "max"=ν
 min:mg "min"=ν
 sorted:mg "sorted"=ν
 all:mg "all"=ν
 any:mg "any"=ν
 reversed:mg "reversed"=ν
 ValueError:mg "ValueError"=ν
 sum:mg "sum"=ν
theorem JK:q7 "isinstance"=Z (.builtin "isinstance"):=by decide+kernel
theorem cc:q7 "int"=Z (.type "int"):=by decide+kernel
theorem JL:q7 "str"=Z (.type "str"):=by decide+kernel
theorem DH:q7 "list"=Z (.type "list"):=by decide+kernel
theorem EC:q7 "dict"=Z (.type "dict"):=by decide+kernel
theorem Ot:q7 "tuple"=Z (.type "tuple"):=by decide+kernel
theorem iw:q7 "max"=Z (.builtin "max"):=by decide+kernel
theorem iy:q7 "min"=Z (.builtin "min"):=by decide+kernel
theorem Qp:q7 "sorted"=Z (.builtin "sorted"):=by decide+kernel
theorem iz:q7 "any"=Z (.builtin "any"):=by decide+kernel
theorem Aj{c:Bool}{A B:Prop}(a:c=false)(h:B):if c=true then A else B:=by
 rw[a];exact Ah h
theorem Ay{c:Bool}{A B:Prop}(a:c=true)(h:A):if c=true then A else B:=by
 rw[a];exact An h
theorem GW{xs:List c}(b:0<=i)(d:i<(xs.length:Int)):∃v,QX xs i=Z v/\v∈xs:=by
 obtain⟨n,rfl⟩:=zB b;have a:n<xs.length:=by lia
 exact⟨xs[n],Ba<|yZ a,re a⟩
inductive ux(P:m8)(w:q3)(K:yd)(mg:Str->Option bd)(base:Heap)(x:Str)(a:List Str)(n:Nat)(sp:Sp):Prop|mk(f:Addr)(c:m9)(k:zY K (.ref f)=true)(b:Binds K c a [])(m:mg x=Z (.ref f))(G:BA P w K mg base DC n f c a sp)
structure Df(P:m8)(w:q3)(K:yd)(mg:Str->Option bd)(base:Heap)(x:Str)(ps:List Str)(n:Nat)(sp:Sp):Prop where
 ex:ux P w K mg base x ps n sp
variable{mg:Str->Option bd}{c:List Str}{base:Heap}
theorem Df.mk'{x q:Str}{st:Stmt}{n:Nat}{sp:Sp}{f:Addr}{a:m9}(F:Vi K x q st f a)(b:Binds K a c [])(m:mg x=Z (.ref f))(G:BA P w K mg base DC n f a c sp):Df P w K mg base x c n sp:=⟨⟨f,a,F.kp,b,m,G⟩⟩
theorem JM(r:Int)(h:0<n):0<=r % n/\r % n<n:=⟨py _ y_,xz _ h⟩
def gf(b:Addr)(H H':Hp):Prop:=∀a o,a≠b->H a=Z o->H' a=Z o
theorem gf.upd:gf b H (L2.upd H b o):=λa u h e=>(AM h).trans e
def Xo(x:Str):Bool:=decide (x.length<=12)&&(sgn x).all Qi
def EO(v:V):Prop:=(∃i:Int,v=.int i/\i.natAbs<2 ^ 400)∨∃x:Str,v=.str x/\Xo x=true
theorem MG(h:Xo x=true):x.length<=12:=by
 unfold Xo at h;simp only[g9,decide_eq_true_eq]at h;exact h.1
theorem EO.lf(h:EO v):Dc.Lf v:=by
 rcases h with⟨i,rfl,_⟩|⟨x,rfl,h⟩
 .exact .inl ⟨i,W⟩
 .exact .inr ⟨x,W,al (MG h) ac⟩
theorem Ni(h:CL x=true):1<=x.length/\x.length<=8:=by
 have:=Vl h;rw[IU]at this;exact⟨this.1,this.2.1⟩
variable{xs:List Dc}{ks:List Str}{zs:List V}
namespace Dc
mutual
def ok:Dc->Prop
 |leaf v=>EO v|row _ xs=>MH xs|tab _ ks xs=>(∀k∈ks,CL k=true)/\MH xs
def MH:List Dc->Prop
 |[]=>True|x::r=>ok x/\MH r
end
theorem BX:∀{xs:List Dc},MH xs↔∀x∈xs,ok x
 |[]=>by simp[MH]|x::r=>by simp only[MH,V7,BX (xs:=r)]
mutual
theorem Xp(e:p.ok)(f:CL k=true):∀d:Dc,d.ok->(put b i k p d).ok
 |leaf v,h=>h|row a xs,h=>by
  simp only[put];split
  .simp only[ok]at h⊢;rw[BX]at h⊢;intro x c;rcases am.mp c with c|c
   .exact h x<|i1 c
   .rcases ce.mp c with rfl|c
    .exact e
    .exact h x<|zm c
  .simp only[ok]at h⊢;exact Ou e f xs h
 |tab a ks xs,h=>by
  simp only[put];simp only[ok]at h;split
  .simp only[ok];refine⟨λx c=>?_,?_⟩
   .rcases am.mp c with c|c
    .exact h.1 x c
    .rw[ci.mp c];exact f
   .rw[BX];intro x c;rcases am.mp c with c|c
    .exact BX.mp h.2 x c
    .rw[ci.mp c];exact e
  .simp only[ok];exact⟨h.1,Ou e f xs h.2⟩
theorem Ou(a:p.ok)(c:CL k=true):∀xs:List Dc,MH xs->MH (putL b i k p xs)
 |[],h=>h|x::r,h=>by
  simp only[MH,putL]at h⊢;exact⟨Xp a c x h.1,Ou a c r h.2⟩
end
mutual
def named(N:List Str):Dc->Prop
 |leaf _=>True|row _ xs=>FY N xs|tab _ ks xs=>(∀k∈ks,k∈N)/\FY N xs
def FY(N:List Str):List Dc->Prop
 |[]=>True|x::r=>named N x/\FY N r
end
theorem Gp:∀{xs:List Dc},FY N xs↔∀x∈xs,named N x
 |[]=>by simp[FY]|x::r=>by simp only[FY,V7,Gp (xs:=r)]
mutual
theorem Nj(e:p.named N)(f:k∈N):∀d:Dc,d.named N->(put b i k p d).named N
 |leaf v,h=>h|row a xs,h=>by
  simp only[put];split
  .simp only[named]at h⊢;rw[Gp]at h⊢;intro x c;rcases am.mp c with c|c
   .exact h x<|i1 c
   .rcases ce.mp c with rfl|c
    .exact e
    .exact h x<|zm c
  .simp only[named]at h⊢;exact IX e f xs h
 |tab a ks xs,h=>by
  simp only[put];simp only[named]at h;split
  .simp only[named];refine⟨λx c=>?_,?_⟩
   .rcases am.mp c with c|c
    .exact h.1 x c
    .rw[ci.mp c];exact f
   .rw[Gp];intro x c;rcases am.mp c with c|c
    .exact Gp.mp h.2 x c
    .rw[ci.mp c];exact e
  .simp only[named];exact⟨h.1,IX e f xs h.2⟩
theorem IX(a:p.named N)(c:k∈N):∀xs:List Dc,FY N xs->FY N (putL b i k p xs)
 |[],h=>h|x::r,h=>by
  simp only[FY,putL]at h⊢;exact⟨Nj a c x h.1,IX a c r h.2⟩
end
def MI:Dc->Prop
 |leaf v=>EO v|row _ xs=>xs=[]|tab _ ks xs=>ks=[]/\xs=[]
theorem MI.ok(h:MI p):p.ok:=by
 cases p with
 |leaf v=>exact h|row a b=>cases(show b=[]from h);simp[Dc.ok,MH]|tab a c b=>obtain⟨rfl,rfl⟩:=(show c=[]/\b=[]from h);simp[Dc.ok,MH]
theorem MI.named(h:MI p):p.named N:=by
 cases p with
 |leaf v=>trivial|row a b=>cases(show b=[]from h);simp[Dc.named,FY]|tab a c b=>obtain⟨rfl,rfl⟩:=(show c=[]/\b=[]from h);simp[Dc.named,FY]
theorem MI.size(h:MI p):p.size=1:=by
 cases p with
 |leaf v=>rfl|row a b=>cases(show b=[]from h);simp[Dc.size,Ab]|tab a c b=>obtain⟨rfl,rfl⟩:=(show c=[]/\b=[]from h);simp[Dc.size,Ab]
theorem MI.nodup(h:MI p):p.AZ.Nodup:=by
 cases p with
 |leaf v=>simp[AZ]|row a b=>cases(show b=[]from h);simp[AZ,AH]|tab a c b=>obtain⟨rfl,rfl⟩:=(show c=[]/\b=[]from h);simp[AZ,AH]
noncomputable def Kc:Dc->String
 |leaf (.int _)=>"int"|leaf _=>"str"|row _ _=>"list"|tab _ _ _=>"dict"
theorem Em(h:d.At H):UI H d.val d.Kc:=by
 cases d with
 |leaf v=>
  rcases(show Lf v from h)with⟨i,rfl⟩|⟨x,rfl,_⟩
  .exact .int i
  .exact .str x
 |row a b=>simp only[At]at h;exact .lst h.1|tab a c b=>simp only[At]at h;exact .dK h.1
noncomputable def sub:Dc->List V->Option Dc
 |d,[]=>Z d|row _ xs,.int i::r=>if 0<=i then(xs[i.toNat]?).bind λx=>sub x r else ν|tab _ ks xs,.str k::r=>((ks.zip xs).lookup k).bind λx=>sub x r|_,_=>ν
def Bq(v:V):Prop:=(∃k:Nat,v=.int (k:Int))∨∃x:Str,v=.str x/\CL x=true
theorem Bq.flat(h:Bq v):Cj v=true:=by
 rcases h with⟨k,rfl⟩|⟨x,rfl,_⟩<;>rfl
theorem AR{k:Str}{x:Dc}(h:(ks.zip xs).lookup k=Z x):k∈ks/\x∈xs:=by
 induction ks generalizing xs with
 |nil=>simp at h|cons y r a=>
  cases xs with
  |nil=>simp at h|cons z b=>
   simp only[m6,j8]at h;by_cases e:k=y
   .subst e;simp at h;subst h;exact⟨e9,e9⟩
   .have:(k==y)=false:=GE e
    rw[this]at h;have:=a h;exact⟨bi _ this.1,bi _ this.2⟩
theorem Cv(f:d.ok) :∀{e:Dc},d.sub zs=Z e->(∀z∈zs,Bq z)/\zs.length+e.size<=d.size/\e.ok:=by
 induction zs generalizing d with
 |nil=>
  intro e h;cases d<;>(simp only[sub,Option.some.injEq]at h;subst h;exact⟨λz b=>(nomatch b),z_,f⟩)
 |cons z r m=>
  intro e h;cases d with
  |leaf v=>simp[sub]at h|row a j=>
   cases z with
   |int i=>
    simp only[sub]at h;by_cases l:0<=i
    .rw[if_pos l]at h;cases c:j[i.toNat]? with
     |none=>rw[c]at h;simp at h|some x=>
      rw[c]at h;have g:=yc c;simp only[ok]at f;obtain⟨a1,a2,a3⟩:=m (d:=x) (BX.mp f x g) h;have:=Cb g;refine⟨λz b=>?_,?_,a3⟩
      .rcases ce.mp b with rfl|b
       .exact .inl ⟨i.toNat,by rw[j4 l]⟩
       .exact a1 z b
      .simp only[g7,size];lia
    .rw[if_neg l]at h;simp at h
   |_=>simp[sub]at h
  |tab a n j=>
   cases z with
   |str k=>
    simp only[sub]at h;cases c:(n.zip j).lookup k with
    |none=>rw[c]at h;simp at h|some x=>
     rw[c]at h;obtain⟨mk,g⟩:=AR c;simp only[ok]at f;obtain⟨a1,a2,a3⟩:=m (d:=x) (BX.mp f.2 x g) h;have:=Cb g;refine⟨λz b=>?_,?_,a3⟩
     .rcases ce.mp b with rfl|b
      .exact .inr ⟨k,W,f.1 k mk⟩
      .exact a1 z b
     .simp only[g7,size];lia
   |_=>simp[sub]at h
theorem sub_snoc{e:Dc}(h:d.sub zs=Z e)(f:List V):d.sub (zs++f)=e.sub f:=by
 induction zs generalizing d with
 |nil=>cases d<;>(simp only[sub,Option.some.injEq]at h;subst h;rfl)|cons z r g=>
  cases d with
  |leaf v=>simp[sub]at h|row a c=>
   cases z with
   |int i=>
    simp only[sub,i5]at h⊢;by_cases j:0<=i
    .rw[if_pos j]at h⊢;cases b:c[i.toNat]? with
     |none=>rw[b]at h;simp at h|some x=>rw[b]at h;exact g (d:=x) h
    .rw[if_neg j]at h;simp at h
   |_=>simp[sub]at h
  |tab a l c=>
   cases z with
   |str k=>
    simp only[sub,i5]at h⊢;cases b:(l.zip c).lookup k with
    |none=>rw[b]at h;simp at h|some x=>rw[b]at h;exact g (d:=x) h
   |_=>simp[sub]at h
theorem ED(h:ks.length=xs.length)(k:Str):Cg (kvs ks xs) (dL k)=((ks.zip xs).lookup k).map val:=by
 induction ks generalizing xs with
 |nil=>simp[kvs,XW]|cons y r c=>
  cases xs with
  |nil=>simp at h|cons z b=>
   have e:kvs (y::r) (z::b)=(dL y,z.val)::kvs r b:=rfl;rw[e];by_cases a:k=y
   .subst a;rw[GR W];simp
   .rw[FW (by intro z;exact a (yr z).symm),c<|GE h];have:(k==y)=false:=GE a
    simp[m6,j8,this]
theorem CV(h:ks.length=xs.length){k:Str}(a:k∈ks):∃x,(ks.zip xs).lookup k=Z x/\x∈xs:=by
 induction ks generalizing xs with
 |nil=>cases a|cons y r b=>
  cases xs with
  |nil=>simp at h|cons z c=>
   by_cases e:k=y
   .subst e;exact⟨z,z_,e9⟩
   .obtain⟨x,d,f⟩:=b (xs:=c) (GE h)<|(ce.mp a).resolve_left e;refine⟨x,?_,bi _ f⟩;have:(k==y)=false:=GE e
    simp[m6,j8,this,d]
end Dc
abbrev SF:Str:="abcdefghijklmnopqrstuvwxyz"
theorem UN:SF.length=26:=by decide+kernel
theorem Ov:Zv.length=26:=by decide+kernel
theorem Xq(i:Int)(b:0<=i)(d:i<26):∃c,QX (sgn SF) i=Z c/\Qi c=true:=by
 obtain⟨n,rfl⟩:=zB b;have a:n<Zv.length:=by rw[Ov];lia
 exact⟨Zv[n],Ba<|yZ a,MB<|re a⟩
theorem JN(r:Int):0<=r % 26/\r % 26<26:=⟨py _ ac,xz _ ac⟩
def i_(v:V):Prop:=∃c,v=.str ⟨#[c]⟩/\Qi c=true
theorem Nk:∀ys:List V,(∀y∈ys,i_ y)->∃zs:List Str,ys=zs.map V.str/\(∀z∈zs,z.length=1)/\((zs.map sgn).flatten).length=ys.length/\((zs.map sgn).flatten).all Qi=true
 |[],_=>⟨[],W,z_,W,W⟩|y::r,h=>by
  obtain⟨c,e,b⟩:=h y e9;obtain⟨zs,d,f,g,i⟩:=Nk r λz a=>h z<|bi _ a;refine⟨⟨#[c]⟩::zs,by rw[e,d];rfl,?_,?_,?_⟩
  .intro z a;rcases ce.mp a with rfl|a
   .rfl
   .exact f z a
  .show(sgn ⟨#[c]⟩++(zs.map sgn).flatten).length=_;rw[d7,g];show 1+r.length=r.length+1;lia
  .show(sgn ⟨#[c]⟩++(zs.map sgn).flatten).all Qi=true;rw[Q9,i];show([c].all Qi&&true)=true;simp[b]
inductive ae(K:yd)(b:List V)(H:Hp)(Q:VK)(c:XK):Prop|mk(a:Addr)(d:List Int)(k:Nat)(e:b=[.ref a,.int (k:Int)])(f:Ax K H a (d.map V.int))(g:∀r:Int,0<=r->Q (.int r) H)
def Ow(K:yd):Sp:=λb H Q a=>ae K b H Q a
inductive eQ(a:List V)(H:Hp)(Q:VK)(b:XK):Prop|mk(c:Int)(k:Nat)(d:a=[.int c,.int (k:Int)])(e:k<=1000)(f:∀r:Int,0<=r->r<2305843009213693951->Q (.int r) H)
def HW:Sp:=λb H Q a=>eQ b H Q a
noncomputable def Xr:Nat->Int->Int
 |0,n=>n|k+1,n=>Xr k n/1000000
def Qq(c:Int)(k:Nat):Int:=(((c+3)*1181783497276652981 % 2305843009213693951+((k:Int)+1)*614889782588491411) % 2305843009213693951)*(((c+3)*1181783497276652981 % 2305843009213693951+((k:Int)+1)*614889782588491411) % 2305843009213693951) % 999999999999999989
def MJ(c:Int)(k:Nat):Int:=if c % 4=0/\4*10 ^ 60<=c then Xr k (c/4) % 1000000 else(Qq c k+1)*(Qq c k/1000003+7) % 2305843009213693951/7919
theorem Xs(c:Int)(k:Nat):0<=MJ c k/\MJ c k<2305843009213693951:=by
 unfold MJ;split
 .have a:=py (Xr k<|c/4) (show(1000000:Int)≠0 by decide);have b:=xz (Xr k<|c/4) (show(0:Int)<1000000 by decide);lia
 .have a:=py ((Qq c k+1)*(Qq c k/1000003+7)) (show(2305843009213693951:Int)≠0 by decide);have b:=xz ((Qq c k+1)*(Qq c k/1000003+7)) (show(0:Int)<2305843009213693951 by decide);lia
inductive ag(a:List V)(H:Hp)(Q:VK)(b:XK):Prop|mk(c:Int)(k:Nat)(d:a=[.int c,.int (k:Int)])(e:k<=1000)(f:Q (.int (MJ c k)) H)
def Si:Sp:=λb H Q a=>ag b H Q a
theorem Xt(h:HW a H f g):Si a H f g:=by
 obtain⟨c,k,e,b,q⟩:=h;exact⟨c,k,e,b,q _ (Xs c k).1 (Xs c k).2⟩
theorem Xu{ys:List Str}(P:Nat->Str->Prop)(h:∀(j:Nat) y,ys[j]?=Z y->P j y)(inj:∀(i j:Nat) y,i<j->j<ys.length->P i y->P j y->False):ys.Nodup:=by
 refine B0.mpr λi j d b a e=>?_;have f:=h i _<|yZ d;have c:=h j _<|yZ b;rw[<-e]at c;exact inj i j _ a b f c
inductive Xv(a:List V)(H:Hp)(Q:VK)(b:XK):Prop|mk(c d:Int)(e:a=[.int c,.int d])(f:∀(p:Addr) (ys:List Str) (H':Hp),AF H H'->H p=ν->H' p=Z (.lst (ys.map V.str))->ys.length=6->ys.Nodup->(∀y∈ys,CL y=true)->Q (.ref p) H')
def UO:Sp:=λb H Q a=>Xv b H Q a
def Xw(N:List Str)(b:Addr)(y:V)(H H':Hp):Prop:= (∃a i,H b=Z (.lst a)/\H' b=Z (.lst (a.take i++y::a.drop i)))∨∃c k,H b=Z (.dK c)/\(dL k:Key)∉c.map (·.1)/\(CL k=true/\k∈N)/\H' b=Z (.dK<|c++[(dL k,y)])
structure Made(H H':Hp)(d:Dc):Prop where
 same:AF H H'
 at_:d.At H'
 ok:d.ok
 nd:d.AZ.Nodup
 own:∀a∈d.AZ,∀o u,H' a≠Z (.Di o u)
 new:∀a∈d.AZ,H a=ν
inductive eT(K:yd)(c:List V)(H:Hp)(Q:VK)(d:XK):Prop|mk(a:Addr)(b:List Int)(e:c=[.ref a])(f:Ax K H a (b.map V.int))(g:b.length<=63)(h:∀H',Q (.bl true) H')
def Qr(K:yd):Sp:=λb H Q a=>eT K b H Q a
theorem Ao(h:n<=1000):n<=sizeLine:=jp<|As h
theorem AW:[x,y].length<=sizeLine:=Ao<|show 2<=1000 by decide
theorem BG:[x].length<=sizeLine:=Ao<|show 1<=1000 by decide
theorem Bd(a:List V)(lv:V):Gj (a++[lv]) ν (Z (-1))=a:=by
 have b:HT.Ci (a++[lv]).length (a++[lv]).length (Z<|-1)=a.length:=by
  simp only[HT.Ci,d7,j5];rw[if_pos ac];lia
 unfold Gj;rw[b,HT.QV,E2,A4];exact abh
theorem cf{f:Addr}{b:m9}{sp:Sp}(no:∀a H Q E,¬sp a H Q E):BA P w K mg base DC 0 f b c sp:=
 ⟨λa H Q E h=>absurd h (no a H Q E),λA outer s H args d a Q E _ _ _ _ h=>absurd h (no a H Q E)⟩
theorem Xx(R:Hp->Prop)(k:∀H',R H'->u D σ H')(h:(∀H',R H'->u D σ H')->t {D with nx:=u D} σ H):QP t u D σ H:=h k
variable{b:Addr}
theorem Dc.there(h:d.At H)(a:b∈d.AZ):H b≠none:=by
 have f:∀u,Rd H b u->H b≠none:=λu r z=>by
  rcases r with r|⟨o,r⟩<;>rw[r]at z<;>cases z
 rcases Dc.J_ d h a with⟨c,e,_⟩|⟨g,i,e,_⟩
 .exact f _ e
 .exact f _ e
theorem Rd.exact(r:Rd H b u)(no:∀o u,H b≠Z (.Di o u)):H b=Z u:=r.elim id λ⟨o,e⟩=>absurd e<|no o u
theorem DA{H':Hp}{a:Addr}(h:H a≠ν)(no:∀o u,H a≠Z (.Di o u))(s:∀o,H a=Z o->H' a=Z o):∀o u,H' a≠Z (.Di o u):=λo u e=>by
 cases q:H a with
 |none=>exact h q|some x=>
  rw[s x q]at e;cases e;exact no o u q
structure Ds(H Hi:Hp)(d:Dc)(L:Addr)(ts:List Addr):Prop where
 made:Made H Hi d
 nL:H L=ν
 eL:Hi L=Z (.lst (ts.map V.ref))
 out:L∉d.AZ
 hold:∀t∈ts,∃b k,Hi t=Z (.tup [.ref b,.int k])/\b∈d.AZ
theorem Made.up{b H2:Hp}(D:Made H b d)(s:AF b H2):Made H H2 d:=⟨D.same.trans s,Dc.AS s D.at_,D.ok,D.nd,λa c=>DA (Dc.there D.at_ c) (D.own a c)<|s a,D.new⟩
theorem Ds.up(D:Ds H a d L h)(s:AF a H2):Ds H H2 d L h:=
 ⟨D.made.up s,D.nL,s _ _ D.eL,D.out,λt f=>let⟨b,k,e,g⟩:=D.hold t f;⟨b,k,s _ _ e,g⟩⟩
theorem Ds.push{c:Hp}{L t:Addr}{k:Int}{g:List Addr}(D:Ds H c d L g)(n:c t=Z (.tup [.ref b,.int k]))(q:b∈d.AZ):Ds H (upd c L (.lst (g.map V.ref++[.ref t]))) d L (g++[t]):=by
 have p:∀a∈d.AZ,∀o,c a=Z o->upd c L (.lst<|g.map V.ref++[.ref t]) a=Z o:=λa f o e=>by
  have j:a≠L:=λz=>D.out (by rw[<-z];exact f);rw[AM j];exact e
 refine⟨⟨D.made.same.put D.nL,Dc.Cc d p D.made.at_,D.made.ok,D.made.nd,λa f=>DA (Dc.there D.made.at_ f) (D.made.own a f)<|p a f,D.made.new⟩,D.nL,by rw[AD,ca];rfl,D.out,λi l=>?_⟩
 .have ne:∀{i:Addr}{r:List V},c i=Z (.tup r)->i≠L:=λh=>GI h D.eL (by intro z;cases z);rcases am.mp l with h|h
  .obtain⟨s,u,e,m⟩:=D.hold i h;exact⟨s,u,(AM<|ne e).trans e,m⟩
  .rw[ci.mp h];exact⟨b,k,(AM<|ne n).trans n,q⟩
theorem Made.laid{N:List Str}{F H2 f:Hp}{p:Dc}(D:Made H F d)(s:AF F H2)(O:p.At H2)(R:p.ok)(pn:p.AZ.Nodup)(S:∀a∈p.AZ,∀o u,H2 a≠Z (.Di o u))(new:∀a∈p.AZ,F a=ν)(q:b∈d.AZ)(c:gf b H2 f)(P:Xw N b p.val H2 f):
  ∃d':Dc,d'.val=d.val/\d'.size=d.size+p.size/\Made H f d'/\(∀a∈p.AZ,a∈d'.AZ)/\(∀a∈d.AZ,a∈d'.AZ)/\(∀a∈d'.AZ,a∈d.AZ∨a∈p.AZ)/\p.At f/\((∃y∈N,CL y=true)->p.named N->d.named N->d'.named N):=by
 have Q:∀x∈d.AZ,x∉p.AZ:=λx T G=>Dc.there D.at_ T<|new x G;have t:p.At f:=Dc.Cc p (λa g o e=>c a o (λz=>Q b q<|by rw[<-z];exact g) e) O;have U:AF H f:=λa o e=>c a o (Am e<|D.new b q)<|(D.same.trans s) a o e;have V:∀a∈d.AZ,a≠b->∀o,H2 a=Z o->f a=Z o:=λa _ h o e=>c a o h e;have at2:=Dc.AS s D.at_;have v:∀o u,f b≠Z (.Di o u):=λo u e=>by
  rcases P with⟨w,i,_,z⟩|⟨n,k,_,_,⟨_,_⟩,z⟩<;>rw[z]at e<;>cases e
 have go:∀(i:Nat)(k:Str),(CL k=true)->((∃y∈N,CL y=true)->k∈N)->(∀w,Rd H2 b (.lst w)->f b=Z (.lst (w.take i++p.val::w.drop i)))->(∀n,Rd H2 b (.dK n)->(dL k:Key)∉n.map (·.1)/\f b=Z (.dK<|n++[(dL k,p.val)]))->
   ∃d':Dc,d'.val=d.val/\d'.size=d.size+p.size/\Made H f d'/\(∀a∈p.AZ,a∈d'.AZ)/\(∀a∈d.AZ,a∈d'.AZ)/\(∀a∈d'.AZ,a∈d.AZ∨a∈p.AZ)/\p.At f/\((∃y∈N,CL y=true)->p.named N->d.named N->d'.named N):=λi k I l A B=>by
  refine⟨Dc.put b i k p d,Dc.UK ..,Dc.Qm d q D.nd,⟨U,Dc.Xl t A B d V D.nd at2,Dc.Xp R I d D.ok,Dc.Nh pn d D.nd Q,λa g=>?_,λa g=>?_⟩,λa g=>(Dc.EZ d a).2.2 q g,λa g=>(Dc.EZ d a).2.1 g,λa g=>((Dc.EZ d a).1 g).imp id λz=>z.2,t,λX Y ζ=>Dc.Nj Y (l X) d ζ⟩
  .by_cases m:a=b
   .subst m;exact v
   .rcases(Dc.EZ d a).1 g with h|h
    .exact DA (Dc.there at2 h) ((D.up s).own a h) λo=>c a o m
    .exact DA (Dc.there O h.2) (S a h.2) λo=>c a o m
  .rcases(Dc.EZ d a).1 g with h|h
   .exact D.new a h
   .exact D.same.free<|new a h.2
 have C:∀u,Rd H2 b u->H2 b=Z u:=λu r=>r.exact<|(D.up s).own b q;rcases P with⟨w,i,j,J⟩|⟨n,k,j,I,⟨nb,ξ⟩,J⟩
 .obtain⟨E,L,l⟩:∃E:Str,CL E=true/\((∃y∈N,CL y=true)->E∈N):=by
   by_cases h:∃y∈N,CL y=true
   .obtain⟨y,h1,h2⟩:=h;exact⟨y,h2,λ_=>h1⟩
   .exact⟨"a",by decide+kernel,λz=>absurd z h⟩
  refine go i E L l (λM e=>?_) λn e=>?_
  .rw[C _ e]at j;cases j;exact J
  .rw[C _ e]at j;cases j
 .refine go 0 k nb (λ_=>ξ) (λM e=>?_) (λyH e=>?_)
  .rw[C _ e]at j;cases j
  .rw[C _ e]at j;cases j;exact⟨I,J⟩
theorem Ds.laid{N:List Str}{H j H2 f:Hp}{d p:Dc}{b L:Addr}{r:List Addr}(D:Ds H j d L r)(s:AF j H2)(C:p.At H2)(g:p.MI)(E:∀a∈p.AZ,∀o u,H2 a≠Z (.Di o u))(new:∀a∈p.AZ,j a=ν)(v:b∈d.AZ)(c:gf b H2 f)(w:Xw N b p.val H2 f):
  ∃d':Dc,d'.val=d.val/\d'.size=d.size+1/\Ds H f d' L r/\(∀a∈p.AZ,a∈d'.AZ)/\p.At f/\((∃y∈N,CL y=true)->d.named N->d'.named N):=by
 obtain⟨d',F,x,m,G,I,J,l,M⟩:=D.made.laid s C g.ok g.nodup E new v c w;rw[g.size]at x;have A:=D.up s;refine⟨d',F,x,⟨m,D.nL,?_,?_,λt O=>?_⟩,G,l,λP n=>M P g.named n⟩
 .exact c _ _ (λz=>D.out<|by rw[z];exact v) A.eL
 .intro h;rcases J L h with h|h
  .exact D.out h
  .have:=new L h;rw[D.eL]at this;cases this
 .obtain⟨B,k,e,q⟩:=A.hold t O;refine⟨B,k,c _ _ ?_ e,I B q⟩;rcases w with⟨Q,i,z,_⟩|⟨R,S,z,_⟩
  .exact GI e z<|by intro z;cases z
  .exact GI e z<|by intro z;cases z
namespace Dc
mutual
def slim:Dc->Prop
 |leaf _=>True|row _ xs=>MK xs|tab _ _ xs=>xs.length<64/\MK xs
def MK:List Dc->Prop
 |[]=>True|x::r=>slim x/\MK r
end
theorem Ea:∀{xs:List Dc},MK xs->∀x∈xs,slim x
 |[],_,x,a=>nomatch a
 |y::r,h,x,a=>by
  simp only[MK]at h;rcases ce.mp a with rfl|a
  .exact h.1
  .exact Ea h.2 x a
mutual
theorem JO:∀d:Dc,d.size<64->d.slim
 |leaf _,_=>trivial|row a xs,h=>by
  simp only[size]at h;simp only[slim];exact ML xs (g8 (fr _ _) h)
 |tab a ks xs,h=>by
  simp only[size]at h;simp only[slim];have:=GD xs;exact⟨g8 (al this<|fr _ _) h,ML xs<|g8 (fr _ _) h⟩
theorem ML:∀xs:List Dc,Ab xs<64->MK xs
 |[],_=>trivial|x::r,h=>by
  simp only[Ab]at h;simp only[MK];exact⟨JO x<|g8 (gT _ _) h,ML r<|g8 (fr _ _) h⟩
end
def IY(ks:List Str)(xs:List Dc)(k:Str):Nat:=(((ks.zip xs).lookup k).map size).getD 0
theorem Qs:∀{ks:List Str}{xs:List Dc},ks.length=xs.length->ks.Nodup->(ks.map (IY ks xs)).sum=Ab xs
 |[],xs=>λh _=>by
  cases xs with
  |nil=>rfl|cons x r=>simp at h
 |k::ks,[]=>λh _=>by simp at h|k::ks,x::xs=>λh n=>by
  obtain⟨a,b⟩:=f9.mp n;have c:IY (k::ks) (x::xs) k=x.size:=by simp[IY]
  have d:ks.map (IY (k::ks) (x::xs))=ks.map (IY ks xs):=B3 λy e=>by
   have ne:y≠k:=λz=>a<|z▸e;have:(y==k)=false:=GE ne
   simp[IY,m6,j8,this]
  rw[i2,abx,c,d,Qs (GE h) b];simp only[Ab]
theorem Nl{ss:List Str}(h:ks.length=xs.length)(n:ks.Nodup)(p:ss.Perm ks):(ss.map (IY ks xs)).sum=Ab xs:=by
 rw[(p.map _).sum_nat,Qs h n]
theorem HE{i:Nat}{x:Dc}(h:xs[i]?=Z x):Ab (xs.take (i+1))=Ab (xs.take i)+x.size:=by
 rw[yz,h,BP];simp[Ab]
end Dc
section
variable {σ:St} {a:Addr} {kvs:List (Key×V)}
theorem Inv.freeze(I:Inv X pins σ H s)(e:H a=Z (.dK kvs)):∃o,s.heap.get? a=Z o/\Inv X pins σ (upd H a (.Di o (.dK kvs))) s:=by
 have ok:=(show BR X.prog X.w H s.heap a (.dK kvs)from I.Bi a _ e);obtain⟨z,g,h,i,o,j,k,f,r⟩:=id ok;refine⟨o,f,?_⟩;have c:∀b u,H b=Z u->u≠.dK kvs->b≠a:=λb u q n w=>by
  subst w;rw[e]at q;exact n (yb q).symm
 have un:Un X.fs [] H (upd H a<|.Di o<|.dK kvs) s.heap s.heap:=
  ⟨λb d q _ _ _=>q,λb d q _ _ _=>⟨d.slots,q⟩,λb d q n _=>(AM (λw=>by subst w;rw[e]at n;cases n)).trans n,λb d q _=>⟨d,q⟩,
   λb l q=>(AM (c b _ q (by intro z;cases z))).trans q,λb d u q=>(AM (c b _ q (by intro z;cases z))).trans q,λb m q=>⟨#[],by rw[AM (c b _ q (by intro z;cases z)),q];simp⟩⟩
 have Bi:Hq X.prog X.w (upd H a<|.Di o<|.dK kvs) s.heap:=I.Bi.write (by rw[e];trivial) (.inl W) (λb u _ q=>q) ⟨o,f⟩ ⟨f,ok⟩;exact I.un (h':=s.heap) (t':=s.toks) un Bi
theorem Inv.ou(I:Inv X pins σ H s)(e:H a=Z (.Di o (.dK kvs)))(nf:∀o u,X.H₀ a≠Z (.Di o u)):Inv X pins σ (upd H a (.dK kvs)) s:=by
 have ok:=(show BR X.prog X.w H s.heap a (.Di o<|.dK kvs)from I.Bi a _ e);have d:∀b u,H b=Z u->u≠.Di o (.dK kvs)->b≠a:=λb u q n w=>by
  subst w;rw[e]at q;exact n (yb q).symm
 have f:∀b,H b=ν->b≠a:=λb n w=>by subst w;rw[e]at n;cases n
 have B:=I.base;refine⟨I.ok,I.os,I.bare,⟨B.keep,B.slot,λb g q n i=>(AM (f b (B.free b g q n i))).trans (B.free b g q n i),B.there,λb h q=>(AM (d b _ (B.Mz b h q) (by intro z;cases z))).trans (B.Mz b h q),
  λb g u q=>(AM (λw=>nf g u (by rw[<-w];exact q))).trans (B.Lg b g u q),λb m q=>?_⟩,I.loc,I.cell,(AM (f _ I.free)).trans I.free,λx c q=>(AM (f _ (I.GJ x c q))).trans (I.GJ x c q),
  λp t=>let⟨y,j,A⟩:=I.pin p t;⟨y,(AM (f _ j)).trans j,A⟩,λb u q=>?_,I.len⟩
 .obtain⟨more,k⟩:=B.OV b m q;exact⟨more,(AM<|d b _ k<|by intro z;cases z).trans k⟩
 .by_cases l:b=a
  .subst l;rw[AD]at q;cases q;exact ok.2
  .rw[AM l]at q;exact(I.Bi b u q).Kw (λc v _ r=>r) (λc r=>(AM<|d c _ r<|by intro z;cases z).trans r) λc h r=>(AM<|d c _ r<|by intro z;cases z).trans r
theorem Inv.nf(I:Inv X pins σ H s)(e:H a=Z (.dK kvs)):∀o u,X.H₀ a≠Z (.Di o u):=λo u q=>by
 have:=I.base.Lg a o u q;rw[e]at this;cases this
end
def eU(a:Addr)(o:Obj)(kvs:List (Key×V))(k:Hp->Prop):Hp->Prop:=λH=>H a=Z (.Di o<|.dK kvs)/\k (upd H a<|.dK kvs)
inductive eV(t:TE)(σ:St)(H:Hp)(Q:VK):Prop|mk(a kvs:_)(b:H a=Z (.dK kvs))(c:∀o,t σ (upd H a (.Di o (.dK kvs))) λv=>eU a o kvs (Q v))
def jA(t:TE):TE:=λa H Q=>eV t a H Q
section
theorem eW(h:PE X e t):PE X e (jA t):=by
 rintro pins s c H Q I ⟨a,kvs,b,d⟩;obtain⟨o,l,f⟩:=I.freeze b;exact CF (h pins s c _ _ f<|d o) λu m ⟨v,n,g,i,j,k⟩=>⟨v,_,g.ou j<|I.nf b,i,k⟩
theorem MM(h:PE X e t)(h':PE X e u):PE X e (fun σ H Q=>t σ H Q∨u σ H Q):=by
 rintro pins s σ H Q I (q|q)
 .exact h pins s σ H Q I q
 .exact h' pins s σ H Q I q
theorem Xy(h:PS X e t)(h':PS X e u):PS X e (λD σ H=>t D σ H∨u D σ H):=by
 rintro pins s σ H D I (q|q)
 .exact h pins s σ H D I q
 .exact h' pins s σ H D I q
end
def ow(a:Addr)(o:Obj)(kvs:List (Key×V)):It:=
 ⟨λi H=>H a=Z (.Di o (.dK kvs))/\i<kvs.length,λi H x b=>b=H/\∃k v,kvs[i]?=Z (k,v)/\x=kV k,λi H=>H a=Z (.Di o (.dK kvs))/\i=kvs.length⟩
def jB(c:TE):TI:=λd H R=>c d H λx b=>∃a o kvs,x=.ref a/\b a=Z (.Di o<|.dK kvs)/\R (ow a o kvs) b
theorem ai(h:(A_ P w).is k u=true):RelV (kV k) u:=by
 rcases Bf (k:=k) (v:=u) h with⟨i,t,rfl,rfl⟩|⟨x,t,rfl,rfl⟩
 .exact⟨t,W⟩
 .exact⟨t,W⟩
theorem Vr{tg:r6}(gg:a≠it)(rel:KV kvs vs)(hD:∀h:Heap,h.get? a=Z o->h.DictAt (A_ P w) a vs ep):
  Turn P w K tg (ow a o kvs) [it] it (λi h=>h.IsKeyIter it a i vs.length ep)where
 mem:=by simp
 obj:=λi h st b hb=>by
  have e:b=it:=GE hb
  subst e;obtain⟨ob,h1,_,h3⟩:=st;exact⟨ob,h1,λv z=>by rw[h3]at z;cases z⟩
 keep:=λi h h' st k=>st.at λob e=>k it z_ ob e
 item:=λX hp hw _ hc i pins s σ H E I hf st go=>by
  subst hp hw;have f:=hf it z_;obtain⟨ga,gi⟩:=go;have oz:=hD s.heap (show BR X.prog X.w H s.heap a (.Di o<|.dK kvs)from I.Bi a _ ga).1;refine(Walks.dictKeys (knd:=A_ X.prog X.w) (I.ok.hd hc) it a gg vs ep).item i s _ E (by rw[<-rel.length];exact gi) ⟨st,oz⟩ λv h' tk hP XC kept=>?_;obtain⟨k,x,uy,hk⟩:=hP;obtain⟨ob,h1,h2,h3⟩:=XC.1;have o_:∃y,kvs[i]?=Z (k,y):=by
   have e:=congrArg (λl=>l[i]?)<|KV.keys rel;simp only[f8,uy,yZ gi]at e;have e:kvs[i].1=k:=GE e
   exact⟨kvs[i].2,by rw[yZ gi,<-e]⟩
  obtain⟨y,hy⟩:=o_;refine⟨v,W,Ts (o:=ob) h1 h2 h3 ac ⟨kV k,H,I.turned (λb uz hb e=>kept b uz (by simp[hb]) e) f.1 f.2.1 f.2.2.2.1 f.2.2.2.2.1 f.2.2.2.2.2,ai hk,⟨W,k,y,hy,W⟩,XC.1,λb hb=>?_⟩⟩;have e:b=it:=GE hb
  subst e;exact f.1
 done:=λX hp hw _ hc i pins s σ H E I hf st stop=>by
  subst hp hw;have f:=hf it z_;obtain⟨ga,gi⟩:=stop;have gi:i=vs.length:=by rw[gi];exact rel.length
  subst gi;have oz:=hD s.heap (show BR X.prog X.w H s.heap a (.Di o<|.dK kvs)from I.Bi a _ ga).1;refine(Walks.dictKeys (knd:=A_ X.prog X.w) (I.ok.hd hc) it a gg vs ep).done s _ E ⟨st,oz⟩ λh' tk kept=>?_;exact⟨W,I.turned (λb ob hb e=>kept b ob (by simp[hb]) e) f.1 f.2.1 f.2.2.2.1 f.2.2.2.2.1 f.2.2.2.2.2⟩
 self:=λA i s Q E st hQ=>wpAny_pyIter_keyiter st hQ
section
variable {tg:r6}
theorem aj(n:PE X N p):PI X tg N (jB p):=by
 intro pins s r H R I h;refine CF (n pins s r H _ I h) λv c t=>t.elim λx k g u y=>?_;obtain⟨a,o,kvs,rfl,A,q⟩:=y;cases u;have ok:=(show BR X.prog X.w k c.heap a (.Di o (.dK kvs))from g.Bi a _ A);obtain⟨m,z,B,G,i,C⟩:=ok;obtain⟨J,d⟩:=C.dictAt;obtain⟨L,D,f,E⟩:=id d;rw[m]at f;cases f;have j:a<c.heap.objs.size:=g6 m;refine wpAny_pyIter_dict B d ⟨c.heap.objs.size,[c.heap.objs.size],_,ow a o kvs,k,W,g.kept (t':=c.toks) λb M e=>d0 _ e,
  Vr (i9 j) i (λh e=>⟨o,D,e,E⟩),⟨_,i7 _ W,W,W⟩,λb F=>?_,q⟩
 have e:b=c.heap.objs.size:=GE F
 subst e;exact g.SJ (b5 _) g.fresh
end
def HF(H H':Hp):Prop:=∀b u,Rd H b u->Rd H' b u
theorem AF.r(s:AF H H'):HF H H':=λb u r=>r.up λo=>s b o
theorem HF.trans(s:HF H a)(t:HF a H2):HF H H2:=λb u r=>t b u<|s b u r
theorem HF.Di{H:Hp}{a:Addr}{o:Obj}{kvs:List (Key×V)}(e:H a=Z (.dK kvs)):HF H (upd H a (.Di o (.dK kvs))):=λb u r=>by
 by_cases c:b=a
 .subst c;rcases r with r|⟨d,r⟩
  .rw[e]at r;cases r;exact .inr ⟨o,AD⟩
  .rw[e]at r;cases r
 .exact r.up λd q=>(AM c).trans q
theorem Dc.Xz{H':Hp}(s:HF H H')(h:d.At H):d.At H':=Dc.UL d (λa _ u r=>s a u r) h
end L2
namespace PySem
open PyProof.Rows PySem.F PySem.Spec
theorem MN:aa4 (.type "list") "keys"=pure none:=by rw[typeLookup_type,builtinLookup_eq_fast];kernel_rfl
variable{prog:m8}
theorem MO{w:q3}{A:i8}{E:bd->d6->Prop}{s:d6}{a:Addr}{o:Obj}{xs:Array bd}{k:Nat}{Q:Option bd->d6->Prop}(j:s.heap.get? a=Z o)(l:o.cls=.type "list")(b:o.data=.seq xs k)(m:o.dict=ν)(p:A.handled=ν)(h:∀h' tk e,Heap.NewExcOf s.heap h' e "AttributeError"->Q ν {s with heap:=h',toks:=tk}):
  im (j1 prog w) A (getAttr? (.ref a) "keys") Q E s:=by
 obtain⟨c,HP,q,r⟩:=o;simp only at l b m;subst l b m;obtain⟨t,g,d,tk,os⟩:=s;have n:∀f,(⟨t,g,d,f,os⟩:d6).TypeIs (.ref a) "list":=λ_=>⟨_,j,W⟩;have u:=sub_AttributeError;have v:=C1.lookup;have x:=C1.bind<|.ref a;have y:=am_list_getattr_none;unfold getAttr? getAttrBy? getAttrBy
 repeat (any_goals (first|assumption|exact n _|((with_reducible show im _ _ (call (Value.builtin "list.__getattribute__") _ _) _ _ _);refine za C1 (n _) am_entry_list_getattribute (F.args_list_getattribute_2 _ _) (meets_getattribute_miss_list a xs k r "keys" _ MN (by decide+kernel) (by decide+kernel)) ⟨j,p,λh' f e i=>?_⟩)|wp_step))
 obtain⟨z,B,C⟩:=i.there;show im _ _ (X8 _ _ _ _ _ _ _) _ _ _;unfold X8
 repeat (any_goals (first|assumption|wp_step))
 exact h _ _ _ i.of
theorem HG:entryFor table "dict.update.loop"=Z Builtin.«dict.update.loop»:=entryFor_of_tree<|by kernel_rfl
theorem Dj:plainId "dict.update.loop"=true:=by decide+kernel
section
variable {w:q3} {K:Type} [DecidableEq K] {knd:KeyKind prog w K} {A:i8} {R:T6->d6->Prop}
theorem Vs(hh:A.handled=ν)(E:l≠I)(g:d≠I)(F:d≠l)(hlen:items.size=more.length)(hsz:more.length<=100000):
  ∀(k i:Nat)(s:d6),more.length-i=k->i<=more.length->s.heap.IsListIter I l i->s.heap.IsList l items->s.heap.DictOf knd d (aau [] (more.take i))-> (∀(j:Nat) u v',more[j]?=Z (u,v')->∃t a,items[j]?=Z (.ref t)/\t≠d/\t≠I/\aaa s.heap t #[a,v']/\knd.is u a=true)-> (∀h' tk,h'.DictOf knd d (aau [] more)->(∀b o,b≠d->b≠I->s.heap.get? b=Z o->h'.get? b=Z o)->R (.ok (.ret .none)) {s with heap:=h',toks:=tk})->
   A1 (j1 prog w) A (.builtin "dict.update.loop" ⟨[.ref d,.ref I,On (i:Int),.none],[]⟩) R s:=by
 have ξ:=Walks.list (prog:=prog) (w:=w) (A:=A.in1) hh I l E items;intro k
 induction k with
 |zero=>
  intro i s hk hi h G C H J;have L:i=more.length:=by lia
  subst L;refine zI HG ?_;rw[yx Dj _];show im _ A.in1 (abJ (.ref I)>>=_) _ _ s;refine ap (ξ.done s _ _ (by rw[hlen];exact⟨h,G⟩) λh' tk kept=>?_);rw[v7]at C;obtain⟨o,M,N,O,r⟩:=C;show im _ A.in1 (abF d []>>=_) _ _ _;exact ap (e7<|e7<|J h' tk ⟨o,M,N,kept _ _ (by simp[g]) O,r⟩ λb o _ hb e=>kept b o (by simp[hb]) e)
 |succ k ih=>
  intro i s hk hi h G C H J;have m:i<more.length:=by lia
  obtain⟨⟨u,v'⟩,ζ⟩:∃p,more[i]?=Z p:=⟨_,yZ m⟩;obtain⟨t,a,ht,td,tI,tup,c⟩:=H i u v' ζ;refine zI HG ?_;rw[yx Dj _];show im _ A.in1 (abJ (.ref I)>>=_) _ _ s;refine ap (ξ.item i s _ _ (by rw[hlen];exact m) ⟨h,G⟩ λv h' tk hv x kept=>?_);rw[ht]at hv;cases hv;obtain⟨ot,P,n,nt,y⟩:=tup;have f:h'.get? t=Z ot:=kept _ _ (by simp[tI]) P;have hT:({s with heap:=h',toks:=tk}:d6).TypeIs (.ref t) "tuple":=⟨_,f,n⟩;obtain⟨ct,dt,dat,slt⟩:=ot;simp only at n y;subst n y;obtain⟨o,M,N,O,r⟩:=id C;have Q:h'.DictOf knd d (aau []<|more.take i):=⟨o,M,N,kept _ _ (by simp[g]) O,r⟩;have S:(aau []<|more.take i).length<=sizeLine:=by
   have:=merged_length_le ([]:List (K×bd))<|more.take i;rw[n6,u7]at this;have e:sizeLine=16777216:=N2;lia
  show im _ A.in1 (M9 [i3 t] _>>=_) _ _ _;refine ap<|u9<|ap<|wpAny_tryCatch ?_;unfold abT;refine ap<|EQ hT ?_;rw[if_pos ac];unfold abG;refine ap ?_;refine ap<|X0 f ?_;refine e7<|e7 ?_;show im _ A.in1 (M9 [a,v']<|dictSet d a v') _ _ _;refine u9 ?_;unfold dictSet
  try with_reducible refine u9 ?_
  refine ap<|knd.pyHash c ?_;refine wpAny_dictSetHashed_pairs (hsz:=S) c Q λh2 z q=>?_;have e1:stored (aau []<|more.take i) u v'=aau [] (more.take<|i+1):=(merged_take_succ [] more i (u,v') ζ).symm;rw[e1]at z;have kp:∀b o,b≠d->b≠I->s.heap.get? b=Z o->h2.get? b=Z o:=λb o D T e=>by
   rw[q.2 b D];exact kept b o (by simp[T]) e
  have ic:((i:Int)+1)=((i+1:Nat):Int):=by simp
  refine e7 ⟨B4 Dj _,?_⟩;rw[ic];refine ih (i+1) _ y_ m (x.1.at λo e=>by rw[q.2 I<|u8 g];exact e) (x.2.at λo e=>by rw[q.2 l<|u8 F];exact e) z (λj k2 v2 hj=>?_) (λT U V X=>J T U V λb o D h4 e=>X b o D h4<|kp b o D h4 e);obtain⟨t2,B,a1,a2,a3,⟨Y,b1,b2⟩,a5⟩:=H j k2 v2 hj;exact⟨t2,B,a1,a2,a3,⟨Y,kp _ _ a2 a3 b1,b2⟩,a5⟩
end
end PySem
namespace L2
open PySem PySem.Spec PyProof.Rows
variable{X:Cx}
section
inductive ao(K:yd)(xs:List V)(H:Hp)(Q:VK):Prop|mk(l:Addr)(a:List Addr)(kvs:List (Key×V))(b:xs=[.ref l])(c:Ax K H l (a.map V.ref))(d:a.length=kvs.length)(e:(∀(j:Nat) k v,kvs[j]?=Z (k,v)->∃t,a[j]?=Z t/\H t=Z (.tup [kV k,v])))(f:kvs.length<=1000)(g:Wx H (.dK (FD [] kvs)) Q)
def eX(K:yd):List V->Hp->VK->Prop:=λa H Q=>ao K a H Q
theorem LF(hc:X.calm=true):Dx X (.type "dict") (eX X.K):=by
 intro pins s σ H xs us Q I r h;obtain⟨l,f,kvs,rfl,hl,hlen,hp,hz,q⟩:=h;obtain⟨u,rfl,ru⟩:=vals1 r;cases ru;obtain⟨n,rv,pl,_⟩:=I.list hl;obtain⟨Y,nl,L,x,ζ,C⟩:=id pl;have M:X.A.in1.handled=none:=I.ok.hd hc;refine callType_codes (Q₁:=λN B=>N=.ref s.heap.objs.size/\B={s with heap:=s.heap.push {cls:=.type "dict",data:=.dict #[]}}) F.kt_called_dict (F.kt_typeCall_dict_1 _) F.entry_dict_init (kt_code_dict_new _ ⟨W,W⟩) ?_;rintro N B ⟨rfl,rfl⟩;have g:(s.heap.push {cls:=.type "dict",data:=.dict #[]}).DictOf (A_ X.prog X.w) s.heap.objs.size []:=Heap.DictOf.new s.heap;refine⟨g.typeIs,F.args_dict_init_2 _ _,?_⟩;unfold Builtin.«dict.__init__»;refine ap ?_;unfold abE;refine ap<|zU g.typeIs ?_;show im _ _ (pure (s.heap.objs.size,[i3 l])) _ _ _;refine e7 ?_;show im _ _ (P5 "dict.__init__" s.heap.objs.size (.ref l) [] .none) _ _ _;unfold P5;have c:(s.heap.push {cls:=.type "dict",data:=.dict #[]}).get? l=Z Y:=d0 _ L;have ξ:({s with heap:=s.heap.push {cls:=.type "dict",data:=.dict #[]}}:d6).TypeIs (.ref l) "list":=⟨_,c,x⟩;refine ap<|EQ ξ ?_;rw[if_pos ac];refine ap (MO c x C ζ M λD yI e1 ne1=>?_);rw[if_pos<|show(Option.isNone (ν:Option bd))=true from W];have i:∀b o,(s.heap.push {cls:=.type "dict",data:=.dict #[]}).get? b=Z o->D.get? b=Z o:=ne1.keeps;have O:∀b o,s.heap.get? b=Z o->D.get? b=Z o:=λb o e=>i b o<|d0 _ e;have u_:D.IsList l n.toArray:=⟨Y,i _ _ c,x,nl,C⟩;refine ap<|P7 ?_;refine ap<|N4 u_ ?_;refine e7 ⟨B4 Dj _,?_⟩;obtain⟨od,es,ep,P,rd⟩:=id g;have y:s.heap.objs.size<D.objs.size:=g6<|i _ _ P;have R:l<s.heap.objs.size:=g6 L;have vA:∀kvs:List (Key×V),(∀p∈kvs,∃(t:Addr),H t=Z (.tup [kV p.1,p.2]))->True:=λ_ _=>trivial;have E:∀(t:Addr) k v,H t=Z (.tup [kV k,v])->∃a d,aaa s.heap t #[a,d]/\(A_ X.prog X.w).is k a=true/\RelV v d:=λt k v e=>by
  obtain⟨z,r2,tp,_⟩:=I.tuple<|Ae.of e;cases r2 with
  |cons ra rr=>
   cases rr with
   |cons rb rr=>
    cases rr;exact⟨_,_,tp,KZ ra,rb⟩
 obtain⟨more,G⟩:∃more:List (Key×bd),KV kvs more/\∀(j:Nat) m d,more[j]?=Z (m,d)->∃t a,f[j]?=Z t/\aaa s.heap t #[a,d]/\(A_ X.prog X.w).is m a=true:=by
  have gen:∀(kvs:List (Key×V))(f:List Addr),(∀(j:Nat) k v,kvs[j]?=Z (k,v)->∃t,f[j]?=Z t/\H t=Z (.tup [kV k,v]))->
    ∃more:List (Key×bd),KV kvs more/\∀(j:Nat) m d,more[j]?=Z (m,d)->∃t a,f[j]?=Z t/\aaa s.heap t #[a,d]/\(A_ X.prog X.w).is m a=true:=by
   intro kvs
   induction kvs with
   |nil=>exact λf _=>⟨[],.nil,λj m d e=>by simp at e⟩|cons p r ih=>
    intro f h;obtain⟨k,v⟩:=p;obtain⟨t,e1,e2⟩:=h 0 k v W;obtain⟨a,d,a1,a2,a3⟩:=E t k v e2;obtain⟨more,b1,b2⟩:=ih f.tail (λj k v e=>by
     obtain⟨t,c1,c2⟩:=h (j+1) k v (GE e);exact⟨t,by rw[ZB];exact c1,c2⟩)
    refine⟨(k,d)::more,.cons ⟨W,a3⟩ b1,λj m S e=>?_⟩;cases j with
    |zero=>
     have e:(k,d)=(m,S):=GE e
     cases e;exact⟨t,a,e1,a1,a2⟩
    |succ j=>
     obtain⟨t,a,c1,c2,c3⟩:=b2 j m S (GE e);exact⟨t,a,by rw[ZB]at c1;exact c1,c2,c3⟩
  exact gen kvs f hp
 obtain⟨J,hm⟩:=G;have T:n.length=f.length:=by rw[<-rv.length,be]
 have U:∀(j:Nat) t,f[j]?=Z t->n.toArray[j]?=Z (.ref t):=λj t e=>by
  obtain⟨u,D,h2⟩:=rv.get (show(f.map V.ref)[j]?=Z (.ref t)by rw[f8,e];rfl);cases h2;simpa using D
 show A1 _ _ (.builtin "dict.update.loop" ⟨[.ref s.heap.objs.size,.ref D.objs.size,On ((0:Nat):Int),.none],[]⟩) _ _;refine Vs (knd:=A_ X.prog X.w) (l:=l) (items:=n.toArray) (more:=more) M (i9<|A5 R y) (i9 y) (abO R) (by rw[b6,T,hlen];exact J.length) (by rw[<-J.length];exact al hz ac) more.length 0 _ z_ (gU _)
  ⟨_,i7 _ W,W,W⟩ ⟨Y,d0 _ (i _ _ c),x,nl,C⟩ ⟨od,es,ep,d0 _ (i _ _ P),rd⟩ (λj m d e=>?_) (λh2 vB hd2 vC=>⟨W,?_⟩)
 .obtain⟨t,a,c1,⟨ot,c2,vD⟩,c3⟩:=hm j m d e;have:t<s.heap.objs.size:=g6 c2;exact⟨t,a,U j t c1,i9 this,i9<|A5 this y,⟨ot,d0 _<|O _ _ c2,vD⟩,c3⟩
 .have vE:(FD [] kvs).length<=sizeLine:=by
   have:=GC kvs [];exact Ao<|by simp at this;exact al this hz
  refine⟨.ref s.heap.objs.size,_,I.laid (t':=vB) (λb o e=>?_) (b5 _)<|Lu vE (beq_eq_false_iff_ne.mpr<|u8<|i9 I.big) (KV.merge J .nil) hd2,W,q _ I.fresh⟩;have:=g6 e;exact vC b o (i9 this) (i9<|A5 this y)<|d0 _<|O _ _ e
end
variable{s:d6}{pos p:Pos}
section
theorem Vt{pins:List (Addr×Obj)}{σ:St}{H:Hp}{A:i8}(d:Vals xs its)(e:Vals ys a)(f:∀z∈xs,Cj z=true)(g:∀z∈ys,Cj z=true)(j:Nat)(h:j<its.toArray.size)(i:j<a.toArray.size):F5 A s its.toArray[j] a.toArray[j] (Kz (xs.getD j .Al) (ys.getD j .Al)):=by
 have k:its.toArray.size=xs.length:=by rw[b6];exact d.length.symm
 have l:a.toArray.size=ys.length:=by rw[b6];exact e.length.symm
 have b:j<xs.length:=by rw[<-k];exact h
 have c:j<ys.length:=by rw[<-l];exact i
 obtain⟨m,n,o⟩:=d.get<|yZ b;obtain⟨p,q,r⟩:=e.get<|yZ c;have t:its.toArray[j]=m:=by
  have:=(ya n).2;simpa using this
 have u:a.toArray[j]=p:=by
  have:=(ya q).2;simpa using this
 rw[t,u];have v:xs.getD j .Al=xs[j]:=by rw[cr,yZ b];rfl
 have w:ys.getD j .Al=ys[j]:=by rw[cr,yZ c];rfl
 rw[v,w];exact Lp o r (f _<|re b)<|g _<|re c
theorem X_(k:Gl X "range")(l:X.mg "range"=ν)(m:PA X [a] n)(u:m7 [a] X.env=[(false,y9 a X.env)]:=by rfl):
  PE X (.Call (.Name "range" p) [a] [] pos) (λd H Q=>n d H λf c=>∃j:Int,f=[.int j]/\∀r,c r=ν->Q (.ref r) (upd c r (.dM 0 j))):=by
 intro pins s d H Q I h;refine Call_<|IP I k l aa6<|x6 (CF (m pos pins s d H _ I h) λz g v=>v.elim λf c i w x=>?_) u W;obtain⟨j,e,q⟩:=x;subst e;cases w with
 |cons r y=>
  cases y;obtain⟨t,rfl⟩:=r;exact call_range_1 ⟨.ref g.heap.objs.size,upd c g.heap.objs.size<|.dM 0 j,i.laid (λb o e=>d0 _ e) (b5 _) ⟨_,_,_,i7 _ W⟩,W,q _ i.fresh⟩
inductive KA(xs:List V)(H:Hp)(Q:VK):Prop|mk(r:Addr)(n:Nat)(a:xs=[.ref r])(b:H r=Z (.dM 0 (n:Int)))(c:n<=1000)(d:Wx H (.lst ((pu n).map λ(i:Nat)=>V.int (i:Int))) Q)
def LG:List V->Hp->VK->Prop:=λa H Q=>KA a H Q
theorem NC(p:X.calm=true):Dx X (.type "list") LG:=by
 intro pins s L H M N Q I r h;obtain⟨g,n,rfl,x,j,q⟩:=h;obtain⟨u,rfl,y⟩:=vals1 r;cases y;obtain⟨t,u,v,e⟩:=(show BR X.prog X.w H s.heap g (.dM 0 (n:Int))from I.Bi g _ x);have f:X.A.handled=none:=I.ok.hd p;refine call_list_range (n:=n) f e (small_one y_ y_ (A7 ac<|j9 _)<|zb (y8.mpr j) ac) (by rw[abo];split<;>lia) y_ λB C c D E F k=>?_;have G:((pu n).map λ(i:Nat)=>V.int (i:Int)).length<=sizeLine:=by rw[be,aaq];exact Ao j
 refine⟨.ref s.heap.objs.size,_,I.laid (t':=C) E (b5 _)<|show BR X.prog X.w _ B _ (.lst _)from⟨G,c.toList,D,?_,by rw[IN];exact F⟩,W,q _ I.fresh⟩;have gen:∀(n:Nat)(l:List bd),l.length=n->(∀(i:Nat) v,l[i]?=Z v->∃t,v=zh (0+(i:Int)*1) t)->Vals ((pu n).map λ(i:Nat)=>V.int (i:Int)) l:=by
  intro n
  induction n with
  |zero=>intro l b _;rw[j7 b];exact .nil|succ n J=>
   intro l b m;have a:l≠[]:=λz=>by rw[z]at b;cases b
   have o:l=l.dropLast++[l.getLast a]:=(f6 a).symm;rw[J3,ca,o];refine(J l.dropLast (by rw[yw,b];rfl) λi v d=>?_).append<|.cons ?_ .nil
   .refine m i v ?_;rw[o,i4<|(HL d)];exact d
   .have:l[n]?=Z (l.getLast a):=by
     rw[List.getLast_eq_getElem];have:l.length-1=n:=by lia
     rw[yZ<|bn (zV<|b5 _)<|bm b.symm];congr 1;simp[this]
    obtain⟨t,e⟩:=m n _ this;exact⟨t,by rw[e];congr 1;lia⟩
 exact gen n c.toList (by rw[q4];exact k.1) λi v d=>k.2 i v<|by rw[<-v5];exact d
inductive JP(xs:List V)(H:Hp)(Q:VK):Prop|mk(a kvs:_)(b:xs=[.ref a])(c:Rd H a (.dK kvs))(d:Wx H (.dK kvs) Q)
def KC:List V->Hp->VK->Prop:=λa H Q=>JP a H Q
theorem MP:Dx X (.type "dict") KC:=by
 intro pins s f H g i Q I r h;obtain⟨a,kvs,rfl,b,q⟩:=h;obtain⟨u,rfl,c⟩:=vals1 r;cases c;exact Xa I b λp j d e=>⟨.ref p,_,e,W,q p d⟩
end
namespace Dc
mutual
noncomputable def deep:Dc->Nat
 |leaf _=>1|row _ xs=>1+FZ xs|tab _ _ xs=>1+FZ xs
noncomputable def FZ:List Dc->Nat
 |[]=>0|x::r=>max (deep x) (FZ r)
end
theorem JQ(d:Dc):1<=d.deep:=by cases d<;>simp only[deep]<;>lia
theorem Bw:∀{xs:List Dc}{x:Dc},x∈xs->x.deep<=FZ xs
 |[],_,h=>nomatch h
 |y::r,x,h=>by
  simp only[FZ];rcases ce.mp h with rfl|h
  .exact aaL _ _
  .have:=Bw h;exact al this<|aaA _ _
mutual
theorem DP:∀d:Dc,d.deep<=d.size
 |leaf _=>b5 _|row a xs=>by simp only[deep,size];have:=IZ xs;exact rs this _|tab a b xs=>by simp only[deep,size];have:=IZ xs;exact rs this _
theorem IZ:∀xs:List Dc,FZ xs<=Ab xs
 |[]=>b5 _|x::r=>by simp only[FZ,Ab];have:=DP x;have:=IZ r;lia
end
structure BF(e d:Dc):Prop where
 at_:∀{H:Hp},d.At H->e.At H
 ok:d.ok->e.ok
 slim:d.slim->e.slim
 deep:e.deep<=d.deep
 size:e.size<=d.size
 AZ:∀a∈e.AZ,a∈d.AZ
theorem BF.refl(d:Dc):BF d d:=⟨id,id,id,b5 _,b5 _,λ_ h=>h⟩
theorem BF.trans(p:BF e d)(q:BF d c):BF e c:=⟨λh=>p.at_<|q.at_ h,λh=>p.ok<|q.ok h,λh=>p.slim<|q.slim h,al p.deep q.deep,al p.size q.size,λa h=>q.AZ a<|p.AZ a h⟩
theorem BF.row{x:Dc}{a:Addr}{xs:List Dc}(h:x∈xs):BF x (row a xs):=
 ⟨λq=>by simp only[At]at q;exact Cn q.2 x h,λq=>by simp only[Dc.ok]at q;exact BX.mp q x h,λq=>by simp only[Dc.slim]at q;exact Ea q x h,
  by simp only[Dc.deep];have:=Bw h;exact al this (fr _ _),by simp only[Dc.size];have:=Cb h;exact al this (fr _ _),λc b=>by simp only[Dc.AZ];exact bi _ (Gn h b)⟩
theorem BF.tab{x:Dc}{a:Addr}{ks:List Str}{xs:List Dc}(h:x∈xs):BF x (tab a ks xs):=
 ⟨λq=>by simp only[At]at q;exact Cn q.2.2.2 x h,λq=>by simp only[Dc.ok]at q;exact BX.mp q.2 x h,λq=>by simp only[Dc.slim]at q;exact Ea q.2 x h,
  by simp only[Dc.deep];have:=Bw h;exact al this (fr _ _),by simp only[Dc.size];have:=Cb h;exact al this (fr _ _),λc b=>by simp only[Dc.AZ];exact bi _ (Gn h b)⟩
mutual
def CZ:Dc->Dc->Prop
 |leaf v,leaf w=>v=w|row _ xs,row _ ys=>BL xs ys|tab _ ks xs,tab _ ls ys=>ks=ls/\BL xs ys|_,_=>False
def BL:List Dc->List Dc->Prop
 |[],[]=>True|x::r,y::t=>CZ x y/\BL r t|_,_=>False
end
theorem JR:∀{xs ys:List Dc},BL xs ys->xs.length=ys.length
 |[],[],_=>rfl|[],_::_,h=>by simp[BL]at h|_::_,[],h=>by simp[BL]at h|x::r,y::t,h=>by simp only[BL]at h;simp only[g7,JR h.2]
theorem Nm:∀{xs ys:List Dc},BL xs ys->∀(i:Nat) x,xs[i]?=Z x->∃y,ys[i]?=Z y/\CZ x y
 |[],_,_,i,x,e=>by simp at e|x::r,[],h,_,_,_=>by simp[BL]at h|x::r,y::t,h,0,z,e=>by simp only[BL]at h;simp at e;subst e;exact⟨y,W,h.1⟩|x::r,y::t,h,i+1,z,e=>by simp only[BL]at h;simp at e;obtain⟨w,a,b⟩:=Nm h.2 i z e;exact⟨w,GE a,b⟩
theorem JS:BL xs ys->BL a b->BL (xs++a) (ys++b):=by
 induction xs generalizing ys with
 |nil=>
  intro h c;cases ys with
  |nil=>exact c|cons y t=>simp[BL]at h
 |cons x r d=>
  intro h c;cases ys with
  |nil=>simp[BL]at h|cons y t=>
   simp only[BL,i5]at h⊢;exact⟨h.1,d h.2 c⟩
mutual
theorem KD:∀d:Dc,CZ d d
 |leaf _=>by simp[CZ]|row _ xs=>by simp only[CZ];exact Ia xs|tab _ _ xs=>by simp only[CZ];exact⟨trivial,Ia xs⟩
theorem Ia:∀xs:List Dc,BL xs xs
 |[]=>by simp[BL]|x::r=>by simp only[BL];exact⟨KD x,Ia r⟩
end
mutual
theorem Eo:∀d e:Dc,CZ d e->d.ok->e.ok
 |leaf v,e=>λh k=>by cases e<;>simp_all [CZ,ok]|row a xs,e=>λh k=>by
  cases e with
  |row b ys=>simp only[CZ]at h;simp only[ok]at k⊢;exact MQ xs ys h k|_=>simp[CZ]at h
 |tab a ks xs,e=>λh k=>by
  cases e with
  |tab b ls ys=>simp only[CZ]at h;simp only[ok]at k⊢;exact⟨h.1▸k.1,MQ xs ys h.2 k.2⟩|_=>simp[CZ]at h
theorem MQ:∀xs ys:List Dc,BL xs ys->MH xs->MH ys
 |[],[]=>λ_ _=>by simp[MH]|[],_::_=>λh _=>by simp[BL]at h|_::_,[]=>λh _=>by simp[BL]at h|x::r,y::t=>λh k=>by simp only[BL]at h;simp only[MH]at k⊢;exact⟨Eo x y h.1 k.1,MQ r t h.2 k.2⟩
end
mutual
theorem Cd:∀d e:Dc,CZ d e->d.size=e.size
 |leaf v,e,h=>by cases e<;>simp_all [CZ,size]|row a xs,e,h=>by
  cases e with
  |row b ys=>simp only[CZ]at h;simp only[size,Ib xs ys h]|_=>simp[CZ]at h
 |tab a ks xs,e,h=>by
  cases e with
  |tab b ls ys=>simp only[CZ]at h;simp only[size,Ib xs ys h.2]|_=>simp[CZ]at h
theorem Ib:∀xs ys:List Dc,BL xs ys->Ab xs=Ab ys
 |[],[],_=>rfl|[],_::_,h=>by simp[BL]at h|_::_,[],h=>by simp[BL]at h|x::r,y::t,h=>by simp only[BL]at h;simp only[Ab,Cd x y h.1,Ib r t h.2]
end
theorem Sk(p:xs.Perm ys):Ab xs=Ab ys:=by
 induction p with
 |nil=>rfl|cons x _ a=>simp only[Ab,a]|swap x y l=>simp only[Ab];lia|trans _ _ b c=>exact b.trans c
def aq:Dc->List V->Prop
 |leaf _,l=>l=[]|row _ xs,l=>l=(pu xs.length).map λ(i:Nat)=>V.int (i:Int)|tab _ ks _,l=>∃ss:List Str,l=ss.map V.str/\ss.Perm ks/\sortedS ss=true
end Dc
structure BY(H H':Hp)(d:Dc):Prop where
 same:AF H H'
 at_:d.At H'
 nd:d.AZ.Nodup
 own:∀a∈d.AZ,∀o u,H' a≠Z (.Di o u)
 new:∀a∈d.AZ,H a=ν
theorem BY.up(D:BY H c d)(s:AF c H2):BY H H2 d:=⟨D.same.trans s,Dc.AS s D.at_,D.nd,λa b=>DA (Dc.there D.at_ b) (D.own a b)<|s a,D.new⟩
theorem UP{c:TT}{g:TS}{D:Ends}(ξ:Nat->St->Hp->Prop)(h:Nat)(j:ξ h σ H)(k:∀m σ H e,Go D (λa H'=>∃d,d<m/\ξ d a H') e->ξ m σ H->c σ H λb f=>if b=true then g e σ f else D.nx σ f)(mono:∀σ H Q i,(∀b f,Q b f->i b f)->c σ H Q->c σ H i):XB c g D σ H:=by
 refine⟨ξ,⟨h,j⟩,λm σ H p=>?_⟩;refine mono σ H _ _ (λb f q=>?_)<|k m σ H {D with nx:=λa H'=>∃d,d<m/\ξ d a H',ct:=λa H'=>∃d,d<m/\ξ d a H',bk:=D.nx} ⟨id,id⟩ p;cases b with
 |true=>exact⟨_,λa H' z=>z,q⟩|false=>exact q
inductive ar(n:Nat)(a:List V)(H:Hp)(Q:VK)(b:XK):Prop|mk(d:Dc)(c:a=[d.val])(e:d.At H)(f:d.deep<=n)(g:d.size<=900)(h:∀(d':Dc) (H':Hp),BY H H' d'->Dc.CZ d d'->Q d'.val H')
def MR(n:Nat):Sp:=λb H Q a=>ar n b H Q a
inductive X'(a:List V)(H:Hp)(Q:VK)(b:XK):Prop|mk(d:Dc)(c:a=[d.val])(e:d.At H)(f:d.slim)(g:d.size<=900)(h:∀(p:Addr) (l:List V) (H':Hp),AF H H'->H p=ν->H' p=Z (.lst l)->d.aq l->Q (.ref p) H')
def UQ:Sp:=λb H Q a=>X' b H Q a
def back(a:Addr)(H H':Hp):Hp:=λb=>if b=a then H a else H' b
theorem UR(h:b≠a):back a H H' b=H' b:=if_neg h
theorem au:back a H H' a=H a:=if_pos W
theorem YA(e:H a=Z u):back a H H'=upd H' a u:=by
 funext b;unfold back upd;split
 .exact e
 .rfl
theorem Vu(e:H a=H' a):back a H H'=H':=by
 funext b;unfold back;split
 .rename_i h;rw[h,e]
 .rfl
structure YB(a:Addr)(o:Obj)(kvs:List (Key×V))(H Hf:Hp):Prop where
 at_:Hf a=Z (.Di o (.dK kvs))
 rd:HF H Hf
 ne:∀b,b≠a->Hf b=H b
 yJ:Rd H a (.dK kvs)
theorem YB.free(F:YB a o kvs H d)(h:d b=ν):H b=ν/\b≠a:=by
 have c:b≠a:=λz=>by rw[z,F.at_]at h;cases h
 rw[F.ne b c]at h;exact⟨h,c⟩
theorem YB.back(F:YB a o kvs H d)(s:AF d f):AF H (back a H f):=λb u e=>by
 by_cases c:b=a
 .subst c;rw[au];exact e
 .rw[UR c];exact s b u<|by rw[F.ne b c];exact e
inductive aw(t:TE)(σ:St)(H:Hp)(Q:VK):Prop|mk(a kvs:_)(c:Rd H a (.dK kvs))(d:∀o b,YB a o kvs H b->t σ b λv H'=>H' a=Z (.Di o (.dK kvs))/\Q v (back a H H'))
def eY(t:TE):TE:=λa H Q=>aw t a H Q
theorem YB.of(e:H a=Z (.dK kvs)):YB a o kvs H (upd H a (.Di o (.dK kvs))):=⟨AD,HF.Di e,λb c=>AM c,.inl e⟩
theorem YB.same(e:H a=Z (.Di o (.dK kvs))):YB a o kvs H H:=⟨e,λ_ _ r=>r,λ_ _=>rfl,.inr ⟨o,e⟩⟩
section
theorem ax(h:PE X e t):PE X e (eY t):=by
 rintro pins s c H Q I ⟨a,kvs,r,d⟩;rcases r with r|⟨o,r⟩
 .refine eW h pins s c H Q I ⟨a,kvs,r,λo=>?_⟩;have:=d o _<|YB.of r;have e:(λv b=>b a=Z (.Di o<|.dK kvs)/\Q v (back a H b))=λv=>eU a o kvs (Q v):=by
   funext v b;unfold eU;rw[YA r]
  rw[e]at this;exact this
 .refine CF (h pins s c H _ I<|d o H<|YB.same r) λu l ⟨v,g,i,j,k,f⟩=>⟨v,g,i,j,?_⟩;rw[Vu<|r.trans k.symm]at f;exact f
end
variable{σ:St}{Q:VK}
theorem LP{J:It}{o:TE}{fs:List Nat}(n:Nat)(item:Nat->V)(P:Addr->Nat->Hp->Prop)(r:∀D,H D=ν->P D 0 (upd H D (.lst [])))(h:∀D i H2,i<n->P D i H2->J.go i H2)(s:∀D i H2 v H',i<n->P D i H2->J.cV i H2 v H'->v=item i/\H'=H2)(j:∀D H2,P D n H2->J.stop n H2)(t:∀D i H2,H D=ν->i<n->P D i H2->o (Z (item i)::Cu σ fs) H2 λy d=>∃ys,d D=Z (.lst ys)/\ys.length<sizeLine/\P D (i+1) (upd d D (.lst (ys++[y]))))(u:∀D H2,H D=ν->P D n H2->Q (.ref D) H2):Jy J Vk o fs σ H Q:=by
 intro D k;refine⟨λi m H2=>m=n-i/\i<=n/\P D i H2,⟨n,W,gU _,r D k⟩,?_⟩;rintro i m H2 ⟨rfl,w,p⟩;by_cases f:i<n
 .refine .inr ⟨h D i H2 f p,λv q y=>?_⟩;obtain⟨rfl,rfl⟩:=s D i H2 v q f p y;unfold Vk;dsimp only;rw[if_pos W];have g:=t D i q k f p;have e:(λ(y:V)(d:Hp)=>∃ys,d D=Z (.lst ys)/\ys.length<sizeLine/\∃l,l<n-i/\l=n-(i+1)/\i+1<=n/\P D (i+1) (upd d D<|.lst<|ys++[y]))=λy d=>∃ys,d D=Z (.lst ys)/\ys.length<sizeLine/\P D (i+1) (upd d D<|.lst<|ys++[y]):=by
   funext y d;refine propext ⟨λ⟨ys,a,b,l,_,_,_,c⟩=>⟨ys,a,b,c⟩,λ⟨ys,a,b,c⟩=>⟨ys,a,b,n-(i+1),y_,W,f,c⟩⟩
  rw[<-e]at g;exact g
 .have e:i=n:=by lia
  subst e;exact .inl ⟨j D H2 p,u D H2 k p⟩
structure BH(H H':Hp)(es:List Dc):Prop where
 same:AF H H'
 at_:Dc.CY H' es
 nd:(Dc.AH es).Nodup
 own:∀a∈Dc.AH es,∀o u,H' a≠Z (.Di o u)
 new:∀a∈Dc.AH es,H a=ν
theorem BH.nil(s:AF H H'):BH H H' []:=⟨s,trivial,.nil,λa h=>(nomatch h),λa h=>(nomatch h)⟩
theorem Dc.Ox(h:Dc.CY H c)(a:b∈Dc.AH c):H b≠none:=by
 induction c with
 |nil=>cases a|cons x r d=>
  simp only[Dc.CY,Dc.AH,am]at h a;rcases a with a|a
  .exact Dc.there h.1 a
  .exact d h.2 a
theorem BH.frame(F:BH H d b)(s:AF H H2)(f:∀a∈Dc.AH b,∀o,d a=Z o->H2 a=Z o):BH H H2 b:=
 ⟨s,Dc.BD b f F.at_,F.nd,λa c=>DA (Dc.Ox F.at_ c) (F.own a c) (f a c),F.new⟩
theorem BH.up(F:BH H b c)(s:AF b H2):BH H H2 c:=F.frame (F.same.trans s) λa _=>s a
theorem BH.snoc(F:BH H H2 g)(f:BY H2 j d):BH H j (g++[d]):=by
 have h:=F.up f.same;have i:Dc.AH (g++[d])=Dc.AH g++d.AZ:=by rw[Dc.AO];simp[Dc.AH]
 refine⟨h.same,(Dc.BK _ _).mpr ⟨h.at_,by simp only[Dc.CY];exact⟨f.at_,trivial⟩⟩,?_,λa c=>?_,λa c=>?_⟩
 .rw[i];refine b7.mpr ⟨F.nd,f.nd,λa c b k e=>?_⟩;subst e;exact Dc.Ox F.at_ c<|f.new a k
 .rw[i]at c;rcases am.mp c with c|c
  .exact h.own a c
  .exact f.own a c
 .rw[i]at c;rcases am.mp c with c|c
  .exact F.new a c
  .exact F.same.free<|f.new a c
theorem BH.row{H H':Hp}{c:List Dc}{D:Addr}(F:BH H H' c)(d:H D=ν)(nD:D∉Dc.AH c)(e:H' D=Z (.lst (c.map Dc.val))):BY H H' (.row D c):=by
 refine⟨F.same,by simp only[Dc.At];exact⟨.inl e,F.at_⟩,?_,λa b=>?_,λa b=>?_⟩
 .simp only[Dc.AZ];exact f9.mpr ⟨nD,F.nd⟩
 .simp only[Dc.AZ,ce]at b;rcases b with rfl|b
  .intro o u z;rw[e]at z;cases z
  .exact F.own a b
 .simp only[Dc.AZ,ce]at b;rcases b with rfl|b
  .exact d
  .exact F.new a b
theorem BH.tab{H H':Hp}{c:List Dc}{ks:List Str}{D:Addr}(F:BH H H' c)(d:H D=ν)(nD:D∉Dc.AH c)(l:ks.length=c.length)(f:ks.Nodup)(e:H' D=Z (.dK (Dc.kvs ks c))):BY H H' (.tab D ks c):=by
 refine⟨F.same,by simp only[Dc.At];exact⟨.inl e,l,f,F.at_⟩,?_,λa b=>?_,λa b=>?_⟩
 .simp only[Dc.AZ];exact f9.mpr ⟨nD,F.nd⟩
 .simp only[Dc.AZ,ce]at b;rcases b with rfl|b
  .intro o u z;rw[e]at z;cases z
  .exact F.own a b
 .simp only[Dc.AZ,ce]at b;rcases b with rfl|b
  .exact d
  .exact F.new a b
theorem JT:∀(more kvs:List (Key×V)),((kvs++more).map (·.1)).Nodup->FD kvs more=kvs++more
 |[],kvs,_=>by simp[FD]|p::r,kvs,h=>by
  have a:Cg kvs p.1=none:=by
   cases e:Cg kvs p.1 with
   |none=>rfl|some v=>
    have:=aU e;rw[ca,i2]at h;obtain⟨_,_,b⟩:=b7.mp h;exact absurd W<|b p.1 this p.1 e9
  show FD (putK kvs p.1 p.2) r=_;rw[JB p.2 a,JT r (kvs++[(p.1,p.2)])<|GE h];simp
variable{xs:List Dc}{ks:List Str}{i:Nat}
namespace Dc
theorem HX:∀(ks:List Str)(xs:List Dc)(i:Nat),ks.Nodup->ks[i]?=Z b->xs[i]?=Z x->(ks.zip xs).lookup b=Z x
 |[],_,_=>λ_ h _=>by simp at h|y::r,[],_=>λ_ _ h=>by simp at h|y::r,z::t,0=>λ_ c d=>by simp at c d;subst c d;simp|y::r,z::t,i+1=>λe c d=>by
  obtain⟨f,g⟩:=f9.mp e;have a:r[i]?=Z b:=GE c
  have ne:b≠y:=λz=>f<|z▸yc a;have:(b==y)=false:=GE ne
  simp only[m6,j8,this];exact HX r t i g a<|by simpa using d
theorem Hu(h:ks.length=xs.length):(kvs ks xs).length=xs.length:=by
 have:=congrArg ww<|EB (ks:=ks) (xs:=xs) h;rw[be,be]at this;rw[this,h]
theorem Sl(h:ks.length=xs.length)(g:ks.Nodup){k:Key}{v:V}(e:(kvs ks xs)[i]?=Z (k,v)):
  ∃a x,ks[i]?=Z a/\xs[i]?=Z x/\k=dL a/\v=x.val/\(ks.zip xs).lookup a=Z x/\Cg (kvs ks xs) (dL a)=Z x.val:=by
 have f:i<xs.length:=by rw[<-Hu h];exact(HL e)
 obtain⟨x,d⟩:=HK xs i f;obtain⟨a,b⟩:=HK ks i (by rw[h];exact f);have lk:=HX ks xs i g b d;have c:=e;unfold kvs at c;rw[f8]at c;have ez:(ks.zip<|xs.map val)[i]?=Z (a,x.val):=by
  rw[ze];exact⟨b,by rw[f8,d];rfl⟩
 rw[ez]at c;have c:=yb c;exact⟨a,x,b,d,(congrArg T8 c).symm,(congrArg aa2 c).symm,lk,by rw[ED h,lk];rfl⟩
end Dc
def Ic(H b:Hp)(c:V):Dc->Prop
 | .leaf v=>c=v/\Dc.Lf v| .row _ xs=>∃a,c=.ref a/\b a=Z (.lst (xs.map Dc.val))/\H a=ν| .tab _ ks xs=>∃a,c=.ref a/\b a=Z (.dK (Dc.kvs ks xs))/\H a=ν
def rootOf(p:V×Dc):Option Addr:=match p.1 with
 | .ref a=>Z a|_=>ν
abbrev roots(a:List (V×Dc)):List Addr:=a.filterMap rootOf
set_option tactic.hygienic true in
theorem C_{d:List (V×Dc)}{c:Addr}:c∈roots d↔∃p∈d,p.1=.ref c:=by
 rw[M2];constructor
 .rintro⟨p,b,e⟩;refine⟨p,b,?_⟩;unfold rootOf at e;split at e
  .rename_i a h;cases e;exact h
  .cases e
 .rintro⟨p,b,e⟩;exact⟨p,b,by unfold rootOf;rw[e]⟩
theorem CG(a b:List (V×Dc)):roots (a++b)=roots a++roots b:=Tk ..
def Bk:List (V×Dc)->List Dc->Prop
 |[],[]=>True|p::a,e::b=>e.val=p.1/\Dc.CZ p.2 e/\Bk a b|_,_=>False
theorem Bk.split:∀{c a:List (V×Dc)}{b:List Dc},Bk (c++a) b->∃d ec,b=d++ec/\Bk c d/\Bk a ec
 |[],a,b,h=>⟨[],b,W,trivial,h⟩|p::c,a,[],h=>by simp[Bk]at h|p::c,a,e::b,h=>by
  simp only[i5,Bk]at h;obtain⟨d,ec,rfl,f,g⟩:=Bk.split h.2.2;exact⟨e::d,ec,W,by simp only[Bk];exact⟨h.1,h.2.1,f⟩,g⟩
theorem Bk.app:∀{b a:List (V×Dc)}{c ec:List Dc},Bk b c->Bk a ec->Bk (b++a) (c++ec)
 |[],a,[],ec=>λ_ h=>h|[],_,_::_,_=>λh _=>by simp[Bk]at h|_::_,_,[],_=>λh _=>by simp[Bk]at h|p::b,a,e::c,ec=>λh h'=>by
  simp only[Bk,i5]at h⊢;exact⟨h.1,h.2.1,Bk.app h.2.2 h'⟩
theorem Bk.vals:∀{a:List (V×Dc)}{b:List Dc},Bk a b->b.map Dc.val=a.map (·.1)
 |[],[],_=>rfl|[],_::_,h=>by simp[Bk]at h|_::_,[],h=>by simp[Bk]at h|p::a,e::b,h=>by
  simp only[Bk]at h;simp only[i2,h.1,Bk.vals h.2.2]
theorem Bk.cg:∀{a:List (V×Dc)}{b:List Dc},Bk a b->Dc.BL (a.map (·.2)) b
 |[],[],_=>by simp[Dc.BL]|[],_::_,h=>by simp[Bk]at h|_::_,[],h=>by simp[Bk]at h|p::a,e::b,h=>by
  simp only[Bk]at h;simp only[i2,Dc.BL];exact⟨h.2.1,Bk.cg h.2.2⟩
structure Fc(H Hi:Hp)(L:Addr)(tv:V)(d:Dc)(ps:List (V×Dc)):Prop where
 same:AF H Hi
 nL:H L=ν
 eL:Hi L=Z (.lst (ps.map (·.1)))
 out:∀p∈ps,Ic H Hi p.1 p.2
 src:∀p∈ps,p.2.At H/\p.2.slim
 nd:(roots ps).Nodup
 Vv:L∉roots ps
 eZ:∀(es:List Dc)(H':Hp),Bk ps es->BH H H' es->(∀c∈Dc.AH es,Hi c=ν∨c∈roots ps)->(∀b o,b≠L->b∉roots ps->Hi b=Z o->H' b=Z o)->∃e:Dc,e.val=tv/\Dc.CZ d e/\BY H H' e
variable{H:Hp}
theorem Ic.root{f:Hp}{p:V×Dc}{c:Addr}(o:Ic H f p.1 p.2)(e:p.1=.ref c):f c≠ν/\H c=ν/\∀j u,f c≠Z (.Di j u):=by
 obtain⟨v,d⟩:=p;simp only at e;subst e;cases d with
 |leaf v=>
  obtain⟨rfl,h⟩:=(show V.ref c=v/\Dc.Lf v from o);rcases h with⟨i,h⟩|⟨x,h,_⟩<;>cases h
 |row b k=>
  obtain⟨a,e,g,l⟩:=(show∃a,V.ref c=.ref a/\f a=Z (.lst<|k.map Dc.val)/\H a=ν from o);cases e;exact⟨by rw[g];simp,l,λj u z=>by rw[g]at z;cases z⟩
 |tab b m k=>
  obtain⟨a,e,g,l⟩:=(show∃a,V.ref c=.ref a/\f a=Z (.dK<|Dc.kvs m k)/\H a=ν from o);cases e;exact⟨by rw[g];simp,l,λj u z=>by rw[g]at z;cases z⟩
variable{d:Dc}{H2:Hp}{c:V}
theorem Ic.up{h:Hp}(o:Ic H h c d)(k:∀a,c=.ref a->∀u,h a=Z u->H2 a=Z u):Ic H H2 c d:=by
 cases d with
 |leaf v=>exact o|row b i=>obtain⟨a,e,f,g⟩:=o;exact⟨a,e,k a e _ f,g⟩
 |tab b j i=>obtain⟨a,e,f,g⟩:=o;exact⟨a,e,k a e _ f,g⟩
variable{L a:Addr}
theorem Fc.step{t:Hp}{T:V}{node:Dc}{j:List (V×Dc)}(C:Fc H t L T d (j++[(.ref a,node)]))(k:List (V×Dc))(keep:∀b o,b≠a->b≠L->t b=Z o->H2 b=Z o)(eL:H2 L=Z (.lst ((j++k).map (·.1))))(out:∀p∈k,Ic H H2 p.1 p.2)(src:∀p∈k,p.2.At H/\p.2.slim)(rn:(roots k).Nodup)(v:∀c∈roots k,t c=ν)(n:H2 a≠ν)(own:∀G u,H2 a≠Z (.Di G u))(build:∀(ec:List Dc) (H':Hp),Bk k ec->Dc.CY H' ec->H' a=H2 a->∃e:Dc,e.val=.ref a/\Dc.CZ node e/\e.At H'/\e.AZ.Perm (a::Dc.AH ec)):Fc H H2 L T d (j++k):=by
 have E:roots (j++[(V.ref a,node)])=roots j++[a]:=by rw[CG];rfl
 have nd:=C.nd;rw[E]at nd;obtain⟨I,_,J⟩:=b7.mp nd;have Vv:=C.Vv;rw[E]at Vv;have aL:a≠L:=λz=>Vv (by rw[<-z];simp);have A:a∉roots j:=λz=>J a z a z_ W;have M:=(C.out (.ref a,node) z_).root W;have U:∀c∈roots j,c≠a/\c≠L/\t c≠none:=λc f=>by
  obtain⟨p,g,e⟩:=C_.mp f;refine⟨λz=>A<|by rw[<-z];exact f,λz=>Vv<|by rw[<-z];simp[f],?_⟩;exact((C.out p<|by simp[g]).root e).1
 refine⟨λb o e=>?_,C.nL,eL,λp g=>?_,λp g=>?_,?_,?_,λes H' dn B z X=>?_⟩
 .exact keep b o (Am e M.2.1) (Am e C.nL)<|C.same b o e
 .rcases am.mp g with g|g
  .refine(C.out p<|by simp[g]).up λc e u h=>?_;have:=U c<|C_.mpr ⟨p,g,e⟩;exact keep c u this.1 this.2.1 h
  .exact out p g
 .rcases am.mp g with g|g
  .exact C.src p<|by simp[g]
  .exact src p g
 .rw[CG];refine b7.mpr ⟨I,rn,λx F y r e=>?_⟩;subst e;exact(U x F).2.2<|v x r
 .rw[CG];intro h;rcases am.mp h with h|h
  .exact Vv<|by simp[h]
  .have:=v L h;rw[C.eL]at this;cases this
 .obtain⟨l,ec,rfl,d1,d2⟩:=dn.split;have Y:a∉roots (j++k):=by
   rw[CG];intro h;rcases am.mp h with h|h
   .exact A h
   .exact M.1<|v a h
  have D:H' a=H2 a:=by
   cases e:H2 a with
   |none=>exact absurd e n|some o=>exact X a o aL Y e
  obtain⟨C',at2⟩:=(Dc.BK _ _).mp B.at_;obtain⟨e,ev,el,ea,ζ⟩:=build ec H' d2 at2 D;have i:a∉Dc.AH (l++ec):=λh=>by
   rcases z a h with h|h
   .exact n h
   .exact Y h
  have m:Dc.AH (l++[e])=Dc.AH l++e.AZ:=by rw[Dc.AO];simp[Dc.AH]
  have s:∀c,c∈Dc.AH (l++[e])->c=a∨c∈Dc.AH (l++ec):=λc f=>by
   rw[m]at f;rw[Dc.AO];rcases am.mp f with f|f
   .exact .inr<|b9 _ f
   .rcases ce.mp (ζ.mem_iff.mp f)with f|f
    .exact .inl f
    .exact .inr<|d9 _ f
  have N:BH H H' (l++[e]):=by
   refine⟨B.same,(Dc.BK _ _).mpr ⟨C',by simp only[Dc.CY];exact⟨ea,trivial⟩⟩,?_,λc f=>?_,λc f=>?_⟩
   .have ξ:=B.nd;rw[Dc.AO]at ξ i;have:(Dc.AH l++(a::Dc.AH ec)).Nodup:=by
     obtain⟨x1,x2,x3⟩:=b7.mp ξ;refine b7.mpr ⟨x1,f9.mpr ⟨λh=>i<|d9 _ h,x2⟩,λx F y r O=>?_⟩;subst O;rcases ce.mp r with r|r
     .exact i<|b9 _<|by rw[<-r];exact F
     .exact x3 x F x r W
    rw[m];exact((List.Perm.append_left _ ζ).nodup_iff).mpr this
   .rcases s c f with rfl|f
    .intro G u h;rw[D]at h;exact own G u h
    .exact B.own c f
   .rcases s c f with rfl|f
    .exact M.2.1
    .exact B.new c f
  refine C.eZ (l++[e]) H' (d1.app<|by simp only[Bk];exact⟨ev,el,trivial⟩) N (λc f=>?_) λb o hb P h=>?_
  .rw[E];rcases s c f with rfl|f
   .exact .inr z_
   .rcases z c f with h|h
    .left
     cases q:t c with
     |none=>rfl|some o=>
      have Q:c≠a:=λw=>n (by rw[<-w];exact h);have R:c≠L:=λw=>by rw[w,eL]at h;cases h
      rw[keep c o Q R q]at h;cases h
    .rw[CG]at h;rcases am.mp h with h|h
     .exact .inr<|by simp[h]
     .exact .inl<|v c h
  .rw[E]at P;have S:b≠a:=λw=>P (by simp[w]);refine X b o hb ?_<|keep b o S hb h;rw[CG];intro w;rcases am.mp w with w|w
   .exact P<|by simp[w]
   .rw[v b w]at h;cases h
theorem Fc.start{g:Hp}{b:V}(s:AF H g)(nL:H L=ν)(k:g L=Z (.lst [b]))(o:Ic H g b d)(h:d.At H)(l:d.slim)(ne:b≠.ref L):Fc H g L b d [(b,d)]:=by
 refine⟨s,nL,k,λp c=>by rw[ci.mp c];exact o,λp c=>by rw[ci.mp c];exact⟨h,l⟩,?_,?_,λm q dn f z t=>?_⟩
 .cases b<;>first|exact zv|exact f9.mpr ⟨(λh=>nomatch h),zv⟩
 .intro n;obtain⟨p,c,e⟩:=C_.mp n;rw[ci.mp c]at e;exact ne e
 .cases m with
  |nil=>simp[Bk]at dn|cons e r=>
   cases r with
   |cons _ _=>simp[Bk]at dn|nil=>
    simp only[Bk]at dn;have i:Dc.AH [e]=e.AZ:=by simp[Dc.AH]
    have fa:=f.at_;simp only[Dc.CY]at fa;have fn:=f.nd;rw[i]at fn;exact⟨e,dn.1,dn.2.1,f.same,fa.1,fn,λa j=>f.own a<|by rw[i];exact j,λa j=>f.new a<|by rw[i];exact j⟩
theorem Fc.done{a:Hp}{f:V}(C:Fc H a L f d []):∃e:Dc,e.val=f/\Dc.CZ d e/\BY H a e:=
 C.eZ [] a trivial (.nil C.same) (λc g=>(nomatch g)) λb o _ _ h=>h
theorem Fc.leaf{H k H2:Hp}{L:Addr}{d:Dc}{r v:V}{a:List (V×Dc)}(C:Fc H k L r d (a++[(v,.leaf v)]))(keep:∀b o,b≠L->k b=Z o->H2 b=Z o)(s:H2 L=Z (.lst (a.map (·.1)))):Fc H H2 L r d a:=by
 have t:Dc.Lf v:=(show v=v/\Dc.Lf v from C.out (v,.leaf v) z_).2;have l:roots (a++[(v,Dc.leaf v)])=roots a:=by
  rw[CG];rcases t with⟨i,rfl⟩|⟨x,rfl,_⟩<;>simp[roots,rootOf]
 have nd:=C.nd;have Vv:=C.Vv;rw[l]at nd Vv;refine⟨λb o e=>keep b o (Am e C.nL)<|C.same b o e,C.nL,s,λp g=>?_,λp g=>C.src p<|by simp[g],nd,Vv,λm D dn f z E=>?_⟩
 .refine(C.out p<|by simp[g]).up λc e u h=>keep c u (λw=>Vv ?_) h;rw[<-w];exact C_.mpr ⟨p,g,e⟩
 .have j:Dc.AH (m++[.leaf v])=Dc.AH m:=by rw[Dc.AO];simp[Dc.AH,Dc.AZ]
  refine C.eZ (m++[.leaf v]) D (dn.app<|by simp[Bk,Dc.val,Dc.CZ]) ⟨f.same,(Dc.BK _ _).mpr ⟨f.at_,by simp only[Dc.CY,Dc.At];exact⟨t,trivial⟩⟩,by rw[j];exact f.nd,by rw[j];exact f.own,by rw[j];exact f.new⟩ (λc y=>?_) λb o A B h=>?_
  .rw[j]at y;rw[l];rcases z c y with h|h
   .left
    cases q:k c with
    |none=>rfl|some o=>
     have n:c≠L:=λw=>by rw[w,s]at h;cases h
     rw[keep c o n q]at h;cases h
   .exact .inr h
  .rw[l]at B;exact E b o A B<|keep b o A h
def KG(H:Hp)(Q:VK):Dc->Prop
 | .leaf v=>Q v H| .row _ xs=>∀p,H p=ν->Q (.ref p) (upd H p (.lst (xs.map Dc.val)))| .tab _ ks xs=>∀p,H p=ν->Q (.ref p) (upd H p (.dK (Dc.kvs ks xs)))
inductive YC(a:List V)(H:Hp)(Q:VK)(b:XK):Prop|mk(d:Dc)(c:a=[d.val])(e:d.At H)(f:KG H Q d)
def US:Sp:=λb H Q a=>YC b H Q a
inductive Vx(a:List V)(H:Hp)(Q:VK)(b:XK):Prop|mk(d:Dc)(c:a=[d.val])(e:d.At H)(f:d.slim)(g:d.size<=900)(h:∀(d':Dc) (H':Hp),BY H H' d'->Dc.CZ d d'->Q d'.val H')
def Qt:Sp:=λb H Q a=>Vx b H Q a
theorem KG.of{j:Hp}(s:AF j H)(h:d.At H)(k:∀f g,AF H g->Ic j g f d->(∀a,f=.ref a->H a=ν)->Q f g):KG H Q d:=by
 cases d with
 |leaf v=>
  refine k v H (AF.refl H) ⟨W,h⟩ λa e=>?_;rcases(show Dc.Lf v from h)with⟨i,rfl⟩|⟨x,rfl,_⟩<;>cases e
 |row b l=>exact λp c=>k _ _ (AF.new c) ⟨p,W,AD,s.free c⟩ λa e=>by cases e;exact c|tab b m l=>exact λp c=>k _ _ (AF.new c) ⟨p,W,AD,s.free c⟩ λa e=>by cases e;exact c
def Eb(ks:List Str)(a:List V):List (Key×V):=(ks.zip a).map λp=>(dL p.1,p.2)
theorem DZ(ks:List Str)(xs:List Dc):Dc.kvs ks xs=Eb ks (xs.map Dc.val):=rfl
theorem Qu{a:List V}(h:ks.length=a.length):(Eb ks a).length=ks.length:=by
 unfold Eb;rw[be,List.length_zip];lia
theorem MS:∀{ks:List Str}{g:List V}{j:Nat}{k:Str},ks.length=g.length->ks.Nodup->ks[j]?=Z k->Cg (Eb ks g) (dL k)=g[j]?
 |[],_,_,_=>λ_ _ h=>by simp at h|y::r,[],_,_=>λh _ _=>by simp at h|y::r,v::g,0,k=>λ_ _ h=>by
  simp at h;subst h;exact GR W
 |y::r,v::g,j+1,k=>λc d h=>by
  obtain⟨e,f⟩:=f9.mp d;have b:r[j]?=Z k:=GE h
  have ne:¬(dL y:Key)=dL k:=λz=>e (by rw[yr z];exact yc b);show Cg ((dL y,v)::Eb r g) (dL k)=_;rw[FW ne,MS (GE c) f b];simp
theorem MT{a:List V}{j:Nat}{k:Str}(d:ks.length=a.length)(e:ks.Nodup)(h:ks[j]?=Z k)(c:V):putK (Eb ks a) (dL k) c=Eb ks (a.set j c):=by
 have i:j<a.length:=by rw[<-d];exact(HL h)
 have l:Cg (Eb ks a) (dL k)=Z a[j]:=by rw[MS d e h,yZ i]
 unfold putK;rw[if_pos<|by rw[GS,l];rfl];have gen:∀(ks:List Str)(a:List V)(j:Nat),ks.length=a.length->ks.Nodup->ks[j]?=Z k->(Eb ks a).map (λb=>if b.1=dL k then(b.1,c)else b)=Eb ks (a.set j c):=by
  intro ks
  induction ks with
  |nil=>intro a j _ _ h;simp at h|cons y r m=>
   intro a j d e h;cases a with
   |nil=>simp at d|cons v a=>
    obtain⟨f,n⟩:=f9.mp e;cases j with
    |zero=>
     simp at h;subst h;have o:(Eb r a).map (λb=>if b.1=dL y then(b.1,c)else b)=Eb r a:=by
      have:∀p∈Eb r a,(λb:Key×V=>if b.1=dL y then(b.1,c)else b) p=id p:=λp s=>by
       obtain⟨q,t,rfl⟩:=n9.mp s;have u:q.1∈r:=(J4 t).1;exact if_neg λz=>f<|by rw[<-yr z];exact u
      rw[B3 this,List.map_id]
     show(if(dL y:Key)=dL y then(dL y,c)else(dL y,v))::(Eb r a).map _=(dL y,c)::Eb r a;rw[if_pos W,o]
    |succ j=>
     have g:r[j]?=Z k:=GE h
     have ne:¬(dL y:Key)=dL k:=λz=>f (by rw[yr z];exact yc g);show(if(dL y:Key)=dL k then(dL y,c)else(dL y,v))::(Eb r a).map _=(dL y,v)::Eb r (a.set j c);rw[if_neg ne,m a j (GE d) n g]
 exact gen ks a j d e h
theorem reorder{ss:List Str}{ec:List Dc}(p:ss.Perm ks)(q:ss.Nodup)(l:ec.length=ss.length):∃a:List Dc,a.Perm ec/\a.length=ks.length/\∀(j t:Nat) k,ks[j]?=Z k->ss[t]?=Z k->a[j]?=ec[t]?:=by
 have c:∀k∈ks,∃x,(ss.zip ec).lookup k=Z x:=λk s=>let⟨x,h,_⟩:=Dc.CV l.symm<|p.mem_iff.mpr s;⟨x,h⟩;have gen:∀ks:List Str,(∀k∈ks,∃x,(ss.zip ec).lookup k=Z x)->∃a:List Dc,a.map Z=ks.map λk=>(ss.zip ec).lookup k:=by
  intro ks
  induction ks with
  |nil=>exact λ_=>⟨[],W⟩|cons k r u=>
   intro h;obtain⟨x,v⟩:=h k e9;obtain⟨a,d⟩:=u λw e=>h w<|bi _ e;exact⟨x::a,by simp[d,v]⟩
 obtain⟨a,f⟩:=gen ks c;have b:ec.map Z=ss.map λk=>(ss.zip ec).lookup k:=by
  refine N7 λi=>?_;rw[f8,f8];cases g:ss[i]? with
  |none=>
   have:ec[i]?=none:=rS.mpr (by rw[l];exact rS.mp g);rw[this];rfl
  |some k=>
   have m:i<ec.length:=by rw[l];exact(HL g)
   rw[yZ m];show Z (Z ec[i])=Z ((ss.zip ec).lookup k);rw[Dc.HX ss ec i q g<|yZ m]
 refine⟨a,?_,?_,λj t k y d=>?_⟩
 .have A:(a.map Z).Perm (ec.map Z):=by rw[f,b];exact(p.map _).symm
  have B:=A.filterMap id;simpa using B
 .have:=congrArg ww f;simpa using this
 .have n:=congrArg (λz=>z[j]?) f;simp only[f8,y]at n;have o:=congrArg (λz=>z[t]?) b;simp only[f8,d]at o;have C:a[j]?.map Z=ec[t]?.map some:=n.trans o.symm;cases D:a[j]?<;>cases E:ec[t]?<;>simp_all
theorem Ke{ys:List Dc}(p:xs.Perm ys):(Dc.AH xs).Perm (Dc.AH ys):=by
 induction p with
 |nil=>exact .refl _|cons x _ a=>simp only[Dc.AH];exact a.append_left _|swap x y l=>
  simp only[Dc.AH,<-j3];exact(S0).append_right _
 |trans _ _ b c=>exact b.trans c
theorem YD{ys:List Dc}(p:xs.Perm ys)(h:Dc.CY H ys):Dc.CY H xs:=by
 have gen:∀l:List Dc,(∀x∈l,x.At H)->Dc.CY H l:=by
  intro l
  induction l with
  |nil=>intro _;trivial|cons x r a=>intro h;simp only[Dc.CY];exact⟨h x e9,a λy b=>h y (bi _ b)⟩
 exact gen xs λx c=>Dc.Cn h x<|p.mem_iff.mp c
theorem Qv:∀{xs ys:List Dc},xs.length=ys.length->(∀(i:Nat) x y,xs[i]?=Z x->ys[i]?=Z y->Dc.CZ x y)->Dc.BL xs ys
 |[],[]=>λ_ _=>by simp[Dc.BL]|[],_::_=>λh _=>by simp at h|_::_,[]=>λh _=>by simp at h|x::r,y::t=>λh k=>by
  simp only[Dc.BL];exact⟨k 0 x y W W,Qv (GE h) λi a b c d=>k (i+1) a b (GE c)<|GE d⟩
theorem Vy{b:Hp}{a:V}(c:d.At H)(o:Ic H b a d)(e:a=.ref L):b L≠none:=(Ic.root (p:=(a,d)) o e).1
variable{x:Dc}{b:List V}
theorem YE(l:b.length=i)(a:xs[i]?=Z x):(b++[c]).zip xs=b.zip xs++[(c,x)]:=by
 induction b generalizing xs i with
 |nil=>
  cases xs with
  |nil=>simp at a|cons y t=>
   simp at l;subst l;simp at a;subst a;simp
 |cons z r d=>
  cases xs with
  |nil=>simp at a|cons y t=>
   cases i with
   |zero=>simp at l|succ i=>
    simp only[i5,m6];rw[d (GE l)<|GE a]
structure YF(H H2 Hi:Hp)(a L:Addr)(xs:List Dc)(cs:List V):Prop where
 oc:∀(j:Nat) c x,cs[j]?=Z c->xs[j]?=Z x->Ic H Hi c x
 kp:∀b o,b≠a->b≠L->H2 b=Z o->Hi b=Z o
 rn:(roots (cs.zip xs)).Nodup
 rf:∀c∈roots (cs.zip xs),H2 c=ν
theorem YF.start:YF H H2 H2 a L xs []:=⟨λj c x h=>by simp at h,λb o _ _ h=>h,by simp[roots],by simp[roots]⟩
theorem YF.next{q r:Hp}{k:List V}{O Q:HO}(P:YF H H2 q a L xs k)(v:k.length=i)(R:xs[i]?=Z x)(S:AF q r)(w:Ic H r c x)(t:∀b,c=.ref b->q b=ν)(A:q a≠ν)(B:q L≠ν)(C:H2 a≠ν)(D:H2 L≠ν):YF H H2 (upd (upd r a O) L Q) a L xs (k++[c]):=by
 have E:∀b,c=.ref b->b≠a/\b≠L:=λb e=>⟨λz=>A<|by rw[<-z];exact t b e,λz=>B<|by rw[<-z];exact t b e⟩;have ez:(k++[c]).zip xs=k.zip xs++[(c,x)]:=YE v R;have base:∀{d:V}{s:Dc},Ic H r d s->(∀b,d=.ref b->b≠a/\b≠L)->Ic H (upd (upd r a O) L Q) d s:=λo U=>o.up λb e u h=>by
  obtain⟨F,G⟩:=U b e;rw[AM G,AM F];exact h
 refine⟨λj d s g l=>?_,λX o g l Y=>?_,?_,λd f=>?_⟩
 .by_cases I:j<k.length
  .rw[i4 I]at g;refine base ((P.oc j d s g l).up λb e u h=>S _ _ h) λb e=>?_;have T:=P.rf b<|C_.mpr ⟨(d,s),yc<|ze.mpr ⟨g,l⟩,e⟩;exact⟨λz=>C<|by rw[<-z];exact T,λz=>D<|by rw[<-z];exact T⟩
  .have ζ:=HL g;rw[d7,j5]at ζ;have J:j=i:=by lia
   subst J;rw[ii<|bm v,v,u5]at g;have ξ:c=d:=GE g
   subst ξ;rw[R]at l;cases l;exact base w E
 .rw[AM l,AM g];exact S _ _<|P.kp X o g l Y
 .rw[ez,CG];refine b7.mpr ⟨P.rn,by cases c<;>first|exact zv|exact f9.mpr ⟨(λh=>nomatch h),zv⟩,λy hy z hz e=>?_⟩;subst e;obtain⟨p',m,n⟩:=C_.mp hz;rw[ci.mp m]at n;obtain⟨⟨c2,M⟩,N,e2⟩:=C_.mp hy;obtain⟨j,hj,J⟩:=AC.mp N;obtain⟨F,G⟩:=ze.mp (show(k.zip xs)[j]?=Z (c2,M)by rw[yZ hj,J]);exact((P.oc j c2 M F G).root (p:=(c2,M)) e2).1<|t y n
 .rw[ez,CG]at f;rcases am.mp f with f|f
  .exact P.rf d f
  .obtain⟨p',m,n⟩:=C_.mp f;rw[ci.mp m]at n;have h0:=t d n;cases q2:H2 d with
   |none=>rfl|some o=>
    have:=P.kp d o (E d n).1 (E d n).2 q2;rw[h0]at this;cases this
theorem YF.fin{s h:Hp}{E:V}{node:Dc}{i:List (V×Dc)}{f:List V}{o:HO}(C:Fc H s L E d (i++[(.ref a,node)]))(P:YF H H2 h a L xs f)(F:f.length=xs.length)(k:∀b o,b≠L->s b=Z o->H2 b=Z o)(t:H2 L≠ν)(v:h L=Z (.lst (i.map (·.1)++f)))(w:∀x∈xs,x.At H/\x.slim)(g:h a=Z o)(nf:∀y u,o≠.Di y u)(build:∀(ec:List Dc) (H':Hp),ec.map Dc.val=f->Dc.BL xs ec->Dc.CY H' ec->H' a=Z o->∃e:Dc,e.val=.ref a/\Dc.CZ node e/\e.At H'/\e.AZ.Perm (a::Dc.AH ec)):Fc H h L E d (i++f.zip xs)/\Dc.Ab ((i++f.zip xs).map (·.2))=Dc.Ab (i.map (·.2))+Dc.Ab xs:=by
 have G:(f.zip xs).map (·.1)=f:=P0<|bm F;have l:(f.zip xs).map (·.2)=xs:=PP<|bm F.symm;have m:∀p∈f.zip xs,∃j:Nat,f[j]?=Z p.1/\xs[j]?=Z p.2:=λp n=>by
  obtain⟨j,N,e⟩:=AC.mp n;exact⟨j,ze.mp<|by rw[yZ N,e]⟩
 refine⟨C.step (H2:=h) (f.zip xs) (λI o O J Q=>P.kp I o O J (k I o J Q)) (by rw[v,ca,G]) (λp n=>let⟨j,M,A⟩:=m p n;P.oc j _ _ M A) (λp n=>let⟨j,M,A⟩:=m p n;w _ (yc A)) P.rn (λc R=>by
   cases S:s c with
   |none=>rfl|some o=>
    have r:=P.rf c R;by_cases q:c=L
    .rw[q]at r;exact absurd r t
    .rw[k c o q S]at r;cases r) (by rw[g];simp) (λy u z=>by rw[g]at z;exact nf y u (yb z))
  (λec H' dn B D=>build ec H' (by have:=dn.vals;rwa [G]at this) (by have:=dn.cg;rwa [l]at this) B (D.trans g)),by rw[ca,Dc.BP,l]⟩
variable{m:List V}
namespace Dc
inductive Eqv:Dc->Dc->Prop where
 |leaf (v:V):Eqv (leaf v) (leaf v)
 |row {a b:Addr} {xs ys:List Dc} (l:xs.length=ys.length) (h:∀(i:Nat) x y,xs[i]?=Z x->ys[i]?=Z y->Eqv x y):Eqv (row a xs) (row b ys)
 |tab {a b:Addr} {ks ls:List Str} {xs ys:List Dc} (p:ks.Perm ls) (h:∀k x y,(ks.zip xs).lookup k=Z x->(ls.zip ys).lookup k=Z y->Eqv x y):Eqv (tab a ks xs) (tab b ls ys)
theorem YG:∀{xs ys:List Dc},BL xs ys->∀{k:Str}{x y:Dc},(ks.zip xs).lookup k=Z x->(ks.zip ys).lookup k=Z y->∃i:Nat,xs[i]?=Z x/\ys[i]?=Z y:=by
 induction ks with
 |nil=>intro xs ys _ k x y h;simp at h|cons z r d=>
  intro xs ys c k x y a b;cases xs with
  |nil=>simp at a|cons j xs=>
   cases ys with
   |nil=>simp at b|cons l ys=>
    simp only[BL,m6,j8]at c a b;by_cases e:k=z
    .subst e;simp at a b;exact⟨0,by simp[a],by simp[b]⟩
    .have:(k==z)=false:=GE e
     rw[this]at a b;obtain⟨i,f,g⟩:=d c.2 a b;exact⟨i+1,GE f,GE g⟩
mutual
theorem EE:∀d e:Dc,CZ d e->Eqv d e
 |leaf v,e,h=>by
  cases e with
  |leaf w=>
   have:v=w:=by simpa[CZ]using h
   subst this;exact .leaf v
  |_=>simp[CZ]at h
 |row a c,e,h=>by
  cases e with
  |row b f=>
   simp only[CZ]at h;exact .row (JR h) (KH c f h)
  |_=>simp[CZ]at h
 |tab a n c,e,h=>by
  cases e with
  |tab b ls f=>
   simp only[CZ]at h;obtain⟨rfl,h⟩:=h;refine .tab (.refl _) λk x y g j=>?_;obtain⟨i,l,m⟩:=YG h g j;exact KH c f h i x y l m
  |_=>simp[CZ]at h
theorem KH:∀xs ys:List Dc,BL xs ys->∀(i:Nat) x y,xs[i]?=Z x->ys[i]?=Z y->Eqv x y
 |[],_,_,i,x,y,h,_=>by simp at h|_::_,[],h,_,_,_,_,_=>by simp[BL]at h|c::r,d::t,h,0,x,y,a,b=>by
  simp only[BL]at h;simp at a b;subst a b;exact EE _ _ h.1
 |c::r,d::t,h,i+1,x,y,a,b=>by
  simp only[BL]at h;exact KH r t h.2 i x y (GE a)<|by simpa using b
end
theorem Eqv.refl(d:Dc):Eqv d d:=EE d d<|KD d
theorem Eqv.symm(h:Eqv d e):Eqv e d:=by
 induction h with
 |leaf v=>exact .leaf v|row l _ a=>exact .row l.symm λi x y b c=>a i y x c b|tab p _ a=>exact .tab p.symm λk x y b c=>a k y x c b
inductive Wf:Dc->Prop where
 |leaf (v:V):Wf (leaf v)
 |row {a:Addr} {xs:List Dc} (h:∀x∈xs,Wf x):Wf (row a xs)
 |tab {a:Addr} {ks:List Str} {xs:List Dc} (l:ks.length=xs.length) (n:ks.Nodup) (h:∀x∈xs,Wf x):Wf (tab a ks xs)
mutual
theorem Br:∀d:Dc,d.At e->d.Wf
 |leaf v,_=>.leaf v|row a xs,h=>by simp only[At]at h;exact .row (Sm xs h.2)|tab a ks xs,h=>by simp only[At]at h;exact .tab h.2.1 h.2.2.1 (Sm xs h.2.2.2)
theorem Sm:∀xs:List Dc,CY f xs->∀x∈xs,x.Wf
 |[],_,x,a=>nomatch a
 |y::r,h,x,a=>by
  simp only[CY]at h;have b:=Br y h.1;have c:=Sm r h.2;rcases ce.mp a with e|a
  .rw[e];exact b
  .exact c x a
end
def ix(ks:List Str)(k:Str):Nat:=ks.findIdx (·==k)
theorem Ec(h:k∈ks):ks[ix ks k]?=Z k:=by
 have a:ix ks k<ks.length:=List.findIdx_lt_length_of_exists ⟨k,h,z_⟩;rw[yZ a];have b:(ks[ix ks k]==k)=true:=List.findIdx_getElem (w:=a);exact congrArg Z<|eq_of_beq b
theorem Be{k:Str}(l:ks.length=xs.length)(n:ks.Nodup)(h:(ks.zip xs).lookup k=Z x):xs[ix ks k]?=Z x:=by
 have b:=(AR h).1;have e:=Ec b;have c:=HL e;obtain⟨y,a⟩:=HK xs (ix ks k) (by rw[<-l];exact c);have:=HX ks xs _ n e a;rw[h]at this;cases this;exact a
noncomputable def Av:Dc->List V->Dc->Dc
 |_,[],n=>n|row a xs,.int i::r,n=>row a (match xs[i.toNat]? with|some x=>xs.set i.toNat (Av x r n)|none=>xs)
 |tab a ks xs,.str k::r,n=>tab a ks (match xs[ix ks k]? with|some x=>xs.set (ix ks k) (Av x r n)|none=>xs)
 |d,_::_,_=>d
theorem Cw(h:xs[i]?=Z x)(r:List V)(n:Dc):Av (row a xs) (.int (i:Int)::r) n=row a (xs.set i (Av x r n)):=by
 simp only[Av,i6,h]
theorem DJ(h:xs[ix ks k]?=Z x)(r:List V)(n:Dc):Av (tab a ks xs) (.str k::r) n=tab a ks (xs.set (ix ks k) (Av x r n)):=by
 simp only[Av,h]
theorem Bb(h:d.sub (z::r)=Z e):(∃a xs i x,d=row a xs/\z=.int ((i:Nat):Int)/\xs[i]?=Z x/\x.sub r=Z e)∨∃a ks xs k x,d=tab a ks xs/\z=.str k/\(ks.zip xs).lookup k=Z x/\x.sub r=Z e:=by
 cases d with
 |leaf v=>simp[sub]at h|row a xs=>
  cases z with
  |int i=>
   simp only[sub]at h;by_cases c:0<=i
   .rw[if_pos c]at h;cases b:xs[i.toNat]? with
    |none=>rw[b]at h;simp at h|some x=>rw[b]at h;exact .inl ⟨a,xs,i.toNat,x,W,by rw[j4 c],b,h⟩
   .rw[if_neg c]at h;simp at h
  |_=>simp[sub]at h
 |tab a ks xs=>
  cases z with
  |str k=>
   simp only[sub]at h;cases b:(ks.zip xs).lookup k with
   |none=>rw[b]at h;simp at h|some x=>rw[b]at h;exact .inr ⟨a,ks,xs,k,x,W,W,b,h⟩
  |_=>simp[sub]at h
theorem Ap(d:Dc):d.sub []=Z d:=by cases d<;>rfl
theorem Gq(h:xs[i]?=Z x)(r:List V):(row a xs).sub (.int (i:Int)::r)=x.sub r:=by
 simp only[sub];rw[if_pos<|j9 _,i6,h];rfl
theorem EF(h:(ks.zip xs).lookup k=Z x)(r:List V):(tab a ks xs).sub (.str k::r)=x.sub r:=by
 simp only[sub,h];rfl
theorem BF.sub:∀{d e:Dc},d.sub g=Z e->BF e d:=by
 induction g with
 |nil=>intro d e h;rw[Ap]at h;cases h;exact .refl d|cons z r f=>
  intro d e h;rcases Bb h with⟨a,j,i,x,rfl,rfl,b,c⟩|⟨a,l,j,k,x,rfl,rfl,b,c⟩
  .exact(f c).trans<|.row<|yc b
  .exact(f c).trans<|.tab (AR b).2
theorem Fd:∀{d e n:Dc},d.sub b=Z e->n.val=e.val->(Av d b n).val=d.val:=by
 induction b with
 |nil=>intro d e n h c;rw[Ap]at h;cases h;cases d<;>exact c|cons z r l=>
  intro d e n h c;rcases Bb h with⟨a,g,i,x,rfl,rfl,f,j⟩|⟨a,m,g,k,x,rfl,rfl,f,j⟩
  .rw[Cw f];rfl
  .simp only[Av];rfl
theorem Kg{y:Dc}(h:xs[i]?=Z x)(e:y.val=x.val):(xs.set i y).map val=xs.map val:=by
 refine N7 λj=>?_;rw[f8,f8];by_cases a:i=j
 .subst a;rw[nw<|HL h,h];exact congrArg Z e
 .rw[r9 a]
theorem DQ(h:e[i]?=Z f):∃l r,e=l++f::r/\∀y,e.set i y=l++y::r:=by
 have a:=HL h;have b:=(ya h).2;refine⟨e.take i,e.drop<|i+1,?_,λy=>D6 .. |>.trans (if_pos a)⟩;rw[<-b,E7,pi]
theorem Co:∀{d e n:Dc},d.Wf->d.AZ.Nodup->d.sub m=Z e->∃l r,d.AZ=l++e.AZ++r/\(Av d m n).AZ=l++n.AZ++r:=by
 induction m with
 |nil=>intro d e n _ _ h;rw[Ap]at h;cases h;exact⟨[],[],z_,by cases d<;>simp[Av]⟩|cons z r y=>
  intro d e n w b h;rcases Bb h with⟨a,A,i,x,rfl,rfl,g,o⟩|⟨a,D,A,k,x,rfl,rfl,g,o⟩
  .cases w with
   |row p=>
    obtain⟨l,t,j,q⟩:=DQ g;simp only[AZ,f9]at b;rw[j,AO]at b;simp only[AH]at b;have c:x.AZ.Nodup:=((b7.mp (b7.mp b.2).2.1)).1;obtain⟨l2,s,u,v⟩:=y (n:=n) (p x<|yc g) c o;refine⟨a::(AH l++l2),s++AH t,?_,?_⟩
    .simp only[AZ];rw[j,AO];simp only[AH];rw[u];simp
    .rw[Cw g];simp only[AZ];rw[q,AO];simp only[AH];rw[v];simp
  .cases w with
   |tab B C p=>
    have f:=Be B C g;obtain⟨l,t,j,q⟩:=DQ f;simp only[AZ,f9]at b;rw[j,AO]at b;simp only[AH]at b;have c:x.AZ.Nodup:=((b7.mp (b7.mp b.2).2.1)).1;obtain⟨l2,s,u,v⟩:=y (n:=n) (p x<|yc f) c o;refine⟨a::(AH l++l2),s++AH t,?_,?_⟩
    .simp only[AZ];rw[j,AO];simp only[AH];rw[u];simp
    .rw[DJ f];simp only[AZ];rw[q,AO];simp only[AH];rw[v];simp
theorem UT{H':Hp}{I:List V}:∀{d e n:Dc},d.AZ.Nodup->d.sub I=Z e->n.val=e.val->n.At H'->(∀a∈d.AZ,a∉e.AZ->∀o,H a=Z o->H' a=Z o)->d.At H->(Av d I n).At H':=by
 induction I with
 |nil=>intro d e n _ h _ F _ _;rw[Ap]at h;cases h;cases d<;>exact F|cons z r S=>
  intro d e n D h G F f q;have PE:=BF.sub h;rcases Bb h with⟨a,u,i,x,rfl,rfl,E,v⟩|⟨a,J,u,k,x,rfl,rfl,E,v⟩
  .obtain⟨l,t,s,L⟩:=DQ E;have w:=BF.sub v;simp only[At,AZ,f9]at q D;have M:a∉e.AZ:=λz=>D.1 (by rw[s,AO];simp only[AH];exact d9 _<|b9 _<|w.AZ a z);have g:=D.2;rw[s,AO]at g;simp only[AH]at g;obtain⟨T,N,O⟩:=b7.mp g;obtain⟨P,U,Q⟩:=b7.mp N;have p:=q.2;rw[s]at p;obtain⟨R,y⟩:=(BK _ _).mp p;simp only[CY]at y;have fa:∀c,c∈AH u->c∉e.AZ->∀o,H c=Z o->H' c=Z o:=λc b A o j=>f c (by simp only[AZ];exact bi _ b) A o j;have m:∀c,c∈AH l∨c∈x.AZ∨c∈AH t->c∈AH u:=λc b=>by
    rw[s,AO];simp only[AH,am];exact b
   have B:=S (n:=n) P v G F (λc b A o j=>fa c (m c<|.inr<|.inl b) A o j) y.1;rw[Cw E];simp only[At];refine⟨?_,?_⟩
   .rw[Kg E<|Fd v G];exact q.1.up<|f a (by simp[AZ]) M
   .rw[L];refine(BK _ _).mpr ⟨BD l (λc b o j=>fa c (m c<|.inl b) (λz=>O c b c (b9 _<|w.AZ c z) W) o j) R,?_⟩;simp only[CY];exact⟨B,BD t (λc b o j=>fa c (m c<|.inr<|.inr b) (λz=>Q c (w.AZ c z) c b W) o j) y.2⟩
  .simp only[At]at q;have C:=Be q.2.1 q.2.2.1 E;obtain⟨l,t,s,L⟩:=DQ C;have w:=BF.sub v;simp only[AZ,f9]at D;have M:a∉e.AZ:=λz=>D.1 (by rw[s,AO];simp only[AH];exact d9 _<|b9 _<|w.AZ a z);have g:=D.2;rw[s,AO]at g;simp only[AH]at g;obtain⟨T,N,O⟩:=b7.mp g;obtain⟨P,U,Q⟩:=b7.mp N;have p:=q.2.2.2;rw[s]at p;obtain⟨R,y⟩:=(BK _ _).mp p;simp only[CY]at y;have fa:∀c,c∈AH u->c∉e.AZ->∀o,H c=Z o->H' c=Z o:=λc b A o j=>f c (by simp only[AZ];exact bi _ b) A o j;have m:∀c,c∈AH l∨c∈x.AZ∨c∈AH t->c∈AH u:=λc b=>by
    rw[s,AO];simp only[AH,am];exact b
   have B:=S (n:=n) P v G F (λc b A o j=>fa c (m c<|.inr<|.inl b) A o j) y.1;rw[DJ C];simp only[At];refine⟨?_,by rw[wT];exact q.2.1,q.2.2.1,?_⟩
   .have:kvs J (u.set (ix J k)<|Av x r n)=kvs J u:=by unfold kvs;rw[Kg C<|Fd v G]
    rw[this];exact q.1.up<|f a (by simp[AZ]) M
   .rw[L];refine(BK _ _).mpr ⟨BD l (λc b o j=>fa c (m c<|.inl b) (λz=>O c b c (b9 _<|w.AZ c z) W) o j) R,?_⟩;simp only[CY];exact⟨B,BD t (λc b o j=>fa c (m c<|.inr<|.inr b) (λz=>Q c (w.AZ c z) c b W) o j) y.2⟩
noncomputable def room:Dc->V->Bool
 |row _ xs,.int i=>decide (0<=i)&&decide (i<=(xs.length:Int))|tab _ ks _,.str k=> !ks.contains k|_,_=>false
noncomputable def De:Dc->V->Dc->Dc
 |row a xs,.int i,v=>row a (xs.take i.toNat++v::xs.drop i.toNat)|tab a ks xs,.str k,v=>tab a (ks++[k]) (xs++[v])|d,_,_=>d
noncomputable def BZ:Dc->V->Dc
 |row a xs,.int i=>row a (xs.eraseIdx i.toNat)|tab a ks xs,.str k=>tab a (ks.eraseIdx (ix ks k)) (xs.eraseIdx (ix ks k))|d,_=>d
theorem sub_one(h:d.sub [z]=Z x):(∃a xs i,d=row a xs/\z=.int ((i:Nat):Int)/\xs[i]?=Z x)∨∃a ks xs k,d=tab a ks xs/\z=.str k/\(ks.zip xs).lookup k=Z x:=by
 rcases Bb h with⟨a,xs,i,y,c,e,f,b⟩|⟨a,ks,xs,k,y,c,e,f,b⟩
 .rw[Ap]at b;cases b;exact .inl ⟨a,xs,i,c,e,f⟩
 .rw[Ap]at b;cases b;exact .inr ⟨a,ks,xs,k,c,e,f⟩
theorem Fe(h:e.room z=true):(∃a xs i,e=row a xs/\z=.int ((i:Nat):Int)/\i<=xs.length)∨∃a ks xs k,e=tab a ks xs/\z=.str k/\k∉ks:=by
 cases e with
 |leaf v=>cases z<;>simp[room]at h|row a xs=>
  cases z with
  |int i=>
   simp only[room,g9,decide_eq_true_eq]at h;exact .inl ⟨a,xs,i.toNat,W,by rw[j4 h.1],y_⟩
  |_=>simp[room]at h
 |tab a ks xs=>
  cases z with
  |str k=>
   simp only[room,N9,List.contains_eq_mem,decide_eq_false_iff_not]at h;exact .inr ⟨a,ks,xs,k,W,W,h⟩
  |_=>simp[room]at h
theorem JU(e:Dc)(z:V)(v:Dc):(De e z v).val=e.val:=by
 cases e<;>cases z<;>rfl
theorem Qw(e:Dc)(z:V):(BZ e z).val=e.val:=by
 cases e<;>cases z<;>rfl
theorem mem_set{y z:Dc}(h:z∈xs.set i y):z∈xs∨z=y:=wp h
theorem Oy:∀{d e n:Dc},d.Wf->d.sub m=Z e->n.Wf->(Av d m n).Wf:=by
 induction m with
 |nil=>intro d e n _ h j;cases d<;>exact j|cons z r p=>
  intro d e n w h j;rcases Bb h with⟨a,s,i,x,rfl,rfl,l,o⟩|⟨a,t,s,k,x,rfl,rfl,l,o⟩
  .cases w with
   |row c=>
    rw[Cw l];refine .row λy b=>?_;rcases mem_set b with b|rfl
    .exact c y b
    .exact p (c x<|yc l) o j
  .cases w with
   |tab q f c=>
    have g:=Be q f l;rw[DJ g];refine .tab (by rw[wT];exact q) f λy b=>?_;rcases mem_set b with b|rfl
    .exact c y b
    .exact p (c x<|yc g) o j
theorem Nn(h:xs[i]?=Z x):Ab (xs.set i y)+x.size=Ab xs+y.size:=by
 obtain⟨l,t,a,b⟩:=DQ h;rw[b,a,BP,BP];simp only[Ab];lia
theorem GX{f:List V}:∀{d e n:Dc},d.Wf->d.sub f=Z e->(Av d f n).size+e.size=d.size+n.size:=by
 induction f with
 |nil=>intro d e n _ h;rw[Ap]at h;cases h;cases d<;>simp only[Av]<;>lia|cons z r m=>
  intro d e n w h;rcases Bb h with⟨a,o,i,x,rfl,rfl,c,g⟩|⟨a,q,o,k,x,rfl,rfl,c,g⟩
  .cases w with
   |row j=>
    have:=m (n:=n) (j x<|yc c) g;have:=Nn (y:=Av x r n) c;rw[Cw c];simp only[size];lia
  .cases w with
   |tab p l j=>
    have b:=Be p l c;have:=m (n:=n) (j x<|yc b) g;have:=Nn (y:=Av x r n) b;rw[DJ b];simp only[size];lia
theorem Eqv.sub{j:List V}:∀{d d' e:Dc},d.Wf->d'.Wf->Eqv d d'->d.sub j=Z e->∃f,d'.sub j=Z f/\Eqv e f:=by
 induction j with
 |nil=>intro d d' e _ _ q h;rw[Ap]at h;cases h;exact⟨d',Ap d',q⟩|cons z r A=>
  intro d d' e w B q h;rcases Bb h with⟨a,D,i,x,rfl,rfl,c,m⟩|⟨a,G,D,k,x,rfl,rfl,c,m⟩
  .cases q with
   |@row _ b _ C l n=>
    cases w with
    |row o=>
     cases B with
     |row s=>
      obtain⟨y,g⟩:=HK C i (by rw[<-l];exact(HL c));obtain⟨f,t,u⟩:=A (o x<|yc c) (s y<|yc g) (n i x y c g) m;exact⟨f,by rw[Gq g];exact t,u⟩
  .cases q with
   |@tab _ b _ ls _ C p n=>
    cases w with
    |tab H I o=>
     cases B with
     |tab v E s=>
      obtain⟨y,g,F⟩:=CV v<|p.mem_iff.mp (AR c).1;obtain⟨f,t,u⟩:=A (o x (AR c).2) (s y F) (n k x y c g) m;exact⟨f,by rw[EF g];exact t,u⟩
theorem Ie{k a:Str}{y z:Dc}(l:ks.length=xs.length)(n:ks.Nodup)(f:(ks.zip xs).lookup k=Z x)(h:(ks.zip (xs.set (ix ks k) y)).lookup a=Z z):(a=k/\z=y)∨(a≠k/\(ks.zip xs).lookup a=Z z):=by
 have l2:ks.length=(xs.set (ix ks k) y).length:=by rw[wT];exact l
 have c:=Be l2 n h;have i:=(AR f).1;have b:=(AR h).1;by_cases e:a=k
 .subst e;rw[nw (ya<|Be l n f).1]at c;exact .inl ⟨W,(yb c).symm⟩
 .right
  refine⟨e,?_⟩;have d:ix ks k≠ix ks a:=λw=>e (by have g:=Ec i;have j:=Ec b;rw[w,j]at g;exact yb g);rw[r9 d]at c;exact HX ks xs _ n (Ec b) c
theorem Eqv.Av{v:List V}:∀{d d' e n A:Dc},d.Wf->d'.Wf->Eqv d d'->d.sub v=Z e->Eqv n A->Eqv (Dc.Av d v n) (Dc.Av d' v A):=by
 induction v with
 |nil=>intro d d' e n A _ _ _ _ q;cases d<;>cases d'<;>exact q|cons z r I=>
  intro d d' e n A w J q h L;rcases Bb h with⟨a,P,i,x,rfl,rfl,c,B⟩|⟨a,U,P,k,x,rfl,rfl,c,B⟩
  .cases q with
   |@row _ b _ M l t=>
    cases w with
    |row C=>
     cases J with
     |row D=>
      obtain⟨y,f⟩:=HK M i (by rw[<-l];exact(HL c));rw[Cw c,Cw f];refine .row (by rw[wT,wT];exact l) λj E F s m=>?_;by_cases u:i=j
      .subst u;rw[nw<|HL c]at s;rw[nw<|HL f]at m;cases s;cases m;exact I (C x<|yc c) (D y<|yc f) (t i x y c f) B L
      .rw[r9 u]at s m;exact t j E F s m
  .cases q with
   |@tab _ b _ ls _ M p t=>
    cases w with
    |tab N O C=>
     cases J with
     |tab g o D=>
      obtain⟨y,f,Q⟩:=CV g<|p.mem_iff.mp (AR c).1;have G:=Be N O c;have H:=Be g o f;rw[DJ G,DJ H];refine .tab p λk2 E F s m=>?_;rcases Ie N O c s with⟨rfl,rfl⟩|⟨ne,R⟩
      .rcases Ie g o f m with⟨_,rfl⟩|⟨ne,_⟩
       .exact I (C x (AR c).2) (D y Q) (t k2 x y c f) B L
       .exact absurd W ne
      .rcases Ie g o f m with⟨S,_⟩|⟨_,T⟩
       .exact absurd S ne
       .exact t k2 E F R T
end Dc
theorem Ig{a:Type}{l:List a}(h:i<l.length):(l[i]::l.eraseIdx i).Perm l:=by
 have b:l=l.take i++l[i]::l.drop (i+1):=by rw[E7,pi]
 rw[yn];exact(Ps.symm).trans<|by rw[<-b]
variable{z:V}
namespace Dc
theorem Np(l:ks.length=xs.length)(n:ks.Nodup){k a:Str}(f:k∈ks):((ks.eraseIdx (ix ks k)).zip (xs.eraseIdx (ix ks k))).lookup a=if a=k then ν else(ks.zip xs).lookup a:=by
 induction ks generalizing xs with
 |nil=>cases f|cons y r g=>
  cases xs with
  |nil=>simp at l|cons x t=>
   obtain⟨h,i⟩:=f9.mp n;by_cases e:y=k
   .subst e;have c:ix (y::r) y=0:=by simp[ix,E5]
    rw[c];simp only[Z5,abi,m6,j8];by_cases b:a=y
    .subst b;rw[if_pos W];cases q:(r.zip t).lookup a with
     |none=>rfl|some z=>exact absurd (AR q).1 h
    .rw[if_neg b];have:(a==y)=false:=GE b
     rw[this]
   .have d:k∈r:=(ce.mp f).resolve_left (λz=>e z.symm);have c:ix (y::r) k=ix r k+1:=by
     have:(y==k)=false:=GE e
     simp[ix,E5,this]
    rw[c];simp only[List.eraseIdx_cons_succ,m6,j8];by_cases b:a=y
    .subst b;rw[if_neg e];simp
    .have:(a==y)=false:=GE b
     rw[this];exact g (GE l) i d
theorem Qx{k:Str}(h:k∈ks):ix ks k<ks.length:=(ya<|Ec h).1
theorem LQ{e:Dc}(d:e.Wf)(h:e.sub [z]=Z x):(BZ e z).Wf:=by
 rcases sub_one h with⟨a,l,i,rfl,rfl,f⟩|⟨a,n,l,k,rfl,rfl,f⟩
 .cases d with
  |row b=>exact .row λy c=>b y (wS c)
 .cases d with
  |tab g m b=>
   have j:=Qx (AR f).1;refine .tab ?_ (List.Nodup.sublist (TD _ _) m) λy c=>b y<|wS c;rw[zc j,zc<|by rw[<-g];exact j,g]
theorem KI{e v:Dc}(h:e.room z=true):(De e z v).size=e.size+v.size:=by
 rcases Fe h with⟨a,b,i,rfl,rfl,c⟩|⟨a,d,b,k,rfl,rfl,f⟩
 .simp only[De,size,BP,Ab];have:=FX b<|(i:Int).toNat;lia
 .simp only[De,size,BP,Ab];lia
theorem Kh(h:xs[i]?=Z x):Ab (xs.eraseIdx i)+x.size=Ab xs:=by
 obtain⟨l,t,c,d⟩:=DQ h;have e:=HL h;have a:xs.eraseIdx i=xs.take i++xs.drop (i+1):=yn ..;have b:xs=xs.take i++x::xs.drop (i+1):=by
  rw[<-(ya h).2,E7,pi]
 rw[a,BP];have:=congrArg Ab b;rw[BP]at this;simp only[Ab]at this;lia
theorem Vz{e:Dc}(c:e.Wf)(h:e.sub [z]=Z x):(BZ e z).size+x.size=e.size:=by
 rcases sub_one h with⟨a,d,i,rfl,rfl,b⟩|⟨a,j,d,k,rfl,rfl,b⟩
 .simp only[BZ,size,i6];have:=Kh b;lia
 .cases c with
  |tab f g l=>
   simp only[BZ,size];have:=Kh<|Be f g b;lia
theorem Eqv.BZ{e s x:Dc}{z:V}(D:e.Wf)(t:s.Wf)(h:e.sub [z]=Z x)(q:Eqv e s):Eqv (Dc.BZ e z) (Dc.BZ s z):=by
 rcases sub_one h with⟨a,E,i,rfl,rfl,u⟩|⟨a,g,E,k,rfl,rfl,u⟩
 .cases q with
  |@row _ b _ F l n=>
   simp only[Dc.BZ,i6];have A:=HL u;refine .row (by rw[zc A,zc<|bn A<|bm l,l]) λj o r c d=>?_;rw[List.getElem?_eraseIdx]at c d;split at c
   .rename_i v
    rw[if_pos v]at d;exact n j o r c d
   .rename_i v
    rw[if_neg v]at d;exact n (j+1) o r c d
 .cases q with
  |@tab _ b _ ls _ F p n=>
   cases D with
   |tab G H N=>
    cases t with
    |tab w y O=>
     have m:=(AR u).1;have f:=p.mem_iff.mp m;simp only[Dc.BZ];refine .tab ?_ λB o r c d=>?_
     .have I:g[ix g k]'(Qx m)=k:=(ya<|Ec m).2;have J:ls[ix ls k]'(Qx f)=k:=(ya<|Ec f).2;have L:g.Perm (k::g.eraseIdx (ix g k)):=by have:=(Ig<|Qx m).symm;rw[I]at this;exact this
      have M:ls.Perm (k::ls.eraseIdx (ix ls k)):=by have:=(Ig<|Qx f).symm;rw[J]at this;exact this
      exact List.Perm.cons_inv<|L.symm.trans<|p.trans M
     .rw[Np G H m]at c;rw[Np w y f]at d;by_cases C:B=k
      .rw[if_pos C]at c;cases c
      .rw[if_neg C]at c d;exact n B o r c d
end Dc
theorem BY.edit(F:BY H H2 t)(v:t.sub Y=Z e)(M:e.val=.ref ζ)(q:ζ∈e.AZ)(N:n.val=.ref ζ)(w:n.At q1)(A:∀a o,a≠ζ->H2 a=Z o->q1 a=Z o)(B:n.AZ.Nodup)(j:∀c∈n.AZ,∀o u,q1 c≠Z (.Di o u))(g:∀c∈n.AZ,c∈e.AZ∨(c∉t.AZ/\H c=ν)):BY H q1 (t.Av Y n):=by
 have P:=Dc.BF.sub v;have O:=P.AZ ζ q;have Q:=Dc.Br t F.at_;obtain⟨l,r,I,C⟩:=Dc.Co (n:=n) Q F.nd v;have nd:=F.nd;rw[I]at nd;obtain⟨D,E,i⟩:=b7.mp nd;obtain⟨G,R,k⟩:=b7.mp D;have mt:∀c,c∈t.AZ↔(c∈l∨c∈e.AZ)∨c∈r:=λc=>by rw[I,am,am]
 refine⟨λa o h=>A a o (Am h<|F.new ζ O)<|F.same a o h,Dc.UT F.nd v (N.trans M.symm) w (λa U S o h=>A a o (λz=>S<|by rw[z];exact q) h) F.at_,?_,λc d=>?_,λc d=>?_⟩
 .rw[C];refine b7.mpr ⟨b7.mpr ⟨G,B,λx f y m z=>?_⟩,E,λx f y m z=>?_⟩
  .subst z;rcases g x m with h|h
   .exact k x f x h W
   .exact h.1<|(mt x).mpr<|.inl<|.inl f
  .subst z;rcases am.mp f with f|f
   .exact i x (b9 _ f) x m W
   .rcases g x f with h|h
    .exact i x (d9 _ h) x m W
    .exact h.1<|(mt x).mpr<|.inr m
 .rw[C,am,am]at d;have p:c∈t.AZ->c≠ζ->∀o u,q1 c≠Z (.Di o u):=λJ T=>DA (Dc.there F.at_ J) (F.own c J) (λo=>A c o T);rcases d with(d|d)|d
  .exact p ((mt c).mpr<|.inl<|.inl d) λz=>k c d c (by rw[z];exact q) W
  .exact j c d
  .exact p ((mt c).mpr<|.inr d) λz=>i c (d9 _<|by rw[z];exact q) c d W
 .rw[C,am,am]at d;rcases d with(d|d)|d
  .exact F.new c<|(mt c).mpr<|.inl<|.inl d
  .rcases g c d with h|h
   .exact F.new c<|P.AZ c h
   .exact h.2
  .exact F.new c<|(mt c).mpr<|.inr d
namespace Dc
theorem Sn(h:e.room z=true):(De e z v).AZ.Perm (e.AZ++v.AZ):=by
 rcases Fe h with⟨a,b,i,rfl,rfl,d⟩|⟨a,f,b,k,rfl,rfl,g⟩
 .simp only[De,AZ,AO,AH,i5];have c:AH b=AH (b.take<|(i:Int).toNat)++AH (b.drop<|(i:Int).toNat):=by rw[<-AO,pi]
  rw[c,j3];exact((S0).append_left _).cons _
 .simp only[De,AZ,AO,AH,i5,ge];exact .refl _
theorem Ki(h:xs[i]?=Z x):(x.AZ++AH (xs.eraseIdx i)).Perm (AH xs):=by
 have a:=HL h;have b:=(ya h).2;have:=Ke<|Ig a;rw[b]at this;simpa only[AH]using this
theorem So(c:e.Wf)(h:e.sub [z]=Z x):(x.AZ++(BZ e z).AZ).Perm e.AZ:=by
 rcases sub_one h with⟨a,d,i,rfl,rfl,b⟩|⟨a,j,d,k,rfl,rfl,b⟩
 .simp only[BZ,AZ,i6];exact(Ps).trans<|(Ki b).cons _
 .cases c with
  |tab f g l=>
   simp only[BZ,AZ];exact(Ps).trans<|(Ki<|Be f g b).cons _
theorem Nq(h:CY H xs):CY H (xs.eraseIdx i):=by
 have gen:∀l:List Dc,(∀x∈l,x.At H)->CY H l:=by
  intro l
  induction l with
  |nil=>intro _;trivial|cons x r a=>intro h;simp only[CY];exact⟨h x e9,a λy b=>h y (bi _ b)⟩
 exact gen _ λx c=>Cn h x<|wS c
theorem V_(l:ks.length=xs.length)(n:ks.Nodup)(d:k∈ks):GQ (kvs ks xs) (dL k)=kvs (ks.eraseIdx (ix ks k)) (xs.eraseIdx (ix ks k)):=by
 induction ks generalizing xs with
 |nil=>cases d|cons y r g=>
  cases xs with
  |nil=>simp at l|cons x t=>
   obtain⟨h,i⟩:=f9.mp n;have e:kvs (y::r) (x::t)=(dL y,x.val)::kvs r t:=rfl;rw[e];by_cases a:y=k
   .subst a;have b:ix (y::r) y=0:=by simp[ix,E5]
    rw[b,Vj W];simp only[Z5,abi];refine Qd λf=>?_;rw[EB<|GE l]at f;obtain⟨o,j,m⟩:=n9.mp f;exact h<|by rw[<-yr m];exact j
   .have c:k∈r:=(ce.mp d).resolve_left (λz=>a z.symm);have b:ix (y::r) k=ix r k+1:=by
     have:(y==k)=false:=GE a
     simp[ix,E5,this]
    rw[b,NX λz=>a<|yr z,g (GE l) i c];rfl
end Dc
variable{es:List r6}{fd:m9}{ps:List Str}{f:Addr}{sp:Sp}
variable{e:Ends}
theorem hide{a b:TS}(h:∀c,Go e (b e) c->a c σ H):QP a b e σ H:=h {e with nx:=b e} ⟨id,id⟩
theorem gen{b:List Stmt}{t:TS}(p:OZ X b t)(h:∀T,T=t->T e σ H):∃t,OZ X b t/\t e σ H:=⟨t,p,h _ W⟩
theorem jC{g:TG}{t:TS}{x:V}(h:∀X,X=t->g x σ H (X e)):g x σ H (t e):=h _ W
theorem EG(K:yd){e:r6}{a:TE}(T:Txt X.mg)(h:PE X e a)(c:Gl X "len":=by rfl)(b:m7 [e] X.env=(false,y9 e X.env)::m7 [] X.env:=by rfl)(d:X.K=K:=by rfl):PE X (.Call (.Name "len" p) [e] [] pos) (lg (EA K) (IK a SO)):=by
 subst d;exact Ct Gk c T.len U1 (AA h Bp b) ac ac b
section
variable {o e:r6} {to te:TE} {apos Eu:Pos}
theorem gj(K:yd)(f:PE X o to)(g:PE X e te)(c:((FM Eu (m7 [e] X.env)).all (λx=> !x.1)&&(aa1 Eu (UF [] X.env)).all (λx=>x.1.isSome)
   &&decide ([e].length+([]:List No).length+(if([]:List No).isEmpty then 0 else 1)<30))=true:=by rfl)(a:G7 o "extend" X.env (y9 o X.env)=y9 o X.env:=by rfl)(b:(apos.endLine==Eu.line)=true:=by rfl)(d:m7 [e] X.env=(false,y9 e X.env)::m7 [] X.env:=by rfl)(h:X.K=K:=by rfl):
  PE X (.Call (.Attribute o "extend" apos) [e] [] Eu) (oK K "list" UB to (IK te SO)):=by
 subst h;exact NT v6 PySem.F.slot_list_extend PySem.F.type_list_extend Vc f (AA g Bp d) a c b d W
theorem cj(K:yd)(f:PE X o to)(g:PE X e te)(c:((FM Eu (m7 [e] X.env)).all (λx=> !x.1)&&(aa1 Eu (UF [] X.env)).all (λx=>x.1.isSome)
   &&decide ([e].length+([]:List No).length+(if([]:List No).isEmpty then 0 else 1)<30))=true:=by rfl)(a:G7 o "append" X.env (y9 o X.env)=y9 o X.env:=by rfl)(b:(apos.endLine==Eu.line)=true:=by rfl)(d:m7 [e] X.env=(false,y9 e X.env)::m7 [] X.env:=by rfl)(h:X.K=K:=by rfl):
  PE X (.Call (.Attribute o "append" apos) [e] [] Eu) (oK K "list" UA to (IK te SO)):=by
 subst h;exact NT v6 PySem.F.slot_list_append PySem.F.type_list_append Jx f (AA g Bp d) a c b d W
end
namespace Dc
theorem Cp:∀{d n:Dc},d.Wf->d.sub g=Z n->n.Wf:=by
 induction g with
 |nil=>
  intro d n w h;rw[Ap]at h;cases h;exact w
 |cons z r f=>
  intro d n w h;rcases Bb h with⟨a,j,i,x,rfl,rfl,b,c⟩|⟨a,l,j,k,x,rfl,rfl,b,c⟩
  .cases w with
   |row w=>exact f (w x (yc b)) c
  .cases w with
   |tab _ _ w=>exact f (w x (AR b).2) c
theorem ND{r:List V}(h:d.sub [z]=ν):d.sub (z::r)=none:=by
 cases q:d.sub (z::r)with
 |none=>rfl|some e=>
  rcases Bb q with⟨a,c,i,x,rfl,rfl,b,_⟩|⟨a,f,c,k,x,rfl,rfl,b,_⟩
  .rw[Gq b,Ap]at h;cases h
  .rw[EF b,Ap]at h;cases h
theorem Ih:∀{d x:Dc},d.sub (j++[lv])=Z x->∃e,d.sub j=Z e/\e.sub [lv]=Z x:=by
 induction j with
 |nil=>intro d x h;exact⟨d,Ap d,h⟩|cons z r l=>
  intro d x h;rw[i5]at h;rcases Bb h with⟨a,m,i,y,rfl,rfl,b,c⟩|⟨a,n,m,k,y,rfl,rfl,b,c⟩
  .obtain⟨e,f,g⟩:=l c;exact⟨e,by rw[Gq b];exact f,g⟩
  .obtain⟨e,f,g⟩:=l c;exact⟨e,by rw[EF b];exact f,g⟩
theorem Nr:∀{d x:Dc},d.sub (j++m)=Z x->∃e,d.sub j=Z e/\e.sub m=Z x:=by
 induction j with
 |nil=>intro d x h;exact⟨d,Ap d,h⟩|cons z r l=>
  intro d x h;rw[i5]at h;rcases Bb h with⟨a,n,i,y,rfl,rfl,b,c⟩|⟨a,o,n,k,y,rfl,rfl,b,c⟩
  .obtain⟨e,f,g⟩:=l c;exact⟨e,by rw[Gq b];exact f,g⟩
  .obtain⟨e,f,g⟩:=l c;exact⟨e,by rw[EF b];exact f,g⟩
end Dc
theorem LR{J:It}{o:TT}{q:TE}{fs:List Nat}(n:Nat)(item:Nat->V)(P:Addr->Nat->Hp->Prop)(s:∀D,H D=ν->P D 0 (upd H D (.lst [])))(h:∀D i H2,i<n->P D i H2->J.go i H2)(t:∀D i H2 v H',i<n->P D i H2->J.cV i H2 v H'->v=item i/\H'=H2)(j:∀D H2,P D n H2->J.stop n H2)(u:∀D i H2,H D=ν->i<n->P D i H2->o (Z (item i)::Cu σ fs) H2 λok H4=>if ok=true then q (Z (item i)::Cu σ fs) H4 λy f=>∃ys,f D=Z (.lst ys)/\ys.length<sizeLine/\P D (i+1) (upd f D (.lst (ys++[y])))else P D (i+1) H4)(w:∀D H2,H D=ν->P D n H2->Q (.ref D) H2):Jy J o q fs σ H Q:=by
 intro D k;refine⟨λi m H2=>m=n-i/\i<=n/\P D i H2,⟨n,W,gU _,s D k⟩,?_⟩;rintro i m H2 ⟨rfl,z,p⟩;by_cases d:i<n
 .refine .inr ⟨h D i H2 d p,λv r y=>?_⟩;obtain⟨rfl,rfl⟩:=t D i H2 v r d p y;have l:=u D i r k d p;have e:(λ(y:V)(f:Hp)=>∃ys,f D=Z (.lst ys)/\ys.length<sizeLine/\∃g,g<n-i/\g=n-(i+1)/\i+1<=n/\P D (i+1) (upd f D<|.lst<|ys++[y]))=λy f=>∃ys,f D=Z (.lst ys)/\ys.length<sizeLine/\P D (i+1) (upd f D<|.lst<|ys++[y]):=by
   funext y f;refine propext ⟨λ⟨ys,a,b,g,_,_,_,c⟩=>⟨ys,a,b,c⟩,λ⟨ys,a,b,c⟩=>⟨ys,a,b,n-(i+1),y_,W,d,c⟩⟩
  have x:∀H4:Hp,(∃g,g<n-i/\g=n-(i+1)/\i+1<=n/\P D (i+1) H4)=P D (i+1) H4:=λH4=>propext ⟨λ⟨_,_,_,_,c⟩=>c,λc=>⟨n-(i+1),y_,W,d,c⟩⟩;dsimp only;simp only[e,x];exact l
 .have e:i=n:=by lia
  subst e;exact .inl ⟨j D H2 p,w D H2 k p⟩
section
inductive V'(K:yd)(x y:V)(H:Hp)(Q:VK):Prop|mk(a b:Addr)(xs ys:List V)(c:x=.ref a)(d:y=.ref b)(e:Ae K H a xs)(f:Ae K H b ys)(g:(∀z∈xs,Cj z=true))(h:(∀z∈ys,Cj z=true))(i:Q (.bl (!BV xs ys)) H)
def Qy(K:yd):V->V->Hp->VK->Prop:=λx y H Q=>V' K x y H Q
theorem Oz(l:X.A.units<cLine):EN X (ut .NotEq) (Qy X.K):=by
 intro pins s σ H x y v u Q I m n h;obtain⟨a,b,d,f,rfl,rfl,o,p,r,t,q⟩:=h;cases m;cases n;obtain⟨g,i,w,_⟩:=I.tuple o;obtain⟨c,k,z,_⟩:=I.tuple p;have B:g.toArray.size=d.length:=by rw[b6];exact i.length.symm
 have C:c.toArray.size=f.length:=by rw[b6];exact k.length.symm
 refine SeqAt.RcNeAt.tuples (e:=λj=>Kz (d.getD j .Al)<|f.getD j .Al) w z l (λj D E=>Vt (pins:=pins) (σ:=σ) (H:=H) i k r t j D E) _ _ _ _ ?_;rw[B,C];exact⟨.bl<|!BV d f,H,I,W,q⟩
end
theorem Qz(zs:List V):BV zs []=decide (zs=[]):=by
 unfold BV;cases zs with
 |nil=>rfl|cons z r=>simp
variable{E:bd->d6->Prop}{base:Heap}{oe:Obj}
variable{C:Addr}{P:m8}{w:q3}
variable{pins:List (Addr×Obj)}{s':d6}
variable{mg:Str->Option bd}{K:yd}
variable{pA pB:List bd}{Q_:List Stmt}{Dd:Addr}{e0:r6}{b0:Stmt}{hp yp tp cp:Pos}{y n:Str}{ta:TA}
end L2
namespace L2
open PySem PySem.Spec PyProof.Rows
variable{K:yd}
variable{X:Cx}{es:List r6}{fd:m9}{ps:List Str}
variable{pins:List (Addr×Obj)}{s:d6}{H:Hp}{σ:St}
variable{i:Nat}
def Dc.Kj(d:Dc)(xs:List V):Prop:=∀a b e,xs=a++[b]->d.sub a=Z e->e.room b=false
variable{lv:V}
theorem GY{c a:List V}{b:V}(h:c++[lv]=a++[b]):c=a/\lv=b:=by
 have:=wf h W;exact⟨this.1,GE this.2⟩
theorem BY.down{b H2:Hp}{d:Dc}(D:BY b H2 d)(s:AF H b):BY H H2 d:=⟨s.trans D.same,D.at_,D.nd,D.own,λa c=>s.free<|D.new a c⟩
theorem Dc.LS{H:Hp}{v:Dc}(a:v.At H):∀{xs:List Dc}{i:Nat},Dc.CY H xs->Dc.CY H (xs.set i v)
 |[],_,h=>h|x::r,0,h=>by simp only[M0,Dc.CY]at h⊢;exact⟨a,h.2⟩|x::r,i+1,h=>by simp only[Y9,Dc.CY]at h⊢;exact⟨h.1,Dc.LS a h.2⟩
theorem Dc.HY(d n:Dc):d.Av [] n=n:=by cases d<;>rfl
theorem Dc.WA{n:Dc}{c:List V}:∀{d e:Dc},d.Wf->d.sub c=Z e->d.Av (c++[lv]) n=d.Av c (e.Av [lv] n):=by
 induction c with
 |nil=>intro d e _ h;rw[Dc.Ap]at h;cases h;rw[Dc.HY];rfl|cons z r l=>
  intro d e m h;rw[i5];rcases Dc.Bb h with⟨a,o,i,y,rfl,rfl,b,f⟩|⟨a,s,o,k,y,rfl,rfl,b,f⟩
  .cases m with
   |row g=>rw[Dc.Cw b,Dc.Cw b,l (g y (yc b)) f]
  .cases m with
   |tab p q g=>
    have j:=Dc.Be p q b;rw[Dc.DJ j,Dc.DJ j,l (g y<|yc j) f]
theorem BY.change{H2 E H4:Hp}{m e x v:Dc}{F:List V}{b:Addr}(f:BY H H2 m)(w:m.sub F=Z e)(I:e.sub [lv]=Z x)(k:BY H2 E v)(J:e.val=.ref b)(L:b∈e.AZ)(M:(e.Av [lv] v).val=.ref b)(A:(e.Av [lv] v).At H4)(B:∀a o,a≠b->E a=Z o->H4 a=Z o)(N:∀o u,H4 b≠Z (.Di o u)):BY H H4 (m.Av F (e.Av [lv] v)):=by
 have C:=f.up k.same;have P:=Dc.BF.sub w;have O:=Dc.Br e<|P.at_ f.at_;have Q:=Dc.Br m f.at_;have g:e.AZ.Nodup:=by
  obtain⟨l,r,p,_⟩:=Dc.Co (n:=e) Q f.nd w;have:=f.nd;rw[p]at this;exact(b7.mp (b7.mp this).1).2.1
 have D:∀c∈v.AZ,c∉m.AZ/\H c=none:=λc d=>⟨λz=>Dc.there f.at_ z<|k.new c d,f.same.free<|k.new c d⟩;obtain⟨l,r,p,G⟩:=Dc.Co (n:=v) O g I;rw[p]at g;obtain⟨R,S,T⟩:=b7.mp g;obtain⟨U,X,Y⟩:=b7.mp R;have inl:∀c,c∈l->c∈e.AZ:=λc h=>by rw[p];exact b9 _<|b9 _ h
 have inr:∀c,c∈r->c∈e.AZ:=λc h=>by rw[p];exact d9 _ h
 have s:∀c∈(e.Av [lv] v).AZ,c∈e.AZ∨c∈v.AZ:=λc d=>by
  rw[G,am,am]at d;rcases d with(d|d)|d
  .exact .inl<|inl c d
  .exact .inr d
  .exact .inl<|inr c d
 refine C.edit w J L M A B ?_ (λc d=>?_) λc d=>(s c d).imp id<|D c
 .rw[G];refine b7.mpr ⟨b7.mpr ⟨U,k.nd,λy i z t q=>?_⟩,S,λy i z t q=>?_⟩
  .subst q;exact(D y t).1<|P.AZ y<|inl y i
  .subst q;rcases am.mp i with i|i
   .exact T y (b9 _ i) y t W
   .exact(D y i).1<|P.AZ y<|inr y t
 .by_cases j:c=b
  .rw[j];exact N
  .rcases s c d with h|h
   .exact DA (Dc.there C.at_<|P.AZ c h) (C.own c<|P.AZ c h) λo=>B c o j
   .exact DA (Dc.there k.at_ h) (k.own c h) λo=>B c o j
variable{its:List bd}
section
theorem Sq{j:Nat}{u:bd}(g:its[j]?=Z u)(h:j<its.toArray.size):its.toArray[j]=u:=by
 have:=(ya g).2;simpa using this
theorem JV{xs:List V}(r:Vals xs its){j:Nat}(h:j<its.toArray.size):∃x,xs[j]?=Z x/\RelV x its.toArray[j]:=by
 have e:its.toArray.size=xs.length:=by rw[b6];exact r.length.symm
 have a:j<xs.length:=by rw[<-e];exact h
 obtain⟨u,g,b⟩:=r.get<|yZ a;exact⟨_,yZ a,by rw[Sq g h];exact b⟩
end
noncomputable def JW:Key->zT
 | .inl i=>.int i| .inr x=>.str x
mutual
inductive HM(H:Hp):V->zT->Prop
 |Al:HM H .Al .none
 |bl (b:Bool):HM H (.bl b) (.bool b)
 |int (i:Int):HM H (.int i) (.int i)
 |str (x:Str):HM H (.str x) (.str x)
 |lst {a:Addr} {xs:List V} {ds:List zT} (h:Rd H a (.lst xs)) (r:CH H xs ds):HM H (.ref a) (.list ds)
 |tup {a:Addr} {xs:List V} {ds:List zT} (h:H a=Z (.tup xs)) (r:CH H xs ds):HM H (.ref a) (.tuple ds)
 |HP {a:Addr} {kvs:List (Key×V)} {ds:List zT} (h:Rd H a (.dK kvs)) (r:CH H (kvs.map (·.2)) ds):HM H (.ref a) (.dict ((kvs.map λp=>JW p.1).zip ds))|pC {v:V} {d:zT} (r:∀H',AF H H'->∀(P:m8)(w:q3)(h:Heap),Hq P w H' h->∀u,RelV v u->∃c,Reads h u d c/\∀b∈c,∃o,H' b=Z o):HM H v d
inductive CH(H:Hp):List V->List zT->Prop
 |nil:CH H [] []
 |cons {x:V} {d:zT} {xs:List V} {ds:List zT} (h:HM H x d) (t:CH H xs ds):CH H (x::xs) (d::ds)
end
theorem CH.length:∀{xs:List V}{ds:List zT},CH H xs ds->ds.length=xs.length
 |_,_,.nil=>rfl|_,_,.cons _ t=>by rw[g7,g7,t.length]
mutual
theorem HM.up(e:AF c H'):∀{v:V}{d:zT},HM c v d->HM H' v d
 |_,_,.Al=>.Al|_,_,.bl b=>.bl b|_,_,.int i=>.int i|_,_,.str x=>.str x|_,_,.lst h r=>.lst (h.up (e _)) (r.up e)|_,_,.tup h r=>.tup (e _ _ h) (r.up e)|_,_,.HP h r=>.HP (h.up (e _)) (r.up e)|_,_,.pC r=>.pC λa s=>r a (e.trans s)
theorem CH.up(e:AF a H'):∀{xs:List V}{ds:List zT},CH a xs ds->CH H' xs ds
 |_,_,.nil=>.nil|_,_,.cons h t=>.cons (h.up e) (t.up e)
end
theorem Rd.some(h:Rd H a u):∃o,H a=Z o:=by
 rcases h with h|⟨o,h⟩
 .exact⟨_,h⟩
 .exact⟨_,h⟩
theorem O_{a:Type}{kvs:List (a×V)}{b:List (a×bd)}(r:KV kvs b):Vals (kvs.map (·.2)) (b.map (·.2)):=by
 unfold KV at r
 induction r with
 |nil=>exact .nil|cons h _ c=>exact .cons h.2 c
theorem MU:∀{a:List K8}{b:List (Key×bd)},Pairs (A_ P w) a b->a.map (·.val)=b.map (·.2)
 |_,_,.nil=>rfl|_,_,.cons _ c t=>by rw[i2,i2,c,MU t]
theorem Nt:∀{c:List K8}{d:List (Key×bd)},Pairs (A_ P w) c d->ReadsAll h (c.map (·.key)) (d.map λp=>JW p.1) []
 |_,_,.nil=>.nil|_,_,.cons (e:=e) (kv:=kv) f g t=>by
  have:Reads h e.key (JW kv.1) []:=by
   rcases Bf (show KW kv.1 e.key=true from f)with⟨i,t,a,b⟩|⟨x,t,a,b⟩
   .rw[a,b];exact .int i t
   .rw[a,b];exact .str x t
  exact ReadsAll.cons this<|Nt t
mutual
theorem HM.reads{P:m8}{w:q3}{H:Hp}{h:Heap}(ok:Hq P w H h):∀{v:V}{d:zT},HM H v d->∀{u:bd},RelV v u->∃g,Reads h u d g/\∀b∈g,∃o,H b=Z o
 |_,_,.Al,u,r=>by
  cases(show u=u0 from r);exact⟨[],.none,λb c=>nomatch c⟩
 |_,_,.bl b,u,r=>by
  cases(show u=x9 b from r);exact⟨[],.bool b,λb c=>nomatch c⟩
 |_,_,.int i,u,r=>by
  obtain⟨t,rfl⟩:∃t,u=zh i t:=r;exact⟨[],.int i t,λb c=>nomatch c⟩
 |_,_,.str x,u,r=>by
  obtain⟨t,rfl⟩:∃t,u=zu x t:=r;exact⟨[],.str x t,λb c=>nomatch c⟩
 |_,_,.lst (a:=a) (xs:=xs) (ds:=ds) e t,u,r=>by
  cases(show u=i3 a from r);obtain⟨z,l,n,j,k⟩:=(show BR P w H h a (.lst xs)from UC ok e);obtain⟨g,m,q⟩:=CH.reads ok t j;refine⟨a::g,.list k W W<|GE m,λb c=>?_⟩;rcases ce.mp c with rfl|c
  .exact e.some
  .exact q b c
 |_,_,.tup (a:=a) (xs:=xs) (ds:=ds) e t,u,r=>by
  cases(show u=i3 a from r);obtain⟨z,l,j,A⟩:=(show BR P w H h a (.tup xs)from ok a _ e);obtain⟨g,m,q⟩:=CH.reads ok t j;obtain⟨o,k,B,n,s⟩:=A;exact⟨g,.tuple k B s<|GE m,q⟩
 |_,_,.HP (a:=a) (kvs:=kvs) (ds:=ds) e t,u,r=>by
  cases(show u=i3 a from r);obtain⟨z,G,C,j,o,I,J,k,D,s,_,y,_⟩:=(show BR P w H h a (.dK kvs)from UC ok e);obtain⟨bs,E,c⟩:=CH.reads ok t<|O_ j;have lz:(kvs.map λp=>JW p.1).length=ds.length:=by rw[be,t.length,be]
  have k1:((kvs.map λp=>JW p.1).zip ds).map (·.1)=C.map λp=>JW p.1:=by
   rw[P0<|bm lz];have:=congrArg (O4 JW)<|KV.keys j;rw[zE,zE]at this;exact this
  have k2:((kvs.map λp=>JW p.1).zip ds).map (·.2)=ds:=PP<|bm lz.symm;refine⟨a::[]++bs,.dict k D.1 s (by rw[k1];exact Nt y)<|by rw[k2,MU y];exact E,λb f=>?_⟩;rcases ce.mp f with rfl|f
  .exact e.some
  .exact c b f
 |_,_,.pC F,u,r=>F H (AF.refl H) P w h ok u r
theorem CH.reads(ok:Hq P w l h):∀{xs:List V}{ds:List zT},CH l xs ds->∀{a:List bd},Vals xs a->∃c,ReadsAll h a ds c/\∀b∈c,∃o,l b=Z o
 |_,_,.nil,a,r=>by
  cases r;exact⟨[],.nil,λb d=>nomatch d⟩
 |_,_,.cons q t,a,r=>by
  cases r with
  |cons e f=>
   obtain⟨c,g,i⟩:=q.reads ok e;obtain⟨bs,j,d⟩:=CH.reads ok t f;exact⟨c++bs,.cons g j,λb h=>(am.mp h).elim (i b)<|d b⟩
end
inductive eg(xs:List V)(H:Hp)(Q:VK):Prop|mk(a:Addr)(d:zT)(e:xs=[.ref a])(h:HM H (.ref a) d)(s:d.showable=true)(z:d.shown.length<=sizeLine)(b:d.depth<=150)(q:Q (.str d.shown) H)
def jD:List V->Hp->VK->Prop:=λa H Q=>eg a H Q
theorem Nu(b:CD k X.A)(c:∃o,X.K.lookup q5=Z o):Dx X (.builtin "repr") jD:=by
 intro pins s x H y B Q I r h;obtain⟨a,d,rfl,f,g,z,i,q⟩:=h;obtain⟨u,rfl,j⟩:=vals1 r;cases(show u=i3 a from j);obtain⟨l,n,p⟩:=f.reads I.Bi (show RelV (.ref a) (i3 a)from W);have no:q5∉l:=λm=>by
  obtain⟨o,t⟩:=p _ m;obtain⟨C,lk⟩:=c;have:=(I.bs _ _<|I.ok.mod.lT _ _ lk).2;rw[t]at this;cases this
 have un:=b.un;exact repr_of_reads' (h₀:=s.heap) n g (λ_=>no) b.gd (g8 (tt (gT _ _)<|al (io i _) ac) un) (λ_ _ e=>e) (λD u v w=>⟨.str d.shown,H,I.kept (t':=v) w,⟨_,W⟩,q⟩) z
theorem Ed:QX (x::r) 0=Z x:=Ba (j:=0) W
theorem C':QX (x::y::r) 1=Z y:=Ba (j:=1) W
theorem at2:QX (x::y::z::r) 2=Z z:=Ba (j:=2) W
variable{c:Bool}
theorem Fu{b:Bool}{A B:Prop}(a:b=true->A)(d:b=false->B):if(if false=true then c else b)=true then A else B:=by
 rw[if_neg d5];cases b with
 |true=>exact An (a W)|false=>exact Ah (d W)
theorem jE{b:Bool}{A B:Prop}(a:c=true->A)(d:c=false->B):if(if true=true then c else b)=true then A else B:=by
 rw[if_pos W];cases c with
 |true=>exact An (a W)|false=>exact Ah (d W)
theorem Nv{A B:Prop}(a:c=true->A)(b:c=false->B):if c=true then A else B:=by
 cases c with
 |true=>exact An (a W)|false=>exact Ah (b W)
theorem WB{X:Cx}{ss rest:List Stmt}{st:Stmt}{t u:TS}(e:ss=st::rest)(a:PS X st t)(b:OZ X rest u):OZ X ss (QP t u):=by
 subst e;exact AB a b
theorem YH:q7 "repr"=Z (.builtin "repr"):=by decide+kernel
theorem DY(R:St->Hp->Prop)(k:∀a H',R a H'->u D a H')(h:(∀a H',R a H'->u D a H')->t {D with nx:=u D} b H):QP t u D b H:=h k
noncomputable def Nw:V->Bool
 | .str _=>false|_=>true
def MV(ys xs:List V):V:=if BV (ys.take xs.length) xs&&decide (xs.length<ys.length)&&Nw (ys.getD xs.length .Al)then ys.getD xs.length .Al else .Al
def B_(zs xs:List V):List V:=
 match zs[xs.length-1]?,xs.getLast? with
 |some (.int i),Z (.int j)=>if BV (zs.take (xs.length-1)) xs.dropLast=true/\(j<i∨(i=j/\xs.length<zs.length))then zs.set (xs.length-1) (.int (i+1))else zs|_,_=>zs
def CW(w:Str)(xs zs:List V):List V:=if w="copy"then zs else if w="move"then B_ zs xs else xs
def Aa(xs:List V):Prop:=∀z∈xs,Dc.Bq z
theorem step_eq(a:Dc.Bq x)(b:Dc.Bq y)(h:Kz x y=true):x=y:=by
 rcases a with⟨i,rfl⟩|⟨k,rfl,_⟩<;>rcases b with⟨j,rfl⟩|⟨l,rfl,_⟩<;>simp_all [Kz]
theorem GZ(c:Aa xs)(d:Aa ys)(h:BV xs ys=true):xs=ys:=by
 unfold BV at h;simp only[g9,beq_iff_eq]at h;obtain⟨e,f⟩:=h;refine List.ext_getElem f λi a b=>?_;have:=(t9.mp e) i (ye.mpr y_);rw[cr,cr,yZ a,yZ b]at this;exact step_eq (c _<|re a) (d _<|re b) this
theorem UU(h:Dc.Bq v)(p:Nw v=true):∃i:Nat,v=.int (i:Int):=by
 rcases h with h|⟨k,rfl,_⟩
 .exact h
 .cases p
theorem Nx(sz:Aa zs)(h:(BV (zs.take a.length) a&&decide (a.length<zs.length)&&Nw (zs.getD a.length .Al))=true):
  ∃i:Nat,zs[a.length]?=Z (.int (i:Int))/\MV zs a=.int (i:Int)/\BV (zs.take a.length) a=true/\a.length<zs.length:=by
 have c:=h;simp only[g9,decide_eq_true_eq]at c;obtain⟨⟨j,b⟩,d⟩:=c;have g:zs[a.length]?=Z zs[a.length]:=yZ b;have e:zs.getD a.length .Al=zs[a.length]:=by rw[cr,g];rfl
 rw[e]at d;obtain⟨i,f⟩:=UU (sz _<|re b) d;refine⟨i,by rw[g,f],?_,j,b⟩;unfold MV;rw[h,if_pos W,e,f]
theorem Ny(h:(BV (zs.take a.length) a&&decide (a.length<zs.length)&&Nw (zs.getD a.length .Al))=false):MV zs a=.Al:=by
 unfold MV;rw[h,if_neg d5]
theorem JX(zs a:List V)(lv:V):B_ zs (a++[lv])=match zs[a.length]?,lv with
  |some (.int i),.int j=>if BV (zs.take a.length) a=true/\(j<i∨(i=j/\a.length+1<zs.length))then zs.set a.length (.int (i+1))else zs|_,_=>zs:=by
 unfold B_;have b:(a++[lv]).length-1=a.length:=by simp
 have c:(a++[lv]).getLast?=Z lv:=by simp
 have d:(a++[lv]).dropLast=a:=by simp
 have e:(a++[lv]).length=a.length+1:=by simp
 rw[b,c,d,e];cases zs[a.length]? with
 |none=>rfl|some z=>cases z<;>cases lv<;>rfl
theorem Ii(h:(BV (zs.take a.length) a&&decide (a.length<zs.length)&&Nw (zs.getD a.length .Al))=false):B_ zs (a++[lv])=zs:=by
 rw[JX];by_cases b:a.length<zs.length
 .have g:zs[a.length]?=Z zs[a.length]:=yZ b;have d:zs.getD a.length .Al=zs[a.length]:=by rw[cr,g];rfl
  rw[d,decide_eq_true b,abC]at h;rw[g];cases e:zs[a.length]with
  |int i=>
   rw[e]at h;have f:BV (zs.take a.length) a=false:=by simpa[Nw]using h
   cases lv with
   |int j=>exact if_neg λc=>by rw[f]at c;exact d5 c.1|_=>rfl
  |_=>rfl
 .rw[rS.mpr y_]
theorem Nz:B_ zs (a++[.str k])=zs:=by
 rw[JX];cases zs[a.length]? with
 |none=>rfl|some z=>cases z<;>rfl
theorem WC(b:Dc.Bq lv)(h:(decide (a.length<zs.length)&&BV (zs.take a.length) a&&Nw lv)=false):B_ zs (a++[lv])=zs:=by
 rcases b with⟨j,rfl⟩|⟨k,rfl,_⟩
 .refine Ii ?_;have e:(decide (a.length<zs.length)&&BV (zs.take a.length) a)=false:=by simpa[Nw]using h
  rw[Bool.and_comm<|BV _ _,e,zZ]
 .exact Nz
theorem N_(g:zs[a.length]?=Z (.int d))(b:BV (zs.take a.length) a=true):B_ zs (a++[.int j])=if j<d∨(d=j/\a.length+1<zs.length)then zs.set a.length (.int (d+1))else zs:=by
 rw[JX,g];by_cases c:j<d∨(d=j/\a.length+1<zs.length)
 .rw[if_pos c];exact if_pos ⟨b,c⟩
 .rw[if_neg c];exact if_neg λz=>c z.2
theorem DQ{zs a:List V}{v:V}(h:zs.take a.length=a)(b:a.length<zs.length):a++[v]++zs.drop (a.length+1)=zs.set a.length v:=by
 rw[D6,if_pos b,h,j3];rfl
theorem Cq(zs xs:List V):(B_ zs xs).length=zs.length:=by
 unfold B_;split
 .split<;>simp
 .rfl
set_option tactic.hygienic true in
theorem Kk(h:Aa zs):Aa (B_ zs xs):=by
 unfold B_;split
 .rename_i i j b c
  split
  .intro z a;rcases wp a with a|rfl
   .exact h z a
   .have:=h _<|yc b;rcases this with⟨k,e⟩|⟨k,e,_⟩
    .cases e;exact .inl ⟨k+1,z_⟩
    .cases e
  .exact h
 .exact h
def Fw:Sp:=λa H Q _=>∃z,a=[z]/\Dc.Bq z/\Q (.bl<|Nw z) H
def Sr:Sp:=λd H Q _=>∃(p h:Addr)(a b:List V),d=[.ref p,.ref h]/\H p=Z (.tup a)/\H h=Z (.tup b)/\Aa a/\Aa b/\∀c,AF H c->Q (MV a b) c
def Ss:Sp:=λd H Q _=>∃(p h:Addr)(b a:List V)(i:Int),d=[.ref p,.ref h,.int i]/\H p=Z (.tup b)/\H h=Z (.tup a)/\b.length<=400/\a.length<=400/\∀q c,AF H c->c q=Z (.tup<|a++[.int i]++b.drop (a.length+1))->Q (.ref q) c
def RA:Sp:=λd H Q _=>∃(t p:Addr)(b a:List V),d=[.ref t,.ref p]/\H t=Z (.tup b)/\H p=Z (.tup a)/\a≠[]/\Aa b/\Aa a/\b.length<=400/\a.length<=400/\∀q c,AF H c->c q=Z (.tup<|B_ b a)->Q (.ref q) c
def DB:List Str:=["put","take","move","copy","change","ask","has","lacks","is"]
structure Rw(H:Hp)(r:V)(w:Str)(xs zs:List V)(p:Addr):Prop where
 ex:∃(a:Addr)(rest:List V),r=.ref a/\H a=Z (.tup (.str w::.ref p::rest))/\(w="copy"∨w="move"->∃p2,rest=[.ref p2]/\H p2=Z (.tup zs))
 hp:H p=Z (.tup xs)
 sx:Aa xs
 sz:Aa zs
 lx:xs.length<=100
 lz:zs.length<=100
 wd:w∈DB
 nx:w="put"∨w="lacks"∨w="take"∨w="move"->xs≠[]
 nz:w="copy"∨w="move"->zs≠[]
theorem Rw.up(h:Rw H r w xs zs p)(s:AF H H'):Rw H' r w xs zs p:=by
 obtain⟨⟨a,rest,e,b,c⟩,d,f,sz,g,lz,i,nx,nz⟩:=h;exact⟨⟨a,rest,e,s _ _ b,λhw=>by obtain⟨j,k,l⟩:=c hw;exact⟨j,k,s _ _ l⟩⟩,s _ _ d,f,sz,g,lz,i,nx,nz⟩
def Kl(ws:List V):Sp:=λb H Q _=>∃(r:V)(w:Str)(c d:List V)(p:Addr),b=[r]/\Rw H r w c d p/\∀a,AF H a->Q (if DX (.str w) ws then .ref p else .Al) a
def JY:Sp:=λa H Q _=>∃(r:V)(w:Str)(b c:List V)(p:Addr),a=[r]/\Rw H r w b c p/\Q (if decide (V.str w=.str "move")then .ref p else .Al) H
def FE(H:Hp)(v:V)(ys:List V):Prop:=∃(t h:Addr)(l:V),v=.ref t/\H t=Z (.tup [.ref h,l])/\H h=Z (.tup ys.dropLast)/\ys.getLast?=Z l
def Hy:List Str:=["put","copy","move"]
def O':List Str:=["take","change","move","copy","ask","has","is"]
abbrev B':List V:=Hy.map V.str
abbrev MW:List V:=O'.map V.str
theorem Ce(w:Str):∀ws:List Str,DX (.str w) (ws.map V.str)=decide (w∈ws)
 |[]=>by simp[DX]|x::ws=>by
  have a:=Ce w ws;simp only[DX,i2,B7]at a⊢;rw[a];by_cases e:w=x
  .subst e;simp[Kz]
  .have b:¬x=w:=λz=>e z.symm;simp[Kz,e,b]
theorem rh(h:DX (.str w) B'=true):w="put"∨w="copy"∨w="move":=by
 rw[Ce]at h;have:=of_decide_eq_true h;simpa[Hy]using this
noncomputable def UW:List bd->List Str->Bool
 |[],[]=>true| .str x _::a,y::ys=>x==y&&UW a ys|_,_=>false
def Su(K:yd)(a:Addr)(ws:List Str):Bool:=match K.lookup a with
 |some o=>o.cls==.type "tuple"&&(match o.data with
  | .seq b _=>decide (b.size<=1000)&&UW b.toList ws|_=>false)
 |none=>false
theorem OA:∀{a:List bd}{ws:List Str},UW a ws=true->Vals (ws.map V.str) a
 |[],[],_=>.nil|[],_::_,h=>by cases h|u::a,[],h=>by cases u<;>cases h|u::a,y::ys,h=>by
  cases u with
  |str x t=>
   have g:(x==y&&UW a ys)=true:=h;simp only[g9,beq_iff_eq]at g;obtain⟨e,g⟩:=g;subst e;exact .cons ⟨t,W⟩ (OA g)
  |_=>cases h
set_option tactic.hygienic true in
theorem Ae.pD{a:Addr}{ws:List Str}(h:Su K a ws=true)(H:Hp):Ae K H a (ws.map V.str):=by
 unfold Su at h;split at h
 .rename_i o lk
  simp only[g9,beq_iff_eq]at h;obtain⟨c,h⟩:=h;split at h
  .rename_i b n d
   simp only[g9,decide_eq_true_eq]at h;exact .inr ⟨o,b,n,lk,c,d,Ao h.1,OA h.2⟩
  .cases h
 .cases h
def JZ(H:Hp)(v:V)(w:Str)(xs zs:List V):Prop:=if DX (.str w) B' then FE H v (CW w xs zs)else v=.Al
def Ep:Sp:=λd H Q _=>∃(r:V)(w:Str)(b c:List V)(p:Addr),d=[r]/\Rw H r w b c p/\∀v a,AF H a->JZ a v w b c->Q v a
inductive CA(H:Hp):List Addr->List (List V)->Prop
 |nil:CA H [] []
 |cons {a:Addr} {xs:List V} {c:List Addr} {b:List (List V)} (h:H a=Z (.tup xs)) (t:CA H c b):CA H (a::c) (xs::b)
def nA(w:Str)(xs:List V):List (List V):=if DX (.str w) MW then[xs]else[]
def nB(w:Str)(xs:List V):List (List V):=if w="lacks"then[xs.dropLast]else[]
def nC(w:Str)(xs zs:List V):List (List V):=if DX (.str w) B' then[(CW w xs zs).dropLast]else[]
def Bs(w:Str)(xs zs:List V):List (List V):=(nA w xs++nB w xs)++nC w xs zs
theorem WD(h:w∈DB):(!DX (.str w) [.str "put",.str "lacks"])=DX (.str w) MW:=by
 have e:DX (.str w) [.str "put",.str "lacks"]=decide (w∈(["put","lacks"]:List Str)):=Ce w ["put","lacks"];rw[e,Ce];simp only[DB,ce,t7,or_false]at h;rcases h with rfl|rfl|rfl|rfl|rfl|rfl|rfl|rfl|rfl<;>decide
theorem CA.length(h:CA H b a):b.length=a.length:=by
 induction h with
 |nil=>rfl|cons _ _ c=>rw[g7,g7,c]
theorem CA.up(h:CA H e a)(s:∀b ys,H b=Z (.tup ys)->H' b=Z (.tup ys)):CA H' e a:=by
 induction h with
 |nil=>exact .nil|cons h _ d=>exact .cons (s _ _ h) d
theorem CA.push(h:CA H b a)(c:H p=Z (.tup ys)):CA H (b++[p]) (a++[ys]):=by
 induction h with
 |nil=>exact .cons c .nil|cons h _ d=>exact .cons h d
structure Nd(H H':Hp)(l:Addr)(ps:List Addr)(vF:List (List V)):Prop where
 same:AF H H'
 nl:H l=ν
 hl:H' l=Z (.lst (ps.map V.ref))
 tu:CA H' ps vF
theorem Nd.up(h:Nd H g l d a)(s:AF g H2):Nd H H2 l d a:=⟨h.same.trans s,h.nl,s _ _ h.hl,h.tu.up λb f e=>s _ _ e⟩
theorem Nd.push(h:Nd H a l j d)(g:a p=Z (.tup ys)):Nd H (upd a l (.lst (j.map V.ref++[.ref p]))) l (j++[p]) (d++[ys]):=by
 have k:∀b f,a b=Z (.tup f)->upd a l (.lst<|j.map V.ref++[.ref p]) b=Z (.tup f):=λb f e=>by
  rw[AM<|GI e h.hl<|by intro z;cases z];exact e
 exact⟨h.same.put h.nl,h.nl,by rw[AD,ca];rfl,(h.tu.up k).push<|k _ _ g⟩
def PB:Sp:=λe H Q _=>∃(r:V)(w:Str)(b c:List V)(p:Addr),e=[r]/\Rw H r w b c p/\∀(l:Addr)(d:List Addr)(a:Hp),AF H a->H l=ν->a l=Z (.lst<|d.map V.ref)->CA a d (Bs w b c)->Q (.ref l) a
def WE(H:Hp)(v:V)(w:Str)(xs zs:List V):Prop:=if w="lacks"then FE H v xs else if DX (.str w) B'=true/\Nw ((CW w xs zs).getLastD .Al)=false then FE H v (CW w xs zs)else v=.Al
def Sv:Sp:=λd H Q _=>∃(r:V)(w:Str)(b c:List V)(p:Addr),d=[r]/\Rw H r w b c p/\∀v a,AF H a->WE a v w b c->Q v a
theorem Bx(b:Aa xs)(a:Aa zs):Aa (CW w xs zs):=by
 unfold CW;split
 .exact a
 .split
  .exact Kk a
  .exact b
theorem Km(b:Aa xs)(c:Aa zs):∀ys∈Bs w xs zs,Aa ys:=by
 intro ys a;unfold Bs nA nB nC at a;have d:∀l:List V,Aa l->Aa l.dropLast:=λl h z c=>h z<|n8 _ c;rcases am.mp a with a|a
 .rcases am.mp a with a|a
  .split at a
   .rw[ci.mp a];exact b
   .cases a
  .split at a
   .rw[ci.mp a];exact d _ b
   .cases a
 .split at a
  .rw[ci.mp a];exact d _<|Bx b c
  .cases a
theorem OB:(Bs w xs zs).length<=3:=by
 unfold Bs nA nB nC;rw[d7,d7];split<;>split<;>split<;>simp
theorem FE.up(h:FE H v ys)(s:AF H H'):FE H' v ys:=by
 obtain⟨t,a,l,e,b,c,d⟩:=h;exact⟨t,a,l,e,s _ _ b,s _ _ c,d⟩
theorem Dc.Ja:∀{d e n:Dc},d.Wf->d.sub o=Z e->d.ok->n.ok->(d.Av o n).ok:=by
 induction o with
 |nil=>
  intro d e n _ h _ f;have:Dc.Av d [] n=n:=by cases d<;>rfl
  rw[this];exact f
 |cons z r p=>
  intro d e n s h b f;rcases Dc.Bb h with⟨a,u,i,x,rfl,rfl,g,j⟩|⟨a,A,u,k,x,rfl,rfl,g,j⟩
  .cases s with
   |row l=>
    simp only[Dc.ok]at b;have c:=yc g;have m:=p (l x c) j (Dc.BX.mp b x c) f;rw[Dc.Cw g];simp only[Dc.ok];refine Dc.BX.mpr λy q=>?_;rcases wp q with q|q
    .exact Dc.BX.mp b y q
    .rw[q];exact m
  .cases s with
   |tab v w l=>
    have t:=Dc.Be v w g;simp only[Dc.ok]at b;have c:=yc t;have m:=p (l x c) j (Dc.BX.mp b.2 x c) f;rw[Dc.DJ t];simp only[Dc.ok];refine⟨b.1,Dc.BX.mpr λy q=>?_⟩;rcases wp q with q|q
    .exact Dc.BX.mp b.2 y q
    .rw[q];exact m
theorem Dc.ay(h:e.ok):(Dc.BZ e z).ok:=by
 cases e with
 |leaf v=>cases z<;>exact h|row a b=>
  cases z with
  |int i=>
   simp only[Dc.BZ,Dc.ok]at h⊢;exact Dc.BX.mpr λy q=>Dc.BX.mp h y (wS q)
  |_=>exact h
 |tab a c b=>
  cases z with
  |str k=>
   simp only[Dc.BZ,Dc.ok]at h⊢;exact⟨λy q=>h.1 y<|wS q,Dc.BX.mpr λy q=>Dc.BX.mp h.2 y<|wS q⟩
  |_=>exact h
theorem Dc.H_{d:Dc}(h:d.At H):decide (d.val=.Al)=false:=by
 cases d with
 |leaf v=>
  rcases(show Dc.Lf v from h)with⟨i,rfl⟩|⟨x,rfl,_⟩<;>rfl
 |row a b=>rfl|tab a c b=>rfl
def UX:Sp:=λe H Q _=>∃c d:Int,e=[.int c,.int d]/\∀(p:Dc)(b:Hp),AF H b->p.At b->p.MI->(∀a∈p.AZ,∀o u,b a≠Z (.Di o u))->(∀a∈p.AZ,H a=ν)->Q p.val b
def YI(K:yd):Sp:=λf H Q _=>∃(a n:Addr)(c:List Int)(k m:Nat)(b:List Str),f=[.ref a,.int (k:Int),.int (m:Int),.ref n]/\Ax K H a (c.map V.int)/\c.length<=63/\k<=1000/\1<=m/\m<=24/\H n=Z (.lst<|b.map V.str)/\b.length<=100/\0<b.length/\(∀y∈b,CL y=true)/\
 ∀(d:Dc)(e:Hp),Made H e d->d.size<=m->d.named b->Q d.val e
def low(xs:List V):Prop:=∀z∈xs,∀i:Int,z=.int i->i.natAbs<1000
def HZ(K:yd):Sp:=λb H Q _=>∃(l:Addr)(a:List V)(c:Int)(j:Nat),b=[.ref l,.int c,.int (j:Int)]/\Ax K H l a/\0<a.length/\j<=1000/\∀v∈a,Q v H
def Dg(H:Hp)(v:V)(b n:Nat):Prop:=∃D:zT,HM H v D/\D.showable=true/\D.leavesShort 2000=true/\D.bulk<=b/\D.depth<=n
def Ff(H:Hp)(xs:List V)(b n:Nat):Prop:=∃a:List zT,CH H xs a/\L9 a=true/\FB 2000 a=true/\U4 a<=b/\Q8 a<=n
theorem Ff.nil:Ff H [] 0 n:=⟨[],.nil,W,W,b5 _,gU _⟩
theorem Ff.cons{H:Hp}{v:V}{xs:List V}{b a n:Nat}(h:Dg H v b n)(t:Ff H xs a n):Ff H (v::xs) (b+1+a) n:=by
 obtain⟨D,c,d,e,f,g⟩:=h;obtain⟨i,j,k,l,m,o⟩:=t;exact⟨D::i,.cons c j,by simp[L9,d,k],by simp[FB,e,l],by simp only[U4];exact tt (io f _) m,by simp only[Q8];exact L1.mpr ⟨g,o⟩⟩
theorem Dg.mono(h:Dg H v b n)(a:b<=l)(d:n<=e):Dg H v l e:=by
 obtain⟨D,f,g,i,j,k⟩:=h;exact⟨D,f,g,i,al j a,al k d⟩
theorem Ff.mono(h:Ff H xs b n)(a:b<=l)(d:n<=e):Ff H xs l e:=by
 obtain⟨D,f,g,i,j,k⟩:=h;exact⟨D,f,g,i,al j a,al k d⟩
theorem Dg.tup{H:Hp}{a:Addr}{xs:List V}{b n:Nat}(h:H a=Z (.tup xs))(t:Ff H xs b n):Dg H (.ref a) b (n+1):=by
 obtain⟨c,d,e,f,g,i⟩:=t;exact⟨.tuple c,.tup h d,by simpa[zJ]using e,by simpa[yo]using f,by simpa[N3]using g,by simp only[K4];exact io i _⟩
theorem Dg.lst{H:Hp}{a:Addr}{xs:List V}{b n:Nat}(h:Rd H a (.lst xs))(t:Ff H xs b n):Dg H (.ref a) b (n+1):=by
 obtain⟨c,d,e,f,g,i⟩:=t;exact⟨.list c,.lst h d,by simpa[zJ]using e,by simpa[yo]using f,by simpa[N3]using g,by simp only[K4];exact io i _⟩
theorem Dg.int(h:b.natAbs<2 ^ 400):Dg H (.int b) 0 n:=by
 have a:b.natAbs.log2<400:=by
  by_cases z:b.natAbs=0
  .rw[z];decide
  .exact(Nat.log2_lt z).mpr h
 refine⟨.int b,.int b,by simp only[zJ,decide_eq_true_eq];exact bn a ac,?_,b5 _,gU _⟩;simp only[yo,decide_eq_true_eq,PyData.shown];exact decide_eq_true<|al (int_text_len_1921 (i:=b)<|bn a ac)<|show 1921<=2000 by decide
theorem OC(h:Qi a=true):a<16 ^ 8:=by
 have:=of_decide_eq_true h;have all:∀a∈Zv,a<16 ^ 8:=by decide+kernel
 exact all a this
theorem Dg.str(h:(sgn x).all Qi=true)(l:x.length<=b):Dg H (.str x) b n:=by
 refine⟨.str x,.str x,W,?_,l,gU _⟩;simp only[yo,t9,decide_eq_true_eq];exact λc a=>OC<|t9.mp h c a
theorem OD(h:CL x=true):(sgn x).all Qi=true:=by
 unfold CL Ka at h;simp only[g9]at h;exact h.2
theorem ck:∀{ks:List Str}{xs:List Dc},ks.length=xs.length->(∀k∈ks,CL k=true)->(∀x∈xs,∃b,b+10<=22*x.size/\Dg H x.val b x.size)->
  ∃a:List zT,CH H ((Dc.kvs ks xs).map (·.2)) a/\aao (((Dc.kvs ks xs).map λp=>JW p.1).zip a)=true/\V2 2000 (((Dc.kvs ks xs).map λp=>JW p.1).zip a)=true/\abw (((Dc.kvs ks xs).map λp=>JW p.1).zip a)<=22*Dc.Ab xs/\abg (((Dc.kvs ks xs).map λp=>JW p.1).zip a)<=Dc.Ab xs
 |[],[],_,_,_=>⟨[],.nil,W,W,gU _,gU _⟩|k::ks,x::xs,l,f,g=>by
  obtain⟨b,v,D,i,j,m,w,n⟩:=g x e9;obtain⟨a,o,q,r,z,s⟩:=ck (ks:=ks) (xs:=xs) (GE l) (λy d=>f y<|bi _ d) λy d=>g y<|bi _ d;have e:Dc.kvs (k::ks) (x::xs)=(dL k,x.val)::Dc.kvs ks xs:=rfl;have h:=f k e9;have lk:k.cps.size<=8:=(Ni h).2;have t:k.cps.toList.all (λc=>decide<|c<16 ^ 8)=true:=by
   simp only[t9,decide_eq_true_eq];exact λc u=>OC<|t9.mp (OD h) c u
  rw[e];have kd:JW (dL k)=.str k:=rfl;refine⟨D::a,.cons i o,?_,?_,?_,?_⟩
  .simp only[i2,m6,kd,aao,zJ,j,q,O1]
  .simp only[i2,m6,kd,V2,yo,m,r,t,O1]
  .simp only[i2,m6,kd,abw,N3,Dc.Ab];lia
  .simp only[i2,m6,kd,abg,K4,Dc.Ab];have:=Dc.size_pos x;exact L1.mpr ⟨L1.mpr ⟨gU _,j6 n⟩,al s<|fr _ _⟩
theorem YJ:∀{xs:List Dc},(∀x∈xs,∃b,b+10<=22*x.size/\Dg H x.val b x.size)->Ff H (xs.map Dc.val) (22*Dc.Ab xs) (Dc.Ab xs)
 |[],_=>Ff.nil.mono (gU _) (b5 _)|x::xs,a=>by
  obtain⟨b,d,h⟩:=a x e9;have t:=YJ (xs:=xs) λy c=>a y<|bi _ c;have:=Ff.cons (h.mono (b5 _)<|show x.size<=Dc.Ab (x::xs)by simp only[Dc.Ab];exact gT _ _) (t.mono (b5 _)<|show Dc.Ab xs<=Dc.Ab (x::xs)by simp only[Dc.Ab];exact fr _ _);exact this.mono (by simp only[Dc.Ab];lia)<|b5 _
mutual
theorem Dc.fin:∀d:Dc,d.ok->d.At t->∃b,b+10<=22*d.size/\Dg t d.val b d.size
 | .leaf v,ok,_=>by
  rcases(show EO v from ok)with⟨i,rfl,g⟩|⟨x,rfl,f⟩
  .exact⟨0,by simp[Dc.size],.int g⟩
  .have l:=MG f;have a:(sgn x).all Qi=true:=by
    unfold Xo at f;simp only[g9]at f;exact f.2
   exact⟨12,by simp[Dc.size],.str a l⟩
 | .row a e,ok,c=>by
  simp only[Dc.ok,Dc.At]at ok c;exact⟨22*Dc.Ab e,by simp only[Dc.size];lia,(Dg.lst c.1<|YJ<|Dc.e_ e ok c.2).mono (b5 _)<|by simp only[Dc.size];lia⟩
 | .tab a h e,ok,c=>by
  simp only[Dc.ok,Dc.At]at ok c;obtain⟨j,k,m,n,o,q⟩:=ck c.2.1 ok.1<|Dc.e_ e ok.2 c.2.2.2;exact⟨22*Dc.Ab e,by simp only[Dc.size];lia,.dict<|((Dc.kvs h e).map λ(p:Key×V)=>JW p.1).zip j,HM.HP c.1 k,by simpa[zJ]using m,by simpa[yo]using n,by simpa[N3]using o,by simp only[K4,Dc.size];lia⟩
theorem Dc.e_:∀xs:List Dc,Dc.MH xs->Dc.CY d xs->∀x∈xs,∃b,b+10<=22*x.size/\Dg d x.val b x.size
 |[],_,_=>λx c=>nomatch c
 |y::r,ok,a=>by
  simp only[Dc.MH,Dc.CY]at ok a;intro x c;rcases ce.mp c with e|c
  .rw[e];exact Dc.fin y ok.1 a.1
  .exact Dc.e_ r ok.2 a.2 x c
end
theorem Dc.PD:∀{d e:Dc},d.sub zs=Z e->d.size<=900->low zs:=by
 induction zs with
 |nil=>intro d e _ _ z b;cases b|cons y r m=>
  intro d e h sz;rcases Dc.Bb h with⟨a,n,i,x,rfl,rfl,c,f⟩|⟨a,o,n,k,x,rfl,rfl,c,f⟩
  .have g:=yc c;have l:=Dc.Cb g;have p:=HL c;have q:=Dc.GD n;simp only[Dc.size]at sz;intro z b j e;rcases ce.mp b with rfl|b
   .cases e;lia
   .exact m f (al (al l<|fr _ _) sz) z b j e
  .have g:=(Dc.AR c).2;have l:=Dc.Cb g;simp only[Dc.size]at sz;intro z b j e;rcases ce.mp b with rfl|b
   .cases e
   .exact m f (al (al l<|fr _ _) sz) z b j e
theorem YK(h:w∈DB):Dg H (.str w) 6 n:=by
 have all:∀w∈DB,(sgn w).all Qi=true/\w.length<=6:=by decide+kernel
 exact .str (all w h).1 (all w h).2
variable{E:bd->d6->Prop}{prog:m8}
theorem Ew(b:Int)(u:Tok)(l:Addr)(c:bd)(e:Array K8)(n:Nat)(f:Option Addr)(i:Array (Option bd)):
  Meets (Builtin.«int.__eq__» ⟨[.int b u,.ref l],[]⟩) (λ_ R s=>s.heap.get? l=Z {cls:=c,dict:=f,data:=.dict e n,slots:=i}/\R (.ok (.ret .notImplemented)) s):=
 .of_wp λprog w A R s h=>by obtain⟨j,g,d,k,os⟩:=s;obtain⟨a,h⟩:=h;wp_walk using wpAny_loadPart' a,X0 a;exact⟨_,W,h⟩
theorem Ey(b:Str)(u:Tok)(l:Addr)(c:bd)(e:Array K8)(n:Nat)(f:Option Addr)(i:Array (Option bd)):
  Meets (Builtin.«str.__eq__» ⟨[.str b u,.ref l],[]⟩) (λ_ R s=>s.heap.get? l=Z {cls:=c,dict:=f,data:=.dict e n,slots:=i}/\R (.ok (.ret .notImplemented)) s):=
 .of_wp λprog w A R s h=>by obtain⟨j,g,d,k,os⟩:=s;obtain⟨a,h⟩:=h;wp_walk using wpAny_loadPart' a,X0 a;exact⟨_,W,h⟩
variable{Q:bd->d6->Prop}
section
variable {w:q3} {A:i8} 
theorem CJ(c:s.TypeIs (.ref d) "dict")(e:s.TypeIs v T)(a:isSubtype (.type T) (.type "dict")=pure false)(h:Q .notImplemented s):
  im (j1 prog w) A (call (.builtin "dict.__eq__") [.ref d,v]) Q E s:=by
 refine xL Ix c SC ?_<|Q2 _ _;show im _ _ (wr "__eq__" ⟨[.ref d,v],[]⟩>>=_) _ _ s;refine ap ?_;unfold wr;refine ap<|zU c ?_;show im _ _ (pure (i3 d,v)) _ _ s;refine e7 ?_;refine ap<|O6 (T:=T) (b:=false) e a ?_;simp only[Bool.not_false,if_true];exact ap<|P7<|e7 ⟨_,W,h⟩
theorem ER(l b:Addr)(items:Array bd)(e:Array K8)(n f:Nat)(i a:Option Addr)(j c:Array (Option bd)):
  Meets (Builtin.«list.__eq__» ⟨[.ref l,.ref b],[]⟩) (λ_ R s=>s.heap.get? l=Z {cls:=.type "list",dict:=i,data:=.seq items n,slots:=j}/\s.heap.get? b=Z {cls:=.type "dict",dict:=a,data:=.dict e f,slots:=c}/\R (.ok (.ret .notImplemented)) s):=
 .of_wp λprog w A R s h=>by obtain⟨o,g,d,p,os⟩:=s;obtain⟨k,m,h⟩:=h;have q:=aaQ;wp_walk using wpAny_loadPart' k,wpAny_loadPart' m;exact⟨_,W,h⟩
structure Kn(h:Heap)(b:Addr)(dd:Option Addr)(es:Array K8)(n:Nat)(sl:Array (Option bd)):Prop where
 ho:h.get? b=Z {cls:=.type "dict",dict:=dd,data:=.dict es n,slots:=sl}
theorem RB(i:Int)(u:Tok)(c:Kn s.heap b d e n f)(g:A.units<cLine):C6 A s (.int i u) (.ref b) false:=λprog w E Q h=>
 yk (k:=false) (FS s i u) ⟨_,c.ho,W⟩ ac F.sub_dict_int abz K2 (λ_ a=>za abz (FS s i u) abl (aaU _ _) (Ew i u b (.type "dict") e n d f) ⟨c.ho,a⟩) (λ_ a=>CJ ⟨_,c.ho,W⟩ (FS s i u) U8 a) (λ_ a=>N1 (rfl:isSame (.int i u) (.ref b)=pure false) a) (.inr g) h
theorem RC(i:Int)(u:Tok)(c:Kn s.heap b d e n f)(g:A.units<cLine):C6 A s (.ref b) (.int i u) false:=λprog w E Q h=>
 yk (k:=false) ⟨_,c.ho,W⟩ (FS s i u) ac U8 U9 Z7 (λ_ a=>CJ ⟨_,c.ho,W⟩ (FS s i u) U8 a) (λ_ a=>za Z7 (FS s i u) abl (aaU _ _) (Ew i u b (.type "dict") e n d f) ⟨c.ho,a⟩) (λ_ a=>N1 (rfl:isSame (.ref b) (.int i u)=pure false) a) (.inr g) h
theorem RD(x:Str)(u:Tok)(c:Kn s.heap b d e n f)(g:A.units<cLine):C6 A s (.str x u) (.ref b) false:=λprog w E Q h=>
 yk (k:=false) (zX s x u) ⟨_,c.ho,W⟩ ac F.sub_dict_str aby K2 (λ_ a=>za aby (zX s x u) abk (aaT _ _) (Ey x u b (.type "dict") e n d f) ⟨c.ho,a⟩) (λ_ a=>CJ ⟨_,c.ho,W⟩ (zX s x u) U7 a) (λ_ a=>N1 (rfl:isSame (.str x u) (.ref b)=pure false) a) (.inr g) h
theorem RE(x:Str)(u:Tok)(c:Kn s.heap b d e n f)(g:A.units<cLine):C6 A s (.ref b) (.str x u) false:=λprog w E Q h=>
 yk (k:=false) ⟨_,c.ho,W⟩ (zX s x u) ac U7 U9 Z6 (λ_ a=>CJ ⟨_,c.ho,W⟩ (zX s x u) U7 a) (λ_ a=>za Z6 (zX s x u) abk (aaT _ _) (Ey x u b (.type "dict") e n d f) ⟨c.ho,a⟩) (λ_ a=>N1 (rfl:isSame (.ref b) (.str x u)=pure false) a) (.inr g) h
theorem cn(a:h.IsList l items)(c:Kn h b f g n j):l≠b:=λe=>by
 subst e;obtain⟨o,ho,d,_⟩:=a;rw[c.ho]at ho;cases ho;exact absurd d z_
theorem PF(g:s.heap.IsList l items)(a:Kn s.heap b m o n p)(q:A.units<cLine):C6 A s (.ref l) (.ref b) false:=λprog w E Q h=>by
 have d:=cn g a;obtain⟨⟨r,e,data,f⟩,ho,i,t,j⟩:=id g;simp only at i j;subst i j;exact(yk (k:=false) ⟨_,ho,W⟩ ⟨_,a.ho,W⟩ ac aaQ L5 K2 (λ_ c=>za L5 ⟨_,ho,W⟩ R0 (P1 _ _) (ER l b items o t n e m f p) ⟨ho,a.ho,c⟩) (λ_ c=>CJ ⟨_,a.ho,W⟩ ⟨_,ho,W⟩ Rs c) (λ_ c=>IR d ho a.ho z_ c) (.inr q) h)
theorem PH(g:s.heap.IsList l items)(a:Kn s.heap b m o n p)(q:A.units<cLine):C6 A s (.ref b) (.ref l) false:=λprog w E Q h=>by
 have d:=cn g a;obtain⟨⟨r,e,data,f⟩,ho,i,t,j⟩:=id g;simp only at i j;subst i j;exact(yk (k:=false) ⟨_,a.ho,W⟩ ⟨_,ho,W⟩ ac Rs U9 W3 (λ_ c=>CJ ⟨_,a.ho,W⟩ ⟨_,ho,W⟩ Rs c) (λ_ c=>za W3 ⟨_,ho,W⟩ R0 (P1 _ _) (ER l b items o t n e m f p) ⟨ho,a.ho,c⟩) (λ_ c=>IR d.symm a.ho ho z_ c) (.inr q) h)
end
open PySem.AutoSeq1 (wpAny_loadPart')
open PySem.MeetsSeq3
section
variable {w:q3} {A:i8} 
def vG(prog:m8)(w:q3)(A:i8)(s:d6)(u v:bd):Prop:=∀(E:bd->d6->Prop)(Q:Bool->d6->Prop),Q true s->im (j1 prog w) A (eqBool u v) Q E s
def vH(prog:m8)(w:q3)(A:i8)(s:d6)(u v:bd):Prop:=∀(E:bd->d6->Prop)(Q:bd->d6->Prop),Q (.bool true) s->im (j1 prog w) A (aaI .Eq u v) Q E s
theorem call_one{T:String}{name:Str}{id:String}{B:Builtin}{self:bd}{rest:List bd}(slot:Slot T name id)(c:s.TypeIs self T)(entry:entryFor table id=Z B)(args:argsOk id ⟨self::rest,[]⟩)(g:im (j1 prog w) A.in1 (B ⟨self::rest,[]⟩) (λfin a=>match fin with| .done f=>wants Q E (.ok f) a| .again b=>b.quiet=true/\A1 (j1 prog w) A b (wants Q E) a) (λe a=>wants Q E (.error e) a) s):
  im (j1 prog w) A (call (.builtin id) (self::rest)) Q E s:=wpAny_call (codeAny_call_builtin slot.plain entry (slot.check _ _ _ _ _ _ _ _ c args g))
theorem WG(G:s.heap.IsTuple l items)(H:s.heap.IsTuple b a)(hsz:items.size=a.size)(I:A.units<cLine)(J:∀j (r:j<items.size) (z:j<a.size),vG prog w A.in1 s items[j] a[j]):vH prog w A s (.ref l) (.ref b):=λE Q h=>by
 obtain⟨⟨L,T,data,U⟩,t,B,n,C⟩:=id G;obtain⟨⟨D,M,data2,N⟩,k,m,V,o⟩:=id H;simp only at B C m o;subst B C m o;refine x5 (op:=.Eq) ⟨_,t,W⟩ ⟨_,k,W⟩ aaR (xL aaR ⟨_,t,W⟩ F.entry_tuple_eq ?_<|F.args_tuple_eq_2 _ _) I;obtain⟨O,g,d,P,os⟩:=s;have X:=AutoSeq1.sub_tuple_tuple;wp_walk using wpAny_loadPart' t,wpAny_loadPart' k,O7 _ (λrest b u=>b.1=ν/\u=⟨O,g,d,P,os⟩/\∃i,rest=(items.toList.zip a.toList).drop i) _
 case turn=>
  rintro⟨y,x⟩ rest b u ⟨c,rfl,i,p⟩;have e:i<(items.toList.zip a.toList).length:=by
   rcases A6 i (items.toList.zip a.toList).length with v|v
   .exact v
   .rw[List.drop_of_length_le v]at p;cases p
  have r:i<items.size:=by simp at e;exact bn e<|aaK _ _
  have z:i<a.size:=bn r<|bm hsz;rw[B1 e]at p;injection p with q f;have R:y=items[i]:=by have:=congrArg T8 q;simpa using this
  have S:x=a[i]:=by have:=congrArg aa2 q;simpa using this
  subst R S;refine ap<|J i r z _ _ ?_;wp_walk;exact⟨W,W,i+1,f⟩
 case fin=>
  rintro⟨Y,ζ⟩ u ⟨c,rfl,i,p⟩;simp only at c;subst c;wp_walk;exact⟨_,W,(λx=>nomatch x),by simpa[aat,hsz]using h⟩
 case h=>
  exact⟨W,W,0,W⟩
end
class EH(K:outParam yd):Prop where
 x:True
structure pE(H H':Hp):Prop where
 rd:HF H H'
 tp:∀a vs,H a=Z (.tup vs)->H' a=Z (.tup vs)
theorem pE.of(s:AF H H'):pE H H':=⟨s.r,λa b e=>s _ _ e⟩
inductive Pt where
 |int (i:Int)
 |str (x:Str)
 |bl (b:Bool)
 |Al
 |lst (xs:List Pt)
 |tup (xs:List Pt)
 |HP (ks:List Str) (xs:List Pt)
namespace Pt
mutual
noncomputable def deep:Pt->Nat
 |int _|str _|bl _|Al=>1
 |lst xs|tup xs=>1+FZ xs
 |HP _ xs=>1+FZ xs
noncomputable def FZ:List Pt->Nat
 |[]=>0|x::r=>max (deep x) (FZ r)
end
def _root_.L2.vI(_:Str):Bool:=true
mutual
def doc:Pt->Prop
 |int _=>True|str x=>x.length<=100|bl _=>False|Al=>False|tup _=>False|lst xs=>MX xs|HP ks xs=>ks.length=xs.length/\ks.Nodup/\(∀k∈ks,vI k=true)/\ks.length<64/\MX xs
def MX:List Pt->Prop
 |[]=>True|x::r=>doc x/\MX r
end
def look(ks:List Str)(xs:List Pt)(k:Str):Option Pt:=(ks.zip xs).lookup k
mutual
noncomputable def Gh:Pt->Pt->Bool
 |int i,t=>match t with|int j=>i==j|_=>false
 |str x,t=>match t with|str y=>x==y|_=>false
 |bl a,t=>match t with|bl b=>a==b|_=>false
 |Al,t=>match t with|Al=>true|_=>false
 |lst xs,t=>match t with|lst ys=>GF xs ys|_=>false
 |tup xs,t=>match t with|tup ys=>GF xs ys|_=>false
 |HP ks xs,t=>match t with|HP ls ys=>ks.length==ls.length&&RF ks xs ls ys|_=>false
noncomputable def GF:List Pt->List Pt->Bool
 |[],t=>match t with|[]=>true|_=>false
 |x::xs,t=>match t with|y::ys=>Gh x y&&GF xs ys|_=>false
noncomputable def RF:List Str->List Pt->List Str->List Pt->Bool
 |k::ks,x::xs,ls,ys=>(match look ls ys k with|some y=>Gh x y|none=>false)&&RF ks xs ls ys
 |_,_,_,_=>true
end
theorem fA(xs ys:List Pt):Gh (lst xs) (lst ys)=GF xs ys:=rfl
theorem fB(xs ys:List Pt):Gh (tup xs) (tup ys)=GF xs ys:=rfl
theorem Sw(ks ls:List Str)(xs ys:List Pt):Gh (HP ks xs) (HP ls ys)=(ks.length==ls.length&&RF ks xs ls ys):=rfl
theorem PJ(x y:Pt)(xs ys:List Pt):GF (x::xs) (y::ys)=(Gh x y&&GF xs ys):=rfl
theorem fC:GF [] []=true:=rfl
theorem JQ(t:Pt):1<=t.deep:=by cases t<;>simp only[deep]<;>lia
theorem Bw:∀{xs:List Pt}{x:Pt},x∈xs->x.deep<=FZ xs
 |y::r,x,h=>by
  simp only[FZ];rcases ce.mp h with rfl|h
  .exact aaL _ _
  .have:=Bw h;exact al this<|aaA _ _
theorem Ha:∀{xs:List Pt},MX xs->∀x∈xs,doc x
 |y::r,h,x,a=>by
  simp only[MX]at h;rcases ce.mp a with rfl|a
  .exact h.1
  .exact Ha h.2 x a
theorem RG(h:look ks xs k=Z x):k∈ks/\x∈xs:=by
 unfold look at h
 induction ks generalizing xs with
 |nil=>simp at h|cons y r a=>
  cases xs with
  |nil=>simp at h|cons z b=>
   simp only[m6,j8]at h;by_cases e:k=y
   .subst e;simp at h;subst h;exact⟨e9,e9⟩
   .have:(k==y)=false:=GE e
    rw[this]at h;have:=a h;exact⟨bi _ this.1,bi _ this.2⟩
end Pt
mutual
inductive Val{K:yd}[EH K](H:Hp):V->Pt->Prop
 |int (i:Int):Val H (.int i) (.int i)
 |str (x:Str):Val H (.str x) (.str x)
 |bl (b:Bool):Val H (.bl b) (.bl b)
 |Al:Val H .Al .Al
 |lst {a:Addr} {d:List V} {c:List Pt} (h:Rd H a (.lst d)) (r:Ee H d c):Val H (.ref a) (.lst c)
 |tup {a:Addr} {d:List V} {c:List Pt} (h:Ae K H a d) (r:Ee H d c):Val H (.ref a) (.tup c)
 |HP {a:Addr} {kvs:List (Key×V)} {ks:List Str} {c:List Pt} (h:Rd H a (.dK kvs)) (e:kvs.map (·.1)=ks.map dL) (r:Ee H (kvs.map (·.2)) c):Val H (.ref a) (.HP ks c)
inductive Ee{K:yd}[EH K](H:Hp):List V->List Pt->Prop
 |nil:Ee H [] []
 |cons {v:V} {t:Pt} {a:List V} {b:List Pt} (h:Val H v t) (r:Ee H a b):Ee H (v::a) (t::b)
end
section
variable [EH K]
def Plain:HO->Prop
 | .lst _| .tup _| .dK _=>True
 |_=>False
theorem Val.vJ{H':Hp}(h:Val H v t)(s:∀a u,Plain u->Rd H a u->Rd H' a u):Val H' v t:=@Val.rec K _ H (λv t _=>Val H' v t) (λb c _=>Ee H' b c) .int .str .bl .Al (λh _ r=>.lst (s _ _ trivial h) r) (λh _ r=>.tup (h.imp (s _ _ trivial) id) r) (λh k _ r=>.HP (s _ _ trivial h) k r) .nil (λ_ _ h r=>.cons h r) _ _ h
theorem Val.vK(s:pE H H')(h:Val H v t):Val H' v t:=h.vJ λa u _=>s.rd a u
theorem Val.up(h:Val H v t)(s:AF H H'):Val H' v t:=h.vK<|.of s
theorem Ee.ind{M:List V->List Pt->Prop}(n:M [] [])(c:∀{v t a b},Val H v t->Ee H a b->M a b->M (v::a) (t::b))(h:Ee H a b):M a b:=@Ee.rec K _ H (λ_ _ _=>True) (λa b _=>M a b) (λ_=>trivial) (λ_=>trivial) (λ_=>trivial) trivial (λ_ _ _=>trivial) (λ_ _ _=>trivial) (λ_ _ _ _=>trivial) n (λh r _=>c h r) _ _ h
theorem Ee.length{H:Hp}(h:Ee H a b):a.length=b.length:=h.ind (M:=λa b=>a.length=b.length) W λ_ _ r=>by rw[g7,g7,r]
theorem Ee.two(h:Ee H a b):∀i:Nat,(a[i]?=ν/\b[i]?=ν)∨∃v t,a[i]?=Z v/\b[i]?=Z t/\Val H v t:=h.ind (M:=λa b=>∀i:Nat,(a[i]?=ν/\b[i]?=ν)∨∃v t,a[i]?=Z v/\b[i]?=Z t/\Val H v t) (λ_=>.inl ⟨W,W⟩) λh _ r i=>by
 cases i with
 |zero=>exact .inr ⟨_,_,W,W,h⟩|succ i=>simpa using r i
theorem Ee.get(h:Ee H a b){v:V}(e:a[i]?=Z v):∃t,b[i]?=Z t/\Val H v t:=by
 rcases h.two i with⟨z,_⟩|⟨w,t,c,d,f⟩
 .rw[z]at e;cases e
 .rw[c]at e;cases e;exact⟨t,d,f⟩
theorem Val.UY{kvs:List (Key×V)}:∀{ks:List Str}{a:List Pt},kvs.map (·.1)=ks.map dL->Ee H (kvs.map (·.2)) a->∀k:Str,(∃v t,Cg kvs (dL k)=Z v/\Pt.look ks a k=Z t/\Val H v t)∨(Cg kvs (dL k)=ν/\Pt.look ks a k=ν):=by
 induction kvs with
 |nil=>
  intro ks a h r k;cases r;cases ks with
  |nil=>exact .inr ⟨W,W⟩|cons _ _=>simp at h
 |cons p kvs b=>
  intro ks a h r k;cases ks with
  |nil=>simp at h|cons x ks=>
   obtain⟨y,v⟩:=p;simp only[i2,J6]at h;obtain⟨e,h⟩:=h;subst e;cases r with
   |@cons _ t _ a c r=>
    by_cases e:k=x
    .subst e;exact .inl ⟨v,t,GR W,by simp[Pt.look],c⟩
    .have nb:(k==x)=false:=GE e
     have d:Cg ((dL x,v)::kvs) (dL k)=Cg kvs (dL k):=FW (by intro z;exact e (yr z).symm);have f:Pt.look (x::ks) (t::a) k=Pt.look ks a k:=by simp[Pt.look,m6,j8,nb]
     rw[d,f];exact b h r k
end
section
variable [EH X.K] 
theorem Ee.at(r:Ee H b d)(e:Vals b its)(h:j<its.toArray.size):∃v t,b[j]?=Z v/\d[j]?=Z t/\Val H v t/\RelV v its.toArray[j]:=by
 obtain⟨v,c,a⟩:=JV e h;obtain⟨t,f,g⟩:=r.get c;exact⟨v,t,c,f,g,a⟩
end
section
variable [EH X.K] 
theorem Ga:∀{xs ys:List Pt},xs.length≠ys.length->Pt.GF xs ys=false
 |[],[],h=>by simp at h|[],_::_,_=>by simp[Pt.GF]|_::_,[],_=>by simp[Pt.GF]|x::xs,y::ys,h=>by
  have:=Ga (xs:=xs) (ys:=ys) (GE h);simp[Pt.GF,this]
def pairE(xs ys:List Pt)(j:Nat):Bool:=match xs[j]?,ys[j]? with
 |some x,Z y=>Pt.Gh x y|_,_=>false
theorem MY:∀{xs ys:List Pt},xs.length=ys.length->(pu xs.length).all (pairE xs ys)=Pt.GF xs ys
 |[],[],_=>by simp[Pt.GF]|[],_::_,h=>by simp at h|_::_,[],h=>by simp at h|x::xs,y::ys,h=>by
  have a:=MY (xs:=xs) (ys:=ys) (GE h);rw[g7,List.range_succ_eq_map,O0,List.all_map];have b:pairE (x::xs) (y::ys) 0=Pt.Gh x y:=by simp[pairE]
  have c:(pairE (x::xs) (y::ys)∘Nat.succ)=pairE xs ys:=by
   funext j;simp[pairE]
  rw[b,c,a];simp[Pt.GF]
theorem KJ(I:Inv X pins σ H s)(h:Rd H a (.dK kvs)):(a==q5)=false/\∃c b n d,Kn s.heap a c b n d/\b.size=kvs.length:=by
 obtain⟨z,j,o,e,⟨⟨f,c,data,d⟩,b,n,k,l,i,p,m,q⟩⟩:=GV I.Bi h;have g:f=.type "dict":=l.1;simp only at i;subst g i;refine⟨j,c,b,n,d,⟨k⟩,?_⟩;have:=m.length;rw[e.length,<-this];simp
end
def lk{a:Type}(ks:List Str)(xs:List a)(k:Str):Option a:=(ks.zip xs).lookup k
theorem az{a:Type}{y k:Str}{r:List Str}{z:a}{zs:List a}:lk (y::r) (z::zs) k=if k=y then Z z else lk r zs k:=by
 unfold lk;rw[m6,j8];by_cases e:k=y
 .subst e;simp
 .have:(k==y)=false:=GE e
  rw[this,if_neg e]
section
inductive pF(K:yd)(xs:List V)(H:Hp)(Q:VK):Prop|mk(p:Addr)(bs:List Bool)(a:xs=[.ref p])(b:Ax K H p (bs.map V.bl))(c:Q (.bl (bs.any id)) H)
theorem YL(x:X.calm=true):Dx X (.builtin "any") (pF X.K):=by
 intro pins s L H M N Q I r h;obtain⟨p,bs,rfl,y,q⟩:=h;obtain⟨u,rfl,k⟩:=vals1 r;cases k;obtain⟨c,l,t,O⟩:=I.list y;obtain⟨B,d,f⟩:=id t.isList;have m:p<s.heap.objs.size:=g6 d;have n:X.A.in1.handled=none:=I.ok.hd x;have hlen:c.toArray.size=bs.length:=by rw[b6,<-l.length,be]
 refine call_any_walk<|N4 t.isList ⟨s.heap.objs.size,_,_,_,_,_,λi=>bs.getD i true,W,Walks.list n s.heap.objs.size p (i9 m) c.toArray,⟨⟨_,i7 _ W,W,W⟩,⟨B,d0 _ d,f⟩⟩,?_,λP C kept=>?_⟩
 .intro i v D E R g j;have g:c[i]?=Z v:=GE g
  have a:i<bs.length:=by
   have:=HL g;rw[<-l.length,be]at this;exact this
  have e:(bs.map V.bl)[i]?=Z (V.bl bs[i]):=by rw[f8,yZ a];rfl
  obtain⟨u,w,k⟩:=l.get e;rw[g]at w;cases w;cases k;have F:bs.getD i true=bs[i]:=by rw[cr,yZ a];rfl
  have j:E (bs.getD i true) D:=j;rw[F]at j;exact wE j
 .refine⟨.bl<|bs.any id,H,I.kept (t':=C) λb o e=>kept b o (λz=>?_)<|d0 _ e,?_,q⟩
  .have G:b=s.heap.objs.size:=GE z
   exact i9 (g6 e) G
  .show x9 _=x9 _;congr 1;rw[hlen,zP,G6,G6];constructor
   .intro⟨i,a,h⟩;have a:=ye.mp a;rw[cr,yZ a]at h;exact⟨_,re a,h⟩
   .intro⟨b,J,h⟩;obtain⟨i,a,rfl⟩:=AC.mp J;exact⟨i,ye.mpr a,by rw[cr,yZ a];exact h⟩
end
section
variable [EH K]
def ri(ks:List Str)(ws:List V):List (Key×V):=(ks.zip ws).map λp=>(dL p.1,p.2)
theorem YM(l:ks.length=ws.length):(ri ks ws).map (·.2)=ws:=by
 unfold ri;rw[zE];have:(ks.zip ws).map aa2=ws:=PP<|bm l.symm
 conv=>rhs;rw[<-this]
 rfl
end
end L2
namespace L2
open PySem PySem.Spec PyProof.Rows
variable{prog:m8}{w:q3}{R:T6->d6->Prop}
variable{s:d6}{pins:List (Addr×Obj)}{X:Cx}{σ:St}{H:Hp}
variable{K:yd}
section
variable [EH K]
namespace Dc
mutual
noncomputable def tr:Dc->Pt
 |leaf (.int i)=>.int i|leaf (.str x)=>.str x|leaf _=>.int 0|row _ xs=>.lst (RH xs)|tab _ ks xs=>.HP ks (RH xs)
noncomputable def RH:List Dc->List Pt
 |[]=>[]|x::r=>tr x::RH r
end
theorem Gr:∀xs:List Dc,RH xs=xs.map tr
 |[]=>rfl|x::r=>by simp only[RH,i2,Gr r]
mutual
theorem Jb:∀d:Dc,d.At b->Val b d.val d.tr
 |leaf v,h=>by
  simp only[At]at h;rcases h with⟨i,rfl⟩|⟨x,rfl,_⟩
  .exact .int i
  .exact .str x
 |row a xs,h=>by
  simp only[At]at h;exact .lst h.1 (Sx xs h.2)
 |tab a ks xs,h=>by
  simp only[At]at h;refine .HP h.1 (EB h.2.1) ?_;have e:(kvs ks xs).map (·.2)=xs.map val:=by
   rw[DZ];exact YM<|by rw[be];exact h.2.1
  rw[e];exact Sx xs h.2.2.2
theorem Sx:∀xs:List Dc,CY a xs->Ee a (xs.map val) (RH xs)
 |[],_=>.nil|x::r,h=>by
  simp only[CY]at h;exact .cons (Jb x h.1)<|Sx r h.2
end
end Dc
end
variable{E:bd->d6->Prop}
open PySem.AutoSeq1 (wpAny_loadPart')
open PySem.MeetsSeq3
variable{e:Nat->Bool}
section
variable {A:i8} 
def UZ(prog:m8)(w:q3)(A:i8)(s:d6)(u v:bd)(b:Bool):Prop:=∀(E:bd->d6->Prop)(Q:Bool->d6->Prop),Q b s->im (j1 prog w) A (eqBool u v) Q E s
def gp(prog:m8)(w:q3)(A:i8)(s:d6)(u v:bd)(b:Bool):Prop:=∀(E:bd->d6->Prop)(Q:bd->d6->Prop),Q (.bool b) s->im (j1 prog w) A (aaI .Eq u v) Q E s
theorem UZ.of(h:F5 A s u v b):UZ prog w A s u v b:=λE Q a=>h prog w E Q a
theorem gp.of(h:C6 A s u v b):gp prog w A s u v b:=λE Q a=>h prog w E Q a
theorem UZ.by(g:u=v->b=true)(nf:(∃i t,u=.int i t)∨(∃x t,u=.str x t)∨(∃c,u=.bool c)∨∃a,u=.ref a)(h:gp prog w A s u v b):UZ prog w A s u v b:=λE Q f=>by
 by_cases e:u=v
 .have:=g e;subst e this;exact C5 _ prog w E Q f
 .unfold eqBool;refine u9 (wpAny_ite_split (λd=>absurd (eq_of_beq d) e) λ_=>?_);rcases nf with⟨i,t,rfl⟩|⟨x,t,rfl⟩|⟨c,rfl⟩|⟨a,rfl⟩<;>exact ap (h E _<|wE f)
theorem YN{b:Addr}{G:Nat}{v:Option Addr}{x:Array (Option bd)}(hsz:items.size=a.size)(t:s.heap.get? l=Z {cls:=.type "list",dict:=N,data:=.seq items n,slots:=O})(u:s.heap.get? b=Z {cls:=.type "list",dict:=v,data:=.seq a G,slots:=x})(H:∀j (P:j<items.size) (Q:j<a.size),UZ prog w A.in1 s items[j] a[j] (e j)){r:Bool}(D:r=true↔∀j,j<items.size->e j=true)(E:R (.ok (.ret (.bool r))) s):
  ∀k i:Nat,items.size-i=k->i<=items.size->(∀j,j<i->e j=true)->A1 (j1 prog w) A (.builtin "list.__eq__.loop" ⟨[.ref l,.ref b,On i,On 2],[]⟩) R s:=by
 obtain⟨S,g,d,T,os⟩:=s;intro k
 induction k with
 |zero=>
  intro i I J c;have p:i=items.size:=by lia
  have y:r=true:=D.mpr λj F=>c j<|bn F<|bm p.symm;subst y;refine zI entry_eq_loop ?_;rw[yx plain_eq_loop _];wp_walk using wpAny_loadPart' t,wpAny_loadPart' u;have h:items[((i:Nat):Int).toNat]?=none:=by simp;exact bm p.symm
  have m:a[((i:Nat):Int).toNat]?=none:=by simp;exact al (bm hsz.symm)<|bm p.symm
  rw[h,m];wp_walk using wpAny_loadPart' t,wpAny_loadPart' u;show R (.ok<|.ret<|.bool<|items.size==a.size) _;rw[hsz];simpa using E
 |succ k L=>
  intro i I J c;refine zI entry_eq_loop ?_;rw[yx plain_eq_loop _];wp_walk using wpAny_loadPart' t,wpAny_loadPart' u;have f:i<items.size:=by lia
  have o:i<a.size:=bn f<|bm hsz;have h:items[((i:Nat):Int).toNat]?=Z items[i]:=by simp[f]
  have m:a[((i:Nat):Int).toNat]?=Z a[i]:=by simp[o]
  have M:((i:Int)+1)=((i+1:Nat):Int):=by push_cast;rfl
  rw[h,m];refine ap<|H i f o _ _ ?_;cases q:e i with
  |true=>
   wp_walk;rw[M];refine⟨B4 plain_eq_loop _,L (i+1) y_ f λj F=>?_⟩;rcases A6 j i with z|z
   .exact c j z
   .rw[show j=i by lia];exact q
  |false=>
   have B:r=false:=by
    cases C:r with
    |false=>rfl|true=>have:=D.mp C i f;rw[q]at this;cases this
   subst B;wp_walk using wpAny_loadPart' t,wpAny_loadPart' u;rw[h,m];wp_walk;exact E
theorem YO(q:s.heap.IsList l items)(t:s.heap.IsList b a)(hsz:items.size=a.size)(u:A.units<cLine)(v:∀j (H:j<items.size) (I:j<a.size),UZ prog w A.in1 s items[j] a[j] (e j)){r:Bool}(y:r=true↔∀j,j<items.size->e j=true):gp prog w A s (.ref l) (.ref b) r:=λE Q h=>by
 obtain⟨⟨z,J,data,L⟩,k,m,n,o⟩:=id q;obtain⟨⟨p,B,data2,C⟩,c,f,M,i⟩:=id t;simp only at m o f i;subst m o f i;refine x5 (op:=.Eq) ⟨_,k,W⟩ ⟨_,c,W⟩ L5 (call_one L5 ⟨_,k,W⟩ R0 (P1 _ _) ?_) u;obtain⟨N,g,d,O,os⟩:=s;have P:=Q6;have D:¬(items.size !=a.size)=true:=by simp[hsz]
 wp_walk using wpAny_loadPart' k,wpAny_loadPart' c;exact⟨B4 plain_eq_loop _,YN hsz k c v y (show(x9 r≠V0)/\Q (.bool r) _ from⟨(λx=>nomatch x),h⟩) _ 0 W (gU _) λj G=>absurd G<|zL _⟩
theorem YQ{ξ:Type}[DecidableEq ξ]{knd:W7 prog w ξ}{a b:Addr}{t y:List (ξ×bd)}(ha:(a==q5)=false)(hb:(b==q5)=false)(Y:s.heap.DictOf knd a t)(db:s.heap.DictOf knd b y)(hu:A.units<cLine)(he:t.length=y.length->∀(j:Nat) k u,t[j]?=Z (k,u)->(zt y k=ν/\e j=false)∨∃v,zt y k=Z v/\UZ prog w A.in1 s u v (e j)){r:Bool}(hr:r=true↔(t.length=y.length/\∀j,j<t.length->e j=true)):gp prog w A s (.ref a) (.ref b) r:=λE Q h=>by
 refine x5 (op:=.Eq) Y.typeIs db.typeIs Ix (xL Ix Y.typeIs SC ?_<|Q2 _ _) hu;show im _ _ (wr "__eq__" ⟨[.ref a,.ref b],[]⟩>>=_) _ _ s;refine ap ?_;unfold wr;refine ap<|zU Y.typeIs ?_;show im _ _ (pure (i3 a,i3 b)) _ _ s;refine e7 ?_;refine ap<|O6 (T:="dict") db.typeIs Sc ?_;simp only[abB,Z9,if_false];refine ap<|e7<|ap<|e7 ?_;obtain⟨oa,g,ep,B,_,C,mB,R,vL⟩:=Y;obtain⟨ob,m,vM,D,_,G,S,M,vN⟩:=db;have H:t.length=g.size:=by rw[<-R.length];exact q4
 have N:y.length=m.size:=by rw[<-M.length];exact q4
 refine ap ?_;unfold Q5 T0;rw[if_neg<|show¬(a==q5)=true by rw[ha];exact d5,if_neg<|show¬(b==q5)=true by rw[hb];exact d5];refine ap<|e7<|ap<|e7 ?_;refine ap<|yg B C ?_;dsimp only;refine ap<|yg D G ?_;have fin:∀c:Bool,c=r->∃v,Fin.done (Flow.ret<|x9<|c==true)=.done (.ret v)/\v≠.notImplemented/\Q v s:=λc hc=>by
  subst hc;refine⟨_,W,(λx=>nomatch x),?_⟩;cases c<;>exact h
 by_cases U:t.length=y.length
 .rw[if_neg<|by rw[<-H,<-N,U];simp];refine ap<|J0 B C ?_;refine ap ?_;rw[A0];simp only[R6,A4,Y8,ab1];refine O7 _ (λrest q s'=>s'=s/\q=(ν,())/\∃i,rest=U0 i (g.size-i)/\i<=g.size/\∀j,j<i->e j=true) _ ?_ ?_ _ _ ⟨W,W,0,z_,gU _,λj I=>absurd I<|zL _⟩
  .rintro x rest q s' ⟨rfl,rfl,i,f,hi,n⟩;have o:i<g.size:=by
    rcases A6 i g.size with h|h
    .exact h
    .rw[SL h]at f;simp at f
   obtain⟨rfl,O⟩:x=i/\rest=U0 (i+1) (g.size-(i+1)):=by
    have e:g.size-i=(g.size-(i+1))+1:=by lia
    rw[e,O9]at f;injection f with h1 h2;exact⟨h1,h2⟩
   have J:x<t.length:=by rw[H];exact o
   obtain⟨k,u,vO⟩:∃k u,t[x]=(k,u):=⟨_,_,W⟩;have gk:t[x]?=Z (k,u):=by rw[yZ J,vO]
   have hh:=he U x k u gk;refine ap<|yg B C ?_;rw[p8 o];obtain⟨L,V⟩:=R.get? (i:=x) (e:=g[x]) (k:=k) (v:=u) (by rw[v5];exact p8 o) gk;obtain⟨k2,vP,X⟩:=mB g[x]<|aas o;have vQ:k2=k:=knd.inj _ _ _ vP L;rw[vQ]at X;show im _ _ (M9 [g[x].key,g[x].val] _>>=_) _ _ _;rw[X];refine ap<|u9<|ap<|aai L D G S ?_;have d:abK knd.is m k=zt y k:=by
    rw[<-M.find k];clear N M S G D;obtain⟨l⟩:=m;simp[abK]
   have rf:e x=false->false=r:=λP=>by
    cases f:r with
    |false=>rfl|true=>have:=(hr.mp f).2 x J;rw[P]at this;cases this
   cases I:m.findIdx? λe=>knd.is k e.key with
   |none=>
    rw[C9,I]at d;have hn:zt y k=none:=d.symm;rcases hh with⟨_,P⟩|⟨v,ζ,_⟩
    .refine e7 ?_;show im _ _ (if(!false)=true then _ else _) _ _ _;rw[if_pos ac];exact e7<|e7<|e7<|fin false<|rf P
    .rw[hn]at ζ;cases ζ
   |some j=>
    obtain⟨p,_,_⟩:=D0.mp I;rw[C9,I]at d;rcases hh with⟨hn,_⟩|⟨v,ζ,hq⟩
    .rw[hn]at d;simp[p8 p]at d
    have vR:m[j].val=v:=by
     rw[ζ]at d;simpa[p8 p]using d
    refine ap<|yg D G ?_;rw[p8 p];refine u9 ?_;rw[vR,V];refine hq _ _ ?_;cases P:e x with
    |true=>
     show im _ _ (if(!true)=true then _ else _) _ _ _;rw[if_neg ac];refine ap<|J0 B C ?_;rw[if_neg z_];refine e7 ⟨W,W,x+1,O,o,λj I=>?_⟩;rcases A6 j x with z|z
     .exact n j z
     .rw[show j=x by lia];exact P
    |false=>
     show im _ _ (if(!false)=true then _ else _) _ _ _;rw[if_pos ac];exact e7<|e7<|e7<|fin false<|rf P
  .rintro q s' ⟨rfl,rfl,i,f,hi,n⟩;have vS:i=g.size:=by
    rcases A6 i g.size with h|h
    .have e:g.size-i=(g.size-(i+1))+1:=by lia
     rw[e,O9]at f;cases f
    .lia
   exact e7<|e7<|fin true (hr.mpr ⟨U,λj I=>n j<|bn I<|al (bm H)<|bm vS.symm⟩).symm
 .rw[if_pos<|by rw[<-H,<-N];simpa using U];have vT:false=r:=by
   cases f:r with
   |false=>rfl|true=>exact absurd (hr.mp f).1 U
  exact ap<|P7<|e7<|e7<|fin false vT
end
namespace Pt
theorem WH:look (y::r) (z::zs) k=if k=y then Z z else look r zs k:=az
theorem Gb:∀{ks:List Str}{xs:List Pt},RF ks xs ls ys=true↔∀(j:Nat) k x,ks[j]?=Z k->xs[j]?=Z x->∃y,look ls ys k=Z y/\Gh x y=true
 |[],xs=>by simp[RF]|_::_,[]=>by simp[RF]|k::ks,x::xs=>by
  simp only[RF,g9,Gb (ks:=ks) (xs:=xs)];constructor
  .intro⟨a,d⟩ j e f b c;cases j with
   |zero=>
    simp at b c;subst b c;cases g:look ls ys k with
    |none=>rw[g]at a;cases a|some y=>rw[g]at a;exact⟨y,W,a⟩
   |succ j=>exact d j e f (GE b) (GE c)
  .intro h;refine⟨?_,λj e f b c=>h (j+1) e f (GE b)<|GE c⟩;obtain⟨y,a,d⟩:=h 0 k x W W;rw[a];exact d
theorem Ua:∀{ks:List Str}{xs:List Pt}{j:Nat}{k:Str}{x:Pt},ks.Nodup->ks[j]?=Z k->xs[j]?=Z x->look ks xs k=Z x
 |[],_,_,_,_=>λ_ h _=>by simp at h|_::_,[],_,_,_=>λ_ _ h=>by simp at h|y::ks,z::zs,j,k,x=>λd b c=>by
  obtain⟨f,g⟩:=f9.mp d;rw[WH];cases j with
  |zero=>simp at b c;rw[if_pos b.symm,c]|succ j=>
   have a:ks[j]?=Z k:=GE b
   rw[if_neg λe=>f<|by rw[<-e];exact yc a];exact Ua g a<|by simpa using c
mutual
def gq:Pt->Prop
 |int _|str _|bl _|Al=>True
 |lst xs|tup xs=>WI xs
 |HP ks xs=>ks.Nodup/\WI xs
def WI:List Pt->Prop
 |[]=>True|x::r=>gq x/\WI r
end
mutual
theorem cq:∀t:Pt,t.doc->t.gq
 |int _,_=>trivial|str _,_=>trivial|bl _,_=>trivial|Al,_=>trivial|tup _,d=>by simp[doc]at d|lst xs,d=>by simp only[doc]at d;exact Sy xs d|HP ks xs,d=>by simp only[doc]at d;exact⟨d.2.1,Sy xs d.2.2.2.2⟩
theorem Sy:∀xs:List Pt,MX xs->WI xs
 |[],_=>trivial|x::r,d=>by simp only[MX]at d;exact⟨cq x d.1,Sy r d.2⟩
end
mutual
theorem RI:∀t:Pt,t.gq->Gh t t=true
 |int i,_=>beq_self_eq_true i|str x,_=>beq_self_eq_true x|bl b,_=>beq_self_eq_true b|Al,_=>rfl|lst xs,d=>by simp only[gq]at d;exact IA xs d|tup xs,d=>by simp only[gq]at d;exact IA xs d|HP ks xs,d=>by
  simp only[gq]at d;simp only[Sw,beq_self_eq_true,abA];refine Gb.mpr λj k x c a=>⟨x,Ua d.1 c a,?_⟩;have:=IA xs d.2;exact Ub xs this j x a
theorem IA:∀xs:List Pt,WI xs->GF xs xs=true
 |[],_=>rfl|x::r,d=>by simp only[WI]at d;simp only[PJ,g9];exact⟨RI x d.1,IA r d.2⟩
theorem Ub:∀xs:List Pt,GF xs xs=true->∀(j:Nat) x,xs[j]?=Z x->Gh x x=true
 |[],_,j,x,h=>by simp at h|y::r,h,0,x,a=>by
  simp only[PJ,g9]at h;simp at a;subst a;exact h.1
 |y::r,h,j+1,x,a=>by
  simp only[PJ,g9]at h;exact Ub r h.2 j x<|by simpa using a
end
end Pt
section
variable [EH K]
theorem Rd.one(h:Rd H a u)(h':Rd H a v)(b:∀o z,u≠.Di o z)(c:∀o z,v≠.Di o z):u=v:=by
 rcases h with h|⟨o,h⟩<;>rcases h' with h'|⟨d,h'⟩<;>rw[h]at h'
 .exact yb h'
 .exact absurd (yb h')<|b _ _
 .exact absurd (yb h').symm<|c _ _
 .have:=yb h';injection this
theorem Uc:∀{ks ls:List Str},ks.map (dL:Str->Key)=ls.map dL->ks=ls
 |[],[],_=>rfl|[],_::_,h=>by simp at h|_::_,[],h=>by simp at h|k::ks,l::ls,h=>by
  simp only[i2,J6]at h;rw[yr h.1,Uc h.2]
mutual
theorem Val.one:∀(s:Pt){v:V}{t:Pt},Val l v s->Val l v t->s.doc->t.doc->s=t
 | .int _=>λh g _ _=>by cases h;cases g;rfl| .str _=>λh g _ _=>by cases h;cases g;rfl| .bl _=>λ_ _ d _=>by simp[Pt.doc]at d| .Al=>λ_ _ d _=>by simp[Pt.doc]at d| .tup _=>λ_ _ d _=>by simp[Pt.doc]at d| .lst c=>λg h d d'=>by
  cases g with
  |lst b f=>
   cases h with
   |lst a i=>
    cases Rd.one b a (λo z e=>by cases e) (λo z e=>by cases e);simp only[Pt.doc]at d d';rw[Ee.one c f i d d']
   |tup _ _=>simp[Pt.doc]at d'|HP a _ _=>cases Rd.one b a (λo z e=>by cases e) (λo z e=>by cases e)
 | .HP ks c=>λg h d d'=>by
  cases g with
  |HP b k f=>
   cases h with
   |HP a j i=>
    cases Rd.one b a (λo z e=>by cases e) (λo z e=>by cases e);simp only[Pt.doc]at d d';rw[Ee.one c f i d.2.2.2.2 d'.2.2.2.2];congr 1;rw[k]at j;exact Uc j
   |tup _ _=>simp[Pt.doc]at d'|lst a _=>cases Rd.one b a (λo z e=>by cases e) (λo z e=>by cases e)
theorem Ee.one:∀(ss:List Pt){b:List V}{a:List Pt},Ee c b ss->Ee c b a->Pt.MX ss->Pt.MX a->ss=a
 |[]=>λg h _ _=>by cases g;cases h;rfl|s::ss=>λg h' d d'=>by
  cases g with
  |cons h r=>
   cases h' with
   |cons g q=>
    simp only[Pt.MX]at d d';rw[Val.one s h g d.1 d'.1,Ee.one ss r q d.2 d'.2]
end
def mD(s t:Pt):Prop:=(s.doc/\t.doc)∨Pt.Gh s t=true
def OE(ls:List Str)(a:List Pt)(k:Str)(x:Pt):Bool:=match Pt.look ls a k with
 |some y=>Pt.Gh x y|none=>false
theorem Ij(h:Pt.look ls a k=Z y):OE ls a k x=Pt.Gh x y:=by unfold OE;rw[h]
theorem MZ(h:Pt.look ls a k=ν):OE ls a k x=false:=by unfold OE;rw[h]
def fE(ks:List Str)(a:List Pt)(ls:List Str)(b:List Pt)(j:Nat):Bool:=match ks[j]?,a[j]? with
 |some k,Z x=>OE ls b k x|_,_=>false
theorem PK(a:ks[j]?=Z k)(b:c[j]?=Z x):fE ks c ls d j=OE ls d k x:=by unfold fE;rw[a,b]
theorem IB(l:xs.length=ys.length):Pt.GF xs ys=true↔∀j,j<xs.length->pairE xs ys j=true:=by
 rw[<-MY l,t9];exact⟨λh j a=>h j<|ye.mpr a,λh j a=>h j<|ye.mp a⟩
end
section
variable [EH X.K] 
theorem a_(h:Val H x t)(d:t≠.Al)(r:RelV x u):(∃i t,u=.int i t)∨(∃x t,u=.str x t)∨(∃c,u=.bool c)∨∃a,u=.ref a:=by
 cases h with
 |int i=>exact .inl ⟨i,r⟩|str x=>exact .inr (.inl ⟨x,r⟩)|bl b=>exact .inr (.inr (.inl ⟨b,r⟩))|Al=>exact absurd W d|@lst a _ _ _ _=>exact .inr (.inr (.inr ⟨a,r⟩))|@tup a _ _ _ _=>exact .inr (.inr (.inr ⟨a,r⟩))|@HP a _ _ _ _ _ _=>exact .inr (.inr (.inr ⟨a,r⟩))
theorem rj(I:Inv X pins σ H s){p t:Pt}(ih:∀p':Pt,p'.deep<p.deep->∀t',mD p' t'->∀{x y:V},Val H x p'->Val H y t'->∀{A:i8} {u v:bd},A.units+p'.deep<cLine->RelV x u->RelV y v->UZ X.prog X.w A s u v (Pt.Gh p' t'))(nb:∀b,p≠.bl b)(c:mD p t){x y:V}(hx:Val H x p)(hy:Val H y t){A:i8}{u v:bd}(hu:A.units+p.deep<cLine)(ru:RelV x u)(m:RelV y v):gp X.prog X.w A s u v (Pt.Gh p t):=by
 have f:A.units<cLine:=g8 (gT _ _) hu;cases hx with
 |int i=>
  obtain⟨q,rfl⟩:∃t,u=zh i t:=ru;cases hy with
  |int j=>obtain⟨o,rfl⟩:∃t,v=zh j t:=m;exact .of (acn i q j o)
  |str z=>obtain⟨o,rfl⟩:∃t,v=zu z t:=m;exact .of (acm i q z o)
  |bl b=>rcases c with⟨_,d⟩|c;(·simp[Pt.doc]at d);cases c
  |Al=>rcases c with⟨_,d⟩|c;(·simp[Pt.doc]at d);cases c
  |tup _ _=>rcases c with⟨_,d⟩|c;(·simp[Pt.doc]at d);cases c
  |@lst b O r B D=>
   cases(show v=i3 b from m);obtain⟨E,S,P,_⟩:=I.list<|.inl B;exact .of (ab9 i q P.isList f)
  |@HP b kvs Q r B T D=>
   cases(show v=i3 b from m);obtain⟨_,dd,es,n,sl,J,_⟩:=KJ I B;exact .of (RB i q J f)
 |str x0=>
  obtain⟨q,rfl⟩:∃t,u=zu x0 t:=ru;cases hy with
  |int j=>obtain⟨o,rfl⟩:∃t,v=zh j t:=m;exact .of (acl x0 q j o)
  |str z=>obtain⟨o,rfl⟩:∃t,v=zu z t:=m;exact .of (ack x0 q z o)
  |bl b=>rcases c with⟨_,d⟩|c;(·simp[Pt.doc]at d);cases c
  |Al=>rcases c with⟨_,d⟩|c;(·simp[Pt.doc]at d);cases c
  |tup _ _=>rcases c with⟨_,d⟩|c;(·simp[Pt.doc]at d);cases c
  |@lst b O r B D=>
   cases(show v=i3 b from m);obtain⟨E,S,P,_⟩:=I.list<|.inl B;exact .of (ab6 x0 q P.isList f)
  |@HP b kvs Q r B T D=>
   cases(show v=i3 b from m);obtain⟨_,dd,es,n,sl,J,_⟩:=KJ I B;exact .of (RD x0 q J f)
 |bl b=>exact absurd W (nb b)|Al=>
  cases(show u=u0 from ru);have c:Pt.Gh .Al t=true:=by
   rcases c with⟨d,_⟩|c
   .simp[Pt.doc]at d
   .exact c
  cases hy with
  |Al=>cases(show v=u0 from m);exact .of G9|_=>cases c
 |@lst a vU C U Y=>
  cases(show u=i3 a from ru);obtain⟨pG,r0,p0,_⟩:=I.list<|.inl U;have e0:pG.toArray.size=C.length:=by rw[b6,<-r0.length,Y.length]
  simp only[Pt.deep]at hu;cases hy with
  |int j=>obtain⟨o,rfl⟩:∃t,v=zh j t:=m;exact .of (ab8 j o p0.isList f)
  |str z=>obtain⟨o,rfl⟩:∃t,v=zu z t:=m;exact .of (ab7 z o p0.isList f)
  |bl b=>rcases c with⟨_,d⟩|c;(·simp[Pt.doc]at d);cases c
  |Al=>rcases c with⟨_,d⟩|c;(·simp[Pt.doc]at d);cases c
  |tup _ _=>rcases c with⟨_,d⟩|c;(·simp[Pt.doc]at d);cases c
  |@HP b kvs Q r B T D=>
   cases(show v=i3 b from m);obtain⟨_,dd,es,n,sl,J,_⟩:=KJ I B;exact .of (PF p0.isList J f)
  |@lst b O r B D=>
   cases(show v=i3 b from m);obtain⟨E,S,P,_⟩:=I.list<|.inl B;have e1:E.toArray.size=r.length:=by rw[b6,<-S.length,D.length]
   simp only[Pt.fA];by_cases l:C.length=r.length
   .refine YO p0.isList P.isList (by rw[e0,e1,l]) f (e:=pairE C r) (λj F ζ=>?_) (by rw[e0];exact IB l);obtain⟨v1,q,g1,L,M,G⟩:=Y.at r0 F;obtain⟨v2,o,g3,g4,N,jF⟩:=D.at S ζ;have e:pairE C r j=Pt.Gh q o:=by simp[pairE,L,g4]
    rw[e];have dl:=Pt.Bw<|yc L;refine ih q (by simp only[Pt.deep];lia) o ?_ M N (by show A.units+1+_<cLine;lia) G jF;rcases c with⟨d,d'⟩|c
    .simp only[Pt.doc]at d d';exact .inl ⟨Pt.Ha d _<|yc L,Pt.Ha d' _<|yc g4⟩
    .exact .inr<|by rw[<-e];exact(IB l).mp c j<|by rw[<-e0];exact F
   .rw[Ga l];exact .of (abD p0.isList P.isList (by rw[e0,e1];simpa using l) f)
 |@tup a vU C U Y=>
  cases(show u=i3 a from ru);have ξ:Pt.Gh (.tup C) t=true:=by
   rcases c with⟨d,_⟩|c
   .simp[Pt.doc]at d
   .exact c
  simp only[Pt.deep]at hu;cases hy with
  |@tup b O r B D=>
   cases(show v=i3 b from m);simp only[Pt.fB]at ξ⊢;have l:C.length=r.length:=by
    rcases yi C.length r.length with z|z|z
    .rw[Ga y_]at ξ;cases ξ
    .exact z
    .rw[Ga y_]at ξ;cases ξ
   obtain⟨E,S,P,_⟩:=I.tuple U;obtain⟨pH,r2,p2,_⟩:=I.tuple B;have e1:E.toArray.size=C.length:=by rw[b6,<-S.length,Y.length]
   have e2:pH.toArray.size=r.length:=by rw[b6,<-r2.length,D.length]
   rw[ξ];refine WG P p2 (by rw[e1,e2,l]) f λj F ζ=>?_;obtain⟨v1,q,g1,L,M,G⟩:=Y.at S F;obtain⟨v2,o,g3,g4,N,jF⟩:=D.at r2 ζ;have e:pairE C r j=Pt.Gh q o:=by simp[pairE,L,g4]
   have et:Pt.Gh q o=true:=by rw[<-e];exact(IB l).mp ξ j<|by rw[<-e1];exact F
   have dl:=Pt.Bw<|yc L;have:=ih q (by simp only[Pt.deep];lia) o (.inr et) M N (A:=A.in1) (by show A.units+1+_<cLine;lia) G jF;rw[et]at this;exact this
  |_=>cases ξ
 |@HP a kvs Q C U mB Y=>
  cases(show u=i3 a from ru);simp only[Pt.deep]at hu;cases hy with
  |int j=>obtain⟨o,rfl⟩:∃t,v=zh j t:=m;obtain⟨_,dd,es,n,sl,J,_⟩:=KJ I U;exact .of (RC j o J f)
  |str z=>obtain⟨o,rfl⟩:∃t,v=zu z t:=m;obtain⟨_,dd,es,n,sl,J,_⟩:=KJ I U;exact .of (RE z o J f)
  |bl b=>rcases c with⟨_,d⟩|c;(·simp[Pt.doc]at d);cases c
  |Al=>rcases c with⟨_,d⟩|c;(·simp[Pt.doc]at d);cases c
  |tup _ _=>rcases c with⟨_,d⟩|c;(·simp[Pt.doc]at d);cases c
  |@lst b O r B D=>
   cases(show v=i3 b from m);obtain⟨_,dd,es,n,sl,J,_⟩:=KJ I U;obtain⟨E,S,P,_⟩:=I.list<|.inl B;exact .of (PH P.isList J f)
  |@HP b oD ls r B rk D=>
   cases(show v=i3 b from m);obtain⟨z,hm,O,rel,dd⟩:=GV I.Bi U;obtain⟨z',pI,pJ,jG,pK⟩:=GV I.Bi B;have k1:O.map (·.1)=Q.map dL:=by rw[<-mB];exact(KV.keys rel).symm
   have l1:O.length=Q.length:=by have:=congrArg ww k1;simpa using this
   have l2:pJ.length=ls.length:=by
    rw[<-jG.length];have:=congrArg ww rk;simpa using this
   have lp:Q.length=C.length:=by
    have F:=Y.length;rw[be]at F;have ζ:=congrArg ww mB;simp at ζ;exact ζ.symm.trans F
   refine YQ hm pI dd pK f (e:=fE Q C ls r) (λll j k u g=>?_) ?_
   .have hj:j<O.length:=HL g;have gv:(O.map (·.2))[j]?=Z u:=by rw[f8,g];rfl
    have F:j<(O.map (·.2)).toArray.size:=by rw[b6];exact(HL gv)
    obtain⟨v1,q,g1,L,M,G⟩:=Y.at (O_ rel) F;rw[Sq gv F]at G;obtain⟨nm,gr⟩:=HK Q j<|bn hj<|bm l1;have ek:k=dL nm:=by
     have:=congrArg (λz=>z[j]?) k1;simp only[f8,g,gr]at this;simpa using this
    subst ek;rw[PK gr L];have m:=jG.val<|dL nm;rcases Val.UY rk D nm with⟨w1,o,q1,q2,N⟩|⟨q1,q2⟩
    .rw[q1]at m;rw[Ij q2];cases R:zt pJ (dL nm)with
     |none=>rw[R]at m;exact m.elim|some u2=>
      rw[R]at m;have dl:=Pt.Bw<|yc L;refine .inr ⟨u2,W,ih q (by simp only[Pt.deep];lia) o ?_ M N (by show A.units+1+_<cLine;lia) G m⟩;rcases c with⟨d,d'⟩|c
      .simp only[Pt.doc]at d d';exact .inl ⟨Pt.Ha d.2.2.2.2 _<|yc L,Pt.Ha d'.2.2.2.2 _ (Pt.RG q2).2⟩
      .simp only[Pt.Sw,g9]at c;obtain⟨y,y1,y2⟩:=Pt.Gb.mp c.2 j nm q gr L;rw[q2]at y1;cases y1;exact .inr y2
    .rw[q1]at m;rw[MZ q2];cases R:zt pJ (dL nm)with
     |some u2=>rw[R]at m;exact m.elim|none=>exact .inl ⟨W,W⟩
   .simp only[Pt.Sw,g9,beq_iff_eq,Pt.Gb];rw[l1,l2];refine and_congr_right λll=>⟨λh j hj=>?_,λh j k x T hx=>?_⟩
    .obtain⟨k,T⟩:=HK Q j hj;obtain⟨x,hx⟩:=HK C j<|bn hj<|bm lp;obtain⟨y,F,ζ⟩:=h j k x T hx;rw[PK T hx,Ij F];exact ζ
    .have:=h j<|HL T;rw[PK T hx]at this;cases hl:Pt.look ls r k with
     |none=>rw[MZ hl]at this;cases this|some y=>rw[Ij hl]at this;exact⟨y,W,this⟩
theorem YR(I:Inv X pins σ H s):∀(n:Nat)(p:Pt),p.deep<=n->∀t,mD p t->∀{x y:V},Val H x p->Val H y t->∀{A:i8}{u v:bd},A.units+p.deep<cLine->RelV x u->RelV y v->UZ X.prog X.w A s u v (Pt.Gh p t)
 |0,p,h=>by have:=Pt.JQ p;lia|n+1,p,h=>λt c x y a g A u v m f i=>by
  by_cases k:∃b,p=.bl b
  .obtain⟨b,rfl⟩:=k;rcases c with⟨d,_⟩|c
   .simp[Pt.doc]at d
   .cases t with
    |bl o=>
     have e:b=o:=eq_of_beq c;subst e;cases a;cases g;cases(show u=x9 b from f);cases(show v=x9 b from i);rw[c];exact .of (C5 _)
    |_=>cases c
  .by_cases l:p=.Al
   .subst l;rcases c with⟨d,_⟩|c
    .simp[Pt.doc]at d
    .cases t with
     |Al=>
      cases a;cases g;cases(show u=u0 from f);cases(show v=u0 from i);rw[c];exact .of (C5 _)
     |_=>cases c
   refine UZ.by (λe=>?_) (a_ a l f)<|rj I (λq B=>YR I n q y_) (λb z=>k ⟨b,z⟩) c a g m f i
   rcases c with⟨d,r⟩|c
   .subst e;have j:x=y:=f.inj i;subst j;have:=Val.one p a g d r;subst this;exact Pt.RI p<|Pt.cq p d
   .exact c
end
inductive fF{K:yd}[EH K](x y:V)(H:Hp)(Q:VK):Prop|mk(p t:Pt)(a:Val H x p)(e:Val H y t)(nb:∀b,p≠.bl b)(c:mD p t)(d:p.deep<=60)(q:Q (.bl (Pt.Gh p t)) H)
section
theorem YS(a:X.A.units+64<cLine):EN X (ut .Eq) (@fF X.K ⟨trivial⟩):=by
 haveI:EH X.K:=⟨trivial⟩;intro pins s j H x y v u Q I b e h;obtain⟨p,t,f,g,nb,c,d,q⟩:=h;exact rj I (λi _=>YR I _ i<|b5 _) nb c f g (A:=X.A) (g8 (rs (al d ac) _) a) b e _ _ ⟨.bl _,H,I,W,q⟩
end
structure FK(X:Cx)(scope:Scope)(x z:Str)(fv:List Str)(fs:List Nat):Prop where
 kind:scope.kind=.function
 YT:∀p∈scope.names,p.2≠.cell
 names:∀p∈scope.names,p.2=.local->scope.names.lookup p.1=Z .local
 tg:scope.names.lookup x=Z .local
 tz:scope.names.lookup z=Z .local
 free:∀p∈scope.names,p.2=.free->X.env.scope.names.lookup p.1=Z .cell
 nd:(x::z::fv).Nodup
 oQ:∀(j:Nat) y,fv[j]?=Z y->∃i,fs[j]?=Z i/\X.N[i]?=Z y/\scope.names.lookup y=Z .free
 len:fv.length=fs.length
def RJ(a:Scope)(N:List Str)(scope:Scope)(x z:Str)(fv:List Str)(fs:List Nat):Bool:=
 scope.kind==.function&&(scope.names.all λp=>p.2 !=.cell)&&(scope.names.all λp=>p.2 !=.local||scope.names.lookup p.1==Z .local)&&scope.names.lookup x==Z .local&&scope.names.lookup z==Z .local&&
 (scope.names.all λp=>p.2 !=.free||a.names.lookup p.1==Z .cell)&&decide (x::z::fv).Nodup&&fs.map (N[·]?)==fv.map Z&&(fv.all λy=>scope.names.lookup y==Z .free)
variable{scope:Scope}{fv:List Str}{x z:Str}
theorem FK.of{fs:List Nat}(h:RJ X.env.scope X.N scope x z fv fs=true):FK X scope x z fv fs:=by
 unfold RJ at h;simp only[g9,t9,aaV,bne_iff_ne,beq_iff_eq,decide_eq_true_eq]at h;obtain⟨⟨⟨⟨⟨⟨⟨⟨g,i⟩,k⟩,m⟩,n⟩,o⟩,q⟩,f⟩,r⟩:=h;have hlen:fs.length=fv.length:=by
  have:=congrArg ww f;simpa using this
 refine⟨g,i,λp b c=>(k p b).resolve_left λz=>z c,m,n,λp b c=>(o p b).resolve_left λz=>z c,q,λj y e=>?_,hlen.symm⟩;have s:j<fv.length:=(ya e).1;have d:=congrArg (λl=>l[j]?) f;simp only[f8,e]at d;have a:j<fs.length:=bn s<|bm hlen.symm;rw[yZ a]at d;refine⟨fs[j],yZ a,?_,r y<|yc e⟩;simpa using d
section
variable {H':Hp} {s':d6} {fs:List Nat} {fp:List Addr}
theorem FK.cells(ok:FK X scope x z fv fs)(I:Inv X pins σ H s):∀p∈scope.names,p.2=.free->∃c,X.env.cells.lookup p.1=Z c:=λp a b=>I.ok.has p.1<|.inl<|ok.free p a b
theorem FK.look(ok:FK X scope x z fv fs)(I:Inv X pins σ H s){y:Str}{c:Addr}(h:(Dy X.env.cells scope.names []).lookup y=Z c):X.env.cells.lookup y=Z c:=
 FJ scope.names [] (ok.cells I) (λ_ _ z=>by cases z) h
theorem RK(ok:FK X scope x z fv fs)(I:Inv X pins σ H s)(t:∀b∈fp,GB X pins H b)(w:∀b∈fp,∃o,s.heap.get? b=Z o){h:Heap}{m:Str->Option bd}{tk:Nat}(O:h.Ns s.heap.objs.size m)(kept:∀b o,s.heap.get? b=Z o->h.get? b=Z o):Inv (FH X (x::z::fv) scope s.heap.objs.size s H fp) [] (ν::ν::Cu σ fs) H {s with heap:=h,toks:=tk}:=by
 have g:=λ{y c}=>ok.look I (y:=y) (c:=c);have A:X.env.scope.kind=.function:=I.ok.kind;refine⟨⟨I.ok.mod,ok.kind,I.ok.glob,I.ok.blt,b5 _,λy z c h P=>I.ok.inj y z c (g h) (g P),λy d=>?_,λy c B _=>(by cases B),I.ok.hd,I.ok.frames,.inl W,λb f=>⟨?_,λy c e z=>(t b f).2.2.2.2.1 y c (g e) z⟩,I.bs,
  al I.ok.Zt I.sz,λb o e f=>?_,λb f C=>?_,I.stack,I.OY⟩,W,I.bare,Un.kept kept,⟨m,O,λi y v D a U=>?_⟩,λy c e=>?_,I.fresh,λy c e=>I.GJ y c (g e),λp Q=>absurd (show p∈([]:List (Addr×Obj))from Q) z_,I.Bi.kept kept,?_⟩
 .have d:(Ev scope X.env).names.lookup y=Z .cell∨(Ev scope X.env).names.lookup y=Z .free:=d;rw[DG]at d;have E:scope.names.lookup y=Z .free:=by
   cases e:scope.names.lookup y with
   |none=>rw[e]at d;rcases d with z|z<;>cases z
   |some k=>
    rw[e]at d;have d:JD X.env y k=.cell∨JD X.env y k=.free:=d.elim (λz=>.inl<|yb z) λz=>.inr<|yb z;by_cases F:k=.free
    .rw[F]
    .have a:JD X.env y k=k:=by
      unfold JD;have:(k==x8)=false:=GE F
      rw[this];rfl
     rw[a]at d;rcases d with z|z
     .subst z;exact absurd W<|ok.YT _<|o0 e
     .exact absurd z F
  exact gt.mp<|FQ scope.names []<|.inr<|o0 E
 .obtain⟨o,n⟩:=w b f;exact i9<|g6 n
 .rcases(t b f).2.2.2.1 with z|z
  .exact I.ok.VR b o e z
  .exact absurd (bn (g6 e)<|al I.ok.Zt z)<|rc _
 .rcases ce.mp (I.OX b C)with z|z
  .exact(t b f).2.1 z
  .exact(t b f).2.2.1 z
 .cases i with
  |zero=>
   have a:(Z ν:Option (Option V))=Z (Z v):=a;cases a
  |succ j=>
   cases j with
   |zero=>
    have a:(Z ν:Option (Option V))=Z (Z v):=a;cases a
   |succ j=>
   have D:fv[j]?=Z y:=D;have a:(Cu σ fs)[j]?=Z (Z v):=a;obtain⟨i,R,S⟩:=NY a;obtain⟨Y,N,T,G⟩:=ok.oQ j y D;rw[R]at N;cases N;have J:X.env.scope.names.lookup y=Z .cell:=ok.free (y,.free) (o0 G) W;obtain⟨ζ,_,L⟩:=I.loc;obtain⟨u,r,l⟩:=L i y v T S<|.inr<|.inl J;refine⟨u,r,?_⟩;rcases l with⟨k,_⟩|⟨_,c,e,o,n,hd⟩
   .have k:X.env.scope.names.lookup y=Z .local:=k;rw[J]at k;cases k
   .obtain⟨ξ,q⟩:=gt.mp<|FQ (cells:=X.env.cells) scope.names []<|.inr<|o0 G;have:=g q;rw[e]at this;cases this;refine .inr ⟨.inl ?_,c,q,o,kept _ _ n,hd⟩;show(Ev scope X.env).names.lookup y=Z .cell;rw[DG,G];show Z (JD X.env y .free)=_;have M:X.env.kindOf y=Z .cell:=J;unfold JD;rw[A,M];rfl
 .obtain⟨v,o,n,hd⟩:=I.cell y c<|g e;exact⟨v,o,kept _ _ n,hd⟩
 .show(ν::ν::Cu σ fs).length=(x::z::fv).length;simp[Cu,ok.len]
end
def PM(K:yd)(J:It)(j:TT)(k:TE)(fs:List Nat)(σ:St)(H:Hp)(Q:VK):Prop:=∀D,H D=ν->∃ξ:Nat->Nat->Hp->Prop,(∃m,ξ 0 m (upd H D (.lst [])))/\∀i m c,ξ i m c-> (J.stop i c/\Q (.ref D) c)∨(J.go i c/\∀v e,J.cV i c v e->∃(t:Addr)(a b:V),v=.ref t/\Ae K e t [a,b]/\j (Z a::Z b::Cu σ fs) e λok g=>
  if ok=true then k (Z a::Z b::Cu σ fs) g λy h=>∃f,h D=Z (.lst f)/\f.length<sizeLine/\∃d,d<m/\ξ (i+1) d (upd h D (.lst (f++[y])))else∃d,d<m/\ξ (i+1) d g)
def fG(K:yd)(b:TI)(c:TT)(d:TE)(fs:List Nat):TE:=λa H Q=>b a H λJ e=>PM K J c d fs a e Q
section
variable {elt iter:r6} {px pz pt pos:Pos} {kt:Nat} {ifs:List r6} {fs:List Nat} {wi:TI} {te:TE} {tc:TT}
theorem WJ(hc:X.calm=true)(ok:FK X scope x z fv fs)(oR:∀C s0 H0 d,aV (FH X (x::z::fv) scope C s0 H0 d) ifs tc)(he:∀C s0 H0 d,PE (FH X (x::z::fv) scope C s0 H0 d) elt te){it:Addr}{d:List Addr}{G:Nat->Heap->Prop}{J:It}{Q:VK}(I:Inv X pins σ H s)(T:Turn X.prog X.w X.K (.Tuple [.Name x px,.Name z pz] kt pt) J d it G)(st:G 0 s.heap)(hf:∀b∈d,GB X pins H b)(rd:PM X.K J tc te fs σ H Q){RR:bd->Addr->T6->d6->Prop}(oT:∀D C t H',Inv X pins σ H' t->GB X pins H' C->(∃m,t.heap.Ns C m)->Q (.ref D) H'->RR (.ref D) C (.ok .next) t):
  im (j1 X.prog X.w) X.A (newList []) (λL a=>im (j1 X.prog X.w) X.A (L4 scope X.env.globals (Dy X.env.cells scope.names []) [] X.env.qual ν .none (Z X.env)) (λg s4=>
   A1 (j1 X.prog X.w) X.A (.compStart (.ListComp elt [⟨.Tuple [.Name x px,.Name z pz] kt pt,iter,ifs,0⟩] scope pos) 0 (.ref it) L {g with scope:=Ev scope X.env}) (RR L g.locals) s4) E a) E s:=by
 obtain⟨ξ,⟨m0,w0⟩,turn⟩:=rd s.heap.objs.size I.fresh;have Y:Inv X pins σ (upd H s.heap.objs.size<|.lst []) {s with heap:=s.heap.push {cls:=.type "list",dict:=ν,data:=.seq ([]:List bd).toArray}}:=I.dw (its:=[]) (ys:=[]) (t':=s.toks) .nil<|gU _;refine yf ?_;show im _ _ _ _ _ ({s with heap:=s.heap.push {cls:=.type "list",dict:=ν,data:=.seq ([]:List bd).toArray}}:d6);generalize oU:({s with heap:=s.heap.push {cls:=.type "list",dict:=ν,data:=.seq ([]:List bd).toArray}}:d6)=a at Y⊢;refine wpAny_newFunctionEnv ok.YT (λy hy=>absurd hy z_) (λh1 oV vV=>?_) ok.kind;have eh:a.heap=s.heap.push {cls:=.type "list",dict:=ν,data:=.seq ([]:List bd).toArray}:=by rw[<-oU]
 have M:∀b o,s.heap.get? b=Z o->a.heap.get? b=Z o:=λb o e=>by rw[eh];exact d0 _ e
 have oW:∀b∈d,∃o,a.heap.get? b=Z o:=λb c=>let⟨o,ho,_⟩:=T.obj 0 _ st b c;⟨o,M b o ho⟩;have gb:∀b∈d,b≠s.heap.objs.size:=λb c=>let⟨o,ho,_⟩:=T.obj 0 _ st b c;i9<|g6 ho;have h:∀b∈d,GB X pins (upd H s.heap.objs.size<|.lst []) b:=λb c=>⟨by rw[AM<|gb b c];exact(hf b c).1,(hf b c).2⟩;have kept:∀b o,a.heap.get? b=Z o->h1.get? b=Z o:=λb o e=>vV.extBut b o (i9<|g6 e)<|d0 _ e;have ζ:=RK (tk:=a.toks+([]:List (Str×bd)).length) ok Y h oW oV kept;have N:G 0 h1:=T.keep 0 _ _ st λb c o e=>kept b o<|M b o e;have f:∀{H':Hp},(∀b∈d,H' b=ν)->∀b∈d,GB (FH X (x::z::fv) scope a.heap.objs.size a (upd H s.heap.objs.size<|.lst []) d) [] H' b:=λhn b c=>
  ⟨hn b c,(ζ.ok.gX b c).1,ζ.ok.VS b c,.inl c,(ζ.ok.gX b c).2,λp hp=>absurd hp z_⟩
 have hg:PG (FH X (x::z::fv) scope a.heap.objs.size a (upd H s.heap.objs.size<|.lst []) d) (.Tuple [.Name x px,.Name z pz] kt pt) (iF X.K 2<|XA (Bv 0)<|XA (Bv 1) iD):=Of hc<|Et (Gi (i:=0) ok.nd W (.inl<|yt ok.tg)<|.inr<|yt ok.tg)<|Et (Gi (i:=1) ok.nd W (.inl<|yt ok.tz)<|.inr<|yt ok.tz) LJ;have loop:A1 (j1 X.prog X.w) X.A (.compLoop (.ListComp elt [⟨.Tuple [.Name x px,.Name z pz] kt pt,iter,ifs,0⟩] scope pos) 0 (.ref it) (.ref s.heap.objs.size)<|abU scope (Dy X.env.cells scope.names []) a.heap.objs.size X.env) (RR (.ref s.heap.objs.size) a.heap.objs.size)
   {a with heap:=h1,toks:=a.toks+([]:List (Str×bd)).length}:=by
  refine Lx (λn t=>∃i o o2 H',Inv (FH X (x::z::fv) scope a.heap.objs.size a (upd H s.heap.objs.size<|.lst []) d) [] (o::o2::Cu σ fs) H' t/\G i t.heap/\(∀b∈d,H' b=ν)/\ξ i n H') ?_ m0
   ⟨0,ν,ν,_,ζ,N,λb c=>(h b c).1,w0⟩
  rintro n s5 ⟨i,o,o2,H5,I5,O,P,w5⟩;rcases turn i n H5 w5 with⟨stop,q⟩|⟨go,step⟩
  .refine CF (T.done (FH X (x::z::fv) scope a.heap.objs.size a (upd H s.heap.objs.size<|.lst []) d) W W W hc i [] s5 _ H5 _ I5 (f P) O stop) λr s6 ⟨hr,I6⟩=>?_;subst hr;obtain⟨m,hm,_⟩:=I6.loc;exact oT _ _ s6 H5 (L_ Y h I6) (Y.SJ (b5 _) I6.free) ⟨m,hm⟩ q
  .refine CF (T.item (FH X (x::z::fv) scope a.heap.objs.size a (upd H s.heap.objs.size<|.lst []) d) W W W hc i [] s5 _ H5 _ I5 (f P) O go) λr s6 ⟨u,hr,h6⟩=>?_;subst hr;refine CF h6 λ_ s7 ⟨v,H7,I7,r7,y7,j,oX⟩=>?_;have oY:=I7.pinned (f oX)<|T.obj _ _ j;have back:∀{R:St}{B:Hp}{S:d6},Inv (FH X (x::z::fv) scope a.heap.objs.size a (upd H s.heap.objs.size<|.lst []) d) ([]++Jv d s7.heap) R B S->G (i+1) S.heap/\∀b∈d,B b=none:=λ{R B S} F=>
    ⟨T.keep _ _ _ j λb c o e=>(F.pin (b,o) (EU c e)).1,λb c=>by
     obtain⟨o,e,_⟩:=T.obj _ _ j b c;exact(F.pin (b,o) (EU c e)).2.1⟩
   obtain⟨ta,va,vb,rfl,vW,k⟩:=step v H7 y7;refine CF (hg _ s7 _ H7 (.ref ta) u (fun σ2 H2=>σ2=Z va::Z vb::Cu σ fs/\H2=H7) oY r7 ⟨ta,_,W,vW,W,_,_,W,_,_,W,W,W,W⟩) λ_ s8 ⟨σ8,H8,I8,e8,oZ⟩=>?_;subst e8 oZ;refine CF (oR _ _ _ _ _ s8 _ H8 _ I8 k) λok S ⟨B,F,q9⟩=>?_;cases ok with
   |false=>
    obtain⟨m',l,w9⟩:=q9;obtain⟨b1,b2⟩:=back F;exact⟨m',l,i+1,Z va,Z vb,B,F.FU,b1,b2,w9⟩
   |true=>
    refine CF (he _ _ _ _ _ S _ B _ F q9) λy s10 ⟨yv,U,og,r10,ys,hD,hz,m',l,w10⟩=>?_;refine CF (Jx _ s10 _ U (.ref s.heap.objs.size) [yv] (.ref s.heap.objs.size) [y] (λ_ H'=>H'=upd U s.heap.objs.size (.lst<|ys++[yv])) og W (.cons r10 .nil) ⟨_,ys,yv,W,W,hD,hz,W⟩) λ_ s11 ⟨_,gc,V,_,e11⟩=>?_;subst e11;obtain⟨b1,b2⟩:=back V;exact⟨m',l,i+1,Z va,Z vb,_,V.FU,b1,b2,w10⟩
 exact Q0 loop<|T.self _ 0 _ _ _ N loop
theorem YU(g:X.calm=true)(ok:FK X scope x z fv fs)(i:PI X (.Tuple [.Name x px,.Name z pz] kt pt) iter wi)(b:∀C c d a,aV (FH X (x::z::fv) scope C c d a) ifs tc)(j:∀C c d a,PE (FH X (x::z::fv) scope C c d a) elt te)(k:∀x,yh iter X.env x=pure x:=by intro _;rfl):PE X (.ListComp elt [⟨.Tuple [.Name x px,.Name z pz] kt pt,iter,ifs,0⟩] scope pos) (fG X.K wi tc te fs):=by
 intro pins s l H Q I h;rw[abq];refine B8 (use:=ν) W k (EV<|ok.cells I) ok.kind ok.names (CF (i pins s l H _ I h) λB E n=>CF n λo F p=>?_);obtain⟨G,a,L,J,M,rfl,r,T,e,t,u⟩:=p;exact WJ g ok b j r T e t u λD C N v w y ⟨m,A⟩ q=>⟨m,A,λO f=>⟨.ref D,v,w.off y f,W,q⟩⟩
end
end L2
namespace PySem
variable{Q E:bd->d6->Prop}{its:Array bd}{prog:m8}{w:q3}{s:d6}
section
variable {A:i8} 
theorem YV{jt c:Addr}{n:Nat}{y:bd}(d:s.heap.IsTupleIter jt c n)(e:s.heap.IsTuple c its)(j:its[n]?=Z y)(k:∀f,f.IsTupleIter jt c (n+1)->K5 jt s.heap f->Q y {s with heap:=f}):im (j1 prog w) A (zf (.ref jt)) Q E s:=by
 obtain⟨l,b,g,a⟩:=id d;obtain⟨m,h,_,o,i⟩:=e;unfold zf;refine ap<|zy (name:=Str.ofString "__next__") d.typeIs zd<|xL zd d.typeIs K6 ?_<|J9 _;show im _ _ (field (.ref jt) 0>>=_) _ _ s;refine ap<|D1 b a (x:=.ref c) W ?_;show im _ _ (if(i3 c==u0)=true then _ else _) _ _ s;rw[if_neg<|show¬((i3 c==u0)=true)from d5];show im _ _ (field (.ref jt) 1>>=_) _ _ s;refine ap<|D1 b a (x:=.int n 0) W ?_;show im _ _ (abG (.ref c)>>=_) _ _ s;refine ap<|aba h i ?_;simp only[i6,j];refine ap<|aa9 b a z_<|e7 ⟨y,W,e7<|k _ ?_<|Heap.SameBut.update ..⟩;exact⟨_,TW _ b<|Obj.isFreed_of_fields<|Obj.data_mapFields a _,(Obj.cls_mapFields ..).trans g,by rw[Obj.data_mapFields a];simp[On]⟩
theorem YW{jt d:Addr}{n:Nat}(j:A.handled=ν)(e:s.heap.IsTupleIter jt d n)(f:s.heap.IsTuple d its)(l:its[n]?=ν)(k:∀g x,Heap.ExtBut jt s.heap g->(∃o,g.get? x=Z o/\o.cls=.type "StopIteration")->E (.ref x) {s with heap:=g}):im (j1 prog w) A (zf (.ref jt)) Q E s:=by
 obtain⟨q,b,p,c⟩:=id e;obtain⟨r,h,_,t,i⟩:=f;unfold zf;refine ap<|zy (name:=Str.ofString "__next__") e.typeIs zd<|xL zd e.typeIs K6 ?_<|J9 _;show im _ _ (field (.ref jt) 0>>=_) _ _ s;refine ap<|D1 b c (x:=.ref d) W ?_;show im _ _ (if(i3 d==u0)=true then _ else _) _ _ s;rw[if_neg<|show¬((i3 d==u0)=true)from d5];show im _ _ (field (.ref jt) 1>>=_) _ _ s;refine ap<|D1 b c (x:=.int n 0) W ?_;show im _ _ (abG (.ref d)>>=_) _ _ s;refine ap<|aba h i ?_;simp only[i6,l];refine ap<|P7<|ap<|aa9 b c z_ ?_;show im _ _ (newExc (.type "StopIteration") []>>=_) _ _ _;refine ap ?_;simp only[newExc,newTuple];refine ap (yf ?_<|by size_fits);refine ap (m:=abd _ _)<|N1 (a:=u0) (by first|rfl|(simp only[abd];rfl)) ?_;refine yf ?_ (by size_fits);simp only[raiseNew];refine ap<|wpAny_handled ?_;(first|rw[show A.in1.handled=ν from j]|rw[j]);refine ap<|e7<|wpAny_throw ?_;exact k _ _ (((Heap.SameBut.update ..).extBut.push _).push _) ⟨_,i7 _ W,W⟩
end
theorem YX{A:i8}(hh:A.handled=ν)(jt tp:Addr)(ne:tp≠jt)(its:Array bd):
  Draws prog w A jt [jt,tp] its.size (λn v=>its[n]?=Z v) (λn h=>h.IsTupleIter jt tp n/\h.IsTuple tp its)where
 live:=λ_ _ st=>let⟨o,ho,_⟩:=st.1;⟨o,ho⟩
 frame:=λ_ _ _ st kp=>⟨st.1.at λo e=>kp jt z_ o e,let⟨o,ho,r⟩:=st.2;⟨o,kp tp z_ o ho,r⟩⟩
 item:=λn s Q E hn st k=>YV st.1 st.2 (y:=its[n]) (by simp[hn]) λh1 a b=>k _ h1 s.toks (by simp[hn]) ⟨a,st.2.extBut b.extBut ne⟩ b
 done:=λs Q E st k=>YW hh st.1 st.2 z_ k
set_option tactic.hygienic true in
theorem Sz(a:Addr)(its:Array bd)(n:Nat)(i:Option Addr)(ss:Array (Option bd)):
  Meets (Builtin.«enumerate.__new__» ⟨[.type "enumerate",.ref a],[]⟩) (λ_ R s=>s.heap.get? a=Z {cls:=.type "tuple",dict:=i,data:=.seq its n,slots:=ss}/\
   R (.ok (.ret (.ref (s.heap.push {cls:=.type "tuple_iterator",data:=.fields #[.ref a,.int 0 0]}).objs.size)))
    {s with heap:=(s.heap.push {cls:=.type "tuple_iterator",data:=.fields #[.ref a,.int 0 0]}).push {cls:=.type "enumerate",data:=.fields #[.none,.bool false,.ref s.heap.objs.size,On 0,.none,.none]}}):=
 .of_wp λprog w A R s h=>by
  obtain⟨j,g,d,k,os⟩:=s;obtain⟨b,h⟩:=h;have e:=sub_enumerate;have f:Heap.IsTuple (Shared.heap ⟨j,g,d,k,os⟩) a its:=⟨_,b,W,n,W⟩;wp_walk using C4 b;refine wpAny_stack_any λst=>e7 ?_;split
  .rename_i c _ _ _ _ _
   cases(c==aci "enumerate")<;>(wp_walk using C4 b,L7 f;exact⟨_,W,h⟩)
  .wp_walk using C4 b,L7 f;exact⟨_,W,h⟩
theorem WK{A:i8}{d:Addr}(l:s.heap.IsTuple d its)(h:∀e,IsEnum e (s.heap.objs.size+1) s.heap.objs.size 0 .none->e.IsTupleIter s.heap.objs.size d 0->e.objs.size=s.heap.objs.size+2-> (∀b o,s.heap.get? b=Z o->e.get? b=Z o)->Q (.ref (s.heap.objs.size+1)) {s with heap:=e}):im (j1 prog w) A (call (.type "enumerate") [.ref d]) Q E s:=by
 obtain⟨⟨c,m,p,q⟩,r,g,n,i⟩:=l
 replace g:c=.type "tuple":=g
 replace i:p=.seq its n:=i
 subst g i;refine callType_new F.called_enumerate ac (F.typeCall_enumerate_1 _) (F.newCall_enumerate_1 _) (λj=>F.args_object_init_2 j _) F.entry_enumerate_new (Sz d its n m q) ⟨r,?_⟩;obtain⟨a,f⟩:∃a,a=s.heap.push {cls:=.type "tuple_iterator",data:=.fields #[.ref d,.int 0 0]}:=⟨_,W⟩;have z1:a.objs.size=s.heap.objs.size+1:=by rw[f];exact U6 ..
 have t:a.get? s.heap.objs.size=Z {cls:=.type "tuple_iterator",data:=.fields #[.ref d,.int 0 0]}:=by rw[f];exact i7 _ W
 have k1:∀b o,s.heap.get? b=Z o->a.get? b=Z o:=λb o x=>by rw[f];exact d0 _ x
 rw[<-f,z1];have k:IsEnum (a.push {cls:=.type "enumerate",data:=.fields #[.none,.bool false,.ref s.heap.objs.size,On 0,.none,.none]}) (s.heap.objs.size+1) s.heap.objs.size 0 .none:=by
  have:=i7 a (o:={cls:=.type "enumerate",data:=.fields #[.none,.bool false,.ref s.heap.objs.size,On 0,.none,.none]}) W;rw[z1]at this;exact this
 exact⟨⟨_,k,W⟩,h _ k ⟨_,d0 _ t,W,W⟩ (by rw[U6,z1]) λb o x=>d0 _<|k1 b o x⟩
end PySem
namespace L2
open PySem PySem.Spec PyProof.Rows
variable{H:Hp}{pins:List (Addr×Obj)}{X:Cx}{s:d6}{σ:St}
theorem Inv.bA{h':Heap}{t':Nat}{it jt:Addr}(I:Inv X pins σ H s)(k:∀b o,b≠it->b≠jt->s.heap.get? b=Z o->h'.get? b=Z o)(f:GB X pins H it)(g:GB X pins H jt):Inv X pins σ H {s with heap:=h',toks:=t'}:=by
 obtain⟨p,j,J,t,w,x⟩:=f;obtain⟨y,l,L,A,B,C⟩:=g;have d:∀b u,H b=Z u->b≠it/\b≠jt:=λb u e=>⟨(λz=>by rw[z,p]at e;cases e),(λz=>by rw[z,y]at e;cases e)⟩;have h:∀b o,b∉[it,jt]->s.heap.get? b=Z o->h'.get? b=Z o:=λb o a e=>k b o (λz=>a<|by simp[z]) (λz=>a<|by simp[z]) e;refine I.step (g':=s.gens) (d':=s.drawn) (ch:=[it,jt]) (λb i=>?_) (λb o _ _ a e _=>h b o a e) (λb o _ _ a e _=>⟨o.slots,h b o a e⟩) (λ_ _ _ _ n=>n) (λb o a e=>⟨o,h b o a e⟩) (λ_ _ e=>e) (λ_ _ _ e=>e) (λb M e=>⟨#[],by rw[e];simp⟩) (λm D=>?_) (λb u e=>?_) I.bare
 .rcases ce.mp i with rfl|i
  .exact⟨t,j,w,x⟩
  .rw[ci.mp i];exact⟨A,l,B,C⟩
 .obtain⟨o,E,F,G,r⟩:=D;exact⟨o,E,F,k _ o (u8 j) (u8 l) G,r⟩
 .refine(I.Bi b u e).Kw (λc v a q=>?_) (λ_ q=>q) λ_ _ q=>q;have:c≠it/\c≠jt:=by
   rcases a with z|z
   .rw[z];exact d b u e
   .exact d c _ z
  exact k c v this.1 this.2 q
def pM(K:yd)(a:Addr):It:=
 ⟨λi H=>∃b x,Ae K H a b/\b[i]?=Z x,λi H v c=>∃T x,(∀b,Ae K H a b->b[i]?=Z x)/\v=.ref T/\H T=ν/\c=upd H T (.tup [.int (i:Int),x]),λi H=>∃b,Ae K H a b/\b.length=i⟩
variable{es:List r6}{kt:Nat}
theorem WL{P:m8}{w:q3}{K:yd}{pt:Pos}(a e it:Addr)(ne:e≠it):Turn P w K (.Tuple es kt pt) (pM K a) [e,it] e (λi h=>(∃old,IsEnum h e it (i:Nat) old)/\h.IsTupleIter it a i)where
 mem:=by simp
 obj:=λi h st b hb=>by
  rcases ce.mp hb with rfl|hb
  .obtain⟨⟨old,x⟩,_⟩:=st;exact⟨_,x,λv z=>by cases z⟩
  .rw[ci.mp hb];obtain⟨_,o,x,_,d⟩:=st;exact⟨o,x,λv z=>by rw[d]at z;cases z⟩
 keep:=λi h h' st k=>⟨let⟨old,x⟩:=st.1;⟨old,k e z_ _ x⟩,st.2.at λo x=>k it z_ o x⟩
 item:=by
  intro X hP hw hK hc i pins s σ H E I hf st hg;subst hP hw hK;obtain⟨xs,x,hq,hx⟩:=hg;obtain⟨its,rv,p,hz⟩:=I.tuple hq;obtain⟨u,hu,ru⟩:=rv.get hx;obtain⟨⟨old,he⟩,hit⟩:=st;have ht:s.heap.IsTuple a its.toArray:=p;have pN:a≠it:=λz=>by
   obtain⟨o,h1,h2,_⟩:=ht;obtain⟨o',g1,g2,_⟩:=hit;rw[z,g1]at h1;cases h1;rw[g2]at h2;exact absurd (Value.type.inj h2) ac
  have vX:a≠e:=λz=>by
   obtain⟨o,h1,h2,_⟩:=ht;rw[z,he]at h1;cases h1;exact absurd (Value.type.inj h2) ac
  have vY:i<its.toArray.size:=by
   have:=(ya hu).1;simpa using this
  refine wpAny_pyNext_enum_itemD (YX (A:=X.A.in1) (I.ok.hd hc) it a pN its.toArray) he ⟨hit,ht⟩ vY ne (by simp[ne,u8 vX]) λy h1 tk hy ho Zw hT hsz hk=>?_;have ey:y=u:=by
   have pO:its.toArray[i]?=Z y:=hy;rw[List.getElem?_toArray]at pO;rw[hu]at pO;exact(yb pO).symm
  subst ey;refine⟨_,W,wpAny_letOwnedTupleGo_enum ho λh2 vZ S_=>?_⟩;have le:e<s.heap.objs.size:=g6 he;have li:it<s.heap.objs.size:=by obtain⟨o,g1,_⟩:=hit;exact g6 g1
  have nT:∀b∈[e,it],b≠s.heap.objs.size:=λb hb=>by
   rcases ce.mp hb with rfl|hb
   .exact i9 le
   .rw[ci.mp hb];exact i9 li
  have I1:Inv X pins σ (upd H s.heap.objs.size<|.tup [.int (i:Int),x]) {s with heap:=s.heap.push {cls:=.type "tuple",data:=.seq #[.int i tk,y]},toks:=tk+1}:=
   I.laid (λb o q=>d0 _ q) (b5 _) ⟨AW,[.int i tk,y],.cons ⟨tk,W⟩ (.cons ru .nil),⟨_,i7 _ W,W,_,W⟩⟩
  have ff:∀b∈[e,it],GB X pins (upd H s.heap.objs.size (.tup [.int (i:Int),x])) b:=λb hb=>⟨by rw[AM (nT b hb)];exact(hf b hb).1,(hf b hb).2⟩;have I2:=Inv.bA (h':=h2) (t':=tk+1) (it:=e) (jt:=it) I1 (λb o b1 b2 q=>by
   refine(S_.2 b b1).trans ?_;by_cases hb:b=s.heap.objs.size
   .subst hb;have q:(s.heap.push {cls:=.type "tuple",data:=.seq #[.int i tk,y]}).get? s.heap.objs.size=Z o:=q;rw[i7 _ W]at q;rw[hT];exact q
   .refine hk b o b1 b2 ?_;have q:(s.heap.push {cls:=.type "tuple",data:=.seq #[.int i tk,y]}).get? b=Z o:=q;rwa [Heap.get?_push_ne _ _ _ hb]at q) (ff e z_) (ff it z_)
  refine⟨.ref s.heap.objs.size,_,I2,W,⟨_,x,(λys hy=>by rw[I.NN hy hq];exact hx),W,I.fresh,W⟩,⟨⟨y,GE vZ⟩,Zw.1.extBut S_.extBut<|u8 ne⟩,λb hb=>(ff b hb).1⟩
 done:=by
  intro X hP hw hK hc i pins s σ H E I hf st hg;subst hP hw hK;obtain⟨xs,hq,hx⟩:=hg;obtain⟨its,rv,p,hz⟩:=I.tuple hq;obtain⟨⟨old,he⟩,hit⟩:=st;have ht:s.heap.IsTuple a its.toArray:=p;have pN:a≠it:=λz=>by
   obtain⟨o,h1,h2,_⟩:=ht;obtain⟨o',g1,g2,_⟩:=hit;rw[z,g1]at h1;cases h1;rw[g2]at h2;exact absurd (Value.type.inj h2) ac
  obtain⟨f0,f1,f2,f3,f4,f5⟩:=hf it z_;have hl:=rv.length;have en:i=its.toArray.size:=by simp;exact hx.symm.trans hl
  exact wpAny_pyNext_enum_endD (YX (A:=X.A.in1) (I.ok.hd hc) it a pN its.toArray) he (by rw[<-en];exact⟨hit,ht⟩) λh' eb=>⟨W,I.turned (t':=s.toks) (λb o hb q=>eb b o hb q) f0 f1 f3 f4 f5⟩
 self:=λ_ _ _ _ _ st h=>let⟨_,x⟩:=st.1;aah x h
section
variable {pt:Pos}
def jH(K:yd)(c:TA):TI:=λd H R=>c d H λe b=>∃a f,e=[.ref a]/\Ae K b a f/\R (pM K a) b
theorem RL:q7 "enumerate"=Z (.type "enumerate"):=by decide+kernel
theorem bB{x:Str}{p pos:Pos}{e:r6}{k:TA}(m:Gl X x)(n:X.mg x=ν)(o:q7 x=Z (.type "enumerate"))(r:PA X [e] k)(t:x≠"__name__":=by decide)(f:(x==("__debug__":Str))=false:=by decide)(v:m7 [e] X.env=(false,y9 e X.env)::m7 [] X.env:=by rfl)(g:(FM pos (m7 [] X.env)).any (·.1)=false:=by rfl):PI X (.Tuple es kt pt) (.Call (.Name x p) [e] [] pos) (jH X.K k):=by
 intro pins s w H R I h;refine C7<|IP I m n o ?_ t f;refine x6 (CF (r pos pins s w H _ I h) λJ c y=>y.elim λL z d A B=>?_) v g;obtain⟨a,M,rfl,C,q⟩:=B;obtain⟨u,rfl,D⟩:=vals1 A;cases D;obtain⟨i,N,E,O⟩:=d.tuple C;refine WK (show c.heap.IsTuple a i.toArray from E) λP l F sz G=>?_;refine aah l ?_;refine⟨c.heap.objs.size+1,[c.heap.objs.size+1,c.heap.objs.size],_,_,z,W,d.kept (t':=c.toks) G,WL a _ _<|Nat.succ_ne_self _,⟨⟨_,l⟩,F⟩,λb j=>?_,q⟩;have e:c.heap.objs.size<=b:=by
  rcases ce.mp j with rfl|j
  .exact UV _
  .rw[ci.mp j];exact b5 _
 exact d.SJ e<|d.Bi.fresh e
end
variable{xs:List V}
theorem WM{K:yd}{a:Addr}{h:TE}{fs:List Nat}{Q:VK}(Ok:Nat->V->Prop)(u:Ae K H a xs)(w:xs.length<=sizeLine)(A:∀(i:Nat) (x:V) (H2:Hp) (R:VK),xs[i]?=Z x->AF H H2->(∀y k,AF H2 k->Ok i y->R y k)->h (Z (.int (i:Int))::Z x::Cu σ fs) H2 R)(B:∀D H2 ys,H D=ν->AF H H2->H2 D=Z (.lst ys)->ys.length=xs.length->(∀(i:Nat) y,ys[i]?=Z y->Ok i y)->Q (.ref D) H2):
  PM K (pM K a) Vk h fs σ H Q:=by
 intro D l;refine⟨λi m H2=>m=xs.length-i/\i<=xs.length/\AF H H2/\∃ys,H2 D=Z (.lst ys)/\ys.length=i/\∀(j:Nat) y,ys[j]?=Z y->Ok j y,⟨xs.length,z_,gU _,AF.new l,[],AD,W,λj y z=>by simp at z⟩,?_⟩;rintro i m H2 ⟨rfl,I,g,ys,r,d,s⟩;have b:=g.tup u;by_cases c:i<xs.length
 .have C:xs[i]?=Z xs[i]:=yZ c;refine .inr ⟨⟨xs,_,b,C⟩,λv k E=>?_⟩;obtain⟨T,x,n,rfl,F,rfl⟩:=E;have ex:=n xs b;have p:=AF.new (o:=.tup [.int (i:Int),x]) F;refine⟨T,.int (i:Int),x,W,Ae.of AD,?_⟩;show h _ _ _;refine A i x _ _ ex (g.trans p) λy J t q=>⟨ys,t _ _<|p _ _ r,bn (g8 (bm d) c) w,xs.length-(i+1),y_,W,c,((g.trans p).trans t).put l,ys++[y],AD,by simp[d],λj z f=>?_⟩;by_cases G:j<ys.length
  .rw[i4 G]at f;exact s j z f
  .have e:j=i:=by
    have:=(ya f).1;simp only[d7,j5]at this;lia
   subst e;rw[ii<|bm d,d,u5]at f;cases f;exact q
 .have e:i=xs.length:=by lia
  subst e;exact .inl ⟨⟨xs,b,W⟩,B D H2 ys l g r d s⟩
def Ez(xs:List V):Option Int:=match xs.getLast? with
 |some (.int j)=>Z j|_=>ν
def CT(a:List V)(i:Int)(w:Str)(xs:List V):Int:=match Ez xs with
 |some j=>if DX (.str w) [.str "take",.str "move"]=true/\BV xs.dropLast a=true/\j<i then i-1 else i|none=>i
def DD(a:List V)(i:Int)(w:Str)(xs zs:List V)(ah:Bool):Int:=match Ez (CW w xs zs)with
 |some j=>if DX (.str w) B'=true/\BV (CW w xs zs).dropLast a=true/\(j<i∨(ah=true/\j=i))then 1 else 0|none=>0
def PN:Sp:=λf H Q _=>∃(h:Addr)(a:List V)(i:Int)(r:V)(w:Str)(b c:List V)(p:Addr)(d:Bool),f=[.ref h,.int i,r,.bl d]/\H h=Z (.tup a)/\Aa a/\Rw H r w b c p/\∀e,AF H e->Q (.int<|CT a i w b+DD a i w b c d) e
def Ud:Sp:=λe H Q _=>∃(h:Addr)(a:List V)(z r:V)(w:Str)(b c:List V)(p:Addr),e=[.ref h,z,r]/\H h=Z (.tup a)/\Aa a/\Dc.Bq z/\Rw H r w b c p/\∀d,AF H d->Q (match z with| .int i=>.int (CT a i w b+DD a i w b c true)|_=>z) d
variable{l:List V}{j:Int}
theorem IC(h:l.getLast?=Z (.int j)):Ez l=Z j:=by unfold Ez;rw[h]
theorem OF{k:Str}(h:l.getLast?=Z (.str k)):Ez l=none:=by unfold Ez;rw[h]
variable{w:Str}{zs a:List V}{i:Int}{ah:Bool}
theorem YY(h:¬DX (.str w) B'=true):DD a i w xs zs ah=0:=by
 unfold DD;split
 .exact if_neg λz=>h z.1
 .rfl
theorem bC(h:BV (CW w xs zs).dropLast a=false):DD a i w xs zs ah=0:=by
 unfold DD;split
 .exact if_neg λz=>by rw[h]at z;exact d5 z.2.1
 .rfl
theorem YZ{k:Str}(h:(CW w xs zs).getLast?=Z (.str k)):DD a i w xs zs ah=0:=by
 unfold DD;rw[OF h]
theorem Ya(h:(CW w xs zs).getLast?=Z (.int j))(b:DX (.str w) B'=true)(c:BV (CW w xs zs).dropLast a=true):DD a i w xs zs ah=if j<i∨(ah=true/\j=i)then 1 else 0:=by
 unfold DD;rw[IC h];simp only[b,c,true_and]
theorem fH(h:¬DX (.str w) [.str "take",.str "move"]=true):CT a i w xs=i:=by
 unfold CT;split
 .exact if_neg λz=>h z.1
 .rfl
theorem bD(h:BV xs.dropLast a=false):CT a i w xs=i:=by
 unfold CT;split
 .exact if_neg λz=>by rw[h]at z;exact d5 z.2.1
 .rfl
theorem Yb{k:Str}(h:xs.getLast?=Z (.str k)):CT a i w xs=i:=by
 unfold CT;rw[OF h]
theorem less_int(h:xs.getLast?=Z (.int j))(b:DX (.str w) [.str "take",.str "move"]=true)(c:BV xs.dropLast a=true):CT a i w xs=if j<i then i-1 else i:=by
 unfold CT;rw[IC h];simp only[b,c,true_and]
noncomputable def Gs:List V->Int->Int
 |[.int a],j=>if a<j then j-1 else j|_,j=>j
noncomputable def Gu:List V->Int->Int
 |[.int b],j=>if b<=j then 1 else 0|_,_=>0
noncomputable def CQ:List V->V->List V
 |x::xs,j=>if x=j then xs else[]|[],_=>[]
noncomputable def Cf(xs zs:List V):V->V
 | .int j=>.int (Gs xs j+Gu zs j)|j=>j
noncomputable def Fx:List V->List V->List V->List V
 |_,_,[]=>[]|xs,zs,j::r=>Cf xs zs j::Fx (CQ xs j) (CQ zs j) r
noncomputable def LU:List V->List V->List V
 |z::zs,[x]=>match z,x with
  | .int b,.int a=>if a<b∨(b=a/\zs≠[])then .int (b+1)::zs else .int b::zs|_,_=>z::zs
 |z::zs,x::xs=>if z=x then z::LU zs xs else z::zs|zs,_=>zs
theorem RM(j:Int):Gs [] j=j:=rfl
theorem RN(j:Int):Gu [] j=0:=rfl
theorem RO(x y:V)(r:List V)(j:Int):Gs (x::y::r) j=j:=by cases x<;>rfl
theorem RP(x y:V)(r:List V)(j:Int):Gu (x::y::r) j=0:=by cases x<;>rfl
theorem Dh(j:V):Cf [] [] j=j:=by cases j<;>simp[Cf,Gs,Gu]
theorem Dk:∀q:List V,Fx [] [] q=q
 |[]=>rfl|j::r=>by
  show Cf [] [] j::Fx [] [] r=_;rw[Dh,Dk r]
theorem ID(x j:V):CQ [x] j=[]:=by simp[CQ]
variable{y:V}
theorem Jc{x:V}{r:List V}{j:V}:Cf (x::y::r) zs j=Cf [] zs j:=by
 cases j<;>simp[Cf,RO,RM]
theorem Jd{x:V}{r:List V}{j:V}:Cf xs (x::y::r) j=Cf xs [] j:=by
 cases j<;>simp[Cf,RP,RN]
variable{z:V}{x d v e t:Dc}{ks:List Str}
namespace Dc
theorem Aq{r:List V}:d.sub (z::r)=Z e↔∃x,d.sub [z]=Z x/\x.sub r=Z e:=by
 constructor
 .intro h;have:d.sub ([z]++r)=Z e:=h;obtain⟨x,a,b⟩:=Nr this;exact⟨x,a,b⟩
 .rintro⟨x,a,b⟩;have:=sub_snoc a r;rw[b]at this;exact this
theorem DR{a:Addr}{xs:List Dc} :(row a xs).sub [y]=Z x↔∃i:Nat,y=.int (i:Int)/\xs[i]?=Z x:=by
 constructor
 .intro h;rcases sub_one h with⟨c,b,i,e,d,f⟩|⟨c,g,b,k,e,_,_⟩
  .cases e;exact⟨i,d,f⟩
  .cases e
 .rintro⟨i,rfl,h⟩;rw[Gq h,Ap]
theorem DS{a:Addr}{xs:List Dc}(l:ks.length=xs.length)(n:ks.Nodup) :(tab a ks xs).sub [y]=Z x↔∃(i:Nat)(k:Str),y=.str k/\ks[i]?=Z k/\xs[i]?=Z x:=by
 constructor
 .intro h;rcases sub_one h with⟨f,b,i,e,d,c⟩|⟨f,g,b,k,e,d,c⟩
  .cases e
  .cases e;exact⟨ix ks k,k,d,Ec (AR c).1,Be l n c⟩
 .rintro⟨i,k,rfl,j,m⟩;rw[EF<|HX ks xs i n j m,Ap]
theorem GK(n:ks.Nodup){i j:Nat}{k:Str}(e:ks[i]?=Z k)(f:ks[j]?=Z k):i=j:=by
 obtain⟨l1,a⟩:=ya e;obtain⟨l2,b⟩:=ya f;have d:=B0.mp n;rcases yi i j with c|c|c
 .exact absurd (a.trans b.symm)<|d i j l1 l2 c
 .exact c
 .exact absurd (b.trans a.symm)<|d j i l2 l1 c
theorem DU{b:Type}{l:List b}{i j:Nat}{x:b}:(l.eraseIdx i)[j]?=Z x↔∃a,a≠i/\l[a]?=Z x/\j=if i<a then a-1 else a:=by
 constructor
 .intro h;by_cases c:j<i
  .rw[J7 c]at h;exact⟨j,y_,h,by rw[if_neg y_]⟩
  .rw[J8 y_]at h;exact⟨j+1,y_,h,by rw[if_pos y_];lia⟩
 .rintro⟨a,ne,h,rfl⟩;by_cases c:i<a
  .rw[if_pos c,J8 y_];have:a-1+1=a:=by lia
   rw[this];exact h
  .rw[if_neg c,J7 y_];exact h
theorem Iw{b:Type}{l:List b}{i j:Nat}{v x:b}(d:i<=l.length):(l.take i++v::l.drop i)[j]?=Z x↔(j=i/\x=v)∨∃a,l[a]?=Z x/\j=if i<=a then a+1 else a:=by
 have lt:(l.take i).length=i:=by rw[n6];lia
 constructor
 .intro h;by_cases c:j<i
  .rw[i4<|bn c<|bm lt.symm,zq c]at h;exact .inr ⟨j,h,by rw[if_neg y_]⟩
  .rw[ii y_,lt]at h;by_cases e:j=i
   .subst e;rw[u5,P3]at h;exact .inl ⟨W,(yb h).symm⟩
   .have:j-i=(j-i-1)+1:=by lia
    rw[this,P4,Do]at h;exact .inr ⟨i+(j-i-1),h,by rw[if_pos<|gT _ _];lia⟩
 .rintro(⟨rfl,rfl⟩|⟨a,h,rfl⟩)
  .rw[ii<|bm lt,lt,u5,P3]
  .by_cases c:i<=a
   .rw[if_pos c,ii<|al (bm lt)<|j6 c,lt];have:a+1-i=(a-i)+1:=by lia
    rw[this,P4,Do];have:i+(a-i)=a:=by lia
    rw[this];exact h
   .rw[if_neg c,i4 y_,zq y_];exact h
theorem PU(w:e.Wf)(h:e.sub [z]=Z t) :(BZ e z).sub [y]=Z x↔∃d,d≠z/\e.sub [d]=Z x/\y=Cf [z] [] d:=by
 rcases sub_one h with⟨a,p,i,rfl,rfl,q⟩|⟨a,g,p,k,rfl,rfl,q⟩
 .simp only[BZ,i6,DR];constructor
  .rintro⟨j,rfl,u⟩;obtain⟨b,ne,f,rfl⟩:=DU.mp u;refine⟨.int (b:Int),λe=>ne (by cases e;rfl),⟨b,W,f⟩,?_⟩;simp only[Cf,Gs,Gu,aaf];congr 1;split<;>split<;>lia
  .rintro⟨d,ne,⟨b,rfl,f⟩,rfl⟩;refine⟨if i<b then b-1 else b,?_,DU.mpr ⟨b,λe=>ne<|by rw[e],f,W⟩⟩;simp only[Cf,Gs,Gu,aaf];congr 1;split<;>split<;>lia
 .cases w with
  |tab m l G=>
   have v:=(AR q).1;have r:=Ec v;have l2:(g.eraseIdx<|ix g k).length=(p.eraseIdx<|ix g k).length:=by rw[V6,V6,m]
   simp only[BZ];rw[DS l2<|l.sublist<|TD ..];constructor
   .rintro⟨j,k2,rfl,A,B⟩;obtain⟨b,C,c,n⟩:=DU.mp A;obtain⟨D,H,o,E⟩:=DU.mp B;have F:b=D:=by
     rw[E]at n;split at n<;>split at n<;>lia
    subst F;exact⟨.str k2,λe=>C (GK l c<|by cases e;exact r),(DS m l).mpr ⟨b,k2,W,c,o⟩,W⟩
   .rintro⟨d,ne,f,rfl⟩;obtain⟨b,k2,rfl,c,o⟩:=(DS m l).mp f;have s:b≠ix g k:=λe=>ne (by rw[e,r]at c;cases c;rfl);exact⟨_,k2,W,DU.mpr ⟨b,s,c,W⟩,DU.mpr ⟨b,s,o,W⟩⟩
theorem PV(w:e.Wf)(h:e.room z=true) :(De e z v).sub [y]=Z x↔(y=z/\x=v)∨∃o,e.sub [o]=Z x/\y=Cf [] [z] o:=by
 rcases Fe h with⟨a,s,i,rfl,rfl,g⟩|⟨a,l,s,k,rfl,rfl,g⟩
 .simp only[De,i6,DR];constructor
  .rintro⟨j,rfl,q⟩;rcases(Iw g).mp q with⟨rfl,rfl⟩|⟨d,m,rfl⟩
   .exact .inl ⟨W,W⟩
   .refine .inr ⟨.int (d:Int),⟨d,W,m⟩,?_⟩;simp only[Cf,Gs,Gu];congr 1;split<;>split<;>lia
  .rintro(⟨rfl,rfl⟩|⟨o,⟨d,rfl,m⟩,rfl⟩)
   .exact⟨i,W,(Iw g).mpr<|.inl ⟨W,W⟩⟩
   .refine⟨if i<=d then d+1 else d,?_,(Iw g).mpr<|.inr ⟨d,m,W⟩⟩;simp only[Cf,Gs,Gu];congr 1;split<;>split<;>lia
 .cases w with
  |tab f r E=>
   simp only[De];have l2:(l++[k]).length=(s++[v]).length:=by simp[f]
   have A:(l++[k]).Nodup:=b7.mpr ⟨r,z_,λa B b C e=>g<|by rw[ci.mp C]at e;rw[<-e];exact B⟩;rw[DS l2 A];constructor
   .rintro⟨j,k2,rfl,n,p⟩;by_cases c:j<l.length
    .rw[i4 c]at n;rw[i4<|bn c<|bm f]at p;exact .inr ⟨.str k2,(DS f r).mpr ⟨j,k2,W,n,p⟩,W⟩
    .have q:=(ya n).1;rw[d7,j5]at q;have D:j=l.length:=by lia
     subst D;rw[ii<|b5 _,u5]at n;rw[ii<|bm f.symm,f,u5]at p;cases n;cases p;exact .inl ⟨W,W⟩
   .rintro(⟨rfl,rfl⟩|⟨o,m,rfl⟩)
    .exact⟨l.length,k,W,by rw[ii<|b5 _,u5];rfl,by rw[ii<|bm f.symm,f,u5];rfl⟩
    .obtain⟨d,k2,rfl,t,u⟩:=(DS f r).mp m;exact⟨d,k2,W,by rw[i4 (ya t).1];exact t,by rw[i4 (ya u).1];exact u⟩
theorem Hb{s n:Dc}{r:List V}(w:d.Wf)(h:d.sub [z]=Z s) :(Av d (z::r) n).sub [y]=Z x↔(y=z/\x=Av s r n)∨(y≠z/\d.sub [y]=Z x):=by
 rcases sub_one h with⟨a,t,i,rfl,rfl,g⟩|⟨a,u,t,k,rfl,rfl,g⟩
 .rw[Cw g,DR,DR];have l:=(ya g).1;constructor
  .rintro⟨j,rfl,c⟩;by_cases e:i=j
   .subst e;rw[nw l]at c;exact .inl ⟨W,(yb c).symm⟩
   .rw[r9 e]at c;exact .inr ⟨λz=>e (by cases z;rfl),j,W,c⟩
  .rintro(⟨rfl,rfl⟩|⟨ne,j,rfl,c⟩)
   .exact⟨i,W,nw l⟩
   .exact⟨j,W,by rw[r9 λe=>ne<|by rw[e]];exact c⟩
 .cases w with
  |tab q o v=>
   have m:=Be q o g;have p:=Ec (AR g).1;have l:=(ya m).1;rw[DJ m,DS q o,DS (by rw[wT];exact q) o];constructor
   .rintro⟨j,k2,rfl,b,f⟩;by_cases e:ix u k=j
    .subst e;rw[nw l]at f;rw[p]at b;cases b;exact .inl ⟨W,(yb f).symm⟩
    .rw[r9 e]at f;exact .inr ⟨λz=>e (GK o p<|by cases z;exact b),j,k2,W,b,f⟩
   .rintro(⟨rfl,rfl⟩|⟨ne,j,k2,rfl,b,f⟩)
    .exact⟨_,k,W,p,nw l⟩
    .exact⟨j,k2,W,b,by rw[r9 λe=>ne<|by rw[<-e,p]at b;cases b;rfl];exact f⟩
theorem RQ{v:V}(h:d.sub [z]=Z x):d≠leaf v:=by
 rintro rfl;rcases sub_one h with⟨a,b,i,e,_⟩|⟨a,c,b,k,e,_⟩<;>cases e
end Dc
theorem Fy(z:V)(r:List V):∀a:List V,Fx (a++[z]) [] (a++r)=a++Fx [z] [] r
 |[]=>rfl|u::a=>by
  have e:(u::a)++[z]=u::(a++[z]):=rfl;have n:CQ (u::(a++[z])) u=a++[z]:=by simp[CQ]
  show Cf (u::(a++[z])) [] u::Fx (CQ (u::(a++[z])) u) [] (a++r)=_;rw[n,Fy z r a];cases a with
  |nil=>rw[show u::([]++[z])=u::z::[]from W,Jc,Dh];rfl|cons b a=>rw[show u::(b::a++[z])=u::b::(a++[z])from W,Jc,Dh];rfl
theorem Hd(z:V)(r:List V):∀a:List V,Fx [] (a++[z]) (a++r)=a++Fx [] [z] r
 |[]=>rfl|u::a=>by
  have n:CQ (u::(a++[z])) u=a++[z]:=by simp[CQ]
  show Cf [] (u::(a++[z])) u::Fx [] (CQ (u::(a++[z])) u) (a++r)=_;rw[n,Hd z r a];cases a with
  |nil=>rw[show u::([]++[z])=u::z::[]from W,Jd,Dh];rfl|cons b a=>rw[show u::(b::a++[z])=u::b::(a++[z])from W,Jd,Dh];rfl
theorem Fz(z:V):∀a q:List V,¬a<+:q->Fx (a++[z]) [] q=q
 |[],_,h=>absurd u6 h|u::a,[],_=>rfl|u::a,j::r,h=>by
  show Cf (u::(a++[z])) [] j::Fx (CQ (u::(a++[z])) j) [] r=_;have e:Cf (u::(a++[z])) [] j=j:=by
   cases a with
   |nil=>rw[show u::([]++[z])=u::z::[]from W,Jc,Dh]|cons b a=>rw[show u::(b::a++[z])=u::b::(a++[z])from W,Jc,Dh]
  rw[e];by_cases c:u=j
  .have n:CQ (u::(a++[z])) j=a++[z]:=by simp[CQ,c]
   rw[n,Fz z a r λd=>h<|by rw[c];exact bv.mpr ⟨W,d⟩]
  .have n:CQ (u::(a++[z])) j=[]:=by simp[CQ,c]
   rw[n,Dk]
theorem He(z:V):∀a q:List V,¬a<+:q->Fx [] (a++[z]) q=q
 |[],_,h=>absurd u6 h|u::a,[],_=>rfl|u::a,j::r,h=>by
  show Cf [] (u::(a++[z])) j::Fx [] (CQ (u::(a++[z])) j) r=_;have e:Cf [] (u::(a++[z])) j=j:=by
   cases a with
   |nil=>rw[show u::([]++[z])=u::z::[]from W,Jd,Dh]|cons b a=>rw[show u::(b::a++[z])=u::b::(a++[z])from W,Jd,Dh]
  rw[e];by_cases c:u=j
  .have n:CQ (u::(a++[z])) j=a++[z]:=by simp[CQ,c]
   rw[n,He z a r λd=>h<|by rw[c];exact bv.mpr ⟨W,d⟩]
  .have n:CQ (u::(a++[z])) j=[]:=by simp[CQ,c]
   rw[n,Dk]
variable{q:List V}
theorem RS(h:a++[z]<+:a++q):[z]<+:q:=(lQ a).mp h
theorem RT{x:V}(h:Dc.Bq x):Kz x x=true:=by
 rcases h with⟨i,rfl⟩|⟨k,rfl,_⟩<;>simp[Kz]
variable{ys:List V}
theorem Bc(b:Aa xs)(c:Aa ys):BV xs ys=true↔xs=ys:=by
 constructor
 .exact GZ b c
 .rintro rfl;unfold BV;simp only[g9,beq_self_eq_true,and_true,t9,ye];intro j d;have a:j<xs.length:=by lia
  rw[cr,yZ a];exact RT<|b _<|re a
def lX(w:Str)(xs:List V):List V:=if DX (.str w) [.str "take",.str "move"]=true then xs else[]
def mX(w:Str)(xs zs:List V):List V:=if DX (.str w) B'=true then CW w xs zs else[]
def gs(w:Str)(xs zs a:List V)(z:V):V:=match z with| .int i=>.int (CT a i w xs+DD a i w xs zs true)|_=>z
noncomputable def gu(w:Str)(xs zs:List V):List V->List V->List V
 |_,[]=>[]|a,s::r=>gs w xs zs a s::gu w xs zs (a++[s]) r
theorem go_eq{w:Str}{xs zs:List V}:∀(q a ys:List V),ys.length=q.length->(∀(i:Nat)(y s:V),ys[i]?=Z y->q[i]?=Z s->y=gs w xs zs (a++q.take i) s)->ys=gu w xs zs a q
 |[],_,ys=>λl _=>by cases ys with|nil=>rfl|cons _ _=>simp at l
 |s::r,a,ys=>λl h=>by
  cases ys with
  |nil=>simp at l|cons y t=>
   have b:=h 0 y s W W;rw[U5,ge]at b;show y::t=gs w xs zs a s::gu w xs zs (a++[s]) r;rw[b];congr 1;refine go_eq r (a++[s]) t (GE l) λi c d e f=>?_;have:=h (i+1) c d (GE e) (GE f);rw[this];simp
def Hh(l a:List V):List V:=if a<+:l then l.drop a.length else[]
theorem RU(l a:List V)(s:V):CQ (Hh l a) s=Hh l (a++[s]):=by
 unfold Hh;by_cases c:a<+:l
 .obtain⟨t,rfl⟩:=c;rw[if_pos<|d8 a t,wP];cases t with
  |nil=>
   rw[if_neg λb=>by have:=b.length_le;simp only[d7,j5,u7]at this;lia];rfl
  |cons x t=>
   by_cases e:x=s
   .subst e;have b:a++[x]<+:a++x::t:=⟨t,z_⟩;rw[if_pos b];simp[CQ]
   .rw[if_neg λb=>e (bv.mp<|(lQ a).mp b).1.symm];simp[CQ,e]
 .rw[if_neg c,if_neg λb=>c<|(d8 a [s]).trans b];rfl
variable{b:List V}
theorem Gd{a:V}:Hh l b=[a]↔l=b++[a]:=by
 unfold Hh;constructor
 .intro h;split at h
  .rename_i c
   obtain⟨t,rfl⟩:=c;rw[wP]at h;rw[h]
  .cases h
 .rintro rfl;rw[if_pos<|d8 _ _,wP]
set_option tactic.hygienic true in
theorem Ge(h:Ez l=Z j):l=l.dropLast++[.int j]:=by
 unfold Ez at h;split at h
 .rename_i i e
  cases h;have ne:l≠[]:=by rintro rfl;cases e
  rw[zC ne]at e;have:=f6 ne;rw[yb e]at this;exact this.symm
 .cases h
theorem OG(b:List V)(a:V):Ez (b++[a])=match a with| .int j=>Z j|_=>none:=by
 unfold Ez;rw[List.getLast?_concat];cases a<;>rfl
theorem bE(k:Aa xs)(g:Aa b):CT b i w xs=Gs (Hh (lX w xs) b) i:=by
 unfold CT lX;by_cases d:DX (.str w) [.str "take",.str "move"]=true
 .rw[if_pos d];have h:Aa xs.dropLast:=λz l=>k z<|n8 _ l;cases f:Ez xs with
  |none=>
   show i=_;unfold Gs;split
   .rename_i a e
    rw[Gd.mp e,OG]at f;cases f
   .rfl
  |some j=>
   show(if _ then _ else _)=_;have ex:=Ge f;by_cases c:xs.dropLast=b
   .have m:Hh xs b=[.int j]:=Gd.mpr (by rw[<-c];exact ex);rw[m];simp only[Gs,d,(Bc h g).mpr c,true_and]
   .rw[if_neg λz=>c<|GZ h g z.2.1];unfold Gs;split
    .rename_i a e
     have:=Gd.mp e;exact absurd (by rw[this];simp) c
    .rfl
 .rw[if_neg d];have:Hh [] b=[]:=by unfold Hh;split<;>simp
  rw[this,RM];cases f:Ez xs with
  |none=>rfl|some j=>exact if_neg λz=>d z.1
theorem bF(k:Aa xs)(sz:Aa zs)(g:Aa b):DD b i w xs zs true=Gu (Hh (mX w xs zs) b) i:=by
 unfold DD mX;by_cases d:DX (.str w) B'=true
 .rw[if_pos d];have st:=Bx (w:=w) k sz;have h:Aa (CW w xs zs).dropLast:=λz l=>st z<|n8 _ l;cases f:Ez (CW w xs zs)with
  |none=>
   show(0:Int)=_;unfold Gu;split
   .rename_i a e
    rw[Gd.mp e,OG]at f;cases f
   .rfl
  |some j=>
   show(if _ then _ else _)=_;have ex:=Ge f;by_cases c:(CW w xs zs).dropLast=b
   .have m:Hh (CW w xs zs) b=[.int j]:=Gd.mpr (by rw[<-c];exact ex);rw[m];simp only[Gu,d,(Bc h g).mpr c,true_and];by_cases c2:j<=i
    .rw[if_pos c2,if_pos y_]
    .rw[if_neg c2,if_neg y_]
   .rw[if_neg λz=>c<|GZ h g z.2.1];unfold Gu;split
    .rename_i a e
     have:=Gd.mp e;exact absurd (by rw[this];simp) c
    .rfl
 .rw[if_neg d];have:Hh [] b=[]:=by unfold Hh;split<;>simp
  rw[this,RN];cases f:Ez (CW w xs zs)with
  |none=>rfl|some j=>exact if_neg λz=>d z.1
theorem cu{w:Str}{xs zs:List V}(c:Aa xs)(sz:Aa zs):∀(q a:List V),Aa a->Aa q->gu w xs zs a q=Fx (Hh (lX w xs) a) (Hh (mX w xs zs) a) q
 |[],_=>λ_ _=>rfl|s::r,a=>λd e=>by
  show gs w xs zs a s::gu w xs zs (a++[s]) r=Cf _ _ s::Fx (CQ _ s) (CQ _ s) r;rw[RU,RU,cu c sz r (a++[s]) (λz b=>by
   rcases am.mp b with b|b
   .exact d z b
   .rw[ci.mp b];exact e s e9) λz b=>e z (bi _ b)]
  congr 1;cases s with
  |int i=>simp only[gs,Cf,bE c d,bF c sz d]|_=>rfl
theorem RV(l:List V):Hh l []=l:=by unfold Hh;rw[if_pos u6];rfl
set_option tactic.hygienic true in
theorem up_eq(lv:V):∀(a zs:List V),Aa a->Aa zs->LU zs (a++[lv])=match zs[a.length]?,lv with
  |some (.int i),.int j=>if BV (zs.take a.length) a=true/\(j<i∨(i=j/\a.length+1<zs.length))then zs.set a.length (.int (i+1))else zs|_,_=>zs
 |[],[],_,_=>by cases lv<;>rfl|[],z::zs,_,_=>by
  have e:(BV ((z::zs).take ([]:List V).length) []=true)=True:=by simp[BV]
  cases z<;>cases lv<;>try rfl
  rename_i i _ j
  show LU (.int i::zs) [.int j]=if _ then _ else _;have c:(i=j/\([]:List V).length+1<(V.int i::zs).length)↔(i=j/\zs≠[]):=by
   cases zs<;>simp
  simp only[LU];by_cases c1:j<i∨(i=j/\zs≠[])
  .rw[if_pos c1,if_pos ⟨e.mpr trivial,c1.imp id c.mpr⟩];rfl
  .rw[if_neg c1,if_neg λz=>c1<|z.2.imp id c.mp]
 |u::a,[],_,_=>by cases lv<;>(show LU [] (u::(a++[_]))=_;simp[LU])|u::a,z::zs,g,sz=>by
  have d:Aa a:=λv b=>g v<|bi _ b;have f:Aa zs:=λv b=>sz v<|bi _ b;have k:LU (z::zs) ((u::a)++[lv])=if z=u then z::LU zs (a++[lv])else z::zs:=by
   cases a<;>rfl
  have l:(z::zs)[(u::a).length]?=zs[a.length]?:=by simp
  have st:∀n,Aa (zs.take n):=λn v b=>f v<|i1 b;have m:(BV ((z::zs).take (u::a).length) (u::a)=true)↔(z=u/\BV (zs.take a.length) a=true):=by
   rw[Bc (λv b=>sz v<|i1 b) g,Bc (st _) d];simp
  rw[k,l,up_eq lv a zs d f];cases o:zs[a.length]? with
  |none=>simp only;split<;>rfl|some c=>
   cases c with
   |int i=>
    cases lv with
    |int j=>
     simp only[m];by_cases c1:z=u
     .rw[if_pos c1];by_cases c2:BV (zs.take a.length) a=true/\(j<i∨(i=j/\a.length+1<zs.length))
      .rw[if_pos c2,if_pos ⟨⟨c1,c2.1⟩,GE c2.2⟩];rfl
      .rw[if_neg c2,if_neg λh=>c2 ⟨h.1.2,GE h.2⟩]
     .rw[if_neg c1,if_neg λh=>c1 h.1.1]
    |_=>simp only;split<;>rfl
   |_=>simp only;split<;>rfl
theorem Ma(ne:xs≠[])(c:Aa xs)(sz:Aa zs):B_ zs xs=LU zs xs:=by
 obtain⟨a,b,rfl⟩:∃a b,xs=a++[b]:=⟨xs.dropLast,xs.getLast ne,(f6 ne).symm⟩;rw[JX];refine Eq.trans ?_ (up_eq b a zs (λv d=>c v<|b9 _ d) sz).symm;cases zs[a.length]? with
 |none=>rfl|some z=>cases z<;>cases b<;>rfl
def BQ(w:Str)(xs zs q:List V):Option (List V):=
 if DX (.str w) [.str "take",.str "change"]=true/\xs<+:q then ν
 else if w="move"/\xs<+:q then Z (zs++q.drop xs.length)
 else Z (Fx (lX w xs) (mX w xs zs) q)
theorem RW{a b:Str}:DX (.str w) [.str a,.str b]=true↔w=a∨w=b:=by
 rw[show([.str a,.str b]:List V)=[a,b].map V.str from W,Ce];simp
theorem Gv:DX (.str w) B'=true↔w="put"∨w="copy"∨w="move":=by
 rw[Ce];simp[Hy]
def big(y:V):Prop:=∃i:Int,y=.int i/\10 ^ 20<=i
def Dt(v:Dc):Prop:=∀t y,v.sub t=Z (.leaf y)->¬big y
def jI(d d':Dc):Prop:=∀q y,d.sub q=Z (.leaf y)↔d'.sub q=Z (.leaf y)
theorem jI.of{d':Dc}(w:d.Wf)(f:d'.Wf)(h:Dc.Eqv d d'):jI d d':=by
 intro q y;constructor
 .intro a;obtain⟨e,b,c⟩:=Dc.Eqv.sub w f h a;cases c;exact b
 .intro a;obtain⟨e,b,c⟩:=Dc.Eqv.sub f w h.symm a;cases c;exact b
theorem Dt.of{d':Dc}(h:Dt d)(l:jI d d'):Dt d':=λt y a=>h t y<|(l _ _).mpr a
def HH(H:Hp)(v:V):Option (List V)->Prop
 |none=>v=.Al|some ys=>∃a:Addr,v=.ref a/\H a=Z (.tup ys)
def PX:Sp:=λe H Q _=>∃(t:Addr)(a:List V)(r:V)(w:Str)(c d:List V)(p:Addr),e=[.ref t,r]/\H t=Z (.tup a)/\Aa a/\a.length<=100/\Rw H r w c d p/\∀v b,AF H b->HH b v (BQ w c d a)->Q v b
theorem pre_take(a:Aa xs)(b:Aa q):BV (q.take xs.length) xs=true↔xs<+:q:=by
 rw[Bc (λz c=>b z<|i1 c) a];constructor
 .intro h;rw[<-h];exact List.take_prefix _ _
 .intro h;exact(List.prefix_iff_eq_take.mp h).symm
def PY:Sp:=λb H Q _=>∃c:Int,b=[.int c]/\∀v a,EO v->¬big v->AF H a->Q v a
def Je:Sp:=λe H Q _=>∃(c:Int)(n:Addr)(a:List Str),e=[.int c,.ref n]/\H n=Z (.lst<|a.map V.str)/\a.length<=100/\0<a.length/\(∀y∈a,CL y=true)/\∀(d:Dc)(b:Hp),AF H b->d.At b->d.ok->d.size<=2->Dt d->Q d.val b
noncomputable def RY:Option Dc->V
 |some e=>e.val|none=>.Al
def E_:Sp:=λb H Q _=>∃(d:Dc)(t:Addr)(a:List V),b=[d.val,.ref t]/\d.At H/\H t=Z (.tup a)/\Aa a/\Q (RY<|d.sub a) H
structure Wt(D:List V)(f:V->Option Dc)(qs:List (List V)):Prop where
 hd:qs.head?=Z []
 nd:qs.Nodup
 mem:∀q,q∈qs↔q=[]∨∃z x r,z∈D/\f z=Z x/\q=z::r/\(x.sub r).isSome=true
structure bG(d:Dc)(qs:List (List V)):Prop where
 hd:qs.head?=Z []
 nd:qs.Nodup
 mem:∀q,q∈qs↔(d.sub q).isSome=true
variable{f:V->Option Dc}
theorem Wt.one:Wt [] f [[]]:=⟨W,z_,λq=>by
 constructor
 .intro h;exact .inl<|ci.mp h
 .rintro(rfl|⟨z,x,r,h,_⟩)
  .simp
  .cases h⟩
variable{D:List V}
theorem Wt.push{n i:List (List V)}(h:Wt D f n)(nz:z∉D)(s:f z=Z x)(p:bG x i):Wt (D++[z]) f (n++i.map (z::·)):=by
 refine⟨?_,b7.mpr ⟨h.nd,?_,?_⟩,λq=>?_⟩
 .have:=h.hd;cases n with
  |nil=>cases this|cons a r=>exact this
 .exact List.pairwise_map.mpr<|p.nd.imp λo e=>o (b8 e).2
 .intro a t b u e;subst e;obtain⟨r,_,rfl⟩:=n9.mp u;rcases(h.mem _).mp t with c|⟨j,k,g,c,_,d,_⟩
  .cases c
  .cases d;exact nz c
 .rw[am,h.mem,n9];constructor
  .rintro((c|⟨j,k,g,c,d,l,m⟩)|⟨r,c,rfl⟩)
   .exact .inl c
   .exact .inr ⟨j,k,g,b9 _ c,d,l,m⟩
   .exact .inr ⟨z,x,r,z_,s,W,(p.mem r).mp c⟩
  .rintro(c|⟨j,k,g,c,d,l,m⟩)
   .exact .inl<|.inl c
   .rcases am.mp c with c|c
    .exact .inl<|.inr ⟨j,k,g,c,d,l,m⟩
    .have:=ci.mp c;subst this;rw[s]at d;cases d;exact .inr ⟨g,(p.mem g).mpr m,l.symm⟩
theorem Wt.all{f:List (List V)}(h:Wt D (λz=>d.sub [z]) f)(a:∀z x,d.sub [z]=Z x->z∈D):bG d f:=⟨h.hd,h.nd,λq=>by
 rw[h.mem];constructor
 .rintro(rfl|⟨z,x,r,_,b,rfl,i⟩)
  .rw[Dc.Ap];rfl
  .obtain⟨e,c⟩:=gt.mp i;rw[Dc.Aq.mpr ⟨x,b,c⟩];rfl
 .intro j;obtain⟨e,c⟩:=gt.mp j;cases q with
  |nil=>exact .inl W|cons z r=>
   obtain⟨x,g,b⟩:=Dc.Aq.mp c;exact .inr ⟨z,x,r,a z x g,g,W,by rw[b];rfl⟩⟩
variable{c:List (List V)}
theorem CA.append{d a:List Addr}{b:List (List V)}(h:CA H d b)(h':CA H a c):CA H (d++a) (b++c):=by
 induction h with
 |nil=>exact h'|cons h _ e=>exact .cons h e
variable{p:Addr}
theorem CA.get{b:List Addr}{a:List (List V)}(h:CA H b a){j:Nat}(e:b[j]?=Z p):∃xs,a[j]?=Z xs/\H p=Z (.tup xs):=by
 induction h generalizing j with
 |nil=>cases e|cons h _ c=>
  cases j with
  |zero=>cases e;exact⟨_,W,h⟩|succ j=>exact c (GE e)
def Hk(n:Nat):Sp:=λf H Q _=>∃(d:Dc)(t:Addr)(b:List V),f=[d.val,.ref t]/\d.At H/\d.ok/\d.slim/\d.deep<=n/\H t=Z (.tup b)/\b.length+d.size<=1000/\
 ∀(p:Addr)(c:List Addr)(e:List (List V))(a:Hp),AF H a->H p=ν->a p=Z (.lst (c.map V.ref))->c.length=d.size->CA a c (e.map (b++·))->bG d e->Q (.ref p) a
variable{H':Hp}
theorem WN{e:List Addr}(g:CA H' e (c.map (xs++·)))(P:bG d c):∀(j:Nat) q,e[j]?=Z q->∃zs,H' q=Z (.tup (xs++zs))/\(d.sub zs).isSome=true/\(0<j->zs≠[]):=by
 intro j z h;obtain⟨p,a,i⟩:=g.get h;rw[f8]at a;cases b:c[j]? with
 |none=>rw[b]at a;cases a|some r=>
  rw[b]at a;cases a;refine⟨r,i,(P.mem r).mp<|yc b,λk l=>?_⟩;subst l;have f:=P.hd;rw[List.head?_eq_getElem?]at f;obtain⟨m,n⟩:=ya f;obtain⟨l1,o⟩:=ya b;exact(B0.mp P.nd) 0 j m l1 k<|n.trans o.symm
theorem BH.one(F:BH H H' [t,v]):BY H H' t:=by
 have at_:=F.at_;simp only[Dc.CY]at at_;have nd:=F.nd;simp only[Dc.AH]at nd;have m:∀a∈t.AZ,a∈Dc.AH [t,v]:=λa b=>by simp only[Dc.AH];exact b9 _ b
 exact⟨F.same,at_.1,(b7.mp nd).1,λa b=>F.own a<|m a b,λa b=>F.new a<|m a b⟩
theorem BH.two(F:BH H H' [t,v]):BY H H' v:=by
 have at_:=F.at_;simp only[Dc.CY]at at_;have nd:=F.nd;simp only[Dc.AH,ge]at nd;have m:∀a∈v.AZ,a∈Dc.AH [t,v]:=λa b=>by simp only[Dc.AH,ge];exact d9 _ b
 exact⟨F.same,at_.2.1,(b7.mp nd).2.1,λa b=>F.own a<|m a b,λa b=>F.new a<|m a b⟩
theorem BH.apart(F:BH H H' [t,v]):∀a∈v.AZ,a∉t.AZ:=λa b c=>by
 have nd:=F.nd;simp only[Dc.AH,ge]at nd;exact(b7.mp nd).2.2 a c a b W
variable{lv:V}
theorem BY.insert{G H4:Hp}{s:List V}{b:Addr}(F:BH G H [t,v])(i:t.sub s=Z e)(A:e.room lv=true)(w:e.val=.ref b)(B:b∈e.AZ)(j:(e.De lv v).At H4)(k:∀a o,a≠b->H a=Z o->H4 a=Z o)(C:∀o u,H4 b≠Z (.Di o u)):BY G H4 (t.Av s (e.De lv v)):=by
 have f:=F.one;have g:=F.two;have P:=Dc.BF.sub i;have D:=Dc.Br t f.at_;have m:=Dc.Sn (v:=v) A;have p:e.AZ.Nodup:=by
  obtain⟨l,r,E,_⟩:=Dc.Co (n:=e) D f.nd i;have:=f.nd;rw[E]at this;exact(b7.mp (b7.mp this).1).2.1
 refine f.edit i w B ((Dc.JU ..).trans w) j k (m.nodup_iff.mpr<|b7.mpr ⟨p,g.nd,λx I y J z=>F.apart y J<|by rw[<-z];exact P.AZ x I⟩) (λc q=>?_) λc q=>?_
 .by_cases d:c=b
  .rw[d];exact C
  .rcases am.mp (m.mem_iff.mp q)with h|h
   .exact DA (Dc.there f.at_<|P.AZ c h) (f.own c<|P.AZ c h) λo=>k c o d
   .exact DA (Dc.there g.at_ h) (g.own c h) λo=>k c o d
 .rcases am.mp (m.mem_iff.mp q)with h|h
  .exact .inl h
  .exact .inr ⟨F.apart c h,g.new c h⟩
theorem Dc.PZ(h:e.ok)(b:v.ok)(sz:Dc.Bq z):(Dc.De e z v).ok:=by
 cases e with
 |leaf w=>cases z<;>exact h|row a c=>
  cases z with
  |int i=>
   simp only[Dc.De,Dc.ok]at h⊢;refine Dc.BX.mpr λy q=>?_;rcases am.mp q with q|q
   .exact Dc.BX.mp h y<|i1 q
   .rcases ce.mp q with rfl|q
    .exact b
    .exact Dc.BX.mp h y (zm q)
  |_=>exact h
 |tab a f c=>
  cases z with
  |str k=>
   simp only[Dc.De,Dc.ok]at h⊢;refine⟨λy q=>?_,Dc.BX.mpr λy q=>?_⟩
   .rcases am.mp q with q|q
    .exact h.1 y q
    .rw[ci.mp q];rcases sz with⟨i,e⟩|⟨g,e,d⟩
     .cases e
     .cases e;exact d
   .rcases am.mp q with q|q
    .exact Dc.BX.mp h.2 y q
    .rw[ci.mp q];exact b
  |_=>exact h
theorem Ik{v:V}(h:¬big v):Dt (.leaf v):=λt y e=>by
 cases t with
 |nil=>cases e;exact h|cons z r=>exact absurd W (Dc.RQ (v:=v) (Dc.Aq.mp e).choose_spec.1)
theorem S'{a:Addr}:Dt (.row a []):=λt y e=>by
 cases t with
 |nil=>cases e|cons z r=>
  obtain⟨x,b,_⟩:=Dc.Aq.mp e;obtain⟨i,_,h⟩:=Dc.DR.mp b;simp at h
theorem TB{a:Addr}:Dt (.tab a [] []):=λt y e=>by
 cases t with
 |nil=>cases e|cons z r=>
  obtain⟨x,b,_⟩:=Dc.Aq.mp e;obtain⟨i,k,_,_,h⟩:=(Dc.DS W zv).mp b;simp at h
theorem TC{a:Addr}{v:V}(h:¬big v):Dt (.row a [.leaf v]):=λt y e=>by
 cases t with
 |nil=>cases e|cons z r=>
  obtain⟨x,c,b⟩:=Dc.Aq.mp e;obtain⟨i,_,g⟩:=Dc.DR.mp c;rw[ci.mp<|yc g]at b;exact Ik h r y b
theorem TF{a:Addr}{k:Str}{v:V}(h:¬big v):Dt (.tab a [k] [.leaf v]):=λt y e=>by
 cases t with
 |nil=>cases e|cons z r=>
  obtain⟨x,c,b⟩:=Dc.Aq.mp e;obtain⟨i,k,_,_,g⟩:=(Dc.DS W z_).mp c;rw[ci.mp<|yc g]at b;exact Ik h r y b
structure Gw(H:Hp)(w:Str)(zs rest:List V):Prop where
 pc:w="put"∨w="change"->∃v:Dc,rest=[v.val]/\v.At H/\v.ok/\v.size<=2/\Dt v
 cm:w="copy"∨w="move"->∃p2,rest=[.ref p2]/\H p2=Z (.tup zs)
 ak:w="ask"->∃v:Dc,rest=[v.val]/\v.At H/\v.ok/\v.size<=40
 is:w="is"->∃x:Str,rest=[.str x]
variable{rest:List V}
theorem Gw.up(h:Gw H w zs rest)(s:AF H H'):Gw H' w zs rest:=
 ⟨λe=>by obtain⟨v,a,b,c⟩:=h.pc e;exact⟨v,a,Dc.AS s b,c⟩,λe=>by obtain⟨p,a,b⟩:=h.cm e;exact⟨p,a,s _ _ b⟩,λe=>by obtain⟨v,a,b,c⟩:=h.ak e;exact⟨v,a,Dc.AS s b,c⟩,h.is⟩
structure Rx(H:Hp)(r:V)(w:Str)(xs zs:List V)(p:Addr):Prop where
 rw:Rw H r w xs zs p
 th:∃(a:Addr)(rest:List V),r=.ref a/\H a=Z (.tup (.str w::.ref p::rest))/\Gw H w zs rest
theorem Rx.up{H H':Hp}{r:V}{w:Str}{xs zs:List V}{p:Addr}(h:Rx H r w xs zs p)(s:AF H H'):Rx H' r w xs zs p:=by
 obtain⟨b,a,rest,e,c,d⟩:=h;exact⟨b.up s,a,rest,e,s _ _ c,d.up s⟩
mutual
theorem Dc.Il{H:Hp}:∀d:Dc,d.At H->d.ok->d.size<64->d.tr.doc/\d.tr.deep<=d.size
 | .leaf v=>λ_ h _=>by
  rcases(show EO v from h)with⟨i,rfl,_⟩|⟨x,rfl,f⟩
  .exact⟨trivial,b5 _⟩
  .have:=MG f;exact⟨show x.length<=100 by lia,b5 _⟩
 | .row a b=>λt h z=>by
  simp only[Dc.ok]at h;simp only[Dc.At]at t;simp only[Dc.size]at z;obtain⟨c,e⟩:=Dc.Pa b t.2 h<|g8 (fr _ _) z;exact⟨c,by simp only[Dc.tr,Pt.deep,Dc.size];exact rs e _⟩
 | .tab a j b=>λt h z=>by
  simp only[Dc.ok]at h;simp only[Dc.At]at t;simp only[Dc.size]at z;obtain⟨c,e⟩:=Dc.Pa b t.2.2.2 h.2<|g8 (fr _ _) z;have g:=Dc.GD b;refine⟨⟨?_,t.2.2.1,λ_ _=>rfl,by have:=t.2.1;exact g8 (al (bm this)<|al g<|fr _ _) z,c⟩,by simp only[Dc.tr,Pt.deep,Dc.size];exact rs e _⟩;rw[Dc.Gr,be];exact t.2.1
theorem Dc.Pa{H:Hp}:∀xs:List Dc,Dc.CY H xs->Dc.MH xs->Dc.Ab xs<64->Pt.MX (Dc.RH xs)/\Pt.FZ (Dc.RH xs)<=Dc.Ab xs
 |[]=>λ_ _ _=>⟨trivial,b5 _⟩|x::r=>λt h z=>by
  simp only[Dc.MH]at h;simp only[Dc.CY]at t;simp only[Dc.Ab]at z;obtain⟨a,b⟩:=Dc.Il x t.1 h.1<|g8 (gT _ _) z;obtain⟨c,d⟩:=Dc.Pa r t.2 h.2<|g8 (fr _ _) z;exact⟨⟨a,c⟩,by simp only[Dc.RH,Pt.FZ,Dc.Ab];exact L1.mpr ⟨j6 b,al d<|fr _ _⟩⟩
end
theorem Dc.jJ(d:Dc)(b:Bool):d.tr≠.bl b:=by
 cases d with
 |leaf v=>cases v<;>simp[Dc.tr]|row a c=>simp[Dc.tr]|tab a e c=>simp[Dc.tr]
theorem BY.jK(F:BY H H' d):BH H H' [d]:=
 ⟨F.same,by simp only[Dc.CY];exact⟨F.at_,trivial⟩,by simp only[Dc.AH,ge];exact F.nd,λa b=>F.own a (by simpa only[Dc.AH,ge]using b),λa b=>F.new a (by simpa only[Dc.AH,ge]using b)⟩
theorem BH.taken{G H4:Hp}{s:List V}{b:Addr}(F:BY G H t)(v:t.sub s=Z e)(D:e.sub [lv]=Z x)(E:e.val=.ref b)(L:b∈e.AZ)(M:b∈(e.BZ lv).AZ)(w:(e.BZ lv).At H4)(p:∀a o,a≠b->H a=Z o->H4 a=Z o)(N:∀o u,H4 b≠Z (.Di o u)):BH G H4 [t.Av s (e.BZ lv),x]:=by
 have P:=Dc.BF.sub v;have O:=Dc.BF.sub D;have Q:=Dc.Br t F.at_;have R:=Dc.Br e (P.at_ F.at_);have A:=Dc.So R D;obtain⟨l,r,S,T⟩:=Dc.Co (n:=e.BZ lv) Q F.nd v;have j:=F.nd;rw[S]at j;obtain⟨U,n2,X⟩:=b7.mp j;obtain⟨n4,Y,ζ⟩:=b7.mp U;obtain⟨ξ,x2,I⟩:=b7.mp (A.nodup_iff.mpr Y);have i:∀c,c∈(e.BZ lv).AZ->c∈e.AZ:=λc d=>A.mem_iff.mp (d9 _ d);have f:∀c,c∈x.AZ->c∈e.AZ:=λc d=>A.mem_iff.mp (b9 _ d);have J:b∉x.AZ:=λz=>I b z b M W;have k:BY G H4 (t.Av s (e.BZ lv)):=F.edit v E L ((Dc.Qw ..).trans E) w p x2 (λc d=>by
   by_cases m:c=b
   .rw[m];exact N
   .exact DA (Dc.there F.at_ (P.AZ c (i c d))) (F.own c (P.AZ c (i c d))) λo=>p c o m)
  (λc d=>.inl (i c d))
 have B:x.At H4:=Dc.Cc x (λc d o h=>p c o (λz=>J<|by rw[<-z];exact d) h)<|O.at_<|P.at_ F.at_;refine⟨k.same,by simp only[Dc.CY];exact⟨k.at_,B,trivial⟩,?_,λc d=>?_,λc d=>?_⟩
 .simp only[Dc.AH,ge];refine b7.mpr ⟨k.nd,ξ,λy g z C q=>?_⟩;subst q;rw[T]at g;rcases am.mp g with g|g
  .rcases am.mp g with g|g
   .exact ζ y g y (f y C) W
   .exact I y C y g W
  .exact X y (d9 _<|f y C) y g W
 .simp only[Dc.AH,ge]at d;rcases am.mp d with d|d
  .exact k.own c d
  .exact DA (Dc.there F.at_<|P.AZ c<|f c d) (F.own c<|P.AZ c<|f c d) λo=>p c o λz=>J<|by rw[<-z];exact d
 .simp only[Dc.AH,ge]at d;rcases am.mp d with d|d
  .exact k.new c d
  .exact F.new c<|P.AZ c<|f c d
theorem Ue(a:d.At H)(b:e.At H')(l:Dc.CZ d e):jI d e:=jI.of (Dc.Br d a) (Dc.Br e b)<|Dc.EE d e l
theorem Dc.Pb{n:Dc}(h:e.sub [z]=Z x):(e.Av [z] n).val=e.val:=by
 rcases Dc.sub_one h with⟨a,b,i,rfl,rfl,c⟩|⟨a,d,b,k,rfl,rfl,c⟩<;>rfl
theorem Gw.no(h:w∈(lqA:List Str)):Gw H w zs rest:=by
 simp only[ce,t7,or_false]at h;rcases h with rfl|rfl|rfl<;>exact⟨λz=>absurd z ac,λz=>absurd z ac,λz=>absurd z ac,λz=>absurd z ac⟩
theorem Gw.val(h:w="put"∨w="change")(a:v.At H)(b:v.ok)(c:v.size<=2)(d:Dt v):Gw H w zs [v.val]:=by
 rcases h with rfl|rfl<;>exact⟨λ_=>⟨v,W,a,b,c,d⟩,λz=>absurd z ac,λz=>absurd z ac,λz=>absurd z ac⟩
theorem Gw.two(h:w="copy"∨w="move")(a:H p=Z (.tup zs)):Gw H w zs [.ref p]:=by
 rcases h with rfl|rfl<;>exact⟨λz=>absurd z ac,λ_=>⟨p,W,a⟩,λz=>absurd z ac,λz=>absurd z ac⟩
theorem Gw.ask(a:v.At H)(b:v.ok)(c:v.size<=40):Gw H "ask" zs [v.val]:=⟨λz=>absurd z ac,λz=>absurd z ac,λ_=>⟨v,W,a,b,c⟩,λz=>absurd z ac⟩
theorem Gw.rl{x:Str}:Gw H "is" zs [.str x]:=⟨λz=>absurd z ac,λz=>absurd z ac,λz=>absurd z ac,λ_=>⟨x,W⟩⟩
theorem TJ(h:¬(DX (.str w) [.str "take",.str "change"]=true/\xs<+:q)):∃q',BQ w xs zs q=Z q':=by
 unfold BQ;rw[if_neg h];split<;>exact⟨_,W⟩
theorem HH.up{v:V}{o:Option (List V)}(h:HH H v o)(s:AF H H'):HH H' v o:=by
 cases o with
 |none=>exact h|some d=>obtain⟨b,a,c⟩:=h;exact⟨b,a,s _ _ c⟩
noncomputable def GG:Option (List V)->Option (List V)->Bool
 |some x,Z y=>decide (x<+:y)|_,_=>false
def FG(o:Option (List V)):Prop:=∀a,o=Z a->Aa a
def Fg(w:Str)(xs:List V):Option (List V):=if DX (.str w) [.str "take",.str "change"]=true then Z xs else ν
def CB(w:Str)(xs:List V):Option (List V):=if w="move"then Z xs else ν
def Cr(w:Str)(xs:List V):Option (List V):=if DX (.str w) [.str "ask",.str "copy"]=true then Z xs else ν
def HI(w:Str)(xs zs:List V):Option (List V):=if DX (.str w) B'=true then Z (CW w xs zs).dropLast else ν
def Gf(w:Str)(xs zs:List V):Option (List V):=if w="lacks"then Z xs else if DX (.str w) B'=true/\Nw ((CW w xs zs).getLastD .Al)=false then Z (CW w xs zs)else ν
def Im(w:Str)(xs zs:List V)(b:Str)(a c:List V):Bool:=GG (Cr w xs) (Fg b a)||GG (Cr w xs) (HI b a c)||(GG (Cr w xs) (CB b a)&& !decide (Cr w xs=CB b a))
def Ef(w:Str)(xs zs:List V)(c:Str)(a b:List V):Bool:= !decide (w="lacks")&&(Gf w xs zs).isSome&&decide (Gf w xs zs=Gf c a b)
def Dm(o:Option (List V))(a:List (List V)):Bool:=a.any λy=>GG o<|some y
def FR(w:Str)(xs zs:List V)(c:Str)(a b:List V):Bool:=Dm (Gf w xs zs)<|Bs c a b
def Du(w:Str)(xs zs:List V)(b:Str)(a c:List V):Bool:=(CB w xs).isSome&&decide (CB w xs=CB b a)
def DK(w:Str)(xs zs:List V)(c:Str)(a b:List V):Bool:=GG (CB w xs)<|HI c a b
def Er(w:Str)(xs zs:List V)(c:Str)(a b:List V):Bool:=Dm (Fg w xs) (Bs c a b)||Im w xs zs c a b||Ef w xs zs c a b||FR w xs zs c a b||Du w xs zs c a b||(DK w xs zs c a b&&DK c a b w xs zs)
def DM(w:Str)(xs zs:List V)(c:Str)(a b:List V):Bool:=Er w xs zs c a b||Er c a b w xs zs
theorem Ko(h:Aa xs):FG (Fg w xs):=λa e=>by unfold Fg at e;split at e<;>cases e;exact h
theorem FN(h:Aa xs):FG (CB w xs):=λa e=>by unfold CB at e;split at e<;>cases e;exact h
theorem Pc(h:Aa xs):FG (Cr w xs):=λa e=>by unfold Cr at e;split at e<;>cases e;exact h
theorem Kp(h:Aa xs)(h':Aa zs):FG (HI w xs zs):=λb e=>by
 unfold HI at e;split at e<;>cases e;exact λz a=>Bx h h' z<|n8 _ a
theorem TK{ws:List V}(a:H p=Z (.tup xs)):HH H (if DX (.str w) ws=true then .ref p else .Al) (if DX (.str w) ws=true then Z xs else ν):=by
 split
 .exact⟨p,W,a⟩
 .rfl
theorem Jf(a:H p=Z (.tup xs)):HH H (if decide (V.str w=.str "move")=true then .ref p else .Al) (CB w xs):=by
 unfold CB;by_cases c:w="move"
 .rw[if_pos c,if_pos<|by rw[c];decide];exact⟨p,W,a⟩
 .rw[if_neg c,if_neg<|GE c];rfl
def LV:Sp:=λd H Q _=>∃(u v:V)(a b:Option (List V)),d=[u,v]/\HH H u a/\HH H v b/\FG a/\FG b/\∀c,AF H c->Q (.bl<|GG a b) c
def KL:Sp:=λe H Q _=>∃(u:V)(a:Option (List V))(l:Addr)(c:List Addr)(b:List (List V)),e=[u,.ref l]/\HH H u a/\FG a/\H l=Z (.lst<|c.map V.ref)/\CA H c b/\(∀f∈b,Aa f)/\b.length<=10/\∀d,AF H d->Q (.bl<|Dm a b) d
def TL:Sp:=λd H Q _=>∃(r:V)(w:Str)(b c:List V)(p:Addr),d=[r]/\Rw H r w b c p/\∀v a,AF H a->HH a v (HI w b c)->Q v a
def Fh(f:Str->List V->List V->Str->List V->List V->Bool):Sp:=λi H Q _=>∃(r:V)(w:Str)(c d:List V)(p:Addr)(e:V)(g:Str)(a b:List V)(j:Addr),i=[r,e]/\Rw H r w c d p/\Rw H e g a b j/\∀h,AF H h->Q (.bl<|f w c d g a b) h
section
theorem Ug(I:Inv X pins σ H s){A:i8}(l:A.units<cLine){a b:Addr}(m:H a=Z (.tup xs))(n:H b=Z (.tup ys))(o:∀z∈xs,Cj z=true)(p:∀z∈ys,Cj z=true):C6 A s (.ref a) (.ref b) (BV xs ys):=by
 obtain⟨f,g,q,_⟩:=I.tuple<|Ae.of (K:=X.K) m;obtain⟨c,h,r,_⟩:=I.tuple<|Ae.of (K:=X.K) n;have t:f.toArray.size=xs.length:=by rw[b6];exact g.length.symm
 have u:c.toArray.size=ys.length:=by rw[b6];exact h.length.symm
 have d:=aal (A:=A) (e:=λj=>Kz (xs.getD j .Al) (ys.getD j .Al)) q r l (λj v w=>by
  obtain⟨x,i,B⟩:=JV g v;obtain⟨y,k,C⟩:=JV h w;have D:xs.getD j .Al=x:=by rw[cr,i];rfl
  have E:ys.getD j .Al=y:=by rw[cr,k];rfl
  show F5 _ _ _ _ (Kz (xs.getD j .Al) (ys.getD j .Al));rw[D,E];exact Lp B C (o _ (yc i)) (p _ (yc k)))
 rw[t,u]at d;exact d
end
inductive jL(x y:V)(H:Hp)(Q:VK):Prop|mk(a b:Option (List V))(c:HH H x a)(d:HH H y b)(e:FG a)(f:FG b)(q:Q (.bl (decide (a=b))) H)
theorem Yc(a:Aa xs)(b:Aa ys):BV xs ys=decide ((Z xs:Option (List V))=Z ys):=by
 by_cases c:xs=ys
 .rw[decide_eq_true<|by rw[c],(Bc a b).mpr c]
 .rw[decide_eq_false<|GE c];exact yj.mpr λz=>c<|(Bc a b).mp z
theorem is_tup(I:Inv X pins σ H s){a:Addr}(b:H a=Z (.tup xs)):∃its:Array bd,s.heap.IsTuple a its:=by
 obtain⟨its,_,p,_⟩:=I.tuple<|Ae.of (K:=X.K) b;exact⟨_,p⟩
theorem fI(f:X.A.units<cLine):EN X (ut .Eq) jL:=by
 intro pins s D H x y v u Q I m c h;obtain⟨a,b,n,d,w,B,q⟩:=h;cases a with
 |none=>
  have ex:x=.Al:=n;subst ex;cases(show v=u0 from m);cases b with
  |none=>
   have g:y=.Al:=d;subst g;cases(show u=u0 from c);exact G9 _ _ _ _ ⟨.bl _,H,I,W,q⟩
  |some o=>
   obtain⟨p,rfl,e⟩:=d;cases c;obtain⟨i,j⟩:=is_tup I e;exact R9 j f _ _ _ _ ⟨.bl _,H,I,W,q⟩
 |some C=>
  obtain⟨p,rfl,e⟩:=n;cases m;cases b with
  |none=>
   have g:y=.Al:=d;subst g;cases(show u=u0 from c);obtain⟨i,j⟩:=is_tup I e;exact R7 j f _ _ _ _ ⟨.bl _,H,I,W,q⟩
  |some o=>
   obtain⟨E,rfl,k⟩:=d;cases c;have r:=w C W;have t:=B o W;rw[<-Yc r t]at q;exact Ug I f e k (λz l=>(r z l).flat) (λz l=>(t z l).flat) _ _ _ _ ⟨.bl _,H,I,W,q⟩
def gw(H:Hp)(v:V):Option (List V)->Prop
 |none=>v=.Al|some ys=>FE H v ys
theorem gw.up{H H':Hp}{v:V}{o:Option (List V)}(h:gw H v o)(s:AF H H'):gw H' v o:=by
 cases o with
 |none=>exact h|some a=>exact FE.up h s
inductive jM(x y:V)(H:Hp)(Q:VK):Prop|mk(a b:Option (List V))(c:gw H x a)(d:gw H y b)(e:FG a)(f:FG b)(q:Q (.bl (decide (a=b))) H)
theorem Gx{l:V}(h:ys.getLast?=Z l):ys=ys.dropLast++[l]:=by
 have ne:ys≠[]:=by rintro rfl;cases h
 rw[zC ne]at h;have:=f6 ne;rw[yb h]at this;exact this.symm
theorem fJ(hu:X.A.units+64<cLine):EN X (ut .Eq) jM:=by
 intro pins s σ H x y v u Q I E p h;obtain⟨a,b,V,M,sa,sb,q⟩:=h;cases a with
 |none=>
  have ex:x=.Al:=V;subst ex;cases(show v=u0 from E);cases b with
  |none=>
   have F:y=.Al:=M;subst F;cases(show u=u0 from p);exact G9 _ _ _ _ ⟨.bl _,H,I,W,q⟩
  |some f=>
   obtain⟨t,P,C,rfl,N,R,O⟩:=M;cases p;obtain⟨g,S⟩:=is_tup I N;exact R9 S y_ _ _ _ _ ⟨.bl _,H,I,W,q⟩
 |some i=>
  obtain⟨t,P,C,rfl,N,R,O⟩:=V;cases E;cases b with
  |none=>
   have F:y=.Al:=M;subst F;cases(show u=u0 from p);obtain⟨g,S⟩:=is_tup I N;exact R7 S y_ _ _ _ _ ⟨.bl _,H,I,W,q⟩
  |some f=>
   obtain⟨t',G,d,rfl,T,r,l⟩:=M;cases p;have Y:=sa i W;have ζ:=sb f W;have m:Aa i.dropLast:=λz w=>Y z<|n8 _ w;have n:Aa f.dropLast:=λz w=>ζ z<|n8 _ w;have U:=Y C<|yu O;have J:=ζ d<|yu l;obtain⟨g,ξ,p1,_⟩:=I.tuple<|Ae.of (K:=X.K) N;obtain⟨o,r2,p2,_⟩:=I.tuple<|Ae.of (K:=X.K) T;have e1:g.toArray.size=2:=by rw[b6];exact ξ.length.symm
   have e2:o.toArray.size=2:=by rw[b6];exact r2.length.symm
   have L:=aal (A:=X.A) (e:=λj=>match j with|0=>BV i.dropLast f.dropLast|_=>Kz C d) p1 p2 y_ (λj h1 h2=>by
    obtain⟨x,B,E⟩:=JV ξ h1;obtain⟨y,D,p⟩:=JV r2 h2
    match j,B,D with
    |0,B,D=>
     cases B;cases D;have w1:g.toArray[0]=i3 P:=E;have w2:o.toArray[0]=i3 G:=p;rw[w1,w2];show F5 _ _ _ _ (BV i.dropLast f.dropLast);by_cases e:P=G
     .subst e;rw[R]at r;have ed:i.dropLast=f.dropLast:=HO.tup.inj<|yb r;rw[ed,(Bc n n).mpr W];exact C5 _
     .exact acp e (Ug I (A:=X.A.in1) (by show X.A.units+1<cLine;lia) R r (λz w=>(m z w).flat) λz w=>(n z w).flat)
    |1,B,D=>
     cases B;cases D;exact Lp E p U.flat J.flat
    |k+2,B,D=>simp at B)
   rw[e1,e2]at L;refine L _ _ _ _ ⟨.bl _,H,I,?_,q⟩;show x9 _=x9 _;congr 1;have e3:((pu<|min 2 2).all λj=>match j with|0=>BV i.dropLast f.dropLast|_=>Kz C d)=(BV i.dropLast f.dropLast&&Kz C d):=by
    show([0,1].all _)=_;simp[O0,List.all_nil]
   rw[e3];have ex:=Gx O;have F:=Gx l;by_cases c:i=f
   .rw[decide_eq_true<|by rw[c]];subst c;rw[O]at l;cases l;rw[(Bc m m).mpr W,RT U];rfl
   .rw[decide_eq_false<|GE c];cases c1:BV i.dropLast f.dropLast with
    |false=>rfl|true=>
     cases c2:Kz C d with
     |false=>rfl|true=>
      exfalso;apply c;rw[ex,F,GZ m n c1,step_eq U J c2]
theorem Pd{v:V}(h:WE H v w xs zs):gw H v (Gf w xs zs):=by
 unfold WE at h;unfold Gf;split at h
 .rename_i c;rw[if_pos c];exact h
 .rename_i c
  rw[if_neg c];split at h
  .rename_i c2;rw[if_pos c2];exact h
  .rename_i c2;rw[if_neg c2];exact h
theorem Io(h:Aa xs)(h':Aa zs):FG (Gf w xs zs):=λa e=>by
 unfold Gf at e;split at e
 .cases e;exact h
 .split at e<;>cases e;exact Bx h h'
theorem Yd(h:Gf w xs zs=Z ys)(a:xs.length<=100)(lz:zs.length<=100):ys.length<=100:=by
 unfold Gf at h;split at h
 .cases h;exact a
 .split at h<;>cases h;unfold CW;split
  .exact lz
  .split
   .rw[Cq];exact lz
   .exact a
noncomputable def E'(c:List V)(d:Str)(a b:List V)(ah:Bool):V->V
 | .int i=>.int (CT c i d a+DD c i d a b ah)|l=>l
def Bt(w:Str)(xs zs:List V)(c:Str)(a b:List V)(first:Bool):Option (List V):=(BQ c a b (CW w xs zs).dropLast).map λd=>d++[E' (CW w xs zs).dropLast c a b (!first)<|(CW w xs zs).getLastD .Al]
def Mb:Sp:=λi H Q _=>∃(r:V)(w:Str)(d e:List V)(p:Addr)(f:V)(g:Str)(a b:List V)(j:Addr)(first:Bool)(h:List V),i=[r,f,.bl first]/\Rw H r w d e p/\Rw H f g a b j/\DX (.str w) B'=true/\Bt w d e g a b first=Z h/\∀(t:Addr)(c:Hp),AF H c->c t=Z (.tup h)->Q (.ref t) c
def Ca(zs xs:List V):List V:=
 match zs[xs.length-1]?,xs.getLast? with
 |some (.int i),Z (.int j)=>if BV (zs.take (xs.length-1)) xs.dropLast=true/\j<i then zs.set (xs.length-1) (.int (i-1))else zs|_,_=>zs
theorem bH(a:xs.length<=100)(lz:zs.length<=100):(CW w xs zs).length<=100:=by
 unfold CW;split
 .exact lz
 .split
  .rw[Cq];exact lz
  .exact a
theorem Pe:∀(q xs zs:List V),(Fx xs zs q).length=q.length
 |[],_,_=>rfl|j::r,xs,zs=>by
  show(Cf xs zs j::Fx (CQ xs j) (CQ zs j) r).length=_;rw[g7,Pe r,g7]
theorem Gg{q':List V}(h:BQ w xs zs q=Z q'):q'.length<=zs.length+q.length:=by
 unfold BQ at h;split at h
 .cases h
 .split at h
  .cases h;rw[d7,t8];lia
  .cases h;rw[Pe];exact fr _ _
theorem Eg(zs a:List V)(lv:V):Ca zs (a++[lv])=match zs[a.length]?,lv with
  |some (.int i),.int j=>if BV (zs.take a.length) a=true/\j<i then zs.set a.length (.int (i-1))else zs|_,_=>zs:=by
 unfold Ca;have b:(a++[lv]).length-1=a.length:=by simp
 have c:(a++[lv]).getLast?=Z lv:=by simp
 have d:(a++[lv]).dropLast=a:=by simp
 rw[b,c,d];cases zs[a.length]? with
 |none=>rfl|some z=>cases z<;>cases lv<;>rfl
theorem RZ(h:(BV (zs.take a.length) a&&decide (a.length<zs.length)&&Nw (zs.getD a.length .Al))=false):Ca zs (a++[lv])=zs:=by
 refine(Eg zs a lv).trans ?_;by_cases b:a.length<zs.length
 .have g:zs[a.length]?=Z zs[a.length]:=yZ b;have d:zs.getD a.length .Al=zs[a.length]:=by rw[cr,g];rfl
  rw[d,decide_eq_true b,abC]at h;rw[g];cases e:zs[a.length]with
  |int i=>
   rw[e]at h;have f:BV (zs.take a.length) a=false:=by simpa[Nw]using h
   cases lv with
   |int j=>exact if_neg λc=>by rw[f]at c;exact d5 c.1|_=>rfl
  |_=>rfl
 .rw[rS.mpr y_]
theorem TM{k:Str}:Ca zs (a++[.str k])=zs:=by
 refine(Eg zs a _).trans ?_;cases zs[a.length]? with
 |none=>rfl|some z=>cases z<;>rfl
theorem TN(g:zs[a.length]?=Z (.int i))(b:BV (zs.take a.length) a=true):Ca zs (a++[.int j])=if j<i then zs.set a.length (.int (i-1))else zs:=by
 refine(Eg zs a _).trans ?_;rw[g];by_cases c:j<i
 .rw[if_pos c];exact if_pos ⟨b,c⟩
 .rw[if_neg c];exact if_neg λz=>c z.2
def OH:Sp:=λd H Q _=>∃(t p:Addr)(b a:List V),d=[.ref t,.ref p]/\H t=Z (.tup b)/\H p=Z (.tup a)/\a≠[]/\Aa b/\Aa a/\b.length<=400/\a.length<=400/\∀q c,AF H c->c q=Z (.tup<|Ca b a)->Q (.ref q) c
set_option tactic.hygienic true in
theorem Ye{j:V}(b:Aa xs)(c:Dc.Bq j):Dc.Bq (Cf xs zs j):=by
 rcases c with⟨i,rfl⟩|⟨k,rfl,d⟩
 .refine .inl ?_;have f:0<=Gs xs (i:Int):=by
   unfold Gs;split
   .rename_i a
    rcases b (.int a) z_ with⟨m,e⟩|⟨k,e,_⟩
    .cases e;split<;>lia
    .cases e
   .exact j9 _
  have g:0<=Gu zs (i:Int):=by
   unfold Gu;split
   .split<;>lia
   .lia
  refine⟨(Gs xs (i:Int)+Gu zs (i:Int)).toNat,?_⟩;show V.int _=V.int _;rw[j4 y_]
 .exact .inr ⟨k,W,d⟩
theorem WO{j:V}(h:Aa xs):Aa (CQ xs j):=by
 cases xs with
 |nil=>intro z a;cases a|cons x r=>
  simp only[CQ];split
  .exact λz a=>h z<|bi _ a
  .intro z a;cases a
theorem OI:∀(q xs zs:List V),Aa xs->Aa q->Aa (Fx xs zs q)
 |[],_,_=>λ_ _=>λz a=>nomatch a
 |j::r,xs,zs=>λb c=>by
  intro z a;rcases ce.mp (show z∈Cf xs zs j::Fx (CQ xs j) (CQ zs j) r from a)with rfl|a
  .exact Ye b<|c j e9
  .exact OI r _ _ (WO b) (λv d=>c v<|bi _ d) z a
theorem Yf(h:Aa xs):Aa (lX w xs):=by
 unfold lX;split
 .exact h
 .intro z a;cases a
theorem F_{q':List V}(c:Aa xs)(sz:Aa zs)(b:Aa q)(h:BQ w xs zs q=Z q'):Aa q':=by
 unfold BQ at h;split at h
 .cases h
 .split at h
  .cases h;intro z a;rcases am.mp a with a|a
   .exact sz z a
   .exact b z<|zm a
  .cases h;exact OI _ _ _ (Yf c) b
theorem NF{l:V}(c:Aa xs)(d:Dc.Bq l):Dc.Bq (E' a w xs zs ah l):=by
 rcases d with⟨i,rfl⟩|⟨k,rfl,f⟩
 .refine .inl ?_;have g:0<=CT a (i:Int) w xs:=by
   unfold CT;cases e:Ez xs with
   |none=>show 0<=(i:Int);exact j9 _|some j=>
    have ex:=Ge e;rcases c (.int j) (by rw[ex];simp)with⟨m,b⟩|⟨k,b,_⟩
    .cases b;simp only;split<;>lia
    .cases b
  have h:0<=DD a (i:Int) w xs zs ah:=by
   unfold DD;split
   .split<;>lia
   .lia
  refine⟨(CT a (i:Int) w xs+DD a (i:Int) w xs zs ah).toNat,?_⟩;show V.int _=V.int _;rw[j4 y_]
 .exact .inr ⟨k,W,f⟩
theorem FC{c:Str}{n:List V}(h:DM w xs zs c a b=false)(f:n∈Bs w xs zs):∃g,BQ c a b n=Z g:=by
 refine TJ λz=>?_;unfold DM at h;simp only[AT]at h;have d:=h.2;unfold Er at d;simp only[AT]at d;have e:Dm (Fg c a) (Bs w xs zs)=false:=d.1.1.1.1.1;unfold Dm at e;have i:=(N8.mp e) n f;apply i;unfold Fg;rw[if_pos z.1];exact decide_eq_true z.2
def jN:TS:=λ_ _ _=>False
theorem bJ{st:Stmt}:PS X st jN:=λ_ _ _ _ _ _ h=>h.elim
def Fi(w:Str)(xs zs:List V)(d:Str)(a b:List V)(first:Bool):Option (List V×List V):=
 if w="put"then(Bt w xs zs d a b first).map λc=>(c,[])
 else if w="lacks"then(BQ d a b xs.dropLast).map λe=>(e++[xs.getLastD .Al],[])
 else(BQ d a b xs).bind λq=>if w="move"then(Bt w xs zs d a b first).map λc=>(q,Ca c q)else if w="copy"then(Bt w xs zs d a b first).map λc=>(q,c)else Z (q,[])
variable{fi:Bool}
theorem FT{d:Str}(e:DX (.str w) B'=true)(h:DM w xs zs d a b=false):∃c,Bt w xs zs d a b fi=Z c:=by
 obtain⟨g,f⟩:=FC (n:=(CW w xs zs).dropLast) h (by unfold Bs nC;rw[if_pos e];simp);unfold Bt;rw[f];exact⟨_,W⟩
theorem Pf{d:Str}{c:List V}(h:Bt w xs zs d a b fi=Z c):c≠[]:=by
 unfold Bt at h;cases e:BQ d a b (CW w xs zs).dropLast with
 |none=>rw[e]at h;cases h|some f=>rw[e]at h;cases h;simp
theorem Gy{i:Str}{c:List V}(j:Aa xs)(sz:Aa zs)(d:Aa a)(g:Aa b)(ne:CW w xs zs≠[])(h:Bt w xs zs i a b fi=Z c):Aa c:=by
 have st:=Bx (w:=w) j sz;unfold Bt at h;cases e:BQ i a b (CW w xs zs).dropLast with
 |none=>rw[e]at h;cases h|some l=>
  rw[e]at h;cases h;intro z f;rcases am.mp f with f|f
  .exact F_ d g (λy k=>st y<|n8 _ k) e z f
  .rw[ci.mp f];refine NF d<|st _ ?_;rw[uW,zC ne];exact List.getLast_mem ne
theorem Mc{d:Str}{c:List V}(f:xs.length<=40)(lz:zs.length<=40)(g:a.length<=40)(h:Bt w xs zs d b a fi=Z c):c.length<=81:=by
 have lt:(CW w xs zs).length<=40:=by
  unfold CW;split
  .exact lz
  .split
   .rw[Cq];exact lz
   .exact f
 unfold Bt at h;cases e:BQ d b a (CW w xs zs).dropLast with
 |none=>rw[e]at h;cases h|some i=>
  rw[e]at h;cases h;have:=Gg e;rw[yw]at this;simp only[d7,j5];lia
theorem Md(zs xs:List V):(Ca zs xs).length=zs.length:=by
 unfold Ca;split
 .split<;>simp
 .rfl
set_option tactic.hygienic true in
theorem Pg(h:Aa zs)(d:Aa xs):Aa (Ca zs xs):=by
 unfold Ca;split
 .rename_i i j f e
  split
  .rename_i c
   intro z a;rcases wp a with a|rfl
   .exact h z a
   .rcases d _ (yu e)with⟨m,b⟩|⟨k,b,_⟩
    .cases b;exact .inl ⟨(i-1).toNat,by rw[j4 y_]⟩
    .cases b
  .exact h
 .exact h
theorem Me{q':List V}(h:BQ w xs zs q=Z q')(a:q≠[])(nz:w="move"->zs≠[]):q'≠[]:=by
 unfold BQ at h;split at h
 .cases h
 .split at h
  .rename_i c
   cases h;intro z;exact nz c.1 (zH.mp z).1
  .cases h;intro z;have:=Pe q (lX w xs)<|mX w xs zs;rw[z]at this;exact a<|j7 this.symm
theorem Ip{a:Addr}(b:H a=Z (.tup (.str w::.ref p::rest)))(c:H p=Z (.tup xs))(d:Aa xs)(e:xs.length<=100)(f:w∈DB)(nx:w="put"∨w="lacks"∨w="take"∨w="move"->xs≠[])(T:Gw H w zs rest)(sz:Aa zs)(lz:zs.length<=100)(nz:w="copy"∨w="move"->zs≠[]):Rx H (.ref a) w xs zs p:=
 ⟨⟨⟨a,rest,W,b,T.cm⟩,c,d,sz,e,lz,f,nx,nz⟩,a,rest,W,b,T⟩
theorem LW{x:Str}(h:w≠x):decide (V.str w=V.str x)=false:=decide_eq_false λz=>h<|V.str.inj z
theorem WQ(a:List V)(lv:V):Gj (a++[lv]) (Z (-1)) ν=[lv]:=by
 have b:HT.Ci (a++[lv]).length 0 (Z<|-1)=a.length:=by
  simp only[HT.Ci,d7,j5];rw[if_pos ac];lia
 unfold Gj;rw[b,HT.QV,wP,d7,j5,Nat.add_sub_cancel_left];rfl
end L2
namespace L2
open PySem PySem.Spec PyProof.Rows
variable{H H':Hp}{C:Addr}{P:m8}
variable{X:Cx}{pins:List (Addr×Obj)}{σ:St}
variable{mg:Str->Option bd}{K:yd}{base:Heap}
variable{pos:Pos}
variable{Ar:i8}{od:Option Obj}{mE:m8}
variable{Ex:bd->d6->Prop}{k0 k1 k2 k3 k5:Option bd}{cl:Option Bool}{dd:Option Addr}{tl sb:List bd}{newId:String}{sn:List Str}
variable{j:Nat}{sp:Sp}{es:List r6}{Q_:List Stmt}{fd:m9}{ps:List Str}
variable{d e:Dc}{a:List V}
namespace Dc
theorem Yg{c y:Dc}{z:V}(w:e.Wf)(h:e.sub [z]=Z c){r:List V}(d:(BZ e z).sub r=Z y):∃b a,e.sub b=Z a/\¬[z]<+:b/\r=Fx [z] [] b:=by
 cases r with
 |nil=>exact⟨[],e,Ap e,λz=>(by have:=n7.mp z;cases this),W⟩|cons j r=>
  obtain⟨x,f,g⟩:=Aq.mp d;obtain⟨a,ne,i,rfl⟩:=(PU w h).mp f;refine⟨a::r,y,Aq.mpr ⟨x,i,g⟩,λk=>ne (bv.mp k).1.symm,?_⟩;show _=Cf [z] [] a::Fx (CQ [z] a) [] r;rw[ID,Dk]
theorem WR:∀{d e n y:Dc}(w:d.Wf)(h:d.sub a=Z e){q:List V},(Av d a n).sub q=Z y->(∃r,q=a++r/\n.sub r=Z y)∨(¬a<+:q/\∃f,d.sub q=Z f):=by
 induction a with
 |nil=>
  intro d e n y w h q b;have i:Av d [] n=n:=by cases d<;>rfl
  rw[i]at b;exact .inl ⟨q,W,b⟩
 |cons z r k=>
  intro d e n y w h q b;obtain⟨l,g,m⟩:=Aq.mp h;cases q with
  |nil=>exact .inr ⟨λc=>(by have:=n7.mp c;cases this),d,Ap d⟩|cons j q=>
   obtain⟨x,k1,k2⟩:=Aq.mp b;rcases(Hb w g).mp k1 with⟨rfl,rfl⟩|⟨ne,k3⟩
   .rcases k (Cp w g) m k2 with⟨o,rfl,p⟩|⟨s,f,t⟩
    .exact .inl ⟨o,W,p⟩
    .exact .inr ⟨λc=>s (bv.mp c).2,f,Aq.mpr ⟨l,g,t⟩⟩
   .exact .inr ⟨λc=>ne (bv.mp c).1.symm,y,Aq.mpr ⟨x,k3,k2⟩⟩
theorem bK{j y:Dc}{z:V}(w:d.Wf)(h:d.sub a=Z e)(k:e.sub [z]=Z j){q:List V}(l:(d.Av a (e.BZ z)).sub q=Z y):∃f b,d.sub f=Z b/\¬(a++[z])<+:f/\q=Fx (a++[z]) [] f:=by
 rcases WR w h l with⟨r,rfl,m⟩|⟨c,b,n⟩
 .obtain⟨i,b,o,c,rfl⟩:=Yg (Cp w h) k m;exact⟨a++i,b,by rw[sub_snoc h];exact o,λg=>c<|RS g,(Fy z i a).symm⟩
 .exact⟨q,b,n,λg=>c<|(d8 a [z]).trans g,(Fz z a q c).symm⟩
end Dc
theorem Dc.Uh{r:List V}:∀{a:List V}{d e:Dc},d.sub (a++r)=Z e->∃x,d.sub a=Z x
 |[],d,_,_=>⟨d,Dc.Ap d⟩|z::a,d,e,h=>by
  obtain⟨x,b,c⟩:=Dc.Aq.mp (show d.sub (z::(a++r))=Z e from h);obtain⟨y,f⟩:=Dc.Uh c;exact⟨y,Dc.Aq.mpr ⟨x,b,f⟩⟩
theorem Yh(z2:V):∀(q xs:List V),Aa q->Aa xs->¬xs<+:q->(LU (Fx xs [] q++[z2]) xs).dropLast=q
 |_,[]=>λ_ _ h=>absurd u6 h|[],x::xs=>λ_ _ _=>by
  show(LU [z2] (x::xs)).dropLast=[];cases xs with
  |nil=>cases z2<;>cases x<;>simp only[LU]<;>first|rfl|(split<;>rfl)
  |cons y r=>
   simp only[LU];split
   .cases r<;>rfl
   .rfl
 |j::q,[x]=>λf g h=>by
  have e:Fx [x] [] (j::q)=Cf [x] [] j::q:=by
   show Cf _ _ j::Fx (CQ [x] j) [] q=_;rw[ID,Dk]
  rw[e];have s:j≠x:=λc=>h (by rw[c];exact⟨q,W⟩);have ne:q++[z2]≠[]:=by simp
  rcases f j e9 with⟨i,rfl⟩|⟨k,rfl,_⟩<;>rcases g x e9 with⟨m,rfl⟩|⟨l,rfl,_⟩
  .have w:(i:Int)≠m:=λc=>s (by rw[c]);simp only[Cf,Gs,Gu,i5,LU];by_cases c:(m:Int)<i
   .rw[if_pos c,if_pos (by
     by_cases c2:(m:Int)<i-1
     .exact .inl y_
     .exact .inr ⟨y_,ne⟩)]
    have d:(i:Int)-1+0+1=i:=by lia
    rw[d,<-i5,e5]
   .rw[if_neg c,if_neg (by
     rintro(c2|⟨c2,_⟩)
     .lia
     .lia)]
    have d:(i:Int)+0=i:=by lia
    rw[d,<-i5,e5]
  .simp only[Cf,Gs,Gu,i5,LU];have d:(i:Int)+0=i:=by lia
   rw[d,<-i5,e5]
  .simp only[Cf,i5,LU];rw[<-i5,e5]
  .simp only[Cf,i5,LU];rw[<-i5,e5]
 |j::q,x::y::r=>λf g h=>by
  have e:Fx (x::y::r) [] (j::q)=j::Fx (CQ (x::y::r) j) [] q:=by
   show Cf (x::y::r) [] j::Fx (CQ (x::y::r) j) [] q=_;rw[Jc,Dh]
  rw[e];simp only[i5,LU];by_cases c:j=x
  .rw[if_pos c];have n:CQ (x::y::r) j=y::r:=by simp only[CQ];rw[if_pos c.symm]
   rw[n];have t:=Yh z2 q (y::r) (λz o=>f z<|bi _ o) (λz o=>g z<|bi _ o) λu=>h (by rw[c];exact bv.mpr ⟨W,u⟩);have v:LU (Fx (y::r) [] q++[z2]) (y::r)≠[]:=by
    intro z;cases p:Fx (y::r) [] q++[z2]with
    |nil=>simp at p|cons a b=>
     rw[p]at z;cases r with
     |nil=>
      cases a<;>cases y<;>simp only[LU]at z<;>first|cases z|(split at z<;>cases z)
     |cons A B=>
      simp only[LU]at z;split at z<;>cases z
   rw[ms v,t]
  .rw[if_neg c];have n:CQ (x::y::r) j=[]:=by simp only[CQ];rw[if_neg<|u8 c]
   rw[n,Dk,<-i5,e5]
variable{zs:List V}
theorem Ra{x y:Dc}{z:V}(w:d.Wf)(ok:d.ok)(h:d.sub a=Z e)(b:e.sub [z]=Z x)(sz:Aa zs)(nz:zs≠[])(i:(d.Av a (e.BZ z)).sub zs.dropLast=Z y):∃h,d.sub (CW "move" (a++[z]) zs).dropLast=Z h:=by
 obtain⟨c,j,f,k,l⟩:=Dc.bK w h b i;have g:Aa (a++[z]):=(Dc.Cv ok<|show d.sub (a++[z])=Z x by rw[Dc.sub_snoc h];exact b).1;have m:CW "move" (a++[z]) zs=LU zs (a++[z]):=Ma z_ g sz;have ez:zs=Fx (a++[z]) [] c++[zs.getLast nz]:=by rw[<-l];exact(f6 nz).symm
 refine⟨j,?_⟩;rw[m,ez,Yh _ c _ (Dc.Cv ok f).1 g k];exact f
def Wu:Dc->List Str->Prop
 | .row _ _,_=>True| .tab _ ks _,ys=>∃y∈ys,y∉ks| .leaf _,_=>False
def Open(d:Dc)(ys:List Str):Prop:=∃q e,d.sub q=Z e/\Wu e ys
variable{ys:List Str}
theorem bL{a:Dc}(q:Dc.Eqv e a)(h:Wu e ys):Wu a ys:=by
 cases q with
 |leaf v=>exact h|row _ _=>trivial|tab p _=>
  obtain⟨y,b,d⟩:=h;exact⟨y,b,λc=>d<|p.mem_iff.mpr c⟩
theorem Open.eqv{d':Dc}(w:d.Wf)(a:d'.Wf)(q:Dc.Eqv d d')(h:Open d ys):Open d' ys:=by
 obtain⟨p,e,b,c⟩:=h;obtain⟨f,g,i⟩:=Dc.Eqv.sub w a q b;exact⟨p,f,g,bL i c⟩
def Rb(d:Dc)(ys:List Str)(H:Hp)(v:V):Prop:=∃(p:Addr)(a:List V),v=.ref p/\H p=Z (.tup a)/\Aa a/\a≠[]/\a.length<=20/\low a/\∃e,d.sub a.dropLast=Z e/\Wu e ys
def EI(d:Dc)(ys:List Str)(H:Hp)(a:List V):Prop:=∀v∈a,Rb d ys H v
theorem Rb.up{v:V}(h:Rb d ys H v)(s:∀q xs,H q=Z (.tup xs)->H' q=Z (.tup xs)):Rb d ys H' v:=by
 obtain⟨p,xs,e,a,r⟩:=h;exact⟨p,xs,e,s _ _ a,r⟩
theorem EI.up{d:Dc}{ys:List Str}{H H':Hp}{a:List V}(S:EI d ys H a)(s:∀q xs,H q=Z (.tup xs)->H' q=Z (.tup xs)):EI d ys H' a:=λv b=>(S v b).up s
theorem EI.open(S:EI d ys H a)(h:a≠[]):Open d ys:=by
 cases a with
 |nil=>exact absurd W h|cons v r=>
  obtain⟨p,f,_,_,_,_,_,_,e,b,c⟩:=S v e9;exact⟨_,e,b,c⟩
variable{l:Addr}
theorem Rf{g a:Hp}{b:List V}{e:List Addr}(s:AF g a)(i:g l=Z (.lst b))(S:EI d ys g b)(new:∀q∈e,Rb d ys a (.ref q)):EI d ys (upd a l (.lst (b++e.map V.ref))) (b++e.map V.ref):=by
 have k:∀(q:Addr)(f:List V),a q=Z (.tup f)->upd a l (.lst<|b++e.map V.ref) q=Z (.tup f):=λq f h=>by
  rw[AM<|GI h (s _ _ i)<|by intro z;cases z];exact h
 intro v c;rcases am.mp c with c|c
 .exact(S v c).up λq f h=>k _ _<|s _ _ h
 .obtain⟨q,j,rfl⟩:=n9.mp c;exact(new q j).up k
variable{ks:List Str}
theorem Ui{xs:List Dc}(l:ks.length=xs.length)(k:Str):(Cg (Dc.kvs ks xs) (dL k)).isSome=decide (k∈ks):=by
 rw[Dc.ED l];by_cases c:k∈ks
 .obtain⟨x,a,_⟩:=Dc.CV l c;rw[a,decide_eq_true c];rfl
 .cases h:(ks.zip xs).lookup k with
  |none=>rw[decide_eq_false c];rfl|some x=>exact absurd (Dc.AR h).1 c
def Hm:Sp:=λe H Q _=>∃(d:Dc)(n:Addr)(a:List Str),e=[d.val,.ref n]/\d.At H/\d.ok/\d.size<=16/\H n=Z (.lst<|a.map V.str)/\a.length<=6/\(∀y∈a,CL y=true)/\
 ∀(l:Addr)(b:List V)(c:Hp),AF H c->c l=Z (.lst b)->b.length<=600->EI d a c b->(Open d a->b≠[])->Q (.ref l) c
def Jg:Sp:=λh H Q _=>∃(d:Dc)(a t:Addr)(c:List V)(f:V)(e x:Dc),h=[d.val,.ref a]/\d.At H/\d.ok/\d.size<=16/\H a=Z (.tup [.str "take",.ref t])/\H t=Z (.tup<|c++[f])/\(∀z∈c++[f],Dc.Bq z)/\d.sub c=Z e/\e.sub [f]=Z x/\
 ∀(b:Dc)(g:Hp),AF H g->b.At g->b.ok->b.size<=d.size->Dc.Eqv (d.Av c (e.BZ f)) b->Q b.val g
theorem Dg.up{H H':Hp}{v:V}{b n:Nat}(h:Dg H v b n)(s:AF H H'):Dg H' v b n:=by
 obtain⟨D,a,c⟩:=h;exact⟨D,a.up s,c⟩
def IH(xs:List V):Prop:=∀z∈xs,∀i:Int,z=.int i->i.natAbs<2000
variable{xs:List V}
theorem IH.of(h:low xs):IH xs:=λz a i e=>A5 (h z a i e) ac
theorem Iq{H:Hp}:∀{xs:List V},Aa xs->IH xs->Ff H xs (9*xs.length) 0
 |[],_,_=>Ff.nil|x::xs,s,l=>by
  have t:Ff H xs (9*xs.length) 0:=Iq (λz a=>s z<|bi _ a) λz a=>l z<|bi _ a;have h:Dg H x 8 0:=by
   rcases s x e9 with⟨k,e⟩|⟨k,e,b⟩
   .have:=l x e9 _ e;rw[e];exact(Dg.int<|bn this<|al (show 2000<=2 ^ 11 by decide)<|V3 ac ac).mono (gU _)<|b5 _
   .rw[e];exact .str (OD b) (Ni b).2
  exact(Ff.cons h t).mono (by simp only[g7];lia)<|b5 _
structure Ry(H:Hp)(r:V)(w:Str)(xs zs:List V)(p:Addr):Prop where
 rx:Rx H r w xs zs p
 lx:xs.length<=20
 lz:zs.length<=20
 ho:∃(a:Addr)(rest:List V),r=.ref a/\H a=Z (.tup (.str w::.ref p::rest))/\rest.length<=1/\(w="take"∨w="has"∨w="lacks"->rest=[])
 fin:Dg H r 640 21
 la:w="lacks"->∃u n,xs=u++[.str n]
theorem Ry.up{H H':Hp}{r:V}{w:Str}{xs zs:List V}{p:Addr}(h:Ry H r w xs zs p)(s:AF H H'):Ry H' r w xs zs p:=by
 obtain⟨b,c,d,⟨a,rest,e,f,g⟩,i,j⟩:=h;exact⟨b.up s,c,d,⟨a,rest,e,s _ _ f,g⟩,i.up s,j⟩
def bM(H:Hp)(rest:List V):Prop:=rest=[]∨∃v,rest=[v]/\Dg H v 440 20
variable{w:Str}{rest:List V}
theorem Kq{a p:Addr}(b:H a=Z (.tup (.str w::.ref p::rest)))(c:H p=Z (.tup xs))(d:Aa xs)(e:xs.length<=20)(i:IH xs)(f:w∈DB)(nx:w="put"∨w="lacks"∨w="take"∨w="move"->xs≠[])(g:bM H rest)(j:w="take"∨w="has"∨w="lacks"->rest=[])(T:Gw H w zs rest)(sz:Aa zs)(lz:zs.length<=20)(nz:w="copy"∨w="move"->zs≠[])(k:w="lacks"->∃u n,xs=u++[.str n]:=by exact λh=>absurd h ac):Ry H (.ref a) w xs zs p:=by
 have l1:rest.length<=1:=by
  rcases g with rfl|⟨v,rfl,_⟩<;>simp
 refine⟨⟨⟨⟨a,rest,W,b,T.cm⟩,c,d,sz,al e ac,al lz ac,f,nx,nz⟩,a,rest,W,b,T⟩,e,lz,⟨a,rest,W,b,l1,j⟩,?_,k⟩;have l:Ff H rest 441 20:=by
  rcases g with rfl|⟨v,rfl,h⟩
  .exact Ff.nil.mono (gU _)<|b5 _
  .exact Ff.cons h Ff.nil
 have m:=Dg.tup c<|Iq (H:=H) d i;have o:=Ff.cons (YK (H:=H) f (n:=20))<|Ff.cons (m.mono (b5 _)<|show 0+1<=20 by decide) l;exact(Dg.tup b o).mono y_ ac
theorem WS{p:Addr}(h:H p=Z (.tup xs))(s:Aa xs)(l:xs.length<=20)(lo:IH xs):bM H [.ref p]:=.inr ⟨_,W,(Dg.tup h<|Iq s lo).mono (al (KB _ l) ac) ac⟩
theorem Hn(h:d.At H)(ok:d.ok)(z:d.size<=19):bM H [d.val]:=by
 obtain⟨b,a,f⟩:=Dc.fin d ok h;exact .inr ⟨_,W,f.mono (al (al (gT _ _) a)<|al (KB _ z) ac)<|al z ac⟩
theorem Gz{a p:Addr}(d:H a=Z (.tup [.str w,.ref p]))(e:H p=Z (.tup xs))(f:Aa xs)(g:xs.length<=20)(i:IH xs)(b:w∈(lqA:List Str))(nx:w≠"has"->xs≠[])(j:w="lacks"->∃u n,xs=u++[.str n]:=by exact λh=>absurd h ac):Ry H (.ref a) w xs [] p:=by
 have k:w∈DB:=by
  simp only[ce,t7,or_false]at b;rcases b with rfl|rfl|rfl<;>decide
 refine Kq d e f g i k (λh=>nx λc=>?_) (.inl W) (λ_=>rfl) (Gw.no b) (λz l=>nomatch l) ac (λh=>?_) j
 .subst c;revert h;decide
 .simp only[ce,t7,or_false]at b;rcases b with rfl|rfl|rfl<;>(revert h;decide)
variable{v:Dc}
theorem TQ{a p:Addr}(e:H a=Z (.tup [.str "put",.ref p,v.val]))(f:H p=Z (.tup xs))(g:Aa xs)(i:xs.length<=20)(j:IH xs)(nx:xs≠[])(b:v.At H)(c:v.ok)(d:v.size<=2)(k:Dt v):Ry H (.ref a) "put" xs [] p:=
 Kq e f g i j ac (λ_=>nx) (Hn b c (al d ac)) (λh=>absurd h ac) (Gw.val (.inl W) b c d k) (λz l=>nomatch l) ac (λh=>absurd h ac)
theorem OJ{a p f:Addr}(g:H a=Z (.tup [.str w,.ref p,.ref f]))(i:H p=Z (.tup xs))(b:H f=Z (.tup zs))(c:w="copy"∨w="move")(j:Aa xs)(k:xs.length<=20)(l:IH xs)(nx:w="move"->xs≠[])(sz:Aa zs)(lz:zs.length<=20)(d:IH zs)(nz:zs≠[]):Ry H (.ref a) w xs zs p:=by
 refine Kq g i j k l (by rcases c with rfl|rfl<;>decide) (λh=>nx ?_) (WS b sz lz d) (λh=>?_) (Gw.two c b) sz lz (λ_=>nz) λh=>by rcases c with e|e<;>(rw[e]at h;exact absurd h ac)
 .rcases c with rfl|rfl
  .revert h;decide
  .rfl
 .rcases c with rfl|rfl<;>exact absurd h ac
theorem fM{a p:Addr}(e:H a=Z (.tup [.str "ask",.ref p,v.val]))(f:H p=Z (.tup xs))(g:Aa xs)(i:xs.length<=20)(j:IH xs)(b:v.At H)(c:v.ok)(d:v.size<=19):Ry H (.ref a) "ask" xs [] p:=
 Kq e f g i j ac (λh=>absurd h ac) (Hn b c d) (λh=>absurd h ac) (Gw.ask b c (al d ac)) (λz k=>nomatch k) ac (λh=>absurd h ac)
def Mv(d:Dc)(ys:List Str)(w:Str)(xs zs:List V):Prop:=w="move"->(∃a b e x,xs=a++[b]/\d.sub a=Z e/\e.sub [b]=Z x/\Open (d.Av a<|e.BZ b) ys)/\∃h,d.sub (CW w xs zs).dropLast=Z h
theorem Mv.no(h:w≠"move"):Mv d ys w xs zs:=λc=>absurd c h
def OK:Sp:=λh H Q _=>∃(w:Str)(t:Addr)(c:Int)(d:Dc)(n:Addr)(g:List V)(e:Dc)(f:List Str),h=[.str w,.ref t,.int c,d.val,.ref n]/\(w="ask"∨w="is"∨w="has")/\H t=Z (.tup g)/\Aa g/\d.At H/\d.ok/\d.size<=16/\d.sub g=Z e/\H n=Z (.lst<|f.map V.str)/\f.length<=6/\0<f.length/\(∀y∈f,CL y=true)/\
 ∀(a:Addr)(rest:List V)(b:Hp),AF H b->b a=Z (.tup (.str w::.ref t::rest))->Gw b w [] rest->bM b rest->(w="has"->rest=[])->Q (.ref a) b
def KN:Sp:=λg H Q _=>∃(c:Int)(d:Dc)(n:Addr)(a:List Str),g=[.int c,d.val,.ref n]/\d.At H/\d.ok/\d.size<=16/\H n=Z (.lst<|a.map V.str)/\a.length<=6/\0<a.length/\(∀y∈a,CL y=true)/\
 ∀(r:V)(w:Str)(b e:List V)(p:Addr)(f:Hp),AF H f->Ry f r w b e p->low b->low e->Mv d a w b e->Q r f
def bN(_:Str):Prop:=True
def jO(w:Str):Prop:=w="move"
def KO(g:Str->Prop):Sp:=λk H Q _=>∃(c:Int)(r:V)(d:Dc)(n:Addr)(a:List Str)(w:Str)(b e:List V)(p:Addr),k=[.int c,r,d.val,.ref n]/\g w/\Ry H r w b e p/\low b/\low e/\Mv d a w b e/\d.At H/\d.ok/\d.size<=16/\H n=Z (.lst<|a.map V.str)/\a.length=6/\(∀y∈a,CL y=true)/\
 ∀(j:V)(l:Str)(f h:List V)(m:Addr)(i:Hp),AF H i->Ry i j l f h m->Q j i
def Rg:Sp:=λi H Q _=>∃(c:Int)(r:V)(n:Addr)(a:List Str)(w:Str)(f g:List V)(p:Addr),i=[.int c,r,.ref n]/\Ry H r w f g p/\low f/\low g/\H n=Z (.lst<|a.map V.str)/\a.length=6/\(∀y∈a,CL y=true)/\
 ∀(h:V)(j:Str)(b d:List V)(k:Addr)(e:Hp),AF H e->Ry e h j b d k->Q h e
def Yi(K:yd):Sp:=λh H Q _=>∃(a:Addr)(i:List Int)(k:Nat)(d:Dc)(n:Addr)(c:List Str),h=[.ref a,.int (k:Int),d.val,.ref n]/\Ax K H a (i.map V.int)/\d.At H/\d.ok/\d.size<=16/\H n=Z (.lst<|c.map V.str)/\c.length=6/\(∀y∈c,CL y=true)/\
 ∀(t:Addr)(r:V)(w:Str)(j l:List V)(p:Addr)(g:V)(m:Str)(e f:List V)(o:Addr)(b:Hp),AF H b->b t=Z (.tup [r,g])->Ry b r w j l p->Ry b g m e f o->Q (.ref t) b
theorem Rh(b:low xs)(a:low zs):IH (CW w xs zs):=by
 unfold CW;split
 .exact .of a
 .split
  .unfold B_;split
   .rename_i i j c d
    split
    .intro z h k e;rcases wp h with h|h
     .exact IH.of a z h k e
     .have:=a _ (yc c) _ W;rw[h]at e;cases e;lia
    .exact .of a
   .exact .of a
  .exact .of b
variable{n:Nat}
theorem Yj(a:xs.length<=n)(lz:zs.length<=n):(CW w xs zs).length<=n:=by
 unfold CW;split
 .exact lz
 .split
  .rw[Cq];exact lz
  .exact a
theorem Yk:Dc.At H (.leaf (.int 7))/\Dc.ok (.leaf (.int 7))/\Dt (.leaf (.int 7)):=by
 refine⟨.inl ⟨7,W⟩,.inl ⟨7,W,bn (show 7<2 ^ 3 by decide)<|V3 ac ac⟩,λt y h=>?_⟩;cases t with
 |nil=>
  rw[Dc.Ap]at h;cases h;rintro⟨i,e,a⟩;cases e;exact absurd a ac
 |cons z r=>cases z<;>simp[Dc.sub]at h
theorem FE.split{v:V}{ys:List V}(h:FE H v ys):∃(t h:Addr)(b:List V)(l:V),v=.ref t/\H t=Z (.tup [.ref h,l])/\H h=Z (.tup b)/\ys=b++[l]:=by
 obtain⟨t,a,l,rfl,c,d,e⟩:=h;exact⟨t,a,_,l,W,c,d,Gx e⟩
theorem OL{k:Str}{f g:List V}{fi:Bool}(m:w∈DB)(h:DM w xs zs k f g=false):∃l ws,Fi w xs zs k f g fi=Z (l,ws):=by
 unfold Fi;by_cases a:w="put"
 .obtain⟨c,i⟩:=FT (fi:=fi) (by rw[a];decide) h;rw[if_pos a,i];exact⟨_,_,W⟩
 rw[if_neg a];by_cases b:w="lacks"
 .obtain⟨p,o⟩:=FC (n:=xs.dropLast) h (by unfold Bs nB;rw[if_pos b];simp);rw[if_pos b,o];exact⟨_,_,W⟩
 rw[if_neg b];obtain⟨q,j⟩:=FC (n:=xs) h (by
  have:DX (.str w) MW=true:=by
   rw[<-WD m,show DX (.str w) [.str "put",.str "lacks"]=false from yj.mpr λz=>(RW.mp z).elim a b];rfl
  unfold Bs nA;rw[if_pos this];simp)
 rw[j];show∃l ws,(if w="move"then _ else _)=_;by_cases d:w="move"
 .obtain⟨c,i⟩:=FT (fi:=fi) (by rw[d];decide) h;rw[if_pos d,i];exact⟨_,_,W⟩
 rw[if_neg d];by_cases e:w="copy"
 .obtain⟨c,i⟩:=FT (fi:=fi) (by rw[e];decide) h;rw[if_pos e,i];exact⟨_,_,W⟩
 rw[if_neg e];exact⟨_,_,W⟩
theorem Mf(w:Str)(xs zs:List V)(c:Str)(a b:List V):DM w xs zs c a b=DM c a b w xs zs:=Bool.or_comm _ _
theorem WT{r c:V}(h:Dg H r 640 21)(h':Dg H c 640 21):∃D:zT,D.showable=true/\D.shown.length<=sizeLine/\D.depth<=100/\∀(H':Hp)(t:Addr),AF H H'->H' t=Z (.tup [r,c])->HM H' (.ref t) D:=by
 obtain⟨a,d,e,f,g,i⟩:=h;obtain⟨b,j,k,l,m,n⟩:=h';have ls:(P8 [a,b]).leavesShort 2000=true:=by simp[yo,FB,f,l]
 have bk:(P8 [a,b]).bulk<=1300:=by simp only[N3,U4];exact al (tt (io g _)<|io (io m _) _) ac
 refine⟨.tuple [a,b],by simp[zJ,L9,e,k],?_,by simp only[K4,Q8];exact al (io ((L1.mpr ⟨i,(L1.mpr ⟨n,al (b5 _) ac⟩:_<=21)⟩:_<=21)) _) ac,λH' t s o=>.tup o<|.cons (d.up s)<|.cons (j.up s) .nil⟩;have:=PyData.shown_le_bulk 2000 ac _ ls;have z:(2000+2)*(P8 [a,b]).bulk<=(2000+2)*1300:=Nat.mul_le_mul (b5 _) bk;exact al (show(P8 [a,b]).shown.length<=2700000 by lia) ac
def Ph:Sp:=λg H Q _=>∃(G:Hp)(d v:Dc)(t:Addr)(a:List V),g=[d.val,.ref t,v.val]/\BH G H [d,v]/\d.size<=200/\H t=Z (.tup a)/\Aa a/\a≠[]/\ (∀c f e,a=c++[f]->d.sub c=Z e->e.room f=true->∀b,BY G b (d.Av c<|e.De f v)->Q d.val b)/\(d.Kj a->∀b,AF H b->Q .Al b)
abbrev Ac:=Sum Nat Str
namespace Tp
noncomputable def nx:List Ac->Ac->List Ac
 |x::xs,j=>if x=j then xs else[]|[],_=>[]
theorem BI(a:Ac)(x:List Ac):nx (a::x) a=x:=if_pos W
theorem Cy{a j:Ac}(x:List Ac)(h:a≠j):nx (a::x) j=[]:=if_neg h
theorem Mg(s j:Ac):nx [s] j=[]:=by
 show(if s=j then([]:List Ac)else[])=[];split<;>rfl
end Tp
variable{x z y:List Ac}{f:Bool}{b a1 a2:Option Nat}
namespace Tp
noncomputable def BN:List Ac->Option Nat
 |[.inl a]=>Z a|_=>ν
def nS(a b:Option Nat)(j:Nat):Nat:=(match a with|some a=>if a<j then j-1 else j|none=>j)+(match b with|some b=>if b<=j then 1 else 0|none=>0)
def lS(f:Bool)(a b:Option Nat)(j:Nat):Nat:=(match a with|some a=>if a<j then j-1 else j|none=>j)+(match b with|some b=>if b<j∨(b=j/\f=true)then 1 else 0|none=>0)
noncomputable def mS(x z:List Ac):Ac->Ac
 | .inl j=>.inl (nS (BN x) (BN z) j)|s=>s
noncomputable def eS(f:Bool)(x z:List Ac):Ac->Ac
 | .inl j=>.inl (lS f (BN x) (BN z) j)|s=>s
noncomputable def mP:List Ac->List Ac->List Ac->List Ac
 |_,_,[]=>[]|x,z,j::r=>mS x z j::mP (nx x j) (nx z j) r
noncomputable def lP(f:Bool):List Ac->List Ac->List Ac->List Ac
 |_,_,[]=>[]|x,z,[j]=>[eS f x z j]|x,z,j::r=>mS x z j::lP f (nx x j) (nx z j) r
theorem pP(x z:List Ac):mP x z []=[]:=rfl
theorem jP(f:Bool)(x z:List Ac):lP f x z []=[]:=rfl
theorem Fj(f:Bool)(x z:List Ac)(j:Ac){r:List Ac}(h:r≠[]):lP f x z (j::r)=mS x z j::lP f (nx x j) (nx z j) r:=by
 cases r with
 |nil=>exact absurd W h|cons _ _=>rfl
theorem Pj:∀{y:List Ac},BN (mP x z y)=(BN y).map (nS (BN x) (BN z))
 |[]=>rfl|[.inl a]=>rfl|[.inr a]=>rfl| .inl a::b::r=>rfl| .inr a::b::r=>rfl
theorem LX:∀{y:List Ac},BN (lP f x z y)=(BN y).map (lS f (BN x) (BN z))
 |[]=>rfl|[.inl a]=>rfl|[.inr a]=>rfl| .inl a::b::[]=>rfl| .inr a::b::[]=>rfl| .inl a::b::c::r=>rfl| .inr a::b::c::r=>rfl
def dn(a:Option Nat)(j:Nat):Nat:=match a with|some a=>if a<j then 1 else 0|none=>0
def up(b:Option Nat)(j:Nat):Nat:=match b with|some b=>if b<=j then 1 else 0|none=>0
def ul(f:Bool)(b:Option Nat)(s:Nat):Nat:=match b with|some b=>if b<s∨(b=s/\f=true)then 1 else 0|none=>0
theorem Uj(a:Option Nat)(j:Nat):dn a j<=j:=by
 unfold dn;cases a with
 |none=>exact gU _|some a=>simp only;split<;>lia
theorem Kr(a b:Option Nat)(j:Nat):nS a b j=j-dn a j+up b j:=by
 unfold nS dn up;cases a with
 |none=>rfl|some a=>
  simp only;congr 1;split<;>rfl
theorem Ri(f:Bool)(a b:Option Nat)(j:Nat):lS f a b j=j-dn a j+ul f b j:=by
 unfold lS dn ul;cases a with
 |none=>rfl|some a=>
  simp only;congr 1;split<;>rfl
theorem Pk(a b:Option Nat)(j:Nat):nS a b j+dn a j=j+up b j:=by
 have:=Uj a j;rw[Kr];lia
theorem Pl(f:Bool)(a b:Option Nat)(j:Nat):lS f a b j+dn a j=j+ul f b j:=by
 have:=Uj a j;rw[Ri];lia
theorem LY{a:Option Nat}{i:Nat}(h:i<=j):dn a j+i<=dn a i+j:=by
 unfold dn;cases a with
 |none=>exact rs h 0|some a=>simp only;split<;>split<;>lia
theorem Yl{a:Option Nat}{i:Nat}(b:a≠Z i)(h:i<j):dn a j+i<dn a i+j:=by
 unfold dn;cases a with
 |none=>exact Nat.add_lt_add_left h 0|some a=>
  have:a≠i:=λz=>b (by rw[z]);simp only;split<;>split<;>lia
theorem bO{i:Nat}(h:i<=j):up b i<=up b j:=by
 unfold up;cases b with
 |none=>exact b5 _|some b=>simp only;split<;>split<;>lia
theorem Uk{a:Option Nat}{i:Nat}(c:a≠Z i)(h:i<j):nS a b i<nS a b j:=by
 have d:=Pk a b i;have e:=Pk a b j;have f:=Yl c h;have g:=bO (b:=b)<|jp h;lia
theorem jQ{a:Option Nat}{i:Nat}(d:a≠Z i)(e:a≠Z j):nS a b i<nS a b j↔i<j:=by
 refine⟨λh=>?_,Uk d⟩;rcases yi i j with c|c|c
 .exact c
 .rw[c]at h;exact absurd h<|rc _
 .exact absurd (A5 h<|Uk e c)<|rc _
theorem fN{a:Option Nat}{i:Nat}(d:a≠Z i)(e:a≠Z j)(h:nS a b i=nS a b j):i=j:=by
 rcases yi i j with c|c|c
 .exact absurd (Uk (b:=b) d c)<|by rw[h];exact rc _
 .exact c
 .exact absurd (Uk (b:=b) e c)<|by rw[h];exact rc _
theorem arr{g:Bool}{a:Option Nat}{s x:Nat}(h:a≠Z x):(x<s->nS a (Z s) x<lS g a ν s)/\(s<=x->lS g a ν s<nS a (Z s) x):=by
 have n:=Pk a (Z s) x;have l:lS g a ν s+dn a s=s:=Pl g a ν s;refine⟨λc=>?_,λc=>?_⟩
 .have m:=Yl h c;have v:up (Z s) x=0:=if_neg<|X7.mpr c;lia
 .have m:=LY (a:=a) c;have v:up (Z s) x=1:=if_pos c;lia
theorem jR{s:Nat}(h:s<=j):ul f b s<=up b j:=by
 unfold ul up;cases b with
 |none=>exact b5 _|some b=>simp only;split<;>split<;>lia
theorem jS{s:Nat}(h:j<s):up b j<=ul f b s:=by
 unfold ul up;cases b with
 |none=>exact b5 _|some b=>simp only;split<;>split<;>lia
theorem OM{a:Option Nat}{s:Nat}(d:a≠Z j):lS f a b s<=nS a b j↔s<=j:=by
 have i:=Pl f a b s;have k:=Pk a b j;constructor
 .intro h;refine GM λc=>?_;have e:=Yl d c;have g:=jS (f:=f) (b:=b) c;lia
 .intro h;have e:=LY (a:=a) h;have g:=jR (f:=f) (b:=b) h;lia
theorem CP{i:Nat}(h:BN x=Z i):x=[.inl i]:=by
 match x with
 |[]=>cases h|[.inl a]=>cases h;rfl|[.inr a]=>cases h| .inl a::b::r=>cases h| .inr a::b::r=>cases h
theorem Pm{i j:Ac}(a:x≠[i])(b:x≠[j])(h:mS x z i=mS x z j):i=j:=by
 cases i with
 |inr i=>cases j with|inr j=>exact h|inl j=>cases h
 |inl i=>
  cases j with
  |inr j=>cases h|inl j=>
   have h:nS (BN x) (BN z) i=nS (BN x) (BN z) j:=by injection h
   rw[fN (λe=>a<|CP e) (λe=>b<|CP e) h]
theorem Ym(b:∀a,a1=Z a->a2≠Z a):dn a1 j+dn a2 j<=j:=by
 cases a1 with
 |none=>show 0+_<=_;rw[abN];exact Uj _ _|some a1=>
  cases a2 with
  |none=>show dn (Z a1) j<=j;exact Uj _ _|some a2=>
   have c:a1≠a2:=λz=>b a1 W (by rw[z]);simp only[dn];split<;>split<;>lia
theorem Ul{b1 c:Option Nat}(g:a1≠Z j)(d:∀a,a1=Z a->a2≠Z a):nS (a2.map (nS a1 b1)) (c.map (lS f a1 b1)) (nS a1 b1 j)=(j-dn a1 j+up b1 j)-dn a2 j+up c j:=by
 rw[Kr,Kr a1 b1 j];congr 1
 .congr 1;cases a2 with
  |none=>rfl|some a2=>
   have e:=jQ (b:=b1) (λz=>d a2 z W) g;rw[Kr a1 b1 j]at e;simp only[zK,dn];by_cases h:a2<j
   .rw[if_pos h];exact if_pos<|e.mpr h
   .rw[if_neg h];exact if_neg λz=>h<|e.mp z
 .cases c with
  |none=>rfl|some c=>
   have e:=OM (f:=f) (b:=b1) (s:=c) g;rw[Kr a1 b1 j]at e;simp only[zK,up];by_cases h:c<=j
   .rw[if_pos h];exact if_pos<|e.mpr h
   .rw[if_neg h];exact if_neg λz=>h<|e.mp z
theorem rq{b1 c:Option Nat}(d:a1≠Z j)(e:a2≠Z j)(b:∀a,a1=Z a->a2≠Z a):
  nS (a2.map (nS a1 b1)) (c.map (lS f a1 b1)) (nS a1 b1 j)=nS (a1.map (nS a2 c)) (b1.map (lS (!f) a2 c)) (nS a2 c j):=by
 rw[Ul d b,Ul e λa g h=>b a h g];have:=Ym (j:=j) b;lia
def Nb(x y:List Ac):Prop:=x≠[]->¬x<+:y
theorem Nb.one{j:Ac}{r:List Ac}(h:Nb x (j::r)):x≠[j]:=λz=>h (by rw[z];simp)<|by rw[z];exact⟨r,W⟩
theorem Nb.nx{j:Ac}{r:List Ac}(h:Nb x (j::r)):Nb (nx x j) r:=λb c=>by
 cases x with
 |nil=>exact b W|cons a x=>
  by_cases e:a=j
  .subst e;rw[BI]at b c;exact h z_<|(bv).mpr ⟨W,c⟩
  .rw[Cy _ e]at b;exact b W
theorem Nb.fO(h:Nb x y)(j:Ac):Nb (Tp.nx x j) (Tp.nx y j):=λc d=>by
 cases x with
 |nil=>exact c W|cons a x=>
  by_cases e:a=j
  .subst e;rw[BI]at c d;cases y with
   |nil=>exact c (n7.mp d)|cons b y=>
    by_cases f:b=a
    .subst f;rw[BI]at d;exact h z_<|(bv).mpr ⟨W,d⟩
    .rw[Cy _ f]at d;exact c<|n7.mp d
  .rw[Cy _ e]at c;exact c W
theorem bP(z:List Ac)(j:Ac):(Tp.nx z j).dropLast=Tp.nx z.dropLast j∨(Tp.nx z j).dropLast=[]:=by
 cases z with
 |nil=>exact .inl W|cons a z=>
  cases z with
  |nil=>right;rw[Mg];rfl|cons b z=>
   left
   rw[ms z_];by_cases e:a=j
   .subst e;rw[BI,BI]
   .rw[Cy _ e,Cy _ e];rfl
theorem Nb.fP(h:Nb x z.dropLast)(j:Ac):Nb (Tp.nx x j) (Tp.nx z j).dropLast:=by
 rcases bP z j with e|e
 .rw[e];exact h.fO j
 .rw[e];exact λa b=>a<|n7.mp b
theorem Um{a z1:List Ac}{j:Ac}(b:a≠[j])(d:Nb a y):Tp.nx (mP a z1 y) (mS a z1 j)=mP (Tp.nx a j) (Tp.nx z1 j) (Tp.nx y j):=by
 cases y with
 |nil=>rfl|cons c y=>
  show Tp.nx (mS a z1 c::mP (Tp.nx a c) (Tp.nx z1 c) y) (mS a z1 j)=_;by_cases e:c=j
  .subst e;rw[BI,BI]
  .rw[Cy _ λh=>e<|Pm d.one b h,Cy _ e];rfl
theorem Uo{a z1:List Ac}{j:Ac}(g:a≠[j])(b:Nb a y.dropLast):Tp.nx (lP f a z1 y) (mS a z1 j)=lP f (Tp.nx a j) (Tp.nx z1 j) (Tp.nx y j):=by
 cases y with
 |nil=>rfl|cons c y=>
  cases y with
  |nil=>
   show Tp.nx [eS f a z1 c] (mS a z1 j)=_;rw[Mg,Mg];rfl
  |cons d y=>
   rw[Fj _ _ _ _ z_];rw[ms z_]at b;by_cases e:c=j
   .subst e;rw[BI,BI]
   .rw[Cy _ λh=>e<|Pm b.one g h,Cy _ e];rfl
theorem Up(f:Bool):∀(q b z1 c z2:List Ac),Nb b q->Nb c q->Nb b c->Nb c b->Nb b z2.dropLast->Nb c z1.dropLast->
  mP (mP b z1 c) (lP f b z1 z2) (mP b z1 q)=mP (mP c z2 b) (lP (!f) c z2 z1) (mP c z2 q)
 |[],_,_,_,_,_,_,_,_,_,_=>by simp[mP]|j::r,b,z1,c,z2,k,l,d,g,h,i=>by
  show mS (mP b z1 c) (lP f b z1 z2) (mS b z1 j)::mP (Tp.nx (mP b z1 c)<|mS b z1 j) (Tp.nx (lP f b z1 z2)<|mS b z1 j) (mP (Tp.nx b j) (Tp.nx z1 j) r)=mS (mP c z2 b) (lP (!f) c z2 z1) (mS c z2 j)::mP (Tp.nx (mP c z2 b)<|mS c z2 j) (Tp.nx (lP (!f) c z2 z1)<|mS c z2 j) (mP (Tp.nx c j) (Tp.nx z2 j) r);rw[Um k.one d,Uo k.one h,Um l.one g,Uo l.one i,Up f r _ _ _ _ k.nx l.nx (d.fO j) (g.fO j) (h.fP j)<|i.fP j];congr 1;cases j with
  |inr j=>rfl|inl j=>
   simp only[mS,Pj,LX];congr 1;exact rq (λe=>k.one<|CP e) (λe=>l.one<|CP e) λa m n=>by
    rw[CP m,CP n]at d;exact d z_<|nH _
end Tp
namespace Tp
theorem Yn{g:Bool}{i:Option Nat}{s:Nat}(k:∀a,a1=Z a->a2≠Z a):
  nS (a2.map (nS a1 (Z s))) (i.map (lS f a1 (Z s))) (lS g a1 ν s)=lS g (a1.map (nS a2 i)) ν (lS (!f) a2 i s):=by
 have l:∀a n,lS g a ν n=n-dn a n:=λa n=>by rw[Ri];rfl
 have o:=Pl g a1 ν s;have k1:dn (a2.map<|nS a1<|some s) (lS g a1 ν s)=dn a2 s:=by
  cases a2 with
  |none=>rfl|some x=>
   have h:a1≠Z x:=λz=>k x z W;have e:nS a1 (Z s) x<lS g a1 ν s↔x<s:=⟨λc=>Gc λd=>absurd (A5 c<|(arr h).2 d)<|rc _,(arr h).1⟩;simp only[zK,dn];by_cases h:x<s
   .rw[if_pos h];exact if_pos<|e.mpr h
   .rw[if_neg h];exact if_neg λz=>h<|e.mp z
 have k2:up (i.map<|lS f a1<|some s) (lS g a1 ν s)=ul (!f) i s:=by
  cases i with
  |none=>rfl|some x=>
   have n:=Pl f a1 (Z s) x;have u:ul g ν s=0:=rfl;have e:lS f a1 (Z s) x<=lS g a1 ν s↔x<s∨(x=s/\(!f)=true):=by
    rcases yi x s with c|c|c
    .have m:=LY (a:=a1)<|jp c;have v:ul f (Z s) x=0:=if_neg λz=>by rcases z with z|z<;>lia
     exact⟨λ_=>.inl c,λ_=>by lia⟩
    .subst c;cases f with
     |false=>
      have v:ul false (Z x) x=0:=if_neg λz=>by rcases z with z|z;exact rc _ z;cases z.2
      exact⟨λ_=>.inr ⟨W,W⟩,λ_=>by lia⟩
     |true=>
      have v:ul true (Z x) x=1:=if_pos<|.inr ⟨W,W⟩;exact⟨λz=>by lia,λz=>by rcases z with z|z;exact absurd z<|rc _;cases z.2⟩
    .have m:=LY (a:=a1)<|jp c;have v:ul f (Z s) x=1:=if_pos<|.inl c;exact⟨λz=>by lia,λz=>by rcases z with z|z<;>lia⟩
   simp only[zK,up,ul];by_cases h:x<s∨(x=s/\(!f)=true)
   .rw[if_pos h];exact if_pos<|e.mpr h
   .rw[if_neg h];exact if_neg λz=>h<|e.mp z
 have k4:dn (a1.map<|nS a2 i) (lS (!f) a2 i s)=dn a1 s:=by
  cases a1 with
  |none=>rfl|some a1=>
   have e:=OM (f:= !f) (a:=a2) (b:=i) (s:=s) (j:=a1) (λz=>k a1 W z);simp only[zK,dn];by_cases h:a1<s
   .rw[if_pos h];exact if_pos<|Gc λz=>absurd (e.mp z)<|X7.mpr h
   .rw[if_neg h];exact if_neg<|Nat.not_lt.mpr<|e.mpr<|GM h
 rw[Kr,k1,k2,l<|a1.map _,k4,l,Ri<|!f];have p:=Ym (j:=s) k;generalize ul (!f) i s=m;lia
end Tp
namespace Tp
theorem By{j:Ac}{r:List Ac}(h:r≠[]):BN (j::r)=none:=by
 cases r with
 |nil=>exact absurd W h|cons _ _=>cases j<;>rfl
theorem Yo(h:y≠[]):lP f x z y≠[]:=by
 match y with
 |[]=>exact absurd W h|[j]=>simp[lP]|j::k::r=>rw[Fj _ _ _ _ z_];simp
theorem Uq{b c:List Ac}(h:Nb b c):∀a,BN b=Z a->BN c≠Z a:=λa d e=>by
 rw[CP d,CP e]at h;exact h z_<|nH _
theorem cont(f g:Bool):∀(z1 a b z2:List Ac),Nb a b->Nb b a->Nb a z2.dropLast->Nb b z1.dropLast->Nb a z1.dropLast->
  mP (mP a z1 b) (lP f a z1 z2) (lP g a [] z1)=lP g (mP b z2 a) [] (lP (!f) b z2 z1)
 |[],_,_,_,_,_,_,_,_=>rfl|[j],a,b,z2,d,i,l,m,n=>by
  show[mS (mP a [j] b) (lP f a [j] z2)<|eS g a [] j]=[eS g (mP b z2 a) []<|eS (!f) b z2 j];congr 1;cases j with
  |inr j=>rfl|inl j=>
   simp only[mS,eS,Pj,LX];congr 1;exact Yn (Uq d)
 |j::k::r,a,b,z2,d,i,l,m,n=>by
  have p:(j::k::r).dropLast=j::(k::r).dropLast:=ms z_;have h:=m;have c:=n;rw[p]at h c;have sz:BN (j::k::r)=none:=By z_;have q:mS a [] j=mS a (j::k::r) j:=by cases j with|inr j=>rfl|inl j=>simp only[mS,sz];rfl
  have o:Tp.nx (j::k::r) j=k::r:=BI _ _;have a1:=m.fP j;have a2:=n.fP j;rw[o]at a1 a2;rw[Fj g a [] j z_,Fj (!f) b z2 j z_,q];show mS (mP a (j::k::r) b) (lP f a (j::k::r) z2) (mS a (j::k::r) j)::mP (Tp.nx (mP a (j::k::r) b)<|mS a (j::k::r) j) (Tp.nx (lP f a (j::k::r) z2)<|mS a (j::k::r) j) (lP g (Tp.nx a j) [] (k::r))=_;rw[Um c.one d,Uo c.one l,o,cont f g (k::r) (Tp.nx a j) (Tp.nx b j) (Tp.nx z2 j) (d.fO j) (i.fO j) (l.fP j) a1 a2,Fj g _ [] _<|Yo z_,Um h.one i];congr 1;cases j with
  |inr j=>rfl|inl j=>
   simp only[mS,Pj,LX,sz];congr 1;exact rq (b1:=ν) (λe=>c.one<|CP e) (λe=>h.one<|CP e)<|Uq d
end Tp
namespace Tp
noncomputable def st:List Ac->List Ac->List Ac
 |x,[]=>x|x,j::p=>st (Tp.nx x j) p
theorem CC:∀p:List Ac,st [] p=[]
 |[]=>rfl|_::p=>CC p
theorem Eh:∀(p u:List Ac),st (p++u) p=u
 |[],u=>rfl|j::p,u=>by show st (Tp.nx (j::(p++u)) j) p=u;rw[BI,Eh p u]
theorem G_:∀{p x:List Ac},¬p<+:x->st x p=[]
 |[],x,h=>absurd u6 h|j::p,[],_=>CC _|j::p,a::x,h=>by
  show st (Tp.nx (a::x) j) p=[];by_cases e:a=j
  .subst e;rw[BI];exact G_ λz=>h<|(bv).mpr ⟨W,z⟩
  .rw[Cy _ e];exact CC _
theorem Fl:∀(p x z r:List Ac),mP x z (p++r)=mP x z p++mP (st x p) (st z p) r
 |[],_,_,_=>rfl|j::p,x,z,r=>by
  show mS x z j::mP (Tp.nx x j) (Tp.nx z j) (p++r)=mS x z j::mP (Tp.nx x j) (Tp.nx z j) p++mP (st (Tp.nx x j) p) (st (Tp.nx z j) p) r;rw[Fl p];rfl
theorem FO:∀q:List Ac,mP [] [] q=q
 |[]=>rfl|j::r=>by
  show mS [] [] j::mP [] [] r=j::r;rw[FO r];cases j with
  |inr j=>rfl|inl j=>rfl
theorem DE{f:Bool}:∀q:List Ac,lP f [] [] q=q
 |[]=>rfl|[j]=>by cases j<;>rfl|j::k::r=>by
  rw[Fj _ _ _ _ z_];show mS [] [] j::lP f [] [] (k::r)=_;rw[DE (k::r)];cases j<;>rfl
end Tp
namespace Tp
theorem clear{g:Bool}:∀(z x q:List Ac),z≠[]->Nb x z.dropLast->Nb x q->((∃p k,z=p++[dL k])->¬z<+:q)->¬lP g x [] z<+:mP x z q
 |[],_,_,h,_,_,_=>absurd W h|[j],x,[],_,_,_,_=>by
  show¬[eS g x [] j]<+:[];simp
 |[j],x,k::r,_,_,d,f=>by
  show¬[eS g x [] j]<+:mS x [j] k::mP (Tp.nx x k) (Tp.nx [j] k) r;intro h;have h:=(bv.mp h).1;cases j with
  |inr j=>
   cases k with
   |inl k=>cases h|inr k=>
    have h:(dL j:Ac)=.inr k:=h;exact f ⟨[],j,W⟩ (by rw[h];exact⟨r,W⟩)
  |inl j=>
   cases k with
   |inr k=>cases h|inl k=>
    have h:lS g (BN x) ν j=nS (BN x) (Z j) k:=by injection h
    have l:BN x≠Z k:=λe=>d.one<|CP e;rcases A6 k j with c|c
    .exact absurd h.symm<|i9<|(arr l).1 c
    .exact absurd h (i9<|(arr l).2 c)
 |j::k::r,x,[],_,_,_,_=>by
  rw[Fj _ _ _ _ z_];show¬_::_<+:[];simp
 |j::k::r,x,i::q,_,m,d,f=>by
  rw[Fj _ _ _ _ z_];show¬mS x [] j::lP g (Tp.nx x j) (Tp.nx [] j) (k::r)<+:mS x (j::k::r) i::mP (Tp.nx x i) (Tp.nx (j::k::r) i) q;intro h;obtain⟨o,s⟩:=bv.mp h;have t:(j::k::r).dropLast=j::(k::r).dropLast:=ms z_;have b:=m;rw[t]at b;have u:mS x [] j=mS x (j::k::r) j:=by cases j with|inr j=>rfl|inl j=>simp only[mS,By (show k::r≠[]by simp)];rfl
  rw[u]at o;have e:j=i:=Pm b.one d.one o;subst e;rw[BI]at s;have a:=m.fP j;rw[BI]at a;refine clear (g:=g) (k::r) (Tp.nx x j) q z_ a d.nx (λ⟨p,n,e⟩ v=>?_) s;exact f ⟨j::p,n,by rw[e];rfl⟩<|(bv).mpr ⟨W,v⟩
end Tp
variable{q p t:List Ac}
namespace Tp
theorem Mh:∀{p x z:List Ac},(x.dropLast<+:p->x.dropLast=p)->mP x z p=mP [] z p
 |[],_,_,_=>rfl|j::r,[],_,_=>rfl|j::r,[a],_,h=>absurd (h u6) z_|j::r,a::b::x,z,h=>by
  have c:(a::b::x).dropLast=a::(b::x).dropLast:=rfl;rw[c]at h;show mS (a::b::x) z j::mP (nx (a::b::x) j) (nx z j) r=mS [] z j::mP [] (nx z j) r;have d:mS (a::b::x) z j=mS [] z j:=by cases j with|inr j=>rfl|inl j=>simp only[mS,By (show b::x≠[]by simp)];rfl
  rw[d];by_cases e:a=j
  .subst e;rw[BI,Mh (x:=b::x) λf=>(b8<|h<|bv.mpr ⟨W,f⟩).2]
  .rw[Cy _ e]
theorem Jh:∀{p x z:List Ac},(z.dropLast<+:p->z.dropLast=p)->mP x z p=mP x [] p
 |[],_,_,_=>rfl|j::r,_,[],_=>rfl|j::r,_,[a],h=>absurd (h u6) z_|j::r,x,a::b::z,h=>by
  have c:(a::b::z).dropLast=a::(b::z).dropLast:=rfl;rw[c]at h;show mS x (a::b::z) j::mP (nx x j) (nx (a::b::z) j) r=mS x [] j::mP (nx x j) [] r;have d:mS x (a::b::z) j=mS x [] j:=by cases j with|inr j=>rfl|inl j=>simp only[mS,By (show b::z≠[]by simp)];rfl
  rw[d];by_cases e:a=j
  .subst e;rw[BI,Jh (z:=b::z) λf=>(b8<|h<|bv.mpr ⟨W,f⟩).2]
  .rw[Cy _ e]
theorem ON{f:Bool}:∀{p x z:List Ac},¬x.dropLast<+:p.dropLast->lP f x z p=lP f [] z p
 |[],x,_,_=>rfl|j::r,[],_,h=>rfl|j::r,[a],_,h=>absurd u6 h|[j],a::b::x,z,h=>by
  show[eS f (a::b::x) z j]=[eS f [] z j];cases j with
  |inr j=>rfl|inl j=>simp only[eS,By (show b::x≠[]by simp)];rfl
 |j::k::r,a::b::x,z,h=>by
  have c:(a::b::x).dropLast=a::(b::x).dropLast:=rfl;have d:(j::k::r).dropLast=j::(k::r).dropLast:=rfl;rw[c,d]at h;rw[Fj f (a::b::x) z j (r:=k::r) z_,Fj f [] z j (r:=k::r) z_];have g:mS (a::b::x) z j=mS [] z j:=by cases j with|inr j=>rfl|inl j=>simp only[mS,By (show b::x≠[]by simp)];rfl
  rw[g];by_cases e:a=j
  .subst e;rw[BI,ON (x:=b::x) λi=>h<|bv.mpr ⟨W,i⟩];rfl
  .rw[Cy _ e];rfl
theorem Ur{f:Bool}:∀{p x z:List Ac},¬z.dropLast<+:p.dropLast->lP f x z p=lP f x [] p
 |[],x,_,_=>rfl|j::r,_,[],h=>rfl|j::r,_,[a],h=>absurd u6 h|[j],x,a::b::z,h=>by
  show[eS f x (a::b::z) j]=[eS f x [] j];cases j with
  |inr j=>rfl|inl j=>simp only[eS,By (show b::z≠[]by simp)];rfl
 |j::k::r,x,a::b::z,h=>by
  have c:(a::b::z).dropLast=a::(b::z).dropLast:=rfl;have d:(j::k::r).dropLast=j::(k::r).dropLast:=rfl;rw[c,d]at h;rw[Fj f x (a::b::z) j (r:=k::r) z_,Fj f x [] j (r:=k::r) z_];have g:mS x (a::b::z) j=mS x [] j:=by cases j with|inr j=>rfl|inl j=>simp only[mS,By (show b::z≠[]by simp)];rfl
  rw[g];by_cases e:a=j
  .subst e;rw[BI,Ur (z:=b::z) λi=>h<|bv.mpr ⟨W,i⟩];rfl
  .rw[Cy _ e];rfl
theorem Fm{f:Bool}{v:List Ac}(a:v≠[]):∀(p x z:List Ac),lP f x z (p++v)=mP x z p++lP f (st x p) (st z p) v
 |[],_,_=>rfl|j::p,x,z=>by
  show lP f x z (j::(p++v))=mS x z j::(mP (nx x j) (nx z j) p++lP f (st (nx x j) p) (st (nx z j) p) v);rw[Fj _ _ _ _<|by simp[a],Fm a p]
theorem Ji{f:Bool}:∀(y x z:List Ac),(lP f x z y).dropLast=mP x z y.dropLast
 |[],_,_=>rfl|[j],_,_=>rfl|j::k::r,x,z=>by
  rw[Fj _ _ _ _ z_,ms<|Yo z_,Ji (k::r)];rfl
theorem Fn:∀{p q x z:List Ac},Nb x p->Nb x q->mP x z p<+:mP x z q->p<+:q
 |[],q,_,_,_,_,_=>u6|j::p,[],x,z,_,_,h=>by
  have:mP x z (j::p)=[]:=n7.mp h;cases this
 |j::p,k::q,x,z,a,b,h=>by
  obtain⟨c,d⟩:=bv.mp (show mS x z j::mP (nx x j) (nx z j) p<+:mS x z k::mP (nx x k) (nx z k) q from h);have e:=Pm a.one b.one c;subst e;exact bv.mpr ⟨W,Fn a.nx b.nx d⟩
theorem Jj(h:¬p<+:y.dropLast):st y p=[]:=by
 by_cases c:p<+:y
 .obtain⟨t,rfl⟩:=c;rw[Eh];cases t with
  |nil=>rfl|cons a t=>exact absurd (by rw[ol z_];exact d8 _ _) h
 .exact G_ c
theorem EJ{a b:List Ac}(c:a<+:q)(d:b<+:q):a<+:b∨b<+:a:=List.prefix_or_prefix_of_prefix c d
theorem Jk(h:p<+:y)(ne:¬y<+:p):p<+:y.dropLast:=by
 obtain⟨t,rfl⟩:=h;cases t with
 |nil=>exact absurd (by rw[ge];exact nH _) ne|cons a t=>rw[ol z_];exact d8 _ _
theorem DF{a b:List Ac}(c:a<+:b)(d:b<+:a):a=b:=c.eq_of_length<|Nat.le_antisymm c.length_le d.length_le
structure Mo where
 x:List Ac
 z:List Ac
namespace Mo
def to(m:Mo):List Ac:=lP false m.x [] m.z
def A(m:Mo)(q:List Ac):List Ac:=if m.x<+:q then m.to++q.drop m.x.length else mP m.x m.z q
def B(f:Bool)(m:Mo)(y:List Ac):List Ac:=if m.x<+:y.dropLast then m.to++y.drop m.x.length else lP f m.x m.z y
def ov(f:Bool)(m n:Mo):Mo:=⟨m.A n.x,m.B f n.z⟩
structure Ok(m:Mo):Prop where
 x0:m.x≠[]
 z0:m.z≠[]
 nz:¬m.x<+:m.z.dropLast
def Jl(m:Mo)(p:List Ac):Prop:=¬m.x<+:p->¬m.to<+:mP m.x m.z p
theorem DN{m:Mo} :m.A (m.x++t)=m.to++t:=by
 unfold A;rw[if_pos<|d8 _ _,wP]
theorem Bl{m:Mo}(h:¬m.x<+:q):m.A q=mP m.x m.z q:=if_neg h
theorem Ks{m:Mo}(h:¬m.x<+:y.dropLast):m.B f y=lP f m.x m.z y:=if_neg h
theorem Yp{m:Mo}(h:t≠[]):m.B f (m.x++t)=m.to++t:=by
 unfold B;rw[if_pos<|by rw[ol h];exact d8 _ _,wP]
theorem Us(m:Mo):m.to.dropLast=mP m.x m.z m.z.dropLast:=by
 unfold to;rw[Ji,Jh (z:=m.z) λ_=>rfl]
theorem Ok.nb{m:Mo}(o:m.Ok):Nb m.x m.z.dropLast:=λ_=>o.nz
theorem nb(h:¬x<+:q):Nb x q:=λ_=>h
theorem Ut{m:Mo}(o:m.Ok)(a:m.Jl p)(c:m.Jl q)(h:m.A p<+:m.A q):p<+:q∨(m.x<+:q/\¬m.x<+:p/\p<+:m.z.dropLast):=by
 by_cases c1:m.x<+:p
 .obtain⟨t,rfl⟩:=c1;rw[DN]at h;by_cases c2:m.x<+:q
  .obtain⟨u,rfl⟩:=c2;rw[DN]at h;exact .inl<|(lQ _).mpr<|(lQ _).mp h
  .rw[Bl c2]at h;exact absurd ((d8 _ _).trans h)<|c c2
 .rw[Bl c1]at h;by_cases c2:m.x<+:q
  .refine .inr ⟨c2,c1,?_⟩;obtain⟨u,rfl⟩:=c2;rw[DN]at h;have d:mP m.x m.z p<+:m.to:=(EJ h<|d8 _ _).elim id λz=>absurd z<|a c1;have b:=Jk d<|a c1;rw[Us]at b;exact Fn (nb c1) o.nb b
  .rw[Bl c2]at h;exact .inl<|Fn (nb c1) (nb c2) h
structure Wv(m n:Mo):Prop where
 o1:m.Ok
 o2:n.Ok
 ne:m.x≠n.x
 ni:¬(m.x<+:n.z.dropLast/\n.x<+:m.z.dropLast)
 fx:m.Jl n.x
 fh:m.Jl n.z.dropLast
 gx:n.Jl m.x
 gh:n.Jl m.z.dropLast
theorem Wv.symm{m n:Mo}(t:Wv m n):Wv n m:=⟨t.o2,t.o1,u8 t.ne,λh=>t.ni ⟨h.2,h.1⟩,t.gx,t.gh,t.fx,t.fh⟩
open Classical in
noncomputable def ex (m n:Mo):List Ac:=if m.x<+:n.x then[]else n.x
open Classical in
noncomputable def ez (m n:Mo):List Ac:=if m.x<+:n.z.dropLast then[]else n.z
theorem strict{a b:List Ac}(h:a<+:b)(ne:a≠b):a<+:b.dropLast:=Jk h λz=>ne<|DF h z
theorem jT{m n:Mo}(t:Wv m n)(h:m.to<+:q->m.to=q):mP (m.A n.x) (m.B f n.z) q=mP (mP m.x m.z (ex m n)) (lP f m.x m.z (ez m n)) q:=by
 have e:∀y,mP (m.A n.x) y q=mP (mP m.x m.z<|ex m n) y q:=λy=>by
  unfold ex;by_cases c:m.x<+:n.x
  .rw[if_pos c];obtain⟨u,b⟩:=c;have d:u≠[]:=λz=>t.ne (by rw[<-b,z,ge]);rw[<-b,DN];show _=mP [] y q;refine Mh λa=>?_;rw[ol d]at a⊢;have:=h<|(d8 _ _).trans a;rw[<-this]at a⊢;exact(DF (d8 _ _) a).symm
  .rw[if_neg c,Bl c]
 rw[e];unfold ez;by_cases c:m.x<+:n.z.dropLast
 .rw[if_pos c];obtain⟨u,b⟩:=c.trans<|V8 _;have d:u≠[]:=λz=>by
   rw[z,ge]at b;have:=c.length_le;rw[<-b,yw]at this;have g:0<m.x.length:=ym.mpr t.o1.x0;lia
  rw[<-b,Yp d];show _=mP _ [] q;refine Jh λa=>?_;rw[ol d]at a⊢;have:=h<|(d8 _ _).trans a;rw[<-this]at a⊢;exact(DF (d8 _ _) a).symm
 .rw[if_neg c,Ks c]
theorem fQ{m n:Mo}(t:Wv m n)(h:n.x<+:q->n.x=q):mP m.x m.z q=mP (ex n m) (ez n m) q:=by
 have b:mP m.x m.z q=mP (ex n m) m.z q:=by
  unfold ex;by_cases c:n.x<+:m.x
  .rw[if_pos c];have s:=strict c<|u8 t.ne;refine Mh λa=>?_;have:=h<|s.trans a;rw[<-this]at a⊢;exact DF a s
  .rw[if_neg c]
 rw[b];unfold ez;by_cases c:n.x<+:m.z.dropLast
 .rw[if_pos c];refine Jh λa=>?_;have:=h<|c.trans a;rw[<-this]at a⊢;exact DF a c
 .rw[if_neg c]
theorem jU{m n:Mo}(t:Wv m n)(h:¬n.x<+:y.dropLast):lP f m.x m.z y=lP f (ex n m) (ez n m) y:=by
 have b:lP f m.x m.z y=lP f (ex n m) m.z y:=by
  unfold ex;by_cases c:n.x<+:m.x
  .rw[if_pos c];exact ON λa=>h<|(strict c<|u8 t.ne).trans a
  .rw[if_neg c]
 rw[b];unfold ez;by_cases c:n.x<+:m.z.dropLast
 .rw[if_pos c];exact Ur λa=>h<|c.trans a
 .rw[if_neg c]
theorem Uu{m n:Mo}(h:¬n.x<+:q):Nb (ex m n) q:=by
 unfold ex;split
 .exact λh _=>h W
 .exact λ_=>h
theorem Yq{m n:Mo}:Nb m.x (ex m n):=by
 unfold ex;split
 .exact λh z=>h<|n7.mp z
 .exact λ_=>by assumption
theorem Yr{m n:Mo}:Nb m.x (ez m n).dropLast:=by
 unfold ez;split
 .exact λh z=>h<|n7.mp z
 .exact λ_=>by assumption
theorem Nb.mF{m n:Mo}(h:Nb m.x q):Nb (ex n m) q:=by
 unfold ex;split
 .exact λh _=>h W
 .exact h
end Mo
end Tp
namespace Tp
namespace Mo
theorem jV{m n:Mo}(c:¬m.x<+:n.x):ex m n=n.x:=if_neg c
theorem jW{m n:Mo}(c:¬m.x<+:n.z.dropLast):ez m n=n.z:=if_neg c
theorem cv{m n:Mo}(o:m.Ok)(c:m.x<+:n.x)(h:n.x<+:m.z.dropLast):False:=o.nz<|c.trans h
theorem Ys{m n:Mo}(t:Wv m n)(d:m.Jl q)(b:¬m.x<+:q)(g:¬n.x<+:q):(ov f m n).A (m.A q)=mP (mP (ex n m) (ez n m) (ex m n)) (lP f (ex n m) (ez n m) (ez m n)) (mP (ex n m) (ez n m) q):=by
 rw[Bl b];have h:¬(ov f m n).x<+:mP m.x m.z q:=λa=>by
  by_cases c:m.x<+:n.x
  .obtain⟨u,i⟩:=c;have e:(ov f m n).x=m.to++u:=by show m.A n.x=_;rw[<-i,DN]
   rw[e]at a;exact d b<|(d8 _ _).trans a
  .have e:(ov f m n).x=mP m.x m.z n.x:=Bl c;rw[e]at a;exact g<|Fn (nb c) (nb b) a
 rw[Bl h];show mP (m.A n.x) (m.B f n.z) _=_;rw[jT t λa=>absurd a<|d b,fQ t (q:=q) λa=>absurd a g];have j:mP m.x m.z (ex m n)=mP (ex n m) (ez n m) (ex m n):=by
  by_cases c:m.x<+:n.x
  .rw[show ex m n=[]from if_pos c];rfl
  .rw[jV c];exact fQ t λ_=>rfl
 have k:lP f m.x m.z (ez m n)=lP f (ex n m) (ez n m) (ez m n):=by
  by_cases c:m.x<+:n.z.dropLast
  .rw[show ez m n=[]from if_pos c];rfl
  .rw[jW c];exact jU t t.o2.nz
 rw[j,k]
theorem jX{m n:Mo}(t:Wv m n)(c:m.Jl q)(d:n.Jl q)(a:¬m.x<+:q)(b:¬n.x<+:q):(ov f m n).A (m.A q)=(ov (!f) n m).A (n.A q):=by
 rw[Ys t c a b,Ys t.symm d b a];exact Up f q _ _ _ _ (Uu a) (Uu b) (Nb.mF Yq) (Nb.mF Yq) (Nb.mF Yr)<|Nb.mF Yr
theorem TR{m n:Mo}(o:m.Ok)(c:m.x<+:n.z.dropLast):∃u,u≠[]/\n.z=m.x++u:=by
 obtain⟨u,a⟩:=c.trans<|V8 _;refine⟨u,λz=>?_,a.symm⟩;rw[z,ge]at a;have:=c.length_le;rw[<-a,yw]at this;have b:0<m.x.length:=ym.mpr o.x0;lia
theorem cw{m n:Mo}(t:Wv m n){s:List Ac}(h:¬n.x<+:m.x++s):(ov f m n).A (m.A (m.x++s))=(ov (!f) n m).A (n.A (m.x++s)):=by
 have d:¬n.x<+:m.x:=λb=>h<|b.trans<|d8 _ _;have o:n.A (m.x++s)=mP n.x n.z m.x++mP (st n.x m.x) (st n.z m.x) s:=by rw[Bl h,Fl]
 have i:(ov (!f) n m).x=mP n.x n.z m.x:=Bl d;rw[o,<-i,DN,DN];by_cases c:n.x<+:m.z.dropLast
 .have c1:¬m.x<+:n.z.dropLast:=λz=>t.ni ⟨z,c⟩;have c2:¬m.x<+:n.x:=λz=>cv t.o1 z c;obtain⟨u,g,a⟩:=TR t.o2 c;have l:(ov f m n).x=mP m.x [] n.x:=by
   show m.A n.x=_;rw[Bl c2];exact Jh λb=>DF b c
  have p:(ov f m n).z=lP f m.x [] n.z:=by
   show m.B f n.z=_;rw[Ks c1];exact Ur λb=>t.o2.nz<|c.trans b
  have r:m.to=(ov f m n).x++u:=by
   rw[l];show lP false m.x [] m.z=_;rw[a,Fm g,G_ d,CC,DE]
  rw[r,j3,DN,G_ c2,Jj c1,FO];have j:(ov (!f) n m).z=n.to++u:=by
   show n.B (!f) m.z=_;rw[a,Yp g]
  show lP false (ov f m n).x [] (ov f m n).z++(u++s)=lP false (ov (!f) n m).x [] (ov (!f) n m).z++s;rw[j,Fm g,CC,i,G_<|t.gx d,DE,l,p,j3];congr 1;have k:=cont (!f) false n.z n.x m.x [] (nb d) (nb c2) (λ_=>λz=>t.o2.x0<|n7.mp z) (nb c1) t.o2.nb;rw[jP,zk]at k;exact k.symm
 .have v:¬(ov f m n).x<+:m.to++s:=λb=>by
   by_cases c1:m.x<+:n.x
   .obtain⟨u,a⟩:=c1;have e:(ov f m n).x=m.to++u:=by show m.A n.x=_;rw[<-a,DN]
    rw[e]at b;exact h<|by rw[<-a];exact(lQ _).mpr<|(lQ _).mp b
   .have e:(ov f m n).x=mP m.x m.z n.x:=Bl c1;rw[e]at b;have k1:=(EJ b<|d8 _ _).elim id λz=>absurd z<|t.fx c1;have k2:=Jk k1<|t.fx c1;rw[Us]at k2;exact c<|Fn (nb c1) t.o1.nb k2
  rw[Bl v,Fl];have w:st (ov f m n).x m.to=st n.x m.x:=by
   by_cases c1:m.x<+:n.x
   .obtain⟨u,a⟩:=c1;have e:(ov f m n).x=m.to++u:=by show m.A n.x=_;rw[<-a,DN]
    rw[e,<-a,Eh,Eh]
   .have e:(ov f m n).x=mP m.x m.z n.x:=Bl c1;rw[e,G_<|t.fx c1,G_ c1]
  have C:st (ov f m n).z m.to=st n.z m.x:=by
   by_cases c1:m.x<+:n.z.dropLast
   .obtain⟨u,g,a⟩:=TR t.o1 c1;have e:(ov f m n).z=m.to++u:=by show m.B f n.z=_;rw[a,Yp g]
    rw[e,a,Eh,Eh]
   .have e:(ov f m n).z=lP f m.x m.z n.z:=Ks c1;rw[e,Jj c1];refine Jj ?_;rw[Ji];exact t.fh c1
  rw[w,C];congr 1;show mP (m.A n.x) (m.B f n.z) m.to=lP false (ov (!f) n m).x [] (ov (!f) n m).z;rw[jT t λ_=>rfl,i];have j:(ov (!f) n m).z=lP (!f) n.x n.z m.z:=Ks c;rw[j,fQ t.symm (q:=m.x) λ_=>rfl,jU t.symm (y:=m.z) t.o1.nz];exact cont f false m.z m.x (ex m n) (ez m n) Yq (Uu d) Yr (Uu c) t.o1.nb
theorem Uv{m n:Mo}(t:Wv m n)(c:m.x<+:n.x){s:List Ac}:(ov f m n).A (m.A (n.x++s))=(ov (!f) n m).A (n.A (n.x++s)):=by
 have g:=strict c t.ne;obtain⟨u,i⟩:=c;have l:u≠[]:=λz=>t.ne (by rw[<-i,z,ge]);have c:m.x<+:n.x:=⟨u,i⟩;have r:¬n.x<+:m.x:=λz=>t.ne<|DF c z;have w:¬n.x<+:m.z.dropLast:=λz=>cv t.o1 c z;have o:(ov f m n).x=m.to++u:=by show m.A n.x=_;rw[<-i,DN]
 have C:m.A (n.x++s)=(ov f m n).x++s:=by rw[o,<-i,j3,DN,j3]
 rw[C,DN,DN];have p:(ov (!f) n m).x=mP n.x n.z m.x:=Bl r;have z1:(ov (!f) n m).z=lP (!f) n.x n.z m.z:=Ks w;by_cases c1:m.x<+:n.z.dropLast
 .obtain⟨v,q,y⟩:=TR t.o1 c1;have b:(ov (!f) n m).x=m.x:=by
   rw[p,Mh λa=>DF a g,Jh λa=>DF a c1,FO]
  have d:(ov (!f) n m).z=m.z:=by
   rw[z1,ON λa=>t.o1.nz<|g.trans a,Ur λa=>t.o1.nz<|c1.trans a,DE]
  have D:ov (!f) n m=m:=by
   cases h:ov (!f) n m;rw[h]at b d;cases m;cases b;cases d;rfl
  have z2:(ov f m n).z=m.to++v:=by show m.B f n.z=_;rw[y,Yp q]
  have j:n.to=m.x++lP false u [] v:=by
   show lP false n.x [] n.z=_;rw[y,Fm q,<-i,Eh,CC,Mh (x:=m.x++u) λa=>?_,FO];rw[ol l]at a⊢;exact DF a<|d8 _ _
  rw[D,j,j3,DN,<-j3];congr 1;show lP false (ov f m n).x [] (ov f m n).z=_;rw[z2,o,Fm q,Eh,CC,Mh (x:=m.to++u) λa=>?_,FO];rw[ol l]at a⊢;exact DF a<|d8 _ _
 .have j:n.to=n.z:=by
   show lP false n.x [] n.z=_;rw[ON λa=>c1<|g.trans a,DE]
  have z2:(ov f m n).z=lP f m.x m.z n.z:=Ks c1;have E:(ov f m n).to=(ov f m n).z:=by
   show lP false (ov f m n).x [] (ov f m n).z=_;rw[o,ON λa=>?_,DE];rw[ol l,z2,Ji]at a;exact t.fh c1<|(d8 _ _).trans a
  have b:(ov (!f) n m).x=mP [] n.z m.x:=by rw[p,Mh λa=>DF a g]
  have d:(ov (!f) n m).z=lP (!f) [] n.z m.z:=by rw[z1,ON λa=>t.o1.nz<|g.trans a]
  have gx:¬n.z<+:(ov (!f) n m).x:=λa=>t.gx r (by rw[j,<-p];exact a);have F:¬n.z<+:(ov (!f) n m).z.dropLast:=λa=>t.gh w (by rw[z1,Ji]at a;rw[j];exact a);have G:¬(ov (!f) n m).x<+:n.z++s:=λa=>by
   have k1:=(EJ a<|d8 _ _).elim id λz=>absurd z gx;have k2:=Jk k1 gx;have e:n.z.dropLast=mP [] n.z n.z.dropLast:=by rw[Jh λ_=>rfl,FO]
   rw[e,b]at k2;exact c1<|Fn (λz=>absurd W z) (λz=>absurd W z) k2
  rw[E,j,Bl G,Fl,G_ gx,Jj F,FO,b,d,z2];congr 1;have k:=cont (!f) false n.z [] m.x m.z (λz=>absurd W z) (λh z=>h<|n7.mp z) (λz=>absurd W z) (nb c1) (λz=>absurd W z);rw[DE,zk]at k;rw[k,pP,DE]
theorem square{m n:Mo}(t:Wv m n)(d:m.Jl q)(e:n.Jl q):(ov f m n).A (m.A q)=(ov (!f) n m).A (n.A q):=by
 by_cases b:m.x<+:q
 .by_cases a:n.x<+:q
  .rcases EJ b a with c|c
   .obtain⟨s,rfl⟩:=a;exact Uv t c
   .obtain⟨s,rfl⟩:=b;have:=Uv (f:= !f) t.symm c (s:=s);rw[zk]at this;exact this.symm
  .obtain⟨s,rfl⟩:=b;exact cw t a
 .by_cases a:n.x<+:q
  .obtain⟨s,rfl⟩:=a;have:=cw (f:= !f) t.symm b;rw[zk]at this;exact this.symm
  .exact jX t d e b a
end Mo
end Tp
variable{i:Bool}{s:Ac}
namespace Tp
inductive Kd|leaf (v:V)|row|tab
abbrev Kf:=List Ac->Option Kd
def rD:Ac:=.inr "d"
def rL(i:Bool):Ac:=.inr<|cond i "la" "lb"
def rT(i:Bool):Ac:=.inr<|cond i "ta" "tb"
theorem DL(i:Bool):rD≠rL i:=by cases i<;>decide
theorem DT(i:Bool):rD≠rT i:=by cases i<;>decide
theorem LT(i j:Bool):rL i≠rT j:=by cases i<;>cases j<;>decide
theorem LL(i:Bool):rL i≠rL (!i):=by cases i<;>decide
theorem TT(i:Bool):rT i≠rT (!i):=by cases i<;>decide
def Yt(s:Ac):Prop:=∃n,s=.inr n
theorem nD:Yt rD:=⟨_,W⟩
theorem nL(i:Bool):Yt (rL i):=⟨_,W⟩
theorem nT(i:Bool):Yt (rT i):=⟨_,W⟩
inductive Rm|mv (m:Mo)|ch (g:List Ac) (i:Bool)|no
namespace Rm
noncomputable def A:Rm->List Ac->List Ac
 |mv m,q=>m.A q|ch g i,q=>if g<+:q then rT i::q.drop g.length else if[rL i]<+:q then g++q.drop 1 else q|no,q=>q
noncomputable def B(f:Bool):Rm->List Ac->List Ac
 |mv m,y=>m.B f y|_,y=>y
theorem _root_.L2.Tp.jY{g:List Ac}(a:¬g<+:q)(b:¬[rL i]<+:q):(Rm.ch g i).A q=q:=by
 show(if _ then _ else _)=_;rw[if_neg a,if_neg b]
noncomputable def ov(f:Bool)(a:Rm):Rm->Rm
 |mv m=>mv ⟨a.A m.x,a.B f m.z⟩|ch g i=>ch (a.A g) i|no=>no
end Rm
theorem LZ{r:List Ac}(h:Yt s):∃a,mP x z (s::r)=s::a:=by
 obtain⟨n,rfl⟩:=h;exact⟨_,W⟩
theorem Uw{r:List Ac}(h:Yt s):∃b,lP f x z (s::r)=s::b:=by
 obtain⟨n,rfl⟩:=h;cases r with
 |nil=>exact⟨_,W⟩|cons a r=>rw[Fj _ _ _ _ z_];exact⟨_,W⟩
theorem BM{a b:Ac}{r:List Ac}(h:a::x<+:b::r):a=b:=(bv.mp h).1
def Pn(i:Bool):Rm->Prop
 | .mv m=>(∃s r,m.x=s::r/\(s=rD∨s=rL i))/\∃s r,m.z=s::r/\(s=rD∨s=rT i)| .ch g j=>j=i/\∃r,g=rD::r| .no=>True
theorem Mi{a:Rm}(h:Pn i a)(n:Yt s)(b:s≠rD)(d:s≠rL i)(f:s≠rT i):a.A (s::t)=s::t:=by
 cases a with
 |no=>rfl|ch g j=>
  obtain⟨rfl,r,rfl⟩:=h;exact jY (λz=>b (BM z).symm) (λz=>d (BM z).symm)
 |mv m=>
  obtain⟨⟨l,q,e,c1⟩,o,u,p,c2⟩:=h;have k1:l≠s:=λz=>c1.elim (λc=>b<|z.symm.trans c) λc=>d<|z.symm.trans c;have k2:o≠s:=λz=>c2.elim (λc=>b<|z.symm.trans c) λc=>f<|z.symm.trans c;show m.A _=_;rw[Mo.Bl<|by rw[e];exact λz=>k1<|BM z,e,p];show mS _ _ s::mP (nx _ s) (nx _ s) t=_;rw[Cy _ k1,Cy _ k2,FO];obtain⟨k,rfl⟩:=n;rfl
theorem Po{a:Rm}(h:Pn i a)(c:s=rD∨s=rL i):∃b t',a.A (s::t)=b::t'/\(b=rD∨b=rL i∨b=rT i):=by
 have n:Yt s:=c.elim (λc=>by rw[c];exact nD) λc=>by rw[c];exact nL i
 have d:s=rD∨s=rL i∨s=rT i:=c.imp id .inl;cases a with
 |no=>exact⟨s,t,W,d⟩|ch g j=>
  obtain⟨rfl,r,rfl⟩:=h;show∃b t',(if rD::r<+:s::t then rT j::(s::t).drop (rD::r).length else if[rL j]<+:s::t then rD::r++(s::t).drop 1 else s::t)=b::t'/\_;split
  .exact⟨_,_,W,.inr<|.inr W⟩
  .split
   .exact⟨_,_,W,.inl W⟩
   .exact⟨s,t,W,d⟩
 |mv m=>
  obtain⟨⟨y,B,C,c1⟩,l,p,q,c2⟩:=h;have v:Yt l:=c2.elim (λc=>by rw[c];exact nD) λc=>by rw[c];exact nT i
  show∃b t',m.A _=_/\_;by_cases k:m.x<+:s::t
  .obtain⟨u,w⟩:=k;rw[<-w,Mo.DN];unfold Mo.to;rw[q];obtain⟨o,e⟩:=Uw (f:=false) (x:=m.x) (z:=[]) (r:=p) v;rw[e];exact⟨l,_,W,c2.imp id .inr⟩
  .rw[Mo.Bl k];obtain⟨o,e⟩:=LZ (x:=m.x) (z:=m.z) (r:=t) n;exact⟨s,o,e,d⟩
structure Tree(K:Kf):Prop where
 up:∀{p s},(K (p++[s])).isSome=true->(K p).isSome=true
 leaf:∀{p s},(K (p++[s])).isSome=true->(∃i,s=.inl i/\K p=Z .row)∨∃n,s=.inr n/\K p=Z .tab
theorem Tree.pre{K:Kf}(T:Tree K):∀{t p:List Ac},(K (p++t)).isSome=true->(K p).isSome=true:=by
 intro t
 induction t with
 |nil=>intro p h;rwa [ge]at h|cons s t a=>
  intro p h;have e:p++s::t=(p++[s])++t:=by simp
  rw[e]at h;exact T.up<|a h
def slot(K:Kf)(x z:List Ac):Prop:=∃h s,z=h++[s]/\((∃i,s=.inl i/\K h=Z .row/\∀j,j<i->(K<|h++[.inl j]).isSome=true)∨∃n,s=.inr n/\K h=Z .tab/\((K z).isSome=true->z=x))
def here(K:Kf)(p:List Ac):Prop:=p=[]∨(∃q,p=rD::q/\(K q).isSome=true)∨∃j t,p=rL j::t
def Good(K:Kf)(i:Bool):Rm->Prop
 | .mv m=>m.Ok/\(m.x=[rL i]∨∃x,m.x=rD::x/\(K x).isSome=true)/\(m.z=[rT i]∨∃z,z≠[]/\m.z=rD::z/\(K z.dropLast).isSome=true/\((∃p k,z=p++[dL k])->(K z).isSome=true->m.x=m.z))| .ch g j=>j=i/\∃r,g=rD::r/\(K r).isSome=true| .no=>True
theorem Good.HA{K:Kf}{a:Rm}(h:Good K i a):Pn i a:=by
 cases a with
 |no=>trivial|ch g j=>obtain⟨e,r,b,_⟩:=h;exact⟨e,r,b⟩
 |mv m=>
  obtain⟨_,c,d⟩:=h;refine⟨?_,?_⟩
  .rcases c with e|⟨x,e,_⟩
   .exact⟨_,_,e,.inr W⟩
   .exact⟨_,_,e,.inl W⟩
  .rcases d with e|⟨z,_,e,_⟩
   .exact⟨_,_,e,.inr W⟩
   .exact⟨_,_,e,.inl W⟩
theorem Good.free{K:Kf}{m:Mo}(T:Tree K)(h:Good K i (.mv m))(f:here K p):m.Jl p:=by
 obtain⟨o,_,g⟩:=h;intro c;refine clear m.z m.x p o.z0 o.nb (Mo.nb c) λ⟨y,k,d⟩ b=>?_;rcases g with e|⟨z,z0,e,_,l⟩
 .rw[e]at b;rcases f with rfl|⟨q,rfl,_⟩|⟨j,t,rfl⟩
  .have:=n7.mp b;cases this
  .exact DT i (BM b).symm
  .exact LT j i (BM b).symm
 .rw[e]at b d;rcases f with rfl|⟨q,rfl,n⟩|⟨j,t,rfl⟩
  .have:=n7.mp b;cases this
  .obtain⟨u,rfl⟩:=(bv.mp b).2;have ez:∃p k,z=p++[dL k]:=by
    cases y with
    |nil=>
     have r:z=[]:=(b8 (show rD::z=[dL k]from d)).2;exact absurd r z0
    |cons a y=>exact⟨y,k,(b8 (show rD::z=a::(y++[dL k])from d)).2⟩
   have:=l ez<|T.pre n;rw[this,e]at c;exact c b
  .exact DL j<|BM b
def Rc:Rm->Rm->Prop
 | .mv m,.mv n=>m.x≠n.x/\¬(m.x<+:n.z.dropLast/\n.x<+:m.z.dropLast)| .mv m,.ch g _=>¬g<+:m.x/\¬g<+:m.z.dropLast/\∃r,m.A g=rD::r| .ch g _,.mv m=>¬g<+:m.x/\¬g<+:m.z.dropLast/\∃r,m.A g=rD::r| .ch g _,.ch g' _=>¬g<+:g'/\¬g'<+:g|_,_=>True
theorem cx{m:Mo}(a:p<+:m.x->p=m.x)(b:¬p<+:m.z.dropLast):m.A (p++t)=m.A p++t:=by
 by_cases c:m.x<+:p
 .obtain⟨u,rfl⟩:=c;rw[j3,Mo.DN,Mo.DN,j3]
 .have c1:¬p<+:m.x:=λz=>c (by rw[a z];exact nH _);have c2:¬m.x<+:p++t:=λz=>(EJ z<|d8 _ _).elim c c1;rw[Mo.Bl c2,Mo.Bl c,Fl,G_ c1,Jj b,FO]
theorem Good.Yu{K:Kf}{m:Mo}(h:Good K i (.mv m)):here K m.z.dropLast:=by
 obtain⟨_,_,e|⟨z,a,e,b,_⟩⟩:=h
 .rw[e];exact .inl W
 .rw[e,ms a];exact .inr<|.inl ⟨_,W,b⟩
theorem Good.Yv{K:Kf}{m:Mo}(h:Good K i (.mv m)):here K m.x:=by
 obtain⟨_,e|⟨x,e,a⟩,_⟩:=h
 .rw[e];exact .inr<|.inr ⟨_,_,W⟩
 .rw[e];exact .inr<|.inl ⟨_,W,a⟩
theorem Good.two{K:Kf}{m n:Mo}(T:Tree K)(h:Good K i (.mv m))(h':Good K (!i) (.mv n))(c:Rc (.mv m) (.mv n)):Mo.Wv m n:=⟨h.1,h'.1,c.1,c.2,h.free T h'.Yv,h.free T h'.Yu,h'.free T h.Yv,h'.free T h.Yu⟩
theorem jZ{K:Kf}{m:Mo}(T:Tree K)(a:Good K i (.mv m)){g:List Ac}(o:Good K (!i) (.ch g (!i)))(c:Rc (.mv m) (.ch g (!i)))(l:here K p):(Rm.ch (m.A g) (!i)).A (m.A p)=m.A ((Rm.ch g (!i)).A p):=by
 obtain⟨c1,c2,r,x⟩:=c;obtain⟨_,u,v,w⟩:=o;have b:here K g:=.inr<|.inl ⟨u,v,w⟩;have n:∀t,m.A (g++t)=m.A g++t:=λt=>cx (λz=>absurd z c1) c2;have off:=λ(s:Ac)(t:List Ac)=>Mi (t:=t) (s:=s) a.HA;show(if _ then _ else _)=m.A (if _ then _ else _);by_cases k:g<+:p
 .obtain⟨t,rfl⟩:=k;rw[if_pos<|d8 _ _,n,if_pos<|d8 _ _,wP,wP];refine(off (rT<|!i) t (nT _) (DT _).symm (LT _ _).symm ?_).symm;exact(TT i).symm
 .rw[if_neg k];have k1:¬m.A g<+:m.A p:=λz=>(Mo.Ut a.1 (a.free T b) (a.free T l) z).elim k λz=>c2 z.2.2;rw[if_neg k1];by_cases k2:[rL<|!i]<+:p
  .obtain⟨t,rfl⟩:=k2;rw[if_pos<|d8 _ _];have e:m.A ([rL<|!i]++t)=[rL<|!i]++t:=off (rL<|!i) t (nL _) (DL _).symm (LL i).symm<|LT _ _;rw[e,if_pos<|d8 _ _];show m.A g++t=m.A (g++t);rw[n]
  .rw[if_neg k2];refine if_neg λz=>k2 ?_;rcases l with rfl|⟨q,rfl,_⟩|⟨j,t,rfl⟩
   .have e:m.A []=[]:=Mo.Bl (λz=>a.1.x0<|n7.mp z);rw[e]at z;exact z
   .exfalso;obtain⟨d,f,e,h⟩:=Po a.HA (s:=rD) (t:=q)<|.inl W;have e:m.A (rD::q)=d::f:=e;rw[e]at z;have:=BM z;rcases h with rfl|rfl|rfl
    .exact DL _ this.symm
    .exact LL i this.symm
    .exact LT _ _ this
   .by_cases e:j=i
    .subst e;exfalso;obtain⟨d,f,e,h⟩:=Po a.HA (s:=rL j) (t:=t)<|.inr W;have e:m.A (rL j::t)=d::f:=e;rw[e]at z;have:=BM z;rcases h with rfl|rfl|rfl
     .exact DL _ this.symm
     .exact LL j this.symm
     .exact LT _ _ this
    .have e:j= !i:=by cases i<;>cases j<;>first|rfl|exact absurd rfl e
     rw[e];exact⟨t,W⟩
theorem ve{K:Kf}{a b:Rm}(T:Tree K)(l:Good K i a)(q:Good K (!i) b)(c:Rc a b)(u:here K p):(a.ov f b).A (a.A p)=(b.ov (!f) a).A (b.A p):=by
 have B:i= !(!i):=by cases i<;>rfl
 cases a with
 |no=>cases b<;>rfl|mv m=>
  cases b with
  |no=>rfl|mv n=>exact Mo.square (l.two T q c) (l.free T u) (q.free T u)|ch g j=>
   obtain rfl:=q.1;refine(jZ T l q c u).trans ?_;obtain⟨_,d,F,C⟩:=q;have s:(Rm.ch g<|!i).A m.x=m.x:=by
    show(if _ then _ else _)=_;rw[if_neg c.1,if_neg];intro z;obtain⟨_,e|⟨x,e,_⟩,_⟩:=l
    .rw[e]at z;exact LL i (BM z).symm
    .rw[e]at z;exact DL _ (BM z).symm
   show _=(Rm.mv ⟨(Rm.ch g<|!i).A m.x,m.z⟩).A _;rw[s];rfl
 |ch g j=>
  cases b with
  |no=>rfl|mv m=>
   obtain rfl:=l.1;have w:=q;rw[B]at l;have:=jZ T q (i:= !j) (g:=g) (by rw[zk];rw[zk]at l;exact l) (by rw[zk];exact c) u;rw[zk]at this;refine Eq.trans ?_ this.symm;rw[<-B]at l;obtain⟨_,d,F,C⟩:=l;have s:(Rm.ch g j).A m.x=m.x:=by
    show(if _ then _ else _)=_;rw[if_neg c.1,if_neg];intro z;obtain⟨_,e|⟨x,e,_⟩,_⟩:=w
    .rw[e]at z;exact LL j<|BM z
    .rw[e]at z;exact DL _ (BM z).symm
   show(Rm.mv ⟨(Rm.ch g j).A m.x,m.z⟩).A _=_;rw[s];rfl
  |ch L M=>
   obtain⟨rfl,d,rfl,C⟩:=l;obtain⟨rfl,h,rfl,G⟩:=q;obtain⟨c1,c2⟩:=c;have s:(Rm.ch (rD::d) j).A (rD::h)=rD::h:=by
    exact jY c1 λz=>DL _ (BM z).symm
   have H:(Rm.ch (rD::h)<|!j).A (rD::d)=rD::d:=by
    show(if _ then _ else _)=_;rw[if_neg c2,if_neg λz=>DL _ (BM z).symm]
   show(Rm.ch _<|!j).A ((Rm.ch (rD::d) j).A p)=(Rm.ch _ j).A ((Rm.ch (rD::h)<|!j).A p);rw[s,H];have I:∀t,(Rm.ch (rD::h)<|!j).A (rT j::t)=rT j::t:=λt=>Mi (i:= !j) (a:=Rm.ch (rD::h)<|!j) ⟨W,_,W⟩ (nT _) (DT _).symm (LT _ _).symm<|TT j;have J:∀t,(Rm.ch (rD::d) j).A (rT (!j)::t)=rT (!j)::t:=λt=>Mi (i:=j) (a:=Rm.ch (rD::d) j) ⟨W,_,W⟩ (nT _) (DT _).symm (LT _ _).symm (TT j).symm;have D:∀t,¬rD::h<+:rD::d++t:=λt z=>(EJ z<|d8 _ _).elim c2 c1;have E:∀t,¬rD::d<+:rD::h++t:=λt z=>(EJ z<|d8 _ _).elim c1 c2;have v:∀k g t,¬[rL k]<+:(rD::g)++t:=λk g t z=>DL k (BM z).symm;by_cases k1:rD::d<+:p
   .obtain⟨t,rfl⟩:=k1;have o:(Rm.ch (rD::d) j).A (rD::d++t)=rT j::t:=by
     show(if _ then _ else _)=_;rw[if_pos<|d8 _ _,wP]
    have r:(Rm.ch (rD::h)<|!j).A (rD::d++t)=rD::d++t:=by
     show(if _ then _ else _)=_;rw[if_neg<|D t,if_neg<|v _ _ _]
    rw[o,r,I,o]
   .by_cases k2:rD::h<+:p
    .obtain⟨t,rfl⟩:=k2;have o:(Rm.ch (rD::h)<|!j).A (rD::h++t)=rT (!j)::t:=by
      show(if _ then _ else _)=_;rw[if_pos<|d8 _ _,wP]
     have r:(Rm.ch (rD::d) j).A (rD::h++t)=rD::h++t:=by
      show(if _ then _ else _)=_;rw[if_neg<|E t,if_neg<|v _ _ _]
     rw[o,r,J,o]
    .have o:(Rm.ch (rD::d) j).A p=if[rL j]<+:p then(rD::d)++p.drop 1 else p:=if_neg k1;have r:(Rm.ch (rD::h)<|!j).A p=if[rL<|!j]<+:p then(rD::h)++p.drop 1 else p:=if_neg k2;rw[o,r];by_cases l1:[rL j]<+:p
     .have l2:¬[rL<|!j]<+:p:=λz=>by
       obtain⟨t,rfl⟩:=l1;exact LL j (BM z).symm
      rw[if_pos l1,if_neg l2];have y:(Rm.ch (rD::h)<|!j).A (rD::d++p.drop 1)=rD::d++p.drop 1:=by
       show(if _ then _ else _)=_;rw[if_neg<|D _,if_neg<|v _ _ _]
      rw[y,o,if_pos l1]
     .rw[if_neg l1];by_cases l2:[rL<|!j]<+:p
      .rw[if_pos l2];have y:(Rm.ch (rD::d) j).A (rD::h++p.drop 1)=rD::h++p.drop 1:=by
        show(if _ then _ else _)=_;rw[if_neg<|E _,if_neg<|v _ _ _]
       rw[y,r,if_pos l2]
      .rw[if_neg l2,o,r,if_neg l1,if_neg l2]
end Tp
namespace Tp
inductive Ro
 |put (z:List Ac) (c:Kf)|copy (x z:List Ac)|take (x:List Ac)|move (x z:List Ac)|chg (x:List Ac) (c:Kf)
 |ask (x:List Ac) (c:Kf)|has (x:List Ac)|EK (z:List Ac)|is (x:List Ac) (k:Kd)
namespace Ro
noncomputable def rm(i:Bool):Ro->Rm
 |put z _=>.mv ⟨[rL i],rD::z⟩|copy _ z=>.mv ⟨[rL i],rD::z⟩|take x=>.mv ⟨rD::x,[rT i]⟩|move x z=>.mv ⟨rD::x,rD::z⟩|chg x _=>.ch (rD::x) i|_=>.no
noncomputable def con(K:Kf):Ro->Kf
 |put _ c=>c|chg _ c=>c|copy x _=>λt=>K (x++t)|_=>λ_=>ν
def HJ(K:Kf):Ro->Prop
 |put z c=>slot K [] z/\(c []).isSome=true|copy x z=>(K x).isSome=true/\slot K [] z|take x=>x≠[]/\(K x).isSome=true|move x z=>x≠[]/\(K x).isSome=true/\¬x<+:z.dropLast/\slot K x z|chg x c=>(K x).isSome=true/\(c []).isSome=true|ask x c=>(K x).isSome=true/\∀t,K (x++t)=c t|has x=>(K x).isSome=true|EK z=>slot K [] z/\∃h n,z=h++[.inr n]|is x k=>K x=Z k
noncomputable def over(f:Bool)(a:Rm):Ro->Ro
 |put z c=>put (a.B f (rD::z)).tail c|copy x z=>copy (a.A (rD::x)).tail (a.B f (rD::z)).tail|take x=>take (a.A (rD::x)).tail|move x z=>move (a.A (rD::x)).tail (a.B f (rD::z)).tail|chg x c=>chg (a.A (rD::x)).tail c|ask x c=>ask (a.A (rD::x)).tail c|has x=>has (a.A (rD::x)).tail|EK z=>EK (a.B f (rD::z)).tail|is x k=>is (a.A (rD::x)).tail k
noncomputable def gone:Ro->Option (List Ac)
 |take x=>Z x|chg x _=>Z x|_=>ν
noncomputable def SG:Ro->Option (List Ac)
 |move x _=>Z x|_=>ν
noncomputable def reads:Ro->Option (List Ac)
 |copy x _=>Z x|ask x _=>Z x|_=>ν
noncomputable def comes:Ro->Option (List Ac)
 |put z _=>Z z|copy _ z=>Z z|move _ z=>Z z|_=>ν
noncomputable def bQ:Ro->Option (List Ac)
 |put z _=>Z z|copy _ z=>Z z|move _ z=>Z z|EK z=>Z z|_=>ν
noncomputable def BW:Ro->List (List Ac)
 |put z _=>[z.dropLast]|copy x z=>[x,z.dropLast]|take x=>[x]|move x z=>[x,z.dropLast]|chg x _=>[x]|ask x _=>[x]|has x=>[x]|EK z=>[z.dropLast]|is x _=>[x]
end Ro
structure Nc(R S:Ro):Prop where
 g:∀a,R.gone=Z a->∀n∈S.BW,¬a<+:n
 r1:∀a,S.reads=Z a->∀b,R.gone=Z b->¬a<+:b
 r2:∀a,S.reads=Z a->∀z,R.comes=Z z->¬a<+:z.dropLast
 r3:∀a,S.reads=Z a->∀b,R.SG=Z b->a<+:b->a=b
 b:∀z,R.comes=Z z->(∃p n,z=p++[dL n])->S.bQ≠Z z
 m:∀a,R.SG=Z a->S.SG≠Z a
 mi:∀a b c e,R.SG=Z a->S.comes=Z b->a<+:b.dropLast->S.SG=Z c->R.comes=Z e->¬c<+:e.dropLast
inductive Vw(R:Ro)(i:Bool):Rm->Prop
 |put {z:List Ac} (a:R.comes=Z z) (b:z.dropLast∈R.BW) (c:R.gone=ν):Vw R i (.mv ⟨[rL i],rD::z⟩)
 |take {x:List Ac} (a:R.gone=Z x) (b:x∈R.BW):Vw R i (.mv ⟨rD::x,[rT i]⟩)
 |move {x z:List Ac} (a:R.SG=Z x) (b:R.comes=Z z) (c:x∈R.BW) (d:z.dropLast∈R.BW) (e:R.gone=ν):Vw R i (.mv ⟨rD::x,rD::z⟩)
 |ch {x:List Ac} (a:R.gone=Z x) (b:x∈R.BW):Vw R i (.ch (rD::x) i)
 |no:Vw R i .no
theorem vw(R:Ro)(i:Bool):Vw R i (R.rm i):=by
 cases R<;>first
  |exact .put rfl (by simp[Ro.BW]) rfl
  |exact .take rfl (by simp[Ro.BW])
  |exact .move rfl rfl (by simp[Ro.BW]) (by simp[Ro.BW]) rfl
  |exact .ch rfl (by simp[Ro.BW])
  |exact .no
theorem slot.ne{K:Kf}(h:slot K x z):z≠[]:=by
 obtain⟨p,s,rfl,_⟩:=h;simp
theorem slot.hold{K:Kf}(h:slot K x z):(K z.dropLast).isSome=true:=by
 obtain⟨p,s,rfl,h⟩:=h;rw[e5];rcases h with⟨i,_,e,_⟩|⟨n,_,e,_⟩<;>rw[e]<;>rfl
theorem slot.Yt{K:Kf}(h:slot K x z)(c:∃p k,z=p++[dL k]):(K z).isSome=true->z=x:=by
 obtain⟨p,s,rfl,h⟩:=h;obtain⟨a,k,e⟩:=c;obtain⟨_,e⟩:=wf e W;cases e;rcases h with⟨i,e,_⟩|⟨n,_,_,h⟩
 .cases e
 .exact h
theorem Cs:¬[rL i]<+:rD::q:=λz=>DL i (BM z).symm
theorem Fo{a:Ac} :¬a::x<+:[]:=λz=>G5 _ _<|n7.mp z
theorem Ux{K:Kf}{m:Mo}{j:Bool}(e:m.z=rD::z)(g:Good K j (.mv m)):z≠[]:=by
 obtain⟨_,_,a|⟨z2,b,a,_⟩⟩:=g
 .exact absurd (b8<|e.symm.trans a).1<|DT j
 .rw[(b8<|e.symm.trans a).2];exact b
theorem EL{K:Kf}{R:Ro}(h:R.HJ K)(i:Bool):Good K i (R.rm i):=by
 have pt:∀z,slot K [] z->Good K i (.mv ⟨[rL i],rD::z⟩):=λz a=>⟨⟨z_,z_,by rw[show(rD::z).dropLast=rD::z.dropLast from ms a.ne];exact Cs⟩,.inl W,.inr ⟨z,a.ne,W,a.hold,λc k=>absurd (a.Yt c k) a.ne⟩⟩;cases R with
 |put z c=>exact pt z h.1|copy x z=>exact pt z h.2|take x=>exact⟨⟨z_,z_,Fo⟩,.inr ⟨x,W,h.2⟩,.inl W⟩|move x z=>
  obtain⟨e,b,d,a⟩:=h;refine⟨⟨z_,z_,?_⟩,.inr ⟨x,W,b⟩,.inr ⟨z,a.ne,W,a.hold,λc k=>by rw[a.Yt c k]⟩⟩;rw[show(rD::z).dropLast=rD::z.dropLast from ms a.ne];exact λc=>d (bv.mp c).2
 |chg x c=>exact⟨W,x,W,h.1⟩|ask x c=>trivial|has x=>trivial|EK z=>trivial|is x k=>trivial
theorem DW{a b:List Ac}(h:¬a<+:b):¬rD::a<+:rD::b:=λz=>h (bv.mp z).2
theorem CU(h:z≠[]):(rD::z).dropLast=rD::z.dropLast:=ms h
theorem OO{K:Kf}{R:Ro}(g:Good K i (R.rm i))(h:∀a,R.gone=Z a->¬a<+:q):∃r,(R.rm i).A (rD::q)=rD::r:=by
 have v:=vw R i;generalize R.rm i=a at v g;cases v with
 |no=>exact⟨q,W⟩|@put z b d j=>
  show∃r,Mo.A _ _=_;rw[Mo.Bl Cs];exact LZ nD
 |@take x b d=>
  show∃r,Mo.A _ _=_;rw[Mo.Bl<|DW<|h x b];exact LZ nD
 |@move x z b d j n o=>
  show∃r,Mo.A _ _=_;by_cases c:rD::x<+:rD::q
  .obtain⟨u,k⟩:=c;rw[<-k];have e:Mo.A ⟨rD::x,rD::z⟩ (rD::x++u)=_:=Mo.DN (m:=⟨rD::x,rD::z⟩);rw[e];obtain⟨r,l⟩:=Uw (f:=false) (x:=rD::x) (z:=[]) (r:=z) nD;exact⟨r++u,by show lP false (rD::x) [] (rD::z)++u=_;rw[l];rfl⟩
  .rw[Mo.Bl c];exact LZ nD
 |@ch x b d=>
  refine⟨q,?_⟩;exact jY (DW<|h x b) Cs
theorem Jm{R:Ro}(h:R.gone=ν):∀a,R.gone=Z a->¬a<+:q:=λa e=>by rw[h]at e;cases e
theorem ja{K:Kf}{R S:Ro}(h:R.HJ K)(h':S.HJ K)(n:Nc R S)(p:Nc S R):Rc (R.rm i) (S.rm (!i)):=by
 have s:=EL h i;have r:=EL h'<|!i;have a1:=λq=>OO s (q:=q);have a2:=λq=>OO r (q:=q);have B:=vw R i;have t:=vw S<|!i;generalize R.rm i=a at B s a1;generalize S.rm (!i)=b at t r a2;cases B with
 |no=>cases t<;>trivial|@put z l o w=>
  cases t with
  |no=>trivial|put j f k=>exact⟨λe=>LL i (b8 e).1,λc=>by rw[CU (Ux W r)]at c;exact Cs c.1⟩|take j f=>exact⟨λe=>DL i (b8 e).1.symm,λc=>Fo c.1⟩|move j f k u y=>exact⟨λe=>DL i (b8 e).1.symm,λc=>by rw[CU (Ux W r)]at c;exact Cs c.1⟩|@ch x j f=>exact⟨λe=>DL i (BM e),by rw[CU (Ux W s)];exact DW (p.g x j _ o),a1 x (Jm w)⟩
 |@take x l o=>
  cases t with
  |no=>trivial|put j f k=>exact⟨λe=>DL _ (b8 e).1,λc=>Fo c.2⟩|@take d j f=>exact⟨λe=>n.g x l d f (by cases e;exact nH _),λc=>Fo c.2⟩|@move d A j f k u y=>exact⟨λe=>n.g x l d k (by cases e;exact nH _),λc=>Fo c.2⟩|@ch d j f=>exact⟨DW (p.g d j x o),Fo,a1 d λa e=>n.g a e d f⟩
 |@move x z l o w j f=>
  cases t with
  |no=>trivial|put j f k=>exact⟨λe=>DL _ (b8 e).1,λc=>by rw[CU (Ux W s)]at c;exact Cs c.2⟩|@take d j f=>exact⟨λe=>p.g d j x w (by cases e;exact nH _),λc=>Fo c.1⟩|@move d A k u y C v=>exact⟨λe=>n.m x l (by cases e;exact k),λc=>by
    rw[CU (Ux W s),CU (Ux W r)]at c;exact n.mi x A d z l u (bv.mp c.1).2 k o (bv.mp c.2).2⟩
  |@ch d k u=>exact⟨DW (p.g d k x w),by rw[CU (Ux W s)];exact DW (p.g d k _ j),a1 d (Jm f)⟩
 |@ch x l o=>
  cases t with
  |no=>trivial|put j f k=>exact⟨λe=>DL _ (BM e),by rw[CU (Ux W r)];exact DW (n.g x l _ f),a2 x (Jm k)⟩|@take d j f=>exact⟨DW (n.g x l d f),Fo,a2 x λa e=>p.g a e x o⟩|@move d A k u y C v=>exact⟨DW (n.g x l d y),by rw[CU (Ux W r)];exact DW (n.g x l _ C),a2 x (Jm v)⟩|@ch d j f=>exact⟨DW (n.g x l d f),DW (p.g d j x o)⟩
def ξ(K C:Kf)(i:Bool)(q:List Ac)(k:Kd):Prop:=(∃a,q=rD::a/\K a=Z k)∨∃t,q=rL i::t/\C t=Z k
def Ei(K:Kf)(R:Ro)(i:Bool)(b:Kf):Prop:=∀a k,b a=Z k↔∃q,ξ K (R.con K) i q k/\(R.rm i).A q=rD::a
theorem ξ.here{K C:Kf}{k:Kd}(h:ξ K C i q k):here K q:=by
 rcases h with⟨a,e,h⟩|⟨t,e,_⟩
 .exact .inr<|.inl ⟨a,e,by rw[h];rfl⟩
 .exact .inr<|.inr ⟨i,t,e⟩
theorem TU{K a:Kf}{R:Ro}(d:Ei K R i a){r:List Ac}{k:Kd}(h:K q=Z k)(e:(R.rm i).A (rD::q)=rD::r):a r=Z k:=(d r k).mpr ⟨_,.inl ⟨q,W,h⟩,e⟩
theorem EM{K a:Kf}{R:Ro}(d:Ei K R i a){r:List Ac}(h:(K q).isSome=true)(e:(R.rm i).A (rD::q)=rD::r):(a r).isSome=true:=by
 obtain⟨k,b⟩:=gt.mp h;rw[TU d b e];rfl
theorem Rj{K E:Kf}{R S:Ro}(T:Tree K)(w:R.HJ K)(d:Ei K R i E)(n:Nc R S){r:List Ac}(l:S.reads=Z x)(I:x∈S.BW)(J:(K x).isSome=true)(e:(R.rm i).A (rD::x)=rD::r)(t:List Ac):E (r++t)=K (x++t):=by
 have j:=EL w i;have F:=vw R i;refine aa8 λk=>?_;refine(d _ k).trans ?_;generalize R.con K=C;generalize R.rm i=a at F j e;have B:Tp.here K (rD::x):=.inr<|.inl ⟨x,W,J⟩;have f:∀m:Mo,a=.mv m->(rD::x<+:m.x->rD::x=m.x)->(¬rD::x<+:m.z.dropLast)->((∃q,ξ K C i q k/\a.A q=rD::(r++t))↔K (x++t)=Z k):=λm L k1 k2=>by
  subst L;have G:∀t,m.A (rD::x++t)=rD::r++t:=λt=>by
   rw[cx k1 k2];have e:m.A (rD::x)=rD::r:=e;rw[e]
  constructor
  .rintro⟨q,o,eq⟩;have eq:m.A q=rD::r++t:=eq;have M:m.A (rD::x)<+:m.A q:=by
    rw[eq,show m.A (rD::x)=rD::r from e];exact d8 _ _
   rcases Mo.Ut j.1 (j.free T B) (j.free T o.here) M with⟨u,rfl⟩|z
   .rw[G]at eq;have:u=t:=zA eq;subst this;rcases o with⟨p,b,D⟩|⟨s,b,_⟩
    .have b:rD::(x++u)=rD::p:=b;rw[(b8 b).2];exact D
    .exact absurd (b8 b).1<|DL i
   .exact absurd z.2.2 k2
  .intro h;exact⟨rD::(x++t),.inl ⟨_,W,h⟩,G t⟩
 cases F with
 |no=>
  have e:rD::x=rD::r:=e;cases e;constructor
  .rintro⟨q,⟨p,rfl,h⟩|⟨s,rfl,_⟩,eq⟩
   .have eq:rD::p=rD::(x++t):=eq;cases eq;exact h
   .exact absurd (b8 (show rL i::s=rD::_ from eq)).1 (DL i).symm
  .exact λh=>⟨_,.inl ⟨_,W,h⟩,W⟩
 |@put z c v N=>exact f _ W (λz=>absurd (BM z) (DL i)) (by rw[CU (Ux W j)];exact DW (n.r2 x l z c))|@take y c v=>exact f _ W (λz=>absurd (bv.mp z).2 (n.r1 x l y c)) Fo|@move y z c v N P Q=>exact f _ W (λz=>by rw[n.r3 x l y c (bv.mp z).2]) (by rw[CU (Ux W j)];exact DW (n.r2 x l z v))|@ch y c v=>
  have c1:∀t,¬rD::y<+:rD::(x++t):=λt z=>(EJ (bv.mp z).2<|d8 x t).elim (n.g y c x I)<|n.r1 x l y c;have H:∀t,(Rm.ch (rD::y) i).A (rD::(x++t))=rD::(x++t):=λt=>by
   exact jY (c1 t) Cs
  have O:r=x:=by
   have:=H [];rw[ge,e]at this;exact(b8 this).2
  subst O;constructor
  .rintro⟨q,o,eq⟩;have eq:(if rD::y<+:q then rT i::q.drop (rD::y).length else if[rL i]<+:q then rD::y++q.drop 1 else q)=rD::(r++t):=eq;split at eq
   .exact absurd (b8 eq).1 (DT i).symm
   .split at eq
    .exact absurd ⟨_,eq⟩<|c1 t
    .subst eq;rcases o with⟨p,b,D⟩|⟨s,b,_⟩
     .cases b;exact D
     .exact absurd (b8 b).1<|DL i
  .exact λh=>⟨_,.inl ⟨_,W,h⟩,H t⟩
end Tp
namespace Tp
theorem Yw{j:Bool}(h:i≠j):rL i≠rL j:=by cases i<;>cases j<;>first|exact absurd rfl h|decide
theorem jb{j:Bool}(h:i≠j):rT i≠rT j:=by cases i<;>cases j<;>first|exact absurd rfl h|decide
theorem jc(h:q≠[]):mP x z q≠[]:=by
 cases q with
 |nil=>exact absurd W h|cons a q=>exact G5 _ _
theorem jd{K:Kf}{R:Ro}(g:Good K i (R.rm i)){r:List Ac}(b:q≠[])(e:(R.rm i).A (rD::q)=rD::r):r≠[]:=by
 rintro rfl;have v:=vw R i;generalize R.rm i=a at v g e;have d:∀x z,mP x z (rD::q)≠[rD]:=λx z h=>by
  have:mP (nx x rD) (nx z rD) q=[]:=(b8 (show mS x z rD::mP (nx x rD) (nx z rD) q=[rD]from h)).2;exact jc b this
 cases v with
 |no=>exact b (b8 (show rD::q=[rD]from e)).2|@put z f j l=>
  have e:Mo.A _ _=_:=e;rw[Mo.Bl Cs]at e;exact d _ _ e
 |@take x f j=>
  have e:Mo.A _ _=_:=e;by_cases c:rD::x<+:rD::q
  .obtain⟨u,k⟩:=c;rw[<-k,Mo.DN (m:=⟨rD::x,[rT i]⟩)]at e;exact DT i (b8 (show rT i::u=[rD]from e)).1.symm
  .rw[Mo.Bl c]at e;exact d _ _ e
 |@move x z f j l n o=>
  have e:Mo.A _ _=_:=e;by_cases c:rD::x<+:rD::q
  .obtain⟨u,k⟩:=c;rw[<-k,Mo.DN (m:=⟨rD::x,rD::z⟩)]at e;have e:lP false (rD::x) [] (rD::z)++u=[rD]:=e;rw[Fj _ _ _ _<|Ux W g]at e;have e:mS (rD::x) [] rD::(lP false (nx (rD::x) rD) (nx [] rD) z++u)=[rD]:=e;exact Yo (Ux W g) (zH.mp (b8 e).2).1
  .rw[Mo.Bl c]at e;exact d _ _ e
 |@ch x f j=>
  have e:(if _ then _ else _)=_:=e;split at e
  .exact DT i (b8 e).1.symm
  .rw[if_neg Cs]at e;exact b (b8 e).2
theorem fR{m:Mo}(h:¬m.x<+:p)(d:m.x≠p++[s]):m.A (p++[s])=m.A p++[mS (st m.x p) (st m.z p) s]:=by
 have c:¬m.x<+:p++[s]:=λz=>by
  rcases EJ z (d8 p [s])with c|c
  .exact h c
  .obtain⟨u,b⟩:=c;rw[<-b]at z;have z:=(lQ _).mp z;cases u with
   |nil=>exact h (by rw[<-b,ge];exact nH _)|cons a u=>
    obtain⟨e,f⟩:=bv.mp z;rw[n7.mp f,e]at b;exact d b.symm
 rw[Mo.Bl c,Mo.Bl h,Fl];rfl
theorem Yx{m:Mo}(h:m.x<+:p):m.A (p++t)=m.A p++t:=by
 obtain⟨u,rfl⟩:=h;rw[j3,Mo.DN,Mo.DN,j3]
theorem Yy{m:Mo}(h:¬m.x<+:p):m.B f (p++[s])=m.A p++[eS f (st m.x p) (st m.z p) s]:=by
 rw[Mo.Ks<|by rw[e5];exact h,Fm z_,Mo.Bl h];rfl
theorem Yz{m:Mo}(h:m.x<+:p):m.B f (p++[s])=m.A p++[s]:=by
 obtain⟨u,rfl⟩:=h;rw[j3,Mo.Yp z_,Mo.DN,j3]
theorem Mj:∀{p y u:List Ac},st y p=u->u≠[]->y=p++u
 |[],y,u,h,_=>h|j::p,[],u,h,n=>absurd (h.symm.trans (CC _)) n|j::p,a::y,u,h,n=>by
  have h:st (nx (a::y) j) p=u:=h;by_cases e:a=j
  .subst e;rw[BI]at h;rw[Mj h n];rfl
  .rw[Cy _ e,CC]at h;exact absurd h.symm n
theorem Mk{a:Option Nat}{i:Nat}(h:j<lS f a ν i):∃b,b<i/\a≠Z b/\nS a ν b=j:=by
 cases a with
 |none=>exact⟨j,h,z_,W⟩|some a=>
  simp only[lS]at h;by_cases c:a<=j
  .refine⟨j+1,?_,λz=>?_,?_⟩
   .split at h<;>lia
   .cases z;exact rc _ c
   .exact if_pos<|zV c
  .refine⟨j,?_,λz=>?_,?_⟩
   .split at h<;>lia
   .cases z;exact c<|b5 _
   .exact if_neg λz=>c<|jp z
theorem Y_{a:Option Nat}{i:Nat}(h:j<lS f a b i):(∃e,e<i/\a≠Z e/\nS a b e=j)∨∃n,b=Z n/\j=lS false a ν n:=by
 cases b with
 |none=>exact .inl (Mk h)|some b=>
  have p:lS f a (Z b) i=lS f a ν i+ul f (Z b) i:=by rw[Ri,Ri];rfl
  have o:∀x,nS a (Z b) x=nS a ν x+up (Z b) x:=λx=>by rw[Kr,Kr];rfl
  rcases yi j (lS false a ν b)with c|c|c
  .obtain⟨e,l,g,m⟩:=Mk c;refine .inl ⟨e,?_,g,?_⟩
   .refine Gc λd=>?_;have k:=(OM (f:=f) (b:=ν) g).mpr d;have u:ul f (Z b) i=0:=if_neg λz=>by rcases z with z|z<;>lia
    lia
   .have u:up (Z b) e=0:=if_neg<|X7.mpr l;rw[o,u,m];rfl
  .exact .inr ⟨b,W,c⟩
  .have u:ul f (Z b) i<=1:=by unfold ul;simp only;split<;>decide
   obtain⟨e,l,g,m⟩:=Mk (f:=f) (a:=a) (i:=i) (j:=j-1) y_;have v:b<=e:=(OM (f:=false) (b:=ν) g).mp y_;have w:up (Z b) e=1:=if_pos v;exact .inl ⟨e,l,g,by rw[o,w,m];lia⟩
theorem fS{m:Mo}{n:Str}(o:m.Ok)(f:m.Jl p)(j:m.Jl q)(h:m.A q=m.A p++[.inr n]):q=p++[.inr n]∨(q=m.x/\m.z=p++[.inr n]):=by
 have up:m.x<+:q->¬m.x<+:p->q=m.x/\m.z=p++[.inr n]:=λc1 c2=>by
  obtain⟨u,rfl⟩:=c1;rw[Mo.DN,Mo.Bl c2]at h;have l:=f c2;have s:u=[]:=by
   rcases List.eq_nil_or_concat u with e|⟨v,y,e⟩
   .exact e
   .rw[List.concat_eq_append]at e;rw[e,<-j3]at h;have:=(wf h W).1;exact absurd ⟨v,this⟩ l
  subst s;rw[ge]at h;refine⟨ge _,?_⟩;have ez:m.z=m.z.dropLast++[m.z.getLast o.z0]:=(f6 o.z0).symm;have w:m.to=mP m.x [] m.z.dropLast++[eS false (st m.x m.z.dropLast) (st [] m.z.dropLast)<|m.z.getLast o.z0]:=by
   show lP false m.x [] m.z=_
   conv=>lhs;rw[ez]
   rw[Fm z_];rfl
  have B:mP m.x [] m.z.dropLast=mP m.x m.z m.z.dropLast:=(Jh λ_=>rfl).symm;rw[w,B]at h;obtain⟨g,d⟩:=wf h W;have C:=DF (Fn (o.nb) (Mo.nb c2)<|by rw[g];exact nH _) (Fn (Mo.nb c2) o.nb<|by rw[g];exact nH _);rw[ez,C];congr 1;have d:=(b8 d).1;cases i:m.z.getLast o.z0 with
  |inl k=>rw[i]at d;cases d|inr k=>rw[i]at d;rw[show(dL k:Ac)=.inr n from d]
 have D:m.A p<+:m.A q:=by rw[h];exact d8 _ _
 rcases Mo.Ut o f j D with c|c
 .by_cases c1:m.x<+:p
  .left
   obtain⟨t,rfl⟩:=c;rw[Yx c1]at h;rw[zA h]
  .by_cases c2:m.x<+:q
   .exact .inr<|up c2 c1
   .left
    obtain⟨t,rfl⟩:=c;rw[Mo.Bl c2,Mo.Bl c1,Fl]at h;have h:=zA h
    match t,h with
    |[],h=>cases h|a::b::r,h=>cases(b8 h).2|[.inl a],h=>cases h|[.inr a],h=>rw[show(dL a:Ac)=.inr n from(b8 h).1]
 .exact .inr<|up c.1 c.2.1
theorem Y'{K:Kf}{R:Ro}(a:R.HJ K)(h:R.comes=Z z)(b:R.SG=ν):(R.con K []).isSome=true:=by
 cases R with
 |put z c=>exact a.2|copy x z=>show(K (x++[])).isSome=true;rw[ge];exact a.1|move x z=>cases b|take x=>cases h|chg x c=>cases h|ask x c=>cases h|has x=>cases h|EK z=>cases h|is x k=>cases h
theorem fT{K a:Kf}{R:Ro}(d:Ei K R i a)(h:R.rm i=.no):a=K:=by
 funext q;refine aa8 λk=>?_;refine(d _ k).trans ?_;rw[h];constructor
 .rintro⟨f,⟨b,rfl,c⟩|⟨t,rfl,_⟩,e⟩
  .cases(show rD::b=rD::q from e);exact c
  .exact absurd (b8 (show rL i::t=rD::q from e)).1 (DL i).symm
 .exact λh=>⟨_,.inl ⟨q,W,h⟩,W⟩
end Tp
namespace Tp
theorem isSome_of{a:Type}{o:Option a}{k:a}(h:o=Z k):o.isSome=true:=by rw[h];rfl
theorem Ej{K K1:Kf}{R S:Ro}(f:Bool)(T:Tree K)(V:R.HJ K)(d:Ei K R i K1)(n:Nc R S){x':List Ac}(hz:slot K x z)(hb:S.bQ=Z z)(hn:z.dropLast∈S.BW)(hx:x≠[]->x∈S.BW)(ex:x≠[]->(R.rm i).A (rD::x)=rD::x'):∃N,(R.rm i).B f (rD::z)=rD::N/\slot K1 x' N/\(R.rm i).A (rD::z.dropLast)=rD::N.dropLast/\((∃p k,z=p++[dL k])->∃p k,N=p++[dL k]):=by
 have g:=EL V i;have P:=hz.hold;obtain⟨h,s,ez,hs⟩:=hz;subst ez;rw[e5]at hn P⊢;obtain⟨F,E⟩:=OO g (q:=h) λa e=>n.g a e h hn;have G:∀k,K h=Z k->K1 F=Z k:=λk e=>TU d e E;have v:=vw R i;have Q:∀s',(∃p k,h++[s]=p++[dL k])->(∀k,s=.inr k->s'=.inr k)->∃p k,F++[s']=p++[dL k]:=λs' ⟨p,k,e⟩ X=>⟨F,k,by rw[X k (b8 (wf e W).2).1]⟩;have Y:∀m:Mo,R.rm i=.mv m->(∀y,m.z=rD::y->R.comes=Z y)->(∀y,m.z=rD::y->∃k,ξ K (R.con K) i m.x k)->∃N,(R.rm i).B f (rD::(h++[s]))=rD::N/\slot K1 x' N/\(R.rm i).A (rD::h)=rD::N.dropLast/\((∃p k,h++[s]=p++[dL k])->∃p k,N=p++[dL k]):=λm em hc hw=>by
  have g':Good K i (.mv m):=by rw[<-em];exact g
  have H:(R.rm i).A=m.A:=by rw[em];rfl
  have vf:(R.rm i).B f=m.B f:=by rw[em];rfl
  have mG:=ex;rw[H]at E mG⊢;rw[vf];have X:here K (rD::h):=.inr<|.inl ⟨h,W,P⟩;have fp:=g'.free T X;have names:∀l,s=.inr l->K h=Z .tab->((K<|h++[s]).isSome=true->h++[s]=x)->((K1<|F++[.inr l]).isSome=true->F++[.inr l]=x'):=λl C M o ζ=>by
   subst C;obtain⟨k,I⟩:=gt.mp ζ;obtain⟨q,hq,eq⟩:=(d _ k).mp I;rw[H]at eq;have eq2:m.A q=m.A (rD::h)++[.inr l]:=by rw[eq,E];rfl
   rcases fS g'.1 fp (g'.free T hq.here) eq2 with e|⟨_,e⟩
   .subst e;have kz:K (h++[.inr l])=Z k:=by
     rcases hq with⟨q0,O,h0⟩|⟨t,O,_⟩
     .rw[(b8 (show rD::(h++[dL l])=rD::q0 from O)).2];exact h0
     .exact absurd (b8 (show rD::(h++[dL l])=rL i::t from O)).1<|DL i
    have e:=o<|isSome_of kz;have e2:=mG (by rw[<-e];simp);rw[<-e]at e2;have e3:m.A (rD::(h++[.inr l]))=rD::(F++[.inr l]):=eq;rw[e3]at e2;exact(b8 e2).2
   .exact absurd hb<|n.b _ (hc (h++[dL l]) e) ⟨h,l,W⟩
  by_cases c:m.x<+:rD::h
  .refine⟨F++[s],by show m.B f (rD::h++[s])=_;rw[Yz c,E];rfl,⟨F,s,W,?_⟩,by rw[e5];exact E,λe=>Q s e λ_=>id⟩;rcases hs with⟨i0,C,kr,hj⟩|⟨l,C,M,o⟩
   .refine .inl ⟨i0,C,G _ kr,λj J=>EM d (hj j J) ?_⟩;rw[H];show m.A (rD::h++[.inl j])=_;rw[Yx c,E];rfl
   .refine .inr ⟨l,C,G _ M,?_⟩;have:=names l C M o;rw[<-C]at this;exact this
  .refine⟨F++[eS f (st m.x (rD::h)) (st m.z (rD::h)) s],by show m.B f (rD::h++[s])=_;rw[Yy c,E];rfl,⟨F,_,W,?_⟩,by rw[e5];exact E,λe=>Q _ e λk ek=>by rw[ek];rfl⟩;rcases hs with⟨i0,C,kr,hj⟩|⟨l,C,M,o⟩
   .refine .inl ⟨lS f (BN<|st m.x (rD::h)) (BN<|st m.z (rD::h)) i0,by rw[C];rfl,G _ kr,λj J=>?_⟩;rcases Y_ J with⟨j0,L,U,h3⟩|⟨b0,L,U⟩
    .have ne:m.x≠rD::h++[.inl j0]:=λe=>U (by rw[e,Eh];rfl);refine EM d (hj j0 L) ?_;rw[H];show m.A (rD::h++[.inl j0])=_;rw[fR c ne,E];show _=rD::(F++[.inl j]);rw[<-h3];rfl
    .have ez:=Mj (CP L) z_;have vg:m.z=rD::(h++[.inl b0]):=ez;obtain⟨k,I⟩:=hw _ vg;refine isSome_of<|(d (F++[.inl j]) k).mpr ⟨m.x,I,?_⟩;rw[H];have:=Mo.DN (m:=m) (t:=[]);rw[ge,ge]at this;rw[this];show lP false m.x [] m.z=_;have O:m.A (rD::h)=mP m.x [] (rD::h):=by
      rw[Mo.Bl c];refine Jh λ_=>?_;rw[ez,e5]
     rw[ez,Fm z_,<-O,E,CC,U];rfl
   .subst C;exact .inr ⟨l,W,G _ M,names l W M o⟩
 generalize D:R.rm i=a at v;cases v with
 |no=>
  have e1:=fT d D;subst e1;rw[D]at E ex;obtain rfl:=(b8 (show rD::h=rD::F from E)).2;refine⟨h++[s],W,⟨h,s,W,?_⟩,by rw[e5];rfl,id⟩;rcases hs with hs|⟨l,C,M,o⟩
  .exact .inl hs
  .refine .inr ⟨l,C,M,λX=>?_⟩;have e:=o X;have:=(b8 (show rD::x=rD::x' from ex (by rw[<-e];simp))).2;rw[<-this];exact e
 |@put z L U h3=>
  rw[<-D];have hm:R.SG=none:=by
   cases R with
   |move x w=>exact absurd (b8 (Mo.mk.inj (Rm.mv.inj (show Rm.mv ⟨rD::x,rD::w⟩=_ from D))).1).1 (DL i)|_=>rfl
  refine Y _ D (λy e=>by rw[L,(b8 e).2]) λy e=>?_;obtain⟨k,P⟩:=gt.mp<|Y' V L hm;exact⟨k,.inr ⟨[],W,P⟩⟩
 |@take x L U=>
  rw[<-D];exact Y _ D (λy e=>absurd (b8 e).1 (DT i).symm) λy e=>absurd (b8 e).1 (DT i).symm
 |@move y z L U h3 h4 h5=>
  rw[<-D];refine Y _ D (λy e=>by rw[U,(b8 e).2]) λ_ e=>?_;rw[D]at g;obtain⟨_,e|⟨x2,e,mH⟩,_⟩:=g
  .exact absurd (b8 (show rD::y=[rL i]from e)).1<|DL i
  .obtain⟨k,P⟩:=gt.mp mH;exact⟨k,.inl ⟨x2,e,P⟩⟩
 |@ch y L U=>
  have ny:¬y<+:h:=n.g y L h hn;have sm:∀q,¬y<+:q->(Rm.ch (rD::y) i).A (rD::q)=rD::q:=λq c=>by
   show(if _ then _ else _)=_;rw[if_neg<|DW c,if_neg Cs]
  rw[D]at E ex;rw[sm h ny]at E;obtain rfl:=(b8 E).2;have end_:∀s,y<+:h++[s]->y=h++[s]:=λs c=>by
   rcases EJ c (d8 h [s])with c1|⟨u,hu⟩
   .exact absurd c1 ny
   .rw[<-hu]at c;have c:=(lQ _).mp c;cases u with
    |nil=>exact absurd (by rw[<-hu,ge];exact nH _) ny|cons a u=>
     obtain⟨e,c'⟩:=bv.mp c;rw[<-hu,n7.mp c',e]
  have ky:(K y).isSome=true:=by
   rw[D]at g;obtain⟨_,r,e,hr⟩:=g;rw[(b8 e).2];exact hr
  refine⟨h++[s],W,⟨h,s,W,?_⟩,by rw[e5];exact sm h ny,id⟩;rcases hs with⟨i0,C,kr,hj⟩|⟨l,C,M,o⟩
  .refine .inl ⟨i0,C,G _ kr,λj J=>?_⟩;by_cases c:y<+:h++[.inl j]
   .have e:=end_ _ c;have hc:(R.con K []).isSome=true:=by
     cases R with
     |chg a c=>exact V.2|_=>cases D
    obtain⟨k,P⟩:=gt.mp hc;refine isSome_of<|(d _ k).mpr ⟨[rL i],.inr ⟨[],W,P⟩,?_⟩;rw[D];show(if _ then _ else _)=_;rw[if_neg λz=>DL i<|BM z,if_pos<|nH _];show rD::y++[]=_;rw[ge,e]
   .exact EM d (hj j J)<|by rw[D];exact sm _ c
  .refine .inr ⟨l,C,G _ M,λX=>?_⟩;obtain⟨k,I⟩:=gt.mp X;obtain⟨q,hq,eq⟩:=(d _ k).mp I;rw[D]at eq;have gy:h++[s]=x->y≠h++[s]:=λe e2=>n.g y L x (hx<|by rw[<-e];simp) (by rw[e2,e];exact nH _);by_cases c:y<+:h++[s]
   .have e:=end_ _ c;exact absurd e<|gy<|o<|by rw[<-e];exact ky
   .have e2:q=rD::(h++[s]):=by
     have eq:(if rD::y<+:q then rT i::q.drop (rD::y).length else if[rL i]<+:q then rD::y++q.drop 1 else q)=rD::(h++[s]):=eq;split at eq
     .exact absurd (b8 eq).1 (DT i).symm
     .split at eq
      .exact absurd ⟨_,(b8 eq).2⟩ c
      .exact eq
    subst e2;have kz:K (h++[s])=Z k:=by
     rcases hq with⟨q0,O,h0⟩|⟨t,O,_⟩
     .rw[(b8 O).2];exact h0
     .exact absurd (b8 O).1<|DL i
    have e:=o<|isSome_of kz;have e3:=ex (by rw[<-e];simp);rw[<-e,sm _ c]at e3;exact(b8 e3).2
theorem Ml{K C:Kf}{R S:Ro}(f:Bool)(T:Tree K)(u:R.HJ K)(j:S.HJ K)(d:Ei K R i C)(n:Nc R S)(U:Nc S R):(S.over f (R.rm i)).HJ C:=by
 have g:=EL u i;have C':∀x∈S.BW,∃r,(R.rm i).A (rD::x)=rD::r:=λx G=>OO g λa e=>n.g a e x G;cases S with
 |put z c=>
  obtain⟨D,l,o,_⟩:=Ej f T u d n (x':=[]) j.1 W (by simp[Ro.BW]) (λh=>absurd W h) (λh=>absurd W h);refine⟨?_,j.2⟩;rw[l];exact o
 |copy x z=>
  obtain⟨D,l,o,_⟩:=Ej f T u d n (x':=[]) j.2 W (by simp[Ro.BW]) (λh=>absurd W h) (λh=>absurd W h);obtain⟨r,b⟩:=C' x (by simp[Ro.BW]);refine⟨?_,?_⟩
  .rw[b];exact EM d j.1 b
  .rw[l];exact o
 |take x=>
  obtain⟨r,b⟩:=C' x (by simp[Ro.BW]);refine⟨?_,?_⟩
  .rw[b];exact jd g j.1 b
  .rw[b];exact EM d j.2 b
 |chg x c=>
  obtain⟨r,b⟩:=C' x (by simp[Ro.BW]);exact⟨by rw[b];exact EM d j.1 b,j.2⟩
 |has x=>
  obtain⟨r,b⟩:=C' x (by simp[Ro.BW]);show(C _).isSome=true;rw[b];exact EM d j b
 |is x k=>
  obtain⟨r,b⟩:=C' x (by simp[Ro.BW]);show C _=Z k;rw[b];exact TU d j b
 |ask x c=>
  obtain⟨r,b⟩:=C' x (by simp[Ro.BW]);refine⟨by rw[b];exact EM d j.1 b,λt=>?_⟩;rw[b];exact(Rj T u d n W (by simp[Ro.BW]) j.1 b t).trans (j.2 t)
 |EK z=>
  obtain⟨D,l,o,_,E⟩:=Ej f T u d n (x':=[]) j.1 W (by simp[Ro.BW]) (λh=>absurd W h) (λh=>absurd W h);refine⟨?_,?_⟩
  .rw[l];exact o
  .rw[l];exact E j.2
 |move x z=>
  obtain⟨M,I,H,J⟩:=j;obtain⟨r,b⟩:=C' x (by simp[Ro.BW]);obtain⟨D,l,o,E,_⟩:=Ej f T u d n (x':=r) J W (by simp[Ro.BW]) (λ_=>by simp[Ro.BW]) λ_=>b;refine⟨?_,?_,?_,?_⟩
  .rw[b];exact jd g M b
  .rw[b];exact EM d I b
  .rw[b,l];show¬r<+:D.dropLast;intro p;have p:(R.rm i).A (rD::x)<+:(R.rm i).A (rD::z.dropLast):=by rw[b,E];exact bv.mpr ⟨W,p⟩
   have G:Tp.here K (rD::x):=.inr<|.inl ⟨x,W,I⟩;have N:Tp.here K (rD::z.dropLast):=.inr<|.inl ⟨_,W,J.hold⟩;have v:=vw R i;generalize R.rm i=a at v p g b E;have s:∀m:Mo,a=.mv m->(m.x<+:rD::z.dropLast->rD::x<+:m.z.dropLast->False)->False:=λm O P=>by
    subst O;rcases Mo.Ut g.1 (g.free T G) (g.free T N) p with c|c
    .exact H (bv.mp c).2
    .exact P c.1 c.2.2
   cases v with
   |no=>exact H (bv.mp p).2|put B F Q=>exact s _ W λc _=>Cs c|take B F=>exact s _ W λ_ c=>Fo c|@move y w B F Q V X=>
    refine s _ W λc1 c2=>?_;rw[CU<|Ux W g]at c2;exact n.mi y z x w B W (bv.mp c1).2 W F (bv.mp c2).2
   |@ch y B F=>
    have L:∀q,¬y<+:q->(Rm.ch (rD::y) i).A (rD::q)=rD::q:=λq c=>by
     show(if _ then _ else _)=_;rw[if_neg<|DW c,if_neg Cs]
    rw[L x<|n.g y B x<|by simp[Ro.BW],L _<|n.g y B _<|by simp[Ro.BW]]at p;exact H (bv.mp p).2
  .rw[b,l];exact o
theorem ZA{K b:Kf}{R S:Ro}(T:Tree K)(c:R.HJ K)(j:S.HJ K)(d:Ei K R i b)(n:Nc R S):(S.over f (R.rm i)).con b=S.con K:=by
 cases S with
 |copy x z=>
  obtain⟨r,h⟩:=OO (EL c i) (q:=x) λa e=>n.g a e x (by simp[Ro.BW]);funext t;show b ((((R.rm i).A (rD::x)).tail)++t)=K (x++t);rw[h];exact Rj T c d n W (by simp[Ro.BW]) j.1 h t
 |_=>rfl
theorem je{a:Rm}{j:Bool}(h:Pn i a):a.B f [rT j]=[rT j]:=by
 cases a with
 |mv m=>
  obtain⟨⟨s,r,e,_⟩,_⟩:=h;show m.B f [rT j]=_;rw[Mo.Ks<|by rw[e];exact Fo];rfl
 |_=>rfl
theorem bR{K q:Kf}{R S:Ro}{j:Bool}(s:i≠j)(T:Tree K)(l:R.HJ K)(m:S.HJ K)(d:Ei K R i q)(n:Nc R S):(S.over f (R.rm i)).rm j=(R.rm i).ov f (S.rm j):=by
 have g:=EL l i;have C':∀x∈S.BW,∃r,(R.rm i).A (rD::x)=rD::r:=λx t=>OO g λa e=>n.g a e x t;have o:(R.rm i).A [rL j]=[rL j]:=Mi g.HA (nL j) (DL j).symm (Yw s.symm)<|LT j i;have u:(R.rm i).B f [rT j]=[rT j]:=je g.HA;cases S with
 |put z c=>
  obtain⟨p,k,_⟩:=Ej f T l d n (x':=[]) m.1 W (by simp[Ro.BW]) (λh=>absurd W h) (λh=>absurd W h);show Rm.mv ⟨[rL j],rD::((R.rm i).B f (rD::z)).tail⟩=Rm.mv ⟨(R.rm i).A [rL j],(R.rm i).B f (rD::z)⟩;rw[o,k];rfl
 |copy x z=>
  obtain⟨p,k,_⟩:=Ej f T l d n (x':=[]) m.2 W (by simp[Ro.BW]) (λh=>absurd W h) (λh=>absurd W h);show Rm.mv ⟨[rL j],rD::((R.rm i).B f (rD::z)).tail⟩=Rm.mv ⟨(R.rm i).A [rL j],(R.rm i).B f (rD::z)⟩;rw[o,k];rfl
 |take x=>
  obtain⟨r,b⟩:=C' x (by simp[Ro.BW]);show Rm.mv ⟨rD::((R.rm i).A (rD::x)).tail,[rT j]⟩=Rm.mv ⟨(R.rm i).A (rD::x),(R.rm i).B f [rT j]⟩;rw[b,u];rfl
 |move x z=>
  obtain⟨r,b⟩:=C' x (by simp[Ro.BW]);obtain⟨p,k,_⟩:=Ej f T l d n (x':=r) m.2.2.2 W (by simp[Ro.BW]) (λ_=>by simp[Ro.BW]) λ_=>b;show Rm.mv ⟨rD::((R.rm i).A (rD::x)).tail,rD::((R.rm i).B f (rD::z)).tail⟩=Rm.mv ⟨(R.rm i).A (rD::x),(R.rm i).B f (rD::z)⟩;rw[b,k];rfl
 |chg x c=>
  obtain⟨r,b⟩:=C' x (by simp[Ro.BW]);show Rm.ch (rD::((R.rm i).A (rD::x)).tail) j=Rm.ch ((R.rm i).A (rD::x)) j;rw[b];rfl
 |_=>rfl
theorem half{K o p:Kf}{R S:Ro}{j:Bool}(a:i≠j)(T:Tree K)(b:R.HJ K)(h:S.HJ K)(d:Ei K R i o)(n:Nc R S)(y:Nc S R)(z:Ei o (S.over f (R.rm i)) j p)(q':List Ac)(k:Kd):p q'=Z k↔∃q,(ξ K (R.con K) i q k∨∃t,q=rL j::t/\S.con K t=Z k)/\((R.rm i).ov f (S.rm j)).A ((R.rm i).A q)=rD::q':=by
 have g:=EL b i;have l:=EL (Ml f T b h d n y) j;have u:=bR (f:=f) a T b h d n;rw[u]at l;have v:∀t,(R.rm i).A (rL j::t)=rL j::t:=λt=>Mi g.HA (nL j) (DL j).symm (Yw a.symm)<|LT j i;refine(z q' k).trans ?_;rw[u,ZA T b h d n];constructor
 .rintro⟨F,⟨r,rfl,B⟩|⟨t,rfl,m⟩,e⟩
  .obtain⟨q,c,eq⟩:=(d r k).mp B;exact⟨q,.inl c,by rw[eq];exact e⟩
  .exact⟨_,.inr ⟨t,W,m⟩,by rw[v];exact e⟩
 .rintro⟨q,c|⟨t,rfl,m⟩,e⟩
  .have C:∃s t,q=s::t/\(s=rD∨s=rL i):=by
    rcases c with⟨G,rfl,_⟩|⟨t,rfl,_⟩
    .exact⟨_,_,W,.inl W⟩
    .exact⟨_,_,W,.inr W⟩
   obtain⟨s,t,rfl,D⟩:=C;obtain⟨H,w,x,E⟩:=Po g.HA (t:=t) D;rw[x]at e;rcases E with rfl|rfl|rfl
   .exact⟨_,.inl ⟨w,W,(d w k).mpr ⟨_,c,x⟩⟩,e⟩
   .rw[Mi l.HA (nL i) (DL i).symm (Yw a)<|LT i j]at e;exact absurd (b8 e).1 (DL i).symm
   .rw[Mi l.HA (nT i) (DT i).symm (LT j i).symm<|jb a]at e;exact absurd (b8 e).1 (DT i).symm
  .rw[v]at e;exact⟨_,.inr ⟨t,W,m⟩,e⟩
theorem both{K p r a b:Kf}{R S:Ro}(T:Tree K)(g:R.HJ K)(j:S.HJ K)(n:Nc R S)(l:Nc S R)(v:Ei K R false p)(w:Ei K S true r)(m:Ei p (S.over f (R.rm false)) true a)(o:Ei r (R.over (!f) (S.rm true)) false b):a=b:=by
 funext s;refine aa8 λk=>?_;refine(half ac T g j v n l m s k).trans ?_;refine Iff.trans ?_ (half ac T j g w l n o s k).symm;have c:=ja (i:=false) g j n l;have x:=EL g false;have y:=EL j true;have u:=λq (h:here K q)=>ve (i:=false) (f:=f) T x y c h;constructor
 .rintro⟨q,d,e⟩;refine⟨q,?_,?_⟩
  .rcases d with(h|⟨t,e,h⟩)|⟨t,e,h⟩
   .exact .inl<|.inl h
   .exact .inr ⟨t,e,h⟩
   .exact .inl<|.inr ⟨t,e,h⟩
  .rw[<-e];refine(u q ?_).symm;rcases d with h|⟨t,e,h⟩
   .exact h.here
   .exact .inr<|.inr ⟨_,t,e⟩
 .rintro⟨q,d,e⟩;refine⟨q,?_,?_⟩
  .rcases d with(h|⟨t,e,h⟩)|⟨t,e,h⟩
   .exact .inl<|.inl h
   .exact .inr ⟨t,e,h⟩
   .exact .inl<|.inr ⟨t,e,h⟩
  .rw[<-e];refine u q ?_;rcases d with h|⟨t,e,h⟩
   .exact h.here
   .exact .inr<|.inr ⟨_,t,e⟩
end Tp
open Tp (Kd)
theorem Pp{a:V}{x:List V}:¬a::x<+:[]:=λz=>G5 _ _<|n7.mp z
noncomputable def AV:Ac->V
 | .inl i=>.int (i:Int)| .inr k=>.str k
namespace Dc
noncomputable def kd:Dc->Kd
 |leaf v=>.leaf v|row _ _=>.row|tab _ _ _=>.tab
def kn(d:Dc)(q:List V):Option Kd:=(d.sub q).map kd
theorem Dv(d:Dc):d.kn []=Z d.kd:=by unfold kn;rw[Ap];rfl
theorem IM{q:List V}(h:d.sub q=Z e)(t:List V):d.kn (q++t)=e.kn t:=by unfold kn;rw[sub_snoc h]
theorem Es{z:V}{r:List V}{k:Kd}:d.kn (z::r)=Z k↔∃x,d.sub [z]=Z x/\x.kn r=Z k:=by
 constructor
 .intro h;obtain⟨y,c,e⟩:=kw.mp (show(d.sub (z::r)).map kd=Z k from h);obtain⟨x,a,b⟩:=Aq.mp c;exact⟨x,a,by unfold kn;rw[b];exact congrArg Z e⟩
 .rintro⟨x,a,b⟩;have:=IM a r;exact this.trans b
theorem bS{b n:Dc}{z:V}{c:List V}(h:d.sub [z]=Z b):(Av d (z::c) n).kd=d.kd:=by
 rcases sub_one h with⟨a,e,i,rfl,rfl,_⟩|⟨a,f,e,k,rfl,rfl,_⟩<;>rfl
theorem fU{b:Dc}{z:V}(h:e.sub [z]=Z b):(BZ e z).kd=e.kd:=by
 rcases sub_one h with⟨a,c,i,rfl,rfl,_⟩|⟨a,d,c,k,rfl,rfl,_⟩<;>rfl
theorem fV{n:Dc}{z:V}(h:e.room z=true):(De e z n).kd=e.kd:=by
 rcases Fe h with⟨a,b,i,rfl,rfl,_⟩|⟨a,c,b,k,rfl,rfl,_⟩<;>rfl
theorem Pq{k:Kd}:∀{c:List V}{d e u:Dc}(w:d.Wf)(h:d.sub c=Z e){D:List V},(Av d c u).kn D=Z k↔(∃r,D=c++r/\u.kn r=Z k)∨(¬c<+:D/\d.kn D=Z k):=by
 intro c
 induction c with
 |nil=>
  intro d e u w h D;have:Av d [] u=u:=by cases d<;>rfl
  rw[this];constructor
  .intro b;exact .inl ⟨D,W,b⟩
  .rintro(⟨r,rfl,g⟩|⟨ne,_⟩)
   .exact g
   .exact absurd u6 ne
 |cons z c m=>
  intro d e u w h D;obtain⟨t,a,o⟩:=Aq.mp h;cases D with
  |nil=>
   rw[Dv,Dv,bS a];constructor
   .intro b;exact .inr ⟨Pp,b⟩
   .rintro(⟨r,e,_⟩|⟨_,b⟩)
    .cases e
    .exact b
  |cons j D=>
   rw[Es];constructor
   .rintro⟨x,f,i⟩;rcases(Hb w a).mp f with⟨rfl,rfl⟩|⟨ne,f⟩
    .rcases(m (Cp w a) o).mp i with⟨r,rfl,g⟩|⟨p,b⟩
     .exact .inl ⟨r,W,g⟩
     .exact .inr ⟨λl=>p (bv.mp l).2,Es.mpr ⟨t,a,b⟩⟩
    .exact .inr ⟨λl=>ne (bv.mp l).1.symm,Es.mpr ⟨x,f,i⟩⟩
   .rintro(⟨r,e,g⟩|⟨p,b⟩)
    .cases e;exact⟨_,(Hb w a).mpr<|.inl ⟨W,W⟩,(m (Cp w a) o).mpr<|.inl ⟨r,W,g⟩⟩
    .obtain⟨x,f,i⟩:=Es.mp b;by_cases s:j=z
     .subst s;rw[a]at f;cases f;exact⟨_,(Hb w a).mpr<|.inl ⟨W,W⟩,(m (Cp w a) o).mpr<|.inr ⟨λl=>p<|bv.mpr ⟨W,l⟩,i⟩⟩
     .exact⟨x,(Hb w a).mpr<|.inr ⟨s,f⟩,i⟩
theorem Uy{l:Dc}{z:V}{k:Kd}(w:e.Wf)(h:e.sub [z]=Z l){r:List V}:(BZ e z).kn r=Z k↔∃a,e.kn a=Z k/\¬[z]<+:a/\r=Fx [z] [] a:=by
 cases r with
 |nil=>
  rw[Dv,fU h];constructor
  .intro m;exact⟨[],by rw[Dv];exact m,Pp,W⟩
  .rintro⟨a,d,_,e⟩;cases a with
   |nil=>rw[Dv]at d;exact d|cons j r=>cases e
 |cons j r=>
  rw[Es];constructor
  .rintro⟨x,f,g⟩;obtain⟨b,ne,d,rfl⟩:=(PU w h).mp f;refine⟨b::r,Es.mpr ⟨x,d,g⟩,λn=>ne (bv.mp n).1.symm,?_⟩;show _=Cf [z] [] b::Fx (CQ [z] b) [] r;rw[ID,Dk]
  .rintro⟨a,d,o,e⟩;cases a with
   |nil=>cases e|cons b a=>
    obtain⟨x,f,g⟩:=Es.mp d;have i:j::r=Cf [z] [] b::Fx (CQ [z] b) [] a:=e;rw[ID,Dk]at i;cases i;exact⟨x,(PU w h).mpr ⟨b,λc=>o<|by rw[c];exact⟨r,W⟩,f,W⟩,g⟩
theorem Pr{z:V}{k:Kd}(w:e.Wf)(h:e.room z=true){r:List V}:(De e z v).kn r=Z k↔(∃a,e.kn a=Z k/\r=Fx [] [z] a)∨∃t,r=z::t/\v.kn t=Z k:=by
 cases r with
 |nil=>
  rw[Dv,fV h];constructor
  .intro i;exact .inl ⟨[],by rw[Dv];exact i,W⟩
  .rintro(⟨a,c,e⟩|⟨t,e,_⟩)
   .cases a with
    |nil=>rw[Dv]at c;exact c|cons j r=>cases e
   .cases e
 |cons j r=>
  rw[Es];constructor
  .rintro⟨x,f,d⟩;rcases(PV w h).mp f with⟨rfl,rfl⟩|⟨b,c,rfl⟩
   .exact .inr ⟨r,W,d⟩
   .refine .inl ⟨b::r,Es.mpr ⟨x,c,d⟩,?_⟩;show _=Cf [] [z] b::Fx [] (CQ [z] b) r;rw[ID,Dk]
  .rintro(⟨a,c,e⟩|⟨t,e,d⟩)
   .cases a with
    |nil=>cases e|cons b a=>
     obtain⟨x,f,d⟩:=Es.mp c;have g:j::r=Cf [] [z] b::Fx [] (CQ [z] b) a:=e;rw[ID,Dk]at g;cases g;exact⟨x,(PV w h).mpr<|.inr ⟨b,f,W⟩,d⟩
   .cases e;exact⟨v,(PV w h).mpr<|.inl ⟨W,W⟩,d⟩
theorem fX{m:Dc}{z:V}{k:Kd}(w:d.Wf)(h:d.sub a=Z e)(j:e.sub [z]=Z m){q:List V}:(d.Av a (e.BZ z)).kn q=Z k↔∃b,d.kn b=Z k/\¬(a++[z])<+:b/\q=Fx (a++[z]) [] b:=by
 rw[Pq w h];constructor
 .rintro(⟨r,rfl,n⟩|⟨f,o⟩)
  .obtain⟨l,g,f,rfl⟩:=(Uy (Cp w h) j).mp n;exact⟨a++l,by rw[IM h];exact g,λi=>f<|RS i,(Fy z l a).symm⟩
  .exact⟨q,o,λi=>f<|(d8 a [z]).trans i,(Fz z a q f).symm⟩
 .rintro⟨b,g,f,rfl⟩;by_cases c:a<+:b
  .obtain⟨r,rfl⟩:=c;rw[IM h]at g;exact .inl ⟨_,Fy z r a,(Uy (Cp w h) j).mpr ⟨r,g,λi=>f<|(lQ a).mpr i,W⟩⟩
  .rw[Fz z a b c];exact .inr ⟨c,g⟩
theorem ZC{z:V}{k:Kd}(w:d.Wf)(h:d.sub a=Z e)(g:e.room z=true){q:List V}:(d.Av a (e.De z v)).kn q=Z k↔(∃b,d.kn b=Z k/\q=Fx [] (a++[z]) b)∨∃t,q=a++[z]++t/\v.kn t=Z k:=by
 rw[Pq w h];constructor
 .rintro(⟨r,rfl,l⟩|⟨m,n⟩)
  .rcases(Pr (Cp w h) g).mp l with⟨j,f,rfl⟩|⟨t,rfl,i⟩
   .exact .inl ⟨a++j,by rw[IM h];exact f,(Hd z j a).symm⟩
   .exact .inr ⟨t,z_,i⟩
  .exact .inl ⟨q,n,(He z a q m).symm⟩
 .rintro(⟨b,f,rfl⟩|⟨t,rfl,i⟩)
  .by_cases c:a<+:b
   .obtain⟨r,rfl⟩:=c;rw[IM h]at f;exact .inl ⟨_,Hd z r a,(Pr (Cp w h) g).mpr<|.inl ⟨r,f,W⟩⟩
   .rw[He z a b c];exact .inr ⟨c,f⟩
  .exact .inl ⟨z::t,z_,(Pr (Cp w h) g).mpr<|.inr ⟨t,W,i⟩⟩
theorem Pu{a:Addr}{xs:List Dc}{i:Nat}:((row a xs).kn [.int (i:Int)]).isSome=true↔i<xs.length:=by
 unfold kn;rw[zl];constructor
 .intro h;obtain⟨x,b⟩:=gt.mp h;obtain⟨j,e,c⟩:=DR.mp b;have:i=j:=by cases e;rfl
  subst this;exact(ya c).1
 .intro h;rw[show(row a xs).sub [.int (i:Int)]=Z xs[i]from DR.mpr ⟨i,W,yZ h⟩];rfl
theorem Pw{a:Addr}{xs:List Dc}{k:Str}(l:ks.length=xs.length)(n:ks.Nodup):((tab a ks xs).kn [.str k]).isSome=true↔k∈ks:=by
 unfold kn;rw[zl];constructor
 .intro h;obtain⟨x,b⟩:=gt.mp h;obtain⟨i,k2,e,c,_⟩:=(DS l n).mp b;cases e;exact yc c
 .intro h;obtain⟨i,d,e⟩:=KM h;rw[show(tab a ks xs).sub [.str k]=Z (xs[i]'y_)from(DS l n).mpr ⟨i,k,W,by rw[yZ d,e],yZ y_⟩];rfl
theorem bT{a:Type}[DecidableEq a]{l m:List a}(b:l.Nodup)(c:m.Nodup)(h:∀x,x∈l↔x∈m):l.Perm m:=(List.perm_ext_iff_of_nodup b c).mpr h
theorem fY(B:d.Wf)(r:e.Wf)(h:∀q:List Ac,d.kn (q.map AV)=e.kn (q.map AV)):Eqv d e:=by
 induction B generalizing e with
 |leaf v=>
  have:=h [];rw[yq,Dv,Dv]at this;cases e with
  |leaf u=>cases this;exact .leaf v|row a xs=>cases this|tab a j xs=>cases this
 |@row a xs C s=>
  have g:=h [];rw[yq,Dv,Dv]at g;cases e with
  |leaf u=>cases g|tab b j f=>cases g|row b f=>
   have p:∀i:Nat,i<xs.length↔i<f.length:=λi=>by
    rw[<-Pu (a:=a),<-Pu (a:=b) (xs:=f),show(row a xs).kn [.int (i:Int)]=_ from h [.inl i]];exact Iff.rfl
   have l:xs.length=f.length:=by
    rcases yi xs.length f.length with c|c|c
    .exact absurd ((p _).mpr c)<|rc _
    .exact c
    .exact absurd ((p _).mp c)<|rc _
   refine .row l λi x y m t=>?_;have w:(row a xs).sub [.int (i:Int)]=Z x:=DR.mpr ⟨i,W,m⟩;have o:(row b f).sub [.int (i:Int)]=Z y:=DR.mpr ⟨i,W,t⟩;refine s x (yc m) (Cp r o) λq=>?_;rw[<-IM w,<-IM o];exact h (.inl i::q)
 |@tab a j xs D z C s=>
  have g:=h [];rw[yq,Dv,Dv]at g;cases e with
  |leaf u=>cases g|row b f=>cases g|tab b ls f=>
   have⟨E,A⟩:ls.length=f.length/\ls.Nodup:=by cases r with|tab l n _=>exact⟨l,n⟩
   have p:∀k,k∈j↔k∈ls:=λk=>by
    rw[<-Pw (a:=a) D z,<-Pw (a:=b) E A,show(Dc.tab a j xs).kn [.str k]=_ from h [.inr k]];exact Iff.rfl
   refine .tab (bT z A p) λk x y m t=>?_;have w:(Dc.tab a j xs).sub [.str k]=Z x:=by rw[EF m,Ap]
   have o:(Dc.tab b ls f).sub [.str k]=Z y:=by rw[EF t,Ap]
   refine s x (AR m).2 (Cp r o) λq=>?_;rw[<-IM w,<-IM o];exact h (.inr k::q)
theorem fZ(a:d.Wf)(b:e.Wf)(h:Eqv d e)(q:List V):d.kn q=e.kn q:=by
 unfold kn;cases c:d.sub q with
 |some x=>
  obtain⟨y,g,q⟩:=Eqv.sub a b h c;rw[g];cases q<;>rfl
 |none=>
  cases i:e.sub q with
  |none=>rfl|some y=>
   obtain⟨x,f,_⟩:=Eqv.sub b a h.symm i;rw[c]at f;cases f
end Dc
theorem DV{a b:Ac}(h:AV a=AV b):a=b:=by
 cases a with
 |inl i=>
  cases b with
  |inl j=>
   have:(i:Int)=j:=by injection h
   rw[Int.ofNat.inj this]
  |inr k=>cases h
 |inr k=>
  cases b with
  |inl j=>cases h|inr l=>cases h;rfl
theorem CM(h:p.map AV=q.map AV):p=q:=List.map_inj_right (λ_ _=>DV)|>.mp h
theorem CN:p.map AV<+:q.map AV↔p<+:q:=by
 constructor
 .induction p generalizing q with
  |nil=>intro _;exact u6|cons a p c=>
   intro h;cases q with
   |nil=>exact absurd h Pp|cons b q=>
    obtain⟨d,e⟩:=bv.mp h;exact bv.mpr ⟨DV d,c e⟩
 .rintro⟨t,rfl⟩;rw[ca];exact d8 _ _
theorem Py{q:List V}(h:Aa q):∃p:List Ac,q=p.map AV:=by
 induction q with
 |nil=>exact⟨[],W⟩|cons a q b=>
  obtain⟨p,rfl⟩:=b λz c=>h z<|bi _ c;rcases h a e9 with⟨i,rfl⟩|⟨k,rfl,_⟩
  .exact⟨.inl i::p,W⟩
  .exact⟨.inr k::p,W⟩
theorem jf{q:List V}(h:d.sub q=Z e):∃p:List Ac,q=p.map AV:=by
 induction q generalizing d with
 |nil=>exact⟨[],W⟩|cons a q b=>
  obtain⟨x,c,f⟩:=Dc.Aq.mp h;obtain⟨p,rfl⟩:=b f;rcases Dc.sub_one c with⟨_,_,i,_,rfl,_⟩|⟨_,_,_,k,_,rfl,_⟩
  .exact⟨.inl i::p,W⟩
  .exact⟨.inr k::p,W⟩
theorem WU{q:List V}{k:Kd}(h:d.kn q=Z k):∃p:List Ac,q=p.map AV:=by
 obtain⟨y,a,_⟩:=kw.mp (show(d.sub q).map Dc.kd=Z k from h);exact jf a
theorem jg(x z:List Ac)(j:Ac):Cf (x.map AV) (z.map AV) (AV j)=AV (Tp.mS x z j):=by
 cases j with
 |inr k=>rfl|inl j=>
  have d:Gs (x.map AV) (j:Int)=((match Tp.BN x with|some a=>if a<j then j-1 else j|none=>j:Nat):Int):=by
   match x with
   |[]=>rfl|[.inl a]=>
    show(if(a:Int)<j then(j:Int)-1 else j)=((if a<j then j-1 else j:Nat):Int);by_cases c:a<j
    .rw[if_pos c,if_pos y_];lia
    .rw[if_neg c,if_neg y_]
   |[.inr a]=>rfl|a::b::r=>rw[Tp.By z_,i2,i2,RO]
  have e:Gu (z.map AV) (j:Int)=((match Tp.BN z with|some b=>if b<=j then 1 else 0|none=>0:Nat):Int):=by
   match z with
   |[]=>rfl|[.inl a]=>
    show(if(a:Int)<=j then(1:Int)else 0)=((if a<=j then 1 else 0:Nat):Int);by_cases c:a<=j
    .rw[if_pos c,if_pos y_];rfl
    .rw[if_neg c,if_neg y_];rfl
   |[.inr a]=>rfl|a::b::r=>rw[Tp.By z_,i2,i2,RP];rfl
  show V.int (Gs _ (j:Int)+Gu _ (j:Int))=V.int ((_+_:Nat):Int);rw[d,e,aaP]
  try rfl
theorem cy(x:List Ac)(j:Ac):CQ (x.map AV) (AV j)=(Tp.nx x j).map AV:=by
 cases x with
 |nil=>rfl|cons a x=>
  by_cases e:a=j
  .subst e;rw[Tp.BI];exact if_pos W
  .rw[Tp.Cy _ e];exact if_neg λh=>e<|DV h
theorem LH:∀(q x z:List Ac),Fx (x.map AV) (z.map AV) (q.map AV)=(Tp.mP x z q).map AV
 |[],_,_=>rfl|j::r,x,z=>by
  show Cf _ _ (AV j)::Fx (CQ _<|AV j) (CQ _<|AV j) (r.map AV)=AV (Tp.mS x z j)::(Tp.mP (Tp.nx x j) (Tp.nx z j) r).map AV;rw[jg,cy,cy,LH r]
def kf(d:Dc):Tp.Kf:=λq=>d.kn<|q.map AV
theorem Mm(a:d.Wf)(b:e.Wf)(h:Dc.Eqv d e):kf d=kf e:=funext λq=>Dc.fZ a b h _
theorem ZD(a:d.Wf)(b:e.Wf)(h:kf d=kf e):Dc.Eqv d e:=Dc.fY a b λq=>congrFun h q
theorem Ir(h:d.sub (p.map AV)=Z e)(t:List Ac):kf d (p++t)=kf e t:=by
 show d.kn ((p++t).map AV)=_;rw[ca,Dc.IM h];rfl
theorem IE(h:d.sub (p.map AV)=Z e):kf d p=Z e.kd:=by
 show(d.sub _).map Dc.kd=_;rw[h];rfl
theorem Dn:(kf d p).isSome=true↔∃e,d.sub (p.map AV)=Z e:=by
 show((d.sub _).map Dc.kd).isSome=true↔_;rw[zl];exact gt
theorem Pz(d:Dc):Tp.Tree (kf d):=by
 have h:∀{p:List Ac}{s:Ac},(kf d<|p++[s]).isSome=true->∃e x,d.sub (p.map AV)=Z e/\e.sub [AV s]=Z x:=λ{p s} h=>by
  obtain⟨y,l⟩:=Dn.mp h;rw[ca]at l;obtain⟨e,c,f⟩:=Dc.Nr l;exact⟨e,y,c,f⟩
 refine⟨λg=>?_,λ{p s} g=>?_⟩
 .obtain⟨e,_,c,_⟩:=h g;exact Dn.mpr ⟨e,c⟩
 .obtain⟨e,x,c,f⟩:=h g;rcases Dc.sub_one f with⟨a,m,i,rfl,j,_⟩|⟨a,n,m,k,rfl,j,_⟩
  .exact .inl ⟨i,DV (b:=.inl i) j,IE c⟩
  .exact .inr ⟨k,DV (b:=.inr k) j,IE c⟩
open Tp (Kd rD rL rT mP lP mS eS nx st BN Ro)
theorem P_:∀(q x z:List Ac),Tp.Nb x q->Tp.Nb x z.dropLast->mP x z q=mP [] (lP false x [] z) (mP x [] q)
 |[],_,_,_,_=>rfl|j::r,x,z,h,i=>by
  show mS x z j::mP (nx x j) (nx z j) r=mS [] (lP false x [] z) (mS x [] j)::mP (nx []<|mS x [] j) (nx (lP false x [] z)<|mS x [] j) (mP (nx x j) (nx [] j) r);have g:∀j,nx [] j=([]:List Ac):=λ_=>rfl;rw[g,g,Tp.Uo h.one i,g,P_ r (nx x j) (nx z j) h.nx<|i.fP j];congr 1;cases j with
  |inr k=>rfl|inl j=>
   show y4 (Tp.nS _ _ j)=y4 (Tp.nS ν (BN<|lP false x [] z)<|Tp.nS (BN x) ν j);rw[Tp.LX];congr 1;have l:BN x≠Z j:=λe=>h.one<|Tp.CP e;cases o:BN z with
   |none=>unfold Tp.nS;rfl|some b=>
    have k:=Tp.OM (f:=false) (a:=BN x) (b:=ν) (s:=b) l;rw[zK];have m:Tp.nS (BN x) (Z b) j=Tp.nS (BN x) ν j+if b<=j then 1 else 0:=by unfold Tp.nS;rfl
    have n:∀c d,Tp.nS ν (Z c) d=d+if c<=d then 1 else 0:=λc d=>by unfold Tp.nS;rfl
    rw[m,n];congr 1;by_cases c:b<=j
    .rw[if_pos c];exact(if_pos<|k.mpr c).symm
    .rw[if_neg c];exact(if_neg λz=>c<|k.mp z).symm
theorem OP:∀(u:List Ac)(s:Ac)(z:List Ac),Aa (u.map AV)->Aa (z.map AV)->Ca (z.map AV) (u.map AV++[AV s])=(lP false (u++[s]) [] z).map AV
 |[],s,z,o,sz=>by
  rw[show([]:List Ac).map AV=[]from W,Eg,u7,U5];cases z with
  |nil=>rfl|cons b z=>
   have tail:∀n,lP false [s] [] (b::z)=n::z↔(if z=[]then eS false [s] [] b else mS [s] [] b)=n:=λn=>by
    cases z with
    |nil=>show[eS false [s] [] b]=[n]↔_;rw[if_pos W];simp|cons c z=>rw[Tp.Fj _ _ _ _ z_,Tp.Mg,show nx [] b=([]:List Ac)from W,Tp.DE,if_neg z_];simp
   show(match Z (AV b),AV s with|some (.int i),.int j=>if BV [] []=true/\j<i then(AV b::z.map AV).set 0 (.int<|i-1)else AV b::z.map AV|_,_=>AV b::z.map AV)=(lP false [s] [] (b::z)).map AV;have p:BV [] []=true:=rfl;cases s with
   |inr k=>
    have:lP false [.inr k] [] (b::z)=b::z:=(tail b).mpr (by cases b<;>(split<;>rfl));rw[this];cases b<;>rfl
   |inl a=>
    cases b with
    |inr k=>
     have:lP false [.inl a] [] (.inr k::z)=.inr k::z:=(tail _).mpr (by split<;>rfl);rw[this];rfl
    |inl b=>
     have:lP false [.inl a] [] (.inl b::z)=.inl (if a<b then b-1 else b)::z:=(tail _).mpr (by
      split
      .show y4 ((if a<b then b-1 else b)+0)=_;rw[abP]
      .show y4 ((if a<b then b-1 else b)+0)=_;rw[abP])
     rw[this];show(if BV [] []=true/\(a:Int)<(b:Int)then V.int ((b:Int)-1)::z.map AV else V.int (b:Int)::z.map AV)=V.int (((if a<b then b-1 else b:Nat)):Int)::z.map AV;by_cases c:a<b
     .rw[if_pos ⟨p,y_⟩,if_pos c];have:(b:Int)-1=((b-1:Nat):Int):=by lia
      rw[this]
     .rw[if_neg λh=>c<|by have:=h.2;lia,if_neg c]
 |a::u,s,z,o,sz=>by
  have l:Aa (u.map AV):=λy d=>o y<|bi _ d;cases z with
  |nil=>
   show Ca [] (AV a::(u.map AV++[AV s]))=[];rw[show AV a::(u.map AV++[AV s])=(AV a::u.map AV)++[AV s]from W,Eg];rfl
  |cons b z=>
   have f:Aa (z.map AV):=λy d=>sz y<|bi _ d;have t:u++[s]≠[]:=by simp
   have w:mS (a::(u++[s])) [] b=b:=by
    cases b with
    |inr k=>rfl|inl b=>show y4 (Tp.nS (BN (a::(u++[s]))) (BN []) b)=_;rw[Tp.By t];rfl
   have p:eS false (a::(u++[s])) [] b=b:=by
    cases b with
    |inr k=>rfl|inl b=>show y4 (Tp.lS false (BN (a::(u++[s]))) (BN []) b)=_;rw[Tp.By t];rfl
   have x:lP false (a::u++[s]) [] (b::z)=b::lP false (nx (a::(u++[s])) b) [] z:=by
    show lP false (a::(u++[s])) [] (b::z)=_;cases z with
    |nil=>show[eS false (a::(u++[s])) [] b]=[b];rw[p]|cons c z=>rw[Tp.Fj _ _ _ _ z_,w];rfl
   rw[x];show Ca (AV b::z.map AV) ((AV a::u.map AV)++[AV s])=AV b::(lP false (nx (a::(u++[s])) b) [] z).map AV;rw[Eg];show(match(z.map AV)[(u.map AV).length]?,AV s with|some (.int i),.int j=>if BV (AV b::(z.map AV).take (u.map AV).length) (AV a::u.map AV)=true/\j<i then AV b::(z.map AV).set (u.map AV).length (.int<|i-1)else AV b::z.map AV|_,_=>AV b::z.map AV)=_;have g:BV (AV b::(z.map AV).take (u.map AV).length) (AV a::u.map AV)=true↔b=a/\BV ((z.map AV).take (u.map AV).length) (u.map AV)=true:=by
    have q:Aa (AV b::(z.map AV).take (u.map AV).length):=λy d=>(ce.mp d).elim (λe=>sz y<|by rw[e];exact e9) λh=>f y<|i1 h;have r:Aa ((z.map AV).take (u.map AV).length):=λy d=>f y<|i1 d;rw[Bc q<|show Aa (AV a::u.map AV)from o,Bc r l];constructor
    .intro h;exact⟨DV (b8 h).1,(b8 h).2⟩
    .rintro⟨rfl,h⟩;rw[h]
   by_cases e:a=b
   .subst e;rw[Tp.BI];have v:=OP u s z l f;rw[Eg]at v;rw[<-v];have m:BV (AV a::(z.map AV).take (u.map AV).length) (AV a::u.map AV)=BV ((z.map AV).take (u.map AV).length) (u.map AV):=zP.mpr ⟨λh=>(g.mp h).2,λh=>g.mpr ⟨W,h⟩⟩;cases(z.map AV)[(u.map AV).length]? with
    |none=>rfl|some y=>
     cases y with
     |int i=>
      cases s with
      |inr k=>rfl|inl j=>
       show(if _/\_ then _ else _)=AV a::(if _/\_ then _ else _);rw[m];split<;>rfl
     |_=>rfl
   .rw[Tp.Cy _ e,Tp.DE];have no:∀P:Prop,¬(BV (AV b::(z.map AV).take (u.map AV).length) (AV a::u.map AV)=true/\P):=λP h=>e (g.mp h.1).1.symm;cases(z.map AV)[(u.map AV).length]? with
    |none=>rfl|some y=>
     cases y with
     |int i=>
      cases s with
      |inr k=>rfl|inl j=>exact if_neg (no _)
     |_=>rfl
theorem cz:∀(x f z:List Ac),x≠[]->LU (f.map AV) (x.map AV)=z.map AV->lP false x [] z=f
 |[],_,_,h,_=>absurd W h|[a],[],z,_,h=>by
  have:z=[]:=by cases z with|nil=>rfl|cons _ _=>cases h
  rw[this];rfl
 |[a],b::f,z,_,h=>by
  have tail:∀c,lP false [a] [] (c::f)=(if f=[]then eS false [a] [] c else mS [a] [] c)::f:=λc=>by
   cases f with
   |nil=>rfl|cons d f=>rw[Tp.Fj _ _ _ _ z_,Tp.Mg,show nx [] c=([]:List Ac)from W,Tp.DE,if_neg z_]
  cases a with
  |inr k=>
   have h:AV b::f.map AV=z.map AV:=by cases b<;>exact h
   have:z=b::f:=(CM (p:=b::f) h).symm;rw[this,tail];cases b<;>(split<;>rfl)
  |inl a=>
   cases b with
   |inr k=>
    have:z=.inr k::f:=(CM (p:=.inr k::f) h).symm;rw[this,tail];split<;>rfl
   |inl b=>
    have h:(if(a:Int)<b∨((b:Int)=a/\f.map AV≠[])then V.int ((b:Int)+1)::f.map AV else V.int (b:Int)::f.map AV)=z.map AV:=h;have j:∀c,Tp.nS (Z a) ν c=if a<c then c-1 else c:=λc=>rfl;have l:∀c,Tp.lS false (Z a) ν c=if a<c then c-1 else c:=λc=>rfl;have g:∀c,(if f=[]then eS false [.inl a] [] (.inl c)else mS [.inl a] [] (.inl c))=(.inl (if a<c then c-1 else c):Ac):=λc=>by
     split
     .show y4 (Tp.lS false (Z a) ν c)=_;rw[l]
     .show y4 (Tp.nS (Z a) ν c)=_;rw[j]
    by_cases c:(a:Int)<b∨((b:Int)=a/\f.map AV≠[])
    .rw[if_pos c]at h;have:z=.inl (b+1)::f:=(CM (p:=.inl (b+1)::f) h).symm;rw[this,tail,g,if_pos<|by rcases c with c|c<;>lia];rfl
    .rw[if_neg c]at h;have:z=.inl b::f:=(CM (p:=.inl b::f) h).symm;rw[this,tail,g,if_neg λz=>c<|.inl y_]
 |a::a2::x,[],z,_,h=>by
  have:z=[]:=by cases z with|nil=>rfl|cons _ _=>cases h
  rw[this];rfl
 |a::a2::x,b::f,z,_,h=>by
  have h:(if AV b=AV a then AV b::LU (f.map AV) ((a2::x).map AV)else AV b::f.map AV)=z.map AV:=by
   rw[<-h];cases b<;>rfl
  have m:mS (a::a2::x) [] b=b:=by
   cases b with
   |inr k=>rfl|inl b=>show y4 (Tp.nS (BN (a::a2::x)) (BN []) b)=_;rw[Tp.By z_];rfl
  have n:eS false (a::a2::x) [] b=b:=by
   cases b with
   |inr k=>rfl|inl b=>show y4 (Tp.lS false (BN (a::a2::x)) (BN []) b)=_;rw[Tp.By z_];rfl
  have i:∀y,lP false (a::a2::x) [] (b::y)=b::lP false (nx (a::a2::x) b) [] y:=λy=>by
   cases y with
   |nil=>show[eS false (a::a2::x) [] b]=[b];rw[n]|cons c y=>rw[Tp.Fj _ _ _ _ z_,m];rfl
  by_cases e:b=a
  .subst e;rw[if_pos W]at h;cases z with
   |nil=>cases h|cons c z=>
    obtain⟨o,q⟩:=b8 (show AV b::_=AV c::z.map AV from h);rw[<-DV o,i,Tp.BI,cz (a2::x) f z z_ q]
  .rw[if_neg λz=>e<|DV z]at h;have:z=b::f:=(CM (p:=b::f) h).symm;rw[this,i,Tp.Cy _<|u8 e,Tp.DE]
open Tp (Kd rD rL rT mP lP mS eS nx st BN Ro)
def ZE(x:Str):Kd:=if x="row"then .row else if x="table"then .tab else .leaf .Al
inductive Dw(v:Dc)(k:Str):Str->List V->List V->Ro->Prop
 |put {z:List Ac} {zs:List V} (h:z≠[]):Dw v k "put" (z.map AV) zs (.put z (kf v))
 |copy {x z:List Ac} (h:z≠[]):Dw v k "copy" (x.map AV) (z.map AV) (.copy x z)
 |take {x:List Ac} {zs:List V} (h:x≠[]):Dw v k "take" (x.map AV) zs (.take x)
 |move {x z:List Ac} (a:x≠[]) (b:z≠[]):Dw v k "move" (x.map AV) ((lP false x [] z).map AV) (.move x z)
 |chg {x:List Ac} {zs:List V}:Dw v k "change" (x.map AV) zs (.chg x (kf v))
 |ask {x:List Ac} {zs:List V}:Dw v k "ask" (x.map AV) zs (.ask x (kf v))
 |has {x:List Ac} {zs:List V}:Dw v k "has" (x.map AV) zs (.has x)
 |EK {z:List Ac} {zs:List V} (h:z≠[]):Dw v k "lacks" (z.map AV) zs (.EK z)
 |is {x:List Ac} {zs:List V}:Dw v k "is" (x.map AV) zs (.is x (ZE k))
def QK(xs zs:List V)(R:Ro):Prop:=∀x z,R=.move x z->B_ zs xs=z.map AV
theorem QK.no{R:Ro}(h:R.SG=ν):QK xs zs R:=λx z e=>by rw[e]at h;cases h
theorem Ho(h:x.map AV≠[]):x≠[]:=λz=>h<|by rw[z];rfl
theorem fb{k:Str}(a:Aa xs)(sz:Aa zs)(b:w∈DB)(nx:w="put"∨w="lacks"∨w="take"∨w="move"->xs≠[])(nz:w="copy"∨w="move"->zs≠[]):∃R,Dw v k w xs zs R/\QK xs zs R:=by
 obtain⟨x,rfl⟩:=Py a;obtain⟨z,rfl⟩:=Py sz;simp only[DB,ce,t7,or_false]at b;rcases b with rfl|rfl|rfl|rfl|rfl|rfl|rfl|rfl|rfl
 .exact⟨_,.put<|Ho<|nx<|.inl W,.no W⟩
 .exact⟨_,.take<|Ho<|nx<|.inr<|.inr<|.inl W,.no W⟩
 .have d:=Ho<|nx<|.inr<|.inr<|.inr W;have i:=Ho<|nz<|.inr W;have e:=Ma (nx<|.inr<|.inr<|.inr W) a sz;obtain⟨z1,j⟩:=Py<|Bx (w:="move") a sz;have f:B_ (z.map AV) (x.map AV)=z1.map AV:=j;have g:=cz x z z1 d<|e.symm.trans f;refine⟨.move x z1,?_,λl m h=>by cases h;exact f⟩;rw[<-g];exact .move d λc=>i<|by rw[<-g,c];rfl
 .exact⟨_,.copy<|Ho<|nz<|.inl W,.no W⟩
 .exact⟨_,.chg,.no W⟩
 .exact⟨_,.ask,.no W⟩
 .exact⟨_,.has,.no W⟩
 .exact⟨_,.EK<|Ho<|nx<|.inr<|.inl W,.no W⟩
 .exact⟨_,.is,.no W⟩
theorem Uz:Tp.Mo.A ⟨[rL i],rD::z⟩ (rD::q)=rD::mP [] z q:=by
 rw[Tp.Mo.Bl Tp.Cs];show mS [rL i] (rD::z) rD::mP (nx [rL i] rD) (nx (rD::z) rD) q=_;rw[Tp.Cy _ (Tp.DL i).symm,Tp.BI];rfl
theorem Mn(h:¬x<+:q):Tp.Mo.A ⟨rD::x,[rT i]⟩ (rD::q)=rD::mP x [] q:=by
 rw[Tp.Mo.Bl<|Tp.DW h];show mS (rD::x) [rT i] rD::mP (nx (rD::x) rD) (nx [rT i] rD) q=_;rw[Tp.Cy _ (Tp.DT i).symm,Tp.BI];rfl
theorem TV(h:¬x<+:q):Tp.Mo.A ⟨rD::x,rD::z⟩ (rD::q)=rD::mP x z q:=by
 rw[Tp.Mo.Bl<|Tp.DW h];show mS (rD::x) (rD::z) rD::mP (nx (rD::x) rD) (nx (rD::z) rD) q=_;rw[Tp.BI,Tp.BI];rfl
theorem bU(a:z≠[]):Tp.Mo.to ⟨rD::x,rD::z⟩=rD::lP false x [] z:=by
 show lP false (rD::x) [] (rD::z)=_;rw[Tp.Fj _ _ _ _ a,Tp.BI];rfl
theorem DN{x z t:List Ac}(a:z≠[]):Tp.Mo.A ⟨rD::x,rD::z⟩ (rD::(x++t))=rD::(lP false x [] z++t):=by
 refine(Tp.Mo.DN (m:=⟨rD::x,rD::z⟩)).trans ?_;rw[bU a];rfl
theorem U_(h:¬(w="take"∨w="move")):lX w xs=[]:=if_neg<|by rw[RW];exact h
theorem ZF(h:w="take"∨w="move"):lX w xs=xs:=if_pos<|by rw[RW];exact h
theorem ZG(h:¬(w="put"∨w="copy"∨w="move")):mX w xs zs=[]:=if_neg<|by rw[Gv];exact h
theorem TX(h:w="put"∨w="copy"∨w="move"):mX w xs zs=CW w xs zs:=if_pos<|by rw[Gv];exact h
theorem Mp{q:List V}(a:¬(w="take"∨w="change"))(b:w≠"move"):BQ w xs zs q=Z (Fx (lX w xs) (mX w xs zs) q):=by
 unfold BQ;rw[if_neg λc=>a<|RW.mp c.1,if_neg λc=>b c.1]
variable{q':List V}
theorem U'{k:Str}{R:Ro}(d:Dw v k w xs zs R)(to:QK xs zs R)(i:Bool)(h:BQ w xs zs (q.map AV)=Z q'):∃a,q'=a.map AV/\(R.rm i).A (rD::q)=rD::a:=by
 cases d with
 |@put z _ b=>
  rw[Mp ac ac,U_ ac,TX<|.inl W]at h;cases h;exact⟨_,LH q [] z,Uz⟩
 |@copy x z b=>
  rw[Mp ac ac,U_ ac,TX<|.inr<|.inl W]at h;cases h;exact⟨_,LH q [] z,Uz⟩
 |@take x _ b=>
  unfold BQ at h;split at h
  .cases h
  .rename_i c
   rw[if_neg λc=>absurd c.1 ac,ZF<|.inl W,ZG ac]at h;cases h;exact⟨_,LH q x [],Mn λz=>c ⟨RW.mpr<|.inl W,CN.mpr z⟩⟩
 |@move x z j f=>
  have e:=to x z W;unfold BQ at h;rw[if_neg λc=>absurd (RW.mp c.1) ac]at h;split at h
  .rename_i c
   cases h;obtain⟨t,rfl⟩:=CN.mp c.2;refine⟨_,?_,DN f⟩;rw[ca,ca,wP]
  .rename_i c
   rw[ZF<|.inr W,TX<|.inr<|.inr W]at h;have g:CW "move" (x.map AV) ((lP false x [] z).map AV)=z.map AV:=e;rw[g]at h;cases h;exact⟨_,LH q x z,TV λz=>c ⟨W,CN.mpr z⟩⟩
 |@chg x _=>
  unfold BQ at h;split at h
  .cases h
  .rename_i c
   rw[if_neg λc=>absurd c.1 ac,U_ ac,ZG ac,Dk]at h;cases h;refine⟨q,W,?_⟩;exact Tp.jY (Tp.DW λz=>c ⟨RW.mpr<|.inr W,CN.mpr z⟩) Tp.Cs
 |_=>rw[Mp ac ac,U_ ac,ZG ac,Dk]at h;cases h;exact⟨q,W,W⟩
theorem ZH{i:Nat}(hw:w="take"∨w="move")(g:Aa (x.map AV))(sp:Aa (p.map AV)):CT (p.map AV) i w (x.map AV)=((match BN (st x p)with|some a=>if a<i then i-1 else i|none=>i:Nat):Int):=by
 have b:=RW.mpr hw;have h:Aa (x.map AV).dropLast:=λy l=>g y<|n8 _ l;cases d:BN (st x p)with
 |some a=>
  have e:=Tp.Mj (Tp.CP d) z_;subst e;unfold CT;rw[ca,IC (j:=(a:Int))<|by simp[AV],show[(y4 a:Ac)].map AV=[V.int (a:Int)]from W,e5];show(if _/\_/\(a:Int)<(i:Int)then(i:Int)-1 else(i:Int))=((if a<i then i-1 else i:Nat):Int);by_cases c:a<i
  .rw[if_pos ⟨b,(Bc sp sp).mpr W,y_⟩,if_pos c];lia
  .rw[if_neg λz=>c<|by have:=z.2.2;lia,if_neg c]
 |none=>
  unfold CT;cases m:Ez (x.map AV)with
  |none=>rfl|some j=>
   refine if_neg λz=>?_;have e:=Ge m;have n:=(Bc h sp).mp z.2.1;rw[n]at e;cases f:x.getLast? with
   |none=>
    have:x=[]:=GE f
    subst this;cases p<;>cases e
   |some s=>
    obtain⟨y,o⟩:=M8.mp f;subst o;rw[ca]at e;obtain⟨q,r⟩:=wf e W;have t:=CM q;subst t;rw[Tp.Eh]at d;cases s with
    |inl a=>cases d|inr k=>cases(b8 r).1
theorem TY{i:Nat}(hw:w="put"∨w="copy"∨w="move")(h:CW w xs zs=z.map AV)(sz:Aa (z.map AV))(sp:Aa (p.map AV)):DD (p.map AV) i w xs zs f=((match BN (st z p)with|some b=>if b<i∨(b=i/\f=true)then 1 else 0|none=>0:Nat):Int):=by
 have d:=Gv.mpr hw;have m:Aa (z.map AV).dropLast:=λy n=>sz y<|n8 _ n;cases g:BN (st z p)with
 |some a=>
  have e:=Tp.Mj (Tp.CP g) z_;subst e;unfold DD;rw[h,ca,IC (j:=(a:Int))<|by simp[AV],show[(y4 a:Ac)].map AV=[V.int (a:Int)]from W,e5];show(if _/\_/\((a:Int)<(i:Int)∨(f=true/\(a:Int)=(i:Int)))then(1:Int)else 0)=((if a<i∨(a=i/\f=true)then 1 else 0:Nat):Int);by_cases c:a<i∨(a=i/\f=true)
  .rw[if_pos ⟨d,(Bc sp sp).mpr W,by rcases c with c|c;exact .inl y_;exact .inr ⟨c.2,by rw[c.1]⟩⟩,if_pos c];rfl
  .rw[if_neg (λz=>c<|by rcases z.2.2 with z|z;exact .inl y_;exact .inr ⟨y_,z.1⟩),if_neg c];rfl
 |none=>
  unfold DD;rw[h];cases o:Ez (z.map AV)with
  |none=>rfl|some j=>
   refine if_neg λc=>?_;have e:=Ge o;have q:=(Bc m sp).mp c.2.1;rw[q]at e;cases l:z.getLast? with
   |none=>
    have:z=[]:=GE l
    subst this;cases p<;>cases e
   |some s=>
    obtain⟨y,r⟩:=M8.mp l;subst r;rw[ca]at e;obtain⟨t,u⟩:=wf e W;have v:=CM t;subst v;rw[Tp.Eh]at g;cases s with
    |inl a=>cases g|inr k=>cases(b8 u).1
theorem La{i:Int}(h:¬(w="take"∨w="move")):CT a i w xs=i:=by
 unfold CT;split
 .exact if_neg λz=>h<|RW.mp z.1
 .rfl
theorem P'{i:Int}(h:¬(w="put"∨w="copy"∨w="move")):DD a i w xs zs f=0:=YY λz=>h<|Gv.mp z
open Tp (Kd rD rL rT mP lP mS eS nx st BN Ro)
theorem Jn{a:Ac} :st (a::x) (a::p)=st x p:=by show st (nx (a::x) a) p=_;rw[Tp.BI]
theorem Mq{a b:Ac}(h:a≠b):st (a::x) (b::p)=[]:=by show st (nx (a::x) b) p=_;rw[Tp.Cy _ h,Tp.CC]
def gz(R:Ro):Prop:=∀x z,R=.move x z->¬x<+:z.dropLast
theorem fg{k:Str}{R:Ro}(F:Dw v k w xs zs R)(to:QK xs zs R)(nb:gz R)(i f:Bool)(t:Aa xs)(sz:Aa zs)(sp:Aa (p.map AV))(h:BQ w xs zs (p.map AV)=Z q'):∃z1 o,(R.rm i).B f (rD::(p++[s]))=rD::(z1++[o])/\(R.rm i).A (rD::p)=rD::z1/\q'=z1.map AV/\E' (p.map AV) w xs zs f (AV s)=AV o:=by
 obtain⟨q,u,n⟩:=U' F to i h;have l:∀(X ζ:List Ac),(∀j:Nat,s=.inl j->CT (p.map AV) j w xs=((match BN (st X p)with|some a=>if a<j then j-1 else j|none=>j:Nat):Int))->(∀j:Nat,s=.inl j->DD (p.map AV) j w xs zs f=((match BN (st ζ p)with|some b=>if b<j∨(b=j/\f=true)then 1 else 0|none=>0:Nat):Int))->E' (p.map AV) w xs zs f (AV s)=AV (eS f (st X p) (st ζ p) s):=λX ζ y C=>by
  cases s with
  |inr k=>rfl|inl j=>
   show V.int (CT _ (j:Int) _ _+DD _ (j:Int) _ _ _ _)=V.int ((Tp.lS f (BN<|st X p) (BN<|st ζ p) j:Nat):Int);rw[y j W,C j W];unfold Tp.lS;rw[aaP]
   try rfl
 have d:∀j:Nat,(((match BN (st [] p)with|some a=>if a<j then j-1 else j|none=>j:Nat)):Int)=j:=λj=>by rw[Tp.CC];rfl
 have g:∀j:Nat,(((match BN (st [] p)with|some b=>if b<j∨(b=j/\f=true)then 1 else 0|none=>0:Nat)):Int)=0:=λj=>by rw[Tp.CC];rfl
 have fin:∀(m:Tp.Mo)(X ζ:List Ac),R.rm i=.mv m->¬m.x<+:rD::p->st m.x (rD::p)=st X p->st m.z (rD::p)=st ζ p->E' (p.map AV) w xs zs f (AV s)=AV (eS f (st X p) (st ζ p) s)->∃z1 o,(R.rm i).B f (rD::(p++[s]))=rD::(z1++[o])/\(R.rm i).A (rD::p)=rD::z1/\q'=z1.map AV/\E' (p.map AV) w xs zs f (AV s)=AV o:=λm X ζ J c y C L=>by
  refine⟨q,eS f (st X p) (st ζ p) s,?_,n,u,L⟩;rw[J]at n⊢;show m.B f (rD::p++[s])=_;rw[Tp.Yy c,y,C,show m.A (rD::p)=_ from n];rfl
 have r:eS f [] [] s=s:=by cases s<;>rfl
 cases F with
 |@put z _ G=>
  have ez:CW "put" (z.map AV) zs=z.map AV:=rfl;refine fin _ [] z W Tp.Cs (by rw[Mq (Tp.DL i).symm,Tp.CC]) Jn (l [] z (λj _=>?_) λj _=>TY (.inl W) ez t sp);rw[d,La ac]
 |@copy x z G=>
  have ez:CW "copy" (x.map AV) (z.map AV)=z.map AV:=rfl;refine fin _ [] z W Tp.Cs (by rw[Mq (Tp.DL i).symm,Tp.CC]) Jn (l [] z (λj _=>?_) λj _=>TY (.inr<|.inl W) ez sz sp);rw[d,La ac]
 |@take x _ G=>
  have c:¬x<+:p:=λz=>by
   unfold BQ at h;rw[if_pos ⟨RW.mpr<|.inl W,CN.mpr z⟩]at h;cases h
  refine fin _ x [] W (Tp.DW c) Jn (by rw[Mq (Tp.DT i).symm,Tp.CC]) (l x [] (λj _=>ZH (.inl W) t sp) λj _=>?_);rw[g,P' ac]
 |@move x z N O=>
  have ez:CW "move" (x.map AV) ((lP false x [] z).map AV)=z.map AV:=to x z W;have D:Aa (z.map AV):=by rw[<-ez];exact Bx t sz
  have H:=l x z (λj _=>ZH (.inr W) t sp) λj _=>TY (.inr<|.inr W) ez D sp;by_cases c:x<+:p
  .refine⟨q,s,?_,n,u,?_⟩
   .show Tp.Mo.B f _ (rD::p++[s])=_;rw[Tp.Yz (m:=⟨rD::x,rD::z⟩)<|bv.mpr ⟨W,c⟩,show Tp.Mo.A _ (rD::p)=_ from n];rfl
   .have o:BN (st x p)=none:=by
     cases E:BN (st x p)with
     |none=>rfl|some a=>
      have e:=Tp.Mj (Tp.CP E) z_;rw[e]at c;have:=c.length_le;rw[d7,j5]at this;lia
    have M:BN (st z p)=none:=by
     cases E:BN (st z p)with
     |none=>rfl|some a=>
      have e:=Tp.Mj (Tp.CP E) z_;exact absurd (by rw[e,e5];exact c)<|nb x z W
    rw[H];cases s with
    |inr k=>rfl|inl j=>show AV (y4 (Tp.lS f (BN (st x p)) (BN (st z p)) j))=_;rw[o,M];rfl
  .exact fin _ x z W (Tp.DW c) Jn Jn H
 |@chg x _=>
  have c:¬rD::x<+:rD::p:=λz=>by
   unfold BQ at h;rw[if_pos ⟨RW.mpr<|.inr W,CN.mpr (bv.mp z).2⟩]at h;cases h
  have I:(if rD::x<+:rD::p then rT i::(rD::p).drop (rD::x).length else if[rL i]<+:rD::p then rD::x++(rD::p).drop 1 else rD::p)=rD::q:=n;rw[if_neg c,if_neg Tp.Cs]at I;exact⟨q,s,by cases I;rfl,n,u,(l [] [] (λj _=>by rw[d,La ac]) λj _=>by rw[g,P' ac]).trans<|by rw[Tp.CC,r]⟩
 |_=>exact⟨q,s,by cases(show rD::p=rD::q from n);rfl,n,u,(l [] [] (λj _=>by rw[d,La ac]) λj _=>by rw[g,P' ac]).trans (by rw[Tp.CC,r])⟩
theorem Jo(h:z≠[]):∃p s,z=p++[s]:=⟨_,_,(f6 h).symm⟩
variable{first:Bool}{v':Dc}
theorem ZI{k k' D:Str}{d M ws:List V}{R S:Ro}(i:Bool)(N:Dw v k w xs zs S)(O:QK xs zs S)(F:Dw v' k' D d a R)(G:QK d a R)(nb:gz R)(E:Aa xs)(sz:Aa zs)(r:Aa d)(t:Aa a)(la:w="lacks"->∃u n,xs=u++[.str n])(H:D="move"->a≠[])(h:Fi w xs zs D d a first=Z (M,ws)):Dw v k w M ws (S.over (!first) (R.rm i)):=by
 have P:=λq q'=>U' (q:=q) (q':=q') F G i;have cB:=λp s q'=>fg (p:=p) (s:=s) (q':=q') F G nb i (!first) r t;have j:∀z:List Ac,z≠[]->Aa (z.map AV)->CW w xs zs=z.map AV->∀c,Bt w xs zs D d a first=Z c->∃z1,c=z1.map AV/\z1≠[]/\(R.rm i).B (!first) (rD::z)=rD::z1:=λz z0 Q ez c l=>by
  obtain⟨p,s,rfl⟩:=Jo z0;unfold Bt at l;rw[ez,ca,show[s].map AV=[AV s]from W,e5]at l;have T:(p.map AV++[AV s]).getLastD .Al=AV s:=by simp[uW]
  rw[T]at l;obtain⟨q',h1,h2⟩:=kw.mp l;have U:Aa (p.map AV):=λy I=>Q y (by rw[ca];exact b9 _ I);obtain⟨z1,X,J,b2,Y,ζ⟩:=cB p s q' U h1;refine⟨z1++[X],?_,z_,J⟩;rw[<-h2,Y,ζ,ca];rfl
 have one:∀{x:List Ac},Fi w xs zs D d a first=(BQ D d a<|x.map AV).bind (λq=>Z (q,[]))->∃o,M=o.map AV/\(x≠[]->o≠[])/\(R.rm i).A (rD::x)=rD::o:=λ{x} e=>by
  rw[e]at h;obtain⟨q',f,e⟩:=D5.mp h;cases e;obtain⟨o,g,m⟩:=P x _ f;exact⟨o,g,λx0=>Ho<|by rw[<-g];exact Me f (GE x0) H,m⟩
 unfold Fi at h;cases N with
 |@put z _ C=>
  rw[if_pos W]at h;obtain⟨c,l,e⟩:=kw.mp h;cases e;obtain⟨z1,g,m,ξ⟩:=j z C E W _ l;rw[g];show Dw v k _ _ _ (.put ((R.rm i).B (!first) (rD::z)).tail _);rw[ξ];exact .put m
 |@EK z _ C=>
  rw[if_neg ac,if_pos W]at h;obtain⟨q',f,e⟩:=kw.mp h;obtain⟨p,s,rfl⟩:=Jo C;obtain⟨u,n,L⟩:=la W;rw[ca]at L;have es:AV s=.str n:=(b8 (wf L W).2).1;have vh:s=.inr n:=DV (b:=.inr n) es;subst vh;rw[ca,show[(dL n:Ac)].map AV=[V.str n]from W]at f e E;rw[e5]at f;have U:Aa (p.map AV):=λy I=>E y<|b9 _ I;obtain⟨z1,X,J,b2,Y,ζ⟩:=cB p (.inr n) q' U f;have T:(p.map AV++[V.str n]).getLastD .Al=.str n:=by simp[uW]
  rw[T]at e;cases e;have e4:X=.inr n:=DV (b:=.inr n) ζ.symm;rw[e4]at J;show Dw v k _ _ _ (.EK ((R.rm i).B (!first) (rD::(p++[dL n]))).tail);rw[J,Y];have:=Dw.EK (v:=v) (k:=k) (z:=z1++[.inr n]) (zs:=[]) z_;rw[ca]at this;exact this
 |@move x z hx hz=>
  rw[if_neg ac,if_neg ac]at h;obtain⟨q',f,e⟩:=D5.mp h;rw[if_pos W]at e;obtain⟨c,l,e⟩:=kw.mp e;cases e;obtain⟨o,g,m⟩:=P x _ f;have ez:CW "move" (x.map AV) ((lP false x [] z).map AV)=z.map AV:=O x z W;have ZJ:Aa (z.map AV):=by rw[<-ez];exact Bx E sz
  obtain⟨z1,c1,c2,c3⟩:=j z hz ZJ ez _ l;have sq:=F_ r t E f;have sc:=Gy (w:="move") E sz r t (by rw[ez];simpa using hz) l;have q0:=Me f (GE hx) H;subst g;rw[c1]at sc;obtain⟨u,s,L⟩:=Jo<|Ho q0;subst L;have su:Aa (u.map AV):=λy I=>sq y (by rw[ca];exact b9 _ I);have bl:=OP u s z1 su sc;show Dw v k _ _ _ (.move ((R.rm i).A (rD::x)).tail ((R.rm i).B (!first) (rD::z)).tail);rw[m,c3,c1,ca,show[s].map AV=[AV s]from W,bl];have:=Dw.move (v:=v) (k:=k) (x:=u++[s]) (z:=z1) z_ c2;rw[ca]at this;exact this
 |@copy x z C=>
  rw[if_neg ac,if_neg ac]at h;obtain⟨q',f,e⟩:=D5.mp h;rw[if_neg ac,if_pos W]at e;obtain⟨c,l,e⟩:=kw.mp e;cases e;obtain⟨o,g,m⟩:=P x _ f;obtain⟨z1,c1,c2,c3⟩:=j z C sz W _ l;show Dw v k _ _ _ (.copy ((R.rm i).A (rD::x)).tail ((R.rm i).B (!first) (rD::z)).tail);rw[m,c3,c1,g];exact .copy c2
 |@take x _ C=>
  obtain⟨o,g,ξ,m⟩:=one W;show Dw v k _ _ _ (.take ((R.rm i).A (rD::x)).tail);rw[m,g];exact .take (ξ C)
 |_=>
  obtain⟨o,g,_,m⟩:=one W;simp only[Ro.over,m,g];constructor
open Tp (Kd rD rL rT mP lP mS eS nx st BN Ro)
section
variable {k:Str} {R:Ro}
theorem Dw.gone(b:Dw v k w xs zs R){a:List Ac}(h:R.gone=Z a):Fg w xs=Z (a.map AV):=by
 cases b with
 |take _=>cases h;exact if_pos (RW.mpr (.inl W))|chg=>cases h;exact if_pos (RW.mpr (.inr W))|_=>cases h
theorem Dw.SG(b:Dw v k w xs zs R){a:List Ac}(h:R.SG=Z a):CB w xs=Z (a.map AV):=by
 cases b with
 |move _ _=>cases h;exact if_pos W|_=>cases h
theorem Dw.reads(b:Dw v k w xs zs R){a:List Ac}(h:R.reads=Z a):Cr w xs=Z (a.map AV):=by
 cases b with
 |copy _=>cases h;exact if_pos (RW.mpr (.inr W))|ask=>cases h;exact if_pos (RW.mpr (.inl W))|_=>cases h
theorem Dw.to(a:Dw v k w xs zs R)(to:QK xs zs R){z:List Ac}(h:R.comes=Z z):DX (.str w) B'=true/\CW w xs zs=z.map AV/\w≠"lacks":=by
 cases a with
 |put _=>cases h;exact⟨Gv.mpr (.inl W),W,ac⟩|copy _=>cases h;exact⟨Gv.mpr (.inr (.inl W)),W,ac⟩|move _ _=>cases h;exact⟨Gv.mpr (.inr (.inr W)),to _ _ W,ac⟩|_=>cases h
theorem IF(z:List Ac):(z.map AV).dropLast=z.dropLast.map AV:=List.map_dropLast.symm
theorem Dw.hold(a:Dw v k w xs zs R)(to:QK xs zs R)(h:R.comes=Z z):HI w xs zs=Z (z.dropLast.map AV):=by
 obtain⟨b,c,_⟩:=a.to to h;unfold HI;rw[if_pos b,c,IF]
theorem Dw.jh(a:Dw v k w xs zs R)(to:QK xs zs R){n:Str}(h:R.bQ=Z (p++[.inr n])):Gf w xs zs=Z ((p++[dL n]:List Ac).map AV):=by
 have b:Nw (((p++[dL n]).map AV).getLastD .Al)=false:=by
  rw[ca];have:(p.map AV++[(dL n:Ac)].map AV).getLastD .Al=.str n:=by simp[uW,AV]
  rw[this];rfl
 by_cases l:w="lacks"
 .subst l;cases a;cases h;exact if_pos W
 .have c:R.comes=Z (p++[.inr n]):=by
   cases a with
   |EK _=>exact absurd W l|put _=>exact h|copy _=>exact h|move _ _=>exact h|_=>cases h
  obtain⟨d,e,_⟩:=a.to to c;unfold Gf;rw[if_neg l,e,if_pos ⟨d,b⟩]
theorem Dw.BW(b:Dw v k w xs zs R)(to:QK xs zs R){n:List Ac}(h:n∈R.BW):n.map AV∈Bs w xs zs:=by
 have a:DX (.str w) MW=true->xs∈Bs w xs zs:=λc=>by unfold Bs nA;rw[if_pos c];simp
 have c:∀z,R.comes=Z z->z.dropLast.map AV∈Bs w xs zs:=λz d=>by
  obtain⟨e,f,_⟩:=b.to to d;unfold Bs nC;rw[if_pos e,f,IF];simp
 cases b with
 |put _=>rw[ci.mp h];exact c _ W|copy _=>
  rcases ce.mp h with rfl|h
  .exact a<|by rw[Ce];decide
  .rw[ci.mp h];exact c _ W
 |move _ _=>
  rcases ce.mp h with rfl|h
  .exact a<|by rw[Ce];decide
  .rw[ci.mp h];exact c _ W
 |EK _=>
  rw[ci.mp h];unfold Bs nB;rw[if_pos W,IF];simp
 |_=>rw[ci.mp h];exact a (by rw[Ce];decide)
end
theorem TZ{a b:List Ac}{o d:Option (List V)}(h:GG o d=false)(e:o=Z (a.map AV))(f:d=Z (b.map AV)):¬a<+:b:=λc=>by
 rw[e,f]at h;have h:decide (a.map AV<+:b.map AV)=false:=h;exact of_decide_eq_false h<|CN.mpr c
theorem c_{k B A:Str}{f g:List V}{R S:Ro}(r:Dw v k w xs zs R)(tr:QK xs zs R)(s:Dw v' B A f g S)(t:QK f g S)(h:DM w xs zs A f g=false):Tp.Nc R S:=by
 unfold DM Er at h;simp only[AT]at h;obtain⟨⟨⟨⟨⟨⟨a1,a2⟩,a3⟩,a4⟩,a5⟩,a6⟩,⟨⟨⟨⟨⟨O,C⟩,P⟩,Q⟩,T⟩,U⟩⟩:=h;have u:=C;unfold Im at u;simp only[AT]at u;obtain⟨⟨x,y⟩,i⟩:=u;refine⟨λa d n D=>?_,λa d b m=>?_,λa d z j=>?_,λa d b m c=>?_,λz j ⟨p,n,E⟩ m=>?_,λa d F=>?_,λa b c e G H I J L M=>?_⟩
 .have:=(N8.mp<|show List.any _ _=false from a1) _<|s.BW t D;exact TZ (GE this) (r.gone d) W
 .exact TZ x (s.reads d)<|r.gone m
 .exact TZ y (s.reads d)<|r.hold tr j
 .rw[s.reads d,r.SG m]at i;have e:GG (Z<|a.map AV) (Z<|b.map AV)=true:=decide_eq_true<|CN.mpr c;rw[e,abA]at i;have:=of_decide_eq_true (GE<|i:decide (Z (a.map AV)=Z (b.map AV))=true);exact CM<|yb this
 .subst E;have N:R.bQ=Z (p++[.inr n]):=by
   revert j
   cases R<;>intro j<;>first|exact j|cases j
  have o:=r.jh tr N;have q:=s.jh t m;obtain⟨_,_,l⟩:=r.to tr j;unfold Ef at a3;rw[o,q,decide_eq_false l]at a3;simp at a3
 .have o:=r.SG d;have q:=s.SG F;unfold Du at a5;rw[o,q]at a5;simp at a5
 .unfold DK at a6;rw[r.SG G,s.hold t H,s.SG J,r.hold tr L]at a6;have o:GG (Z<|a.map AV) (Z<|b.dropLast.map AV)=true:=decide_eq_true<|CN.mpr I;have q:GG (Z<|c.map AV) (Z<|e.dropLast.map AV)=true:=decide_eq_true<|CN.mpr M;rw[o,q]at a6;cases a6
theorem bV{u v:V}(a:EO u)(b:EO v):Pt.Gh (Dc.leaf u).tr (Dc.leaf v).tr=true↔u=v:=by
 rcases a with⟨i,rfl,_⟩|⟨x,rfl,_⟩<;>rcases b with⟨j,rfl,_⟩|⟨y,rfl,_⟩
 .show(i==j)=true↔_;simp
 .show false=true↔_;simp
 .show false=true↔_;simp
 .show(x==y)=true↔_;simp
theorem HB{xs:List Dc}{t:Pt}:(Dc.RH xs)[j]?=Z t↔∃x,xs[j]?=Z x/\t=x.tr:=by
 rw[Dc.Gr,f8,kw];constructor
 .rintro⟨x,h,e⟩;exact⟨x,h,e.symm⟩
 .rintro⟨x,h,e⟩;exact⟨x,h,e.symm⟩
theorem ZK:∀{m o:List Pt},Pt.GF m o=true↔m.length=o.length/\∀(j:Nat) x y,m[j]?=Z x->o[j]?=Z y->Pt.Gh x y=true
 |[],[]=>by simp[Pt.fC]|[],_::_=>by constructor;(intro h;cases h);(intro h;cases h.1)|_::_,[]=>by constructor;(intro h;cases h);(intro h;cases h.1)|x::m,y::o=>by
  rw[Pt.PJ,g9,ZK,g7,g7,Nat.add_right_cancel_iff];constructor
  .rintro⟨f,e,g⟩;refine⟨e,λj=>?_⟩;cases j with
   |zero=>intro a b c d;cases c;cases d;exact f|succ j=>intro a b c d;exact g j a b c d
  .rintro⟨f,e⟩;exact⟨e 0 x y W W,f,λj a b c d=>e (j+1) a b c d⟩
theorem VA{k:Str}{t:Pt}:∀{c:List Dc},Pt.look ks (Dc.RH c) k=Z t↔∃x,(ks.zip c).lookup k=Z x/\t=x.tr:=by
 induction ks with
 |nil=>intro c;unfold Pt.look;simp|cons l r a=>
  intro c;cases c with
  |nil=>unfold Pt.look;simp[Dc.RH]|cons x c=>
   show D3 k ((l,x.tr)::r.zip (Dc.RH c))=Z t↔∃y,D3 k ((l,x)::r.zip c)=Z y/\t=y.tr;rw[j8,j8];cases k==l with
   |true=>constructor;(intro h;cases h;exact⟨x,W,W⟩);(rintro⟨y,h,e⟩;cases h;rw[e])
   |false=>exact a
theorem Rl:∀{ks ls:List Str},ks.Nodup->(∀k∈ks,k∈ls)->ls.length<=ks.length->ks.Perm ls
 |[],ls,_,_,h=>by
  have:ls=[]:=j7<|Nat.le_zero.mp h;rw[this]
 |k::ks,ls,n,s,h=>by
  have b:=s k e9;have p:=List.perm_cons_erase b;obtain⟨c,d⟩:=f9.mp n;refine(List.Perm.cons k<|Rl d (λx a=>?_) ?_).trans p.symm
  .exact(List.mem_erase_of_ne λe:x=k=>c<|by rw[<-e];exact a).mpr<|s x<|bi _ a
  .have:=p.length_eq;rw[g7]at this h;lia
theorem Rn(M:d.Wf)(F:e.Wf)(z:d.ok)(A:e.ok):Pt.Gh d.tr e.tr=true↔Dc.Eqv d e:=by
 induction M generalizing e with
 |leaf u=>
  cases e with
  |leaf v=>
   rw[bV (show EO u from z)<|show EO v from A];constructor
   .rintro rfl;exact .leaf u
   .intro h;cases h;rfl
  |row b g=>
   rcases(show EO u from z)with⟨i,rfl,_⟩|⟨x,rfl,_⟩<;>constructor<;>intro h<;>cases h
  |tab b ls g=>
   rcases(show EO u from z)with⟨i,rfl,_⟩|⟨x,rfl,_⟩<;>constructor<;>intro h<;>cases h
 |@row a o N G=>
  cases e with
  |leaf v=>rcases(show EO v from A)with⟨i,rfl,_⟩|⟨x,rfl,_⟩<;>constructor<;>intro h<;>cases h
  |tab b ls g=>constructor<;>intro h<;>cases h|row b g=>
   show Pt.GF (Dc.RH o) (Dc.RH g)=true↔_;rw[ZK,Dc.Gr,Dc.Gr,be,be,<-Dc.Gr,<-Dc.Gr];have m:∀(i:Nat) x y,o[i]?=Z x->g[i]?=Z y->(Pt.Gh x.tr y.tr=true↔Dc.Eqv x y):=λi x y c f=>by
    have H:(Dc.row a o).sub [.int (i:Int)]=Z x:=Dc.DR.mpr ⟨i,W,c⟩;have B:(Dc.row b g).sub [.int (i:Int)]=Z y:=Dc.DR.mpr ⟨i,W,f⟩;exact G x (yc c) (Dc.Cp F B) (Dc.Cv z H).2.2 (Dc.Cv A B).2.2
   constructor
   .rintro⟨l,h⟩;exact .row l λi x y c f=>(m i x y c f).mp<|h i _ _ (HB.mpr ⟨x,c,W⟩)<|HB.mpr ⟨y,f,W⟩
   .intro h;cases h with
    |row l h=>
     refine⟨l,λj t s I O=>?_⟩;obtain⟨x,c,rfl⟩:=HB.mp I;obtain⟨y,f,rfl⟩:=HB.mp O;exact(m j x y c f).mpr (h j x y c f)
 |@tab a q o L J N G=>
  cases e with
  |leaf v=>rcases(show EO v from A)with⟨i,rfl,_⟩|⟨x,rfl,_⟩<;>constructor<;>intro h<;>cases h
  |row b g=>constructor<;>intro h<;>cases h|tab b ls g=>
   have⟨P,Q⟩:ls.length=g.length/\ls.Nodup:=by cases F with|tab l n _=>exact⟨l,n⟩
   show(q.length==ls.length&&Pt.RF q (Dc.RH o) ls (Dc.RH g))=true↔_;rw[g9,beq_iff_eq,Pt.Gb];have m:∀k x y,(q.zip o).lookup k=Z x->(ls.zip g).lookup k=Z y->(Pt.Gh x.tr y.tr=true↔Dc.Eqv x y):=λk x y c f=>by
    have H:(Dc.tab a q o).sub [.str k]=Z x:=by rw[Dc.EF c,Dc.Ap]
    have B:(Dc.tab b ls g).sub [.str k]=Z y:=by rw[Dc.EF f,Dc.Ap]
    exact G x (Dc.AR c).2 (Dc.Cp F B) (Dc.Cv z H).2.2 (Dc.Cv A B).2.2
   constructor
   .rintro⟨l,h⟩;have sub:∀k∈q,k∈ls:=λk w=>by
     obtain⟨i,C,e⟩:=KM w;obtain⟨y,f,_⟩:=h i k _ (by rw[yZ C,e])<|HB.mpr ⟨_,yZ<|bn C<|bm L,W⟩;exact(Pt.RG f).1
    have p:q.Perm ls:=Rl J sub<|bm l.symm;refine .tab p λk x y c f=>?_;have w:=(Dc.AR c).1;obtain⟨S,D,e⟩:=h (Dc.ix q k) k x.tr (Dc.Ec w)<|HB.mpr ⟨x,Dc.Be L J c,W⟩;rw[VA.mpr ⟨y,f,W⟩]at D;cases D;exact(m k x y c f).mp e
   .intro h;cases h with
    |tab p h=>
     refine⟨p.length_eq,λj k t w I=>?_⟩;obtain⟨x,c,rfl⟩:=HB.mp I;have E:=Dc.HX q o j J w c;obtain⟨i,C,R⟩:=KM<|p.mem_iff.mp<|yc w;have r:=Dc.HX ls g i Q (by rw[yZ C,R])<|yZ<|bn C<|bm P;exact⟨_,VA.mpr ⟨_,r,W⟩,(m k x _ E r).mpr<|h k x _ E r⟩
open Tp (Kd rD rL rT mP lP mS eS nx st BN Ro Ei slot)
variable{u:List Ac}
theorem slot_of(w:d.Wf)(h:d.sub (u.map AV)=Z e)(r:e.room (AV s)=true):slot (kf d) [] (u++[s]):=by
 have o:=Dc.Cp w h;have g:∀t,kf d (u++[t])=e.kn [AV t]:=λt=>Ir h [t];refine⟨u,s,W,?_⟩;rcases Dc.Fe r with⟨a,p,i,rfl,f,v⟩|⟨a,x,p,k,rfl,f,q⟩
 .have c:s=.inl i:=DV (b:=.inl i) f;refine .inl ⟨i,c,IE h,λj y=>?_⟩;rw[g];exact Dc.Pu.mpr y_
 .have c:s=.inr k:=DV (b:=.inr k) f;refine .inr ⟨k,c,IE h,λm=>?_⟩;rw[g,c]at m;cases o with
  |tab l n _=>exact absurd ((Dc.Pw l n).mp m) q
theorem Lb(w:d.Wf)(h:d.Kj (z.map AV)):¬slot (kf d) [] z:=by
 rintro⟨u,s,rfl,m⟩;have j:∀e t,d.sub (u.map AV)=Z e->kf d (u++[t])=e.kn [AV t]:=λe t h=>Ir h [t];have get:∀k,kf d u=Z k->∃e,d.sub (u.map AV)=Z e/\e.kd=k:=λk o=>kw.mp (show(d.sub _).map Dc.kd=Z k from o);rcases m with⟨i,rfl,p,q⟩|⟨n,rfl,r,x⟩
 .obtain⟨e,b,f⟩:=get _ p;cases e with
  |leaf v=>cases f|tab a g c=>cases f|row a c=>
   have:(Dc.row a c).room (.int (i:Int))=false:=h _ _ _ (ca ..) b;have D:i<=c.length:=by
    cases i with
    |zero=>exact gU _|succ i=>
     have:=q i<|A9 i;rw[j _ _ b]at this;exact Dc.Pu.mp this
   simp[Dc.room]at this;lia
 .obtain⟨e,b,f⟩:=get _ r;cases e with
  |leaf v=>cases f|row a c=>cases f|tab a g c=>
   have y:(Dc.tab a g c).room (.str n)=false:=h _ _ _ (ca ..) b;have A:n∈g:=by simpa[Dc.room]using y
   have B:=Dc.Cp w b;cases B with
   |tab l C _=>
    have:=x (by rw[j _ _ b];exact(Dc.Pw l C).mpr A);simp at this
theorem Rp{x:Dc}{R:Ro}(w:d.Wf)(h:d.sub (u.map AV)=Z e)(r:e.room (AV s)=true)(o:R.rm i=.mv ⟨[rL i],rD::(u++[s])⟩)(p:R.con (kf d)=kf x):Ei (kf d) R i (kf (d.Av (u.map AV) (e.De (AV s) x))):=by
 intro c k;refine(Dc.ZC w h r).trans ?_;rw[o,p];have ez:u.map AV++[AV s]=(u++[s]).map AV:=by rw[ca];rfl
 rw[ez];constructor
 .rintro(⟨j,f,l⟩|⟨t,n,g⟩)
  .obtain⟨q,rfl⟩:=WU f;rw[show([]:List V)=([]:List Ac).map AV from W,LH]at l;have b:=CM l;exact⟨rD::q,.inl ⟨q,W,f⟩,by rw[b];exact Uz⟩
  .obtain⟨t,rfl⟩:=WU g;rw[<-ca]at n;have b:=CM n;refine⟨rL i::t,.inr ⟨t,W,g⟩,?_⟩;rw[b];refine(Tp.Mo.DN (m:=⟨[rL i],rD::(u++[s])⟩) (t:=t)).trans ?_;show lP false [rL i] [] (rD::(u++[s]))++t=_;rw[Tp.Fj _ _ _ _ z_,Tp.Cy _ (Tp.DL i).symm,show nx [] rD=([]:List Ac)from W,Tp.DE];rfl
 .rintro⟨q,⟨j,rfl,f⟩|⟨t,rfl,g⟩,b⟩
  .refine .inl ⟨j.map AV,f,?_⟩;rw[show([]:List V)=([]:List Ac).map AV from W,LH];have a:Tp.Mo.A ⟨[rL i],rD::(u++[s])⟩ (rD::j)=rD::c:=b;rw[Uz]at a;rw[(b8 a).2]
  .refine .inr ⟨t.map AV,?_,g⟩;have a:Tp.Mo.A ⟨[rL i],rD::(u++[s])⟩ ([rL i]++t)=rD::c:=b;rw[Tp.Mo.DN (m:=⟨[rL i],rD::(u++[s])⟩)]at a;have a:lP false [rL i] [] (rD::(u++[s]))++t=rD::c:=a;rw[Tp.Fj _ _ _ _ z_,Tp.Cy _ (Tp.DL i).symm,show nx [] rD=([]:List Ac)from W,Tp.DE]at a;rw[<-(b8 (show rD::(u++[s]++t)=rD::c from a)).2,ca]
theorem Jp{x:Dc}(w:d.Wf)(h:d.sub (u.map AV)=Z e)(l:e.sub [AV s]=Z x):Ei (kf d) (.take (u++[s])) i (kf (d.Av (u.map AV) (e.BZ (AV s)))):=by
 intro g k;refine(Dc.fX w h l).trans ?_;have ez:u.map AV++[AV s]=(u++[s]).map AV:=by rw[ca];rfl
 rw[ez];constructor
 .rintro⟨a,b,n,j⟩;obtain⟨q,rfl⟩:=WU b;rw[show([]:List V)=([]:List Ac).map AV from W,LH]at j;exact⟨rD::q,.inl ⟨q,W,b⟩,by rw[CM j];exact Mn λc=>n<|CN.mpr c⟩
 .rintro⟨q,⟨a,rfl,b⟩|⟨t,rfl,o⟩,p⟩
  .have f:Tp.Mo.A ⟨rD::(u++[s]),[rT i]⟩ (rD::a)=rD::g:=p;by_cases c:u++[s]<+:a
   .obtain⟨t,rfl⟩:=c;rw[show rD::(u++[s]++t)=(rD::(u++[s]))++t from W,Tp.Mo.DN (m:=⟨rD::(u++[s]),[rT i]⟩)]at f;exact absurd (b8 (show rT i::t=rD::g from f)).1 (Tp.DT i).symm
   .refine⟨a.map AV,b,λz=>c<|CN.mp z,?_⟩;rw[Mn c]at f;rw[show([]:List V)=([]:List Ac).map AV from W,LH,(b8 f).2]
  .cases o
theorem FP{K f:Tp.Kf}(d:Ei K (.take x) i f){k:Kd}:f q=Z k↔∃a,K a=Z k/\¬x<+:a/\q=mP x [] a:=by
 refine(d q k).trans ?_;constructor
 .rintro⟨p,⟨a,rfl,e⟩|⟨t,rfl,g⟩,h⟩
  .have b:Tp.Mo.A ⟨rD::x,[rT i]⟩ (rD::a)=rD::q:=h;by_cases c:x<+:a
   .obtain⟨t,rfl⟩:=c;rw[show rD::(x++t)=(rD::x)++t from W,Tp.Mo.DN (m:=⟨rD::x,[rT i]⟩)]at b;exact absurd (b8 (show rT i::t=rD::q from b)).1 (Tp.DT i).symm
   .rw[Mn c]at b;exact⟨a,e,c,(b8 b).2.symm⟩
  .cases g
 .rintro⟨a,e,c,rfl⟩;exact⟨rD::a,.inl ⟨a,W,e⟩,Mn c⟩
theorem WV{x a:Dc}{f:List Ac}{g:Ac}(w:d.Wf)(h:d.sub (u.map AV)=Z e)(q:e.sub [AV s]=Z x)(F:(d.Av (u.map AV) (e.BZ (AV s))).Wf)(G:(d.Av (u.map AV) (e.BZ (AV s))).sub (f.map AV)=Z a)(r:a.room (AV g)=true)(o:lP false (u++[s]) [] z=f++[g])(nb:¬(u++[s])<+:z.dropLast):Ei (kf d) (.move (u++[s]) z) i (kf ((d.Av (u.map AV) (e.BZ (AV s))).Av (f.map AV) (a.De (AV g) x))):=by
 have v:z≠[]:=λc=>by rw[c]at o;exact absurd o.symm<|by simp[Tp.jP]
 have j:Tp.Nb (u++[s]) z.dropLast:=λ_=>nb;have y:d.sub ((u++[s]).map AV)=Z x:=by rw[ca,Dc.sub_snoc h];exact q
 have B:=Jp (i:=i) w h q;intro H k;refine(Dc.ZC F G r).trans ?_;have ez:f.map AV++[AV g]=(f++[g]).map AV:=by rw[ca];rfl
 rw[ez,<-o];constructor
 .rintro(⟨I,C,m⟩|⟨t,D,n⟩)
  .obtain⟨I,rfl⟩:=WU C;obtain⟨b,l,E,J⟩:=(FP B).mp C;rw[show([]:List V)=([]:List Ac).map AV from W,LH]at m;refine⟨rD::b,.inl ⟨b,W,l⟩,?_⟩;rw[CM m,J,<-P_ _ _ _ (λ_=>E) j];exact TV E
  .obtain⟨t,rfl⟩:=WU n;rw[<-ca]at D;refine⟨rD::(u++[s]++t),.inl ⟨_,W,?_⟩,?_⟩
   .rw[Ir y];exact n
   .rw[CM D];exact DN v
 .rintro⟨p,⟨b,rfl,l⟩|⟨t,rfl,n⟩,m⟩
  .have a:Tp.Mo.A ⟨rD::(u++[s]),rD::z⟩ (rD::b)=rD::H:=m;by_cases c:u++[s]<+:b
   .obtain⟨t,rfl⟩:=c;rw[DN v]at a;rw[Ir y]at l;exact .inr ⟨t.map AV,by rw[<-(b8 a).2,ca],l⟩
   .rw[TV c]at a;refine .inl ⟨(mP (u++[s]) [] b).map AV,(FP B).mpr ⟨b,l,c,W⟩,?_⟩;rw[show([]:List V)=([]:List Ac).map AV from W,LH,<-P_ _ _ _ (λ_=>c) j,(b8 a).2]
  .cases n
theorem ZL{c:Tp.Kf}(w:d.Wf)(h:d.sub (x.map AV)=Z e)(m:c=kf v):Ei (kf d) (.chg x c) i (kf (d.Av (x.map AV) v)):=by
 subst m;intro b k;refine(Dc.Pq w h).trans ?_;constructor
 .rintro(⟨t,j,g⟩|⟨n,o⟩)
  .obtain⟨t,rfl⟩:=WU g;rw[<-ca]at j;refine⟨rL i::t,.inr ⟨t,W,g⟩,?_⟩;show(if _ then _ else _)=_;rw[if_neg λz=>Tp.DL i<|Tp.BM z,if_pos ⟨t,W⟩,CM j];rfl
  .refine⟨rD::b,.inl ⟨b,W,o⟩,?_⟩;show(if _ then _ else _)=_;rw[if_neg<|Tp.DW λz=>n<|CN.mpr z,if_neg Tp.Cs]
 .rintro⟨p,⟨f,rfl,q⟩|⟨t,rfl,g⟩,l⟩
  .have a:(if rD::x<+:rD::f then rT i::(rD::f).drop (rD::x).length else if[rL i]<+:rD::f then rD::x++(rD::f).drop 1 else rD::f)=rD::b:=l;split at a
   .exact absurd (b8 a).1 (Tp.DT i).symm
   .rename_i c
    rw[if_neg Tp.Cs]at a;cases a;exact .inr ⟨λz=>c<|bv.mpr ⟨W,CN.mp z⟩,q⟩
  .have a:(if rD::x<+:rL i::t then rT i::(rL i::t).drop (rD::x).length else if[rL i]<+:rL i::t then rD::x++(rL i::t).drop 1 else rL i::t)=rD::b:=l;rw[if_neg λz=>Tp.DL i<|Tp.BM z,if_pos ⟨t,W⟩]at a;refine .inl ⟨t.map AV,?_,g⟩;rw[<-(b8 (show rD::(x++t)=rD::b from a)).2,ca]
theorem Lc{K:Tp.Kf}{R:Ro}(c:R.rm i=.no):Ei K R i K:=by
 intro a k;rw[c];constructor
 .exact λh=>⟨rD::a,.inl ⟨a,W,h⟩,W⟩
 .rintro⟨p,⟨d,rfl,e⟩|⟨t,rfl,_⟩,b⟩
  .cases(show rD::d=rD::a from b);exact e
  .exact absurd (b8 (show rL i::t=rD::a from b)).1 (Tp.DL i).symm
open Tp (Kd rD rL rT mP lP mS eS nx st BN Ro Ei slot)
theorem VB(a:¬x<+:p)(b:¬x<+:q)(h:mP x [] p=mP x [] q):p=q:=Tp.DF (Tp.Fn (λ_=>a) (λ_=>b)<|by rw[h];exact nH _)<|Tp.Fn (λ_=>b) (λ_=>a)<|by rw[h];exact nH _
theorem QA{h:List Ac}(c:¬x<+:h)(ne:x≠h++[s]):¬x<+:h++[s]:=λz=>by
 rcases Tp.EJ z (d8 h [s])with c1|⟨u,b⟩
 .exact c c1
 .rw[<-b]at z;have z:=(lQ _).mp z;cases u with
  |nil=>exact c (by rw[<-b,ge];exact nH _)|cons a u=>
   obtain⟨e,d⟩:=bv.mp z;rw[n7.mp d,e]at b;exact ne b.symm
theorem WW{K f:Tp.Kf}(D:Ei K (.take x) i f)(nb:¬x<+:z.dropLast)(c:slot K x z):slot f [] (lP false x [] z):=by
 obtain⟨h,s,rfl,c⟩:=c;rw[e5]at nb;have m:∀k,K h=Z k->f (mP x [] h)=Z k:=λk d=>(FP D).mpr ⟨h,d,nb,W⟩;refine⟨mP x [] h,eS false (st x h) (st [] h) s,by rw[Tp.Fm z_];rfl,?_⟩;rw[Tp.CC];rcases c with⟨u,rfl,v,w⟩|⟨n,rfl,y,A⟩
 .refine .inl ⟨Tp.lS false (BN<|st x h) ν u,W,m _ v,λj g=>?_⟩;rcases Tp.Y_ g with⟨o,l,B,C⟩|⟨H,l,_⟩
  .obtain⟨k,d⟩:=gt.mp<|w o l;have ne:x≠h++[.inl o]:=λe=>B (by rw[e,Tp.Eh];rfl);refine Tp.isSome_of<|(FP D).mpr ⟨_,d,QA nb ne,?_⟩;rw[Tp.Fl,Tp.CC,<-C];rfl
  .cases l
 .refine .inr ⟨n,W,m _ y,λc=>?_⟩;rw[Tp.Fm z_,Tp.CC]at c;exfalso;obtain⟨k,d⟩:=gt.mp c;obtain⟨q,E,p,e⟩:=(FP D).mp d;have F:h<+:q:=Tp.Fn (λ_=>nb) (λ_=>p) (by rw[<-e];exact d8 _ _);obtain⟨t,rfl⟩:=F;rw[Tp.Fl,Tp.CC]at e;have e:=zA e;have G:t=[.inr n]:=by
   match t,e with
   |[],e=>cases e|[.inl a],e=>cases e|[.inr a],e=>rw[show(dL n:Ac)=.inr a from(b8 e).1]|a::b::r,e=>cases(b8 e).2
  subst G;exact p<|by rw[A<|Tp.isSome_of E];exact nH _
theorem WX{K o:Tp.Kf}{h:List Ac}(D:Ei K (.take x) i o)(ez:z=h++[s])(nb:¬x<+:h)(C:(K x).isSome=true)(g:slot o [] (lP false x [] z)):slot K x z:=by
 subst ez;rw[Tp.Fm z_,Tp.CC]at g;obtain⟨u,E,e,g⟩:=g;obtain⟨F,p⟩:=wf e W;have p:eS false (st x h) [] s=E:=(b8 p).1;subst F p;have A:∀k,o (mP x [] h)=Z k->K h=Z k:=λk r=>by
  obtain⟨q,t,v,e⟩:=(FP D).mp r;rw[VB nb v e];exact t
 refine⟨h,s,W,?_⟩;rcases g with⟨B,d,G,H⟩|⟨n,d,I,J⟩
 .cases s with
  |inr k=>cases d|inl l=>
   have d:Tp.lS false (BN<|st x h) ν l=B:=by injection d
   refine .inl ⟨l,W,A _ G,λj w=>?_⟩;by_cases c:BN (st x h)=Z j
   .have:=Tp.Mj (Tp.CP c) z_;rw[<-this];exact C
   .have k:=Tp.OM (f:=false) (a:=BN<|st x h) (b:=ν) (s:=l) c;have lt:Tp.nS (BN<|st x h) ν j<B:=by
     rw[<-d];exact Gc λz=>X7.mpr w<|k.mp z
    obtain⟨k1,y⟩:=gt.mp<|H _ lt;obtain⟨q,t,v,e⟩:=(FP D).mp y;have ne:x≠h++[.inl j]:=λe=>c (by rw[e,Tp.Eh];rfl);have L:mP x [] (h++[.inl j])=mP x [] q:=by
     rw[<-e,Tp.Fl,Tp.CC];rfl
    rw[VB (QA nb ne) v L,t];rfl
 .cases s with
  |inl l=>cases d|inr m=>
   have M:m=n:=yr (show(dL m:Ac)=.inr n from d);subst M;refine .inr ⟨m,W,A _ I,λg=>?_⟩;by_cases c:h++[.inr m]=x
   .exact c
   .exfalso;obtain⟨k,r⟩:=gt.mp g;have:=(FP D).mpr ⟨_,r,QA nb<|u8 c,W⟩;rw[Tp.Fl,Tp.CC]at this;have e:=J<|Tp.isSome_of this;exact absurd (zH.mp e).2<|G5 _ _
def HN(d:Dc)(R:Ro)(d':Dc):Prop:=R.HJ (kf d)/\∀i,Ei (kf d) R i<|kf d'
theorem HN.of{t:Dc}{R:Ro}{d':Dc}(h:HN t R d')(e:kf t=kf d):HN d R d':=by unfold HN at h⊢;rw[<-e];exact h
theorem ZM(d:Dc):(kf d []).isSome=true:=by show(d.kn []).isSome=true;rw[Dc.Dv];rfl
theorem Fp(h:d.sub (z.map AV)=ν):¬(kf d z).isSome=true:=λc=>by
 obtain⟨e,a⟩:=Dn.mp c;rw[a]at h;cases h
theorem Iu{z:V}(h:x.map AV=a++[z]):∃u s,x=u++[s]/\a=u.map AV/\z=AV s:=by
 have b:x≠[]:=λc=>by rw[c]at h;simp at h
 obtain⟨u,s,rfl⟩:=Jo b;rw[ca]at h;obtain⟨d,e⟩:=wf h W;exact⟨u,s,W,d.symm,(b8 e).1.symm⟩
section
variable {k:Str} {us:List V} {R:Ro} {x:Dc} {z:V}
theorem bW(a:Dw v k "put" xs zs R)(ex:xs=us++[z])(w:d.Wf)(h:d.sub us=Z e)(r:e.room z=true)(b:kf v'=kf v):HN d R (d.Av us (e.De z v')):=by
 cases a;obtain⟨u,s,rfl,rfl,rfl⟩:=Iu ex;exact⟨⟨slot_of w h r,ZM v⟩,λi=>Rp w h r W b.symm⟩
theorem fj(a:Dw v k "put" xs zs R)(w:d.Wf)(h:d.Kj xs):¬R.HJ (kf d):=by
 cases a;exact λc=>Lb w h c.1
theorem ZN(b:Dw v k "copy" xs zs R)(ez:zs=us++[z])(w:d.Wf)(a:d.sub xs=Z x)(h:d.sub us=Z e)(r:e.room z=true)(c:kf v'=kf x):HN d R (d.Av us (e.De z v')):=by
 cases b;obtain⟨u,s,rfl,rfl,rfl⟩:=Iu ez;refine⟨⟨Dn.mpr ⟨x,a⟩,slot_of w h r⟩,λi=>Rp w h r W ?_⟩;funext t;rw[c];exact Ir a t
theorem bX(a:Dw v k "copy" xs zs R)(w:d.Wf)(h:d.Kj zs):¬R.HJ (kf d):=by
 cases a;exact λc=>Lb w h c.2
theorem Ld(a:Dw v k w xs zs R)(b:w≠"put")(f:w≠"lacks")(h:d.sub xs=ν):¬R.HJ (kf d):=by
 cases a with
 |put _=>exact absurd W b|EK _=>exact absurd W f|copy _=>exact λc=>Fp h c.1|take _=>exact λc=>Fp h c.2|move _ _=>exact λc=>Fp h c.2.1|chg=>exact λc=>Fp h c.1|ask=>exact λc=>Fp h c.1|has=>exact λc=>Fp h c|is=>exact λc=>Fp h (Tp.isSome_of c)
theorem Rq(b:Dw v k "take" xs zs R)(ex:xs=us++[z])(w:d.Wf)(h:d.sub us=Z e)(a:e.sub [z]=Z x):HN d R (d.Av us (e.BZ z)):=by
 cases b with
 |take c=>
  obtain⟨u,s,rfl,rfl,rfl⟩:=Iu ex;refine⟨⟨c,Dn.mpr ⟨x,?_⟩⟩,λi=>Jp w h a⟩;rw[ca,Dc.sub_snoc h];exact a
theorem Mr(a:Dw v k "change" xs zs R)(w:d.Wf)(h:d.sub xs=Z e)(b:kf v'=kf v):HN d R (d.Av xs v'):=by
 cases a;exact⟨⟨Dn.mpr ⟨e,h⟩,ZM v⟩,λi=>ZL w h b.symm⟩
theorem bY(a:Dw v k "ask" xs zs R)(h:d.sub xs=Z e)(b:kf e=kf v):HN d R d:=by
 cases a;exact⟨⟨Dn.mpr ⟨e,h⟩,λt=>by rw[Ir h,b]⟩,λi=>Lc W⟩
theorem fk(a:Dw v k "ask" xs zs R)(h:d.sub xs=Z e)(b:kf e≠kf v):¬R.HJ (kf d):=by
 cases a;exact λc=>b<|funext λt=>by rw[<-Ir h];exact c.2 t
theorem bZ(a:Dw v k "has" xs zs R)(h:d.sub xs=Z e):HN d R d:=by
 cases a;exact⟨Dn.mpr ⟨e,h⟩,λi=>Lc W⟩
theorem ZO(a:Dw v k "is" xs zs R)(h:d.sub xs=Z e)(b:e.kd=ZE k):HN d R d:=by
 cases a;exact⟨(IE h).trans<|congrArg Z b,λi=>Lc W⟩
theorem ZP(a:Dw v k "is" xs zs R)(h:d.sub xs=Z e)(b:e.kd≠ZE k):¬R.HJ (kf d):=by
 cases a;exact λc=>b<|yb<|(IE h).symm.trans c
theorem WY{n:Str}(a:Dw v k "lacks" xs zs R)(ex:xs=us++[.str n])(w:d.Wf)(h:d.sub us=Z e)(r:e.room (.str n)=true):HN d R d:=by
 cases a;obtain⟨u,s,rfl,rfl,c⟩:=Iu ex;have:s=.inr n:=DV (b:=.inr n) c.symm;subst this;exact⟨⟨slot_of w h r,u,n,W⟩,λi=>Lc W⟩
theorem Jq(a:Dw v k "lacks" xs zs R)(w:d.Wf)(h:d.Kj xs):¬R.HJ (kf d):=by
 cases a;exact λc=>Lb w h c.1
theorem ZQ{z2:V}{f:Dc}(G:Dw v k "move" xs zs R)(ex:xs=us++[z])(ez:zs=a++[z2])(w:d.Wf)(ok:d.ok)(sz:Aa zs)(h:d.sub us=Z e)(g:e.sub [z]=Z x)(p:(d.Av us (e.BZ z)).Wf)(j:(d.Av us (e.BZ z)).sub a=Z f)(r:f.room z2=true)(c:QK xs zs R∨R.HJ (kf d)):HN d R ((d.Av us (e.BZ z)).Av a (f.De z2 x)):=by
 cases G with
 |@move y t H I=>
  obtain⟨u,s,rfl,rfl,rfl⟩:=Iu ex;obtain⟨Q,q,l,rfl,rfl⟩:=Iu ez;have m:d.sub ((u++[s]).map AV)=Z x:=by rw[ca,Dc.sub_snoc h];exact g
  have A:=Jp (i:=false) w h g;have b:(Ro.move (u++[s]) t).HJ (kf d):=by
   rcases c with c|c
   .have J:=c _ _ W;obtain⟨k2,n⟩:=gt.mp<|Dn.mpr ⟨f,j⟩;obtain⟨B,L,C,M⟩:=(FP A).mp n;obtain⟨S,o⟩:=Dn.mp<|Tp.isSome_of L;have D:=(Dc.Cv ok m).1;have N:=Ma (zs:=(lP false (u++[s]) [] t).map AV) z_ D sz;have E:=Yh (AV q) (B.map AV) ((u++[s]).map AV) (Dc.Cv ok o).1 D λz=>C<|CN.mp z;have O:Fx ((u++[s]).map AV) [] (B.map AV)++[AV q]=(lP false (u++[s]) [] t).map AV:=by
     rw[show([]:List V)=([]:List Ac).map AV from W,LH,<-M,l,ca];rfl
    rw[O,<-N,J,IF]at E;have P:=CM E;have nb:¬(u++[s])<+:t.dropLast:=by rw[P];exact C
    obtain⟨T,U,F⟩:=Jo I;refine⟨H,Dn.mpr ⟨x,m⟩,nb,WX A F (by rw[F,e5]at nb;exact nb) (Dn.mpr ⟨x,m⟩) ?_⟩;rw[l];exact slot_of p j r
   .exact c
  exact⟨b,λi=>WV w h g p j r l b.2.2.1⟩
theorem bb(a:Dw v k "move" xs zs R)(ex:xs=us++[z])(w:d.Wf)(h:d.sub us=Z e)(b:e.sub [z]=Z x)(f:(d.Av us (e.BZ z)).Wf)(g:(d.Av us (e.BZ z)).Kj zs):¬R.HJ (kf d):=by
 cases a with
 |@move y t j l=>
  obtain⟨u,s,rfl,rfl,rfl⟩:=Iu ex;exact λc=>Lb f g<|WW (Jp (i:=false) w h b) c.2.2.1 c.2.2.2
end
theorem WZ{g h a b:Dc}{R S:Ro}(n:Tp.Nc R S)(l:Tp.Nc S R)(j:HN d R g)(k:HN d S h)(c:∀i,Ei (kf g) (S.over f (R.rm false)) i (kf a))(e:∀i,Ei (kf h) (R.over (!f) (S.rm true)) i (kf b))(w:a.Wf)(m:b.Wf):Dc.Eqv a b:=
 ZD w m (Tp.both (Pz d) j.1 k.1 n l (j.2 false) (k.2 true) (c true) (e false))
theorem gz.of{R:Ro}(h:R.HJ (kf d)):gz R:=λx z e=>by rw[e]at h;exact h.2.2.1
theorem KP(h:n<=4010):n<sizeLine:=by rw[N2];exact g8 h ac
theorem ZR(h:n<=4010):n<=sizeLine:=jp<|KP h
abbrev zz:Str:="zzz"
inductive HC:Nat->List V->Hp->Hp->Prop
 |nil {H:Hp}:HC 0 [] H H
 |leaf {n:Nat} {v:V} {st:List V} {H H':Hp} (h:Dc.Lf v) (r:HC n st H H'):HC (n+1) (v::st) H H'
 |row {n:Nat} {a:Addr} {xs st:List V} {H H':Hp} (h:H a=Z (.lst xs)) (l:xs.length<=1000) (r:HC n (xs.reverse++st) (upd H a (.lst (xs++[.int 77]))) H'):HC (n+1) (.ref a::st) H H'
 |tab {n:Nat} {a:Addr} {kvs:List (Key×V)} {st:List V} {H H':Hp} (h:H a=Z (.dK kvs)) (l:kvs.length<=1000) (r:HC n ((kvs.map (·.2)).reverse++st) (upd H a (.dK (putK kvs (dL zz) (.str zz)))) H'):HC (n+1) (.ref a::st) H H'
theorem HC.len{st:List V}(r:HC n st H H'):st.length<=n:=by
 induction r with
 |nil=>exact b5 _|leaf _ _ a=>simp only[g7];exact io a _|row _ _ _ a=>simp only[d7,KF,g7]at a⊢;exact io (al (fr _ _) a) _|tab _ _ _ a=>simp only[d7,KF,be,g7]at a⊢;exact io (al (fr _ _) a) _
namespace Dc
mutual
noncomputable def GH:Dc->Dc
 |leaf v=>leaf v|row a xs=>row a (Fs xs++[leaf (.int 77)])|tab a ks xs=>if zz∈ks then tab a ks ((Fs xs).set (ix ks zz) (leaf (.str zz)))else tab a (ks++[zz]) (Fs xs++[leaf (.str zz)])
noncomputable def Fs:List Dc->List Dc
 |[]=>[]|x::r=>GH x::Fs r
end
theorem Rt(d:Dc):d.GH.val=d.val:=by
 cases d with
 |leaf v=>rfl|row a b=>rfl|tab a c b=>simp only[GH];split<;>rfl
theorem OQ:∀xs:List Dc,(Fs xs).length=xs.length
 |[]=>rfl|x::r=>by simp only[Fs,g7,OQ r]
theorem IG:∀xs:List Dc,(Fs xs).map val=xs.map val
 |[]=>rfl|x::r=>by simp only[Fs,i2,Rt,IG r]
theorem OR:∀{c:List Dc}{g:Dc},g∈Fs c->∃x∈c,g=x.GH
 |[],_,h=>nomatch h
 |x::r,g,h=>by
  simp only[Fs]at h;rcases ce.mp h with h|h
  .exact⟨x,e9,h⟩
  .obtain⟨z,a,e⟩:=OR h;exact⟨z,bi _ a,e⟩
theorem Ms(v:V):∀(xs:List Dc)(i:Nat),(AH (xs.set i (leaf v))).Sublist (AH xs)
 |[],_=>.refl _|x::r,0=>by simp only[M0,AH,AZ,aaO];exact List.sublist_append_right _ _|x::r,i+1=>by simp only[Y9,AH];exact(List.Sublist.refl _).append (Ms v r i)
mutual
theorem Iv:∀d:Dc,d.GH.AZ.Sublist d.AZ
 |leaf v=>.refl _|row a xs=>by
  simp only[GH,AZ,AO,AH,ge];exact(F' xs).cons₂ a
 |tab a ks xs=>by
  simp only[GH];split
  .simp only[AZ];exact((Ms _ _ _).trans<|F' xs).cons₂ a
  .simp only[AZ,AO,AH,ge];exact(F' xs).cons₂ a
theorem F':∀xs:List Dc,(AH (Fs xs)).Sublist (AH xs)
 |[]=>.refl _|x::r=>by
  simp only[Fs,AH];exact(Iv x).append<|F' r
end
theorem bc:EO (.str zz):=.inr ⟨zz,W,by decide+kernel⟩
end Dc
theorem Ru:∀{ks:List Str}{a:List V},ks.length=a.length->(Eb ks a).map (·.2)=a
 |[],[],_=>rfl|[],_::_,h=>by simp at h|_::_,[],h=>by simp at h|k::r,v::a,h=>by
  show v::(Eb r a).map (·.2)=v::a;rw[Ru<|GE h]
theorem Wa(h:ks.length=a.length)(k:Str)(v:V):Eb (ks++[k]) (a++[v])=Eb ks a++[(dL k,v)]:=by
 unfold Eb;rw[aaM h,ca];rfl
theorem OS:∀{ks:List Str}{a:List V}{k:Str},k∉ks->Cg (Eb ks a) (dL k)=ν
 |[],_,_,_=>rfl|_::_,[],_,_=>rfl|y::r,v::a,k,h=>by
  show Cg ((dL y,v)::Eb r a) (dL k)=ν;rw[FW λz=>h<|by rw[yr z];exact e9,OS λz=>h<|bi _ z]
namespace Dc
theorem Rv{a:Addr}{xs:List Dc}(l:ks.length=xs.length)(f:ks.Nodup)(e:H a=Z (.dK (putK (kvs ks xs) (dL zz) (.str zz))))(h:∀x∈xs,x.GH.At H):(tab a ks xs).GH.At H:=by
 have k:=OQ xs;have all:CY H (Fs xs):=by
  have gen:∀d:List Dc,(∀y∈d,y.At H)->CY H d:=by
   intro d
   induction d with
   |nil=>intro _;trivial|cons y r n=>intro g;simp only[CY];exact⟨g y e9,n λz b=>g z (bi _ b)⟩
  refine gen _ λy i=>?_;obtain⟨x,j,rfl⟩:=OR i;exact h x j
 have c:(leaf<|.str zz).At H:=bc.lf;rw[DZ]at e;have m:ks.length=(xs.map val).length:=by rw[be];exact l
 simp only[GH];split
 .rename_i b
  simp only[At];refine⟨.inl ?_,by rw[wT,k];exact l,f,Dc.LS c all⟩;rw[e,MT m f<|Ec b,DZ,aae,IG];rfl
 .rename_i b
  simp only[At];refine⟨.inl ?_,by rw[d7,d7,k,l];rfl,?_,(BK _ _).mpr ⟨all,c,trivial⟩⟩
  .rw[e,JB _<|OS b,DZ,ca,IG,<-Wa m];rfl
  .refine b7.mpr ⟨f,z_,λx j y i=>?_⟩;rw[ci.mp i];exact λz=>b<|z▸j
mutual
theorem OT:∀(d:Dc)(H:Hp),d.At H->d.AZ.Nodup->(∀a∈d.AZ,∀o u,H a≠Z (.Di o u))->d.size<=1000->∃p:Hp,(∀b,b∉d.AZ->p b=H b)/\(∀A e,d.sub A=Z e->e.GH.At p)/\(∀a∈d.AZ,∀o u,p a≠Z (.Di o u))/\∀n st H',HC n st p H'->HC (n+d.size) (d.val::st) H H'
 |leaf v,H,f,_,_,_=>by
  refine⟨H,λ_ _=>rfl,λA e s=>?_,λa T=>(nomatch T),λn st H' r=>.leaf f r⟩;cases A with
  |nil=>rw[Ap]at s;cases s;exact f|cons z r=>rcases Bb s with⟨_,_,_,_,q,_⟩|⟨_,_,_,_,_,q,_⟩<;>cases q
 |row a xs,H,f,t,j,hsz=>by
  simp only[At]at f;simp only[AZ]at t j⊢;simp only[size]at hsz⊢;have G:=GD xs;obtain⟨B,I⟩:=f9.mp t;have J:=f.1.exact<|j a e9;have C:∀c∈AH xs,c≠a:=λc m z=>B<|z▸m;have Ed:CY (upd H a<|.lst<|xs.map val++[.int 77]) xs:=BD xs (λc m o h=>by rw[AM<|C c m];exact h) f.2;obtain⟨p,D,E,L,M⟩:=KQ xs _ Ed I (λc m o u h=>by rw[AM<|C c m]at h;exact j c (bi _ m) o u h)<|al (fr _ _) hsz;have w:p a=Z (.lst<|xs.map val++[.int 77]):=(D a B).trans AD;refine⟨p,λb l=>?_,λA e s=>?_,λb l o u h=>?_,λn st H' r=>?_⟩
  .rw[ce,not_or]at l;rw[D b l.2,AM l.1]
  .cases A with
   |nil=>
    rw[Ap]at s;cases s;simp only[GH,At];refine⟨.inl ?_,(BK _ _).mpr ⟨?_,.inl ⟨77,W⟩,trivial⟩⟩
    .rw[w,ca,IG];rfl
    .have gen:∀F:List Dc,(∀y∈F,y.GH.At p)->CY p (Fs F):=by
      intro F
      induction F with
      |nil=>intro _;trivial|cons y r U=>intro g;simp only[Fs,CY];exact⟨g y e9,U λz V=>g z (bi _ V)⟩
     exact gen xs λy N=>E y N [] y (Ap y)
   |cons z r=>
    rcases Bb s with⟨_,_,i,x,q,_,O,P⟩|⟨_,_,_,_,_,q,_⟩
    .cases q;exact E x (yc O) r e P
    .cases q
  .rcases ce.mp l with rfl|l
   .rw[w]at h;cases h
   .exact L b l o u h
  .have:=HC.row (n:=n+Ab xs) J (by rw[be];exact al (al G<|fr _ _) hsz) (by rw[show(xs.map val).reverse++st=(xs.map val).reverse++st from W];exact M n st H' r);rw[show n+(1+Ab xs)=n+Ab xs+1 by lia];exact this
 |tab a Q xs,H,f,t,j,hsz=>by
  simp only[At]at f;obtain⟨X,R,Y,ζ⟩:=f;simp only[AZ]at t j⊢;simp only[size]at hsz⊢;have G:=GD xs;obtain⟨B,I⟩:=f9.mp t;have J:=X.exact<|j a e9;have S:Q.length=(xs.map val).length:=by rw[be];exact R
  have C:∀c∈AH xs,c≠a:=λc m z=>B<|z▸m;have Ed:CY (upd H a<|.dK<|putK (kvs Q xs) (dL zz)<|.str zz) xs:=BD xs (λc m o h=>by rw[AM<|C c m];exact h) ζ;obtain⟨p,D,E,L,M⟩:=KQ xs _ Ed I (λc m o u h=>by rw[AM<|C c m]at h;exact j c (bi _ m) o u h)<|al (fr _ _) hsz;have w:p a=Z (.dK<|putK (kvs Q xs) (dL zz)<|.str zz):=(D a B).trans AD;refine⟨p,λb l=>?_,λA e s=>?_,λb l o u h=>?_,λn st H' r=>?_⟩
  .rw[ce,not_or]at l;rw[D b l.2,AM l.1]
  .cases A with
   |nil=>
    rw[Ap]at s;cases s;exact Rv R Y w λy N=>E y N [] y (Ap y)
   |cons z r=>
    rcases Bb s with⟨_,_,_,_,q,_⟩|⟨_,_,_,k,x,q,_,O,P⟩
    .cases q
    .cases q;exact E x (AR O).2 r e P
  .rcases ce.mp l with rfl|l
   .rw[w]at h;cases h
   .exact L b l o u h
  .have:=HC.tab (n:=n+Ab xs) (st:=st) J (by rw[DZ,Qu S];exact al (al (bm R)<|al G<|fr _ _) hsz) (by rw[DZ,Ru S,<-DZ];exact M n st H' r);rw[show n+(1+Ab xs)=n+Ab xs+1 by lia];exact this
theorem KQ:∀(xs:List Dc)(H:Hp),CY H xs->(AH xs).Nodup->(∀a∈AH xs,∀o u,H a≠Z (.Di o u))->Ab xs<=1000->∃f:Hp,(∀b,b∉AH xs->f b=H b)/\(∀x∈xs,∀m e,x.sub m=Z e->e.GH.At f)/\(∀a∈AH xs,∀o u,f a≠Z (.Di o u))/\∀n st H',HC n st f H'->HC (n+Ab xs) ((xs.map val).reverse++st) H H'
 |[],H,_,_,_,_=>⟨H,λ_ _=>rfl,λx j=>(nomatch j),λa B=>(nomatch B),λn st H' r=>r⟩
 |x::r,H,g,k,i,hsz=>by
  simp only[CY]at g;simp only[AH]at k i⊢;simp only[Ab]at hsz⊢;obtain⟨C,D,t⟩:=b7.mp k;obtain⟨f,v,E,F,G⟩:=KQ r H g.2 D (λc d=>i c<|d9 _ d)<|al (fr _ _) hsz;have w:x.At f:=Cc x (λc d o h=>by rw[v c λz=>t c d c z W];exact h) g.1;obtain⟨I,A,J,L,M⟩:=OT x f w C (λc d o u h=>by rw[v c λz=>t c d c z W]at h;exact i c (b9 _ d) o u h)<|al (gT _ _) hsz;refine⟨I,λb l=>?_,λy p m e s=>?_,λb l o u h=>?_,λn st H' q=>?_⟩
  .rw[am,not_or]at l;rw[A b l.1,v b l.2]
  .rcases ce.mp p with N|p
   .rw[N]at s;exact J m e s
   .have O:∀c∈e.GH.AZ,c∈AH r:=λc d=>Gn p<|(BF.sub s).AZ c<|(Iv e).subset d;exact Cc _ (λc d o h=>by rw[A c λz=>t c z c (O c d) W];exact h)<|E y p m e s
  .by_cases j:b∈x.AZ
   .exact L b j o u h
   .rw[A b j]at h;exact F b ((am.mp l).resolve_left j) o u h
  .have:=G (n+x.size) (x.val::st) H'<|M n st H' q;rw[show n+(x.size+Ab r)=n+x.size+Ab r by lia,i2,aap,j3];exact this
end
end Dc
theorem AF.off{c H2:Hp}{d:List Addr}(s:AF H c)(o:∀b,b∉d->H2 b=c b)(n:∀a∈d,H a=ν):AF H H2:=λb u e=>by
 rw[o b λz=>by rw[n b z]at e;cases e];exact s b u e
theorem BY.fm{q:Hp}{k k1:Dc}(F:BY q H k)(m:k.sub xs=Z k1)(v:k1.size<=1000):∃f,(∀b,b∉k1.AZ->f b=H b)/\BY q f (k.Av xs k1.GH)/\(∀c∈(k.Av xs k1.GH).AZ,c∈k.AZ)/\HC k1.size [k1.val] H f:=by
 have P:=Dc.BF.sub m;have w:=Dc.Br k F.at_;obtain⟨l,r,g,i⟩:=Dc.Co (n:=k1.GH) w F.nd m;have nd:=F.nd;rw[g]at nd;obtain⟨z,A,B⟩:=b7.mp nd;obtain⟨C,s,D⟩:=b7.mp z;have sub:=Dc.Iv k1;obtain⟨f,j,E,G,I⟩:=Dc.OT k1 H (P.at_ F.at_) s (λa d=>F.own a<|P.AZ a d) v;refine⟨f,j,⟨F.same.off j λa d=>F.new a<|P.AZ a d,?_,?_,λa d o u h=>?_,λa d=>?_⟩,λa d=>?_,by have:=I 0 [] f .nil;rwa [abN]at this⟩
 .exact Dc.UT F.nd m (Dc.Rt k1) (E [] k1<|Dc.Ap k1) (λa _ J o h=>by rw[j a J];exact h) F.at_
 .rw[i];refine b7.mpr ⟨b7.mpr ⟨C,sub.nodup s,λx e y p=>D x e y<|sub.subset p⟩,A,λx e y p=>B x ?_ y p⟩;rcases am.mp e with e|e
  .exact b9 _ e
  .exact d9 _<|sub.subset e
 .by_cases t:a∈k1.AZ
  .exact G a t o u h
  .rw[j a t]at h;refine F.own a ?_ o u h;rw[i]at d;rw[g];rcases am.mp d with d|d
   .rcases am.mp d with d|d
    .exact b9 _<|b9 _ d
    .exact b9 _<|d9 _<|sub.subset d
   .exact d9 _ d
 .refine F.new a ?_;rw[i]at d;rw[g];rcases am.mp d with d|d
  .rcases am.mp d with d|d
   .exact b9 _<|b9 _ d
   .exact b9 _<|d9 _<|sub.subset d
  .exact d9 _ d
 .rw[i]at d;rw[g];rcases am.mp d with d|d
  .rcases am.mp d with d|d
   .exact b9 _<|b9 _ d
   .exact b9 _<|d9 _<|sub.subset d
  .exact d9 _ d
theorem BY.GH{e:Hp}{k:Dc}(F:BY e H k)(f:k.size<=1000):∃d,(∀b,b∉k.AZ->d b=H b)/\BY e d k.GH/\HC k.size [k.val] H d:=by
 obtain⟨d,a,b,_,c⟩:=F.fm (Dc.Ap k) f;rw[Dc.HY]at b;exact⟨d,a,b,c⟩
inductive bf(b:List V)(H:Hp)(Q:VK)(c:XK):Prop|mk(v:V)(n:Nat)(a:Hp)(d:b=[v])(e:HC n [v] H a)(f:n<=3000)(g:∀H',AF a H'->Q .Al H')
def ZS:Sp:=λb H Q a=>bf b H Q a
section
def Jr(v d:Addr):HO:=.ext λh=>h.IsValuesView v d
inductive ZT(x:V)(a:List V)(H:Hp)(Q:VK):Prop|mk(d:Addr)(kvs:List (Key×V))(b:x=.ref d)(c:a=[])(e:H d=Z (.dK kvs))(f:∀v,H v=ν->Q (.ref v) (upd H v (Jr v d)))
def bg:V->List V->Hp->VK->Prop:=λx a H Q=>ZT x a H Q
theorem Wb:gZ X "dict.values" bg:=by
 intro pins s r H x t v u Q I g i h;obtain⟨l,kvs,rfl,rfl,j,q⟩:=h;cases g;have a:=i.zero;subst a;obtain⟨z,m,n,p,c⟩:=QZ I.Bi j;refine call_meetsIn O3 c.typeIs PySem.F.entry_dict_values (PySem.F.args_dict_values_1 _) (meets_dict_values (A_ X.prog X.w) l m) ⟨⟨n,c⟩,?_⟩;have d:(s.heap.push {cls:=.type "dict_values",data:=.fields #[.ref l]}).get? s.heap.objs.size=Z {cls:=.type "dict_values",data:=.fields #[.ref l]}:=i7 _ W;exact⟨.ref s.heap.objs.size,_,I.laid (o:=Jr s.heap.objs.size l) (t':=s.toks) (λb o e=>d0 _ e) (b5 _) ⟨⟨_,d,W,W⟩,⟨_,d⟩,λy A ⟨f,z1,z2⟩ k=>⟨f,k f z1,z2⟩⟩,W,q _ I.fresh⟩
inductive bh(xs:List V)(H:Hp)(Q:VK):Prop|mk(r d:Addr)(kvs:List (Key×V))(a:xs=[.ref r])(b:H r=Z (Jr r d))(c:H d=Z (.dK kvs))(e:∀l,H l=ν->Q (.ref l) (upd H l (.lst (kvs.map (·.2)))))
def fo:List V->Hp->VK->Prop:=λa H Q=>bh a H Q
theorem KV.snd{kvs:List (Key×V)}{a:List (Key×bd)}(r:KV kvs a):Vals (kvs.map (·.2)) (a.map (·.2)):=by
 induction r with
 |nil=>exact .nil|cons h _ b=>exact .cons h.2 b
theorem Mt(k:X.calm=true):Dx X (.type "list") fo:=by
 intro pins s E H F G Q I r h;obtain⟨e,d,kvs,rfl,l,m,q⟩:=h;obtain⟨u,rfl,n⟩:=vals1 r;cases n;obtain⟨a,_⟩:=(show BR X.prog X.w H s.heap e (Jr e d)from I.Bi e _ l);obtain⟨z,hd,g,c,o⟩:=QZ I.Bi m;obtain⟨ep,f⟩:=o.dictAt;refine PySem.W.kdl_call (PySem.W.kdl_values (knd:=A_ X.prog X.w) (kvs:=g) (ep:=ep)) (I.ok.hd k) ⟨a,f⟩ (by rw[<-c.length];exact z) λp t b x y A i=>?_;have B:(kvs.map (·.2)).length<=sizeLine:=by rw[be];exact z
 have C:b.toList=g.map (·.2):=PySem.W.kdl_vals_eq b.toList (by rw[q4];exact i.1) λj v D=>i.2 j v (by rw[<-v5];exact D);refine⟨.ref s.heap.objs.size,_,I.laid (t':=t) y (b5 _)<|show BR X.prog X.w _ p _ (.lst _)from⟨B,b.toList,x,?_,by rw[IN];exact A⟩,W,q _ I.fresh⟩;rw[C];exact c.snd
end
open PySem.AutoSeq1 (wpAny_loadPart')
open PySem.MeetsSeq3
section
variable{prog:m8} {w:q3} {A:i8} {s:d6}
def ji(prog:m8)(w:q3)(A:i8)(s:d6)(u v:bd):Prop:=∀(E:bd->d6->Prop)(Q:bd->d6->Prop),Q (.bool false) s->im (j1 prog w) A (aaI .NotEq u v) Q E s
theorem ZU{b:Addr}{items a:Array bd}{r:Nat}{t m:Option Addr}{u o:Array (Option bd)}(hsz:items.size=a.size)(p:s.heap.get? l=Z {cls:=.type "list",dict:=t,data:=.seq items n,slots:=u})(q:s.heap.get? b=Z {cls:=.type "list",dict:=m,data:=.seq a r,slots:=o})(v:∀j (E:j<items.size) (F:j<a.size),UZ prog w A.in1 s items[j] a[j] true){R:T6->d6->Prop}(x:R (.ok (.ret (.bool false))) s):
  ∀k i:Nat,items.size-i=k->i<=items.size->A1 (j1 prog w) A (.builtin "list.__eq__.loop" ⟨[.ref l,.ref b,On i,On 3],[]⟩) R s:=by
 obtain⟨G,g,d,H,os⟩:=s;intro k
 induction k with
 |zero=>
  intro i y z;have B:i=items.size:=by lia
  refine zI entry_eq_loop ?_;rw[yx plain_eq_loop _];wp_walk using wpAny_loadPart' p,wpAny_loadPart' q;have e:items[((i:Nat):Int).toNat]?=none:=by simp;lia
  have f:a[((i:Nat):Int).toNat]?=none:=by simp;lia
  rw[e,f];wp_walk using wpAny_loadPart' p,wpAny_loadPart' q;show R (.ok<|.ret<|.bool<|items.size !=a.size) _;rw[hsz];simpa using x
 |succ k C=>
  intro i y z;refine zI entry_eq_loop ?_;rw[yx plain_eq_loop _];wp_walk using wpAny_loadPart' p,wpAny_loadPart' q;have h:i<items.size:=by lia
  have c:i<a.size:=by lia
  have e:items[((i:Nat):Int).toNat]?=Z items[i]:=by simp[h]
  have f:a[((i:Nat):Int).toNat]?=Z a[i]:=by simp[c]
  have D:((i:Int)+1)=((i+1:Nat):Int):=by push_cast;rfl
  rw[e,f];refine ap<|v i h c _ _ ?_;wp_walk;rw[D];exact⟨B4 plain_eq_loop _,C (i+1) y_ h⟩
theorem ZV{b:Addr}{items a:Array bd}(p:s.heap.IsList l items)(q:s.heap.IsList b a)(hsz:items.size=a.size)(r:A.units<cLine)(t:∀j (B:j<items.size) (C:j<a.size),UZ prog w A.in1 s items[j] a[j] true):ji prog w A s (.ref l) (.ref b):=λE Q h=>by
 obtain⟨⟨u,D,data,G⟩,i,k,n,m⟩:=id p;obtain⟨⟨o,v,data2,y⟩,c,e,H,f⟩:=id q;simp only at k m e f;subst k m e f;refine x5 (op:=.NotEq) ⟨_,i,W⟩ ⟨_,c,W⟩ abj (call_one abj ⟨_,i,W⟩ F.entry_list_ne (F.args_list_ne_2 _ _) ?_) r;obtain⟨I,g,d,J,os⟩:=s;have L:=Q6;have z:¬(items.size !=a.size)=true:=by simp[hsz]
 wp_walk using wpAny_loadPart' i,wpAny_loadPart' c;exact⟨B4 plain_eq_loop _,ZU hsz i c t (show(x9 false≠V0)/\Q (.bool false) _ from⟨(λx=>nomatch x),h⟩) _ 0 W<|gU _⟩
theorem ZW{P:Type}[DecidableEq P]{knd:W7 prog w P}{a b:Addr}{z D:List (P×bd)}(ha:(a==q5)=false)(hb:(b==q5)=false)(O:s.heap.DictOf knd a z)(R:s.heap.DictOf knd b D)(ll:z.length=D.length)(hu:A.units<cLine)(he:∀(j:Nat) k u,z[j]?=Z (k,u)->∃v,zt D k=Z v/\UZ prog w A.in1 s u v true):ji prog w A s (.ref a) (.ref b):=λE Q h=>by
 refine x5 (op:=.NotEq) O.typeIs R.typeIs V1 (xL V1 O.typeIs PySem.F.entry_dict_ne ?_<|PySem.F.args_dict_ne_2 _ _) hu;show im _ _ (wr "__ne__" ⟨[.ref a,.ref b],[]⟩>>=_) _ _ s;refine ap ?_;unfold wr;refine ap<|zU O.typeIs ?_;show im _ _ (pure (i3 a,i3 b)) _ _ s;refine e7 ?_;refine ap<|O6 (T:="dict") R.typeIs Sc ?_;simp only[abB,Z9,if_false];refine ap<|e7<|ap<|e7 ?_;obtain⟨oa,d,ep,m,_,n,S,G,vL⟩:=O;obtain⟨ob,f,vM,o,_,p,H,B,vN⟩:=R;have I:z.length=d.size:=by rw[<-G.length];exact q4
 have J:D.length=f.size:=by rw[<-B.length];exact q4
 refine ap ?_;unfold Q5 T0;rw[if_neg<|show¬(a==q5)=true by rw[ha];exact d5,if_neg<|show¬(b==q5)=true by rw[hb];exact d5];refine ap<|e7<|ap<|e7 ?_;refine ap<|yg m n ?_;dsimp only;refine ap<|yg o p ?_;rw[if_neg<|by rw[<-I,<-J,ll];simp];refine ap<|J0 m n ?_;refine ap ?_;rw[A0];simp only[R6,A4,Y8,ab1];have fin:∃v,Fin.done (Flow.ret<|x9<|true==false)=.done (.ret v)/\v≠.notImplemented/\Q v s:=⟨_,W,(λx=>nomatch x),h⟩;refine O7 _ (λrest q U=>U=s/\q=(ν,())/\∃i,rest=U0 i (d.size-i)/\i<=d.size) _ ?_ ?_ _ _ ⟨W,W,0,z_,gU _⟩
 .rintro x rest q U ⟨rfl,rfl,i,L,hi⟩;have g:i<d.size:=by
   rcases A6 i d.size with h|h
   .exact h
   .rw[SL h]at L;simp at L
  obtain⟨rfl,C⟩:x=i/\rest=U0 (i+1) (d.size-(i+1)):=by
   have e:d.size-i=(d.size-(i+1))+1:=by lia
   rw[e,O9]at L;injection L with h1 h2;exact⟨h1,h2⟩
  have M:x<z.length:=by rw[I];exact g
  obtain⟨r,u,V⟩:∃k u,z[x]=(k,u):=⟨_,_,W⟩;have gk:z[x]?=Z (r,u):=by rw[yZ M,V]
  obtain⟨v,hv,hq⟩:=he x r u gk;refine ap<|yg m n ?_;rw[p8 g];obtain⟨t,N⟩:=G.get? (i:=x) (e:=d[x]) (k:=r) (v:=u) (by rw[v5];exact p8 g) gk;obtain⟨k2,X,hh⟩:=S d[x]<|aas g;have Y:k2=r:=knd.inj _ _ _ X t;rw[Y]at hh;show im _ _ (M9 [d[x].key,d[x].val] _>>=_) _ _ _;rw[hh];refine ap<|u9<|ap<|aai t o p H ?_;have c:abK knd.is f r=zt D r:=by
   rw[<-B.find r];clear J B H p o;obtain⟨l⟩:=f;simp[abK]
  cases ζ:f.findIdx? λe=>knd.is r e.key with
  |none=>
   rw[C9,ζ,hv]at c;exact nomatch c
  |some j=>
   obtain⟨y,_,_⟩:=D0.mp ζ;have ξ:f[j].val=v:=by
    rw[C9,ζ,hv]at c;simpa[p8 y]using c
   refine ap<|yg o p ?_;rw[p8 y];refine u9 ?_;rw[ξ,N];refine hq _ _ ?_;show im _ _ (if(!true)=true then _ else _) _ _ _;rw[if_neg ac];refine ap<|J0 m n ?_;rw[if_neg z_];exact e7 ⟨W,W,x+1,C,g⟩
 .rintro q U ⟨rfl,rfl,i,L,hi⟩;exact e7<|e7 fin
end
noncomputable def Pt.top:Pt->Bool
 | .int _| .str _| .lst _| .HP _ _=>true
 |_=>false
theorem Pt.VC{t:Pt}(d:t.doc):t.top=true:=by
 cases t with
 |int _=>rfl|str _=>rfl|lst _=>rfl|HP _ _=>rfl|_=>simp[Pt.doc]at d
inductive ft{K:yd}[EH K](x y:V)(H:Hp)(Q:VK):Prop|mk(p t:Pt)(a:Val H x p)(b:Val H y t)(e:p.top=true)(c:Pt.Gh p t=true)(d:p.deep<=60)(q:Q (.bl false) H)
theorem ZX(hu:X.A.units+64<cLine):EN X (ut .NotEq) (@ft X.K ⟨trivial⟩):=by
 haveI:EH X.K:=⟨trivial⟩;intro pins s σ H x y v u Q I Y ζ h;obtain⟨p,t,ξ,hy,dx,c,d,q⟩:=h;have F:∀{G t':Pt}{x y:V}{u v:bd},G.deep<p.deep->Val H x G->Val H y t'->Pt.Gh G t'=true->RelV x u->RelV y v->UZ X.prog X.w X.A.in1 s u v true:=λ{G t' x y u v} l n h2 e r1 r2=>by
  have:=YR I _ G (b5 _) t' (.inr e) n h2 (A:=X.A.in1) (by show X.A.units+1+_<cLine;lia) r1 r2;rw[e]at this;exact this
 cases p with
 |int i=>
  cases t with
  |int j=>
   cases ξ;cases hy;have e:i=j:=by simpa[Pt.Gh]using c
   exact Ll pins s σ H _ _ v u Q I Y ζ ⟨W,by rw[e];simpa using q⟩
  |_=>simp[Pt.Gh]at c
 |str i=>
  cases t with
  |str j=>
   cases ξ;cases hy;have e:i=j:=by simpa[Pt.Gh]using c
   exact Ll pins s σ H _ _ v u Q I Y ζ ⟨W,by rw[e];simpa using q⟩
  |_=>simp[Pt.Gh]at c
 |lst D=>
  cases t with
  |lst E=>
   have J:Pt.GF D E=true:=c;have l:D.length=E.length:=by
    rcases yi D.length E.length with z|z|z
    .rw[Ga y_]at J;cases J
    .exact z
    .rw[Ga y_]at J;cases J
   cases ξ with
   |@lst a L _ ha ra=>
    cases hy with
    |@lst b ws _ hb rb=>
     cases(show v=i3 a from Y);cases(show u=i3 b from ζ);obtain⟨its,r1,p1,_⟩:=I.list<|.inl ha;obtain⟨M,r2,p2,_⟩:=I.list<|.inl hb;have e1:its.toArray.size=D.length:=by rw[b6,<-r1.length,ra.length]
     have e2:M.toArray.size=E.length:=by rw[b6,<-r2.length,rb.length]
     refine ZV p1.isList p2.isList (by rw[e1,e2,l]) y_ (λj n h2=>?_) _ _ ⟨.bl false,H,I,W,q⟩;obtain⟨v1,t1,g1,N,o,f⟩:=ra.at r1 n;obtain⟨v2,t2,g3,g4,r,jF⟩:=rb.at r2 h2;have dl:=Pt.Bw<|yc N;have e:pairE D E j=Pt.Gh t1 t2:=by simp[pairE,N,g4]
     exact F (by simp only[Pt.deep];lia) o r (by rw[<-e];exact(IB l).mp J j<|by rw[<-e1];exact n) f jF
  |_=>simp[Pt.Gh]at c
 |HP ks D=>
  cases t with
  |HP ls E=>
   simp only[Pt.Gh,g9,beq_iff_eq]at c;cases ξ with
   |@HP a kvs _ _ ha O ra=>
    cases hy with
    |@HP b oD _ _ hb P rb=>
     cases(show v=i3 a from Y);cases(show u=i3 b from ζ);obtain⟨z,hm,L,R,dd⟩:=GV I.Bi ha;obtain⟨z',pI,B,m,pK⟩:=GV I.Bi hb;have k1:L.map (·.1)=kvs.map (·.1):=(KV.keys R).symm;have k2:B.map (·.1)=oD.map (·.1):=(KV.keys m).symm;have l1:L.length=ks.length:=by have:=congrArg ww<|k1.trans O;simpa using this
     have l2:B.length=ls.length:=by have:=congrArg ww<|k2.trans P;simpa using this
     refine ZW hm pI dd pK y_ y_ (λj k x g=>?_) _ _ ⟨.bl false,H,I,W,q⟩;have gv:(L.map (·.2))[j]?=Z x:=by rw[f8,g];rfl
     have n:j<(L.map (·.2)).toArray.size:=by rw[b6];exact(ya gv).1
     obtain⟨v1,t1,g1,N,o,f⟩:=ra.at (O_ R) n;rw[Sq gv n]at f;obtain⟨C,S⟩:∃C,ks[j]?=Z C:=⟨_,yZ<|by have:=(ya g).1;lia⟩;have ek:k=dL C:=by
      have:=congrArg (λz=>z[j]?)<|k1.trans O;simp only[f8,g,S]at this;simpa using this
     subst ek;obtain⟨y,y1,y2⟩:=Pt.Gb.mp c.2 j C t1 S N;have T:=m.val<|dL C;rcases Val.UY P rb C with⟨w1,t2,q1,q2,r⟩|⟨q1,q2⟩
     .rw[q2]at y1;cases y1;rw[q1]at T;cases U:zt B (dL C)with
      |none=>rw[U]at T;exact T.elim|some u2=>
       rw[U]at T;have dl:=Pt.Bw<|yc N;exact⟨u2,W,F (by simp only[Pt.deep];lia) o r y2 f T⟩
     .rw[q2]at y1;cases y1
  |_=>simp[Pt.Gh]at c
 |_=>simp[Pt.top]at dx
open Tp (Ro)
structure Th(H:Hp)(w:Str)(v:Dc)(k:Str)(rest:List V):Prop where
 vd:w="put"∨w="change"∨w="ask"->rest=[v.val]/\v.At H/\v.ok/\v.size<=40
 pc:w="put"∨w="change"->v.size<=2
 tx:w="is"->rest=[.str k]
theorem Th.up{k:Str}(h:Th H w v k rest)(s:AF H H'):Th H' w v k rest:=⟨λe=>by obtain⟨a,b,c⟩:=h.vd e;exact⟨a,Dc.AS s b,c⟩,h.pc,h.tx⟩
theorem Th.of(h:Gw H w zs rest):∃v k,Th H w v k rest:=by
 by_cases a:w="put"∨w="change"
 .obtain⟨v,e,d,f,b,_⟩:=h.pc a;exact⟨v,w,⟨λ_=>⟨e,d,f,al b ac⟩,λ_=>b,λe=>by rw[e]at a;exact absurd a ac⟩⟩
 .by_cases c:w="ask"
  .obtain⟨v,e,d,f,b⟩:=h.ak c;exact⟨v,w,⟨λ_=>⟨e,d,f,b⟩,λe=>absurd e a,λe=>by rw[e]at c;exact absurd c ac⟩⟩
  .by_cases g:w="is"
   .obtain⟨x,e⟩:=h.is g;exact⟨.leaf .Al,x,⟨λe=>by rw[g]at e;exact absurd e ac,λe=>absurd e a,λ_=>e⟩⟩
   .exact⟨.leaf .Al,w,⟨λe=>by rcases e with e|e|e;exact absurd (.inl e) a;exact absurd (.inr e) a;exact absurd e c,λe=>absurd e a,λe=>absurd e g⟩⟩
structure R8(H:Hp)(r:V)(w:Str)(xs zs:List V)(p:Addr)(v:Dc)(k:Str):Prop where
 rx:Rx H r w xs zs p
 th:∃(a:Addr)(rest:List V),r=.ref a/\H a=Z (.tup (.str w::.ref p::rest))/\Th H w v k rest
 la:w="lacks"->∃u n,xs=u++[.str n]
theorem R8.up{H H':Hp}{r:V}{w:Str}{xs zs:List V}{p:Addr}{v:Dc}{k:Str}(h:R8 H r w xs zs p v k)(s:AF H H'):R8 H' r w xs zs p v k:=by
 obtain⟨b,⟨a,rest,e,c,d⟩,f⟩:=h;exact⟨b.up s,⟨a,rest,e,s _ _ c,d.up s⟩,f⟩
theorem Ry.r8{r:V}{p:Addr}(h:Ry H r w xs zs p):∃v k,R8 H r w xs zs p v k:=by
 obtain⟨a,rest,e,b,T⟩:=h.rx.th;obtain⟨v,k,th⟩:=Th.of T;exact⟨v,k,h.rx,⟨a,rest,e,b,th⟩,h.la⟩
theorem R8.ry{r:V}{p:Addr}{k:Str}(h:R8 H r w xs zs p v k):∃R,Dw v k w xs zs R/\QK xs zs R:=fb h.rx.rw.sx h.rx.rw.sz h.rx.rw.wd h.rx.rw.nx h.rx.rw.nz
def bj(H:Hp)(b:List V):Prop:=∀v∈b,∃(a:Addr)(u:List V)(n:Str),v=.ref a/\H a=Z (.tup<|u++[.str n])
theorem bj.up(h:bj H a)(s:AF H H'):bj H' a:=λv b=>by
 obtain⟨c,u,n,e,h⟩:=h v b;exact⟨c,u,n,e,s _ _ h⟩
theorem bj.last{sp:Addr}(h:bj H a)(s:AF H H')(c:V.ref sp∈a)(b:H' sp=Z (.tup xs)):∃u n,xs=u++[.str n]:=by
 obtain⟨d,u,n,e,h⟩:=h _ c;cases e;rw[s _ _ h]at b;exact⟨u,n,(HO.tup.inj<|yb b).symm⟩
def Mu:Sp:=λe H Q _=>∃(d:Dc)(r:V)(w:Str)(b c:List V)(p:Addr)(v:Dc)(k:Str)(R:Ro),e=[d.val,r]/\d.At H/\d.ok/\d.size<=28/\R8 H r w b c p v k/\Dw v k w b c R/\w∈(lqx:List Str)/\(HN d R d->∀a,AF H a->Q (.bl true) a)/\(¬R.HJ (kf d)->∀a,AF H a->Q (.bl false) a)
def Le:Sp:=λi H Q _=>∃(d:Dc)(r:V)(w:Str)(c f:List V)(p:Addr)(v:Dc)(k:Str)(R:Ro),i=[d.val,r]/\d.At H/\d.ok/\d.size<=28/\R8 H r w c f p v k/\Dw v k w c f R/\(QK c f R∨R.HJ (kf d))/\ (∀(a:Dc)(b:Hp),BY H b a->a.ok->(a.size<=d.size+d.size∨a.size<=d.size+2)->HN d R a->(w="take"->a.size<=d.size/\∀g h e,c=g++[h]->d.sub g=Z e->Dc.Eqv (d.Av g<|e.BZ h) a)->Q a.val b)/\(¬R.HJ (kf d)->∀b,AF H b->Q .Al b)
theorem Wc(o:List V)(H:Hp)(Q:VK)(E:XK)(h:Jg o H Q E):Le o H Q E:=by
 obtain⟨d,a,t,j,k,e,x,rfl,b,f,g,p,u,v,l,i,q⟩:=h;have w:Aa ([]:List V):=λz y=>nomatch y;have A:d.sub (j++[k])=Z x:=by rw[Dc.sub_snoc l];exact i
 have st:=Dc.Cv f A;have B:(j++[k]).length<=100:=by have:=st.2.1;exact al (al (al (gT _ _) this) g) ac
 have C:Rx H (.ref a) "take" (j++[k]) [] t:=Ip p u v B ac (λ_=>by simp) (Gw.no ac) w ac (λh=>absurd h ac);have r:R8 H (.ref a) "take" (j++[k]) [] t (.leaf .Al) "take":=⟨C,⟨a,[],W,p,⟨λe=>absurd e ac,λe=>absurd e ac,λe=>absurd e ac⟩⟩,λh=>absurd h ac⟩;obtain⟨R,s,to⟩:=r.ry;have m:R.HJ (kf d):=(Rq s W (Dc.Br d b) l i).1;refine⟨d,_,_,_,_,t,_,_,R,W,b,f,al g ac,r,s,.inl to,λD G F n L M I=>?_,λc=>absurd m c⟩;obtain⟨z,J⟩:=I W;exact q D G F.same F.at_ n z<|J _ _ _ W l
structure Tl(H:Hp)(w:Str)(Kt rest:List V)(H':Hp):Prop where
 vd:w="put"∨w="change"∨w="ask"->∃v v':Dc,Kt=[v.val]/\v.At H/\v.ok/\v.size<=40/\rest=[v'.val]/\Dc.CZ v v'/\BY H H' v'
 tx:w="is"->rest=Kt
def VD:Sp:=λn H Q _=>∃(r:V)(w:Str)(g h:List V)(p:Addr)(j:V)(i:Str)(c d:List V)(o:Addr)(first:Bool)(k l:List V),n=[r,j,.bl first]/\Rx H r w g h p/\Rw H j i c d o/\g.length<=40/\h.length<=40/\c.length<=40/\d.length<=40/\(w="take"∨w="has"∨w="lacks"->∃a,r=.ref a/\H a=Z (.tup [.str w,.ref p]))/\DM w g h i c d=false/\Fi w g h i c d first=Z (k,l)/\
 ∀(m a:Addr)(b rest:List V)(e:Addr)(f:Hp),AF H f->r=.ref m->H m=Z (.tup (.str w::.ref p::b))->Rx f (.ref a) w k l e->f a=Z (.tup (.str w::.ref e::rest))->rest.length=b.length->Tl H w b rest f->Q (.ref a) f
theorem Tl.no(h:w="take"∨w="has"∨w="lacks"∨w="copy"∨w="move"):Tl H w a rest H':=by
 refine⟨λe=>?_,λe=>?_⟩
 .rcases h with rfl|rfl|rfl|rfl|rfl<;>exact absurd e ac
 .rcases h with rfl|rfl|rfl|rfl|rfl<;>exact absurd e ac
theorem ZY [EH K] {u:Dc} (c:v.At H) (d:u.At H) (ov:v.ok) (a:u.ok) (g:v.size<=40) (h:u.size<=40) (e:v.val=u.val):kf v=kf u:=by
 obtain⟨i,_⟩:=Dc.Il v c ov (g8 g ac);obtain⟨j,_⟩:=Dc.Il u d a (g8 h ac);have f:=Dc.Br v c;have b:=Dc.Br u d;have k:=Val.one v.tr (Dc.Jb v c) (by rw[e];exact Dc.Jb u d) i j;refine Mm f b<|(Rn f b ov a).mp ?_;rw[k];exact(Rn b b a a).mpr<|Dc.Eqv.refl u
theorem Dw.to2{b:Dc}{k k2:Str}{R:Ro}(h:Dw v k w xs zs R)(a:w="put"∨w="change"∨w="ask"->kf v=kf b)(c:w="is"->k=k2):Dw b k2 w xs zs R:=by
 cases h with
 |put h=>rw[a (.inl W)];exact .put h|copy h=>exact .copy h|take h=>exact .take h|move d e=>exact .move d e|chg=>rw[a (.inr (.inl W))];exact .chg|ask=>rw[a (.inr (.inr W))];exact .ask|has=>exact .has|EK h=>exact .EK h|is=>rw[c W];exact .is
theorem bo{d:Str}{b c ws:List V}(f:∃u n,xs=u++[.str n])(h:Fi "lacks" xs zs d a b first=Z (c,ws)):∃u n,c=u++[.str n]:=by
 obtain⟨u,n,rfl⟩:=f;unfold Fi at h;rw[if_neg ac,if_pos W]at h;obtain⟨g,_,e⟩:=kw.mp h;refine⟨g,n,?_⟩;have:(u++[V.str n]).getLastD .Al=.str n:=by simp[uW]
 rw[this]at e;exact(Prod.mk.inj e).1.symm
structure jj{K:yd}[EH K](H:Hp)(u t:V):Prop where
 ex:∃(a0 a p p2:Addr)(w:Str)(Kt rest:List V),u=.ref a0/\t=.ref a/\H a0=Z (.tup (.str w::.ref p::Kt))/\H a=Z (.tup (.str w::.ref p2::rest))/\rest.length=Kt.length/\Kt.length<=1/\(w∈(lqE:List Str)->∃(x y:V)(s t:Pt),Kt=[x]/\rest=[y]/\Val H y t/\Val H x s/\t.top=true/\Pt.Gh t s=true/\t.deep<=60)
theorem ZZ [EH K] {P:Str} {D E o ws:List V} {p A q a:Addr} {k:Str} {b:List V} {R:Ro} (y:Ry H (.ref q) w xs zs p) (r8:R8 H (.ref q) w xs zs p v k) (s:AF H H') (F:H q=Z (.tup (.str w::.ref p::b))) (M:Rx H' (.ref a) w o ws A) (G:H' a=Z (.tup (.str w::.ref A::rest))) (Q:rest.length=b.length) (B:Tl H w b rest H') (ho:Fi w xs zs P D E first=Z (o,ws)) (S:Dw v k w o ws R):(∃r k2,R8 H' (.ref a) w o ws A r k2/\Dw r k2 w o ws R)/\jj H' (.ref q) (.ref a):=by
 obtain⟨N,f,t,g,th⟩:=r8.th;cases t;rw[F]at g;cases g;obtain⟨N,f,t,g,T⟩:=M.th;cases t;rw[G]at g;cases g;obtain⟨r,k2,i⟩:=Th.of T;refine⟨⟨r,k2,⟨M,⟨a,rest,W,G,i⟩,λe=>by subst e;exact bo (r8.la W) ho⟩,S.to2 (λe=>?_) λe=>?_⟩,?_⟩
 .obtain⟨d,c,I,u,x,z,J,j,m⟩:=B.vd e;obtain⟨n,U,X,Y⟩:=th.vd e;obtain⟨l,c1,c2,c3⟩:=i.vd e;have ζ:v.val=d.val:=(b8<|n.symm.trans I).1;have x2:r.val=c.val:=(b8<|l.symm.trans J).1;have C:=Dc.Cd d c j;rw[ZY U u X x Y z ζ,ZY c1 m.at_ c2 (Dc.Eo d c j x) c3 (al (bm C.symm) z) x2];exact Mm (Dc.Br d u) (Dc.Br c m.at_)<|Dc.EE d c j
 .have n:=th.tx e;have l:=i.tx e;rw[B.tx e,n]at l;exact(V.str.inj (b8 l).1)
 .obtain⟨N,f,t,g,l1,_⟩:=y.ho;cases t;rw[F]at g;cases g;refine⟨q,a,p,A,w,b,rest,W,W,s _ _ F,G,Q,l1,λhw=>?_⟩;simp only[ce,t7,or_false]at hw;have L:(w="put"∨w="change"∨w="ask")∨w="is":=by
   rcases hw with h|h|h|h
   .exact .inl<|.inl h
   .exact .inl<|.inr<|.inl h
   .exact .inl<|.inr<|.inr h
   .exact .inr h
  rcases L with e|e
  .obtain⟨d,c,I,u,x,z,J,j,m⟩:=B.vd e;have C:=Dc.Cd d c j;have O:=Dc.Eo d c j x;obtain⟨d1,d2⟩:=Dc.Il c m.at_ O (g8 (al (bm C.symm) z) ac);have w0:=Dc.Br d u;have w1:=Dc.Br c m.at_;exact⟨_,_,d.tr,c.tr,I,J,Dc.Jb c m.at_,Dc.Jb d<|Dc.AS s u,Pt.VC d1,(Rn w1 w0 O x).mpr (Dc.EE d c j).symm,al d2<|al (al (bm C.symm) z) ac⟩
  .have n:=th.tx e;have l:=B.tx e;rw[n]at l;exact⟨_,_,.str k,.str k,n,l,.str k,.str k,W,by show(k==k)=true;simp,show 1<=60 by decide⟩
structure g_(H:Hp)(r:V)(w:Str)(xs zs:List V)(R:Ro):Prop where
 ex:∃(p:Addr)(v:Dc)(k:Str),Ry H r w xs zs p/\R8 H r w xs zs p v k/\Dw v k w xs zs R/\QK xs zs R
theorem g_.up{H H':Hp}{r:V}{w:Str}{xs zs:List V}{R:Ro}(h:g_ H r w xs zs R)(s:AF H H'):g_ H' r w xs zs R:=by
 obtain⟨p,v,k,a,b,c⟩:=h;exact⟨p,v,k,a.up s,b.up s,c⟩
theorem Ry.rz{r:V}{p:Addr}(h:Ry H r w xs zs p):∃R,g_ H r w xs zs R:=by
 obtain⟨v,k,r8⟩:=h.r8;obtain⟨R,a,to⟩:=r8.ry;exact⟨R,p,v,k,h,r8,a,to⟩
def VE:Sp:=λi H Q _=>∃(d:Dc)(r:V)(w:Str)(c e:List V)(R:Ro)(f:V)(g:Str)(a b:List V)(S:Ro)(first:Bool),i=[d.val,r,f,.bl first]/\d.At H/\d.ok/\d.size<=14/\g_ H r w c e R/\g_ H f g a b S/\DM w c e g a b=false/\R.HJ (kf d)/\S.HJ (kf d)/\∀h,AF H h->Q (.bl true) h
open Tp (Ro)
theorem jj.up{K:yd}[EH K]{H H':Hp}{u t:V}(h:jj H u t)(s:AF H H'):jj H' u t:=by
 obtain⟨c,a,p,d,w,b,rest,e,f,g,i,j,l1,k⟩:=h;exact⟨c,a,p,d,w,b,rest,e,f,s _ _ g,s _ _ i,j,l1,λhw=>by
  obtain⟨x,y,l,m,n,o,q,v,r⟩:=k hw;exact⟨x,y,l,m,n,o,q.up s,v.up s,r⟩⟩
theorem Ry.Vb{r:V}{p:Addr}(h:Ry H r w xs zs p):w="take"∨w="has"∨w="lacks"->∃a,r=.ref a/\H a=Z (.tup [.str w,.ref p]):=λhw=>by
 obtain⟨a,rest,e,b,_,c⟩:=h.ho;rw[c hw]at b;exact⟨a,e,b⟩
theorem sF{i:Nat}{s:Str}{A B:TS}{D:Ends}(k:B D σ H)(h:σ[i]?=Z (Z (V.str w)):=by rfl)(d:decide (V.str w=V.str s)=false:=by decide):Kx (XG (Zu nr (Oa i) (tC (.str s)))) A B D σ H:=⟨_,h,W,_,W,Aj d k⟩
theorem bp{p:Addr}{o:HO}(h:H p=ν):∃H',upd H p o=H'/\AF H H'/\H' p=Z o:=⟨_,W,AF.new h,AD⟩
theorem CD.mm{k:Nat}{A:i8}(r:CD k A)(h:j<=k:=by first|decide|lia):CD j A:=r.mono h
theorem Bh(K:yd){j:Int}(i:Nat){x:Str}{y:_}{b c:Pos}(d:X.N[i]?=Z x:=by rfl)(f:lU X.env.scope x:=by first|exact I0 rfl|exact D9 (I0 rfl)|exact D9 (D9 rfl))(g:(x==("__debug__":Str))=false:=by decide)(a:(x==("__classdict__":Str))=false:=by decide)(e:X.K=K:=by rfl):PE X (.Subscript (.Name x b) (.Constant (.int j) y c) pos) (Zu (Dz K) (Oa i) (tC (.int j))):=by
 subst e;exact CS Bj (pv i d f g a) AG λ_ _=>rfl
theorem Ad(i:Nat){x:Str}{e:r6}{a:TE}{pos':Pos}(b:X.N.Nodup)(c:PE X e a)(d:X.N[i]?=Z x:=by rfl)(f:Loc X.env.scope x:=by exact I0 W)(g:O5 e (Z (.Name x pos')) pos.line X.env=pure false:=by rfl)(h:X.fn x=true∨X.env.scope.names.lookup x=Z .local:=by first|exact .inl rfl|exact .inr rfl|assumption):
  PS X (.Assign [.Name x pos'] e pos) (dV a (Bv i)):=Ju b d f c g h
theorem DO{x y z:V}:[x,y,z].length<=sizeLine:=Ao<|show 3<=1000 by decide
theorem GA(i:Nat){x:Str}(a:X.N.Nodup)(b:X.N[i]?=Z x:=by rfl)(c:Loc X.env.scope x:=by exact I0 W)(d:X.fn x=true∨X.env.scope.names.lookup x=Z .local:=by first|exact .inl rfl|exact .inr rfl|assumption):PG X (.Name x pos) (Bv i):=Gi a b c d
section
variable {w:q3} 
theorem Vi.oq{x qual:Str}{st:Stmt}{f:Addr}{g:m9}{d:List Str}{k:Nat}(F:Vi K x qual st f g)(N:List Str)(a:∀{b:bd} {A:i8} {outer:List Env} {s:d6} {c:List V} {E:XK} (H:Hp) (e:Ends),(∀{σ H},e.rt .Al H->e.nx σ H)->N.Nodup->(A.deeper (Op qual (CK st) s.heap.objs.size f b)).units+1<cLine->CD k (A.deeper (Op qual (CK st) s.heap.objs.size f b))->sp c H e.rt E->
   ∃t,OZ (SR DC P w K mg base N qual (CK st) f b A outer s H E).iA (Ek st) t/\t e (start N c) H)(S:LK N d (CK st):=by exact{})(len:∀c H Q E,sp c H Q E->c.length=d.length:=by intro _ _ _ _ h;first|(obtain⟨⟩:=h;subst_vars;rfl)|(obtain⟨_,⟨⟩⟩:=h;subst_vars;rfl)|(obtain⟨_,_,_,_,_,_,rfl,_⟩:=h;rfl)|(repeat obtain⟨_,h⟩:=h);subst_vars;rfl):BA P w K mg base DC (k+1) f g d sp:=F.ok S len λ_ _ _ _ H _ e _ j i h=>a H e j S.nd (ip i) i h
end
theorem Au{k:Nat}{g:List Str}{x:Str}{p:Pos}{e:r6}{a:List r6}{t:TA}(D:Df X.prog X.w X.K X.mg X.base x g k sp)(h:CD j X.A)(i:PA X (e::a) t)(l:Gl X x:=by rfl)(c:(x==("__debug__":Str))=false:=by decide)(n:m7 (e::a) X.env=(false,y9 e X.env)::m7 a X.env:=by rfl)(d:(FM pos (m7 a X.env)).any (·.1)=false:=by rfl)(o:k<=j:=by first|decide|lia):PE X (.Call (.Name x p) (e::a) [] pos) (XI sp [] E0 t):=by
 obtain⟨f,q,k,b,m,G⟩:=D.ex;exact aG G (h.mono o) l m k b .nil il i c n d
theorem AY{e:r6}{a:TE}(h:PE X e a)(b:m7 [e] X.env=(false,y9 e X.env)::m7 [] X.env:=by rfl):PA X [e] (IK a SO):=AA h Bp b
theorem Mw(K:yd){a b:r6}{c d:TE}(f:PE X a c)(g:PE X b d)(h:Tz b:=by exact λ_ _=>rfl)(e:X.K=K:=by rfl):PE X (.Subscript a b pos) (Zu (iV K) c d):=by
 subst e;exact CS aK f g h
theorem hB{o i:r6}{a ty:TE}(b:X.A.units+1<cLine)(c:PE X o a)(d:PE X i ty)(e:eA i:=by exact λ_ _=>rfl):PE X (.Subscript o i pos) (cZ a ty):=aQ b c d e
theorem cmp{x:Str}{b:Pos}{iter a:r6}{c:TI}{d:TE}{scope:Scope}(fv:List Str)(fs:List Nat)(e:PI X (.Name x b) iter c)(f:∀C g h i,PE (FH X (x::fv) scope C g h i) a d)(j:X.calm=true:=by rfl)(ok:EW X scope x fv fs:=by exact .of (by rfl))(k:∀x,yh iter X.env x=pure x:=by intro _;rfl):PE X (.ListComp a [⟨.Name x b,iter,[],0⟩] scope pos) (Qe c Vk d fs):=UH j ok e (λ_ _ _ _=>UG) f k
theorem II{r:List V->Hp->VK->Prop}{e:r6}{a:TE}{p q:Pos}{y:Str}{U:String}(c:Dx X (.builtin "isinstance") r)(T:Txt X.mg)(d:PE X e a)(f:X.mg y=ν)(g:q7 y=Z (.type U))(h:Gl X "isinstance":=by rfl)(i:Gl X y:=by rfl)(j:y≠"__name__":=by decide)(k:(y==("__debug__":Str))=false:=by decide)(b:m7 [e,.Name y q] X.env=(false,y9 e X.env)::m7 [.Name y q] X.env:=by rfl):PE X (.Call (.Name "isinstance" p) [e,.Name y q] [] pos) (lg r (IK a (IK (tC (.ty U)) SO))):=Ct c h T.isinstance JK (AA d (AA (Oc i f g W j k) Bp) b) ac ac b
theorem Bz{j:Int}(h:0<j:=by decide):0<j:=h
theorem FI{A B:Prop}(h:A:=by decide)(a:B:=by decide):A/\B:=⟨h,a⟩
theorem Za{a iter:r6}{body:List Stmt}{b:TI}{g:TG}{c:TS}(d:PI X a iter b)(e:PG X a g)(f:OZ X body c)(h:abI (j1 X.prog X.w) X.A X.env X.xe:=by exact PassesOwn.never)(i:X.calm=true:=by rfl)(j:∀x,yh iter X.env x=pure x:=by intro _;rfl):PS X (.For a iter body [] pos) (iK b g c):=dX h i d e f j
inductive FA(K:yd)(x:Str)(st:Stmt):Prop|mk(f:Addr)(b:m9)(F:Vi K x x st f b)(a:zD K q8 x=Z (Z (.ref f)))
theorem fa{x:Str}{st:Stmt}{f:Addr}{e:bd}{g h:Option Addr}{d:Array (Option bd)}{kV doc i b ct:bd}(a:zD K q8 x=Z (Z (.ref f)))(l:K.lookup f=Z ⟨e,g,.func (y6 x x (Ft st) (Ek st) (CK st) .none kV doc i h b ct),d⟩)(c:E1 K b x=true)(k:zY K (.ref f)=true):FA K x st:=⟨_,_,Xc l c k,a⟩
end L2
namespace Ku
open PySem L2
def top(i:Nat):Stmt:=PySem.Challenge.pw_patchbough_k84_both_ways_round.main.body.getD i<|.Pass ⟨0,0,0,0⟩
abbrev Fq(K:yd)(x:Str)(i:Nat)(f:Addr)(d:m9):Prop:=Vi K x x (top i) f d
abbrev Fb(K:yd)(x:Str)(i:Nat):Prop:=FA K x<|top i
abbrev Ta:Stmt:=top 71
inductive jk{a:Type}(c d:a->Prop):Prop|mk(b:a)(e:c b)(f:d b)
inductive jl{c d:Type}(e f g h i j:c->d->Prop):Prop|mk(a:c)(b:d)(k:e a b)(l:f a b)(m:g a b)(n:h a b)(o:i a b)(p:j a b)
inductive jm{d e f:Type}(g h i j k l m n:d->e->f->Prop):Prop|mk(a:d)(b:e)(c:f)(o:g a b c)(p:h a b c)(q:i a b c)(r:j a b c)(s:k a b c)(t:l a b c)(u:m a b c)(v:n a b c)
inductive jn{a b c d:Type}(i j k l:a->b->c->d->Prop):Prop|mk(e:a)(f:b)(g:c)(h:d)(m:i e f g h)(n:j e f g h)(o:k e f g h)(p:l e f g h)
end Ku
namespace Ku
open PySem L2
variable{f:Addr}{fd c e a x m L G j d R:m9}
section
variable{P:m8} {w:q3} {K:yd} [EH K] {mg:Str->Option bd} {base:Heap}
theorem Tb{l:m9}(F:Fq K "steps_of" 1 f l)(T:Txt mg):BA P w K mg base DC 1 f l lqH UQ:=by
 refine F.oq lqH λH _ _ _ _ i h=>?_;obtain⟨d,rfl,b,e,g,q⟩:=h;refine⟨_,(AB (AU (Ag<|II Af T (pv 0) T.list DH) (AE<|AI<|Cz (NC W) W T.list DH<|AY<|X_ W T.range<|AY<|EG K T<|pv 0) AK)<|AB (AU (Ag<|II Af T (pv 0) T.dict EC) (AE<|AI<|Ct (JJ W) W T.sorted Qp<|AY<|pv 0) AK)<|AE<|AI<|BC Bp),?_⟩;cases d with
 |leaf v=>
  exact⟨_,W,_,"list",Dc.Kc<|.leaf v,W,W,Dc.Em b,_,W,Aj (by cases v<;>rfl) ⟨_,W,_,"dict",Dc.Kc<|.leaf v,W,W,Dc.Em b,_,W,Aj (by cases v<;>rfl) ⟨gU _,λp c=>q p [] _ (AF.new c) c AD W⟩⟩⟩
 |row a xs=>
  refine⟨_,W,_,"list",_,W,W,Dc.Em b,_,W,Ay W ?_⟩;simp only[Dc.At,Dc.size]at b g;have:=Dc.GD xs;refine⟨_,W,a,_,W,.inl<|.inl b.1,_,W,λr i=>⟨r,xs.length,W,by rw[AD,be],al (al this<|al (fr _ _) g) ac,λp c=>?_⟩⟩;exact q p _ _ ((AF.new i).trans<|AF.new c) ((AF.new i).free c) AD W
 |tab a ks xs=>
  refine⟨_,W,_,"list",_,W,W,Dc.Em b,_,W,Aj W ⟨_,W,_,"dict",_,W,W,Dc.Em b,_,W,Ay W ?_⟩⟩;simp only[Dc.At,Dc.slim]at b e;have m:=Dc.EB (ks:=ks) (xs:=xs) b.2.1;have n:(Dc.kvs ks xs).length=ks.length:=by
   have:=congrArg ww m;simpa using this
  exact⟨_,W,a,_,ks,W,b.1,m,by rw[n,b.2.1];exact e.1,λp j o t s c perm k=>q p _ o s t c ⟨j,W,perm,k⟩⟩
theorem QB(F:Fq K "outer_copy" 2 f c)(T:Txt mg):BA P w K mg base DC 1 f c lqH US:=by
 refine F.oq lqH λH _ _ _ _ g h=>?_;obtain⟨d,rfl,b,q⟩:=h;refine⟨_,(AB (AU (Ag<|II Af T (pv 0) T.list DH) (AE<|AI<|Cz JA W T.list DH<|AY<|pv 0) AK)<|AB (AU (Ag<|II Af T (pv 0) T.dict EC) (AE<|AI<|Cz MP W T.dict EC<|AY<|pv 0) AK)<|AE<|AI<|pv 0),?_⟩;cases d with
 |leaf v=>
  exact⟨_,W,_,"list",Dc.Kc<|.leaf v,W,W,Dc.Em b,_,W,Aj (by cases v<;>rfl) ⟨_,W,_,"dict",Dc.Kc<|.leaf v,W,W,Dc.Em b,_,W,Aj (by cases v<;>rfl) ⟨_,W,q⟩⟩⟩
 |row a e=>
  refine⟨_,W,_,"list",_,W,W,Dc.Em b,_,W,Ay W ?_⟩;simp only[Dc.At]at b;exact⟨_,W,a,_,W,.inl<|.inl b.1,q⟩
 |tab a i e=>
  refine⟨_,W,_,"list",_,W,W,Dc.Em b,_,W,Aj W ⟨_,W,_,"dict",_,W,W,Dc.Em b,_,W,Ay W ?_⟩⟩;simp only[Dc.At]at b;exact⟨_,W,a,_,W,b.1,q⟩
theorem Wd(F:Fq K "copy_of" 3 f fd)(T:Txt mg)(Zb:Df P w K mg base "steps_of" lqH 1 UQ)(r:Df P w K mg base "outer_copy" lqH 1 US):BA P w K mg base DC 2 f fd lqH Qt:=by
 refine F.oq ["doc","told","waiting","part","steps","step"] λH _ _ NG QC hr h=>?_;obtain⟨d,rfl,Mx,pQ,hsz,q⟩:=h;refine⟨_,(AB (Ad 1 NG<|Au r hr<|AY<|pv 0)<|AB (Ad 2 NG<|BC<|AY<|pv 1)<|AB (QQ PassesOwn.never (XH (pv 2) λ_=>rfl)<|AB (Ad 3 NG<|SX v6 Fk Fa XT<|pv 2)<|AB (Ad 4 NG<|Au Zb hr<|AY<|pv 3)<|AE<|Za (D'<|pv 4) (GA 5 NG)<|AB (Xy (Lj (Au r hr<|AY<|MM (Mw K (pv 3)<|pv 5)<|hB QC (pv 3)<|pv 5)<|SI (pv 3) (pv 5) set_list)<|JC QC (pv 3) (pv 5) (Au r hr<|AY<|MM (Mw K (pv 3)<|pv 5)<|hB QC (pv 3)<|pv 5) W)<|AE<|CO<|cj K (pv 2)<|MM (Mw K (pv 3)<|pv 5)<|hB QC (pv 3)<|pv 5)<|AE<|AI<|pv 1),?_⟩;refine⟨_,W,d,W,Mx,KG.of (AF.refl H) Mx λtv D si oi fi=>⟨_,W,BG,λL hL=>?_⟩⟩;have sL:=AF.new (o:=.lst [tv]) hL;have nL:H L=none:=si.free hL;have r_:tv≠.ref L:=λz=>(Vy Mx oi z) hL;have C0:Fc H (upd D L<|.lst [tv]) L tv d [(tv,d)]:=Fc.start (si.trans sL) nL AD (oi.up λa e u h=>sL _ _ h) Mx pQ r_;dsimp only[Bv,QP];refine UP (λm M Hw=>jn (λ(ps:List (V×Dc))(o3 o4 s:Option V)=>M=[Z d.val,Z tv,Z<|.ref L,o3,o4,s]) (λ(ps:List (V×Dc))(o3 o4 s:Option V)=>Fc H Hw L tv d ps) (λ(ps:List (V×Dc))(o3 o4 s:Option V)=>Dc.Ab (ps.map (·.2))<=d.size) (λ(ps:List (V×Dc))(o3 o4 s:Option V)=>m=Dc.Ab (ps.map (·.2)))) (Dc.Ab [d]) ⟨[(tv,d)],ν,ν,ν,W,C0,by simp[Dc.Ab],W⟩ ?_ (λM H Q Q' h ⟨v,e,k,t,q⟩=>⟨v,e,k,t,h _ _ q⟩);rintro m M Hw _ go2 ⟨ps,o3,o4,s,rfl,C,hm,rfl⟩;refine⟨_,W,_,.inl ⟨_,Ax.of C.eL,W⟩,?_⟩;by_cases gg:ps=[]
 .subst gg;refine Ah ⟨_,W,?_⟩;obtain⟨e,ev,el,ef⟩:=C.done;rw[<-ev];exact q e Hw ef el
 obtain⟨B,p,rfl⟩:∃B p,ps=B++[p]:=⟨ps.dropLast,ps.getLast gg,(f6 gg).symm⟩;obtain⟨v,node⟩:=p;refine Ay z_ ?_;have hE:Dc.Ab ((B++[(v,node)]).map (·.2))=Dc.Ab (B.map (·.2))+node.size:=by rw[ca,Dc.BP];simp[Dc.Ab]
 have sA:=C.eL;refine⟨_,W,.inl ⟨W,_,Ax.of sA⟩,L,_,v,W,W,sA,z_,?_⟩;have dl:(O4 (·.1) (B++[(v,node)])).dropLast=B.map (·.1):=by rw[ca];simp
 rw[dl];obtain⟨nat,O⟩:=C.src (v,node) z_;have on:=C.out (v,node) z_;have s1:AF H (upd Hw L (.lst (B.map (·.1)))):=C.same.put nL;have lq:B.length<=Dc.Ab (B.map (·.2)):=by have:=Dc.GD (B.map (·.2));rw[be]at this;exact this
 cases node with
 |leaf v'=>
  obtain⟨rfl,lv⟩:=(show v=v'/\Dc.Lf v' from on);refine⟨_,W,.leaf v,W,lv,trivial,by simp[Dc.size],λp l H2 s2 np hp st=>?_⟩;cases(show l=[]from st);refine⟨_,W,p,W,⟨_,Ax.of hp⟩,FV (xs:=[]) (λi M D=>jk (λs=>M=[Z d.val,Z tv,Z<|.ref L,Z v,Z<|.ref p,s]) λs=>D=H2) ⟨_,W,W⟩ (λi M D _ ⟨_,_,e⟩=>by rw[e];exact Ax.of hp) (λi x M D _ go N=>by simp at N) ?_⟩;rintro M D ⟨s,rfl,rfl⟩;refine go2.n ⟨Dc.Ab (B.map (·.2)),by rw[hE];simp only[Dc.size];exact zV<|b5 _,B,_,_,_,W,C.leaf (λb o hb h=>s2 _ _<|by rw[AM hb];exact h)<|s2 _ _ AD,al (al (gT _ _)<|bm hE.symm) hm,W⟩
 |row b xs=>
  obtain⟨a,rfl,ea,na⟩:=(show∃a,v=.ref a/\Hw a=Z (.lst<|xs.map Dc.val)/\H a=ν from on);have aL:a≠L:=λz=>C.Vv (by rw[<-z];exact C_.mpr ⟨(.ref a,.row b xs),z_,W⟩);have R:upd Hw L (.lst (B.map (·.1))) a=Z (.lst<|xs.map Dc.val):=by rw[AM aL];exact ea
  have E:=nat;simp only[Dc.At,Dc.slim,Dc.size]at E O hE;have lx:=Dc.GD xs;refine⟨_,W,.row a xs,W,?_,by simp only[Dc.slim];exact O,by simp only[Dc.size];exact al (al (al (fr _ _)<|bm hE.symm) hm) hsz,λp l H2 s2 np hp st=>?_⟩
  .simp only[Dc.At];exact⟨.inl R,Dc.BD xs (λc _ o e=>s1 c o e) E.2⟩
  cases(show l=(pu xs.length).map λ(i:Nat)=>V.int (i:Int)from st);have pR:=s1.trans s2;have jo:=s2 _ _ R;have S:H2 L=Z (.lst (B.map (·.1))):=s2 _ _ AD;have ll:((pu xs.length).map λ(i:Nat)=>V.int (i:Int)).length=xs.length:=by simp
  have pa:p≠a:=u8 (Am R np);have pL:p≠L:=u8 (Am (AD (H:=Hw) (a:=L) (o:=.lst (B.map (·.1)))) np);refine⟨_,W,p,W,⟨_,Ax.of hp⟩,FV (xs:=(pu xs.length).map λ(i:Nat)=>V.int (i:Int)) (λi M D=>jl (λ(g:List V)(s:Option V)=>M=[Z d.val,Z tv,Z (.ref L),Z (.ref a),Z (.ref p),s]) (λ(g:List V)(s:Option V)=>g.length=i) (λ(g:List V)(s:Option V)=>i<=xs.length) (λ(g:List V)(s:Option V)=>D a=Z (.lst (g++(xs.drop i).map Dc.val))) (λ(g:List V)(s:Option V)=>D L=Z (.lst (B.map (·.1)++g))) (λ(g:List V)(s:Option V)=>YF H H2 D a L xs g))
   ⟨[],_,W,W,gU _,by rw[jo];rfl,by rw[S,ge],.start⟩ (λi M D _ ⟨g,s,_,_,_,_,_,PL⟩=>Ax.of (PL.kp p _ pa pL hp)) ?_ ?_⟩
  .refine λi sv M D _ go U h0=>jC λX hX=>?_;obtain⟨g,s,rfl,G,pS,A,I,PL⟩:=h0;have hi:i<xs.length:=by have:=(HL U);rw[ll]at this;exact this
   have pT:sv=.int (i:Int):=by rw[f8,List.getElem?_range hi]at U;exact(yb U).symm
   subst pT;obtain⟨x,N⟩:=HK xs i hi;have pU:=yc N;have jq:AF H D:=λb o e=>PL.kp b o (Am e na) (Am e nL)<|pR b o e;have dr:xs.drop i=x::xs.drop (i+1):=by rw[B1 hi];rw[yZ hi]at N;rw[yb N]
   have jr:x.At D:=Dc.AS jq<|Dc.Cn E.2 x pU;have C':QX (g++(xs.drop i).map Dc.val) (i:Int)=Z x.val:=Ba (by rw[dr,ii<|bm G,G,u5];rfl);subst hX;refine .inl<|.inl ⟨_,W,_,W,a,_,_,_,W,W,Ax.of A,C',x,W,jr,KG.of jq jr λc Hc sc pV fc=>?_⟩;have pW:=sc _ _ A;have hlen:(g++(xs.drop i).map Dc.val).length=xs.length:=by rw[d7,be,t8];lia
   refine⟨_,W,_,W,a,_,_,i,W,W,pW,by unfold QW;rw[if_pos<|j9 _,if_pos<|by rw[hlen];exact zF.mpr hi,i6],?_⟩;have pX:(g++(xs.drop i).map Dc.val).set i c=(g++[c])++(xs.drop<|i+1).map Dc.val:=by
    rw[dr,i2,List.set_append_right _ _<|bm G,G,u5,M0,j3];rfl
   rw[pX];have js:upd Hc a (.lst<|(g++[c])++(xs.drop<|i+1).map Dc.val) L=Z (.lst (B.map (·.1)++g)):=by rw[AM<|u8 aL];exact sc _ _ I
   refine⟨_,W,.inl ⟨W,_,Ax.of js⟩,.inl ⟨_,W,_,W,a,_,_,c,W,W,Ax.of AD,Ba<|by rw[i4<|by rw[d7,G];simp,ii<|bm G,G,u5];rfl,?_⟩⟩;refine⟨L,_,_,W,W,js,As<|by simp only[d7,be];lia,go.n ⟨g++[c],_,W,by simp[G],hi,by rw[AM aL];exact AD,by rw[AD,j3],PL.next G N sc pV fc (by rw[A];exact λz=>nomatch z) (by rw[I];exact λz=>nomatch z) (by rw[jo];exact λz=>nomatch z)<|by rw[S];exact λz=>nomatch z⟩⟩
  .rintro M D ⟨g,s,rfl,G,pS,A,I,PL⟩;rw[ll]at G A;rw[aaB,yq,ge]at A;obtain⟨C2,ZJ⟩:=YF.fin C PL G (λb o hb h=>s2 _ _ (by rw[AM hb];exact h)) (by rw[S];exact λz=>nomatch z) I (λx N=>⟨Dc.Cn E.2 _ N,Dc.Ea O _ N⟩) A (λ_ _ z=>nomatch z) (λec H' dv dk at' pY=>⟨.row a ec,W,by simp only[Dc.CZ];exact dk,by
     simp only[Dc.At];refine⟨.inl ?_,at'⟩;rw[pY,dv],by simp only[Dc.AZ];exact .refl _⟩)
   exact go2.n ⟨Dc.Ab ((B++g.zip xs).map (·.2)),y_,B++g.zip xs,_,_,_,W,C2,y_,W⟩
 |tab b ks xs=>
  obtain⟨a,rfl,ea,na⟩:=(show∃a,v=.ref a/\Hw a=Z (.dK<|Dc.kvs ks xs)/\H a=ν from on);have aL:a≠L:=λz=>C.Vv (by rw[<-z];exact C_.mpr ⟨(.ref a,.tab b ks xs),z_,W⟩);have R:upd Hw L (.lst (B.map (·.1))) a=Z (.dK<|Dc.kvs ks xs):=by rw[AM aL];exact ea
  have E:=nat;simp only[Dc.At,Dc.slim,Dc.size]at E O hE;obtain⟨_,hF,Y,fw⟩:=E;have lx:=Dc.GD xs;refine⟨_,W,.tab a ks xs,W,?_,by simp only[Dc.slim];exact O,by simp only[Dc.size];exact al (al (al (fr _ _)<|bm hE.symm) hm) hsz,λp l H2 s2 np hp st=>?_⟩
  .simp only[Dc.At];exact⟨.inl R,hF,Y,Dc.BD xs (λc _ o e=>s1 c o e) fw⟩
  obtain⟨ss,rfl,perm,_⟩:=(show∃ss:List Str,l=ss.map V.str/\ss.Perm ks/\ab5 ss=true from st);have snd:ss.Nodup:=perm.nodup_iff.mpr Y;have sl:=perm.length_eq;obtain⟨ys,yp,yl,sC⟩:=reorder (ks:=ss) (ss:=ks) (ec:=xs) perm.symm Y hF.symm;have pR:=s1.trans s2;have jo:=s2 _ _ R;have S:H2 L=Z (.lst (B.map (·.1))):=s2 _ _ AD;have ll:(ss.map V.str).length=ss.length:=be ..;have pa:p≠a:=u8 (Am R np);have pL:p≠L:=u8 (Am (AD (H:=Hw) (a:=L) (o:=.lst (B.map (·.1)))) np);have pos:∀(j:Nat) k,ks[j]?=Z k->∃t,ss[t]?=Z k:=λj k h=>S1.mp (perm.mem_iff.mpr (yc h));have pos':∀(t:Nat) k,ss[t]?=Z k->∃j,ks[j]?=Z k:=λt k h=>S1.mp (perm.mem_iff.mp (yc h));refine⟨_,W,p,W,⟨_,Ax.of hp⟩,FV (xs:=ss.map V.str) (λi M D=>jm (λ(g J:List V)(s:Option V)=>M=[Z d.val,Z tv,Z (.ref L),Z (.ref a),Z (.ref p),s]) (λ(g J:List V)(s:Option V)=>g.length=i) (λ(g J:List V)(s:Option V)=>i<=ss.length) (λ(g J:List V)(s:Option V)=>ks.length=J.length) (λ(g J:List V)(s:Option V)=>D a=Z (.dK (Eb ks J))) (λ(g J:List V)(s:Option V)=>D L=Z (.lst (B.map (·.1)++g))) (λ(g J:List V)(s:Option V)=>(∀(j t:Nat) k,ks[j]?=Z k->ss[t]?=Z k->J[j]?=if t<i then g[t]? else(ys[t]?).map Dc.val)) (λ(g J:List V)(s:Option V)=>YF H H2 D a L ys g))
   ⟨[],xs.map Dc.val,_,W,W,gU _,by rw[be];exact hF,jo,by rw[S,ge],λj t k ζ h2=>by rw[if_neg (zL _),sC t j k h2 ζ,f8],.start⟩
   (λi M D _ ⟨g,J,s,_,_,_,_,_,_,_,PL⟩=>Ax.of (PL.kp p _ pa pL hp)) ?_ ?_⟩
  .refine λi sv M D _ go U h0=>jC λX hX=>?_;obtain⟨g,J,s,rfl,G,pS,lv,A,I,Ww,PL⟩:=h0;have hi:i<ss.length:=by have:=(HL U);rw[ll]at this;exact this
   obtain⟨k,hk⟩:=HK ss i hi;have pT:sv=.str k:=by rw[f8,hk]at U;exact(yb U).symm
   subst pT;obtain⟨j,hj⟩:=pos' i k hk;obtain⟨x,N⟩:=HK ys i (by rw[yl];exact hi);have pU:x∈xs:=yp.mem_iff.mp<|yc N;have jq:AF H D:=λb o e=>PL.kp b o (Am e na) (Am e nL)<|pR b o e;have jr:x.At D:=Dc.AS jq<|Dc.Cn fw x pU;have sE:j<J.length:=by rw[<-lv];exact(HL hj)
   have vj:J[j]?=Z x.val:=by rw[Ww j i k hj hk,if_neg<|rc _,N];rfl
   have dg:∀{Hx:Hp}{ws:List V}{y:V},Hx a=Z (.dK<|Eb ks ws)->ks.length=ws.length->ws[j]?=Z y->Ls Hx a (.str k) (Z y):=λζ h2 h3=>.inl ⟨_,dL k,.inl ζ,W,by rw[MS h2 Y hj,h3]⟩;subst hX;refine .inr<|.inr ⟨_,W,_,W,a,x.val,W,dg A lv vj,x,W,jr,KG.of jq jr λc Hc sc pV fc=>?_⟩;have pW:=sc _ _ A;refine⟨_,W,_,W,a,_,W,IS.k (k:=dL k) pW<|As<|by rw[Qu lv];exact al (al (bm hF)<|jp O.1) ac,?_⟩;rw[MT lv Y hj c];have fy:ks.length=(J.set j c).length:=by rw[wT];exact lv
   have js:upd Hc a (.dK<|Eb ks<|J.set j c) L=Z (.lst (B.map (·.1)++g)):=by rw[AM<|u8 aL];exact sc _ _ I
   refine⟨_,W,.inl ⟨W,_,Ax.of js⟩,.inr ⟨_,W,_,W,a,c,W,dg AD fy<|by rw[nw sE],?_⟩⟩;refine⟨L,_,_,W,W,js,As<|by simp only[d7,be];lia,go.n ⟨g++[c],J.set j c,_,W,by simp[G],hi,fy,by rw[AM aL];exact AD,by rw[AD,j3],λj' t' k' ζ h2=>?_,PL.next G N sc pV fc (by rw[A];exact λz=>nomatch z) (by rw[I];exact λz=>nomatch z) (by rw[jo];exact λz=>nomatch z)<|by rw[S];exact λz=>nomatch z⟩⟩
   .by_cases pZ:j'=j
    .subst pZ;rw[hj]at ζ;cases ζ;have et:t'=i:=(N6 (by exact(HL h2)) snd).mp (by rw[h2,hk]);subst et;rw[nw sE,if_pos<|A9 _,ii<|bm G,G,u5];rfl
    .have vi:k'≠k:=λz=>pZ ((N6 (by exact(HL ζ)) Y).mp<|by rw[ζ,hj,z]);have r_:t'≠i:=λz=>vi (by rw[z,hk]at h2;exact(yb h2).symm);rw[r9<|u8 pZ,Ww j' t' k' ζ h2];by_cases mI:t'<i
     .rw[if_pos mI,if_pos<|zV<|jp mI,i4<|bn mI<|bm G.symm]
     .rw[if_neg mI,if_neg y_]
  .rintro M D ⟨g,J,s,rfl,G,pS,lv,A,I,Ww,PL⟩;rw[ll]at G Ww;obtain⟨C2,ZJ⟩:=YF.fin C PL (G.trans yl.symm) (λb o hb h=>s2 _ _ (by rw[AM hb];exact h)) (by rw[S];exact λz=>nomatch z) I (λx N=>⟨Dc.Cn fw _ (yp.mem_iff.mp N),Dc.Ea O.2 _ (yp.mem_iff.mp N)⟩) A (λ_ _ z=>nomatch z) (λec H' dv dk at' pY=>by
     have el:ec.length=ss.length:=by have:=congrArg ww dv;rw[be]at this;exact this.trans G
     obtain⟨es,ep,pd,sH⟩:=reorder perm snd el;have ev:es.map Dc.val=J:=by
      refine N7 λj=>?_;cases hk:ks[j]? with
      |none=>
       have ζ:=rS.mp hk;rw[rS.mpr<|by rw[be];exact al (bm pd) ζ,rS.mpr<|al (bm lv.symm) ζ]
      |some k=>
       obtain⟨t,ht⟩:=pos j k hk;have tl:=HL ht;rw[f8,sH j t k hk ht,Ww j t k hk ht,if_pos tl,<-dv,f8]
     refine⟨.tab a ks es,W,?_,?_,?_⟩
     .simp only[Dc.CZ];refine⟨trivial,Qv (hF.symm.trans pd.symm) λj x e ζ h2=>?_⟩;obtain⟨k,hk⟩:=HK ks j (by rw[hF];exact(HL ζ));obtain⟨t,ht⟩:=pos j k hk;have e1:=sC t j k ht hk;rw[ζ]at e1;obtain⟨e',g1,g2⟩:=Dc.Nm dk t x e1;rw[sH j t k hk ht,g1]at h2;cases h2;exact g2
     .simp only[Dc.At];exact⟨.inl<|by rw[pY,DZ,ev],pd.symm,Y,YD ep at'⟩
     .simp only[Dc.AZ];exact(Ke ep).cons _)
   rw[Dc.Sk yp]at ZJ;exact go2.n ⟨Dc.Ab ((B++g.zip ys).map (·.2)),y_,B++g.zip ys,_,_,_,W,C2,y_,W⟩
def Js:Sp:=λf H Q _=>∃(a b:Addr)(c d:List V),f=[.ref a,.ref b]/\H a=Z (.tup c)/\H b=Z (.tup d)/\(∀z∈c,Cj z=true)/\(∀z∈d,Cj z=true)/\∀e,AF H e->Q (.bl<|BV (d.take c.length) c) e
theorem We(F:Fq K "begins" 8 f c)(T:Txt mg):BA P w K mg base DC 1 f c lqa Js:=by
 refine F.oq lqa λH _ _ _ _ i h=>?_;obtain⟨a,b,r,j,rfl,d,k,l,m,q⟩:=h;refine⟨_,(AE<|AI<|Bm (J'<|CD.Cm i) (Ai BO (pv 1) Az<|Aw<|EG K T<|pv 0) (pv 0)<|AL _),?_⟩;refine⟨_,W,_,W,a,_,W,.inr<|Ae.of d,_,W,b,j,W,k,λp n e g=>?_⟩;rw[El]at g;exact⟨_,W,p,a,_,_,W,W,Ae.of g,Ae.of<|e _ _ d,λz o=>m z<|i1 o,l,q n e⟩
theorem Wg(F:Fq K "gone_by" 12 f e)(T:Txt mg):BA P w K mg base DC 1 f e lqf (Kl [.str "take",.str "change"]):=by
 refine F.oq lqf λH g _ _ _ l h=>?_;obtain⟨r,j,m,n,p,rfl,R,q⟩:=h;refine⟨_,(AB (AU (AJ (CI:EN _ _ (SE K false)) (Bh K 0) (AX<|AA AN<|AY AN) W) (AE<|AI<|Bh K 0) AK)<|AE<|AI A'),?_⟩;obtain⟨a,rest,rfl,i,k⟩:=R.ex;refine⟨_,W,a,_,0,.str j,W,W,Ae.of i,Ed,AW,λt c=>⟨t,_,W,.inr<|Ae.of AD,W,W,_,W,?_⟩⟩;refine Fu (λh=>?_) λh=>?_
 .have d:∀b,AF H b->g.rt (.ref p) b:=λb s=>by
   have:=q b s;rw[if_pos h]at this;exact this
  exact⟨_,W,a,_,1,_,W,W,Ae.of<|AF.new c _ _ i,C',d _<|AF.new c⟩
 .have d:∀b,AF H b->g.rt .Al b:=λb s=>by
   have:=q b s;rw[h,if_neg d5]at this;exact this
  exact d _<|AF.new c
theorem Td{b:m9}(F:Fq K "moved_by" 13 f b)(T:Txt mg):BA P w K mg base DC 1 f b lqf JY:=by
 refine F.oq lqf λH _ _ _ _ g h=>?_;obtain⟨r,d,i,j,p,rfl,R,q⟩:=h;refine⟨_,(AB (AU (AJ BE (Bh K 0) AN<|AL _) (AE<|AI<|Bh K 0) AK)<|AE<|AI A'),?_⟩;obtain⟨a,rest,rfl,c,e⟩:=R.ex;refine⟨_,W,a,_,0,.str d,W,W,Ae.of c,Ed,W,_,W,?_⟩;refine Bu (λh=>?_) λh=>?_
 .rw[if_pos h]at q;exact⟨_,W,a,_,1,_,W,W,Ae.of c,C',q⟩
 .rw[if_neg h]at q;exact q
theorem Zc(F:Fq K "reads" 14 f e)(T:Txt mg):BA P w K mg base DC 1 f e lqf (Kl [.str "ask",.str "copy"]):=by
 refine F.oq lqf λH g _ _ _ l h=>?_;obtain⟨r,j,m,n,p,rfl,R,q⟩:=h;refine⟨_,(AB (AU (AJ (CI:EN _ _ (SE K false)) (Bh K 0) (AX<|AA AN<|AY AN) W) (AE<|AI<|Bh K 0) AK)<|AE<|AI A'),?_⟩;obtain⟨a,rest,rfl,i,k⟩:=R.ex;refine⟨_,W,a,_,0,.str j,W,W,Ae.of i,Ed,AW,λt c=>⟨t,_,W,.inr<|Ae.of AD,W,W,_,W,?_⟩⟩;refine Fu (λh=>?_) λh=>?_
 .have d:∀b,AF H b->g.rt (.ref p) b:=λb s=>by
   have:=q b s;rw[if_pos h]at this;exact this
  exact⟨_,W,a,_,1,_,W,W,Ae.of<|AF.new c _ _ i,C',d _<|AF.new c⟩
 .have d:∀b,AF H b->g.rt .Al b:=λb s=>by
   have:=q b s;rw[h,if_neg d5]at this;exact this
  exact d _<|AF.new c
theorem Te(F:Fq K "is_place" 15 f a)(T:Txt mg):BA P w K mg base DC 1 f a lqF Fw:=by
 refine F.oq lqF λH _ _ _ _ c h=>?_;obtain⟨z,rfl,b,q⟩:=h;refine⟨_,(AE<|AI<|Oe<|II Af T (pv 0) T.str JL),?_⟩;rcases b with⟨i,rfl⟩|⟨k,rfl,_⟩
 .exact⟨_,W,_,"str","int",W,W,.int _,_,W,q⟩
 .exact⟨_,W,_,"str","str",W,W,.str _,_,W,q⟩
theorem QD(F:Fq K "place_into" 16 f x)(T:Txt mg)(c:Df P w K mg base "begins" lqa 1 Js)(a:Df P w K mg base "is_place" lqF 1 Fw):BA P w K mg base DC 2 f x lqB Sr:=by
 refine F.oq lqB λH E _ _ _ y h=>?_;obtain⟨p,h,d,b,rfl,A,B,C,G,q⟩:=h;refine⟨_,(AB (AU (PW.pt<|pw_and (Ag<|Au c y<|AA (pv 1)<|AY<|pv 0)<|pw_and (AJ IJ (EG K T<|pv 1) (EG K T<|pv 0)<|AL _)<|pw_and1<|Ag<|Au a y<|AY<|CS (r:=Dz K) Bj (pv 0) (EG K T<|pv 1) λ_ _=>rfl) (AE<|AI<|CS (r:=Dz K) Bj (pv 0) (EG K T<|pv 1) λ_ _=>rfl) AK)<|AE<|AI A'),?_⟩;have I:∀z∈b,Cj z=true:=λz n=>(G z n).flat;have J:∀z∈d,Cj z=true:=λz n=>(C z n).flat;have no:∀l,AF H l->(BV (d.take b.length) b&&decide (b.length<d.length)&&Nw (d.getD b.length .Al))=false->E.rt .Al l:=λl s e=>by
  have:=q l s;unfold MV at this;rw[e,if_neg d5]at this;exact this
 refine⟨_,W,_,W,h,p,b,d,W,B,A,I,J,λm k=>⟨_,W,?_⟩⟩;have g:=k _ _ B;have i:=k _ _ A;refine Bu (λo=>?_) (λo=>Ah<|no m k<|by rw[yj.mpr o];rfl);refine⟨_,W,h,_,W,.inr<|Ae.of g,_,W,p,_,W,.inr<|Ae.of i,_,_,W,W,_,W,?_⟩;refine Bu (λt=>?_) λt=>Ah<|no m k ?_
 .have j:b.length<d.length:=by have:=of_decide_eq_true t;lia
  have u:d[b.length]?=Z d[b.length]:=yZ j;have D:d.getD b.length .Al=d[b.length]:=by rw[cr,u];rfl
  refine⟨_,W,_,W,h,_,W,.inr<|Ae.of g,p,_,_,_,W,W,Ae.of i,Ba u,_,W,C _<|re j,_,W,?_⟩;refine Bu (λv=>?_) λv=>no m k ?_
  .refine⟨_,W,_,W,h,_,W,.inr<|Ae.of g,p,_,_,_,W,W,Ae.of i,Ba u,?_⟩;have:=q m k;unfold MV at this;rw[D,o,decide_eq_true j,v,O1,O1,if_pos W]at this;exact this
  .rw[D,yj.mpr v,L6]
 .have j:¬b.length<d.length:=λj=>t<|decide_eq_true<|zF.mpr j;rw[decide_eq_false j,L6,zZ]
theorem QE(F:Fq K "with_place" 17 f m)(T:Txt mg):BA P w K mg base DC 1 f m lqw Ss:=by
 refine F.oq lqw λH _ _ _ _ A h=>?_;obtain⟨p,h,d,b,i,rfl,r,n,B,C,q⟩:=h;refine⟨_,(AE<|AI<|AQ Bn (AQ Bn (pv 1)<|AX<|AY<|pv 2)<|Ai BO (pv 0) (Aw<|AQ Bg (EG K T<|pv 1) AG) Az),?_⟩;refine⟨_,W,_,W,BG,.mk λt s D c g=>?_⟩;refine⟨h,t,_,_,W,W,c _ _ n,g,Ao<|show b.length+1<=1000 by lia,λu E j k=>⟨_,W,_,W,h,_,W,.inr<|Ae.of<|j _ _<|c _ _ n,_,_,W,W,_,W,p,_,W,j _ _<|c _ _ r,λv G o a=>?_⟩⟩;have e:Gj d (Z<|(b.length:Int)+1) ν=d.drop (b.length+1):=by
  have:=Ht d<|b.length+1;simpa using this
 rw[e]at a;refine⟨u,v,_,_,W,W,o _ _ k,a,Ao<|by simp only[d7,g7,u7,t8];lia,λx y z l=>q x y (((c.trans j).trans o).trans z) l⟩
theorem KR(F:Fq K "ahead_of_taking" 18 f L)(T:Txt mg)(l:Df P w K mg base "is_place" lqF 1 Fw)(b:Df P w K mg base "place_into" lqB 2 Sr)(d:Df P w K mg base "with_place" lqw 1 Ss):BA P w K mg base DC 3 f L lqG RA:=by
 refine F.oq ["to","path","holder","place"] λH M _ v _ B h=>?_;obtain⟨t,p,m,C,rfl,N,O,nx,sz,Q,lz,lx,q⟩:=h;refine gen (AB (Ad 2 v<|Ai BO (pv 1) Az<|Aw<|Bo BJ AG)<|AB (Ad 3 v<|Au b B<|AA (pv 0)<|AY<|pv 2)<|AB (AU (PW.pt<|pw_or (AJ HS (pv 3) A'<|AL _)<|pw_or (ES<|Ag<|Au l B<|AY<|CS (r:=Dz K) Bj (pv 1) (Bo BJ AG) λ_ _=>rfl)<|pw_or1<|AJ IJ (pv 3) (CS (r:=Dz K) Bj (pv 1) (Bo BJ AG) λ_ _=>rfl)<|AL _) (AE<|AI<|pv 0) AK)<|AB (AU (PW.pt<|pw_and (AJ BE (pv 3) (CS (r:=Dz K) Bj (pv 1) (Bo BJ AG) λ_ _=>rfl)<|AL _)<|pw_and1<|AJ BE (EG K T<|pv 0) (EG K T<|pv 1)<|AL _) (AE<|AI<|pv 0) AK)<|AE<|AI<|Au d B<|AA (pv 0)<|AA (pv 2)<|AY<|AQ Bg (pv 3) AG) λX hX=>?_;obtain⟨a,u,rfl⟩:∃a u,C=a++[u]:=⟨C.dropLast,C.getLast nx,(f6 nx).symm⟩;have R:Aa a:=λz D=>Q z<|b9 _ D;have S:Dc.Bq u:=Q u z_;subst hX;refine⟨_,W,_,W,_,W,p,_,W,O,λh H1 U E=>?_⟩;rw[Bd]at E;refine⟨_,W,_,W,t,h,m,a,W,U _ _ N,E,sz,R,λG Y=>?_⟩;have n:=U.trans Y;have o:=n _ _ N;have s:=n _ _ O;have x:=Y _ _ E;have ζ:a.length<=400:=by simp only[d7,g7,u7]at lx;lia
 have keep:B_ m (a++[u])=m->M.rt (.ref t) G:=λe=>q t G n (by rw[e];exact o);cases I:(BV (m.take a.length) a&&decide (a.length<m.length)&&Nw (m.getD a.length .Al))with
 |false=>
  rw[Ny I];exact⟨_,W,W,_,W,Ay W<|An ⟨_,W,keep<|Ii I⟩⟩
 |true=>
 obtain⟨i,g,e,b1,b2⟩:=Nx sz I;rw[e];refine⟨_,W,W,_,W,Aj W ⟨_,W,_,W,p,_,_,_,W,W,Ae.of s,BS a u,_,W,S,_,W,?_⟩⟩;rcases S with⟨j,rfl⟩|⟨k,rfl,_⟩
 .refine Ah ?_;refine⟨_,W,_,W,_,W,p,_,_,_,W,W,Ae.of s,BS a _,_,_,W,W,_,W,?_⟩;have J:=N_ (j:=(j:Int)) g b1;refine Bu (λc1=>⟨_,W,keep<|by rw[J];exact if_neg<|by have:=of_decide_eq_true c1;lia⟩) (λc1=>?_);have n1:¬(i:Int)<(j:Int):=λz=>c1<|decide_eq_true z;have go:((j:Int)<(i:Int)∨((i:Int)=(j:Int)/\a.length+1<m.length))->∀A y,AF G y->y A=Z (.tup<|a++[.int<|(i:Int)+1]++m.drop (a.length+1))->M.rt (.ref A) y:=λc A y s3 hq=>by
   refine q A y (n.trans s3) ?_;rw[J,if_pos c,<-DQ (GZ (λz D=>sz z<|i1 D) R b1) b2];exact hq
  refine⟨_,W,_,W,_,W,p,_,_,_,W,W,Ae.of s,BS a _,W,_,W,?_⟩;refine Bu (λc2=>?_) λc2=>Ah ?_
  .have e2:(i:Int)=(j:Int):=by have:=of_decide_eq_true c2;exact V.int.inj this
   refine⟨_,W,t,_,W,.inr<|Ae.of o,_,W,p,_,W,.inr<|Ae.of s,W,_,W,?_⟩;refine Bu (λc3=>⟨_,W,keep ?_⟩) λc3=>?_
   .have:=V.int.inj<|of_decide_eq_true c3;simp only[d7,g7,u7]at this;rw[J];exact if_neg y_
   .refine⟨_,W,_,W,_,W,_,_,W,W,t,h,m,a,_,W,o,x,lz,ζ,go<|.inr ⟨e2,?_⟩⟩;have:¬((m.length:Nat):Int)=(((a++[V.int (j:Int)]).length:Nat):Int):=λz=>c3<|decide_eq_true<|congrArg V.int z;simp only[d7,g7,u7]at this;lia
  .have n2:¬(i:Int)=(j:Int):=λz=>c2<|decide_eq_true<|congrArg V.int z;exact⟨_,W,_,W,_,W,_,_,W,W,t,h,m,a,_,W,o,x,lz,ζ,go<|.inl y_⟩
 .exact An<|An ⟨_,W,keep Nz⟩
theorem Tf{tC:Addr}(F:Fq K "comes_to" 19 f L)(T:Txt mg)(b:Df P w K mg base "ahead_of_taking" lqG 3 RA)(O:mg "WORDS_OF_COMING"=Z (.ref tC))(hC:Su K tC Hy=true):BA P w K mg base DC 4 f L lqf Ep:=by
 refine F.oq ["row","to"] λH Q _ x _ S h=>?_;obtain⟨r,A,g,i,p,rfl,R,q⟩:=h;refine gen (AB (AU (AJ (Ol:EN _ _ (SE K true)) (Bh K 0) (Ob (v:=.ref tC) W O W) W) (AE<|AI A') AK)<|AB (Ad 1 x<|Bh K 0)<|AB (AU (AJ BE (Bh K 0) AN<|AL _) (AE<|Ad 1 x<|Bh K 0) AK)<|AB (AU (AJ BE (Bh K 0) AN<|AL _) (AE<|Ad 1 x<|Au b S<|AA (Bh K 0)<|AY<|Bh K 0) AK)<|AE<|AI<|AX<|AA (Ai BO (pv 1) Az<|Aw<|Bo BJ AG)<|AY<|CS (r:=Dz K) Bj (pv 1) (Bo BJ AG) λ_ _=>rfl) λX U=>?_;obtain⟨a,rest,rfl,j,B⟩:=R.ex;subst U;refine⟨_,W,a,_,0,.str A,W,W,Ae.of j,Ed,tC,_,W,.inr<|Ae.pD hC H,W,W,_,W,?_⟩;refine jE (λh=>?_) λh=>?_
 .refine q .Al H (AF.refl _) ?_;unfold JZ;rw[if_neg<|by rw[N9]at h;rw[h];exact d5]
 have M:DX (.str A) B'=true:=by
  cases Y:DX (.str A) B' with
  |true=>rfl|false=>rw[Y]at h;cases h
 have fin:∀(D:Hp),AF H D->∀k m,AF D k->k m=Z (.tup (CW A g i).dropLast)->∀t,k t=ν->∀c,(CW A g i).getLast?=Z c->Q.rt (.ref t) (upd k t<|.tup [.ref m,c]):=λD G k m n ζ t s c I=>by
  refine q _ _ ((G.trans n).trans<|AF.new s) ?_;unfold JZ;rw[if_pos M];exact⟨t,m,c,W,AD,AF.new s _ _ ζ,I⟩
 have y:∀C:List V,C≠[]->∃o c,C=o++[c]:=λC h=>⟨C.dropLast,C.getLast h,(f6 h).symm⟩;refine⟨_,W,a,_,1,_,W,W,Ae.of j,C',?_⟩;rcases rh M with rfl|rfl|rfl
 .have eP:CW "put" g i=g:=rfl;obtain⟨o,c,e⟩:=y g<|R.nx<|.inl W;have u:CW "put" g i=o++[c]:=eP.trans e;have hp:=R.hp;rw[e]at hp;exact⟨_,W,a,_,0,_,W,W,Ae.of j,Ed,W,_,W,Aj ac ⟨_,W,a,_,0,_,W,W,Ae.of j,Ed,W,_,W,Aj ac ⟨_,W,_,W,_,W,p,_,W,hp,λm k n d=>⟨_,W,_,W,p,_,_,_,W,W,Ae.of<|n _ _ hp,BS o c,AW,λt s=>fin _ (AF.refl _) k m n (by rw[Bd]at d;rw[u,e5];exact d) t s c<|by rw[u];simp⟩⟩⟩⟩
 .obtain⟨E,rfl,l⟩:=B<|.inl W;have eP:CW "copy" g i=i:=rfl;obtain⟨o,c,e⟩:=y i<|R.nz<|.inl W;have u:CW "copy" g i=o++[c]:=eP.trans e;rw[e]at l;exact⟨_,W,a,_,0,_,W,W,Ae.of j,Ed,W,_,W,Ay ac ⟨_,W,a,_,2,_,W,W,Ae.of j,at2,⟨_,W,a,_,0,_,W,W,Ae.of j,Ed,W,_,W,Aj ac ⟨_,W,_,W,_,W,E,_,W,l,λm k n d=>⟨_,W,_,W,E,_,_,_,W,W,Ae.of<|n _ _ l,BS o c,AW,λt s=>fin _ (AF.refl _) k m n (by rw[Bd]at d;rw[u,e5];exact d) t s c<|by rw[u];simp⟩⟩⟩⟩⟩
 .obtain⟨E,rfl,l⟩:=B<|.inr W;have eP:CW "move" g i=B_ i g:=rfl;have lz:=R.lz;have lx:=R.lx;obtain⟨o,c,e⟩:=y (B_ i g) (λz=>R.nz (.inr W)<|j7<|by rw[<-Cq i g,z];rfl);have u:CW "move" g i=o++[c]:=eP.trans e;refine⟨_,W,a,_,0,_,W,W,Ae.of j,Ed,W,_,W,Aj ac ⟨_,W,a,_,0,_,W,W,Ae.of j,Ed,W,_,W,Ay ac ⟨_,W,a,_,2,_,W,W,Ae.of j,at2,_,W,a,_,1,_,W,W,Ae.of j,C',E,p,i,g,W,l,R.hp,R.nx<|.inr<|.inr<|.inr W,R.sz,R.sx,al lz ac,al lx ac,λN D G J=>?_⟩⟩⟩;rw[e]at J;exact⟨_,W,_,W,_,W,N,_,W,J,λm k n d=>⟨_,W,_,W,N,_,_,_,W,W,Ae.of<|n _ _ J,BS o c,AW,λt s=>fin _ G k m n (by rw[Bd]at d;rw[u,e5];exact d) t s c<|by rw[u];simp⟩⟩
theorem Zd{tC x:Addr}{M:m9}(F:Fq K "needs" 20 f M)(T:Txt mg)(b:Df P w K mg base "comes_to" lqf 4 Ep)(Q:mg "WORDS_OF_COMING"=Z (.ref tC))(hC:Su K tC Hy=true)(mP:mg "WORDS_OF_PARTS"=Z (.ref x))(hP:Su K x O'=true):BA P w K mg base DC 5 f M lqf PB:=by
 refine F.oq ["row","told"] λH _ _ y _ S h=>?_;obtain⟨r,c,d,U,p,rfl,R,q⟩:=h;refine gen (AB (Ad 1 y<|BC Bp)<|AB (AU (AJ (CI:EN _ _ (SE K false)) (Bh K 0) (Ob (v:=.ref x) W mP W) W) (AE<|CO<|cj K (pv 1)<|Bh K 0) AK)<|AB (AU (AJ BE (Bh K 0) AN<|AL _) (AE<|CO<|cj K (pv 1)<|Ai BO (Bh K 0) Az<|Aw<|Bo BJ AG) AK)<|AB (AU (AJ (CI:EN _ _ (SE K false)) (Bh K 0) (Ob (v:=.ref tC) W Q W) W) (AE<|CO<|cj K (pv 1)<|CS (r:=Dz K) Bj (Au b S<|AY<|pv 0) AG λ_ _=>rfl) AK)<|AE<|AI<|pv 1) λX Y=>?_;obtain⟨a,rest,rfl,A,ζ⟩:=R.ex;subst Y;refine⟨gU _,λl hl=>?_⟩;have j:Nd H (upd H l<|.lst []) l [] []:=⟨AF.new hl,hl,AD,.nil⟩;dsimp only[Bv];refine Xx (t:=Kx _ _ _) (λB=>∃k,Nd H B l k<|nA c d) (λH1 ⟨k,m⟩=>?_) (λg=>?_);rotate_left
 .have n:=j.same _ _ A;refine⟨_,W,a,_,0,.str c,W,W,Ae.of n,Ed,x,_,W,.inr<|Ae.pD hP _,W,W,_,W,?_⟩;refine Fu (λh=>?_) (λh=>g _ ⟨[],by unfold nA;rw[h,if_neg d5];exact j⟩);refine⟨_,W,.inl ⟨W,_,Ax.of j.hl⟩,_,W,a,_,1,_,W,W,Ae.of n,C',l,_,_,W,W,j.hl,ac,g _ ⟨[p],?_⟩⟩;unfold nA;rw[h,if_pos W];exact j.push<|j.same _ _ R.hp
 refine Xx (t:=Kx _ _ _) (λB=>∃k,Nd H B l k<|nA c d++nB c d) (λN ⟨o,i⟩=>?_) (λg=>?_);rotate_left
 .have s:=m.same _ _ A;have C:(nA c d).length<=1:=by unfold nA;split<;>simp
  have D:=m.tu.length;refine⟨_,W,a,_,0,.str c,W,W,Ae.of s,Ed,W,_,W,?_⟩;refine Bu (λh=>?_) (λh=>g _ ⟨k,by unfold nB;rw[if_neg λz=>h<|by rw[z];rfl,ge];exact m⟩);have hw:c="lacks":=V.str.inj<|of_decide_eq_true h;obtain⟨E,G,e⟩:∃E G,d=E++[G]:=⟨d.dropLast,d.getLast<|R.nx<|.inr<|.inl hw,(f6 _).symm⟩;refine⟨_,W,.inl ⟨W,_,Ax.of m.hl⟩,_,W,a,_,1,_,W,W,Ae.of s,C',_,W,_,W,p,_,W,m.same _ _ R.hp,λp2 N s2 u=>?_⟩;have i:=m.up s2;rw[e,Bd]at u;refine⟨l,_,_,W,W,i.hl,As<|by rw[be];exact al (al (bm D) C) ac,g _ ⟨k++[p2],?_⟩⟩;have eb:nB c d=[E]:=by unfold nB;rw[if_pos hw,e,e5]
  rw[eb];exact i.push u
 have I:=i.same _ _ A;have R2:=R.up i.same;have C:(nA c d++nB c d).length<=2:=by
  rw[d7];unfold nA nB;split<;>split<;>simp
 have D:=i.tu.length;refine⟨_,W,a,_,0,.str c,W,W,Ae.of I,Ed,tC,_,W,.inr<|Ae.pD hC _,W,W,_,W,?_⟩;refine Fu (λh=>?_) (λh=>⟨_,W,q l o N i.same hl i.hl<|by unfold Bs nC;rw[h,if_neg d5,ge];exact i.tu⟩);refine⟨_,W,.inl ⟨W,_,Ax.of i.hl⟩,_,W,_,c,d,U,p,W,R2,λv H3 s3 J=>?_⟩;unfold JZ at J;rw[if_pos h]at J;obtain⟨t,h3,G,rfl,ht,hh,_⟩:=J;have O:=i.up s3;refine⟨t,_,0,_,W,W,Ae.of ht,Ed,l,_,_,W,W,O.hl,As<|by rw[be];exact al (al (bm D) C) ac,_,W,?_⟩;have L:=O.push hh;refine q l (o++[h3]) _ L.same hl L.hl ?_;unfold Bs nC;rw[h,if_pos W];exact L.tu
theorem bq(F:Fq K "bars" 21 f G)(T:Txt mg)(b:Df P w K mg base "is_place" lqF 1 Fw)(c:Df P w K mg base "comes_to" lqf 4 Ep):BA P w K mg base DC 5 f G lqf Sv:=by
 refine F.oq ["row","coming"] λH N _ u _ I h=>?_;obtain⟨r,d,i,o,p,rfl,R,q⟩:=h;refine gen (AB (AU (AJ BE (Bh K 0) AN<|AL _) (AE<|AI<|AX<|AA (Ai BO (Bh K 0) Az<|Aw<|Bo BJ AG)<|AY<|CS (r:=Dz K) Bj (Bh K 0) (Bo BJ AG) λ_ _=>rfl) AK)<|AB (Ad 1 u<|Au c I<|AY<|pv 0)<|AB (AU (PW.pt<|pw_or (AJ HS (pv 1) A'<|AL _)<|pw_or1<|Ag<|Au b I<|AY<|Bh K 1) (AE<|AI A') AK)<|AE<|AI<|pv 1) λX O=>?_;obtain⟨a,rest,rfl,x,Q⟩:=R.ex;subst O;refine⟨_,W,a,_,0,.str d,W,W,Ae.of x,Ed,W,_,W,?_⟩;refine Bu (λh=>?_) λh=>?_
 .have hw:d="lacks":=V.str.inj<|of_decide_eq_true h;obtain⟨y,g,e⟩:∃y g,i=y++[g]:=⟨i.dropLast,i.getLast<|R.nx<|.inr<|.inl hw,(f6 _).symm⟩;have hp:=R.hp;rw[e]at hp;refine⟨_,W,a,_,1,_,W,W,Ae.of x,C',_,W,_,W,p,_,W,hp,λS H2 A j=>?_⟩;rw[Bd]at j;refine⟨_,W,a,_,1,_,W,W,Ae.of<|A _ _ x,C',_,W,p,_,_,_,W,W,Ae.of<|A _ _ hp,BS y g,AW,λt k=>q _ _ (A.trans<|AF.new k) ?_⟩;unfold WE;rw[if_pos hw];exact⟨t,S,g,W,AD,by rw[e,e5];exact AF.new k _ _ j,by rw[e];simp⟩
 have J:¬d="lacks":=λz=>h (by rw[z];rfl);refine⟨_,W,_,d,i,o,p,W,R,λv L B l=>?_⟩;unfold JZ at l;have no:∀(C:Hp),AF H C->¬(DX (.str d) B'=true/\Nw ((CW d i o).getLastD .Al)=false)->N.rt .Al C:=λC sx n=>q _ _ sx (by unfold WE;rw[if_neg J,if_neg n]);by_cases s:DX (.str d) B'=true
 .rw[if_pos s]at l;obtain⟨t,U,g,rfl,k,Y,D⟩:=l;have M:(CW d i o).getLastD .Al=g:=by rw[uW,D];rfl
  have ζ:Dc.Bq g:=by
   have m:g∈CW d i o:=yu D;unfold CW at m;split at m
   .exact R.sz _ m
   .split at m
    .exact Kk R.sz _ m
    .exact R.sx _ m
  refine⟨_,W,W,_,W,Aj W ⟨_,W,t,_,1,_,W,W,Ae.of k,C',_,W,ζ,_,W,?_⟩⟩;refine Nv (λE=>no L B λz=>by rw[M,E]at z;cases z.2) (λE=>⟨_,W,q _ _ B ?_⟩);unfold WE;rw[if_neg J,if_pos ⟨s,by rw[M];exact E⟩];exact⟨t,U,g,W,k,Y,D⟩
 .rw[if_neg s]at l;subst l;exact⟨_,W,W,_,W,Ay W<|An<|no L B λz=>s z.1⟩
theorem Wh(F:Fq K "leaves" 22 f e)(T:Txt mg):BA P w K mg base DC 1 f e lqf (Kl [.str "take",.str "move"]):=by
 refine F.oq lqf λH g _ _ _ l h=>?_;obtain⟨r,j,m,n,p,rfl,R,q⟩:=h;refine⟨_,(AB (AU (AJ (CI:EN _ _ (SE K false)) (Bh K 0) (AX<|AA AN<|AY AN) W) (AE<|AI<|Bh K 0) AK)<|AE<|AI A'),?_⟩;obtain⟨a,rest,rfl,i,k⟩:=R.ex;refine⟨_,W,a,_,0,.str j,W,W,Ae.of i,Ed,AW,λt c=>⟨t,_,W,.inr<|Ae.of AD,W,W,_,W,?_⟩⟩;refine Fu (λh=>?_) λh=>?_
 .have d:∀b,AF H b->g.rt (.ref p) b:=λb s=>by
   have:=q b s;rw[if_pos h]at this;exact this
  exact⟨_,W,a,_,1,_,W,W,Ae.of<|AF.new c _ _ i,C',d _<|AF.new c⟩
 .have d:∀b,AF H b->g.rt .Al b:=λb s=>by
   have:=q b s;rw[h,if_neg d5]at this;exact this
  exact d _<|AF.new c
theorem My(F:Fq K "place_behind" 23 f fd)(T:Txt mg)(a:Df P w K mg base "is_place" lqF 1 Fw)(l:Df P w K mg base "comes_to" lqf 4 Ep)(m:Df P w K mg base "leaves" lqf 1 (Kl [.str "take",.str "move"])):BA P w K mg base DC 5 f fd lqv PN:=by
 refine F.oq ["holder","place","row","ahead","told","gone","coming"] λH ζ _ u _ D h=>?_;obtain⟨h,n,i,r,d,b,G,p,ah,rfl,Q,sh,R,q⟩:=h;refine⟨_,(AB (Ad 4 u<|pv 1)<|AB (Ad 5 u<|Au m D<|AY<|pv 2)<|AB (AU (PW.pt<|pw_and (AJ Ck (pv 5) A'<|AL _)<|pw_and (AJ (J'<|CD.Cm D) (Ai BO (pv 5) Az<|Aw<|Bo BJ AG) (pv 0)<|AL _)<|pw_and (Ag<|Au a D<|AY<|CS (r:=Dz K) Bj (pv 5) (Bo BJ AG) λ_ _=>rfl)<|pw_and1<|AJ IJ (CS (r:=Dz K) Bj (pv 5) (Bo BJ AG) λ_ _=>rfl) (pv 1)<|AL _) (AE<|Ad 4 u<|AQ Lk (pv 4) AG) AK)<|AB (Ad 6 u<|Au l D<|AY<|pv 2)<|AB (AU (PW.pt<|pw_or (AJ HS (pv 6) A'<|AL _)<|pw_or (AJ (Oz<|CD.Cm D) (Bh K 6) (pv 0)<|AL _)<|pw_or1<|ES<|Ag<|Au a D<|AY<|Bh K 6) (AE<|AI<|pv 4) AK)<|AB (AU (PW.pt<|pw_or (AJ IJ (Bh K 6) (pv 1)<|AL _)<|pw_or1<|PW.pt<|pw_and (Ag<|pv 3)<|pw_and1<|AJ BE (Bh K 6) (pv 1)<|AL _) (AE<|AI<|AQ Bg (pv 4) AG) AK)<|AE<|AI<|pv 4),?_⟩;refine⟨_,W,_,W,r,d,b,G,p,W,R,λH1 S=>?_⟩;have R1:=R.up S;have vk:=S _ _ Q;dsimp only[Bv];refine DY (t:=Kx _ _ _) (fun σ H'=>AF H H'/\∃g,σ=[Z<|.ref h,Z<|.int i,Z r,Z<|.bl ah,Z<|.int<|CT n i d b,g,ν]) (fun σ' H' z=>?_) λk=>?_
 .obtain⟨o,g,rfl⟩:=z;refine⟨_,W,r,d,b,G,p,W,R.up o,λv U E I=>?_⟩;have vl:=E _ _<|o _ _ Q;unfold JZ at I;have no:∀A,AF H A->DD n i d b G ah=0->ζ.rt (.int<|CT n i d b) A:=λA sx e=>by
   have:=q A sx;rw[e,aaf]at this;exact this
  by_cases X:DX (.str d) B'=true
  .rw[if_pos X]at I;obtain⟨t,h3,x,rfl,Y,Q,hg⟩:=I;have st:=Bx (w:=d) R.sx R.sz;have sv:Dc.Bq x:=st x<|yu hg;have sd:Aa (CW d b G).dropLast:=λz s=>st z<|n8 _ s;refine⟨_,W,W,_,W,Aj W ⟨_,W,t,_,0,_,W,W,Ae.of Y,Ed,_,W,h3,h,_,n,W,W,Ae.of Q,Ae.of vl,(λz s=>(sd z s).flat),(λz s=>(sh z s).flat),_,W,?_⟩⟩;cases J:BV (CW d b G).dropLast n with
   |false=>exact An (An ⟨_,W,no _ (o.trans E) (bC J)⟩)|true=>
    refine Ah ⟨_,W,t,_,1,_,W,W,Ae.of Y,C',_,W,sv,_,W,?_⟩;rcases sv with⟨j,rfl⟩|⟨kk,rfl,_⟩
    .refine Ah ⟨_,W,t,_,1,_,W,W,Ae.of Y,C',_,W,_,_,W,W,_,W,?_⟩;have mo:=Ya (i:=i) (ah:=ah) hg X J;have L:((j:Int)<i∨(ah=true/\(j:Int)=i))->ζ.rt (.int<|CT n i d b+1) U:=λc=>by
      have:=q U<|o.trans E;rw[mo,if_pos c]at this;exact this
     have M:¬((j:Int)<i∨(ah=true/\(j:Int)=i))->ζ.rt (.int<|CT n i d b) U:=λc=>no U (o.trans E) (by rw[mo,if_neg c]);refine Bu (λc=>An ⟨_,W,_,_,W,W,L<|.inl<|of_decide_eq_true c⟩) (λc=>?_);have nc:¬(j:Int)<i:=λz=>c<|decide_eq_true z;refine⟨_,W,_,W,?_⟩;cases ah with
     |false=>exact Ah (Ah ⟨_,W,M (λz=>z.elim nc λz=>d5 z.1)⟩)|true=>
      refine An ⟨_,W,t,_,1,_,W,W,Ae.of Y,C',_,W,W,_,W,?_⟩;refine Bu (λc2=>⟨_,W,_,_,W,W,L<|.inr ⟨W,V.int.inj<|of_decide_eq_true c2⟩⟩) λc2=>⟨_,W,M λz=>z.elim nc λz=>c2<|decide_eq_true<|congrArg V.int z.2⟩
    .exact An ⟨_,W,no _ (o.trans E)<|YZ hg⟩
  .rw[if_neg X]at I;subst I;exact⟨_,W,W,_,W,Ay W<|An ⟨_,W,no _ (o.trans E)<|YY X⟩⟩
 have fin:∀(g:Option V) A,AF H A->CT n i d b=i->(AF H A/\∃g',[Z<|V.ref h,Z<|V.int i,Z r,Z<|V.bl ah,Z<|V.int i,g,ν]=[Z<|V.ref h,Z<|V.int i,Z r,Z<|V.bl ah,Z<|V.int<|CT n i d b,g',ν]):=λg A sx e=>⟨sx,g,by rw[e]⟩;by_cases hw:DX (.str d) [.str "take",.str "move"]=true
 .rw[if_pos hw];have nx:=R.nx<|.inr<|.inr<|RW.mp hw;obtain⟨B,x,e⟩:∃B x,b=B++[x]:=⟨b.dropLast,b.getLast nx,(f6 nx).symm⟩;have C:=R1.hp;rw[e]at C;have sd:Aa B:=λz s=>R.sx z (by rw[e];exact b9 _ s);have sl:Dc.Bq x:=R.sx x (by rw[e];simp);have ed:b.dropLast=B:=by rw[e,e5]
  have gl:b.getLast?=Z x:=by rw[e];simp
  refine⟨_,W,W,_,W,Ay W ⟨_,W,_,W,_,W,p,_,W,C,λp1 H2 o N=>?_⟩⟩;rw[Bd]at N;have O:=o _ _ C;have y:=S.trans o;refine⟨_,W,p1,h,B,n,W,W,Ae.of N,Ae.of<|o _ _ vk,(λz s=>(sd z s).flat),(λz s=>(sh z s).flat),_,W,?_⟩;cases J:BV B n with
  |false=>exact Ah (Ah (k _ _ (fin _ _ y (bD (by rw[ed];exact J)))))|true=>
   refine An ⟨_,W,_,W,p,_,_,_,W,W,Ae.of O,BS B x,_,W,sl,_,W,?_⟩;rcases sl with⟨j,rfl⟩|⟨kk,rfl,_⟩
   .have le:=less_int (i:=i) gl hw (by rw[ed];exact J);refine An ⟨_,W,_,W,p,_,_,_,W,W,Ae.of O,BS B _,_,W,_,_,W,W,_,W,?_⟩;refine Bu (λc=>⟨_,W,_,_,W,W,k _ _ ⟨y,Z<|.ref p,?_⟩⟩) (λc=>k _ _<|fin _ _ y ?_)
    .rw[le,if_pos<|of_decide_eq_true c];rfl
    .rw[le,if_neg λz=>c<|decide_eq_true z]
   .exact Ah<|Ah<|k _ _<|fin _ _ y<|Yb gl
 .rw[if_neg hw];exact⟨_,W,W,_,W,Aj W<|Ah<|k _ _<|fin _ _ S<|fH hw⟩
theorem NH(F:Fq K "step_behind" 24 f c)(T:Txt mg)(b:Df P w K mg base "is_place" lqF 1 Fw)(a:Df P w K mg base "place_behind" lqv 5 PN):BA P w K mg base DC 6 f c lqy Ud:=by
 refine F.oq lqy λH _ _ _ _ d h=>?_;obtain⟨h,g,z,r,j,l,m,p,rfl,n,o,e,R,q⟩:=h;refine⟨_,(AB (AU (Ag<|Au b d<|AY<|pv 1) (AE<|AI<|Au a d<|AA (pv 0)<|AA (pv 1)<|AA (pv 2)<|AY GL) AK)<|AE<|AI<|pv 1),?_⟩;refine⟨_,W,z,W,e,_,W,?_⟩;rcases e with⟨i,rfl⟩|⟨k,rfl,_⟩
 .exact An ⟨_,W,_,W,_,W,h,g,_,r,j,l,m,p,true,W,n,o,R,q⟩
 .exact Ah ⟨_,W,q H<|AF.refl _⟩
theorem Ze(F:Fq K "after" 25 f fd)(T:Txt mg)(d:Df P w K mg base "begins" lqa 1 Js)(o:Df P w K mg base "gone_by" lqf 1 (Kl [.str "take",.str "change"]))(m:Df P w K mg base "moved_by" lqf 1 JY)(c:Df P w K mg base "step_behind" lqy 6 Ud)(G:mg "enumerate"=ν):BA P w K mg base DC 7 f fd ["path","row"] PX:=by
 refine F.oq ["path","row","gone","taken"] λH _ _ L _ M h=>?_;obtain⟨t,e,r,u,j,A,p,rfl,ζ,E,lq,R,q⟩:=h;refine⟨_,(AB (Ad 2 L<|Au o M<|AY<|pv 1)<|AB (AU (PW.pt<|pw_and (AJ Ck (pv 2) A'<|AL _)<|pw_and1<|Ag<|Au d M<|AA (pv 2)<|AY<|pv 0) (AE<|AI A') AK)<|AB (Ad 3 L<|Au m M<|AY<|pv 1)<|AB (AU (PW.pt<|pw_and (AJ Ck (pv 3) A'<|AL _)<|pw_and1<|Ag<|Au d M<|AA (pv 3)<|AY<|pv 0) (AE<|AI<|AQ Bn (Bh K 1)<|Ai BO (pv 0) (Aw<|EG K T<|pv 3) Az) AK)<|AE<|AI<|Cz IL W T.tuple Ot<|AY<|YU (fv:=["row","path"]) (fs:=[1,0]) W (.of<|by rfl) (bB W G RL<|AY<|pv 0) (λ_ _ _ _=>UG) λC s0 H0 fp=>(Au c M<|AA (Ai BO (pv 3) Az<|Aw<|pv 0)<|AA (pv 1)<|AY<|pv 2)),?_⟩;have fx:∀z∈j,Cj z=true:=λz I=>(R.sx z I).flat;have fq:∀z∈e,Cj z=true:=λz I=>(E z I).flat;refine⟨_,W,r,u,j,A,p,W,R,λH1 N=>?_⟩;dsimp only[Bv];have ju:=N _ _ ζ;have R1:=R.up N;refine DY (t:=Kx _ _ _) (fun σ H'=>AF H H'/\(∃g,σ=[Z<|.ref t,Z r,g,ν])/\¬(DX (.str u) [.str "take",.str "change"]=true/\j<+:e)) (fun σ' H2 z=>?_) λk=>?_
 .obtain⟨O,⟨g,rfl⟩,c1⟩:=z;have R2:=R.up O;have Q:=O _ _ ζ;refine⟨_,W,r,u,j,A,p,W,R2,?_⟩;dsimp only[Bv];refine DY (t:=Kx _ _ _) (fun σ H'=>AF H H'/\(∃g g3,σ=[Z<|.ref t,Z r,g,g3])/\¬(u="move"/\j<+:e)) (fun σ' H3 z=>?_) (λk=>?_)
  .obtain⟨n,⟨g,g3,rfl⟩,c2⟩:=z;have v:=n _ _ ζ;have S:BQ u j A e=Z (gu u j A [] e):=by
    unfold BQ;rw[if_neg c1,if_neg c2,cu R.sx R.sz e [] (λz I=>nomatch I) E,RV,RV]
   refine⟨_,W,t,e,W,Ae.of v,?_⟩;refine WM (λi y=>∀s,e[i]?=Z s->y=gs u j A (e.take i) s) (Ae.of v) (Ao<|al lq ac) (λi x H4 Rk hx J k=>?_) λD H4 ys hD J vm ly oy=>?_
   .refine⟨_,W,_,W,_,W,t,e,W,J _ _ v,λp5 H5 Y B=>?_⟩;rw[El]at B;have s45:=J.trans Y;refine⟨_,W,_,W,p5,e.take i,x,r,u,j,A,p,W,B,(λz I=>E z<|i1 I),E x<|yc hx,(R.up n).up s45,λH6 s6=>k _ _ (Y.trans s6) λs' U=>?_⟩;rw[hx]at U;cases U;cases x<;>rfl
   .refine⟨D,ys,W,.inl ⟨Ax.of vm,λl hl=>q _ _ ((n.trans J).trans<|AF.new hl) ?_⟩⟩;rw[S,<-go_eq e [] ys ly λi y s h1 h2=>oy i y h1 s h2];exact⟨l,W,AD⟩
  .by_cases hw:u="move"
   .subst hw;rw[if_pos ac];obtain⟨a,rest,er,ha,f_⟩:=R2.ex;obtain⟨p2,rfl,Zx⟩:=f_<|.inr W;refine⟨_,W,W,_,W,Ay W ⟨_,W,_,W,p,t,j,e,W,R2.hp,Q,fx,fq,λH3 n=>⟨_,W,?_⟩⟩⟩;have v:=n _ _ Q;refine Bu (λb=>?_) (λb=>k _ _ ⟨O.trans n,⟨_,_,W⟩,λz=>b<|(pre_take R.sx E).mpr z.2⟩);have V:=(pre_take R.sx E).mp b;have l1:=R.lz;refine⟨_,W,a,_,2,_,er,W,Ae.of<|n _ _ ha,at2,_,W,_,W,p,_,W,.inr<|Ae.of<|n _ _ R2.hp,_,W,t,_,W,v,λp4 H4 J X=>?_⟩;rw[Ht]at X;refine⟨p2,p4,_,_,W,W,J _ _<|n _ _ Zx,X,Ao<|by rw[t8];lia,λp5 H5 Y B=>q _ _ (((O.trans n).trans J).trans Y) ?_⟩;have S:BQ "move" j A e=Z (A++e.drop j.length):=by
     unfold BQ;rw[if_neg c1,if_pos ⟨W,V⟩]
    rw[S];exact⟨p5,W,B⟩
   .rw[if_neg<|GE hw];exact⟨_,W,W,_,W,Aj W<|Ah<|k _ _ ⟨O,⟨_,_,W⟩,λz=>hw z.1⟩⟩
 .by_cases hw:DX (.str u) [.str "take",.str "change"]=true
  .rw[if_pos hw];refine⟨_,W,W,_,W,Ay W ⟨_,W,_,W,p,t,j,e,W,R1.hp,ju,fx,fq,λH3 n=>⟨_,W,?_⟩⟩⟩;refine Bu (λb=>q _ _ (N.trans n) ?_) (λb=>k _ _ ⟨N.trans n,⟨_,W⟩,λz=>b<|(pre_take R.sx E).mpr z.2⟩);have S:BQ u j A e=none:=by
    unfold BQ;rw[if_pos ⟨hw,(pre_take R.sx E).mp b⟩]
   rw[S];rfl
  .rw[if_neg hw];exact⟨_,W,W,_,W,Aj W<|Ah<|k _ _ ⟨N,⟨_,W⟩,λz=>hw z.1⟩⟩
theorem QF{r:m9}(F:Fq K "does_begin" 27 f r)(T:Txt mg)(d:Df P w K mg base "begins" lqa 1 Js):BA P w K mg base DC 2 f r lqa LV:=by
 refine F.oq lqa λH _ _ _ _ t h=>?_;obtain⟨u,v,a,b,rfl,j,k,x,y,q⟩:=h;refine⟨_,(AE<|AI<|Dp (Bm Ck (pv 0) A'<|AL _)<|Dp (Bm Ck (pv 1) A'<|AL _)<|D_<|Au d t<|AA (pv 0)<|AY<|pv 1),?_⟩;have s:=AF.refl H;cases a with
 |none=>
  rw[show u=V.Al from j];exact⟨_,W,W,_,W,Ah<|q _ s⟩
 |some g=>
  obtain⟨p,rfl,A⟩:=j;cases b with
  |none=>
   rw[show v=V.Al from k];exact⟨_,W,W,_,W,An ⟨_,W,W,_,W,Ah<|q _ s⟩⟩
  |some i=>
   obtain⟨B,rfl,l⟩:=k;have m:=x g W;have n:=y i W;refine⟨_,W,W,_,W,An ⟨_,W,W,_,W,An ⟨_,W,_,W,p,B,g,i,W,A,l,(λz o=>(m z o).flat),(λz o=>(n z o).flat),λD C=>?_⟩⟩⟩;have e:BV (i.take g.length) g=GG (Z g) (Z i):=by
    show _=decide (g<+:i);by_cases c:g<+:i
    .rw[decide_eq_true c,(pre_take m n).mpr c]
    .rw[decide_eq_false c];exact yj.mpr λz=>c<|(pre_take m n).mp z
   rw[e];exact q _ C
theorem NI{z:m9}(F:Fq K "begins_some" 28 f z)(T:Txt mg)(b:Df P w K mg base "does_begin" lqa 2 LV):BA P w K mg base DC 3 f z lqC KL:=by
 refine F.oq lqC λH _ _ _ _ E h=>?_;obtain⟨u,a,l,g,d,rfl,s,G,m,A,I,J,q⟩:=h;refine⟨_,(AE<|AI<|Ct (YL W) W T.any iz<|AY<|cmp ["path"] [0] (D'<|pv 1) λ_ _ _ _=>(Au b E<|AA (pv 1)<|AY<|pv 0)),?_⟩;have L:Ax K H l (g.map V.ref):=Ax.of m;have M:=A.length;refine⟨_,W,l,W,⟨_,L⟩,?_⟩;refine LP g.length (λi=>(g.map V.ref).getD i .Al) (λD i B=>AF H B/\B D=Z (.lst<|(((d.take i).map λy=>GG a<|some y).map V.bl))) (λD n=>⟨AF.new n,AD⟩) (λD i o p ⟨c,_⟩=>⟨_,_,Ax.of<|c _ _ m,yZ<|by simp;exact p⟩) (λD i o v Q p ⟨c,_⟩ y=>?_) (λD o ⟨c,_⟩=>⟨_,Ax.of<|c _ _ m,z_⟩) (λD i o n p ⟨c,r⟩=>?_) λD o n ⟨c,r⟩=>?_
 .obtain⟨e,y⟩:=y;refine⟨?_,e⟩;rw[cr,y _<|Ax.of<|c _ _ m];rfl
 .obtain⟨t,j⟩:=HK g i p;obtain⟨N,k,x⟩:=A.get j;have O:(g.map V.ref).getD i .Al=.ref t:=by rw[cr,f8,j];rfl
  rw[O];refine⟨_,W,_,W,u,.ref t,a,Z N,W,s.up c,⟨t,W,c _ _ x⟩,G,λR e=>by cases e;exact I _<|yc k,λS C=>⟨_,C _ _ r,As<|by simp;exact al (A8 _ _)<|al J ac,(c.trans C).put n,?_⟩⟩;rw[AD,yz,k];simp
 .rw[M,v7]at r;refine⟨D,d.map λy=>GG a<|some y,W,Ax.of r,?_⟩;have e:(d.map λy=>GG a<|some y).any id=Dm a d:=by unfold Dm;rw[List.any_map];rfl
  rw[e];exact q _ c
theorem Jt(F:Fq K "holder_of_coming" 29 f j)(T:Txt mg)(a:Df P w K mg base "comes_to" lqf 4 Ep):BA P w K mg base DC 5 f j lqf TL:=by
 refine F.oq ["row","coming"] λH _ _ d _ m h=>?_;obtain⟨r,b,g,i,p,rfl,R,q⟩:=h;refine⟨_,(AB (Ad 1 d<|Au a m<|AY<|pv 0)<|AB (AU (AJ HS (pv 1) A'<|AL _) (AE<|AI A') AK)<|AE<|AI<|Bh K 1),?_⟩;refine⟨_,W,r,b,g,i,p,W,R,λv u k c=>?_⟩;unfold JZ at c;have e:HI b g i=if DX (.str b) B'=true then Z (CW b g i).dropLast else none:=rfl;by_cases l:DX (.str b) B'=true
 .rw[if_pos l]at c e;obtain⟨t,n,x,rfl,o,s,y⟩:=c;refine⟨_,W,W,_,W,Ah ⟨_,W,t,_,0,_,W,W,Ae.of o,Ed,q _ _ k ?_⟩⟩;rw[e];exact⟨n,W,s⟩
 .rw[if_neg l]at c e;subst c;refine⟨_,W,W,_,W,An<|q _ _ k ?_⟩;rw[e];rfl
theorem NJ{X:m9}(F:Fq K "spoils_read" 30 f X)(T:Txt mg)(l:Df P w K mg base "gone_by" lqf 1 (Kl [.str "take",.str "change"]))(k:Df P w K mg base "moved_by" lqf 1 JY)(o:Df P w K mg base "reads" lqf 1 (Kl [.str "ask",.str "copy"]))(a:Df P w K mg base "does_begin" lqa 2 LV)(d:Df P w K mg base "holder_of_coming" lqf 5 TL):BA P w K mg base DC 6 f X lqa (Fh Im):=by
 refine F.oq ["one","other","path","moved"] λH _ _ u _ s h=>?_;obtain⟨r,g,i,Y,p,J,e,b,j,D,rfl,R,R2,q⟩:=h;refine⟨_,(AB (Ad 2 u<|Au o s<|AY<|pv 0)<|AB (Ad 3 u<|Au k s<|AY<|pv 1)<|AB (AU (PW.pt<|pw_or (Ag<|Au a s<|AA (pv 2)<|AY<|Au l s<|AY<|pv 1)<|pw_or1<|Ag<|Au a s<|AA (pv 2)<|AY<|Au d s<|AY<|pv 1) (AE<|AI GL) AK)<|AE<|AI<|Dp (Au a s<|AA (pv 2)<|AY<|pv 3)<|D_<|Bm (Oz<|CD.Cm s) (pv 2) (pv 3)<|AL _),?_⟩;refine⟨_,W,r,g,i,Y,p,W,R,λH1 E=>?_⟩;have a1:=TK (w:=g) (ws:=[.str "ask",.str "copy"])<|E _ _ R.hp;have eR:(if DX (.str g) [.str "ask",.str "copy"]=true then Z i else ν)=Cr g i:=rfl;rw[eR]at a1;have G:=Pc (w:=g) R.sx;generalize(if DX (.str g) [.str "ask",.str "copy"]=true then V.ref p else V.Al)=pv at a1⊢;have m:=R2.up E;refine⟨_,W,J,e,b,j,D,W,m,?_⟩;have a2:=Jf (w:=e) m.hp;have ζ:=FN (w:=e) R2.sx;generalize(if decide (V.str e=.str "move")=true then V.ref D else V.Al)=mv at a2⊢;refine⟨_,W,_,W,J,e,b,j,D,W,m,λH2 v=>?_⟩;have a3:=TK (w:=e) (ws:=[.str "take",.str "change"]) (m.up v).hp;have sG:=Ko (w:=e) R2.sx;have eG:(if DX (.str e) [.str "take",.str "change"]=true then Z b else ν)=Fg e b:=rfl;rw[eG]at a3;refine⟨_,_,Cr g i,Fg e b,W,a1.up v,a3,G,sG,λH3 L=>⟨_,W,?_⟩⟩;have M:=E.trans<|v.trans L;have eS:Im g i Y e b j=(GG (Cr g i) (Fg e b)||GG (Cr g i) (HI e b j)||(GG (Cr g i) (CB e b)&& !decide (Cr g i=CB e b))):=rfl;cases c1:GG (Cr g i) (Fg e b)with
 |true=>
  refine An<|An ?_;have:=q H3 M;rw[eS,c1]at this;exact this
 |false=>
 refine Ah ⟨_,W,_,W,J,e,b,j,D,W,(m.up v).up L,λhv H4 s4 ah=>?_⟩;have x:=v.trans<|L.trans s4;refine⟨_,_,Cr g i,HI e b j,W,a1.up x,ah,G,Kp R2.sx R2.sz,λH5 s5=>⟨_,W,?_⟩⟩;have n:=x.trans s5;have y:=E.trans n;cases c2:GG (Cr g i) (HI e b j)with
 |true=>
  refine An ?_;have:=q H5 y;rw[eS,c1,c2]at this;exact this
 |false=>
 refine Ah ⟨_,W,_,W,_,_,Cr g i,CB e b,W,a1.up n,a2.up n,G,ζ,λH6 N=>?_⟩;have O:=y.trans N;have t:=q H6 O;rw[eS,c1,c2]at t;cases c3:GG (Cr g i) (CB e b)with
 |false=>
  rw[c3]at t;exact⟨_,W,Ah t⟩
 |true=>
  rw[c3]at t;refine⟨_,W,An ?_⟩;have a16:=a1.up<|n.trans N;have a26:=a2.up<|n.trans N;cases A:Cr g i with
  |none=>rw[A]at c3;cases c3|some B=>
   cases I:CB e b with
   |none=>rw[A,I]at c3;cases c3|some C=>
    rw[A]at a16;rw[I]at a26;obtain⟨p5,rfl,h5⟩:=a16;obtain⟨p6,rfl,h6⟩:=a26;have Q:=G B A;have S:=ζ C I;refine⟨_,W,_,W,p5,p6,B,C,W,W,Ae.of h5,Ae.of h6,(λz U=>(Q z U).flat),(λz U=>(S z U).flat),?_⟩;rw[A,I]at t;have ee:BV B C=decide ((Z B:Option (List V))=Z C):=by
     by_cases c:B=C
     .rw[decide_eq_true<|by rw[c],(Bc Q S).mpr c]
     .rw[decide_eq_false<|GE c];exact yj.mpr λz=>c<|(Bc Q S).mp z
    rw[ee];exact t
theorem Rz{u:m9}(F:Fq K "bars_same" 31 f u)(T:Txt mg)(b:Df P w K mg base "bars" lqf 5 Sv):BA P w K mg base DC 6 f u lqa (Fh Ef):=by
 refine F.oq lqa λH _ _ _ _ k h=>?_;obtain⟨r,d,e,g,p,B,n,i,j,C,rfl,R,R2,q⟩:=h;refine gen (AE<|AI<|Dp (Bm Ll (Bh K 0) AN<|AL _)<|Dp (Bm Ck (Au b k<|AY<|pv 0) A'<|AL _)<|D_<|Bm (fJ (CD.units k):EN _ _ jM) (Au b k<|AY<|pv 0) (Au b k<|AY<|pv 1)<|AL _) λX D=>?_;obtain⟨a,rest,E,G,_⟩:=R.ex;have eS:Ef d e g n i j=(!decide (d="lacks")&&(Gf d e g).isSome&&decide (Gf d e g=Gf n i j)):=rfl;rw[eS]at q;subst D;refine⟨_,W,a,_,0,.str d,E,W,Ae.of G,Ed,W,_,W,?_⟩;have I:decide (V.str d=V.str "lacks")=decide (d="lacks"):=by
  by_cases c:d="lacks"
  .rw[decide_eq_true c,decide_eq_true<|by rw[c]]
  .rw[decide_eq_false c,decide_eq_false<|GE c]
 rw[I];cases x:decide (d="lacks")with
 |true=>
  have:=q H<|AF.refl _;rw[x]at this;exact Ah this
 |false=>
 rw[x]at q;refine An ⟨_,W,r,d,e,g,p,W,R,λv J l L=>?_⟩;have m:=Pd L;have nb:(!decide (v=V.Al))=(Gf d e g).isSome:=by
  cases y:Gf d e g with
  |none=>rw[y]at m;rw[show v=V.Al from m];rfl|some M=>rw[y]at m;obtain⟨t,N,O,rfl,_⟩:=m;rfl
 refine⟨W,_,W,?_⟩;rw[nb];cases c1:(Gf d e g).isSome with
 |false=>
  have:=q J l;rw[c1]at this;exact Ah this
 |true=>
  rw[c1]at q;refine An ⟨_,W,r,d,e,g,p,W,R.up l,λQ S z o=>⟨_,W,B,n,i,j,C,W,(R2.up l).up z,λU Y A s=>?_⟩⟩;exact⟨_,_,(Pd o).up A,Pd s,Io R.sx R.sz,Io R2.sx R2.sz,q _<|(l.trans z).trans A⟩
theorem NK{C:m9}(F:Fq K "bars_needed" 32 f C)(T:Txt mg)(b:Df P w K mg base "needs" lqf 5 PB)(i:Df P w K mg base "bars" lqf 5 Sv)(a:Df P w K mg base "begins_some" lqC 3 KL):BA P w K mg base DC 6 f C lqa (Fh FR):=by
 refine F.oq ["one","other","barred"] λH _ _ z _ A h=>?_;obtain⟨r,n,o,s,p,M,u,c,d,N,rfl,R,R2,q⟩:=h;refine⟨_,(AB (Ad 2 z<|Au i A<|AY<|pv 0)<|AE<|AI<|Dp (Bm Ck (pv 2) A'<|AL _)<|D_<|Au a A<|AA (AQ Bn (Bh K 2)<|AX<|AY<|Bh K 2)<|AY<|Au b A<|AY<|pv 1),?_⟩;refine⟨_,W,r,n,o,s,p,W,R,λv O D Q=>?_⟩;have x:=Pd Q;have eS:FR n o s u c d=Dm (Gf n o s) (Bs u c d):=rfl;rw[eS]at q;cases y:Gf n o s with
 |none=>
  rw[y]at x q;rw[show v=V.Al from x];refine⟨_,W,W,_,W,Ah ?_⟩;have:=q O D;have S:Dm ν (Bs u c d)=false:=by unfold Dm;simp[GG]
  rw[S]at this;exact this
 |some E=>
  have U:=Yd y R.lx R.lz;have X:=Io R.sx R.sz E y;rw[y]at x q;obtain⟨t,Y,lv,rfl,G,ζ,hg⟩:=x;have B:=Gx hg;refine⟨_,W,W,_,W,An ⟨_,W,t,_,0,_,W,W,Ae.of G,Ed,_,W,t,_,1,_,W,W,Ae.of G,C',BG,.mk λg I dA J j=>?_⟩⟩;refine⟨Y,g,_,_,W,W,J _ _ ζ,j,Ao<|by simp;exact al U ac,λg2 H2 s2 k=>?_⟩;rw[<-B]at k;have m:=D.trans<|J.trans s2;exact⟨_,W,M,u,c,d,N,W,R2.up m,λl ps H3 L nl hl tu=>⟨_,Z E,l,ps,_,W,⟨g2,W,L _ _ k⟩,(λus e=>by cases e;exact X),hl,tu,Km R2.sx R2.sz,al OB ac,λH4 s4=>q _<|(m.trans L).trans s4⟩⟩
theorem QG(F:Fq K "moves_same" 33 f m)(T:Txt mg)(a:Df P w K mg base "moved_by" lqf 1 JY):BA P w K mg base DC 6 f m lqa (Fh Du):=by
 refine F.oq lqa λH _ _ _ _ j h=>?_;obtain⟨r,b,e,l,p,n,k,d,g,o,rfl,R,R2,q⟩:=h;refine⟨_,(AE<|AI<|Dp (Bm Ck (Au a j<|AY<|pv 0) A'<|AL _)<|D_<|Bm (fI (CD.Cm j):EN _ _ jL) (Au a j<|AY<|pv 0) (Au a j<|AY<|pv 1)<|AL _),?_⟩;refine⟨_,W,r,b,e,l,p,W,R,?_⟩;have a1:=Jf (w:=b) R.hp;have eS:Du b e l k d g=((CB b e).isSome&&decide (CB b e=CB k d)):=rfl;have i:=q H<|AF.refl _;rw[eS]at i;have nb:(!decide ((if decide (V.str b=.str "move")=true then V.ref p else V.Al)=V.Al))=(CB b e).isSome:=by
  unfold CB;by_cases c:b="move"
  .rw[if_pos c,if_pos<|by rw[c];decide];rfl
  .rw[if_neg c,if_neg<|GE c];rfl
 refine⟨W,_,W,?_⟩;rw[nb];cases c1:(CB b e).isSome with
 |false=>
  rw[c1]at i;exact Ah i
 |true=>
  rw[c1]at i;refine An ⟨_,W,r,b,e,l,p,W,R,_,W,n,k,d,g,o,W,R2,?_⟩;exact⟨CB b e,CB k d,a1,Jf R2.hp,FN R.sx,FN R2.sx,i⟩
theorem QH(F:Fq K "moves_into" 34 f j)(T:Txt mg)(c:Df P w K mg base "moved_by" lqf 1 JY)(b:Df P w K mg base "does_begin" lqa 2 LV)(a:Df P w K mg base "holder_of_coming" lqf 5 TL):BA P w K mg base DC 6 f j lqa (Fh DK):=by
 refine F.oq lqa λH _ _ _ _ i h=>?_;obtain⟨r,g,k,n,p,o,l,d,e,s,rfl,R,R2,q⟩:=h;refine⟨_,(AE<|AI<|Au b i<|AA (Au c i<|AY<|pv 0)<|AY<|Au a i<|AY<|pv 1),?_⟩;refine⟨_,W,r,g,k,n,p,W,R,?_⟩;have a1:=Jf (w:=g) R.hp;generalize(if decide (V.str g=.str "move")=true then V.ref p else V.Al)=mv at a1⊢;exact⟨_,W,o,l,d,e,s,W,R2,λv x m t=>⟨_,_,CB g k,HI l d e,W,a1.up m,t,FN R.sx,Kp R2.sx R2.sz,λy u=>q _<|m.trans u⟩⟩
theorem KS{I:m9}(F:Fq K "clashes_one_way" 35 f I)(T:Txt mg)(s:Df P w K mg base "gone_by" lqf 1 (Kl [.str "take",.str "change"]))(t:Df P w K mg base "needs" lqf 5 PB)(i:Df P w K mg base "begins_some" lqC 3 KL)(j:Df P w K mg base "spoils_read" lqa 6 (Fh Im))(o:Df P w K mg base "bars_same" lqa 6 (Fh Ef))(k:Df P w K mg base "bars_needed" lqa 6 (Fh FR))(n:Df P w K mg base "moves_same" lqa 6 (Fh Du))(c:Df P w K mg base "moves_into" lqa 6 (Fh DK)):BA P w K mg base DC 7 f I lqa (Fh Er):=by
 refine F.oq lqa λH _ _ _ _ u h=>?_;obtain⟨r,d,e,m,p,C,g,a,b,D,rfl,R,R2,q⟩:=h;refine gen (AB (AU (PW.pt<|pw_or (Ag<|Au i u<|AA (Au s u<|AY<|pv 0)<|AY<|Au t u<|AY<|pv 1)<|pw_or1<|Ag<|Au j u<|AA (pv 0)<|AY<|pv 1) (AE<|AI GL) AK)<|AB (AU (PW.pt<|pw_or (Ag<|Au o u<|AA (pv 0)<|AY<|pv 1)<|pw_or (Ag<|Au k u<|AA (pv 0)<|AY<|pv 1)<|pw_or1<|Ag<|Au n u<|AA (pv 0)<|AY<|pv 1) (AE<|AI GL) AK)<|AE<|AI<|Dp (Au c u<|AA (pv 0)<|AY<|pv 1)<|D_<|Au c u<|AA (pv 1)<|AY<|pv 0) λX L=>?_;have eS:Er d e m g a b=(Dm (Fg d e) (Bs g a b)||Im d e m g a b||Ef d e m g a b||FR d e m g a b||Du d e m g a b||(DK d e m g a b&&DK g a b d e m)):=rfl;rw[eS]at q;subst L;refine⟨_,W,r,d,e,m,p,W,R,λH1 E=>?_⟩;have a1:=TK (w:=d) (ws:=[.str "take",.str "change"])<|E _ _ R.hp;have M:(if DX (.str d) [.str "take",.str "change"]=true then Z e else ν)=Fg d e:=rfl;rw[M]at a1;generalize(if DX (.str d) [.str "take",.str "change"]=true then V.ref p else V.Al)=gv at a1⊢;refine⟨_,W,C,g,a,b,D,W,R2.up E,λl N H2 J nl O Q=>?_⟩;have G:=E.trans J;refine⟨_,Fg d e,l,N,_,W,a1.up J,Ko R.sx,O,Q,Km R2.sx R2.sz,al OB ac,λS U=>⟨_,W,?_⟩⟩;have v:=G.trans U;cases c1:Dm (Fg d e) (Bs g a b)with
 |true=>
  have:=q S v;rw[c1]at this;exact An (An this)
 |false=>
 rw[c1]at q;refine Ah ⟨_,W,_,W,r,d,e,m,p,C,g,a,b,D,W,R.up v,R2.up v,λY ζ=>⟨_,W,?_⟩⟩;have x:=v.trans ζ;cases c2:Im d e m g a b with
 |true=>
  have:=q Y x;rw[c2]at this;exact An this
 |false=>
 rw[c2]at q;refine Ah ⟨_,W,_,W,r,d,e,m,p,C,g,a,b,D,W,R.up x,R2.up x,λH5 s5=>⟨_,W,?_⟩⟩;have y:=x.trans s5;cases c3:Ef d e m g a b with
 |true=>
  have:=q H5 y;rw[c3]at this;exact An (An this)
 |false=>
 rw[c3]at q;refine Ah ⟨_,W,_,W,r,d,e,m,p,C,g,a,b,D,W,R.up y,R2.up y,λH6 s6=>⟨_,W,?_⟩⟩;have z:=y.trans s6;cases c4:FR d e m g a b with
 |true=>
  have:=q H6 z;rw[c4]at this;exact An (An this)
 |false=>
 rw[c4]at q;refine Ah ⟨_,W,_,W,r,d,e,m,p,C,g,a,b,D,W,R.up z,R2.up z,λH7 s7=>⟨_,W,?_⟩⟩;have A:=z.trans s7;cases c5:Du d e m g a b with
 |true=>
  have:=q H7 A;rw[c5]at this;exact An this
 |false=>
 rw[c5]at q;refine Ah ⟨_,W,_,W,r,d,e,m,p,C,g,a,b,D,W,R.up A,R2.up A,λH8 s8=>⟨_,W,?_⟩⟩;have B:=A.trans s8;cases c6:DK d e m g a b with
 |false=>
  have:=q H8 B;rw[c6]at this;exact Ah this
 |true=>
  rw[c6]at q;exact An ⟨_,W,_,W,C,g,a,b,D,r,d,e,m,p,W,R2.up B,R.up B,λH9 s9=>q _<|B.trans s9⟩
theorem Tg{k:m9}(F:Fq K "clashes" 36 f k)(T:Txt mg)(a:Df P w K mg base "clashes_one_way" lqa 7 (Fh Er)):BA P w K mg base DC 8 f k lqa (Fh DM):=by
 refine F.oq lqa λH _ _ _ _ l h=>?_;obtain⟨r,d,e,g,p,m,i,b,c,n,rfl,R,R2,q⟩:=h;refine⟨_,(AE<|AI<|cU (Au a l<|AA (pv 0)<|AY<|pv 1)<|D_<|Au a l<|AA (pv 1)<|AY<|pv 0),?_⟩;refine⟨_,W,_,W,r,d,e,g,p,m,i,b,c,n,W,R,R2,λo j=>⟨_,W,?_⟩⟩;have eS:DM d e g i b c=(Er d e g i b c||Er i b c d e g):=rfl;rw[eS]at q;cases c1:Er d e g i b c with
 |true=>
  have:=q o j;rw[c1]at this;exact An this
 |false=>
  rw[c1]at q;exact Ah ⟨_,W,_,W,m,i,b,c,n,r,d,e,g,p,W,R2.up j,R.up j,λt s=>q _<|j.trans s⟩
theorem NL{Q:m9}(F:Fq K "coming_over" 37 f Q)(T:Txt mg)(c:Df P w K mg base "is_place" lqF 1 Fw)(d:Df P w K mg base "comes_to" lqf 4 Ep)(a:Df P w K mg base "place_behind" lqv 5 PN)(n:Df P w K mg base "after" ["path","row"] 7 PX):BA P w K mg base DC 8 f Q lqu Mb:=by
 refine F.oq ["one","other","first","coming","step"] λH _ _ u _ G h=>?_;obtain⟨r,m,o,s,p,I,x,i,l,S,J,ys,rfl,R,R2,hc,y,q⟩:=h;refine⟨_,(AB (Ad 3 u<|Au d G<|AY<|pv 0)<|AB (Ad 4 u<|Bh K 3)<|AB (AU (Ag<|Au c G<|AY<|pv 4) (AE<|Ad 4 u<|Au a G<|AA (Bh K 3)<|AA (pv 4)<|AA (pv 1)<|AY<|Oe<|pv 2) AK)<|AE<|AI<|AQ Bn (Au n G<|AA (Bh K 3)<|AY<|pv 1)<|AX<|AY<|pv 4),?_⟩;refine⟨_,W,r,m,o,s,p,W,R,λv H1 U L=>?_⟩;unfold JZ at L;rw[if_pos hc]at L;obtain⟨t,V,A,rfl,M,X,Y⟩:=L;have st:=Bx (w:=m) R.sx R.sz;have ζ:Dc.Bq A:=st A<|yu Y;have sd:Aa (CW m o s).dropLast:=λz hz=>st z<|n8 _ hz;have gl:(CW m o s).getLastD .Al=A:=by rw[uW,Y];rfl
 have lt:=bH (w:=m) R.lx R.lz;have ld:(CW m o s).dropLast.length<=100:=by rw[yw];lia
 obtain⟨C,ea,ey⟩:∃C,BQ x i l (CW m o s).dropLast=Z C/\C++[E' (CW m o s).dropLast x i l (!J) A]=ys:=by
  unfold Bt at y;rw[gl]at y;cases e:BQ x i l (CW m o s).dropLast with
  |none=>rw[e]at y;cases y|some C=>rw[e]at y;exact⟨C,W,yb y⟩
 have D:=R2.up U;have lh:=Gg ea;have N:=R2.lz;refine⟨_,W,t,_,1,_,W,W,Ae.of M,C',?_⟩;dsimp only[Bv];refine DY (t:=Kx _ _ _) (fun σ H'=>σ=[Z r,Z I,Z<|.bl J,Z<|.ref t,Z<|E' (CW m o s).dropLast x i l (!J) A]/\AF H1 H') (fun σ' H2 z=>?_) λk=>?_
 .obtain⟨rfl,B⟩:=z;refine⟨_,W,t,_,0,_,W,W,Ae.of<|B _ _ M,Ed,_,W,V,_,I,x,i,l,S,W,B _ _ X,sd,ld,D.up B,λav H3 s3 af=>?_⟩;rw[ea]at af;obtain⟨b,rfl,hb⟩:=af;refine⟨_,W,BG,.mk λg vq dA sg E=>?_⟩;refine⟨b,g,_,_,W,W,sg _ _ hb,E,Ao<|by simp only[j5];exact al (io (al lh<|tt N ld) _) ac,λg2 H4 s4 O=>q g2 H4 ((((U.trans B).trans s3).trans sg).trans s4) ?_⟩;rw[<-ey];exact O
 .refine⟨_,W,A,W,ζ,_,W,?_⟩;rcases ζ with⟨j,rfl⟩|⟨kk,rfl,_⟩
  .refine An ⟨_,W,t,_,0,_,W,W,Ae.of M,Ed,_,W,_,W,_,W,_,W,V,_,_,I,x,i,l,S,_,W,X,sd,D,λH2 B=>k _ _ ⟨W,B⟩⟩
  .exact Ah<|k _ _ ⟨W,AF.refl _⟩
theorem LI{D:m9}(F:Fq K "behind_taking" 38 f D)(T:Txt mg)(c:Df P w K mg base "is_place" lqF 1 Fw)(a:Df P w K mg base "place_into" lqB 2 Sr)(b:Df P w K mg base "with_place" lqw 1 Ss):BA P w K mg base DC 3 f D lqG OH:=by
 refine F.oq ["to","path","holder","place"] λH U _ o _ v h=>?_;obtain⟨t,p,m,x,rfl,E,G,nx,sz,I,lz,J,q⟩:=h;refine gen (AB (Ad 2 o<|Ai BO (pv 1) Az<|Aw<|Bo BJ AG)<|AB (Ad 3 o<|Au a v<|AA (pv 0)<|AY<|pv 2)<|AB (AU (PW.pt<|pw_or (AJ HS (pv 3) A'<|AL _)<|pw_or (ES<|Ag<|Au c v<|AY<|CS (r:=Dz K) Bj (pv 1) (Bo BJ AG) λ_ _=>rfl)<|pw_or1<|AJ iN (pv 3) (CS (r:=Dz K) Bj (pv 1) (Bo BJ AG) λ_ _=>rfl)<|AL _) (AE<|AI<|pv 0) AK)<|AE<|AI<|Au b v<|AA (pv 0)<|AA (pv 2)<|AY<|AQ Lk (pv 3) AG) λX V=>?_;obtain⟨d,n,rfl⟩:∃d n,x=d++[n]:=⟨x.dropLast,x.getLast nx,(f6 nx).symm⟩;have L:Aa d:=λz y=>I z<|b9 _ y;have M:Dc.Bq n:=I n z_;subst V;refine⟨_,W,_,W,_,W,p,_,W,G,λh H1 N A=>?_⟩;rw[Bd]at A;refine⟨_,W,_,W,t,h,m,d,W,N _ _ E,A,sz,L,λO Q=>?_⟩;have l:=N.trans Q;have s:=l _ _ E;have u:=l _ _ G;have B:=Q _ _ A;have Y:d.length<=400:=by simp only[d7,g7,u7]at J;exact al (gT _ _) J
 have keep:Ca m (d++[n])=m->U.rt (.ref t) O:=λe=>q t O l (by rw[e];exact s);cases C:(BV (m.take d.length) d&&decide (d.length<m.length)&&Nw (m.getD d.length .Al))with
 |false=>
  rw[Ny C];exact⟨_,W,W,_,W,Ay W<|An ⟨_,W,keep<|RZ C⟩⟩
 |true=>
 obtain⟨i,g,e,R,ζ⟩:=Nx sz C;rw[e];refine⟨_,W,W,_,W,Aj W ⟨_,W,_,W,p,_,_,_,W,W,Ae.of u,BS d n,_,W,M,_,W,?_⟩⟩;rcases M with⟨j,rfl⟩|⟨k,rfl,_⟩
 .refine Ah ?_;refine⟨_,W,_,W,_,W,p,_,_,_,W,W,Ae.of u,BS d _,_,_,W,W,_,W,?_⟩;have S:=TN (j:=(j:Int)) g R;refine Bu (λc1=>⟨_,W,keep<|by rw[S];exact if_neg<|by have:=of_decide_eq_true c1;lia⟩) (λc1=>?_);have n1:(j:Int)<(i:Int):=by
   have:¬(i:Int)<=(j:Int):=λz=>c1<|decide_eq_true z;lia
  refine⟨_,W,_,W,_,W,_,_,W,W,t,h,m,d,_,W,s,B,lz,Y,λq' H3 s3 hq=>q q' H3 (l.trans s3) ?_⟩;rw[S,if_pos n1,<-DQ (GZ (λz y=>sz z<|i1 y) L R) ζ];exact hq
 .exact An<|An ⟨_,W,keep TM⟩
theorem br(F:Fq K "over" 39 f fd)(T:Txt mg)(C:Df P w K mg base "copy_of" lqH 2 Qt)(I:Df P w K mg base "after" ["path","row"] 7 PX)(M:Df P w K mg base "clashes" lqa 8 (Fh DM))(d:Df P w K mg base "coming_over" lqu 8 Mb)(l:Df P w K mg base "behind_taking" lqG 3 OH):BA P w K mg base DC 9 f fd lqu VD:=by
 refine F.oq ["one","other","first","word","path"] λH _ _ NG _ hr h=>?_;obtain⟨r,j,m,J,p,r2,S,s,k,p2,fi,us,ws,rfl,RX,R2,U,lz,sI,u,Vb,nc,Y,q⟩:=h;refine gen (AB (AU (Ag<|Au M hr<|AA (pv 0)<|AY<|pv 1) (AE bJ) AK)<|AB (Ad 3 NG<|Bh K 0)<|AB (AU (AJ BE (pv 3) AN<|AL _) (AE<|AI<|AX<|AA (pv 3)<|AA (Au d hr<|AA (pv 0)<|AA (pv 1)<|AY<|pv 2)<|AY<|Au C hr<|AY<|Bh K 0) AK)<|AB (AU (AJ BE (pv 3) AN<|AL _) (AE<|AI<|AX<|AA (pv 3)<|AY<|AQ Bn (Au I hr<|AA (Ai BO (Bh K 0) Az<|Aw<|Bo BJ AG)<|AY<|pv 1)<|Ai BO (Bh K 0) (Aw<|Bo BJ AG) Az) AK)<|AB (Ad 4 NG<|Au I hr<|AA (Bh K 0)<|AY<|pv 1)<|AB (AU (AJ BE (pv 3) AN<|AL _) (AE<|AI<|AX<|AA (pv 3)<|AA (pv 4)<|AY<|Au l hr<|AA (Au d hr<|AA (pv 0)<|AA (pv 1)<|AY<|pv 2)<|AY<|pv 4) AK)<|AB (AU (AJ BE (pv 3) AN<|AL _) (AE<|AI<|AX<|AA (pv 3)<|AA (pv 4)<|AY<|Au d hr<|AA (pv 0)<|AA (pv 1)<|AY<|pv 2) AK)<|AB (AU (AJ (CI:EN _ _ (SE K false)) (pv 3) (AX<|AA AN<|AY AN) W) (AE<|AI<|AX<|AA (pv 3)<|AA (pv 4)<|AY<|Au C hr<|AY<|Bh K 0) AK)<|AE<|AI<|AQ Bn (AX<|AA (pv 3)<|AY<|pv 4)<|Ai BO (pv 0) (Aw AG) Az) λX hX=>?_;have R:=RX.rw;obtain⟨a,rest,rfl,ha,T3⟩:=RX.th;have n0:Aa ([]:List V):=λz hz=>nomatch hz;have vu:S="move"->k≠[]:=λh=>R2.nz<|.inr h;subst hX;refine⟨_,W,_,W,_,j,m,J,p,r2,S,s,k,p2,W,R,R2,λH1 s1=>⟨_,W,?_⟩⟩;rw[nc];refine Ah ?_;have N:=s1 _ _ ha;have T1:=T3.up s1;have R1:=R.up s1;have mJ:=R2.up s1;refine⟨_,W,a,_,0,_,W,W,Ae.of N,Ed,?_⟩;by_cases D:j="put"
 .subst D;obtain⟨v,rfl,E,ζ,y,v_⟩:=T3.pc<|.inl W;have Ww:=Dc.AS s1 E;obtain⟨c,i⟩:=FT (fi:=fi) ac nc;have eo:Fi "put" m J S s k fi=Z (c,[]):=by unfold Fi;rw[if_pos W,i];rfl
  rw[eo]at Y;cases Y;have nx:=R.nx<|.inl W;have et:CW "put" m J=m:=rfl;refine⟨_,W,W,_,W,Ay ac ⟨_,W,_,W,_,W,_,W,_,"put",m,J,p,r2,S,s,k,p2,fi,_,W,R1,mJ,ac,i,λt H2 L f'=>⟨_,W,a,_,2,_,W,W,Ae.of<|L _ _ N,at2,v,W,Dc.AS L Ww,Dc.JO v<|g8 y ac,al y ac,λv' H3 Fv A=>⟨DO,.mk λb wA hb B jv=>?_⟩⟩⟩⟩;have s3:=(s1.trans L).trans<|Fv.same.trans B;refine q a b _ _ t _ s3 W ha (Ip jv (B _ _<|Fv.same _ _ f') (Gy R.sx R.sz R2.sx R2.sz (by rw[et];exact nx) i) (by have:=Mc U lz u i;exact al this ac) ac (λ_=>Pf i) (Gw.val (.inl W) (Dc.AS B Fv.at_) (Dc.Eo v v' A ζ) (by rw[<-Dc.Cd v v' A];exact y)<|v_.of<|Ue (Dc.AS L Ww) Fv.at_ A) n0 ac λh=>absurd h ac) jv W ⟨λ_=>⟨v,v',W,E,ζ,al y ac,W,A,(Fv.down<|s1.trans L).up B⟩,λh=>absurd h ac⟩
 refine⟨_,W,W,_,W,Aj (LW D) ?_⟩;by_cases jw:j="lacks"
 .subst jw;have nx:=R.nx<|.inr<|.inl W;obtain⟨O,lv,e⟩:∃O lv,m=O++[lv]:=⟨m.dropLast,m.getLast nx,(f6 nx).symm⟩;have ed:m.dropLast=O:=by rw[e,e5]
  obtain⟨hs,hn⟩:=FC (n:=m.dropLast) nc (by unfold Bs nB;rw[if_pos W];simp);have eo:Fi "lacks" m J S s k fi=Z (hs++[lv],[]):=by
   unfold Fi;rw[if_neg ac,if_pos W,hn,e];simp
  rw[eo]at Y;cases Y;rw[ed]at hn;have su:Aa O:=λz hz=>R.sx z (by rw[e];exact b9 _ hz);have sl:Dc.Bq lv:=R.sx lv (by rw[e];simp);have bu:=R1.hp;rw[e]at bu;have lu:O.length<=40:=by rw[e]at U;simp at U;exact al U ac
  refine⟨_,W,W,_,W,Ay ac ⟨_,W,_,W,a,_,1,_,W,W,Ae.of N,C',_,W,_,W,p,_,W,bu,λp3 H2 L QL=>?_⟩⟩;rw[Bd]at QL;refine⟨_,W,p3,O,_,S,s,k,p2,W,QL,su,al lu ac,mJ.up L,λav H3 s3 af=>?_⟩;rw[hn]at af;obtain⟨b3,rfl,mK⟩:=af;have s13:=L.trans s3;refine⟨_,W,a,_,1,_,W,W,Ae.of<|s13 _ _ N,C',_,W,_,W,p,_,W,s13 _ _ bu,λp4 H4 s4 SH=>?_⟩;rw[WQ]at SH;have s14:=s13.trans s4;refine⟨b3,p4,hs,[lv],W,W,s4 _ _ mK,SH,Ao<|by have:=Gg hn;simp;exact al this<|al (tt u lu) ac,λp5 H5 s5 pe=>⟨AW,.mk λb wB hb B jx=>?_⟩⟩;have s15:=s1.trans<|(s14.trans s5).trans B;obtain⟨a',jy,G⟩:=Vb<|.inr<|.inr W;cases jy;have er:rest=[]:=by rw[ha]at G;exact(b8 (b8<|HO.tup.inj<|yb G).2).2
  refine q a b _ _ p5 _ s15 W ha (Ip jx (B _ _ pe) ?_ (by have:=Gg hn;simp;exact al this<|al (tt u lu) ac) ac (λ_=>by simp) (Gw.no ac) n0 ac λh=>absurd h ac) jx (by rw[er])<|Tl.no<|.inr<|.inr<|.inl W;intro z hz;rcases am.mp hz with hz|hz
  .exact F_ R2.sx R2.sz su hn z hz
  .rw[ci.mp hz];exact sl
 refine⟨_,W,W,_,W,Aj (LW jw) ?_⟩;have Zf:=R.wd;simp only[DB,ce,t7,or_false]at Zf;obtain⟨q',jz⟩:=FC (n:=m) nc (by
  have:DX (.str j) MW=true:=by
   rcases Zf with h|rfl|rfl|rfl|rfl|rfl|rfl|h|rfl
   .exact absurd h D
   all_goals first|exact absurd h jw|decide
  unfold Bs nA;rw[if_pos this];simp)
 have Q:=F_ R2.sx R2.sz R.sx jz;have j_:=Gg jz;have gA:m≠[]->q'≠[]:=λh=>Me jz h vu;refine⟨_,W,a,_,1,_,W,W,Ae.of N,C',_,W,p,m,_,S,s,k,p2,W,R1.hp,R.sx,al U ac,mJ,λav H2 L af=>?_⟩;rw[jz]at af;obtain⟨b2,rfl,kA⟩:=af;have ph:=L _ _ N;have T2:=T1.up L;have sJ:=R1.up L;have sM:=mJ.up L;have s02:=s1.trans L;have eo:Fi j m J S s k fi=(if j="move"then(Bt j m J S s k fi).map λc=>(q',Ca c q')else if j="copy"then(Bt j m J S s k fi).map λc=>(q',c)else Z (q',[])):=by
  unfold Fi;rw[if_neg D,if_neg jw,jz];rfl
 rw[eo]at Y;by_cases kB:j="move"
 .subst kB;obtain⟨c,i⟩:=FT (fi:=fi) ac nc;rw[if_pos W,i]at Y;obtain⟨eu,ew⟩:=Prod.mk.inj<|yb Y;subst eu ew;have nx:=R.nx<|.inr<|.inr<|.inr W;have nz:=R.nz<|.inr W;have nt:CW "move" m J≠[]:=by
   show B_ J m≠[];intro z;have:=Cq J m;rw[z]at this;exact nz<|j7 this.symm
  have sc:=Gy R.sx R.sz R2.sx R2.sz nt i;have lc:=Mc U lz u i;obtain⟨pz,er,_⟩:=T3.cm<|.inr W;refine⟨_,W,W,_,W,Ay ac ⟨_,W,_,W,_,W,_,W,_,W,_,"move",m,J,p,r2,S,s,k,p2,fi,_,W,sJ,sM,ac,i,λt H3 s3 pj=>⟨_,W,t,b2,c,q',W,pj,s3 _ _ kA,gA nx,sc,Q,al lc ac,al j_<|al (tt u U) ac,λt2 H4 s4 wC=>⟨DO,.mk λb sN hb B dB=>?_⟩⟩⟩⟩;have kC:=(s3.trans s4).trans B;refine q a b _ _ b2 _ (s02.trans kC) W ha (Ip dB (kC _ _ kA) Q (al j_<|al (tt u U) ac) ac (λ_=>gA nx) (Gw.two (.inr W)<|B _ _ wC) (Pg sc Q) (by rw[Md];exact al lc ac) λ_ z=>?_) dB (by rw[er];rfl)<|Tl.no<|.inr<|.inr<|.inr<|.inr W;have:=Md c q';rw[z]at this;exact Pf i<|j7 this.symm
 refine⟨_,W,W,_,W,Aj (LW kB) ?_⟩;rw[if_neg kB]at Y;by_cases Zy:j="copy"
 .subst Zy;obtain⟨c,i⟩:=FT (fi:=fi) ac nc;rw[if_pos W,i]at Y;obtain⟨eu,ew⟩:=Prod.mk.inj<|yb Y;subst eu ew;have nz:=R.nz<|.inl W;have sc:=Gy R.sx R.sz R2.sx R2.sz (show CW "copy" m J≠[]from nz) i;have lc:=Mc U lz u i;obtain⟨pz,er,_⟩:=T3.cm<|.inl W;refine⟨_,W,W,_,W,Ay ac ⟨_,W,_,W,_,W,_,W,_,W,_,"copy",m,J,p,r2,S,s,k,p2,fi,_,W,sJ,sM,ac,i,λt H3 s3 pj=>⟨DO,.mk λb kD hb B VF=>?_⟩⟩⟩;have sO:=s3.trans B;exact q a b _ _ b2 _ (s02.trans sO) W ha (Ip VF (sO _ _ kA) Q (al j_<|al (tt u U) ac) ac (λh=>absurd h ac) (Gw.two (.inl W)<|B _ _ pj) sc (al lc ac) λ_=>Pf i) VF (by rw[er];rfl)<|Tl.no<|.inr<|.inr<|.inr<|.inl W
 refine⟨_,W,W,_,W,Aj (LW Zy) ?_⟩;rw[if_neg Zy]at Y;obtain⟨eu,ew⟩:=Prod.mk.inj<|yb Y;subst eu ew;refine⟨_,W,AW,λg hg=>⟨g,_,W,.inr<|Ae.of AD,W,W,_,W,?_⟩⟩;have sg:=AF.new (o:=.tup [.str "change",.str "ask"]) hg;generalize upd H2 g (.tup [.str "change",.str "ask"])=H3 at sg⊢;have kE:=sg _ _ ph;have mK:=sg _ _ kA;have s03:=s02.trans sg;have sP:j="copy"∨j="move"->([]:List V)≠[]:=λh=>h.elim (λh=>absurd h Zy) λh=>absurd h kB;have sQ:j="put"∨j="lacks"∨j="take"∨j="move"->q'≠[]:=λh=>gA<|R.nx h;refine Fu (λbI=>?_) λbI=>?_
 .have hw:j="change"∨j="ask":=RW.mp bI;obtain⟨v,er,E,ζ,y,wD⟩:∃v:Dc,rest=[v.val]/\v.At H/\v.ok/\v.size<=40/\(j="change"->v.size<=2/\Dt v):=by
   rcases hw with rfl|rfl
   .obtain⟨v,e,h1,h2,h3,h4⟩:=T3.pc<|.inr W;exact⟨v,e,h1,h2,al h3 ac,λ_=>⟨h3,h4⟩⟩
   .obtain⟨v,e,h1,h2,h3⟩:=T3.ak W;exact⟨v,e,h1,h2,h3,λh=>absurd h ac⟩
  subst er;have Ww:=Dc.AS s03 E;refine⟨_,W,_,W,_,W,a,_,2,_,W,W,Ae.of kE,at2,v,W,Ww,Dc.JO v<|g8 y ac,al y ac,λv' H4 Fv A=>⟨DO,λb hb=>?_⟩⟩;have B:=AF.new (o:=.tup [.str j,.ref b2,v'.val]) hb;have kC:=Fv.same.trans B;have sR:=Dc.Eo v v' A ζ;have sS:=Dc.Cd v v' A;have TT:Gw (upd H4 b<|.tup [.str j,.ref b2,v'.val]) j [] [v'.val]:=by
   rcases hw with rfl|rfl
   .obtain⟨h3,h4⟩:=wD W;exact Gw.val (.inr W) (Dc.AS B Fv.at_) sR (al (bm sS.symm) h3)<|h4.of<|Ue Ww Fv.at_ A
   .exact Gw.ask (Dc.AS B Fv.at_) sR<|al (bm sS.symm) y
  exact q a b _ _ b2 _ (s03.trans kC) W ha (Ip AD (kC _ _ mK) Q (al j_<|al (tt u U) ac) R.wd sQ TT n0 ac sP) AD W ⟨λ_=>⟨v,v',W,E,ζ,y,W,A,(Fv.down s03).up B⟩,λh=>by rw[h]at hw;exact absurd hw ac⟩
 .have sT:j="take"∨j="has"∨j="is":=by
   rcases Zf with h|h|h|h|rfl|rfl|h|h|h
   .exact absurd h D
   .exact .inl h
   .exact absurd h kB
   .exact absurd h Zy
   .exact absurd bI ac
   .exact absurd bI ac
   .exact .inr<|.inl h
   .exact absurd h jw
   .exact .inr<|.inr h
  have lr:rest.length<=1/\Gw H3 j [] rest:=by
   rcases sT with rfl|rfl|rfl
   .obtain⟨a',jy,G⟩:=Vb<|.inl W;cases jy;rw[ha]at G;have er:rest=[]:=(b8 (b8<|HO.tup.inj<|yb G).2).2;exact⟨by rw[er];simp,Gw.no ac⟩
   .obtain⟨a',jy,G⟩:=Vb<|.inr<|.inl W;cases jy;rw[ha]at G;have er:rest=[]:=(b8 (b8<|HO.tup.inj<|yb G).2).2;exact⟨by rw[er];simp,Gw.no ac⟩
   .obtain⟨x,rfl⟩:=T3.is W;exact⟨z_,Gw.rl⟩
  refine⟨_,W,_,W,AW,.mk λg2 H4 R_ sU wF=>⟨_,W,_,W,a,_,W,sU _ _ kE,λg5 H5 s5 sV=>?_⟩⟩;have ec:Gj (V.str j::V.ref p::rest) (Z 2) ν=rest:=by
   have:=Ht (V.str j::V.ref p::rest) 2;simpa using this
  rw[ec]at sV;refine⟨g2,g5,_,_,W,W,s5 _ _ wF,sV,Ao<|by simp;exact al (rs lr.1 _) ac,λb H6 s6 sW=>?_⟩;have s36:=(sU.trans s5).trans s6;exact q a b _ _ b2 _ (s03.trans s36) W ha (Ip sW (s36 _ _ mK) Q (al j_<|al (tt u U) ac) R.wd sQ (lr.2.up s36) n0 ac sP) sW W ⟨λh=>by rcases sT with rfl|rfl|rfl<;>exact absurd h ac,λ_=>rfl⟩
theorem bw(F:Fq K "_law_cell" 41 f c)(T:Txt mg):BA P w K mg base DC 1 f c lqs (Ow K):=by
 refine F.oq lqs λH _ _ _ _ j h=>?_;obtain⟨a,b,k,rfl,d,q⟩:=h;refine⟨_,(AB (AU (AJ IJ (pv 1) (EG K T<|pv 0)<|AL _) (AE<|AI<|AQ BB (Mw K (pv 0)<|pv 1)<|AQ XD AG AG) AK)<|AE<|AI<|AQ Bg AG<|AQ HR AG<|pv 1),?_⟩;refine⟨_,W,_,W,a,_,W,.inl d,_,_,W,W,_,W,?_⟩;refine Bu (λe=>?_) λe=>?_
 .have g:k<b.length:=by
   have:=of_decide_eq_true e;rw[be]at this;lia
  have i:(b.map V.int)[k]?=Z (.int b[k]):=by rw[f8,yZ g];rfl
  exact⟨_,W,_,W,a,_,_,_,W,W,d,Ba i,_,_,W,W,⟨ac,ac,ac⟩,_,_,W,W,Bz,q _<|py _ ac⟩
 .exact⟨_,W,_,_,W,W,.inl FI,_,_,W,W,q _ y_⟩
theorem Zg{o:m9}(F:Fq K "_law_mix" 42 f o)(T:Txt mg):BA P w K mg base DC 1 f o lqd Si:=by
 refine F.oq ["_law_cell_here","_law_k","_law_number","_law_j"] λH r _ a _ t h=>?_;obtain⟨c,k,rfl,s,q⟩:=h;refine⟨_,(AB (AU (PW.pt<|pw_and (AJ BE (AQ BB (pv 0) AG) AG<|AL _)<|pw_and1<|AJ cX (pv 0) (AQ HR AG<|AQ XD AG AG)<|AL _) (AB (Ad 2 a<|AQ Hr (pv 0) AG)<|AB (Za (ET W T.range<|AY<|pv 1) (GA 3 a)<|AE<|Ad 2 a<|AQ Hr (pv 2) AG)<|AE<|AI<|AQ BB (pv 2) AG) AK)<|AB (Ad 2 a<|AQ BB (AQ HR (AQ Bg (pv 0) AG) AG) AG)<|AB (Ad 2 a<|AQ BB (AQ Bg (pv 2)<|AQ HR (AQ Bg (pv 1) AG) AG) AG)<|AB (Ad 2 a<|AQ BB (AQ HR (pv 2)<|pv 2) AG)<|AB (Ad 2 a<|AQ BB (AQ HR (AQ Bg (pv 2) AG)<|AQ Bg (AQ Hr (pv 2) AG) AG) AG)<|AE<|AI<|AQ Hr (pv 2) AG),?_⟩;have lo:∀x:Int,-(2 ^ 64)<x % 2305843009213693951/\x % 2305843009213693951<2 ^ 64:=λx=>by
  have b:=py x (show(2305843009213693951:Int)≠0 by decide);have d:=xz x (show(0:Int)<2305843009213693951 by decide);constructor<;>lia
 have lo1:∀x:Int,-(2 ^ 64)<x % 999999999999999989+1/\x % 999999999999999989+1<2 ^ 64:=λx=>by
  have b:=py x (show(999999999999999989:Int)≠0 by decide);have d:=xz x (show(0:Int)<999999999999999989 by decide);constructor<;>lia
 have p:¬(c % 4=0/\4*10 ^ 60<=c)->r.rt (.int<|(Qq c k+1)*(Qq c k/1000003+7) % 2305843009213693951/7919) H:=λh=>by
  have e:MJ c k=_:=if_neg h;rw[e]at q;exact q
 refine⟨_,W,_,_,W,W,Bz,W,_,W,?_⟩;refine Bu (λb=>?_) λb=>?_
 .refine⟨_,W,_,_,W,W,⟨ac,ac,ac⟩,_,_,W,W,.inl FI,_,_,W,W,_,W,?_⟩;have c4:c % 4=0:=V.int.inj<|of_decide_eq_true b;refine Bu (λd=>?_) (λd=>?_)
  .have g:4*10 ^ 60<=c:=of_decide_eq_true d;have e:MJ c k=_:=if_pos ⟨c4,g⟩;rw[e]at q;refine⟨_,W,_,_,W,W,FI,_,W,_,W,A7 ac<|j9 _,zb (y8.mpr s) ac,GN (lo:=0) (λi j l=>∃(m:Option V),j=[Z<|.int c,Z<|.int (k:Int),Z<|.int<|Xr i<|c/4,m]/\l=H) ⟨ν,W,W⟩ ?_ ?_⟩
   .rintro i j l _ go u ⟨m,rfl,rfl⟩;exact⟨_,W,_,_,W,W,FI,go.n ⟨_,W,W⟩⟩
   .rintro j l ⟨m,rfl,rfl⟩;rw[i6];exact⟨_,W,_,_,W,W,Bz,q⟩
  .have Vb:¬(c % 4=0/\4*10 ^ 60<=c):=λz=>d<|decide_eq_true z.2;exact⟨_,W,_,_,W,W,_,_,W,W,.inr FI,_,_,W,W,Bz,_,W,_,W,_,_,W,W,_,_,W,W,.inr FI,_,_,W,W,_,_,W,W,Bz,_,W,_,W,_,_,W,W,.inl<|lo _,_,_,W,W,Bz,_,W,_,_,W,W,_,W,_,_,W,W,FI,_,_,W,W,_,_,W,W,.inl<|lo1 _,_,_,W,W,Bz,_,W,_,_,W,W,FI,p Vb⟩
 .refine Ah ?_;have Vb:¬(c % 4=0/\4*10 ^ 60<=c):=λz=>b<|decide_eq_true<|congrArg V.int z.1;exact⟨_,W,_,_,W,W,_,_,W,W,.inr FI,_,_,W,W,Bz,_,W,_,W,_,_,W,W,_,_,W,W,.inr FI,_,_,W,W,_,_,W,W,Bz,_,W,_,W,_,_,W,W,.inl<|lo _,_,_,W,W,Bz,_,W,_,_,W,W,_,W,_,_,W,W,FI,_,_,W,W,_,_,W,W,.inl<|lo1 _,_,_,W,W,Bz,_,W,_,_,W,W,FI,p Vb⟩
theorem bx(F:Fq K "_law_mix" 42 f a)(T:Txt mg):BA P w K mg base DC 1 f a lqd HW:=(Zg F T).imp λ_ _ _ _ h=>Xt h
theorem Zh(F:Fq K "_law_names" 43 f fd)(T:Txt mg)(g:Df P w K mg base "_law_mix" lqd 1 Si):BA P w K mg base DC 2 f fd lqJ UO:=by
 refine F.oq ["_law_one","_law_two","_law_letters","_law_word","_law_size","_law_at","_law_shift","_law_names_here","_law_k","_law_sign"] λH _ _ k _ X h=>?_;obtain⟨c,d,rfl,q⟩:=h;refine⟨_,(AB (Ju (i:=2) k W (D9 W) AN)<|AB (Ad 3 k<|NT PySem.F.plainAttrs_str PySem.F.slot_str_join PySem.F.type_str_join aX AN<|AY<|cmp ["_law_letters","_law_one"] [2,0] (ET W T.range<|AY AG) λ_ _ _ _=>(CS XM (pv 1) (AQ BB (Au g X<|AA (pv 2)<|AY<|pv 0) AG) λ_ _=>rfl))<|AB (Ad 4 k<|AQ Bg AG<|AQ BB (Au g X<|AA (pv 1)<|AY AG) AG)<|AB (Ad 5 k<|AQ BB (Au g X<|AA (pv 1)<|AY AG)<|pv 4)<|AB (Ad 6 k<|AQ BB (Au g X<|AA (pv 1)<|AY AG) AG)<|AB (Ad 7 k<|BC Bp)<|AB (Za (ET W T.range<|AY AG) (GA 8 k)<|AE<|AU (AJ BE (AQ BB (Au g X<|AA (pv 1)<|AY AG) AG) AG<|AL _) (AE<|CO<|cj K (pv 7)<|Ai L' (pv 3) Az<|Aw<|AQ Bg (AQ Bg (pv 8) AG)<|AQ BB (pv 6) AG)<|AB (Ad 9 k<|CS XM (pv 2) (AQ BB (AQ Bg (pv 6)<|AQ HR AG<|pv 8) AG) λ_ _=>rfl)<|AE<|CO<|cj K (pv 7)<|AQ Ln (AQ Ln (Ai L' (pv 3) Az<|Aw<|pv 5)<|pv 9)<|Ai L' (pv 3) (Aw<|AQ Bg (pv 5) AG)<|Aw<|pv 4)<|AE<|AI<|pv 7),?_⟩;refine⟨W,8,W,ac,ac,Xf (n:=8) (λi=>.int<|0+(i:Int)) (λ_ v=>i_ v) ac (λi O Q S=>Q) (λi O v H' Q S y=>⟨y.2,y.1⟩) (λO S=>b5 _) (λi O R Q S r=>?_) λD O l hD S d2 ly oy=>?_⟩
 .refine⟨_,W,_,W,_,W,c,i,z_,al (jp Q) ac,?_⟩;obtain⟨ch,x,Y⟩:=Xq (MJ c i % 26) (JN _).1 (JN _).2;exact⟨_,_,W,W,Bz,SF,_,ch,W,W,ac,x,r _ O (AF.refl O) ⟨ch,W,Y⟩⟩
 .obtain⟨B,e1,h1,h2,h3⟩:=Nk l λy C=>by
   obtain⟨j,G,e⟩:=AC.mp C;exact oy j y<|by rw[yZ G,e]
  subst e1;have lz:B.length=8:=by rw[<-ly,be]
  have sz:∀B:List Str,(∀z∈B,z.length=1)->(B.map (·.length)).sum=B.length:=by
   intro B
   induction B with
   |nil=>intro _;rfl|cons z r ih=>
    intro h;rw[i2,abx,ih λy C=>h y<|bi _ C,h z e9,g7];lia
  refine⟨_,D,B,W,W,Ax.of d2,?_,?_⟩
  .rw[sz B h1,lz];decide
  obtain⟨ξ,hW⟩:∃ξ,ξ=abW "" B:=⟨_,W⟩;have I:(sgn ξ).length=8:=by rw[hW,Qj,h2,be,lz]
  have wL:(sgn ξ).all Qi=true:=by rw[hW,Qj];exact h3
  have ζ:ξ.length=8:=by rw[<-IU];exact I
  rw[<-hW];obtain⟨u,wG⟩:∃r,r=MJ d 0:=⟨_,W⟩;refine⟨_,W,d,0,W,ac,_,_,W,W,Bz,_,_,W,W,?_⟩;rw[<-wG];have b1:0<=u % 8/\u % 8<8:=⟨py _ ac,xz _ ac⟩;obtain⟨A,Zw⟩:∃z:Nat,1+u % 8=(z:Int):=⟨(1+u % 8).toNat,y_⟩;have bs:1<=A/\A<=8:=by lia
  obtain⟨r2,mM⟩:∃r,r=MJ d 1:=⟨_,W⟩;refine⟨_,W,d,1,W,ac,_,W,_,_,W,W,(by show(0:Int)<1+u % 8;lia),?_⟩;rw[<-mM];have b2:0<=r2 % (1+u % 8)/\r2 % (1+u % 8)<1+u % 8:=⟨py _ y_,xz _ y_⟩;obtain⟨C',Wi⟩:∃z:Nat,r2 % (1+u % 8)=(z:Int):=⟨(r2 % (1+u % 8)).toNat,(j4 b2.1).symm⟩;have yL:C'<A:=by lia
  obtain⟨r3,wH⟩:∃r,r=MJ d 2:=⟨_,W⟩;refine⟨_,W,d,2,W,ac,_,_,W,W,Bz,?_⟩;rw[<-wH];have b3:=JN r3;obtain⟨o,pw⟩:∃z:Int,z=1+u % 8:=⟨_,W⟩;obtain⟨a,p_⟩:∃z:Int,z=r2 % (1+u % 8):=⟨_,W⟩;obtain⟨b,wI⟩:∃z:Int,z=r3 % 26:=⟨_,W⟩;obtain⟨r4,wJ⟩:∃r,r=MJ d 3:=⟨_,W⟩;obtain⟨s,L⟩:∃s:Nat->Str->Prop,s=λ(j:Nat)(y:Str)=>if r4 % 3=0 then((sgn y).length:Int)=(j:Int)+1+b % 3 else(sgn y)[C']?=Zv[((b+5*(j:Int)) % 26).toNat]?:=⟨_,W⟩;refine⟨gU _,λp hp=>?_⟩;have pf:H p=none:=S.free hp;refine⟨6,W,ac,ac,GN (lo:=0) (n:=6) (λi σ M=>∃(l:List Str)(ok os:Option V),σ=[Z (.int c),Z (.int d),Z (.str SF),Z (.str ξ),Z (.int o),Z (.int a),Z (.int b),Z (.ref p),ok,os]/\
   AF H M/\M p=Z (.lst (l.map V.str))/\l.length=i/\(∀(j:Nat) y,l[j]?=Z y->s j y)/\∀y∈l,CL y=true) ⟨[],ν,ν,by rw[pw,p_,wI];rfl,S.put pf,AD,W,λj y C=>(by simp at C),λy C=>nomatch C⟩ ?_ ?_⟩
  .rintro i σ M _ go Q ⟨l,ok,os,rfl,s3,U,t,pm,ny⟩;have more:∀(y:Str)(oo N:Option V),s i y/\CL y=true->∃(E:List Str)(ok os:Option V),[Z<|V.int c,Z<|V.int d,Z<|V.str SF,Z<|V.str ξ,Z<|V.int o,Z<|V.int a,Z<|V.int b,Z<|V.ref p,oo,N]=
     [Z (V.int c),Z (V.int d),Z (V.str SF),Z (V.str ξ),Z (V.int o),Z (V.int a),Z (V.int b),Z (V.ref p),ok,os]/\
     AF H (upd M p (.lst (l.map V.str++[.str y])))/\upd M p (.lst (l.map V.str++[.str y])) p=Z (.lst (E.map V.str))/\E.length=i+1/\(∀(j:Nat) y,E[j]?=Z y->s j y)/\∀z∈E,CL z=true:=λy oo N C=>
    ⟨l++[y],oo,N,W,s3.put pf,by rw[AD,ca];rfl,by simp[t],λj z G=>by
     by_cases mN:j<l.length
     .rw[i4 mN]at G;exact pm j z G
     .have Y:=HL G;rw[d7,j5]at Y;have e:j=i:=by lia
      subst e;rw[ii<|bm t,t,u5]at G;have e:y=z:=GE G
      rw[<-e];exact C.1,λz hz=>(am.mp hz).elim (ny z) λhz=>by rw[ci.mp hz];exact C.2⟩
   have sX:(l.map V.str).length<sizeLine:=As (by rw[be];exact al (al (bm t)<|jp Q) ac);refine⟨_,W,d,3,W,ac,_,_,W,W,Bz,W,_,W,?_⟩;rw[<-wJ];refine Bu (λh4=>?_) λh4=>?_
   .refine⟨_,W,.inl ⟨W,_,Ax.of U⟩,_,W,_,W,_,_,W,W,_,W,_,_,W,W,Bz,_,_,W,W,_,W,ξ,W,by rw[ζ];decide,p,_,_,W,W,U,sX,go.n<|more _ _ _ ⟨?_,?_⟩⟩
    .have c4:r4 % 3=0:=V.int.inj<|of_decide_eq_true h4;rw[L];simp only[if_pos c4];obtain⟨n,hn⟩:∃n:Nat,0+(i:Int)+1+b % 3=(n:Int):=⟨(0+(i:Int)+1+b % 3).toNat,y_⟩;rw[hn,EY,MA,n6,I];lia
    obtain⟨n,hn⟩:∃n:Nat,0+(i:Int)+1+b % 3=(n:Int):=⟨(0+(i:Int)+1+b % 3).toNat,y_⟩;show Ka (sgn<|yy ξ ν<|some<|0+(i:Int)+1+b % 3)=true;rw[hn,EY,MA];refine Ql ?_ ?_<|JH wL n
    .rw[n6,I];lia
    .rw[n6,I];lia
   .obtain⟨ch,x,Y⟩:=Xq ((b+5*(0+(i:Int))) % 26) (JN _).1 (JN _).2;refine⟨_,W,_,W,_,W,_,_,W,W,.inl FI,_,_,W,W,_,_,W,W,Bz,SF,_,ch,W,W,ac,x,?_⟩;have l1:(yy ξ ν<|some a).length<=8:=by rw[<-ζ];exact A3 ξ _ _
    have l2:(yy ξ (Z<|a+1)<|some o).length<=8:=by rw[<-ζ];exact A3 ξ _ _
    have l3:(yy ξ ν (Z a)++(⟨#[ch]⟩:Str)).length<=9:=by rw[Str.length_append];show _+1<=9;exact al (io l1 _) ac
    refine⟨_,W,.inl ⟨W,_,Ax.of U⟩,_,W,_,W,_,W,ξ,W,by rw[ζ];decide,_,W,_,_,W,W,?_,_,W,_,W,_,_,W,W,_,W,_,W,_,W,ξ,W,by rw[ζ];decide,_,_,W,W,?_,p,_,_,W,W,U,sX,go.n<|more _ _ _ ⟨?_,?_⟩⟩
    .exact jp<|As<|by show(yy ξ ν<|some a).length+1<=1000;exact al (io l1 _) ac
    .exact jp<|As<|al (tt l3 l2) ac
    .have c4:¬r4 % 3=0:=λz=>h4<|decide_eq_true<|congrArg V.int z;rw[L];simp only[if_neg c4];have e0:a=(C':Int):=by lia
     rw[EX,EX,EY,e0,MA];have ec:sgn ⟨#[ch]⟩=[ch]:=rfl;rw[ec];have lt:((sgn ξ).take C').length=C':=by rw[n6,I];lia
     rw[i4<|by rw[d7,lt,j5];exact zV<|b5 _,ii<|by rw[lt];exact b5 _,lt,u5];have hb:=JN<|b+5*(0+(i:Int));obtain⟨m,hm⟩:∃m:Nat,(b+5*(0+(i:Int))) % 26=(m:Int):=⟨((b+5*(0+(i:Int))) % 26).toNat,(j4 hb.1).symm⟩;have hz:(b+5*(i:Int)) % 26=(m:Int):=by rw[<-hm,abQ]
     rw[hz,i6];rw[hm]at x;obtain⟨j',g1,g2,g3,_⟩:=Iz x;have:j'=m:=by
      have J:m<(sgn SF).length:=by show m<Zv.length;rw[Ov];exact zF.mp<|hm▸hb.2
      have:=Ba (xs:=sgn SF) (j:=m)<|yZ J;obtain⟨j2,k1,_⟩:=Iz this;have q1:QW (sgn SF).length (m:Int)=Z m:=by
       unfold QW;rw[if_pos<|j9 _,if_pos<|zF.mpr J,i6]
      have:=(LN q1).1;rw[this]at g1;exact(yb g1).symm
     rw[this]at g2;exact g2.symm
    .show Ka (sgn<|yy ξ ν (Z a)++⟨#[ch]⟩++yy ξ (Z<|a+1) (Z o))=true;have e0:a=(C':Int):=by lia
     have e1:(C':Int)+1=((C'+1:Nat):Int):=by lia
     have e2:o=(A:Int):=by lia
     rw[EX,EX,EY,EY,e0,e1,e2,MA,aa _ _ _ y_<|by rw[I];exact bs.2];have ec:sgn ⟨#[ch]⟩=[ch]:=rfl;rw[ec];refine Ql ?_ ?_ ?_
     .simp only[d7,n6,t8,I,j5];lia
     .simp only[d7,n6,t8,I,j5];lia
     .rw[Q9,Q9,JH wL,Qk<|JH wL A];simp[Y]
  .rintro σ M ⟨l,ok,os,rfl,s3,U,t,pm,ny⟩;refine⟨_,W,q p l M s3 pf U t (Xu s pm λi j y yM G p1 p2=>?_) ny⟩;rw[L]at p1 p2;have hb:=(JN<|b+5*(i:Int));have kA:=(JN<|b+5*(j:Int));by_cases c4:r4 % 3=0
   .simp only[if_pos c4]at p1 p2;lia
   .simp only[if_neg c4]at p1 p2;rw[p1]at p2;have nl:Zv.Nodup:=by decide+kernel
    have h1:((b+5*(i:Int)) % 26).toNat<Zv.length:=by rw[Ov];lia
    have:=(N6 h1 nl).mp p2;lia
theorem bz{r:m9}(F:Fq K "_law_leaf" 44 f r)(T:Txt mg)(a:Df P w K mg base "_law_mix" lqd 1 HW):BA P w K mg base DC 2 f r lqI PY:=by
 refine F.oq ["_law_cell_here","_law_number"] λH s _ d _ g h=>?_;obtain⟨c,rfl,q⟩:=h;refine⟨_,(AB (Ad 1 d<|Au a g<|AA (pv 0)<|AY AG)<|AB (AU (AJ BE (AQ BB (Au a g<|AA (pv 0)<|AY AG) AG) AG<|AL _) (AE<|AI<|AQ Lk (AQ BB (pv 1) AG) AG) AK)<|AB (AU (AJ BE (AQ BB (Au a g<|AA (pv 0)<|AY AG) AG) AG<|AL _) (AE<|AI<|Ai L' (Ai L' AN (Aw<|AQ BB (pv 1) AG) Az) Az<|Aw<|AQ BB (AQ Hr (pv 1) AG) AG) AK)<|AE<|AI<|AQ Bg AG<|pv 1),?_⟩;have b:∀(i:Int) k,i.natAbs<2 ^ 400/\i<10 ^ 20->AF H k->s.rt (.int i) k:=λi k l t=>q _ _ (.inl ⟨i,W,l.1⟩) (λ⟨j,e,m⟩=>by cases e;lia) t;have small:∀x:Int,-(2 ^ 399)<x->x<2 ^ 399->x.natAbs<2 ^ 400:=λx z A=>by lia
 refine⟨_,W,c,4,W,ac,λn B C=>⟨_,W,c,3,W,ac,λD E G=>⟨_,_,W,W,Bz,W,_,W,?_⟩⟩⟩;refine Bu (λ_=>?_) λ_=>?_
 .have I:=JM n (n:=7) ac;exact⟨_,W,_,_,W,W,Bz,_,_,W,W,b _ _ ⟨small _ y_ y_,y_⟩<|AF.refl H⟩
 refine⟨_,W,c,3,W,ac,λJ L M=>⟨_,_,W,W,Bz,W,_,W,?_⟩⟩;refine Bu (λ_=>?_) λ_=>?_
 .have o:=JN n;have p:=JM (n/26) (n:=4) ac;have l1:(yy SF (Z<|n % 26) ν).length<=26:=by
   have:=A3 SF (Z<|n % 26) ν;rw[UN]at this;exact this
  refine⟨_,W,_,_,W,W,Bz,_,W,SF,W,by rw[UN];decide,_,W,_,_,W,W,FI,_,_,W,W,Bz,_,W,_,W,jp<|As<|al l1 ac,q _ _ (.inr ⟨_,W,?_⟩) (λ⟨j,e,m⟩=>nomatch e)<|AF.refl H⟩;obtain⟨i,l⟩:∃i:Nat,n % 26=(i:Int):=⟨(n % 26).toNat,(j4 o.1).symm⟩;obtain⟨j,m⟩:∃j:Nat,n/26 % 4=(j:Int):=⟨(n/26 % 4).toNat,(j4 p.1).symm⟩;have u:sgn (yy (yy SF (Z<|n % 26) ν) ν<|some<|n/26 % 4)=((sgn SF).drop i).take j:=by
   rw[EY,EY,l,m,Xk,MA]
  have v:(sgn SF).all Qi=true:=by
   rw[t9];exact λx y=>MB y
  unfold Xo;rw[<-IU,u,g9];refine⟨decide_eq_true ?_,JH (Qk v i) j⟩;rw[n6];lia
 exact⟨_,W,_,_,W,W,b _ _ ⟨small _ y_ y_,y_⟩<|AF.refl H⟩
theorem b_{t:m9}(F:Fq K "_law_part" 45 f t)(T:Txt mg)(m:Df P w K mg base "_law_mix" lqd 1 HW)(j:Df P w K mg base "_law_leaf" lqI 2 PY):BA P w K mg base DC 3 f t lqz UX:=by
 refine F.oq ["_law_cell_here","_law_deep","_law_way"] λH n _ s _ x h=>?_;obtain⟨c,d,rfl,q⟩:=h;refine⟨_,(AB (Ad 2 s<|AQ BB (Au m x<|AA (pv 0)<|AY AG) AG)<|AB (AU (PW.pt<|pw_and (AJ IJ (pv 2) AG<|AL _)<|pw_and1<|AJ IJ (pv 1) AG<|AL _) (AE<|AI<|BC Bp) AK)<|AB (AU (PW.pt<|pw_and (AJ IJ (pv 2) AG<|AL _)<|pw_and1<|AJ IJ (pv 1) AG<|AL _) (AE<|AI Lv) AK)<|AE<|AI<|Au j x<|AY<|pv 0),?_⟩;have row:∀p,H p=ν->n.rt (.ref p) (upd H p<|.lst []):=λp i=>q (.row p []) _ (AF.new i) (by simp only[Dc.At,Dc.CY,yq,and_true];exact .inl AD) W (λa b o u e=>by simp[Dc.AZ,Dc.AH]at b;rw[b,AD]at e;cases e) (λa b=>by simp[Dc.AZ,Dc.AH]at b;rw[b];exact i);have tab:∀p,H p=ν->n.rt (.ref p) (upd H p<|.dK []):=λp i=>q (.tab p [] []) _ (AF.new i) (by simp only[Dc.At,Dc.CY,u7,zv,and_true,true_and];exact .inl AD) ⟨W,W⟩ (λa b o u e=>by simp[Dc.AZ,Dc.AH]at b;rw[b,AD]at e;cases e) (λa b=>by simp[Dc.AZ,Dc.AH]at b;rw[b];exact i);have leaf:∀v g,EO v->AF H g->n.rt v g:=λv g y z=>q (.leaf v) g z y.lf y (λa b=>by simp[Dc.AZ]at b) (λa b=>by simp[Dc.AZ]at b);refine⟨_,W,c,0,W,ac,λr A B=>⟨_,_,W,W,Bz,_,W,_,_,W,W,_,W,?_⟩⟩;refine Bu (λ_=>⟨_,W,_,_,W,W,_,W,?_⟩) λ_=>Ah ?_
 .refine Bu (λ_=>⟨gU _,λp i=>row p i⟩) (λ_=>?_);refine⟨_,W,_,_,W,W,_,W,?_⟩;refine Bu (λ_=>⟨_,W,_,_,W,W,_,W,?_⟩) (λ_=>Ah ⟨_,W,c,W,λv g k _ l=>leaf v g k l⟩);refine Bu (λ_=>λp i=>tab p i) λ_=>⟨_,W,c,W,λv g k _ l=>leaf v g k l⟩
 .refine⟨_,W,_,_,W,W,_,W,?_⟩;refine Bu (λ_=>⟨_,W,_,_,W,W,_,W,?_⟩) (λ_=>Ah ⟨_,W,c,W,λv g k _ l=>leaf v g k l⟩);refine Bu (λ_=>λp i=>tab p i) λ_=>⟨_,W,c,W,λv g k _ l=>leaf v g k l⟩
theorem gB(F:Fq K "_law_doc" 46 f fd)(T:Txt mg)(dC:Df P w K mg base "_law_cell" lqs 1 (Ow K))(b':Df P w K mg base "_law_mix" lqd 1 HW)(kF:Df P w K mg base "_law_part" lqz 3 UX):BA P w K mg base DC 4 f fd lqq (YI K):=by
 refine F.oq ["_law_script","_law_start","_law_many","_law_names_here","_law_doc_here","_law_holders","_law_k","_law_cell_here","_law_holder","_law_deep","_law_part_here","_law_left"] λH _ _ X QC hr h=>?_;obtain⟨a,n,ns,k,m,B,rfl,hS,hlen,hk,m1,m2,hn,ln,l0,ny,q⟩:=h;refine⟨_,(AB (Ad 4 X<|Mw K (BC<|AA (BC Bp)<|AY Lv)<|AQ BB (Au b' hr<|AA (Au dC hr<|AA (pv 0)<|AY<|pv 1)<|AY AG) AG)<|AB (Ad 5 X<|BC<|AY<|AX<|AA (pv 4)<|AY AG)<|AB (Za (VU W T.range<|AA AG<|AY<|pv 2) (GA 6 X)<|AB (Ad 7 X<|Au dC hr<|AA (pv 0)<|AY<|AQ Bg (pv 1)<|pv 6)<|AB (Lj (Mw K (pv 5)<|AQ BB (Au b' hr<|AA (pv 7)<|AY AG)<|EG K T<|pv 5)<|Of W<|Et (Gi (i:=8) X W<|D9 W)<|Et (GA 9 X) LJ)<|AB (Ad 10 X<|Au kF hr<|AA (pv 7)<|AY<|pv 9)<|AB (Gm (i:=11) (fv:=["_law_holder"]) (fs:=[8]) W (.of<|by rfl) X W (I0 W) (D'<|pv 3) (λC s0 H0 fp=>JF<|PW.pt<|pw_or (Ag<|II Af T (pv 1) T.list DH)<|pw_or1<|Od<|Hs QC (pv 0)<|pv 1) λC s0 H0 fp=>(pv 0))<|AB (AU (Ag<|II Af T (pv 8) T.list DH) (AE<|CO<|NT v6 B9 O2 Ng (pv 8)<|AA (AQ BB (Au b' hr<|AA (pv 7)<|AY AG)<|AQ Bg (EG K T<|pv 8) AG)<|AY<|pv 10)<|AE<|AU (AJ (Sf<|CD.Cm hr) (pv 11) (BC Bp)<|AL _) (AE<|JC QC (pv 8) (Mw K (pv 11)<|AQ BB (Au b' hr<|AA (pv 7)<|AY AG)<|EG K T<|pv 11) (pv 10) W) AK)<|AE<|AU (PW.pt<|pw_and (Ag<|Ct Sh W T.isinstance JK<|AA (pv 10)<|AY<|AX<|AA (Oc (v:=.ty "list") W T.list DH W)<|AY<|Oc (v:=.ty "dict") W T.dict EC W)<|pw_and1<|PW.pt<|pw_or (Ag<|II Af T (pv 8) T.list DH)<|pw_or1<|AJ (Sf<|CD.Cm hr) (pv 11) (BC Bp)<|AL _) (AE<|CO<|cj K (pv 5)<|AX<|AA (pv 10)<|AY<|AQ Bg (pv 9) AG) AK)<|AE<|AI<|pv 4),?_⟩;refine⟨gU _,λa1 h1=>λa2 h2=>⟨AW,λL0 h0=>?_⟩⟩;have u1:=AF.new (o:=.lst []) h1;have u2:=AF.new (o:=.dK []) h2;have u3:=AF.new (o:=.lst [.ref a1,.ref a2]) h0;refine⟨_,W,_,W,a,ns,k,W,(((u1.trans u2).trans u3)).seq hS,λc0 yN=>⟨c0,0,W,ac,λr0 p0 q0=>⟨_,_,W,W,Bz,?_⟩⟩⟩;have sY:=JM r0 (n:=2) ac;obtain⟨v,hv,mv⟩:=GW (xs:=[V.ref a1,V.ref a2]) sY.1 sY.2;refine⟨L0,_,_,_,W,W,Ax.of AD,hv,?_⟩;obtain⟨H3,e3⟩:∃H3,H3=upd (upd (upd H a1<|.lst []) a2<|.dK []) L0 (.lst [.ref a1,.ref a2]):=⟨_,W⟩;have s3:AF H H3:=by rw[e3];exact(u1.trans u2).trans u3
 have x1:H3 a1=Z (.lst []):=by rw[e3];exact u3 _ _<|u2 _ _ AD
 have x2:H3 a2=Z (.dK []):=by rw[e3];exact u3 _ _ AD
 rw[<-e3];have pk:∃(p:Dc)(b:Addr),v=p.val/\p.val=.ref b/\b∈p.AZ/\p.At H3/\p.MI/\(∀c∈p.AZ,∀o u,H3 c≠Z (.Di o u))/\(∀c∈p.AZ,H c=ν):=by
  simp only[ce,t7,or_false]at mv;rcases mv with rfl|rfl
  .exact⟨.row a1 [],a1,W,W,by simp[Dc.AZ],by simp only[Dc.At,Dc.CY,yq,and_true];exact .inl x1,W,(λc hc o u e=>by simp[Dc.AZ,Dc.AH]at hc;rw[hc,x1]at e;cases e),λc hc=>by simp[Dc.AZ,Dc.AH]at hc;rw[hc];exact h1⟩
  .exact⟨.tab a2 [] [],a2,W,W,by simp[Dc.AZ],by simp only[Dc.At,Dc.CY,u7,zv,and_true,true_and];exact .inl x2,⟨W,W⟩,(λc hc o u e=>by simp[Dc.AZ,Dc.AH]at hc;rw[hc,x2]at e;cases e),λc hc=>by simp[Dc.AZ,Dc.AH]at hc;rw[hc];exact u1.free h2⟩
 obtain⟨p,b0,rfl,wK,wM,gC,bare,qA,qB⟩:=pk;refine⟨_,W,AW,λt0 wN=>⟨BG,λL hL=>?_⟩⟩;have s4:=AF.new (o:=.tup [p.val,.int 1]) wN;have s5:=AF.new (o:=.lst [.ref t0]) hL;have sZ:Ds H (upd (upd H3 t0<|.tup [p.val,.int 1]) L<|.lst [.ref t0]) p L [t0]:=by
  refine⟨⟨(s3.trans s4).trans s5,Dc.AS (s4.trans s5) gC,bare.ok,bare.nodup,λc hc=>DA (Dc.there gC hc) (qA c hc)<|(s4.trans s5) c,qB⟩,(s3.trans s4).free hL,AD,λh=>?_,λt ht=>?_⟩
  .exact Dc.there (Dc.AS s4 gC) h hL
  .rw[ci.mp ht];exact⟨b0,1,by rw[s5 _ _ AD,wK],wM⟩
 generalize upd (upd H3 t0 (.tup [p.val,.int 1])) L (.lst [.ref t0])=H5 at sZ⊢;refine⟨_,W,_,_,W,⟨ac,ac,A7 ac (j9 _),zb (y8.mpr m2) ac⟩,GN (lo:=1) (λi σ Hi=>∃(d:Dc)(G:List Addr)(o6 o7 o8 o9 o10 o11:Option V),σ=[Z (.ref a),Z (.int (k:Int)),Z (.int (m:Int)),Z (.ref n),Z p.val,Z (.ref L),o6,o7,o8,o9,o10,o11]/\d.val=p.val/\Ds H Hi d L G/\d.size<=i+1/\0<G.length/\G.length<=i+1/\d.named B)
  ⟨p,[t0],ν,ν,ν,ν,ν,ν,W,W,sZ,by rw[bare.size];exact fr _ _,z_,z_,bare.named⟩ ?_ ?_⟩
 .rintro i σ Hi _ go O ⟨d,G,o6,o7,o8,o9,o10,o11,rfl,dv,DI,ds,lp,lt,Y⟩;have gD:i<24:=by lia
  have ll:(G.map V.ref).length=G.length:=be ..;refine⟨_,W,_,W,_,W,_,_,W,W,a,ns,k+(1+i),(by show[V.ref a,V.int<|(k:Int)+(1+(i:Int))]=_;simp),DI.made.same.seq hS,λc pc=>⟨_,W,_,W,c,1,W,ac,λr1 p1 q1=>⟨_,W,L,_,W,.inl<|Ax.of DI.eL,_,_,W,W,(by show(0:Int)<((G.map V.ref).length:Int);rw[ll];lia),?_⟩⟩⟩;have b1:=JM r1 (n:=((G.map V.ref).length:Int)) (by rw[ll];lia);obtain⟨v3,wO,wQ⟩:=GW (xs:=G.map V.ref) b1.1 b1.2;obtain⟨t,ht,rfl⟩:=n9.mp wQ;obtain⟨b,kk,et,hb⟩:=DI.hold t ht;refine⟨L,_,_,_,W,W,Ax.of DI.eL,wO,t,_,W,Ae.of et,W,_,_,W,_,_,W,W,_,W,_,W,c,kk,W,λI H4 s4 mO dD kG kH=>?_⟩;have mQ:=DI.up s4;have ζ:=mQ.made.same _ _ hn;have li:∀i,i<B.length->(B.map V.str)[i]?=Z (.str<|B.getD i ""):=λi O=>by
   rw[f8,yZ O,cr,yZ O];rfl
  have wR:(∃vs,H4 b=Z (.lst vs)/\vs.length<=1000)∨∃kv,H4 b=Z (.dK kv)/\kv.length<=1000:=by
   rcases Dc.J_ d mQ.made.at_ hb with⟨vs,e,l⟩|⟨ks,kv,e,_,l⟩
   .exact .inl ⟨vs,e.exact<|mQ.made.own b hb,al (jp l)<|al ds<|al (io (jp gD) _) ac⟩
   .exact .inr ⟨kv,e.exact<|mQ.made.own b hb,al (jp l)<|al ds<|al (io (jp gD) _) ac⟩
  have lz:(G.map V.ref).length<sizeLine:=As (by rw[ll];exact al lt<|al (io (jp gD) _) ac);have y0:∃y∈B,CL y=true:=by
   obtain⟨y,r,e⟩:=List.exists_cons_of_length_pos l0;exact⟨y,by rw[e];exact e9,ny y<|by rw[e];exact e9⟩
  have yl:∀{H':Hp}{D:Addr}{zs:List V}{i:Nat}{v:V},H4 D=ν->i<B.length->(∀us,Ax K (upd H4 D<|.lst zs) n us->us[i]?=Z v)->v=.str (B.getD i ""):=λ{H' D zs i v} U O y=>by
   have:=y _<|(AF.new U).seq<|Ax.of ζ;rw[li i O]at this;exact(yb this).symm
  dsimp only[Bv];rcases wR with⟨vs,sf,hz⟩|⟨kv,qC,hz⟩
  .refine⟨_,W,n,W,⟨_,Ax.of ζ⟩,Nf (n:=B.length) (λi=>.str<|B.getD i "") (λi=>.str<|B.getD i "") (λ_=>true) (jp<|As<|al ln ac) (λi D zs O U=>⟨_,_,(AF.new U).seq<|Ax.of ζ,li i O⟩) (λi D zs v H' O U y=>⟨yl (H':=H') U O y.2,y.1⟩) (λD zs U=>⟨_,(AF.new U).seq<|Ax.of ζ,by rw[be];exact b5 _⟩) (λi D zs R O U r=>⟨_,W,_,"list","list",W,W,.lst<|.inl<|AF.new U _ _ sf,_,W,An r⟩) (λi D zs R O U _ r=>⟨_,W,r⟩) λDl qD=>?_⟩;have sD:=AF.new (o:=.lst<|((pu B.length).filter λ_=>true).map λi=>V.str<|B.getD i "") qD;have Q:=sD _ _ sf;refine⟨_,W,_,"list","list",W,W,.lst<|.inl Q,_,W,An ⟨_,W,.inl ⟨W,_,Ax.of Q⟩,_,W,c,2,W,ac,λr2 qE q2=>?_⟩⟩;have mm:=JM r2 (n:=(vs.length:Int)+1) y_;obtain⟨j,hj⟩:∃j:Nat,r2 % ((vs.length:Int)+1)=(j:Int):=⟨(r2 % ((vs.length:Int)+1)).toNat,(j4 mm.1).symm⟩;refine⟨_,W,b,_,W,.inl<|Ax.of Q,_,_,W,W,_,_,W,W,(by show(0:Int)<(vs.length:Int)+1;lia),_,W,b,vs,j,I.val,W,?_,Q,y_,As hz,?_⟩
   .show[V.int<|r2 % ((vs.length:Int)+1),I.val]=_;rw[hj]
   obtain⟨d',e1,e2,kI,qF,kJ,qG⟩:=DI.laid (N:=B) (s4.trans sD) (Dc.AS sD mO) dD (λa ha=>DA (Dc.there mO ha) (kG a ha)<|sD a) kH hb gf.upd<|.inl ⟨vs,j,Q,AD⟩;have J:=qG y0 Y;have kK:=(AD:upd (upd H4 Dl<|.lst<|((pu B.length).filter λ_=>true).map λi=>V.str<|B.getD i "") b (.lst (vs.take j++I.val::vs.drop j)) b=_);refine⟨_,W,ac,λt6 g=>⟨I.val,t6,I.Kc,W,AD,Dc.Em<|Dc.AS (AF.new g) kJ,_,W,?_⟩⟩;have s:=kI.up<|AF.new (o:=.tup [.ty "list",.ty "dict"]) g;have push:∀(Hz:Hp)(S:Addr),Ds H Hz d' L G->I.val=.ref S->S∈I.AZ->∀M,Hz M=ν->Ds H (upd (upd Hz M<|.tup [I.val,.int<|kk+1]) L<|.lst<|G.map V.ref++[.ref M]) d' L (G++[M]):=λHz S D7 qH qI M A=>by
    have D8:=D7.up<|AF.new (o:=.tup [I.val,.int<|kk+1]) A;exact D8.push (b:=S) (k:=kk+1) (by rw[AD,qH])<|qF S qI
   cases I with
   |leaf v=>exact Aj (by cases v<;>rfl) (Ah (go.n ⟨d',G,_,_,_,_,_,_,W,by rw[e1,dv],s,al (bm e2) (io ds _),lp,j6 lt,J⟩))|row S kL=>
    refine Ay W ?_;refine⟨_,W,_,"list","list",W,W,.lst<|.inl<|AF.new g _ _ kK,_,W,An<|An ?_⟩;exact⟨_,W,.inl ⟨W,_,Ax.of s.eL⟩,_,W,_,W,_,_,W,W,AW,λM A=>⟨L,_,_,W,W,(s.up<|AF.new A).eL,lz,go.n ⟨d',G++[M],_,_,_,_,_,_,W,by rw[e1,dv],push _ S s W (by simp[Dc.AZ]) M A,al (bm e2)<|io ds _,z_,by simp;exact lt,J⟩⟩⟩
   |tab S sk kL=>
    refine Ay W ?_;refine⟨_,W,_,"list","list",W,W,.lst<|.inl<|AF.new g _ _ kK,_,W,An<|An ?_⟩;exact⟨_,W,.inl ⟨W,_,Ax.of s.eL⟩,_,W,_,W,_,_,W,W,AW,λM A=>⟨L,_,_,W,W,(s.up<|AF.new A).eL,lz,go.n ⟨d',G++[M],_,_,_,_,_,_,W,by rw[e1,dv],push _ S s W (by simp[Dc.AZ]) M A,al (bm e2)<|io ds _,z_,by simp;exact lt,J⟩⟩⟩
  .have nD:∀{D:Addr}{zs:List V},H4 D=ν->upd H4 D (.lst zs) b=Z (.dK kv):=λh=>by rw[AM<|Am qC h];exact qC
   refine⟨_,W,n,W,⟨_,Ax.of ζ⟩,Nf (n:=B.length) (λi=>.str<|B.getD i "") (λi=>.str<|B.getD i "") (λi=> !(Cg kv<|dL<|B.getD i "").isSome) (jp<|As<|al ln ac) (λi D zs O U=>⟨_,_,(AF.new U).seq<|Ax.of ζ,li i O⟩) (λi D zs v H' O U y=>⟨yl (H':=H') U O y.2,y.1⟩) (λD zs U=>⟨_,(AF.new U).seq<|Ax.of ζ,by rw[be];exact b5 _⟩) (λi D zs R O U r=>⟨_,W,_,"list","dict",W,W,.dK<|.inl<|nD U,_,W,Ah ⟨_,W,_,W,b,_,W,Ls.k (k:=dL<|B.getD i "")<|nD U,_,W,r⟩⟩) (λi D zs R O U _ r=>⟨_,W,r⟩) λDl qD=>?_⟩;obtain⟨lf,so⟩:∃lf:List Str,lf=((pu B.length).filter λi=> !(Cg kv<|dL<|B.getD i "").isSome).map λi=>B.getD i "":=⟨_,W⟩;have el:O4 (λi=>V.str<|B.getD i "") (List.filter (λi=> !(Cg kv<|dL<|B.getD i "").isSome)<|pu B.length)=lf.map V.str:=by
    rw[so,zE];rfl
   have lm:∀x∈lf,(CL x=true/\x∈B)/\Cg kv (dL x)=none:=λx hx=>by
    rw[so]at hx;obtain⟨i,O,rfl⟩:=n9.mp hx;have O:=J5.mp O;have h1:=ye.mp O.1;have my:B.getD i ""∈B:=by
     rw[cr,yZ h1];exact re h1
    refine⟨⟨ny _ my,my⟩,?_⟩;have:=O.2;simp only[N9,Option.isSome_eq_false_iff,Option.isNone_iff_eq_none]at this;exact this
   rw[el];have sD:=AF.new (o:=.lst<|lf.map V.str) qD;have h1:upd H4 Dl (.lst<|lf.map V.str) Dl=Z (.lst<|lf.map V.str):=AD;have Q:=sD _ _ qC;have cA:=Dc.AS sD mO;have dE:∀a∈I.AZ,∀o u,upd H4 Dl (.lst<|lf.map V.str) a≠Z (.Di o u):=λa ha=>DA (Dc.there mO ha) (kG a ha)<|sD a;have qJ:=s4.trans sD;generalize upd H4 Dl (.lst<|lf.map V.str)=HD at sD h1 Q cA dE qJ⊢;refine⟨_,W,_,"list","dict",W,W,.dK<|.inl Q,_,W,Ah ⟨_,W,gU _,λz1 wU=>?_⟩⟩;have sz:=AF.new (o:=.lst []) wU;refine⟨Dl,z1,_,W,W,Ax.of<|sz _ _ h1,Ax.of AD,_,W,?_⟩;cases lf with
   |nil=>
    refine Ah ?_;have kI:=(DI.up qJ).up sz;have kJ:=Dc.AS sz cA;have sr:=sz _ _ h1;have s_:=sz _ _ Q;refine⟨_,W,ac,λt6 g=>⟨I.val,t6,I.Kc,W,AD,Dc.Em<|Dc.AS (AF.new g) kJ,_,W,?_⟩⟩;have s:=kI.up<|AF.new (o:=.tup [.ty "list",.ty "dict"]) g;cases I with
    |leaf v=>exact Aj (by cases v<;>rfl) (Ah (go.n ⟨d,G,_,_,_,_,_,_,W,dv,s,j6 ds,lp,j6 lt,Y⟩))|row S kL=>exact Ay W ⟨_,W,_,"list","dict",W,W,.dK (.inl (AF.new g _ _ s_)),_,W,Ah ⟨_,W,gU _,λz2 E=>⟨Dl,z2,_,W,W,Ax.of (AF.new E _ _ (AF.new g _ _ sr)),Ax.of AD,_,W,Ah (go.n ⟨d,G,_,_,_,_,_,_,W,dv,s.up (AF.new E),j6 ds,lp,j6 lt,Y⟩)⟩⟩⟩|tab S sk kL=>exact Ay W ⟨_,W,_,"list","dict",W,W,.dK (.inl (AF.new g _ _ s_)),_,W,Ah ⟨_,W,gU _,λz2 E=>⟨Dl,z2,_,W,W,Ax.of (AF.new E _ _ (AF.new g _ _ sr)),Ax.of AD,_,W,Ah (go.n ⟨d,G,_,_,_,_,_,_,W,dv,s.up (AF.new E),j6 ds,lp,j6 lt,Y⟩)⟩⟩⟩
   |cons x r=>
    refine An ?_;have h2:=sz _ _ h1;refine⟨_,W,_,W,_,W,_,W,c,2,W,ac,λr2 qE q2=>?_⟩;have mm:=JM r2 (n:=(((x::r).map V.str).length:Int)) z_;obtain⟨v,hv,mv⟩:=GW mm.1 mm.2;obtain⟨z,E,rfl⟩:=n9.mp mv;obtain⟨nz,vz⟩:=lm z E;have h3:=sz _ _ Q;refine⟨_,W,Dl,_,W,.inl<|Ax.of h2,_,_,W,W,(by show(0:Int)<(((x::r).map V.str).length:Int);simp),Dl,_,_,_,W,W,Ax.of h2,hv,b,_,W,IS.k (k:=dL z) h3<|As hz,?_⟩;obtain⟨d',e1,e2,kI,qF,kJ,qG⟩:=DI.laid (N:=B) (qJ.trans sz) (Dc.AS sz cA) dD (λa ha=>DA (Dc.there cA ha) (dE a ha)<|sz a) kH hb (gf.upd (o:=.dK<|putK kv (dL z) I.val))<|.inr ⟨kv,z,h3,Xd vz,nz,by rw[AD,JB _ vz]⟩;have J:=qG y0 Y;have kK:=(AD:upd (upd HD z1<|.lst []) b (.dK<|putK kv (dL z) I.val) b=_);have kM:upd (upd HD z1<|.lst []) b (.dK<|putK kv (dL z) I.val) Dl=Z (.lst<|(x::r).map V.str):=by
     rw[AM<|GI h2 h3<|by intro z;cases z];exact h2
    refine⟨_,W,ac,λt6 g=>⟨I.val,t6,I.Kc,W,AD,Dc.Em<|Dc.AS (AF.new g) kJ,_,W,?_⟩⟩;have s:=kI.up<|AF.new (o:=.tup [.ty "list",.ty "dict"]) g;have push:∀(Hz:Hp)(S:Addr),Ds H Hz d' L G->I.val=.ref S->S∈I.AZ->∀M,Hz M=ν->Ds H (upd (upd Hz M<|.tup [I.val,.int<|kk+1]) L<|.lst<|G.map V.ref++[.ref M]) d' L (G++[M]):=λHz S D7 qH qI M A=>by
     have D8:=D7.up<|AF.new (o:=.tup [I.val,.int<|kk+1]) A;exact D8.push (b:=S) (k:=kk+1) (by rw[AD,qH])<|qF S qI
    cases I with
    |leaf v=>exact Aj (by cases v<;>rfl) (Ah (go.n ⟨d',G,_,_,_,_,_,_,W,by rw[e1,dv],s,al (bm e2) (io ds _),lp,j6 lt,J⟩))|row S kL=>
     refine Ay W ?_;refine⟨_,W,_,"list","dict",W,W,.dK<|.inl<|AF.new g _ _ kK,_,W,Ah ⟨_,W,gU _,λz2 E=>?_⟩⟩;have gE:=s.up<|AF.new (o:=.lst []) E;exact⟨Dl,z2,_,W,W,Ax.of<|AF.new E _ _<|AF.new g _ _ kM,Ax.of AD,_,W,An ⟨_,W,.inl ⟨W,_,Ax.of gE.eL⟩,_,W,_,W,_,_,W,W,AW,λM A=>⟨L,_,_,W,W,(gE.up<|AF.new A).eL,lz,go.n ⟨d',G++[M],_,_,_,_,_,_,W,by rw[e1,dv],push _ S gE W (by simp[Dc.AZ]) M A,al (bm e2)<|io ds _,z_,by simp;exact lt,J⟩⟩⟩⟩
    |tab S sk kL=>
     refine Ay W ?_;refine⟨_,W,_,"list","dict",W,W,.dK<|.inl<|AF.new g _ _ kK,_,W,Ah ⟨_,W,gU _,λz2 E=>?_⟩⟩;have gE:=s.up<|AF.new (o:=.lst []) E;exact⟨Dl,z2,_,W,W,Ax.of<|AF.new E _ _<|AF.new g _ _ kM,Ax.of AD,_,W,An ⟨_,W,.inl ⟨W,_,Ax.of gE.eL⟩,_,W,_,W,_,_,W,W,AW,λM A=>⟨L,_,_,W,W,(gE.up<|AF.new A).eL,lz,go.n ⟨d',G++[M],_,_,_,_,_,_,W,by rw[e1,dv],push _ S gE W (by simp[Dc.AZ]) M A,al (bm e2)<|io ds _,z_,by simp;exact lt,J⟩⟩⟩⟩
 .rintro σ Hi ⟨d,G,o6,o7,o8,o9,o10,o11,rfl,dv,DI,ds,lp,lt,Y⟩;refine⟨_,W,?_⟩;rw[<-dv];exact q d Hi DI.made y_ Y
theorem cC{n:Nat}(F:Fq K "_law_copy" 47 f fd)(T:Txt mg)(B:Df P w K mg base "_law_copy" lqm n (MR n)):BA P w K mg base DC (n+1) f fd lqm (MR (n+1)):=by
 refine F.oq lqm λH _ _ NG QC hr h=>?_;obtain⟨d,rfl,c,U,s,q⟩:=h;refine⟨_,(AB (AU (Ag<|II Af T (pv 0) T.list DH) (AE<|AI<|cmp [] [] (D'<|pv 0) λ_ _ _ _=>(Au B hr<|AY<|pv 0)) AK)<|AB (AU (Ag<|II Af T (pv 0) T.dict EC) (AE<|AI<|Cz (LF W) W T.dict EC<|AY<|ax<|cmp lqm [0] (aj<|pv 0) λ_ _ _ _=>(AX<|AA (pv 0)<|AY<|Au B hr<|AY<|hB QC (pv 1)<|pv 0)) AK)<|AE<|AI<|pv 0),?_⟩;cases d with
 |leaf v=>
  exact⟨_,W,_,"list",Dc.Kc<|.leaf v,W,W,Dc.Em c,_,W,Aj (by cases v<;>rfl) ⟨_,W,_,"dict",Dc.Kc<|.leaf v,W,W,Dc.Em c,_,W,Aj (by cases v<;>rfl) ⟨_,W,q (.leaf v) H ⟨AF.refl H,c,.nil,λa h=>(nomatch h),λa h=>(nomatch h)⟩<|Dc.KD _⟩⟩⟩
 |row a C=>
  refine⟨_,W,_,"list",_,W,W,Dc.Em c,_,W,Ay W ?_⟩;simp only[Dc.At,Dc.size,Dc.deep]at c s U;have lx:=Dc.GD C;refine⟨_,W,a,W,⟨_,.inl c.1⟩,?_⟩;refine LP C.length (λi=>(C.map Dc.val).getD i .Al) (λD i l=>∃g,BH H l g/\D∉Dc.AH g/\l D=Z (.lst<|g.map Dc.val)/\g.length=i/\Dc.BL (C.take i) g) (λD E=>⟨[],.nil<|AF.new E,(λh=>nomatch h),AD,W,by simp[Dc.BL]⟩) (λD i l G ⟨g,F,_⟩=>⟨_,_,.inl<|c.1.up<|F.same _,yZ<|by rw[be];exact G⟩) (λD i l v H' G ⟨g,F,_⟩ y=>?_) (λD l ⟨g,F,_⟩=>⟨_,.inl<|c.1.up<|F.same _,by rw[be];exact b5 _⟩) (λD i l E G ⟨g,F,nD,N,A,lk⟩=>?_) λD l E ⟨g,F,nD,N,A,lk⟩=>?_
  .obtain⟨e,y⟩:=y;refine⟨?_,e⟩;have:=y _<|.inl<|c.1.up<|F.same _;rw[cr,this];rfl
  .obtain⟨x,hx⟩:=HK C i G;have Q:=yc hx;have dx:=Dc.Bw Q;have sx:=Dc.Cb Q;have ev:(C.map Dc.val).getD i .Al=x.val:=by rw[cr,f8,hx];rfl
   rw[ev];refine⟨_,W,x,W,Dc.AS F.same<|Dc.Cn c.2 x Q,y_,al (al sx<|fr _ _) s,λI H3 f R=>?_⟩;have X:=F.snoc f;have wV:=f.same _ _ N;have J:D∉Dc.AH (g++[I]):=by
    rw[Dc.AO];simp only[Dc.AH,ge,am,not_or];exact⟨nD,λz=>by have:=f.new D z;rw[N]at this;cases this⟩
   refine⟨_,wV,As<|by rw[be];exact al (bm A)<|al (jp G)<|al (al lx<|al (fr _ _) s) ac,g++[I],X.frame (X.same.put E) λb u o e=>?_,J,?_,by simp[A],?_⟩
   .rw[AM λz=>J<|by rw[<-z];exact u];exact e
   .rw[AD,ca];rfl
   .rw[yz,hx];exact Dc.JS lk<|by simp[Dc.BL,R]
  .rw[v7]at lk;exact q (.row D g) l (F.row E nD N) (by simp only[Dc.CZ];exact lk)
 |tab a L C=>
  refine⟨_,W,_,"list",_,W,W,Dc.Em c,_,W,Aj W ⟨_,W,_,"dict",_,W,W,Dc.Em c,_,W,Ay W ?_⟩⟩;simp only[Dc.At,Dc.size,Dc.deep]at c s U;have lx:=Dc.GD C;have kl:=Dc.Hu c.2.1;refine⟨a,_,c.1,λo Hf F=>⟨_,W,a,o,_,W,F.at_,?_⟩⟩;refine LP C.length (λi=>.str (L.getD i "")) (λD i l=>∃(g:List Dc)(M:List Addr),BH Hf l g/\D∉Dc.AH g/\l D=Z (.lst (M.map V.ref))/\M.length=i/\g.length=i/\Dc.BL (C.take i) g/\
    ∀(j:Nat) e,g[j]?=Z e->∃t,M[j]?=Z t/\l t=Z (.tup [.str (L.getD j ""),e.val])/\Hf t=ν)
   (λD E=>⟨[],[],.nil (AF.new E),(λh=>nomatch h),AD,W,W,by simp[Dc.BL],λj e h=>by simp at h⟩) (λD i l G ⟨g,M,m,_⟩=>⟨m.same _ _ F.at_,by rw[kl];exact G⟩)
   (λD i l v H' G ⟨g,M,m,_⟩ y=>?_) (λD l ⟨g,M,m,_⟩=>⟨m.same _ _ F.at_,kl.symm⟩) (λD i l E G ⟨g,M,m,nD,N,lt,A,lk,tp⟩=>?_) (λD l E ⟨g,M,m,nD,N,lt,A,lk,tp⟩=>?_)
  .obtain⟨e,k,v',e1,e2⟩:=y;obtain⟨O,x,S,Y,h3,h4,_⟩:=Dc.Sl c.2.1 c.2.2.1 e1;refine⟨?_,e⟩;rw[e2,h3,cr,S];rfl
  .obtain⟨kv,o_⟩:=HK (Dc.kvs L C) i (by rw[kl];exact G);obtain⟨O,x,S,Y,h3,h4,h5,h6⟩:=Dc.Sl c.2.1 c.2.2.1 (k:=kv.1) (v:=kv.2) o_;have Q:=yc Y;have dx:=Dc.Bw Q;have sx:=Dc.Cb Q;have en:L.getD i ""=O:=by rw[cr,S];rfl
   rw[en];have ζ:HF H l:=F.rd.trans m.same.r;refine⟨_,W,_,W,_,W,a,x.val,W,(by rw[<-h6];exact .inl ⟨_,dL O,ζ a _ c.1,W,W⟩),x,W,Dc.Xz ζ<|Dc.Cn c.2.2.2 x Q,y_,al (al sx<|fr _ _) s,λI H3 f R=>⟨AW,λt ht=>?_⟩⟩;have X:=m.snoc f;have F4:=X.up<|AF.new (o:=.tup [.str O,I.val]) ht;have tD:=(AF.new (o:=.tup [.str O,I.val]) ht) _ _<|f.same _ _ N;have J:D∉Dc.AH (g++[I]):=by
    rw[Dc.AO];simp only[Dc.AH,ge,am,not_or];exact⟨nD,λz=>by have:=f.new D z;rw[N]at this;cases this⟩
   have gb:∀{t':Addr}{ys:List V},upd H3 t (.tup [.str O,I.val]) t'=Z (.tup ys)->t'≠D:=λh=>GI h tD (by intro z;cases z);refine⟨_,tD,As<|by rw[be];exact al (bm lt)<|al (jp G)<|al (al lx<|al (fr _ _) s) ac,g++[I],M++[t],F4.frame (F4.same.put E) λb u o e=>?_,J,by rw[AD,ca];rfl,by simp[lt],by simp[A],?_,λj e hj=>?_⟩
   .rw[AM λz=>J<|by rw[<-z];exact u];exact e
   .rw[yz,Y];exact Dc.JS lk<|by simp[Dc.BL,R]
   .by_cases mN:j<g.length
    .rw[i4 mN]at hj;obtain⟨t',g1,g2,g3⟩:=tp j e hj;have tE:=(AF.new (o:=.tup [.str O,I.val]) ht) _ _<|f.same _ _ g2;exact⟨t',by rw[i4<|bn mN<|al (bm A)<|bm lt.symm];exact g1,by rw[AM<|gb tE];exact tE,g3⟩
    .have hl:=HL hj;rw[d7,j5]at hl;have ej:j=i:=by lia
     subst ej;rw[ii<|bm A,A,u5]at hj;have e1:I=e:=GE hj
     subst e1;refine⟨t,by rw[ii<|bm lt,lt,u5];rfl,?_,X.same.free ht⟩;rw[AM<|gb (ys:=[.str O,I.val]) AD,AD,en]
  .refine⟨m.same _ _ F.at_,?_⟩;rw[v7]at lk;have sb:=F.back m.same;have ba:∀b,b≠a->back a H l b=l b:=λb u=>UR u;have Da:D≠a:=(F.free E).2;have el:L.length=g.length:=by rw[A,c.2.1]
   refine⟨D,M,Dc.kvs L g,W,Ax.of<|by rw[ba D Da];exact N,by rw[lt,Dc.Hu el,A],λj k v e=>?_,by rw[Dc.Hu el,A];exact al (al lx<|al (fr _ _) s) ac,λp hp=>?_⟩
   .obtain⟨O,x,S,Y,h3,h4,_⟩:=Dc.Sl el c.2.2.1 e;obtain⟨t,g1,g2,g3⟩:=tp j x Y;refine⟨t,g1,?_⟩;rw[ba t (F.free g3).2,g2,h3,h4,cr,S];rfl
   .have nk:((Dc.kvs L g).map (·.1)).Nodup:=by
     rw[Dc.EB el];exact List.Pairwise.map _ (λa b h z=>h<|yr z) c.2.2.1
    have mk:FD [] (Dc.kvs L g)=Dc.kvs L g:=JT _ _ (GE nk);rw[mk];have tF:H p=none:=sb.free hp;have np:p∉Dc.AH g:=λz=>by
     have S:=Dc.Ox m.at_ z;have pa:p≠a:=(F.free<|m.new p z).2;rw[ba p pa]at hp;exact S hp
    have FL:BH H (upd (back a H l) p<|.dK<|Dc.kvs L g) g:=by
     refine⟨sb.put tF,Dc.BD g (λb u o e=>?_) m.at_,m.nd,λb u=>?_,λb u=>(F.free<|m.new b u).1⟩
     .rw[AM λz=>np<|by rw[<-z];exact u,ba b (F.free<|m.new b u).2];exact e
     .refine DA (Dc.Ox m.at_ u) (m.own b u) (λo e=>?_);rw[AM λz=>np<|by rw[<-z];exact u,ba b (F.free<|m.new b u).2];exact e
    exact q (.tab p L g) _ (FL.tab tF np el c.2.2.1 AD)<|by simp only[Dc.CZ];exact⟨trivial,lk⟩
theorem SA{f:Addr}{a:m9}(F:Fq K "_law_copy" 47 f a)(T:Txt mg)(b:Binds K a lqm [])(m:mg "_law_copy"=Z (.ref f)):∀n:Nat,BA P w K mg base DC n f a lqm (MR n)
 |0=>cf (λc H Q E h=>by obtain⟨d,_,_,e,_⟩:=h;have:=Dc.JQ d;lia)
 |n+1=>cC F T (Df.mk' F b m (SA F T b m n))
theorem Zi(F:Fq K "_law_found" 48 f G)(T:Txt mg):BA P w K mg base DC 1 f G lqh E_:=by
 refine F.oq ["_law_doc_here","_law_path","_law_step"] λH J _ o s Q h=>?_;obtain⟨d,t,xs,rfl,C,I,L,q⟩:=h;refine⟨_,(AB (Za (dW<|pv 1) (GA 2 o)<|AB (AU (PW.pt<|pw_and (Ag<|II Af T (pv 2) T.str JL)<|pw_and1<|PW.pt<|pw_or (ES<|Ag<|II Af T (pv 0) T.dict EC)<|pw_or1<|Od<|Hs s (pv 2)<|pv 0) (AE<|AI A') AK)<|AB (AU (PW.pt<|pw_and (ES<|Ag<|II Af T (pv 2) T.str JL)<|pw_and1<|PW.pt<|pw_or (ES<|Ag<|II Af T (pv 0) T.list DH)<|pw_or1<|AJ cX (pv 2) (EG K T<|pv 0)<|AL _) (AE<|AI A') AK)<|AE<|Ad 0 o<|MM (Mw K (pv 0)<|pv 2)<|hB s (pv 0)<|pv 2)<|AE<|AI<|pv 0),?_⟩;refine⟨_,W,t,W,⟨_,Ae.of I⟩,aD (xs:=xs) (λi x u=>∃(p:Dc)(D:Option V),x=[Z p.val,Z<|.ref t,D]/\u=H/\p.At H/\d.sub xs=p.sub (xs.drop i)) ⟨d,ν,W,W,C,W⟩ (λi x u _ ⟨_,_,_,e,_⟩=>by rw[e];exact Ae.of I) ?_ ?_⟩
 .rintro i z x u _ go E ⟨p,D,rfl,rfl,c,m⟩;have M:=HL E;have N:xs.drop i=z::xs.drop (i+1):=by rw[B1 M,(ya E).2]
  rw[N]at m;have no:p.sub [z]=ν->J.rt .Al u:=λh=>by
   rw[m,Dc.ND h]at q;exact q
  rcases L z (yc E)with⟨j,rfl⟩|⟨k,rfl,_⟩
  .refine⟨_,W,_,"str","int",W,W,.int _,_,W,Ah<|Ah ?_⟩;refine⟨_,W,_,"str","int",W,W,.int _,_,W,An ?_⟩;cases p with
   |leaf v=>exact⟨_,W,_,"list",_,W,W,Dc.Em c,_,W,Ay (by cases v<;>rfl) (An (go.r (no W)))⟩|tab a A g=>exact⟨_,W,_,"list",_,W,W,Dc.Em c,_,W,An (An (go.r (no W)))⟩|row a g=>
    have b:=c;simp only[Dc.At]at b;refine⟨_,W,_,"list",_,W,W,Dc.Em c,_,W,Ah ⟨_,W,_,W,a,_,W,.inl<|.inl b.1,_,_,W,W,_,W,?_⟩⟩;by_cases O:j<g.length
    .have l:g[j]?=Z g[j]:=yZ O;refine Aj (decide_eq_false<|by rw[be];lia)<|.inl ⟨_,W,_,W,a,_,_,_,W,W,.inl b.1,Ba<|by rw[f8,l];rfl,go.n ⟨_,_,W,W,Dc.Cn b.2 _<|yc l,?_⟩⟩;rw[m,Dc.Gq l]
    .refine Ay (decide_eq_true<|by rw[be];lia)<|go.r<|no ?_;simp only[Dc.sub];rw[if_pos<|j9 _,i6,rS.mpr y_];rfl
  .refine⟨_,W,_,"str","str",W,W,.str _,_,W,An ?_⟩;cases p with
   |leaf v=>exact⟨_,W,_,"dict",_,W,W,Dc.Em c,_,W,Ay (by cases v<;>rfl) (An (go.r (no W)))⟩|row a g=>exact⟨_,W,_,"dict",_,W,W,Dc.Em c,_,W,An (An (go.r (no W)))⟩|tab a A g=>
    have b:=c;simp only[Dc.At]at b;refine⟨_,W,_,"dict",_,W,W,Dc.Em c,_,W,Ah ⟨_,W,_,W,a,_,W,.inl ⟨_,dL k,b.1,W,W⟩,_,W,?_⟩⟩;cases l:(A.zip g).lookup k with
    |none=>
     have B:Cg (Dc.kvs A g) (dL k)=none:=by rw[Dc.ED b.2.1,l];rfl
     refine Ay (by rw[B];rfl)<|go.r<|no ?_;simp only[Dc.sub,l];rfl
    |some y=>
     have B:Cg (Dc.kvs A g) (dL k)=Z y.val:=by rw[Dc.ED b.2.1,l];rfl
     refine Aj (by rw[B];rfl) ?_;refine⟨_,W,_,"str","str",W,W,.str _,_,W,Ah<|Ah ?_⟩;refine .inr ⟨_,W,_,W,a,y.val,W,(by rw[<-B];exact .inl ⟨_,dL k,b.1,W,W⟩),go.n ⟨y,_,W,W,Dc.Cn b.2.2.2 y (Dc.AR l).2,?_⟩⟩;rw[m,Dc.EF l]
 .rintro x u ⟨p,D,rfl,rfl,c,m⟩;rw[aaB,Dc.Ap]at m;rw[m]at q;exact⟨_,W,q⟩
theorem gF(F:Fq K "_law_put" 49 f fd)(T:Txt mg)(C:Df P w K mg base "_law_found" lqh 1 E_):BA P w K mg base DC 2 f fd lqn Ph:=by
 refine F.oq ["_law_doc_here","_law_path","_law_value_here","_law_holder","_law_step"] λH En _ S U hr h=>?_;obtain⟨G,d,v,t,xs,rfl,F,V,ht,hx,nx,q,qn⟩:=h;refine gen (AB (Ad 3 S<|Au C hr<|AA (pv 0)<|AY<|Ai BO (pv 1) Az<|Aw<|Bo BJ AG)<|AB (Ad 4 S<|CS (r:=Dz K) Bj (pv 1) (Bo BJ AG) λ_ _=>rfl)<|AB (AU (Ag<|II Af T (pv 4) T.str JL) (AB (AU (PW.pt<|pw_or (ES<|Ag<|II Af T (pv 3) T.dict EC)<|pw_or1<|Od<|eB U (pv 4)<|pv 3) (AE<|AI A') AK)<|AB (JC U (pv 3) (pv 4) (pv 2) W)<|AE<|AI<|pv 0) AK)<|AB (AU (PW.pt<|pw_or (ES<|Ag<|II Af T (pv 3) T.list DH)<|pw_or1<|AJ XF (pv 4) (EG K T<|pv 3)<|AL _) (AE<|AI A') AK)<|AB (CO<|NT v6 B9 O2 Ng (pv 3)<|AA (pv 4)<|AY<|pv 2)<|AE<|AI<|pv 0) λX hX=>?_;obtain⟨D,lv,rfl⟩:∃D lv,xs=D++[lv]:=⟨xs.dropLast,xs.getLast nx,(f6 nx).symm⟩;have qK:Aa D:=λz hz=>hx z<|b9 _ hz;have F1:=F.one;subst hX;refine⟨_,W,_,W,_,W,_,W,t,_,W,ht,λp1 O Q Y=>?_⟩;rw[Bd]at Y;have ju:=Q _ _ ht;have R:=F.up Q;have p:=R.one;refine⟨d,p1,D,W,p.at_,Y,qK,_,W,_,W,t,_,_,_,W,W,Ae.of ju,BS D _,?_⟩;have ζ:=R.two.at_;rcases hx lv z_ with⟨i,rfl⟩|⟨k,rfl,nk⟩
 .refine⟨_,W,_,"str","int",W,W,.int _,_,W,Ah ?_⟩;cases m:d.sub D with
  |none=>exact⟨_,W,_,"list","NoneType",W,W,.Al,_,W,An (An (qn (λJ L e h h'=>by obtain⟨rfl,rfl⟩:=GY h;rw[m]at h';cases h') _ Q))⟩
  |some e=>
  have no:e.room (.int (i:Int))=false->En.rt .Al O:=λh=>qn (λJ L e2 h1 I=>by obtain⟨rfl,rfl⟩:=GY h1;rw[m]at I;cases I;exact h) _ Q;have P:=Dc.BF.sub m;have g:=P.at_ p.at_;cases e with
  |leaf w'=>exact⟨_,W,_,"list",Dc.Kc (.leaf w'),W,W,Dc.Em g,_,W,Ay (by cases w'<;>rfl) (An (no W))⟩|tab b E j=>exact⟨_,W,_,"list",_,W,W,Dc.Em g,_,W,Ay W (An (no W))⟩|row b j=>
   refine⟨_,W,_,"list",_,W,W,Dc.Em g,_,W,Aj W ?_⟩;simp only[Dc.At]at g;refine⟨_,W,_,W,b,_,W,.inl<|.inl g.1,_,_,W,W,_,W,Bu (λh=>no<|by have h:=of_decide_eq_true h;rw[be]at h;simp only[Dc.room,Bool.and_eq_false_iff,decide_eq_false_iff_not];right;lia) λh=>?_⟩;have hi:i<=j.length:=by
    refine GM λz=>h<|decide_eq_true ?_;rw[be];lia
   have s:(Dc.row b j).room (.int (i:Int))=true:=by
    simp only[Dc.room,g9,decide_eq_true_eq];lia
   have eb:=g.1.exact (p.own b<|P.AZ b<|by simp[Dc.AZ]);have lx:=Dc.GD j;have A:=P.size;simp only[Dc.size]at A;refine⟨_,W,.inl ⟨W,_,Ax.of eb⟩,_,W,_,W,b,_,i,_,W,W,eb,by rw[be];exact hi,As<|by rw[be];exact al lx<|al (al (al (fr _ _) A) V) ac,_,W,q D _ _ W m s _<|BY.insert R m s W (by simp[Dc.AZ]) ?_ (λa o ha h=>by rw[AM ha];exact h) λo u z=>by rw[AD]at z;cases z⟩;simp only[Dc.De,i6,Dc.At];have bt:=P.AZ b (by simp[Dc.AZ]);have nb:b∉Dc.AH j:=by
    obtain⟨l,r,e1,_⟩:=Dc.Co (n:=Dc.row b j) (Dc.Br d p.at_) p.nd m;have:=p.nd;rw[e1]at this;have:=(b7.mp (b7.mp this).1).2.1;simp only[Dc.AZ]at this;exact(f9.mp this).1
   have M:Dc.CY (upd O b<|.lst ((j.map Dc.val).take i++v.val::(j.map Dc.val).drop i)) j:=Dc.BD j (λc N o h=>by rw[AM λz=>nb<|by rw[<-z];exact N];exact h) g.2;have B:v.At (upd O b<|.lst ((j.map Dc.val).take i++v.val::(j.map Dc.val).drop i)):=Dc.Cc v (λc N o h=>by rw[AM λz=>R.apart c N<|by rw[z];exact bt];exact h) ζ;refine⟨.inl ?_,(Dc.BK _ _).mpr ?_⟩
   .rw[AD,ca,i2,W8,Os]
   .have I:=(Dc.BK (j.take i)<|j.drop i).mp (by rw[pi];exact M);refine⟨I.1,?_⟩;simp only[Dc.CY];exact⟨B,I.2⟩
 .refine⟨_,W,_,"str","str",W,W,.str _,_,W,An ?_⟩;cases m:d.sub D with
  |none=>exact⟨_,W,_,"dict","NoneType",W,W,.Al,_,W,An (An (qn (λJ L e h h'=>by obtain⟨rfl,rfl⟩:=GY h;rw[m]at h';cases h') _ Q))⟩
  |some e=>
  have no:e.room (.str k)=false->En.rt .Al O:=λh=>qn (λJ L e2 h1 I=>by obtain⟨rfl,rfl⟩:=GY h1;rw[m]at I;cases I;exact h) _ Q;have P:=Dc.BF.sub m;have g:=P.at_ p.at_;cases e with
  |leaf w'=>exact⟨_,W,_,"dict",Dc.Kc (.leaf w'),W,W,Dc.Em g,_,W,Ay (by cases w'<;>rfl) (An (no W))⟩|row b j=>exact⟨_,W,_,"dict",_,W,W,Dc.Em g,_,W,Ay W (An (no W))⟩|tab b E j=>
   refine⟨_,W,_,"dict",_,W,W,Dc.Em g,_,W,Aj W ?_⟩;simp only[Dc.At]at g;refine⟨_,W,_,W,b,_,W,.inl ⟨_,dL k,g.1,W,W⟩,_,W,?_⟩;rw[Dc.ED g.2.1];by_cases hk:k∈E
   .obtain⟨y,hy,_⟩:=Dc.CV g.2.1 hk;rw[hy];exact An<|no<|by simp[Dc.room,hk]
   .have hy:(E.zip j).lookup k=none:=by
     cases q2:(E.zip j).lookup k with
     |none=>rfl|some x=>exact absurd (Dc.AR q2).1 hk
    have nv:Cg (Dc.kvs E j) (dL k)=none:=by rw[Dc.ED g.2.1,hy];rfl
    rw[hy];refine Ah ?_;have s:(Dc.tab b E j).room (.str k)=true:=by simp[Dc.room,hk]
    have eb:=g.1.exact (p.own b<|P.AZ b<|by simp[Dc.AZ]);have lx:=Dc.GD j;have A:=P.size;simp only[Dc.size]at A;refine⟨_,W,_,W,_,W,b,_,W,IS.k (k:=dL k) eb<|As<|by rw[Dc.Hu g.2.1];exact al lx<|al (al (al (fr _ _) A) V) ac,?_⟩;rw[JB _ nv];refine⟨_,W,q D _ _ W m s _<|BY.insert R m s W (by simp[Dc.AZ]) ?_ (λa o ha h=>by rw[AM ha];exact h) λo u z=>by rw[AD]at z;cases z⟩;simp only[Dc.De,Dc.At];have bt:=P.AZ b (by simp[Dc.AZ]);have nb:b∉Dc.AH j:=by
     obtain⟨l,r,e1,_⟩:=Dc.Co (n:=Dc.tab b E j) (Dc.Br d p.at_) p.nd m;have:=p.nd;rw[e1]at this;have:=(b7.mp (b7.mp this).1).2.1;simp only[Dc.AZ]at this;exact(f9.mp this).1
    have M:Dc.CY (upd O b<|.dK<|Dc.kvs E j++[(dL k,v.val)]) j:=Dc.BD j (λc N o h=>by rw[AM λz=>nb<|by rw[<-z];exact N];exact h) g.2.2.2;have B:v.At (upd O b<|.dK<|Dc.kvs E j++[(dL k,v.val)]):=Dc.Cc v (λc N o h=>by rw[AM λz=>R.apart c N<|by rw[z];exact bt];exact h) ζ;refine⟨.inl ?_,by simp[g.2.1],UD g.2.2.1 hk,(Dc.BK _ _).mpr ⟨M,by simp only[Dc.CY];exact⟨B,trivial⟩⟩⟩;rw[AD,Dc.Qn k v g.2.1]
theorem Zj(F:Fq K "_law_asked" 50 f fd)(T:Txt mg)(o:Df P w K mg base "_law_found" lqh 1 E_):BA P w K mg base DC 6 f fd lqc Mu:=by
 refine F.oq ["_law_doc_here","_law_row_here","_law_holder","_law_part_here"] λH _ _ L QC hr h=>?_;obtain⟨d,r,u,M,zs,p,v,k,R,rfl,j,E,O,r8,l,hw,Q,q⟩:=h;refine gen (AB (AU (AJ BE (Bh K 1) AN<|AL _) (AB (Ad 2 L<|Au o hr<|AA (pv 0)<|AY<|Ai BO (Bh K 1) Az<|Aw<|Bo BJ AG)<|AE<|AI<|Dp (II Af T (pv 2) T.dict EC)<|D_<|dQ<|Hs QC (CS (r:=Dz K) Bj (Bh K 1) (Bo BJ AG) λ_ _=>rfl)<|pv 2) AK)<|AB (Ad 3 L<|Au o hr<|AA (pv 0)<|AY<|Bh K 1)<|AB (AU (AJ BE (Bh K 1) AN<|AL _) (AE<|AI<|Dp (Bm Ck (pv 3) A'<|AL _)<|D_<|Bm (YS (CD.units hr):EN _ _ fF) (pv 3) (Bh K 1)<|AL _) AK)<|AB (AU (AJ BE (Bh K 1) AN<|AL _) (AE<|AI<|cU (Dp (II Af T (pv 3) T.list DH)<|D_<|Bm BE (Bh K 1) AN<|AL _)<|D_<|Dp (II Af T (pv 3) T.dict EC)<|D_<|Bm BE (Bh K 1) AN<|AL _) AK)<|AE<|AI<|Bm Ck (pv 3) A'<|AL _) λX hX=>?_;obtain⟨a,rest,rfl,A,T3⟩:=r8.th;have Rr:=r8.rx.rw;have S:=Dc.Br d j;have s:=AF.refl H;simp only[ce,t7,or_false]at hw;subst hX;refine⟨_,W,a,_,0,.str u,W,W,Ae.of A,Ed,W,_,W,?_⟩;refine Bu (λh=>?_) λh=>?_
 .have hw:u="lacks":=V.str.inj<|of_decide_eq_true h;subst hw;obtain⟨G,n,rfl⟩:=r8.la W;have hp:=Rr.hp;have su:Aa G:=λz hz=>Rr.sx z<|b9 _ hz;have no:(∀e,d.sub G=Z e->e.room (.str n)=false)->d.Kj (G++[.str n]):=λh kN mR e e1 e2=>by
   obtain⟨rfl,rfl⟩:=GY e1;exact h e e2
  refine⟨_,W,_,W,a,_,1,_,W,W,Ae.of A,C',_,W,_,W,p,_,W,hp,λp1 H1 C U=>?_⟩;rw[Bd]at U;have Wi:=C _ _ A;have D:=Dc.AS C j;refine⟨d,p1,G,W,D,U,su,?_⟩;cases i:d.sub G with
  |none=>exact⟨_,W,_,"dict","NoneType",W,W,.Al,_,W,Ah (q (Jq l S (no λe h=>by rw[i]at h;cases h)) _ C)⟩|some e=>
  have g:=(Dc.BF.sub i).at_ D;have I:e.room (.str n)=false->d.Kj (G++[.str n]):=λh=>no λe' h'=>by rw[i]at h';cases h';exact h
  cases e with
  |leaf t=>exact⟨_,W,_,"dict",Dc.Kc (.leaf t),W,W,Dc.Em g,_,W,Aj (by cases t<;>rfl) (by
    have:=q (Jq l S (I W)) _ C;cases t<;>exact this)⟩
  |row b Y=>exact⟨_,W,_,"dict",_,W,W,Dc.Em g,_,W,Ah (q (Jq l S (I W)) _ C)⟩|tab b ks Y=>
   refine⟨_,W,_,"dict",_,W,W,Dc.Em g,_,W,An ?_⟩;simp only[Dc.At]at g;refine⟨_,W,a,_,1,_,W,W,Ae.of Wi,C',_,W,p,_,_,_,W,W,Ae.of<|C _ _ hp,BS G _,_,W,b,_,W,.inl ⟨_,dL n,g.1,W,W⟩,?_⟩;rw[Dc.ED g.2.1];by_cases m:n∈ks
   .obtain⟨y,hy,_⟩:=Dc.CV g.2.1 m;rw[hy];exact q (Jq l S<|I<|by simp[Dc.room,m]) _ C
   .have hy:(ks.zip Y).lookup n=none:=by
     cases q2:(ks.zip Y).lookup n with
     |none=>rfl|some x=>exact absurd (Dc.AR q2).1 m
    rw[hy];exact Q (WY l W S i<|by simp[Dc.room,m]) _ C
 have nl:u≠"lacks":=λz=>h (by rw[z];decide);have np:u≠"put":=λz=>by rw[z]at hw;exact absurd hw ac
 refine⟨_,W,_,W,a,_,1,_,W,W,Ae.of A,C',d,p,M,W,j,Rr.hp,Rr.sx,_,W,a,_,0,.str u,W,W,Ae.of A,Ed,W,_,W,?_⟩;refine Bu (λh=>?_) λζ=>?_
 .have hw:u="ask":=V.str.inj<|of_decide_eq_true h;subst hw;obtain⟨rfl,J,cD,mT⟩:=T3.vd<|.inr<|.inr W;cases i:d.sub M with
  |none=>exact⟨_,W,W,_,W,Ah (q (Ld l np nl i) _ s)⟩|some e=>
   have P:=Dc.BF.sub i;have we:=Dc.Br e<|P.at_ j;have wv:=Dc.Br v J;have pz:=P.size;refine⟨_,W,W,_,W,Ay (by rw[show decide ((RY<|some e)=V.Al)=false from Dc.H_ (P.at_ j)];rfl) ?_⟩;obtain⟨B,h2⟩:=Dc.Il e (P.at_ j) (P.ok E) (g8 (al pz O) ac);obtain⟨h3,h4⟩:=Dc.Il v J cD (g8 mT ac);refine⟨_,W,_,W,a,_,2,_,W,W,Ae.of A,at2,⟨e.tr,v.tr,Dc.Jb e<|P.at_ j,Dc.Jb v J,Dc.jJ e,.inl ⟨B,h3⟩,al h2<|al (al pz O) ac,?_⟩⟩;have eq:=Rn we wv (P.ok E) cD;cases hb:Pt.Gh e.tr v.tr with
   |true=>exact Q (bY l i (Mm we wv (eq.mp hb))) _ s|false=>exact q (fk l i λc=>by rw[eq.mpr (ZD we wv c)]at hb;cases hb) _ s
 refine⟨_,W,a,_,0,.str u,W,W,Ae.of A,Ed,W,_,W,?_⟩;refine Bu (λh=>?_) λwW=>?_
 .have hw:u="is":=V.str.inj<|of_decide_eq_true h;subst hw;have er:=T3.tx W;subst er;have wX:∀e,d.sub M=Z e->e.ok:=λe h=>(Dc.BF.sub h).ok E;cases i:d.sub M with
  |none=>exact⟨_,W,_,"list","NoneType",W,W,.Al,_,W,Ah ⟨_,W,Ah ⟨_,W,_,"dict","NoneType",W,W,.Al,_,W,Ah (q (Ld l np nl i) _ s)⟩⟩⟩|some e=>
  have g:=(Dc.BF.sub i).at_ j;have wY:=wX e i;cases e with
  |leaf t=>
   have N:=q (ZP l i (by
    show Tp.Kd.leaf t≠ZE k;unfold ZE;split
    .exact λz=>nomatch z
    .split
     .exact λz=>nomatch z
     .intro z;cases z;rcases(show EO .Al from wY)with⟨_,e,_⟩|⟨_,e,_⟩<;>cases e)) _ s
   exact⟨_,W,_,"list",Dc.Kc<|.leaf t,W,W,Dc.Em g,_,W,Aj (by cases t<;>rfl) ⟨_,W,Aj (by cases t<;>rfl) ⟨_,W,_,"dict",Dc.Kc<|.leaf t,W,W,Dc.Em g,_,W,Aj (by cases t<;>rfl)<|by cases t<;>exact N⟩⟩⟩
  |row b Y=>
   refine⟨_,W,_,"list",_,W,W,Dc.Em g,_,W,An ⟨_,W,a,_,2,_,W,W,Ae.of A,at2,W,_,W,?_⟩⟩;by_cases m:k="row"
   .exact Ay (by rw[m];decide)<|Q (ZO l i<|by unfold ZE;rw[if_pos m];rfl) _ s
   .refine Aj (decide_eq_false λz=>m<|V.str.inj z) ⟨_,W,_,"dict",_,W,W,Dc.Em g,_,W,Ah<|q (ZP l i ?_) _ s⟩;show Tp.Kd.row≠ZE k;unfold ZE;rw[if_neg m];split<;>exact λz=>nomatch z
  |tab b ks Y=>
   refine⟨_,W,_,"list",_,W,W,Dc.Em g,_,W,Ah ⟨_,W,Ah ⟨_,W,_,"dict",_,W,W,Dc.Em g,_,W,An ⟨_,W,a,_,2,_,W,W,Ae.of A,at2,W,?_⟩⟩⟩⟩;by_cases m:k="table"
   .rw[show decide (V.str k=V.str "table")=true by rw[m];decide];exact Q (ZO l i<|by unfold ZE;rw[if_neg<|by rw[m];decide,if_pos m];rfl) _ s
   .rw[show decide (V.str k=V.str "table")=false from decide_eq_false λz=>m<|V.str.inj z];refine q (ZP l i ?_) _ s;show Tp.Kd.tab≠ZE k;unfold ZE;rw[if_neg m];split<;>exact λz=>nomatch z
 have hh:u="has":=by
  rcases hw with B|B|B|B
  .exact absurd (by rw[B];decide) ζ
  .exact B
  .exact absurd B nl
  .exact absurd (by rw[B];decide) wW
 subst hh;cases i:d.sub M with
 |none=>exact⟨_,W,W,q (Ld l np nl i) _ s⟩|some e=>
  refine⟨_,W,W,?_⟩;rw[show decide ((RY<|some e)=V.Al)=false from Dc.H_ ((Dc.BF.sub i).at_ j)];exact Q (bZ l i) _ s
theorem VG(F:Fq K "_law_done" 51 f fd)(T:Txt mg)(D:Df P w K mg base "_law_copy" lqm 30 (MR 30))(QI:Df P w K mg base "_law_found" lqh 1 E_)(IS:Df P w K mg base "_law_put" lqn 2 Ph)(gG:Df P w K mg base "_law_asked" lqc 6 Mu):BA P w K mg base DC 32 f fd lqc Le:=by
 refine F.oq ["_law_doc_here","_law_row_here","_law_became","_law_part_here","_law_holder"] λH En _ NG QC hr h=>?_;obtain⟨d,r,w0,xs,zs,p,v,k,R,rfl,Mx,Bi,N,r8,ro,wZ,q,qn⟩:=h;refine gen (AB (Ad 2 NG<|Au D hr<|AY<|pv 0)<|AB (AU (AJ BE (Bh K 1) AN<|AL _) (AE<|AI<|Au IS hr<|AA (pv 2)<|AA (Bh K 1)<|AY<|Au D hr<|AY<|Bh K 1) AK)<|AB (AU (AJ (CI:EN _ _ (SE K false)) (Bh K 1) (BC<|AA AN<|AA AN<|AA AN<|AY AN) W) (AE<|AI<|W_ (Ag<|Au gG hr<|AA (pv 2)<|AY<|pv 1) (pv 2) A') AK)<|AB (Ad 3 NG<|Au QI hr<|AA (pv 2)<|AY<|Bh K 1)<|AB (AU (AJ HS (pv 3) A'<|AL _) (AE<|AI A') AK)<|AB (AU (AJ BE (Bh K 1) AN<|AL _) (AE<|AI<|Au IS hr<|AA (pv 2)<|AA (Bh K 1)<|AY<|Au D hr<|AY<|pv 3) AK)<|AB (AU (PW.pt<|pw_and (AJ BE (Bh K 1) AN<|AL _)<|pw_and1<|AJ (J'<|CD.Cm hr) (Bh K 1) (AX Bp)<|AL _) (AE<|AI<|Au D hr<|AY<|Bh K 1) AK)<|AB (Ad 4 NG<|Au QI hr<|AA (pv 2)<|AY<|Ai BO (Bh K 1) Az<|Aw<|Bo BJ AG)<|AB (AU (AJ BE (Bh K 1) AN<|AL _) (AB (Xy (Lj (Au D hr<|AY<|Bh K 1)<|SI (pv 4) (CS (r:=Dz K) Bj (Bh K 1) (Bo BJ AG) λ_ _=>rfl) set_list)<|JC QC (pv 4) (CS (r:=Dz K) Bj (Bh K 1) (Bo BJ AG) λ_ _=>rfl) (Au D hr<|AY<|Bh K 1) W)<|AE<|AI<|pv 2) AK)<|AB (CO<|MM (NT v6 Fk Fa XU (pv 4)<|AY<|CS (r:=Dz K) Bj (Bh K 1) (Bo BJ AG) λ_ _=>rfl)<|XZ (pv 4) (CS (r:=Dz K) Bj (Bh K 1) (Bo BJ AG) λ_ _=>rfl) ⟨W,W,W,W⟩)<|AB (AU (AJ BE (Bh K 1) AN<|AL _) (AE<|AI<|pv 2) AK)<|AE<|AI<|Au IS hr<|AA (pv 2)<|AA (Bh K 1)<|AY<|pv 3) λX hX=>?_;obtain⟨a,rest,rfl,ha,T3⟩:=r8.th;have Rr:=r8.rx.rw;subst hX;refine⟨_,W,d,W,Mx,al (Dc.DP d)<|al N ac,al N ac,λy H1 F0 lk=>?_⟩;have ek:kf y=kf d:=Mm (Dc.Br y F0.at_) (Dc.Br d Mx) (Dc.EE d y lk).symm;have L:=Dc.Br y F0.at_;have E:=Dc.Eo d y lk Bi;have gH:=Dc.Cd d y lk;have fin:∀(d':Dc)(H':Hp),BY H H' d'->d'.ok->(d'.size<=d.size+d.size∨d'.size<=d.size+2)->HN y R d'->(w0="take"->d'.size<=d.size/\∀I lv e,xs=I++[lv]->d.sub I=Z e->Dc.Eqv (d.Av I<|e.BZ lv) d')->En.rt d'.val H':=λd' H' F o z1 dd tk=>q d' H' F o z1 (dd.of ek) tk;have kO:¬R.HJ (kf y)->∀H',AF H H'->En.rt .Al H':=λh=>qn (by rw[<-ek];exact h);have qL:QK xs zs R∨R.HJ (kf y):=by rw[ek];exact wZ
 have kv:∀{v v':Dc}{G G':Hp},v.At G->v'.At G'->Dc.CZ v v'->kf v'=kf v:=λ{v v' G G'} h h' l=>Mm (Dc.Br v' h') (Dc.Br v h) (Dc.EE v v' l).symm;have Tc:∀H',AF H H'->(w0="copy"∨w0="move")->∃p2,rest=[.ref p2]/\H' p2=Z (.tup zs):=λH' s h=>by
  obtain⟨a',tG,e',h',T'⟩:=r8.rx.th;cases e';rw[ha]at h';cases h';obtain⟨p2,e2,h2⟩:=T'.cm h;exact⟨p2,e2,s _ _ h2⟩
 have Wi:=F0.same _ _ ha;have R1:=r8.up F0.same;have wa:=R1.rx.rw;have T1:=T3.up F0.same;have wb:∀ys:List V,ys≠[]->∃I lv,ys=I++[lv]:=λys h=>⟨ys.dropLast,ys.getLast h,(f6 h).symm⟩;dsimp only[Bv];refine hide λe1 S=>?_;by_cases cE:w0="put"
 .subst cE;obtain⟨rfl,O,cD,_⟩:=T1.vd<|.inl W;have M:=T1.pc<|.inl W;refine⟨_,W,a,_,0,_,W,W,Ae.of Wi,Ed,W,_,W,Ay ac ⟨_,W,_,W,a,_,1,_,W,W,Ae.of Wi,C',_,W,a,_,2,_,W,W,Ae.of Wi,at2,v,W,O,al (Dc.DP v)<|al M ac,al M ac,λv' H2 A m=>?_⟩⟩;have FL:BH H H2 [y,v']:=F0.jK.snoc A;refine⟨H,y,v',p,xs,W,FL,al (al (bm gH.symm) N) ac,A.same _ _ wa.hp,Rr.sx,Rr.nx<|.inl W,λI lv e ex B f_ H3 F3=>?_,λnz H3 s3=>S.r<|kO (fj ro L nz) _<|FL.same.trans s3⟩;have vv:(y.Av I<|e.De lv v').val=y.val:=Dc.Fd B<|Dc.JU ..;have kP:=Dc.Eo v v' m cD;have qM:=Dc.Cd v v' m;rw[<-vv];have z1:=Dc.GX (n:=e.De lv v') L B;have z2:=Dc.KI (v:=v') f_;exact S.r<|fin _ _ F3 (Dc.Ja L B E<|Dc.PZ ((Dc.BF.sub B).ok E) kP<|Rr.sx lv<|by rw[ex];simp) y_ (bW ro ex L B f_<|kv O A.at_ m) λz=>absurd z ac
 refine⟨_,W,a,_,0,_,W,W,Ae.of Wi,Ed,W,_,W,Aj (decide_eq_false λz=>cE<|V.str.inj z)<|S.n<|hide λe1 S=>⟨_,W,a,_,0,_,W,W,Ae.of Wi,Ed,Ao<|show 4<=1000 by decide,λg hg=>⟨g,_,W,.inl<|Ax.of AD,W,W,_,W,?_⟩⟩⟩;have F1:=F0.up<|AF.new (o:=.lst [.str "ask",.str "has",.str "lacks",.str "is"]) hg;generalize upd H1 g (.lst [.str "ask",.str "has",.str "lacks",.str "is"])=H2 at F1⊢;have Q:=F1.same _ _ ha;have R2:=r8.up F1.same;have qN:=R2.rx.rw;have T2:=T3.up F1.same;refine Fu (λb=>?_) λb=>?_
 .have hw:w0∈(lqx:List Str):=by
   rw[show DX (.str w0) [.str "ask",.str "has",.str "lacks",.str "is"]=decide (w0∈(lqx:List Str))from Ce w0 lqx]at b;exact of_decide_eq_true b
  refine⟨_,W,_,W,y,_,w0,xs,zs,p,v,k,R,W,F1.at_,E,al (bm gH.symm) N,R2,ro,hw,λdd H3 s3=>⟨_,W,An ⟨_,W,?_⟩⟩,λnf H3 s3=>⟨_,W,Ah<|S.r<|kO nf _<|F1.same.trans s3⟩⟩;exact S.r<|fin y H3 (F1.up s3) E y_ dd λz=>by rw[z]at hw;exact absurd hw ac
 refine S.n ?_;have mU:w0="take"∨w0="move"∨w0="copy"∨w0="change":=by
  have Zf:=Rr.wd;simp only[DB,ce,t7,or_false]at Zf;rcases Zf with rfl|h|h|h|h|rfl|rfl|rfl|rfl
  .exact absurd W cE
  .exact .inl h
  .exact .inr<|.inl h
  .exact .inr<|.inr<|.inl h
  .exact .inr<|.inr<|.inr h
  all_goals exact absurd b ac
 refine⟨_,W,_,W,a,_,1,_,W,W,Ae.of Q,C',y,p,xs,W,F1.at_,qN.hp,Rr.sx,?_⟩;dsimp only[Bv];refine hide λe1 S=>?_;cases U:y.sub xs with
 |none=>
  refine⟨_,W,W,_,W,An<|S.r<|kO (Ld ro cE (λz=>by rw[z]at mU;exact absurd mU ac) U) _ F1.same⟩
 |some x=>
 have Px:=Dc.BF.sub U;have mV:=Px.size;refine⟨_,W,W,_,W,Aj (Dc.H_<|Px.at_ F1.at_)<|S.n ?_⟩;refine hide λe1 S=>?_;by_cases Zy:w0="copy"
 .subst Zy;obtain⟨p2,rfl,Zx⟩:=Tc _ F1.same<|.inl W;refine⟨_,W,a,_,0,_,W,W,Ae.of Q,Ed,W,_,W,Ay ac ⟨_,W,_,W,a,_,2,_,W,W,Ae.of Q,at2,_,W,x,W,Px.at_ F1.at_,al (Dc.DP x)<|al mV<|al (al (bm gH.symm) N) ac,al mV<|al (al (bm gH.symm) N) ac,λx' H3 A m=>?_⟩⟩;have FL:BH H H3 [y,x']:=F1.jK.snoc A;refine⟨H,y,x',p2,zs,W,FL,al (al (bm gH.symm) N) ac,A.same _ _ Zx,Rr.sz,Rr.nz<|.inl W,λI lv e ex B f_ H4 F4=>?_,λnz H4 s4=>S.r<|kO (bX ro L nz) _<|FL.same.trans s4⟩;have vv:(y.Av I<|e.De lv x').val=y.val:=Dc.Fd B<|Dc.JU ..;have kP:=Dc.Eo x x' m<|Px.ok E;have qM:=Dc.Cd x x' m;rw[<-vv];have z1:=Dc.GX (n:=e.De lv x') L B;have z2:=Dc.KI (v:=x') f_;exact S.r<|fin _ _ F4 (Dc.Ja L B E<|Dc.PZ ((Dc.BF.sub B).ok E) kP<|Rr.sz lv<|by rw[ex];simp) y_ (ZN ro ex L U B f_<|kv (Px.at_ F1.at_) A.at_ m) λz=>absurd z ac
 refine⟨_,W,a,_,0,_,W,W,Ae.of Q,Ed,W,_,W,Aj (decide_eq_false λz=>Zy<|V.str.inj z)<|S.n ?_⟩;have fx:∀z∈xs,Cj z=true:=λz hz=>(Rr.sx z hz).flat;refine DY (t:=Kx _ _ _) (fun σ H'=>σ=[Z d.val,Z<|.ref a,Z y.val,Z x.val,ν]/\AF H2 H'/\xs≠[]) (fun σ' H3 z=>?_) (λk=>?_);rotate_left
 .by_cases gI:w0="change"
  .subst gI;refine⟨_,W,a,_,0,_,W,W,Ae.of Q,Ed,W,_,W,Ay ac ⟨_,W,a,_,1,_,W,W,Ae.of Q,C',gU _,.mk λe0 H3 he se fe=>⟨p,e0,xs,[],W,W,Ae.of<|se _ _ qN.hp,Ae.of fe,fx,λz hz=>(nomatch hz),_,W,?_⟩⟩⟩;by_cases gy:xs=[]
   .obtain⟨rfl,O,cD,_⟩:=(T2.up se).vd<|.inr<|.inl W;have M:=T2.pc<|.inr W;refine Ay (by rw[Qz];simp[gy]) ⟨_,W,a,_,2,_,W,W,Ae.of<|se _ _ Q,at2,v,W,O,al (Dc.DP v)<|al M ac,al M ac,λv' H4 A m=>?_⟩;have qM:=Dc.Cd v v' m;refine fin v' H4 (A.down<|F1.same.trans se) (Dc.Eo v v' m cD) y_ ?_ (λz=>absurd z ac);have:=Mr (v':=v') ro L U<|kv O A.at_ m;rw[gy,Dc.HY]at this;exact this
   .exact Aj (by rw[Qz];simp[gy])<|k _ _ ⟨W,se,gy⟩
  .refine⟨_,W,a,_,0,_,W,W,Ae.of Q,Ed,W,_,W,Aj (decide_eq_false λz=>gI<|V.str.inj z)<|Ah<|k _ _ ⟨W,AF.refl _,Rr.nx ?_⟩⟩;rcases mU with h|h|h|h
   .exact .inr<|.inr<|.inl h
   .exact .inr<|.inr<|.inr h
   .exact absurd h Zy
   .exact absurd h gI
 obtain⟨rfl,s3,nx⟩:=z;obtain⟨I,lv,rfl⟩:=wb xs nx;have F3:=F1.up s3;have kE:=s3 _ _ Q;have wc:=T2.up s3;have QL:=s3 _ _ qN.hp;have qK:Aa I:=λz hz=>Rr.sx z<|b9 _ hz;obtain⟨e,B,C⟩:=Dc.Ih U;have P:=Dc.BF.sub B;have we:=Dc.Br e<|P.at_ F0.at_;have Y:e.AZ.Nodup:=by
  obtain⟨l,r,e1,_⟩:=Dc.Co (n:=e) L F0.nd B;have:=F0.nd;rw[e1]at this;exact(b7.mp (b7.mp this).1).2.1
 refine⟨_,W,_,W,a,_,1,_,W,W,Ae.of kE,C',_,W,_,W,p,_,W,QL,λp2 H4 s4 Zx=>?_⟩;rw[Bd]at Zx;have F4:=F3.up s4;have ζ:=s4 _ _ kE;have T4:=wc.up s4;have SH:=s4 _ _ QL;refine⟨y,p2,I,W,F4.at_,Zx,qK,?_⟩;rw[B];dsimp only[Bv,RY];have j:=P.at_ F4.at_;refine hide λe1 S=>?_;by_cases gI:w0="change"
 .subst gI;obtain⟨rfl,O,cD,_⟩:=T4.vd<|.inr<|.inl W;have M:=T4.pc<|.inr W;refine⟨_,W,a,_,0,_,W,W,Ae.of ζ,Ed,W,_,W,Ay ac ?_⟩;have done:∀(v':Dc)(H5 H6:Hp),BY H4 H5 v'->Dc.CZ v v'->BY H H6 (y.Av I<|e.Av [lv] v')->En.rt y.val H6:=λv' H5 H6 A m F6=>by
   have ee:=Dc.WA (lv:=lv) (n:=v') L B;have vv:(y.Av I<|e.Av [lv] v').val=y.val:=Dc.Fd B<|Dc.Pb C;have kP:=Dc.Eo v v' m cD;have qM:=Dc.Cd v v' m;have z1:=Dc.GX (n:=v') L U;rw[ee]at z1;rw[<-vv];refine fin _ _ F6 (by rw[<-ee];exact Dc.Ja L U E kP) y_ ?_ (λz=>absurd z ac);rw[<-ee];exact Mr ro L U<|kv O A.at_ m
  rcases Dc.sub_one C with⟨b,J,i,rfl,rfl,kQ⟩|⟨b,ks,J,k,rfl,rfl,cF⟩
  .refine .inl ⟨_,W,a,_,2,_,W,W,Ae.of ζ,at2,v,W,O,al (Dc.DP v)<|al M ac,al M ac,λv' H5 A m=>?_⟩;simp only[Dc.At]at j;have eb:=j.1.exact (F4.own b<|P.AZ b<|by simp[Dc.AZ]);have nb:b∉Dc.AH J:=by
    simp only[Dc.AZ]at Y;exact(f9.mp Y).1
   have hi:=HL kQ;have en:(Dc.row b J).Av [.int (i:Int)] v'=.row b (J.set i v'):=by rw[Dc.Cw kQ,Dc.HY]
   have wg:QW (J.map Dc.val).length (i:Int)=Z i:=by unfold QW;rw[if_pos<|j9 _,if_pos<|by rw[be];exact zF.mpr hi,i6]
   have FF:=F4.change (H4:=upd H5 b (.lst ((J.map Dc.val).set i v'.val))) B C A W (by simp[Dc.AZ]) (by rw[en];rfl) (by
    rw[en];simp only[Dc.At];refine⟨.inl (by rw[AD,aae]),Dc.LS (Dc.Cc v' (λc hc o h=>by rw[AM (λz=>Dc.there F4.at_ (P.AZ b (by simp[Dc.AZ])) (by rw[<-z];exact A.new c hc))];exact h) A.at_) (Dc.BD J (λc hc o h=>by rw[AM (λz=>nb (by rw[<-z];exact hc))];exact A.same _ _ h) j.2)⟩) (λa o ha h=>by rw[AM ha];exact h) (λo u z=>by rw[AD]at z;cases z)
   exact⟨_,W,_,W,a,_,1,_,W,W,Ae.of<|A.same _ _ ζ,C',_,W,p,_,_,_,W,W,Ae.of<|A.same _ _ SH,BS I _,b,_,_,i,W,W,A.same _ _ eb,wg,_,W,S.r<|done v' H5 _ A m FF⟩
  .refine .inr ⟨_,W,a,_,2,_,W,W,Ae.of ζ,at2,v,W,O,al (Dc.DP v)<|al M ac,al M ac,λv' H5 A m=>?_⟩;simp only[Dc.At]at j;have eb:=j.1.exact (F4.own b<|P.AZ b<|by simp[Dc.AZ]);have nb:b∉Dc.AH J:=by
    simp only[Dc.AZ]at Y;exact(f9.mp Y).1
   have hi:=Dc.Be j.2.1 j.2.2.1 cF;have hk:=(Dc.AR cF).1;have en:(Dc.tab b ks J).Av [.str k] v'=.tab b ks (J.set (Dc.ix ks k) v'):=by rw[Dc.DJ hi,Dc.HY]
   have lx:=Dc.GD J;have kR:=P.size;simp only[Dc.size]at kR;have ep:putK (Dc.kvs ks J) (dL k) v'.val=Dc.kvs ks (J.set (Dc.ix ks k) v'):=by
    rw[DZ,DZ,MT (by rw[be];exact j.2.1) j.2.2.1<|Dc.Ec hk,aae]
   have FF:=F4.change (H4:=upd H5 b (.dK (Dc.kvs ks (J.set (Dc.ix ks k) v')))) B C A W (by simp[Dc.AZ]) (by rw[en];rfl) (by
    rw[en];simp only[Dc.At];refine⟨.inl AD,by rw[wT];exact j.2.1,j.2.2.1,Dc.LS (Dc.Cc v' (λc hc o h=>by rw[AM (λz=>Dc.there F4.at_ (P.AZ b (by simp[Dc.AZ])) (by rw[<-z];exact A.new c hc))];exact h) A.at_) (Dc.BD J (λc hc o h=>by rw[AM (λz=>nb (by rw[<-z];exact hc))];exact A.same _ _ h) j.2.2.2)⟩) (λa o ha h=>by rw[AM ha];exact h) (λo u z=>by rw[AD]at z;cases z)
   refine⟨_,W,_,W,a,_,1,_,W,W,Ae.of<|A.same _ _ ζ,C',_,W,p,_,_,_,W,W,Ae.of<|A.same _ _ SH,BS I _,b,_,W,L2.IS.k (k:=dL k) (A.same _ _ eb)<|As<|by rw[Dc.Hu j.2.1];exact al lx<|al (al (fr _ _) kR)<|al (al (bm gH.symm) N) ac,?_⟩;rw[ep];exact⟨_,W,S.r<|done v' H5 _ A m FF⟩
 refine⟨_,W,a,_,0,_,W,W,Ae.of ζ,Ed,W,_,W,Aj (decide_eq_false λz=>gI<|V.str.inj z)<|S.n ?_⟩;have vv:(y.Av I<|e.BZ lv).val=y.val:=Dc.Fd B<|Dc.Qw ..;have w1:(y.Av I<|e.BZ lv).Wf:=Dc.Oy L B<|Dc.LQ we C;have kS:(y.Av I<|e.BZ lv).ok:=Dc.Ja L B E<|Dc.ay<|P.ok E;have z1:=Dc.GX (n:=e.BZ lv) L B;have z2:=Dc.Vz we C;have tail:∀H5,BH H H5 [y.Av I<|e.BZ lv,x]->QP (Kx (XG<|Zu nr (Zu (Dz K) (Oa 1)<|tC<|V.int 0)<|tC<|V.str "take") (dR<|Oa 2) Li) (dR<|XI Ph [] E0<|IK (Oa 2)<|IK (Zu (Dz K) (Oa 1)<|tC<|V.int 2)<|IK (Oa 3) SO) En [Z d.val,Z<|.ref a,Z y.val,Z x.val,Z e.val] H5:=λH5 FL=>by
  have qO:=FL.same _ _ ha;have T5:=T3.up FL.same;rcases mU with rfl|rfl|h|h
  .refine⟨_,W,a,_,0,_,W,W,Ae.of qO,Ed,W,_,W,Ay ac ⟨_,W,?_⟩⟩;rw[<-vv];refine fin _ _ FL.one kS y_ (Rq ro W L B C) λ_=>⟨y_,λkN m e' e1 h'=>?_⟩;obtain⟨rfl,rfl⟩:=GY e1;have wd:=Dc.Br d Mx;obtain⟨e2,h2,q2⟩:=Dc.Eqv.sub wd L (Dc.EE d y lk) h';rw[B]at h2;cases h2;have tH:=Dc.Cp wd h';obtain⟨x2,h3,_⟩:=Dc.Eqv.sub we tH q2.symm C;exact Dc.Eqv.Av wd L (Dc.EE d y lk) h'<|Dc.Eqv.BZ tH we h3 q2
  .obtain⟨pz,rfl,wh⟩:=Tc _ FL.same<|.inr W;refine⟨_,W,a,_,0,_,W,W,Ae.of qO,Ed,W,_,W,Aj ac ⟨_,W,_,W,a,_,2,_,W,W,Ae.of qO,at2,_,W,H,y.Av I<|e.BZ lv,x,pz,zs,by rw[vv];rfl,FL,y_,wh,Rr.sz,Rr.nz<|.inr W,λcG fy e2 ex S_ mM H6 F6=>?_,λnz H6 s6=>kO (bb ro W L B C w1 nz) _<|FL.same.trans s6⟩⟩;have wj:((y.Av I<|e.BZ lv).Av cG<|e2.De fy x).val=(y.Av I<|e.BZ lv).val:=Dc.Fd S_<|Dc.JU ..;rw[<-wj];have y1:=Dc.GX (n:=e2.De fy x) w1 S_;have y2:=Dc.KI (v:=x) mM;refine fin _ _ F6 (Dc.Ja w1 S_ kS<|Dc.PZ ((Dc.BF.sub S_).ok kS) (Px.ok E)<|Rr.sz fy<|by rw[ex];simp) y_ (ZQ ro W ex L E Rr.sz B C w1 S_ mM qL) λz=>absurd z ac
  .exact absurd h Zy
  .exact absurd h gI
 rcases Dc.sub_one C with⟨b,J,i,rfl,rfl,kQ⟩|⟨b,ks,J,k,rfl,rfl,cF⟩
 .simp only[Dc.At]at j;have eb:=j.1.exact (F4.own b<|P.AZ b<|by simp[Dc.AZ]);have hi:=HL kQ;have lx:=Dc.GD J;have kR:=P.size;simp only[Dc.size]at kR;have sq:PySem.seqIndex? (i:Int) (J.map Dc.val).length=Z i:=(LN<|by unfold QW;rw[if_pos<|j9 _,if_pos<|by rw[be];exact zF.mpr hi,i6]).1;have nb:b∉Dc.AH J:=by
   simp only[Dc.AZ]at Y;exact(f9.mp Y).1
  refine .inl ⟨_,W,.inl ⟨W,_,Ax.of eb⟩,_,W,a,_,1,_,W,W,Ae.of ζ,C',_,W,p,_,_,_,W,W,Ae.of SH,BS I _,b,_,_,i,_,W,W,eb,A7 ac<|j9 _,zb (y8.mpr<|al (jp hi)<|al lx<|al (al (fr _ _) kR)<|al (bm gH.symm) N) ac,sq,by rw[f8,kQ];rfl,?_⟩;refine tail _ (BH.taken F4 B C W (by simp[Dc.AZ]) (by simp[Dc.BZ,Dc.AZ]) ?_ (λc o hc h=>by rw[AM hc];exact h) λo u z=>by rw[AD]at z;cases z);simp only[Dc.BZ,Dc.At,i6];refine⟨.inl<|AD.trans ?_,Dc.Nq<|Dc.BD J (λc hc o h=>by rw[AM λz=>nb<|by rw[<-z];exact hc];exact h) j.2⟩;rw[yn,yn,ca,W8,Os]
 .simp only[Dc.At]at j;have eb:=j.1.exact (F4.own b<|P.AZ b<|by simp[Dc.AZ]);have hk:=(Dc.AR cF).1;have hv:Cg (Dc.kvs ks J) (dL k)=Z x.val:=by rw[Dc.ED j.2.1,cF];rfl
  have nb:b∉Dc.AH J:=by
   simp only[Dc.AZ]at Y;exact(f9.mp Y).1
  have tJ:=Dc.LQ we C;refine .inr ⟨_,W,b,W,.inl ⟨_,.inl eb⟩,_,W,a,_,1,_,W,W,Ae.of ζ,C',_,W,p,_,_,_,W,W,Ae.of SH,BS I _,_,dL k,_,eb,W,hv,?_⟩;refine tail _ (BH.taken F4 B C W (by simp[Dc.AZ]) (by simp[Dc.BZ,Dc.AZ]) ?_ (λc o hc h=>by rw[AM hc];exact h) λo u z=>by rw[AD]at z;cases z);simp only[Dc.BZ,Dc.At]at tJ⊢;cases tJ with
  |tab wl wn wx=>exact⟨.inl (AD.trans (by rw[Dc.V_ j.2.1 j.2.2.1 hk])),wl,wn,Dc.Nq (Dc.BD J (λc hc o h=>by rw[AM (λz=>nb (by rw[<-z];exact hc))];exact h) j.2.2.2)⟩
theorem Zk(F:Fq K "_law_done" 51 f d)(T:Txt mg)(c:Df P w K mg base "_law_copy" lqm 30 (MR 30))(a:Df P w K mg base "_law_found" lqh 1 E_)(IS:Df P w K mg base "_law_put" lqn 2 Ph)(b:Df P w K mg base "_law_asked" lqc 6 Mu):BA P w K mg base DC 32 f d lqc Jg:=(VG F T c a IS b).imp Wc
theorem Zl{n:Nat}(F:Fq K "_law_paths" 52 f fd)(T:Txt mg)(E:Df P w K mg base "_law_paths" lqk n (Hk n)):BA P w K mg base DC (n+1) f fd lqk (Hk (n+1)):=by
 refine F.oq ["_law_doc_here","_law_ahead","_law_found_here","_law_k","_law_name"] λH _ _ J QC hr h=>?_;obtain⟨d,t,xs,rfl,c,U,L,hsz,ht,hx,q⟩:=h;refine⟨_,(AB (Ad 2 J<|BC<|AY<|pv 1)<|AB (AU (Ag<|II Af T (pv 0) T.list DH) (AE<|Za (ET W T.range<|AY<|EG K T<|pv 0) (GA 3 J)<|AE<|CO<|gj K (pv 2)<|Au E hr<|AA (Mw K (pv 0)<|pv 3)<|AY<|AQ Bn (pv 1)<|AX<|AY<|pv 3) AK)<|AB (AU (Ag<|II Af T (pv 0) T.dict EC) (AE<|Za (D'<|Ct (JJ W) W T.sorted Qp<|AY<|pv 0) (GA 4 J)<|AE<|CO<|gj K (pv 2)<|Au E hr<|AA (hB QC (pv 0)<|pv 4)<|AY<|AQ Bn (pv 1)<|AX<|AY<|pv 4) AK)<|AE<|AI<|pv 2),?_⟩;refine⟨_,W,BG,λp hp=>?_⟩;have M:AF H (upd H p<|.lst [.ref t]):=AF.new hp;have X:upd H p (.lst [.ref t]) p=Z (.lst<|[t].map V.ref):=AD;have g:=Dc.AS M c;have ju:=M _ _ ht;have tK:∀{Hx:Hp}{I zs:List V}{z:Addr},Hx p=Z (.lst I)->Hx z=Z (.tup zs)->z≠p:=λh1 h2=>GI h2 h1 (by intro z;cases z);have v0:∀z:Addr,z=t->CA (upd H p<|.lst [.ref t]) [z] (([[]]:List (List V)).map (xs++·)):=λz hz=>by rw[hz];exact .cons (show _=Z (HO.tup<|xs++[])by rw[ge];exact ju) .nil
 cases d with
 |leaf v=>
  exact⟨_,W,_,"list",Dc.Kc<|.leaf v,W,W,Dc.Em g,_,W,Aj (by cases v<;>rfl) ⟨_,W,_,"dict",Dc.Kc<|.leaf v,W,W,Dc.Em g,_,W,Aj (by cases v<;>rfl) ⟨_,W,q p [t] [[]] _ M hp X W (v0 t W)<|Wt.one.all λz x h=>absurd W<|Dc.RQ h⟩⟩⟩
 |row a l=>
  refine⟨_,W,_,"list",Dc.Kc (.row a l),W,W,Dc.Em g,_,W,Ay W ?_⟩;have c:=c;simp only[Dc.At,Dc.ok,Dc.slim,Dc.deep,Dc.size]at c g U L hsz hx;have wk:=Dc.GD l;have ll:(l.map Dc.val).length=l.length:=be ..;refine⟨_,W,a,_,W,.inl (.inl g.1),_,W,A7 ac (j9 _),y_,GN (lo:=0) (λi σ A=>∃(u:List Addr)(o3 o4:Option V),σ=[Z (.ref a),Z (.ref t),Z (.ref p),o3,o4]/\AF H A/\A p=Z (.lst (u.map V.ref))/\u.length=1+Dc.Ab (l.take i)/\∃G:List (List V),CA A u (G.map (xs++·))/\Wt ((pu i).map λ(j:Nat)=>V.int (j:Int)) (λz=>(Dc.row a l).sub [z]) G)
   ⟨[t],ν,ν,W,M,X,W,[[]],v0 t W,Wt.one⟩ ?_ ?_⟩
  .rintro i σ A _ go hi ⟨u,o3,o4,rfl,N,s,B,G,C,pq⟩;have wm:i<l.length:=by rw[<-ll];lia
   obtain⟨x,O⟩:=HK l i wm;have Q:=yc O;have mV:=Dc.Cb Q;have e0:(0:Int)+(i:Int)=(i:Int):=abQ _;have hv:QX (l.map Dc.val) (0+(i:Int))=Z x.val:=by
    rw[e0];exact Ba<|by rw[f8,O];rfl
   have lz:u.length+x.size<=1000:=by
    have:=Dc.HE O;have:=Dc.FX l<|i+1;lia
   refine⟨_,W,.inl ⟨W,_,Ax.of s⟩,_,W,_,W,a,_,_,_,W,W,(.inl<|c.1.up<|N _),hv,_,W,_,W,BG,λt1 y=>?_⟩;have s1:=N.trans<|AF.new (o:=.tup [.int<|0+(i:Int)]) y;refine⟨t,t1,xs,[.int<|0+(i:Int)],W,W,s1 _ _ ht,AD,Ao<|by simp;lia,λt2 H3 Y f'=>?_⟩;have D:=s1.trans Y;refine⟨x,t2,_,W,Dc.AS D<|Dc.Cn c.2 x Q,Dc.BX.mp U x Q,Dc.Ea L x Q,(by have:=Dc.Bw Q;lia),f',by simp;lia,λp2 R qP H4 s4 wo Zx l2 v2 qQ=>?_⟩;have qR:=D.trans s4;have s5:=((AF.new (o:=.tup [.int<|0+(i:Int)]) y).trans Y).trans s4;refine⟨p,p2,_,_,W,W,s5 _ _ s,Zx,Ao<|by simp;exact al (rs (bm l2) _) lz,go.n ⟨u++R,_,_,W,qR.put hp,by rw[AD,ca],?_,G++qP.map (.int (i:Int)::·),?_,?_⟩⟩
   .rw[d7,B,l2,Dc.HE O];lia
   .have up:∀b I,H4 b=Z (.tup I)->upd H4 p (.lst<|u.map V.ref++R.map V.ref) b=Z (.tup I):=λb I h=>by rw[AM<|tK (s5 _ _ s) h];exact h
    rw[ca];refine((C.up λb I h=>s5 _ _ h).append ?_).up up;rw[zE];have e:((xs++·)∘(V.int (i:Int)::·))=((xs++[.int<|0+(i:Int)])++·):=by funext r;simp
    rw[e];exact v2
   .rw[J3,ca];refine pq.push (λh=>?_) (by rw[Dc.Gq O,Dc.Ap]) qQ;obtain⟨j,ζ,e⟩:=n9.mp h;have:=ye.mp ζ;cases e;lia
  .rintro σ A ⟨u,o3,o4,rfl,N,s,B,G,C,pq⟩;refine⟨_,W,_,"dict",Dc.Kc<|.row a l,W,W,Dc.Em (H:=A) (d:=.row a l)<|Dc.AS N<|by simp only[Dc.At];exact c,_,W,Aj W ⟨_,W,q p u G A N hp s ?_ C<|pq.all λz x h=>?_⟩⟩
   .rw[B,Q3<|by rw[<-ll];lia];simp only[Dc.size]
   .obtain⟨j,rfl,ζ⟩:=Dc.DR.mp h;have lj:=HL ζ;exact n9.mpr ⟨j,ye.mpr y_,W⟩
 |tab a ks l=>
  refine⟨_,W,_,"list",Dc.Kc<|.tab a ks l,W,W,Dc.Em g,_,W,Aj W ⟨_,W,_,"dict",Dc.Kc<|.tab a ks l,W,W,Dc.Em g,_,W,Ay W ?_⟩⟩;have c:=c;simp only[Dc.At,Dc.ok,Dc.slim,Dc.deep,Dc.size]at c g U L hsz hx;have wk:=Dc.GD l;have kk:=Dc.EB (ks:=ks) (xs:=l) c.2.1;have kl:(Dc.kvs ks l).length=ks.length:=by
   have:=congrArg ww kk;simpa using this
  refine⟨_,W,a,_,ks,W,g.1,kk,by rw[kl];exact g8 (bm c.2.1) L.1,λp3 m H3 wq Y QL perm yO=>?_⟩;have D:=M.trans Y;have mW:p≠p3:=Am X wq;refine⟨p3,W,⟨_,Ax.of QL⟩,FV (xs:=m.map V.str) (λi σ A=>∃(u:List Addr)(o3 o4:Option V),σ=[Z (.ref a),Z (.ref t),Z (.ref p),o3,o4]/\AF H A/\A p3=Z (.lst (m.map V.str))/\A p=Z (.lst (u.map V.ref))/\u.length=1+((m.take i).map (Dc.IY ks l)).sum/\∃G:List (List V),CA A u (G.map (xs++·))/\Wt ((m.take i).map V.str) (λz=>(Dc.tab a ks l).sub [z]) G)
   ⟨[t],ν,ν,W,D,QL,Y _ _ X,W,[[]],(v0 t W).up λb I h=>Y _ _ h,Wt.one⟩ (λi σ A hi ⟨u,o3,o4,e,N,h3,r⟩=>Ax.of h3) ?_ ?_⟩
  .rintro i nm σ A _ go S ⟨u,o3,o4,rfl,N,h3,s,B,G,C,pq⟩;obtain⟨k,hk,rfl⟩:∃k,m[i]?=Z k/\V.str k=nm:=by
    rw[f8]at S;cases e:m[i]? with
    |none=>rw[e]at S;cases S|some k=>rw[e]at S;exact⟨k,W,yb S⟩
   have mk:k∈ks:=perm.mem_iff.mp<|yc hk;obtain⟨x,cF,Q⟩:=Dc.CV c.2.1 mk;have mV:=Dc.Cb Q;have wt:Dc.IY ks l k=x.size:=by simp[Dc.IY,cF]
   have tk:((m.take<|i+1).map<|Dc.IY ks l).sum=((m.take i).map<|Dc.IY ks l).sum+x.size:=by
    rw[yz,hk,ca,aaN];simp[wt]
   have yP:=Dc.Nl c.2.1 c.2.2.1 perm;have lz:u.length+x.size<=1000:=by
    have:((m.take<|i+1).map<|Dc.IY ks l).sum+((m.drop<|i+1).map<|Dc.IY ks l).sum=(m.map<|Dc.IY ks l).sum:=by
     rw[<-aaN,<-ca,pi]
    lia
   have hv:Cg (Dc.kvs ks l) (dL k)=Z x.val:=by rw[Dc.ED c.2.1,cF];rfl
   refine⟨_,W,.inl ⟨W,_,Ax.of s⟩,_,W,_,W,a,x.val,W,(by rw[<-hv];exact .inl ⟨_,dL k,c.1.up<|N _,W,W⟩),_,W,_,W,BG,λt1 y=>?_⟩;have s1:=N.trans<|AF.new (o:=.tup [.str k]) y;refine⟨t,t1,xs,[.str k],W,W,s1 _ _ ht,AD,Ao<|by simp;lia,λt2 H3 Y f'=>?_⟩;have D:=s1.trans Y;refine⟨x,t2,_,W,Dc.AS D<|Dc.Cn c.2.2.2 x Q,Dc.BX.mp U.2 x Q,Dc.Ea L.2 x Q,(by have:=Dc.Bw Q;lia),f',by simp;lia,λp2 R qP H4 s4 wo Zx l2 v2 qQ=>?_⟩;have qR:=D.trans s4;have s5:=((AF.new (o:=.tup [.str k]) y).trans Y).trans s4;refine⟨p,p2,_,_,W,W,s5 _ _ s,Zx,Ao<|by simp;exact al (rs (bm l2) _) lz,go.n ⟨u++R,_,_,W,qR.put hp,by rw[AM<|u8 mW];exact s5 _ _ h3,by rw[AD,ca],?_,G++qP.map (.str k::·),?_,?_⟩⟩
   .rw[d7,B,l2,tk];lia
   .have up:∀b I,H4 b=Z (.tup I)->upd H4 p (.lst<|u.map V.ref++R.map V.ref) b=Z (.tup I):=λb I h=>by rw[AM<|tK (s5 _ _ s) h];exact h
    rw[ca];refine((C.up λb I h=>s5 _ _ h).append ?_).up up;rw[zE];have e:((xs++·)∘(V.str k::·))=((xs++[.str k])++·):=by funext r;simp
    rw[e];exact v2
   .have et:m.take (i+1)=m.take i++[k]:=by rw[yz,hk];rfl
    rw[et,ca];refine pq.push (λh=>?_) (by rw[Dc.EF cF,Dc.Ap]) qQ;obtain⟨k',wy,e⟩:=n9.mp h;cases e;have J:=perm.nodup_iff.mpr c.2.2.1;obtain⟨l1,l2⟩:=ya hk;obtain⟨j,ζ⟩:=zn wy;have qS:=HL ζ;rw[n6]at qS;rw[zq<|bn qS<|aaK _ _]at ζ;have:=Dc.GK J ζ hk;lia
  .rintro σ A ⟨u,o3,o4,rfl,N,h3,s,B,G,C,pq⟩;refine⟨_,W,q p u G A N hp s ?_ C<|pq.all λz x h=>?_⟩
   .rw[B,be,v7,Dc.Nl c.2.1 c.2.2.1 perm];simp only[Dc.size]
   .obtain⟨j,k,rfl,ζ,_⟩:=(Dc.DS c.2.1 c.2.2.1).mp h;rw[be,v7];exact n9.mpr ⟨k,perm.mem_iff.mpr<|yc ζ,W⟩
theorem OU{f:Addr}{a:m9}(F:Fq K "_law_paths" 52 f a)(T:Txt mg)(b:Binds K a lqk [])(m:mg "_law_paths"=Z (.ref f)):∀n:Nat,BA P w K mg base DC n f a lqk (Hk n)
 |0=>cf (λc H Q E h=>by obtain⟨d,_,_,_,_,_,_,e,_⟩:=h;have:=Dc.JQ d;lia)
 |n+1=>Zl F T (Df.mk' F b m (OU F T b m n))
theorem Zm(F:Fq K "_law_slots" 53 f fd)(T:Txt mg)(QI:Df P w K mg base "_law_found" lqh 1 E_)(Ti:Df P w K mg base "_law_paths" lqk 17 (Hk 17)):BA P w K mg base DC 19 f fd lql Hm:=by
 refine F.oq ["_law_doc_here","_law_names_here","_law_found_here","_law_path","_law_holder"] λH _ _ NG QC hr h=>?_;obtain⟨d,n,I,rfl,Mx,Bi,E,hn,ln,ny,q⟩:=h;refine⟨_,(AB (Ad 2 NG<|BC Bp)<|AB (Za (D'<|Au Ti hr<|AA (pv 0)<|AY<|AX Bp) (Gi (i:=3) NG W<|D9 W)<|AB (Ju (i:=4) NG W (D9 W)<|Au QI hr<|AA (pv 0)<|AY<|pv 3)<|AB (AU (Ag<|II Af T (pv 4) T.list DH) (AE<|CO<|gj K (pv 2)<|cmp ["_law_path"] [3] (ET W T.range<|AY<|AQ Bg (EG K T<|pv 4) AG) λ_ _ _ _=>(AQ Bn (pv 1)<|AX<|AY<|pv 0)) AK)<|AE<|AU (Ag<|II Af T (pv 4) T.dict EC) (AE<|CO<|gj K (pv 2)<|UH (fv:=["_law_path","_law_holder"]) (fs:=[3,4]) W (.of<|by rfl) (D'<|pv 1) (λC s0 H0 fp=>JF<|Od<|Hs QC (pv 0)<|pv 2) λC s0 H0 fp=>(AQ Bn (pv 1)<|AX<|AY<|pv 0)) AK)<|AE<|AI<|pv 2),?_⟩;refine⟨gU _,.mk λl H1 hl t1 fl=>⟨_,W,gU _,λe0 qT=>?_⟩⟩;have t2:=AF.new (o:=.tup []) qT;refine⟨d,e0,[],W,Dc.AS (t1.trans t2) Mx,Bi,Dc.JO d<|g8 E ac,al (Dc.DP d)<|al E ac,AD,by simp;exact al E ac,λp ps qs H2 s2 np hp lp tu PQ=>?_⟩;have S2:AF H H2:=(t1.trans t2).trans s2;have tM:H2 l=Z (.lst []):=s2 _ _<|t2 _ _ fl;have pl:p≠l:=λz=>by
  have:=t2 _ _ fl;rw[<-z,np]at this;cases this
 have nl:∀{x:Addr}{o:HO},H x=Z o->x≠l:=λh=>Am h hl;have kT:d.At H2:=Dc.AS S2 Mx;have dl:∀a∈d.AZ,a≠l:=λa ha z=>Dc.there Mx ha (by rw[z];exact hl);refine⟨p,W,⟨_,Ax.of hp⟩,FV (xs:=ps.map V.ref) (λi σ M=>∃(o3 o4:Option V)(J:List V),σ=[Z d.val,Z (.ref n),Z (.ref l),o3,o4]/\(∀x o,x≠l->H2 x=Z o->M x=Z o)/\M l=Z (.lst J)/\J.length<=20*i/\EI d I M J/\∀j,j<i->∀u e,qs[j]?=Z u->d.sub u=Z e->Wu e I->J≠[])
  ⟨ν,ν,[],W,λ_ _ _ h=>h,tM,z_,(λv hv=>nomatch hv),λj N=>absurd N (zL _)⟩ (λi σ M _ ⟨_,_,_,_,k,_⟩=>Ax.of (k _ _ pl hp)) ?_ ?_⟩
 .rintro i x σ M _ go hx ⟨o3,o4,J,rfl,k,G,lu,S,NE⟩;have li:=HL hx;rw[be]at li;rw[f8]at hx;obtain⟨q0,qU,rfl⟩:=kw.mp hx;obtain⟨U,kU,mY⟩:=tu.get qU;rw[f8]at kU;obtain⟨u,qV,qW⟩:=kw.mp kU;have qW:u=U:=by rw[<-qW];rfl
  subst qW;have sm:=(PQ.mem u).mp (yc qV);obtain⟨e,hs⟩:=gt.mp sm;obtain⟨st,lz,ok⟩:=Dc.Cv Bi hs;have qX:M q0=Z (.tup u):=k _ _ (GI mY tM (by intro z;cases z)) mY;have kW:d.At M:=Dc.Cc d (λa ha o h=>k a o (dl a ha) h) kT;have mZ:M n=Z (.lst (I.map V.str)):=k _ _ (nl hn) (S2 _ _ hn);have P:=Dc.BF.sub hs;have g:=P.at_ kW;refine⟨_,W,_,W,d,q0,u,W,kW,qX,st,?_⟩;rw[hs];dsimp only[RY];have lw:=Dc.PD hs (al E ac);have nx:∀(z:V),Dc.Bq z/\(∀i:Int,z=.int i->i.natAbs<1000)/\Wu e I->Aa (u++[z])/\u++[z]≠[]/\(u++[z]).length<=20/\low (u++[z])/\∃e,d.sub (u++[z]).dropLast=Z e/\Wu e I:=λz A=>⟨λy X=>by
   rcases am.mp X with X|X
   .exact st y X
   .rw[ci.mp X];exact A.1,z_,by simp;exact al (al (al (gT _ _) lz) E) ac,λy X=>by
   rcases am.mp X with X|X
   .exact lw y X
   .rw[ci.mp X];exact A.2.1,e,by rw[e5];exact hs,A.2.2⟩
  have ext:∀(Hc:Hp)(D:Addr)(b:List Addr),AF M Hc->Hc D=Z (.lst<|b.map V.ref)->b.length<=20->(Wu e I->b≠[])->(∀q∈b,∃z,Hc q=Z (.tup<|u++[z])/\Dc.Bq z/\(∀i:Int,z=.int i->i.natAbs<1000)/\Wu e I)->(∀x o,x≠l->H2 x=Z o->upd Hc l (.lst<|J++b.map V.ref) x=Z o)/\upd Hc l (.lst<|J++b.map V.ref) l=Z (.lst<|J++b.map V.ref)/\(J++b.map V.ref).length<=20*(i+1)/\EI d I (upd Hc l<|.lst<|J++b.map V.ref) (J++b.map V.ref)/\∀j,j<i+1->∀u e,qs[j]?=Z u->d.sub u=Z e->Wu e I->J++b.map V.ref≠[]:=λHc D b s hD m Y t=>by
   refine⟨λx o hx h=>by rw[AM hx];exact s _ _<|k x o hx h,AD,by rw[d7,be];lia,Rf s G S λq hq=>?_,λj N U e' O L h3 z=>?_⟩
   .obtain⟨z,O,L⟩:=t q hq;exact⟨q,_,W,O,nx z L⟩
   .obtain⟨z1,z2⟩:=zH.mp z;by_cases c:j<i
    .exact NE j c U e' O L h3 z1
    .have:j=i:=by lia
     subst this;rw[qV]at O;cases O;rw[hs]at L;cases L;exact Y h3<|List.map_eq_nil_iff.mp z2
  cases e with
  |leaf v=>
   refine⟨_,W,_,"list",Dc.Kc<|.leaf v,W,W,Dc.Em g,_,W,Aj (by cases v<;>rfl) ⟨_,W,_,"dict",Dc.Kc<|.leaf v,W,W,Dc.Em g,_,W,Aj (by cases v<;>rfl) ?_⟩⟩;refine go.n ⟨_,_,J,W,k,G,y_,S,λj N U e' O L h3=>?_⟩;by_cases c:j<i
   .exact NE j c U e' O L h3
   .have:j=i:=by lia
    subst this;rw[qV]at O;cases O;rw[hs]at L;cases L;exact zo h3
  |row a xs=>
   refine⟨_,W,_,"list",_,W,W,Dc.Em g,_,W,Ay W ?_⟩;have sz:=P.size;have lx:=Dc.GD xs;simp only[Dc.size,Dc.At]at sz g;refine⟨_,W,.inl ⟨W,_,Ax.of G⟩,_,W,a,_,W,.inl<|.inl g.1,_,_,W,W,_,W,by rw[be];lia,by rw[be];lia,?_⟩;have en:(((xs.map Dc.val).length:Int)+1).toNat=xs.length+1:=by rw[be];lia
   rw[en];refine LP (xs.length+1) (λi=>.int<|0+(i:Int)) (λD i Hj=>AF M Hj/\∃ps:List Addr,Hj D=Z (.lst<|ps.map V.ref)/\ps.length=i/\∀q∈ps,∃z,Hj q=Z (.tup<|u++[z])/\Dc.Bq z/\(∀i:Int,z=.int i->i.natAbs<1000)/\Wu (.row a xs) I) (λD hD=>⟨AF.new hD,[],AD,W,λz A=>nomatch A⟩) (λD i Q hi _=>hi) (λD i Q v H' hi _ y=>⟨y.2,y.1⟩) (λD Q _=>b5 _) (λD i Q hD hi ⟨B,b,R,m,t⟩=>?_) λD Q hD ⟨B,b,R,m,t⟩=>?_
   .refine⟨_,W,_,W,BG,λg1 dA=>?_⟩;have s4:=AF.new (o:=.tup [.int<|0+(i:Int)]) dA;refine⟨q0,g1,u,_,W,W,(B.trans s4) _ _ qX,AD,Ao<|by simp;exact al (al (al (gT _ _) lz) E) ac,λg2 H5 s5 ζ=>?_⟩;have r:=s4.trans s5;have nD:∀{z:Addr}{kN:List V},H5 z=Z (.tup kN)->z≠D:=λh=>GI h (r _ _ R) (by intro z;cases z);refine⟨_,r _ _ R,As<|by simp;lia,(B.trans r).put hD,b++[g2],by rw[AD,ca];rfl,by simp;exact m,λz A=>?_⟩;rcases am.mp A with A|A
    .obtain⟨w,f1,f2⟩:=t z A;exact⟨w,by rw[AM<|nD<|r _ _ f1];exact r _ _ f1,f2⟩
    .rw[ci.mp A];exact⟨_,by rw[AM<|nD ζ];exact ζ,.inl ⟨i,z_⟩,(λj e=>by cases e;lia),trivial⟩
   .obtain⟨x1,x2,x3,x4⟩:=ext Q D b B R y_ (λ_ z=>by rw[z]at m;simp at m) t;have qY:Dc.At (upd Q l<|.lst<|J++b.map V.ref) (.row a xs):=P.at_<|Dc.Cc d (λa ha o h=>x1 a o (dl a ha) h) kT;exact⟨l,D,_,_,W,W,B _ _ G,R,Ao<|by rw[be];lia,_,W,_,"dict",_,W,W,Dc.Em qY,_,W,Aj W<|go.n ⟨_,_,_,W,x1,x2,x3,x4⟩⟩
  |tab a ks xs=>
   refine⟨_,W,_,"list",_,W,W,Dc.Em g,_,W,Aj W ⟨_,W,_,"dict",_,W,W,Dc.Em g,_,W,Ay W ?_⟩⟩;simp only[Dc.At]at g;refine⟨_,W,.inl ⟨W,_,Ax.of G⟩,_,W,n,W,⟨_,Ax.of mZ⟩,?_⟩;refine LR I.length (λi=>(I.map V.str).getD i .Al) (λD i Hj=>AF M Hj/\∃ps:List Addr,Hj D=Z (.lst<|ps.map V.ref)/\ps.length<=i/\(∀j,j<i->∀kk,I[j]?=Z kk->kk∉ks->ps≠[])/\∀q∈ps,∃z,Hj q=Z (.tup<|u++[z])/\Dc.Bq z/\(∀i:Int,z=.int i->i.natAbs<1000)/\Wu (.tab a ks xs) I) (λD hD=>⟨AF.new hD,[],AD,b5 _,(λj N=>absurd N<|zL _),λz A=>nomatch A⟩) (λD i Q hi ⟨B,_⟩=>⟨_,_,Ax.of<|B _ _ mZ,yZ<|by simp;exact hi⟩) (λD i Q v H' hi ⟨B,_⟩ y=>?_) (λD Q ⟨B,_⟩=>⟨_,Ax.of<|B _ _ mZ,z_⟩) (λD i Q hD hi ⟨B,b,R,m,Y,t⟩=>?_) λD Q hD ⟨B,b,R,m,Y,t⟩=>?_
   .obtain⟨e,y⟩:=y;refine⟨?_,e⟩;rw[cr,y _<|Ax.of<|B _ _ mZ];rfl
   .obtain⟨kk,ma⟩:=HK I i<|hi;have ek:(I.map V.str).getD i .Al=.str kk:=by rw[cr,f8,ma];rfl
    rw[ek];refine⟨_,W,_,W,a,_,W,.inl ⟨_,dL kk,g.1.up (B _),W,W⟩,_,W,?_⟩;refine Nv (λer=>?_) (λer=>⟨B,b,R,j6 m,(λj N k2 L n2=>by
     by_cases c:j<i
     .exact Y j c k2 L n2
     .have:j=i:=by lia
      subst this;rw[ma]at L;cases L;rw[Ui g.2.1,decide_eq_false n2]at er;cases er),t⟩)
    refine⟨_,W,_,W,BG,λg1 dA=>?_⟩;have s4:=AF.new (o:=.tup [.str kk]) dA;refine⟨q0,g1,u,_,W,W,(B.trans s4) _ _ qX,AD,Ao<|by simp;exact al (al (al (gT _ _) lz) E) ac,λg2 H5 s5 ζ=>?_⟩;have r:=s4.trans s5;have nD:∀{z:Addr}{kN:List V},H5 z=Z (.tup kN)->z≠D:=λh=>GI h (r _ _ R) (by intro z;cases z);refine⟨_,r _ _ R,As<|by simp;exact al m<|al (al (jp hi) ln) ac,(B.trans r).put hD,b++[g2],by rw[AD,ca];rfl,by simp;exact m,(λ_ _ _ _ _ z=>by simp at z),λz A=>?_⟩;rcases am.mp A with A|A
    .obtain⟨w,f1,f2⟩:=t z A;exact⟨w,by rw[AM<|nD<|r _ _ f1];exact r _ _ f1,f2⟩
    .rw[ci.mp A];exact⟨_,by rw[AM<|nD ζ];exact ζ,.inr ⟨kk,W,ny kk<|yc ma⟩,(λj e=>nomatch e),kk,yc ma,λc=>by rw[Ui g.2.1,decide_eq_true c]at er;cases er⟩
   .obtain⟨x1,x2,x3,x4⟩:=ext Q D b B R (al (al m ln) ac) (λ⟨kk,hm,nk⟩=>by
     obtain⟨j,N⟩:=zn hm;exact Y j (HL N) kk N nk) t
    refine⟨l,D,_,_,W,W,B _ _ G,R,Ao<|by rw[be];lia,?_⟩;exact go.n ⟨_,_,_,W,x1,x2,x3,x4⟩
 .rintro σ M ⟨o3,o4,J,rfl,k,G,lu,S,NE⟩;refine⟨_,W,q l J M (λx o h=>k x o (nl h)<|S2 _ _ h) G ?_ S λ⟨q0,e,O,L⟩=>?_⟩
  .rw[be,lp]at lu;exact al lu<|al (KB _ E) ac
  .obtain⟨j,N⟩:=zn ((PQ.mem q0).mpr<|by rw[O];rfl);have lq:=tu.length;rw[be]at lq;have:=HL N;exact NE j (by rw[be];exact bn this<|bm lq.symm) q0 e N O L
theorem Zn(F:Fq K "_law_value" 54 f R)(T:Txt mg)(e:Df P w K mg base "_law_mix" lqd 1 HW)(g:Df P w K mg base "_law_leaf" lqI 2 PY):BA P w K mg base DC 3 f R lqo Je:=by
 refine F.oq ["_law_cell_here","_law_names_here","_law_leaf_here"] λH En _ u _ x h=>?_;obtain⟨c,n,y,rfl,hn,ln,l0,ny,q⟩:=h;refine⟨_,(AB (Ad 2 u<|Au g x<|AY<|pv 0)<|AE<|AI<|Mw K (BC<|AA (pv 2)<|AA (BC Bp)<|AA Lv<|AA (BC<|AY<|pv 2)<|AY<|aS (XY (Mw K (pv 1)<|AQ BB (Au e x<|AA (pv 0)<|AY AG)<|EG K T<|pv 1) (pv 2) aR) W W z_ z_)<|AQ BB (Au e x<|AA (pv 0)<|AY AG) AG),?_⟩;refine⟨_,W,c,W,λo H1 lo i s1=>?_⟩;have lf:Dc.Lf o:=lo.lf;refine⟨_,W,gU _,λA B=>?_⟩;obtain⟨H2,a,t1,f1⟩:=bp (o:=.lst []) B;rw[a];clear a;refine λC D=>?_;obtain⟨H3,a,S,f2⟩:=bp (o:=.dK []) D;rw[a];clear a;refine⟨_,W,BG,λE G=>?_⟩;obtain⟨l,a,U,f3⟩:=bp (o:=.lst [o]) G;rw[a];clear a;refine λb m=>?_;have X:=AF.new (o:=.dK []) m;have Y:AF H l:=((s1.trans t1).trans S).trans U;have p:=(Y.trans X) _ _ hn;refine⟨_,W,_,W,c,8,W,ac,λr8 _ _=>⟨_,W,n,_,W,.inl<|Ax.of p,_,_,W,W,(by show(0:Int)<((y.map V.str).length:Int);rw[be];lia),?_⟩⟩;have ζ:=JM r8 (n:=((y.map V.str).length:Int)) (by rw[be];lia);obtain⟨v8,I,J⟩:=GW (xs:=y.map V.str) ζ.1 ζ.2;obtain⟨d,M,rfl⟩:=n9.mp J;refine⟨n,_,_,_,W,W,Ax.of p,I,_,W,AD,[(dL d,o)],W,z_,?_⟩;have m5:FD [] [((dL d:Key),o)]=[(dL d,o)]:=rfl;rw[m5];have s:AF l (upd (upd l b<|.dK []) b<|.dK [(dL d,o)]):=X.put m;have f4:upd (upd l b<|.dK []) b (.dK [(dL d,o)]) b=Z (.dK [(dL d,o)]):=AD;generalize upd (upd l b<|.dK []) b (.dK [(dL d,o)])=H5 at s f4⊢;refine⟨Ao<|show 5<=1000 by decide,λL hL=>?_⟩;obtain⟨N,a,tL,fL⟩:=bp (o:=.lst [o,.ref A,.ref C,.ref E,.ref b]) hL;rw[a];clear a;refine⟨_,W,c,7,W,ac,λr _ _=>⟨_,_,W,W,Bz,?_⟩⟩;have mb:=JM r (n:=5) ac;obtain⟨v,hv,mv⟩:=GW (xs:=[o,V.ref A,.ref C,.ref E,.ref b]) mb.1 mb.2;refine⟨L,_,_,_,W,W,Ax.of fL,hv,?_⟩;have j:=s.trans tL;have t:=U.trans j;have O:=S.trans t;have Q:=Y.trans j;simp only[ce,t7,or_false]at mv;have k:∀(v:Dc),v.At N->v.ok->v.size<=2->Dt v->En.rt v.val N:=λv h1 h2 h3 h4=>q v N Q h1 h2 h3 h4;rcases mv with rfl|rfl|rfl|rfl|rfl
 .exact k (.leaf v) lf lo (by simp[Dc.size])<|Ik i
 .exact k (.row A []) (by simp only[Dc.At,Dc.CY];exact⟨.inl<|O _ _ f1,trivial⟩) (by simp[Dc.ok,Dc.MH]) (by simp[Dc.size,Dc.Ab]) S'
 .exact k (.tab C [] []) (by simp only[Dc.At,Dc.CY];exact⟨.inl<|t _ _ f2,W,.nil,trivial⟩) (by simp[Dc.ok,Dc.MH]) (by simp[Dc.size,Dc.Ab]) TB
 .exact k (.row E [.leaf o]) (by simp only[Dc.At,Dc.CY];exact⟨.inl<|j _ _ f3,lf,trivial⟩) (by simp only[Dc.ok,Dc.MH];exact⟨lo,trivial⟩) (by simp[Dc.size,Dc.Ab])<|TC i
 .exact k (.tab b [d] [.leaf o]) (by simp only[Dc.At,Dc.CY];exact⟨.inl<|tL _ _ f4,W,z_,lf,trivial⟩) (by simp only[Dc.ok,Dc.MH];exact⟨λz hz=>by rw[ci.mp hz];exact ny d M,lo,trivial⟩) (by simp[Dc.size,Dc.Ab])<|TF i
theorem Wj(F:Fq K "_law_picked" 55 f d)(T:Txt mg)(b:Df P w K mg base "_law_mix" lqd 1 HW):BA P w K mg base DC 2 f d lqg (HZ K):=by
 refine F.oq lqg λH _ _ _ _ g h=>?_;obtain⟨l,a,c,j,rfl,e,o,i,q⟩:=h;refine⟨_,(AE<|AI<|Mw K (pv 0)<|AQ BB (Au b g<|AA (pv 1)<|AY<|pv 2)<|EG K T<|pv 0),?_⟩;refine⟨_,W,_,W,_,W,c,j,W,i,λr p s=>⟨_,W,l,_,W,.inl e,_,_,W,W,(by show(0:Int)<(a.length:Int);lia),?_⟩⟩;have m:=JM r (n:=(a.length:Int)) y_;obtain⟨v,k,mv⟩:=GW (xs:=a) m.1 m.2;exact⟨l,_,_,_,W,W,e,k,q v mv⟩
theorem Wk(F:Fq K "_law_asking" 56 f R)(T:Txt mg)(p:Df P w K mg base "_law_mix" lqd 1 HW)(b:Df P w K mg base "_law_found" lqh 1 E_)(j:Df P w K mg base "_law_value" lqo 3 Je):BA P w K mg base DC 4 f R lqe OK:=by
 refine F.oq lqe λH _ _ _ _ G h=>?_;obtain⟨I,t,c,d,n,M,e,X,rfl,hw,S,Y,g,s,y,N,ζ,ln,l0,ny,q⟩:=h;refine⟨_,(AB (AU (AJ BE (pv 0) AN<|AL _) (AE<|AI<|AX<|AA (pv 0)<|AA (pv 1)<|AY<|Mw K (BC<|AA (Au b G<|AA (pv 3)<|AY<|pv 1)<|AY<|Au j G<|AA (pv 2)<|AY<|pv 4)<|Cz NO W T.int cc<|AY<|Bm BE (AQ BB (Au p G<|AA (pv 2)<|AY AG) AG) AG<|AL _) AK)<|AB (AU (AJ BE (pv 0) AN<|AL _) (AE<|AI<|AX<|AA (pv 0)<|AA (pv 1)<|AY<|Mw K (BC<|AA AN<|AY AN)<|Cz NO W T.int cc<|AY<|II Af T (Au b G<|AA (pv 3)<|AY<|pv 1) T.dict EC) AK)<|AE<|AI<|AX<|AA (pv 0)<|AY<|pv 1),?_⟩;have A:∀z∈M,Dc.Bq z:=Y;have U:∀(u v:V)(k:Bool),∃x,QX [u,v] (if k=true then 1 else 0)=Z x/\(x=u∨x=v):=λu v k=>by
  cases k with
  |true=>exact⟨v,W,.inr W⟩|false=>exact⟨u,W,.inl W⟩
 have P:=Dc.BF.sub N;refine⟨_,W,W,_,W,?_⟩;refine Bu (λh=>?_) λh=>?_
 .refine⟨_,W,_,W,_,W,_,W,d,t,M,W,g,S,A,?_⟩;rw[N];dsimp only[RY];refine⟨_,W,_,W,c,n,X,W,ζ,al ln ac,l0,ny,λd2 H1 O B C D _=>⟨AW,.mk λL H2 hL i Q=>⟨_,W,c,9,W,ac,λr _ _=>⟨_,_,W,W,Bz,W,.inr ⟨_,W,?_⟩⟩⟩⟩⟩;obtain⟨x,l,ex⟩:=U e.val d2.val<|decide<|V.int (r % 6)=V.int 0;refine⟨L,_,_,_,W,W,Ax.of Q,l,DO,λa m=>q a [x] _ ((O.trans i).trans<|AF.new m) AD ?_ ?_ λc=>by subst c;exact absurd h ac⟩;have E:=AF.new (o:=.tup [.str I,.ref t,x]) m
  .have hw:I="ask":=V.str.inj<|of_decide_eq_true h;subst hw;rcases ex with rfl|rfl
   .exact Gw.ask (Dc.AS ((O.trans i).trans E)<|P.at_ g) (P.ok s)<|by have:=P.size;exact al (al this y) ac
   .exact Gw.ask (Dc.AS (i.trans E) B) C<|al D ac
  .have E:=AF.new (o:=.tup [.str I,.ref t,x]) m;rcases ex with rfl|rfl
   .exact Hn (Dc.AS ((O.trans i).trans E)<|P.at_ g) (P.ok s)<|by have:=P.size;exact al (al this y) ac
   .exact Hn (Dc.AS (i.trans E) B) C<|al D ac
 refine⟨_,W,W,_,W,?_⟩;refine Bu (λJ=>?_) λJ=>?_
 .refine⟨_,W,_,W,AW,.mk λL H2 hL i Q=>⟨_,W,_,W,d,t,M,W,Dc.AS i g,i _ _ S,A,?_⟩⟩;rw[N];dsimp only[RY];refine⟨_,"dict",_,W,W,Dc.Em<|Dc.AS i<|P.at_ g,.inr ⟨_,W,?_⟩⟩;obtain⟨x,l,ex⟩:=U (.str "row") (.str "table")<|eM e.Kc "dict";refine⟨L,_,_,_,W,W,Ax.of Q,l,DO,λa m=>q a [x] _ (i.trans<|AF.new m) AD ?_ ?_ λc=>by subst c;exact absurd J ac⟩
  .have hw:I="is":=V.str.inj<|of_decide_eq_true J;subst hw;rcases ex with rfl|rfl<;>exact Gw.rl
  .rcases ex with rfl|rfl
   .exact .inr ⟨_,W,Dg.str (by decide+kernel) ac⟩
   .exact .inr ⟨_,W,Dg.str (by decide+kernel) ac⟩
 .refine⟨_,W,_,W,AW,λa m=>q a [] _ (AF.new m) AD (Gw.no ?_) (.inl W) λ_=>rfl⟩;rcases hw with rfl|rfl|rfl
  .exact absurd W h
  .exact absurd W J
  .decide
theorem gJ(F:Fq K "_law_row" 57 f fd)(T:Txt mg)(SD:Df P w K mg base "_law_done" lqc 32 Jg)(Ti:Df P w K mg base "_law_paths" lqk 17 (Hk 17))(KU:Df P w K mg base "_law_slots" lql 19 Hm)(QJ:Df P w K mg base "_law_value" lqo 3 Je)(m:Df P w K mg base "_law_picked" lqg 2 (HZ K))(cH:Df P w K mg base "_law_asking" lqe 4 OK):BA P w K mg base DC 34 f fd lqi KN:=by
 refine F.oq ["_law_cell_here","_law_doc_here","_law_names_here","_law_words","_law_word","_law_paths_here","_law_slots_here","_law_path"] λH _ _ O _ hr h=>?_;obtain⟨c,d,n,ys,rfl,Mx,U,I,hn,ln,l0,ny,q⟩:=h;refine⟨_,(@WB _ _ _ _ _ _ W (@Ju _ _ 3 _ _ _ _ O W (I0 W) (@BC _ _ _ _<|@AA _ _ _ _ _ (@AN _ _ _ _) (@AA _ _ _ _ _ (@AN _ _ _ _) (@AA _ _ _ _ _ (@AN _ _ _ _) (@AA _ _ _ _ _ (@AN _ _ _ _) (@AA _ _ _ _ _ (@AN _ _ _ _) (@AA _ _ _ _ _ (@AN _ _ _ _) (@AA _ _ _ _ _ (@AN _ _ _ _) (@AA _ _ _ _ _ (@AN _ _ _ _) (@AA _ _ _ _ _ (@AN _ _ _ _) (@AA _ _ _ _ _ (@AN _ _ _ _) (@AA _ _ _ _ _ (@AN _ _ _ _) (@AA _ _ _ _ _ (@AN _ _ _ _) Bp W) W) W) W) W) W) W) W) W) W) W) W) W<|D9 W)<|AB (Ad 4 O<|Au m hr<|AA (pv 3)<|AA (pv 0)<|AY AG)<|AB (Ad 5 O<|Au Ti hr<|AA (pv 1)<|AY<|AX Bp)<|AB (Ad 6 O<|Au KU hr<|AA (pv 1)<|AY<|pv 2)<|AB (Ad 7 O<|Au m hr<|AA (pv 5)<|AA (pv 0)<|AY AG)<|AB (AU (AJ BE (pv 4) AN<|AL _) (AE<|Gm (i:=6) (fv:=[]) (fs:=[]) W (.of<|by rfl) O W (I0 W) (D'<|pv 6) (λC s0 H0 fp=>JF<|Ag<|II Af T (CS (r:=Dz K) Bj (pv 0) (Bo BJ AG) λ_ _=>rfl) T.str JL) λC s0 H0 fp=>(pv 0)) AK)<|AB (AU (PW.pt<|pw_or (PW.pt<|pw_and (AJ (ME<|CD.Cm hr) (pv 6) (BC Bp)<|AL _)<|pw_and1<|AJ (CI:EN _ _ (SE K false)) (pv 4) (BC<|AA AN<|AA AN<|AY AN) W)<|pw_or1<|PW.pt<|pw_and (AJ BE (EG K T<|pv 5) AG<|AL _)<|pw_and1<|AJ (CI:EN _ _ (SE K false)) (pv 4) (BC<|AA AN<|AY AN) W) (AE<|Ad 4 O AN) AK)<|AB (AU (AJ (CI:EN _ _ (SE K false)) (pv 4) (BC<|AA AN<|AY AN) W) (AE<|Ad 7 O<|Au m hr<|AA (Ai (r:=du K) T_ (pv 5) (Aw AG) Az)<|AA (pv 0)<|AY AG) AK)<|AB (AU (AJ BE (pv 4) AN<|AL _) (AE<|AI<|AX<|AA (pv 4)<|AA (Au m hr<|AA (pv 6)<|AA (pv 0)<|AY AG)<|AY<|Au QJ hr<|AA (pv 0)<|AY<|pv 2) AK)<|AB (AU (AJ BE (pv 4) AN<|AL _) (AE<|AI<|AX<|AA (pv 4)<|AY<|Au m hr<|AA (pv 6)<|AA (pv 0)<|AY AG) AK)<|AB (AU (AJ BE (pv 4) AN<|AL _) (AE<|AI<|AX<|AA (pv 4)<|AA (pv 7)<|AY<|Au m hr<|AA (pv 6)<|AA (pv 0)<|AY AG) AK)<|AB (AU (AJ BE (pv 4) AN<|AL _) (AB (Ad 6 O<|Au KU hr<|AA (Au SD hr<|AA (pv 1)<|AY<|AX<|AA AN<|AY<|pv 7)<|AY<|pv 2)<|AB (AU (AJ (ME<|CD.Cm hr) (pv 6) (BC Bp)<|AL _) (AE<|AI<|AX<|AA AN<|AY<|pv 7) AK)<|AE<|AI<|AX<|AA (pv 4)<|AA (pv 7)<|AY<|Au m hr<|AA (pv 6)<|AA (pv 0)<|AY AG) AK)<|AB (AU (AJ BE (pv 4) AN<|AL _) (AE<|AI<|AX<|AA (pv 4)<|AA (pv 7)<|AY<|Au QJ hr<|AA (pv 0)<|AY<|pv 2) AK)<|AB (AU (AJ BE (pv 4) AN<|AL _) (AE<|AI<|AX<|AA (pv 4)<|AY<|pv 7) AK)<|AE<|AI<|Au cH hr<|AA (pv 4)<|AA (pv 7)<|AA (pv 0)<|AA (pv 1)<|AY<|pv 2),?_⟩;refine⟨Ao<|show 12<=1000 by decide,λξ hW=>?_⟩;have t1:=AF.new (o:=.lst<|(lqj:List Str).map V.str) hW;have fW:upd H ξ (.lst<|(lqj:List Str).map V.str) ξ=_:=AD;refine⟨_,W,_,W,ξ,_,c,0,W,Ax.of fW,ac,ac,λv x=>?_⟩;obtain⟨X,hw,rfl⟩:=n9.mp x;have wd:X∈DB:=by
  have all:∀w∈(lqj:List Str),w∈DB:=by decide+kernel
  exact all X hw
 refine⟨_,W,gU _,λe0 qT=>?_⟩;have t2:=AF.new (o:=.tup []) qT;refine⟨d,e0,[],W,Dc.AS (t1.trans t2) Mx,U,Dc.JO d<|g8 I ac,al (Dc.DP d)<|al I ac,AD,by simp;exact al I ac,λp ps qs H2 s2 np hp lp tu PQ=>?_⟩;have vp:=WN tu PQ;have S2:AF H H2:=(t1.trans t2).trans s2;refine⟨_,W,_,W,d,n,ys,W,Dc.AS S2 Mx,U,I,S2 _ _ hn,ln,ny,λl M H3 s3 hl lu S _=>?_⟩;have S3:=S2.trans s3;have dp:=Dc.size_pos d;have tN:∀(j:Nat) q,ps[j]?=Z q->∃Y,H3 q=Z (.tup Y)/\(∃e,d.sub Y=Z e)/\(0<j->Y≠[])/\Aa Y/\low Y/\Y.length<=20:=λj q hq=>by
  obtain⟨Y,h1,h2,h3⟩:=vp j q hq;obtain⟨e,he⟩:=gt.mp h2;obtain⟨st,lz,_⟩:=Dc.Cv U he;exact⟨Y,s3 _ _<|by rw[h1,aaO],⟨e,he⟩,h3,st,Dc.PD he<|al I ac,al (al (al (gT _ _) lz) I) ac⟩
 refine⟨_,W,_,W,p,_,c,1,W,Ax.of<|s3 _ _ hp,by rw[be];exact bn (bn ac dp)<|bm lp.symm,ac,λv x=>?_⟩;obtain⟨q0,qU,rfl⟩:=n9.mp x;obtain⟨j0,wz⟩:=zn qU;obtain⟨z0,mY,⟨x0,mG⟩,_,w_,xA,xB⟩:=tN j0 q0 wz;dsimp only[Bv];refine DY (λζ H'=>∃(l:Addr)(M:List V),ζ=[Z<|.int c,Z d.val,Z<|.ref n,Z<|.ref ξ,Z<|.str X,Z<|.ref p,Z<|.ref l,Z<|.ref q0]/\AF H3 H'/\H' l=Z (.lst M)/\M.length<=600/\EI d ys H' M/\(X="lacks"->bj H' M)) ?_ ?_;rotate_left
 .intro J;refine⟨_,W,W,_,W,?_⟩;refine Bu (λh=>?_) (λh=>J _ _ ⟨l,M,W,AF.refl _,hl,lu,S,λz=>absurd (by rw[z];decide) h⟩);refine⟨_,W,l,W,⟨_,Ax.of hl⟩,LR M.length (λi=>M.getD i .Al) (λD i Hj=>AF H3 Hj/\∃t:List V,Hj D=Z (.lst t)/\t.length<=i/\(∀v∈t,v∈M)/\bj H3 t) (λD hD=>⟨AF.new hD,[],AD,b5 _,(λz hz=>nomatch hz),λz hz=>nomatch hz⟩) (λD i Hj hi ⟨s,_⟩=>⟨_,_,Ax.of<|s _ _ hl,yZ hi⟩) (λD i Hj v H' hi ⟨s,_⟩ y=>?_) (λD Hj ⟨s,_⟩=>⟨_,Ax.of<|s _ _ hl,b5 _⟩) (λD i Hj hD hi ⟨s,t,fD,Zz,m',md⟩=>?_) λD Hj hD ⟨s,t,fD,Zz,m',md⟩=>?_⟩
  .obtain⟨e,y⟩:=y;refine⟨?_,e⟩;rw[cr,y _<|Ax.of<|s _ _ hl];rfl
  .have gi:M[i]?=Z (M.getD i .Al):=by rw[cr,yZ hi];rfl
   have mi:=yc gi;obtain⟨sp,xs,ex,L,N,nx,_⟩:=S _ mi;rw[ex]at mi⊢;obtain⟨vs,lv,rfl⟩:∃vs lv,xs=vs++[lv]:=⟨xs.dropLast,xs.getLast nx,(f6 nx).symm⟩;have add:∀k,lv=.str k->∃ys,Hj D=Z (.lst ys)/\ys.length<sizeLine/\(AF H3 (upd Hj D (.lst (ys++[.ref sp])))/\∃t:List V,upd Hj D (.lst (ys++[.ref sp])) D=Z (.lst t)/\t.length<=i+1/\(∀v∈t,v∈M)/\bj H3 t):=λk ek=>⟨t,fD,As (al Zz (al (al (jp hi) lu) ac)),s.put hD,t++[.ref sp],AD,by simp;exact Zz,λv x=>by
    rcases am.mp x with x|x
    .exact m' v x
    .rw[ci.mp x];exact mi,λv x=>by
    rcases am.mp x with x|x
    .exact md v x
    .rw[ci.mp x];exact⟨sp,vs,k,W,by rw[<-ek];exact L⟩⟩
   refine⟨_,W,_,W,sp,_,_,_,W,W,Ae.of<|s _ _ L,BS vs lv,?_⟩;rcases N lv z_ with⟨k,rfl⟩|⟨k,rfl,_⟩
   .exact⟨_,"str","int",W,W,.int _,_,W,Ah ⟨s,t,fD,j6 Zz,m',md⟩⟩
   .exact⟨_,"str","str",W,W,.str _,_,W,An ⟨_,W,add k W⟩⟩
  .exact J _ _ ⟨D,t,W,s,fD,al Zz lu,λv x=>(S.up λq xs h=>s _ _ h) v<|m' v x,λ_=>md.up s⟩
 clear hl lu S;rintro ζ H4 ⟨l,M,rfl,s4,hl,lu,S,me⟩;refine DY (λζ H'=>∃w2,ζ=[Z (.int c),Z d.val,Z (.ref n),Z (.ref ξ),Z (.str w2),Z (.ref p),Z (.ref l),Z (.ref q0)]/\AF H4 H'/\w2∈DB/\(w2="put"∨w2="copy"∨w2="lacks"->M≠[])/\(w2="take"∨w2="move"->ps.length≠1)/\(w2="lacks"->bj H4 M)) ?_ ?_;rotate_left
 .intro J;have h9:("has":Str)∈DB:=by decide
  have has:∀H',AF H4 H'->_:=λH' s=>J [Z<|.int c,Z d.val,Z<|.ref n,Z<|.ref ξ,Z<|.str "has",Z<|.ref p,Z<|.ref l,Z<|.ref q0] H' ⟨"has",W,s,h9,λh=>absurd h ac,λh=>absurd h ac,λh=>absurd h ac⟩;have SH:=s4 _ _<|s3 _ _ hp;refine⟨_,W,gU _,λz hz=>⟨l,z,M,W,W,Ax.of<|AF.new hz _ _ hl,Ax.of AD,_,W,?_⟩⟩;have sz:=AF.new (o:=.lst []) hz;generalize upd H4 z (.lst [])=H5 at sz⊢;cases M with
  |cons v r=>
   refine Ah<|Ah ?_;have N:=sz;have c2:(X="put"∨X="copy"∨X="lacks")->v::r≠[]:=λ_=>by simp
   have qZ:=N _ _ SH;refine⟨_,W,p,_,W,.inl<|Ax.of qZ,W,_,W,?_⟩;refine Bu (λc1=>?_) (λc1=>Ah<|J _ _ ⟨X,W,N,wd,c2,(λ_ z=>c1<|by rw[be,z];rfl),me⟩);refine⟨_,W,AW,λg2 R_=>⟨g2,_,W,.inl<|Ax.of AD,W,W,_,W,?_⟩⟩;refine Fu (λb=>has _<|N.trans<|AF.new R_) (λb=>J _ _ ⟨X,W,N.trans<|AF.new R_,wd,c2,λh=>?_,me⟩);exact absurd (show DX (.str X) [.str "take",.str "move"]=true by rcases h with rfl|rfl<;>decide) (by rw[b];exact d5)
  |nil=>
   refine An ⟨_,W,DO,λg hg=>⟨g,_,W,.inl<|Ax.of AD,W,W,_,W,?_⟩⟩;have N:=sz.trans<|AF.new (o:=.lst [.str "put",.str "copy",.str "lacks"]) hg;refine Fu (λb=>An<|has _ N) (λb=>?_);have c2:(X="put"∨X="copy"∨X="lacks")->([]:List V)≠[]:=λh=>absurd (show DX (.str X) [.str "put",.str "copy",.str "lacks"]=true by rcases h with rfl|rfl|rfl<;>decide) (by rw[b];exact d5);have qZ:=N _ _ SH;refine⟨_,W,p,_,W,.inl<|Ax.of qZ,W,_,W,?_⟩;refine Bu (λc1=>?_) (λc1=>Ah<|J _ _ ⟨X,W,N,wd,c2,(λ_ z=>c1<|by rw[be,z];rfl),me⟩);refine⟨_,W,AW,λg2 R_=>⟨g2,_,W,.inl<|Ax.of AD,W,W,_,W,?_⟩⟩;refine Fu (λb=>has _<|N.trans<|AF.new R_) (λb=>J _ _ ⟨X,W,N.trans<|AF.new R_,wd,c2,λh=>?_,me⟩);exact absurd (show DX (.str X) [.str "take",.str "move"]=true by rcases h with rfl|rfl<;>decide)<|by rw[b];exact d5
 rintro ζ H5 ⟨w2,rfl,s5,xC,cs,ct,qa⟩;have pe:=s5 _ _<|s4 _ _<|s3 _ _ hp;refine DY (λζ H'=>∃(q1:Addr)(Y:List V)(e:Dc),ζ=[Z<|.int c,Z d.val,Z<|.ref n,Z<|.ref ξ,Z<|.str w2,Z<|.ref p,Z<|.ref l,Z<|.ref q1]/\AF H5 H'/\H' q1=Z (.tup Y)/\d.sub Y=Z e/\(w2="take"∨w2="move"->Y≠[])/\Aa Y/\low Y/\Y.length<=20) ?_ ?_;rotate_left
 .intro J;refine⟨_,W,AW,λg2 R_=>⟨g2,_,W,.inl (Ax.of AD),W,W,_,W,?_⟩⟩;have sg:=AF.new (o:=.lst [.str "take",.str "move"]) R_;generalize upd H5 g2 (.lst [.str "take",.str "move"])=H6 at sg⊢;refine Fu (λb=>?_) (λb=>J _ _ ⟨q0,z0,x0,W,sg,sg _ _ (s5 _ _ (s4 _ _ mY)),mG,λh=>absurd (show DX (.str w2) [.str "take",.str "move"]=true by rcases h with rfl|rfl<;>decide) (by rw[b];exact d5),w_,xA,xB⟩);have yQ:=ct (by
   rw[show DX (.str w2) [.str "take",.str "move"]=decide (w2∈(["take","move"]:List Str))from Ce w2 ["take","move"]]at b;have:=of_decide_eq_true b;simpa using this)
  have cut:Gj (ps.map V.ref) (Z ((1:Nat):Int)) ν=(ps.drop 1).map V.ref:=by rw[Ht,Os]
  refine⟨_,W,_,W,p,_,W,Ax.of<|sg _ _ pe,λD hD=>?_⟩;have sD:=AF.new (o:=.lst<|(ps.drop 1).map V.ref) hD;refine⟨_,W,D,(ps.drop 1).map V.ref,c,1,W,Ax.of<|by rw[<-cut];exact AD,by rw[be,t8];lia,ac,λv x=>?_⟩;obtain⟨q1,mf,rfl⟩:=n9.mp x;obtain⟨j,hj⟩:=zn mf;rw[Do]at hj;obtain⟨Y,hz,⟨e,he⟩,ne,st,lw,ll⟩:=tN _ q1 hj;exact J _ _ ⟨q1,Y,e,W,sg.trans<|AF.new hD,(sg.trans<|AF.new hD) _ _<|s5 _ _<|s4 _ _ hz,he,λ_=>ne y_,st,lw,ll⟩
 rintro ζ H6 ⟨q1,z1,e1,rfl,s6,A,kX,tO,B,u,Q⟩;have S6:AF H H6:=((S3.trans s4).trans s5).trans s6;have qb:=s6 _ _<|s5 _ _ hl;have qc:EI d ys H6 M:=S.up λq xs h=>s6 _ _<|s5 _ _ h;have hG:=S6 _ _ hn;have mh:=Dc.AS S6 Mx;have Zf:=xC;simp only[DB,ce,t7,or_false]at Zf;have n0:Aa ([]:List V):=λz hz=>nomatch hz;have E:low ([]:List V):=λz hz=>nomatch hz;rcases Zf with rfl|rfl|rfl|rfl|rfl|rfl|rfl|rfl|rfl
 .refine⟨_,W,W,_,W,Ay ac ⟨_,W,_,W,_,W,l,M,c,2,W,Ax.of qb,ym.mpr<|cs<|.inl W,ac,λv x=>?_⟩⟩;obtain⟨sp,xs,rfl,L,N,nx,lx,lw,_⟩:=qc v x;refine⟨_,W,_,W,c,n,ys,W,hG,al ln ac,l0,ny,λd2 H7 R kY hH hI kZ=>⟨DO,.mk λa tQ ha G ka=>?_⟩⟩;exact q _ _ _ _ _ _ ((S6.trans R).trans G) (TQ ka (G _ _<|R _ _ L) N lx (.of lw) nx (Dc.AS G kY) hH hI kZ) lw E<|.no ac
 .refine(sF<|sF<|sF<|sF<|sF ⟨_,W,W,_,W,Ay ac ⟨_,W,_,W,AW,.mk λa tR ha G kb=>?_⟩⟩);exact q _ _ _ _ _ _ (S6.trans G) (Gz kb (G _ _ A) B Q (.of u) ac λ_=>tO<|.inl W) u E<|.no ac
 .obtain⟨t,lv,ez⟩:∃t lv,z1=t++[lv]:=⟨z1.dropLast,z1.getLast<|tO<|.inr W,(f6 _).symm⟩;rw[ez]at kX A B u Q;obtain⟨eh,Zw,S_⟩:=Dc.Ih kX;refine(sF<|sF<|sF ⟨_,W,W,_,W,Ay ac ⟨_,W,_,W,AW,λa0 qd=>?_⟩⟩);have R:=AF.new (o:=.tup [.str "take",.ref q1]) qd;refine⟨d,a0,q1,t,lv,eh,e1,W,Dc.AS R mh,U,I,AD,R _ _ A,B,Zw,S_,λd' H8 s8 gK kc ke kg=>?_⟩;have s78:=R.trans s8;refine⟨_,W,d',n,ys,W,gK,kc,al ke I,s78 _ _ hG,ln,ny,λl2 cG H9 s9 cI qe S9 _=>?_⟩;have s79:=s78.trans s9;refine⟨_,W,gU _,λz hz=>⟨l2,z,cG,W,W,Ax.of<|AF.new hz _ _ cI,Ax.of AD,_,W,?_⟩⟩;have tz:=AF.new (o:=.lst []) hz;have kh:=s79.trans tz;have ki:=tz _ _ cI;have gL:EI d' ys _ cG:=S9.up λq xs h=>tz _ _ h;generalize upd H9 z (.lst [])=tS at tz kh ki gL⊢;cases cG with
  |nil=>
   refine An ⟨_,W,AW,.mk λa tT ha G kj=>?_⟩;exact q _ _ _ _ _ _ ((S6.trans kh).trans G) (Gz kj (G _ _<|kh _ _ A) B Q (.of u) ac λh=>absurd W h) u E (.no ac)
  |cons v0 r0=>
   refine Ah ⟨_,W,_,W,_,W,_,W,l2,_,c,2,W,Ax.of ki,z_,ac,λv x=>⟨DO,λa ha=>?_⟩⟩;obtain⟨sp,xs,rfl,L,N,nx,lx,lw,e2,pQ,_⟩:=gL v x;have G:=AF.new (o:=.tup [.str "move",.ref q1,.ref sp]) ha;have wd:=Dc.Br d Mx;have we:=Dc.Cp wd Zw;have w1:(d.Av t<|eh.BZ lv).Wf:=Dc.Oy wd Zw<|Dc.LQ we S_;have w8:=Dc.Br d' gK;obtain⟨e3,h3,_⟩:=Dc.Eqv.sub w8 w1 kg.symm pQ;refine q _ _ _ _ _ _ ((S6.trans kh).trans G) (OJ AD (G _ _<|kh _ _ A) (G _ _ L) (.inr W) B Q (.of u) (λ_=>by simp) N lx (.of lw) nx) u lw λ_=>⟨⟨t,lv,eh,e1,W,Zw,S_,(gL.open z_).eqv w8 w1 kg.symm⟩,Ra wd U Zw S_ N nx h3⟩
 .refine(sF<|sF ⟨_,W,W,_,W,Ay ac ⟨_,W,_,W,_,W,_,W,l,M,c,2,W,Ax.of qb,ym.mpr<|cs<|.inr<|.inl W,ac,λv x=>⟨DO,λa ha=>?_⟩⟩⟩);obtain⟨sp,xs,rfl,L,N,nx,lx,lw,_⟩:=qc v x;have G:=AF.new (o:=.tup [.str "copy",.ref q1,.ref sp]) ha;exact q _ _ _ _ _ _ (S6.trans G) (OJ AD (G _ _ A) (G _ _ L) (.inl W) B Q (.of u) (λh=>absurd h ac) N lx (.of lw) nx) u lw<|.no ac
 .refine(sF<|sF<|sF<|sF ⟨_,W,W,_,W,Ay ac ⟨_,W,_,W,_,W,_,W,c,n,ys,W,hG,al ln ac,l0,ny,λd2 H7 R kY hH hI kZ=>⟨DO,.mk λa tU ha G km=>?_⟩⟩⟩);have a7:=Dc.AS G kY;exact q _ _ _ _ _ _ ((S6.trans R).trans G) (Kq km (G _ _<|R _ _ A) B Q (.of u) ac (λh=>absurd h ac) (Hn a7 hH<|al hI ac) (λh=>absurd h ac) (Gw.val (.inr W) a7 hH hI kZ) n0 ac λh=>absurd h ac) u E<|.no ac
 .refine(sF<|sF<|sF<|sF<|sF<|sF ⟨_,W,_,W,_,W,_,W,_,W,"ask",q1,c,d,n,z1,e1,ys,W,.inl W,A,B,mh,U,I,kX,hG,ln,l0,ny,λa rest H7 R ha T7 f7 _=>?_⟩);exact q _ _ _ _ _ _ (S6.trans R) (Kq ha (R _ _ A) B Q (.of u) ac (λh=>absurd h ac) f7 (λh=>absurd h ac) T7 n0 ac λh=>absurd h ac) u E<|.no ac
 .refine(sF<|sF<|sF<|sF<|sF<|sF ⟨_,W,_,W,_,W,_,W,_,W,"has",q1,c,d,n,z1,e1,ys,W,.inr<|.inr W,A,B,mh,U,I,kX,hG,ln,l0,ny,λa rest H7 R ha T7 f7 r0=>?_⟩);exact q _ _ _ _ _ _ (S6.trans R) (Kq ha (R _ _ A) B Q (.of u) ac (λh=>absurd h ac) f7 (λ_=>r0 W) T7 n0 ac λh=>absurd h ac) u E<|.no ac
 .refine(sF ⟨_,W,W,_,W,Ay ac ⟨_,W,_,W,_,W,l,M,c,2,W,Ax.of qb,ym.mpr<|cs<|.inr<|.inr W,ac,λv x=>⟨AW,λa ha=>?_⟩⟩⟩);obtain⟨sp,xs,rfl,L,N,nx,lx,lw,_⟩:=qc v x;have G:=AF.new (o:=.tup [.str "lacks",.ref sp]) ha;exact q _ _ _ _ _ _ (S6.trans G) (Gz AD (G _ _ L) N lx (.of lw) ac (λ_=>nx) λ_=>(qa W).last (s5.trans s6) x L) lw E<|.no ac
 .refine(sF<|sF<|sF<|sF<|sF<|sF ⟨_,W,_,W,_,W,_,W,_,W,"is",q1,c,d,n,z1,e1,ys,W,.inr<|.inl W,A,B,mh,U,I,kX,hG,ln,l0,ny,λa rest H7 R ha T7 f7 _=>?_⟩);exact q _ _ _ _ _ _ (S6.trans R) (Kq ha (R _ _ A) B Q (.of u) ac (λh=>absurd h ac) f7 (λh=>absurd h ac) T7 n0 ac λh=>absurd h ac) u E<|.no ac
theorem Zo(F:Fq K "_law_comes" 61 f fd)(T:Txt mg):BA P w K mg base DC 1 f fd lqD Ep:=by
 refine F.oq ["_law_row_here","_law_to","_law_at","_law_place","_law_inside"] λH En _ G _ hr h=>?_;obtain⟨r,B,I,l,p,rfl,R,q⟩:=h;refine gen (AB (AU (AJ BE (Bh K 0) AN<|AL _) (AE<|AI<|AX<|AA (Ai BO (Bh K 0) Az<|Aw<|Bo BJ AG)<|AY<|CS (r:=Dz K) Bj (Bh K 0) (Bo BJ AG) λ_ _=>rfl) AK)<|AB (AU (AJ BE (Bh K 0) AN<|AL _) (AE<|AI<|AX<|AA (Ai BO (Bh K 0) Az<|Aw<|Bo BJ AG)<|AY<|CS (r:=Dz K) Bj (Bh K 0) (Bo BJ AG) λ_ _=>rfl) AK)<|AB (AU (AJ Ll (Bh K 0) AN<|AL _) (AE<|AI A') AK)<|AB (Ad 1 G<|Cz JA W T.list DH<|AY<|Bh K 0)<|AB (Ad 2 G<|AQ Lk (EG K T<|Bh K 0) AG)<|AB (Ad 3 G<|CS (r:=Dz K) Bj (Bh K 0) (pv 2) λ_ _=>rfl)<|AB (Ad 4 G<|Dp (Bm XF (EG K T<|pv 1) (pv 2)<|AL _)<|Dp (Bm (J'<|CD.Cm hr) (Ai BO (Bh K 0) Az<|Aw<|pv 2) (Ai BO (Bh K 0) Az<|Aw<|pv 2)<|AL _)<|D_<|Oe<|II Af T (pv 3) T.str JL)<|AB (AU (PW.pt<|pw_and (Ag<|pv 4)<|pw_and1<|ES<|Ag<|II Af T (Mw K (pv 1)<|pv 2) T.str JL) (AE<|AU (PW.pt<|pw_or (AJ XF (Mw K (pv 1)<|pv 2) (pv 3)<|AL _)<|pw_or1<|PW.pt<|pw_and (AJ BE (Mw K (pv 1)<|pv 2) (pv 3)<|AL _)<|pw_and1<|AJ IJ (AQ Bg (pv 2) AG) (EG K T<|pv 1)<|AL _) (AE<|Lj (AQ Bg (Mw K (pv 1)<|pv 2) AG)<|SI (pv 1) (pv 2) set_list) AK) AK)<|AE<|AI<|AX<|AA (Cz IL W T.tuple Ot<|AY<|Ai (r:=du K) T_ (pv 1) Az<|Aw<|Bo BJ AG)<|AY<|Mw K (pv 1)<|Bo BJ AG) λX hX=>?_;obtain⟨a,rest,rfl,A,Y⟩:=R.ex;have fin:∀(J:Hp),AF H J->∀u N,AF J u->u N=Z (.tup (CW B I l).dropLast)->∀t,u t=ν->∀m,(CW B I l).getLast?=Z m->DX (.str B) B'=true->En.rt (.ref t) (upd u t<|.tup [.ref N,m]):=λJ C u N v h2 t O m xD hc=>by
  refine q _ _ ((C.trans v).trans<|AF.new O) ?_;unfold JZ;rw[if_pos hc];exact⟨t,N,m,W,AD,AF.new O _ _ h2,xD⟩
 have M:∀ζ:List V,ζ≠[]->∃d m,ζ=d++[m]:=λζ h=>⟨ζ.dropLast,ζ.getLast h,(f6 h).symm⟩;subst hX;refine⟨_,W,a,_,0,.str B,W,W,Ae.of A,Ed,W,_,W,?_⟩;refine Bu (λh=>?_) λh1=>?_
 .have hw:B="put":=V.str.inj<|of_decide_eq_true h;subst hw;have eP:CW "put" I l=I:=rfl;obtain⟨d,m,e⟩:=M I<|R.nx<|.inl W;have Q:CW "put" I l=d++[m]:=eP.trans e;have hp:=R.hp;rw[e]at hp;exact⟨_,W,a,_,1,_,W,W,Ae.of A,C',_,W,_,W,p,_,W,hp,λN u v D=>⟨_,W,a,_,1,_,W,W,Ae.of<|v _ _ A,C',_,W,p,_,_,_,W,W,Ae.of<|v _ _ hp,BS d m,AW,λt O=>fin _ (AF.refl _) u N v (by rw[Bd]at D;rw[Q,e5];exact D) t O m (by rw[Q];simp) ac⟩⟩
 refine⟨_,W,a,_,0,.str B,W,W,Ae.of A,Ed,W,_,W,?_⟩;refine Bu (λh=>?_) λh2=>?_
 .have hw:B="copy":=V.str.inj<|of_decide_eq_true h;subst hw;obtain⟨p2,rfl,y⟩:=Y<|.inl W;have eP:CW "copy" I l=l:=rfl;obtain⟨d,m,e⟩:=M l<|R.nz<|.inl W;have Q:CW "copy" I l=d++[m]:=eP.trans e;rw[e]at y;exact⟨_,W,a,_,2,_,W,W,Ae.of A,at2,_,W,_,W,p2,_,W,y,λN u v D=>⟨_,W,a,_,2,_,W,W,Ae.of<|v _ _ A,at2,_,W,p2,_,_,_,W,W,Ae.of<|v _ _ y,BS d m,AW,λt O=>fin _ (AF.refl _) u N v (by rw[Bd]at D;rw[Q,e5];exact D) t O m (by rw[Q];simp) ac⟩⟩
 refine⟨_,W,a,_,0,.str B,W,W,Ae.of A,Ed,W,_,W,?_⟩;refine Nv (λh=>?_) λh=>?_
 .refine q _ _ (AF.refl _) ?_;unfold JZ;have n3:¬B="move":=λz=>by rw[z]at h;cases h
  rw[if_neg λz=>by
   rcases rh z with z|z|z
   .exact h1<|by rw[z];rfl
   .exact h2<|by rw[z];rfl
   .exact n3 z]
 have hw:B="move":=by
  cases hd:decide (V.str B=V.str "move")with
  |true=>exact V.str.inj (of_decide_eq_true hd)|false=>rw[hd]at h;cases h
 subst hw;obtain⟨p2,rfl,y⟩:=Y<|.inr W;obtain⟨d,m,rfl⟩:=M I<|R.nx<|.inr<|.inr<|.inr W;have hp:=R.hp;have su:Aa d:=λz S=>R.sx z<|b9 _ S;have sl:Dc.Bq m:=R.sx m z_;have fz:∀z∈l,Cj z=true:=λz S=>(R.sz z S).flat;have fu:∀z∈d,Cj z=true:=λz S=>(su z S).flat;have lz:=R.lz;refine⟨_,W,a,_,2,_,W,W,Ae.of A,at2,p2,_,W,.inr<|Ae.of y,λL hL=>?_⟩;obtain⟨J,e1⟩:∃J,J=upd H L (.lst l):=⟨_,W⟩;have C:AF H J:=by rw[e1];exact AF.new hL
 have tV:J L=Z (.lst l):=by rw[e1];exact AD
 rw[<-e1];refine⟨_,W,a,_,1,_,W,W,Ae.of<|C _ _ A,C',p,_,W,.inr<|Ae.of<|C _ _ hp,_,_,W,W,?_⟩;have el:(((d++[m]).length:Nat):Int)-1=(d.length:Int):=by simp
 rw[el];refine⟨_,W,a,_,1,_,W,W,Ae.of<|C _ _ A,C',_,W,p,_,_,m,W,W,Ae.of<|C _ _ hp,Ba z_,?_⟩;dsimp only[Bv];refine DY (λE H'=>∃b:Bool,E=[Z<|.ref a,Z<|.ref L,Z<|.int (d.length:Int),Z m,Z<|.bl b]/\AF J H'/\b=(decide (d.length<l.length)&&BV (l.take d.length) d&&Nw m)) ?_ ?_;rotate_left
 .intro n;refine⟨_,W,L,_,W,.inl<|Ax.of tV,_,W,_,_,W,W,_,W,?_⟩;refine Bu (λc1=>?_) (λc1=>n _ _ ⟨false,W,AF.refl _,?_⟩)
  .have l1:d.length<l.length:=by have:=of_decide_eq_true c1;lia
   refine⟨_,W,a,_,2,_,W,W,Ae.of<|C _ _ A,at2,_,W,_,W,p2,_,W,C _ _ y,λq1 u v mf=>?_⟩;rw[El]at mf;refine⟨_,W,a,_,1,_,W,W,Ae.of<|v _ _<|C _ _ A,C',_,W,_,W,p,_,W,v _ _<|C _ _ hp,λq2 H3 s3 tW=>?_⟩;rw[El,abh]at tW;refine⟨q1,q2,_,_,W,W,Ae.of<|s3 _ _ mf,Ae.of tW,λz S=>fz z<|i1 S,fu,_,W,?_⟩;refine Nv (λc2=>?_) (λc2=>n _ _ ⟨false,W,v.trans s3,by rw[c2,L6,zZ]⟩);rcases sl with⟨j,rfl⟩|⟨k,rfl,hk⟩
   .exact⟨_,W,_,"str","int",W,W,.int _,_,W,n _ _ ⟨_,W,v.trans s3,by rw[c2,decide_eq_true l1];rfl⟩⟩
   .exact⟨_,W,_,"str","str",W,W,.str _,_,W,n _ _ ⟨_,W,v.trans s3,by rw[c2,decide_eq_true l1];rfl⟩⟩
  .have l1:¬d.length<l.length:=λz=>c1<|decide_eq_true<|zF.mpr z;rw[decide_eq_false l1,zZ,zZ]
 rintro E u ⟨b,rfl,v,eb⟩;have s:=v _ _ tV;refine DY (λE H'=>E=[Z<|.ref a,Z<|.ref L,Z<|.int (d.length:Int),Z m,Z<|.bl b]/\(∀x o,x≠L->u x=Z o->H' x=Z o)/\H' L=Z (.lst<|B_ l<|d++[m])) ?_ ?_;rotate_left
 .intro n;refine⟨_,W,_,W,?_⟩;have Kw:B_ l (d++[m])=l->(Kx (λ_ _ _=>True) Li Li=Kx (λ_ _ _=>True) Li Li)/\(∀x o,x≠L->u x=Z o->u x=Z o)/\u L=Z (.lst<|B_ l<|d++[m]):=λe=>⟨W,λ_ _ _ z=>z,by rw[e];exact s⟩;cases b with
  |false=>exact Ah (Ah (n _ _ ⟨W,(Kw (WC sl eb.symm)).2⟩))|true=>
   have tX:=eb.symm;simp only[g9,decide_eq_true_eq]at tX;obtain⟨⟨l1,b1⟩,pl⟩:=tX;obtain⟨j,rfl⟩:=UU sl pl;have g:l[d.length]?=Z l[d.length]:=yZ l1;refine An ⟨_,W,_,W,L,_,_,_,W,W,Ax.of s,Ba g,?_⟩;rcases R.sz _ (re l1)with⟨i,hi⟩|⟨k,hk,_⟩
   .rw[hi]at g⊢;have ea:=N_ (j:=(j:Int)) g b1;refine⟨_,"str","int",W,W,.int _,_,W,An ?_⟩;have asg:((j:Int)<(i:Int)∨((i:Int)=(j:Int)/\d.length+1<l.length))->(∀x o,x≠L->u x=Z o->upd u L (.lst<|l.set d.length<|.int<|(i:Int)+1) x=Z o)/\upd u L (.lst<|l.set d.length<|.int<|(i:Int)+1) L=Z (.lst<|B_ l<|d++[.int (j:Int)]):=λc=>⟨λx o hx z=>by rw[AM hx];exact z,by rw[AD,ea,if_pos c]⟩;have ix:QW l.length (d.length:Int)=Z d.length:=by unfold QW;rw[if_pos<|j9 _,if_pos<|zF.mpr l1,i6]
    refine⟨_,W,_,W,L,_,_,_,W,W,Ax.of s,Ba g,_,W,_,_,W,W,_,W,?_⟩;refine Bu (λc3=>An ⟨_,W,_,W,L,_,_,_,W,W,Ax.of s,Ba g,_,_,W,W,_,W,_,W,L,l,_,d.length,W,W,s,ix,n _ _ ⟨W,asg<|.inl<|of_decide_eq_true c3⟩⟩) (λc3=>?_);have n3:¬(j:Int)<(i:Int):=λz=>c3<|decide_eq_true z;refine⟨_,W,_,W,L,_,_,_,W,W,Ax.of s,Ba g,_,W,W,_,W,?_⟩;refine Bu (λc4=>?_) λc4=>Ah<|n _ _ ⟨W,(Kw ?_).2⟩
    .have e4:(i:Int)=(j:Int):=V.int.inj<|of_decide_eq_true c4;refine⟨_,W,_,_,W,W,_,W,L,_,W,.inl<|Ax.of s,_,_,W,W,_,W,?_⟩;refine Bu (λc5=>⟨_,W,_,W,L,_,_,_,W,W,Ax.of s,Ba g,_,_,W,W,_,W,_,W,L,l,_,d.length,W,W,s,ix,n _ _ ⟨W,asg<|.inr ⟨e4,?_⟩⟩⟩) (λc5=>n _ _ ⟨W,(Kw ?_).2⟩)
     .have:=of_decide_eq_true c5;lia
     .have n5:¬((d.length:Nat):Int)+1<((l.length:Nat):Int):=λz=>c5<|decide_eq_true z;rw[ea];exact if_neg y_
    .have n4:¬(i:Int)=(j:Int):=λz=>c4<|decide_eq_true<|congrArg V.int z;rw[ea];exact if_neg y_
   .rw[hk]at g⊢;refine⟨_,"str","str",W,W,.str _,_,W,Ah<|n _ _ ⟨W,(Kw ?_).2⟩⟩;refine Ii ?_;have gd:l.getD d.length .Al=.str k:=by rw[cr,g];rfl
    rw[gd];simp[Nw]
 rintro E H3 ⟨rfl,k3,U⟩;have S3:AF H H3:=λx o e=>k3 x o (Am e hL)<|(C.trans v) x o e;obtain⟨ws,wv,e⟩:=M (B_ l<|d++[m]) (λz=>R.nz (.inr W)<|j7<|by rw[<-Cq l (d++[m]),z];rfl);have Q:CW "move" (d++[m]) l=ws++[wv]:=e;rw[e]at U;refine⟨_,W,_,W,_,W,L,_,W,Ax.of U,λp4 h4=>?_⟩;rw[Bd];have t4:=AF.new (o:=.lst ws) h4;refine⟨p4,_,W,.inl ⟨Ax.of AD,λp5 h5=>?_⟩⟩;have t5:=AF.new (o:=.tup ws) h5;refine⟨_,W,_,W,L,_,_,_,W,W,Ax.of<|t5 _ _<|t4 _ _ U,BS ws wv,AW,λt O=>?_⟩;exact fin _ ((S3.trans t4).trans t5) _ p5 (AF.refl _) (by rw[Q,e5];exact AD) t O wv (by rw[Q];simp) ac
theorem cJ(F:Fq K "_law_into" 64 f fd)(T:Txt mg)(SD:Df P w K mg base "_law_done" lqc 32 Jg)(KU:Df P w K mg base "_law_slots" lql 19 Hm)(l:Df P w K mg base "_law_picked" lqg 2 (HZ K))(cK:Df P w K mg base "_law_row" lqi 34 KN)(E:Df P w K mg base "_law_comes" lqD 1 Ep):BA P w K mg base DC 36 f fd lqb (KO jO):=by
 refine F.oq ["_law_cell_here","_law_one","_law_doc_here","_law_names_here","_law_holder","_law_some","_law_path","_law_slots_here"] λH En _ M _ L h=>?_;obtain⟨c,r,d,n,ys,w0,xs,zs,p,rfl,hg,R,qf,dF,mv,Mx,Bi,A,hn,ln,ny,q⟩:=h;refine gen (AB (Ju (i:=4) M W (D9 W)<|CS (r:=Dz K) Bj (Au E L<|AY<|pv 1) AG λ_ _=>rfl)<|AB (Gm (i:=5) (fv:=["_law_holder","_law_one"]) (fs:=[4,1]) W (.of<|by rfl) M W (I0 W) (ET W T.range<|AY<|Ct (Gk:Dx _ _ (EA K)) W T.len U1<|AY<|pv 4) (λC s0 H0 fp=>JF<|AJ (Oz (CD.Cm L):EN _ _ (Qy K)) (Ai BO (Bh K 2) Az<|Aw<|AQ Bg (pv 0) AG) (Ai BO (pv 1) Az<|Aw<|AQ Bg (pv 0) AG)<|AL _) λC s0 H0 fp=>(Ai BO (pv 1) Az<|Aw<|AQ Bg (pv 0) AG))<|AB (AU (AJ (ME<|CD.Cm L) (pv 5) (BC Bp)<|AL _) (AE<|AI<|Au cK L<|AA (pv 0)<|AA (pv 2)<|AY<|pv 3) AK)<|AB (Ju (i:=6) M W (D9 W)<|Au l L<|AA (pv 5)<|AA (pv 0)<|AY AG)<|AB (Ad 7 M<|Au KU L<|AA (Au SD L<|AA (pv 2)<|AY<|AX<|AA AN<|AY<|pv 6)<|AY<|pv 3)<|AB (Gm (i:=7) (fv:=["_law_one","_law_path"]) (fs:=[1,6]) W (.of<|by rfl) M W (I0 W) (D'<|pv 7) (λC s0 H0 fp=>JF<|AJ (J' (CD.Cm L):EN _ _ (Qo K)) (Ai BO (CS (r:=Dz K) Bj (Au E L<|AY<|AX<|AA AN<|AA (pv 2)<|AY<|pv 0) AG λ_ _=>rfl) Az<|Aw<|Ct (Gk:Dx _ _ (EA K)) W T.len U1<|AY<|Bh K 1) (Bh K 1)<|AL _) λC s0 H0 fp=>(pv 0))<|AB (AU (AJ (ME<|CD.Cm L) (pv 7) (BC Bp)<|AL _) (AE<|AI<|Au cK L<|AA (pv 0)<|AA (pv 2)<|AY<|pv 3) AK)<|AE<|AI<|AX<|AA AN<|AA (pv 6)<|AY<|Au l L<|AA (pv 7)<|AA (pv 0)<|AY AG) λX hX=>?_;have hw:w0="move":=hg;subst hw;have N:=R.rx.rw;obtain⟨⟨uo,lo,eo,xo,mj,ml,qg,ko⟩,eh,O⟩:=mv W;obtain⟨a,rest,rfl,ha,_,_⟩:=R.ho;have hp:=N.hp;have sx:=N.sx;have st:=Bx (w:="move") N.sx N.sz;have Q:∀H',AF H H'->KN [.int c,d.val,.ref n] H' En.rt E0:=λH' s=>⟨c,d,n,ys,W,Dc.AS s Mx,Bi,A,s _ _ hn,bm ln,bn ac<|bm ln.symm,ny,λr' w' mn mq p' H2 s2 R' _ _ _=>q _ _ _ _ _ _ (s.trans s2) R'⟩;subst hX;refine⟨_,W,_,"move",xs,zs,p,W,N,λv H1 s1 cm=>?_⟩;have cm:FE H1 v (CW "move" xs zs):=by
  unfold JZ at cm;rw[if_pos ac]at cm;exact cm
 obtain⟨t,h3,lv,rfl,ht,hh,tY⟩:=cm;have qh:Aa (CW "move" xs zs).dropLast:=λz j=>st z<|n8 _ j;have mr:=(Dc.Cv Bi O).2.1;have tZ:=Dc.PD O (al A ac);generalize(CW "move" xs zs).dropLast=u at hh O qh mr tZ;refine⟨t,_,0,_,W,W,Ae.of ht,Ed,?_⟩;dsimp only[Bv];have Wi:=s1 _ _ ha;have bu:=s1 _ _ hp;refine⟨_,W,h3,_,W,.inr<|Ae.of hh,_,W,A7 ac<|j9 _,zb (y8.mpr<|al (al (gT _ _) mr) A) ac,?_⟩;have en:((u.length:Int)).toNat=u.length:=i6 _;rw[en];refine LR u.length (λi=>.int<|0+(i:Int)) (λD i k=>AF H1 k/\∃ps:List Addr,k D=Z (.lst<|ps.map V.ref)/\ps.length<=i/\∀q∈ps,∃m,m<u.length/\k q=Z (.tup<|u.take<|m+1)) (λD hD=>⟨AF.new hD,[],AD,b5 _,λz j=>nomatch j⟩) (λD i H3 S _=>S) (λD i H3 v H' S _ y=>⟨y.2,y.1⟩) (λD H3 _=>b5 _) (λD i k hD S ⟨sj,ps,G,mu,U⟩=>?_) λD k hD ⟨sj,ps,G,mu,U⟩=>?_
 .have ei:(0+(i:Int))+1=((i+1:Nat):Int):=by lia
  refine⟨_,W,a,_,1,_,W,W,Ae.of<|sj _ _ Wi,C',_,W,_,_,W,W,_,W,p,xs,W,sj _ _ bu,λg1 H2 s2 B=>?_⟩;rw[ei,El]at B;have mw:=s2 _ _<|sj _ _ hh;refine⟨_,W,_,W,_,_,W,W,_,W,h3,u,W,mw,λg2 H3 s3 R_=>?_⟩;rw[ei,El]at R_;have s23:=s2.trans s3;refine⟨g1,g2,_,_,W,W,Ae.of<|s3 _ _ B,Ae.of R_,(λz j=>(sx z<|i1 j).flat),(λz j=>(qh z<|i1 j).flat),_,W,?_⟩;refine Nv (λ_=>?_) λ_=>⟨sj.trans s23,ps,s23 _ _ G,j6 mu,λq hq=>?_⟩
  .refine⟨_,W,_,W,_,_,W,W,_,W,h3,u,W,s3 _ _ mw,λg3 H4 s4 I=>?_⟩;rw[ei,El]at I;have Y:=s23.trans s4;have nD:∀{z:Addr}{b:List V},H4 z=Z (.tup b)->z≠D:=λh=>GI h (Y _ _ G) (by intro z;cases z);refine⟨_,Y _ _ G,As<|by simp;exact al mu<|al (jp S)<|al (al (al (gT _ _) mr) A) ac,(sj.trans Y).put hD,ps++[g3],by rw[AD,ca];rfl,by simp;exact mu,λz j=>?_⟩;rcases am.mp j with j|j
   .obtain⟨m,f1,f2⟩:=U z j;exact⟨m,f1,by rw[AM<|nD<|Y _ _ f2];exact Y _ _ f2⟩
   .rw[ci.mp j];exact⟨i,S,by rw[AM<|nD I];exact I⟩
  .obtain⟨m,f1,f2⟩:=U q hq;exact⟨m,f1,s23 _ _ f2⟩
 have Sj:=s1.trans sj;dsimp only;refine⟨_,W,gU _,λz j=>⟨D,z,_,W,W,Ax.of<|AF.new j _ _ G,Ax.of AD,_,W,?_⟩⟩;have tz:=AF.new (o:=.lst []) j;have ζ:=tz _ _ G;have kq:∀q∈ps,∃m,m<u.length/\upd k z (.lst []) q=Z (.tup<|u.take<|m+1):=λq hq=>by
  obtain⟨m,f1,f2⟩:=U q hq;exact⟨m,f1,tz _ _ f2⟩
 have S2:=Sj.trans tz;generalize upd k z (.lst [])=H2 at ζ kq S2⊢;clear U G tz;cases ps with
 |nil=>exact An ⟨_,W,_,W,_,W,Q _ S2⟩|cons p0 pr=>
 refine Ah ⟨_,W,_,W,D,_,c,1,W,Ax.of ζ,z_,ac,λv hv=>?_⟩;obtain⟨g,B,rfl⟩:=n9.mp hv;obtain⟨m,hm,hg⟩:=kq g B;have xE:u.take (m+1)++u.drop (m+1)=u:=pi _ _;rw[<-xE]at O;obtain⟨x1,ti⟩:=Dc.Uh O;have ku:Aa (u.take<|m+1):=λz j=>qh z<|i1 j;have qi:low (u.take<|m+1):=λz j=>tZ z<|i1 j;have mx:u.take (m+1)≠[]:=by
  intro z;rcases V4.mp z with z|z
  .cases z
  .rw[z]at hm;exact absurd hm<|zL _
 have qj:(u.take<|m+1).length<=20:=by rw[n6];exact al (A8 _ _)<|al (al (al (gT _ _) mr) A) ac
 generalize u.take (m+1)=pt at hg ti ku qi mx qj;obtain⟨b,mR,ez⟩:∃b mR,pt=b++[mR]:=⟨pt.dropLast,pt.getLast mx,(f6 _).symm⟩;have mH:=ti;rw[ez]at mH;obtain⟨e2,Zw,S_⟩:=Dc.Ih mH;dsimp only[Bv];refine⟨_,W,_,W,AW,λa0 qd=>?_⟩;have s7:=AF.new (o:=.tup [.str "take",.ref g]) qd;refine⟨d,a0,g,b,mR,e2,x1,W,Dc.AS (S2.trans s7) Mx,Bi,A,AD,by rw[<-ez];exact s7 _ _ hg,by rw[<-ez];exact ku,Zw,S_,λd' H8 s8 gK kc ke kg=>?_⟩;have s78:=s7.trans s8;refine⟨_,W,d',n,ys,W,gK,kc,al ke A,s78 _ _<|S2 _ _ hn,bm ln,ny,λl2 J H9 s9 cI qe S9 _=>?_⟩;have s79:=s78.trans s9;have T9:=S2.trans s79;have tj:=s79 _ _ hg;refine⟨_,W,l2,W,⟨_,Ax.of cI⟩,LR J.length (λi=>J.getD i .Al) (λD i k=>AF H9 k/\∃b:List V,k D=Z (.lst b)/\b.length<=i/\∀v∈b,v∈J) (λD hD=>⟨AF.new hD,[],AD,b5 _,λz j=>nomatch j⟩) (λD i k S ⟨s,_⟩=>⟨_,_,Ax.of<|s _ _ cI,yZ S⟩) (λD i k v H' S ⟨s,_⟩ y=>?_) (λD k ⟨s,_⟩=>⟨_,Ax.of<|s _ _ cI,b5 _⟩) (λD i k hD S ⟨s,b,G,Zz,m'⟩=>?_) λD k hD ⟨s,b,G,Zz,m'⟩=>?_⟩
 .obtain⟨e,y⟩:=y;refine⟨?_,e⟩;rw[cr,y _<|Ax.of<|s _ _ cI];rfl
 .have gi:J[i]?=Z (J.getD i .Al):=by rw[cr,yZ S];rfl
  have mi:=yc gi;obtain⟨sp,mz,ex,gM,ZJ,kx,k_,gN,_⟩:=S9 _ mi;rw[ex]at mi⊢;have gL:=T9.trans s;refine⟨_,W,_,W,DO,λa1 h1=>?_⟩;have t1:=AF.new (o:=.tup [.str "move",.ref g,.ref sp]) h1;have Rm:=(OJ (AD (H:=k) (a:=a1) (o:=.tup [.str "move",.ref g,.ref sp])) (t1 _ _<|s _ _ tj) (t1 _ _<|s _ _ gM) (.inr W) ku qj (.of qi) (λ_=>mx) ZJ k_ (.of gN) kx).rx.rw;refine⟨_,"move",pt,mz,g,W,Rm,λv2 gc s11 lA=>?_⟩;have lA:FE gc v2 (CW "move" pt mz):=by
   unfold JZ at lA;rw[if_pos ac]at lA;exact lA
  obtain⟨t2,h4,fy,rfl,f',mw,_⟩:=lA;have x:=gL.trans<|t1.trans s11;have xF:=Bx (w:="move") ku ZJ;refine⟨t2,_,0,_,W,W,Ae.of f',Ed,_,W,a,_,1,_,W,W,Ae.of<|x _ _ ha,C',p,_,W,.inr<|Ae.of<|x _ _ hp,_,W,h4,_,W,mw,λg1 qk s12 B=>?_⟩;rw[El]at B;have m_:=(t1.trans s11).trans s12;refine⟨_,W,a,_,1,_,W,W,Ae.of<|(x.trans s12) _ _ ha,C',g1,p,_,_,W,W,Ae.of B,Ae.of<|(x.trans s12) _ _ hp,(λz j=>(xF z<|n8 _<|i1 j).flat),(λz j=>(sx z j).flat),_,W,?_⟩;refine Nv (λ_=>⟨_,W,b,m_ _ _ G,As<|al Zz<|al (al (jp S) qe) ac,(s.trans m_).put hD,b++[.ref sp],AD,by simp;exact Zz,λv hv=>?_⟩) (λ_=>⟨s.trans m_,b,m_ _ _ G,j6 Zz,m'⟩);rcases am.mp hv with hv|hv
  .exact m' v hv
  .rw[ci.mp hv];exact mi
 have gL:=T9.trans s;refine⟨_,W,gU _,λz j=>⟨D,z,_,W,W,Ax.of<|AF.new j _ _ G,Ax.of AD,_,W,?_⟩⟩;have tz:=AF.new (o:=.lst []) j;have ζ:=tz _ _ G;have I:=tz _ _<|s _ _ tj;have tm:EI d' ys (upd k z<|.lst []) J:=S9.up λq xs h=>tz _ _<|s _ _ h;have x:=gL.trans tz;generalize upd k z (.lst [])=qk at ζ I tm x⊢;cases b with
 |nil=>exact An ⟨_,W,_,W,_,W,Q _ x⟩|cons v0 vr=>
 refine Ah ⟨_,W,_,W,_,W,D,_,c,2,W,Ax.of ζ,z_,ac,λv hv=>⟨DO,λa1 h1=>?_⟩⟩;obtain⟨sp,mz,rfl,gM,ZJ,kx,k_,gN,_⟩:=tm v<|m' v hv;have sa:=AF.new (o:=.tup [.str "move",.ref g,.ref sp]) h1;exact q _ _ _ _ _ _ (x.trans sa)<|OJ AD (sa _ _ I) (sa _ _ gM) (.inr W) ku qj (.of qi) (λ_=>mx) ZJ k_ (.of gN) kx
theorem Tj(F:Fq K "_law_reading" 65 f fd)(T:Txt mg)(u:Df P w K mg base "_law_mix" lqd 1 HW)(i:Df P w K mg base "_law_found" lqh 1 E_)(j:Df P w K mg base "_law_slots" lql 19 Hm)(g:Df P w K mg base "_law_picked" lqg 2 (HZ K)):BA P w K mg base DC 36 f fd lqb (KO bN):=by
 refine F.oq ["_law_cell_here","_law_one","_law_doc_here","_law_names_here","_law_path","_law_part_here","_law_slots_here"] λH En _ A _ E h=>?_;obtain⟨c,r,d,n,ys,w0,x,zs,p,rfl,hg,R,Y,dF,mv,B,I,J,hn,ln,ny,q⟩:=h;refine gen (AB (Ad 4 A<|Ai BO (Bh K 1) Az<|Aw<|AQ BB (Au u E<|AA (pv 0)<|AY AG)<|AQ Bg (EG K T<|Bh K 1) AG)<|AB (Ad 5 A<|Au i E<|AA (pv 2)<|AY<|pv 4)<|AB (Ad 6 A<|Au j E<|AA (pv 2)<|AY<|pv 3)<|AB (AU (PW.pt<|pw_or (AJ HS (pv 5) A'<|AL _)<|pw_or1<|AJ (ME<|CD.Cm E) (pv 6) (BC Bp)<|AL _) (AE<|AI<|AX<|AA AN<|AY<|pv 4) AK)<|AB (AU (AJ BE (AQ BB (Au u E<|AA (pv 0)<|AY AG) AG) AG<|AL _) (AE<|AI<|AX<|AA AN<|AA (pv 4)<|AY<|pv 5) AK)<|AE<|AI<|AX<|AA AN<|AA (pv 4)<|AY<|Au g E<|AA (pv 6)<|AA (pv 0)<|AY AG) λX hX=>?_;have L:=R.rx.rw;obtain⟨a,rest,rfl,ha,_,_⟩:=R.ho;have hp:=L.hp;have sx:=L.sx;subst hX;refine⟨_,W,a,_,1,_,W,W,Ae.of ha,C',_,W,c,1,W,ac,λζ h0 _=>⟨_,W,a,_,1,_,W,W,Ae.of ha,C',p,_,W,.inr<|Ae.of hp,_,_,W,W,_,_,W,W,(by show(0:Int)<_;lia),_,W,p,x,W,hp,λQ H1 S b=>?_⟩⟩;have er:ζ % ((x.length:Int)+1)=((ζ % ((x.length:Int)+1)).toNat:Int):=(j4<|py _ y_).symm;rw[er,El]at b;generalize(ζ % ((x.length:Int)+1)).toNat=m at b;have M:Aa (x.take m):=λz G=>sx z<|i1 G;have lo:low (x.take m):=λz G=>Y z<|i1 G;have U:(x.take m).length<=20:=by rw[n6];have:=R.lx;exact al (A8 _ _) this
 generalize x.take m=us at b M lo U;refine⟨_,W,_,W,d,Q,us,W,Dc.AS S B,b,M,_,W,_,W,d,n,ys,W,Dc.AS S B,I,J,S _ _ hn,bm ln,ny,λl vs H2 s2 hl lv S2 _=>?_⟩;have k:=S.trans s2;have has:∀V,AF H2 V->∀t,V t=Z (.tup [.str "has",.ref Q])->En.rt (.ref t) V:=λV s t h=>q _ _ _ _ _ _ (k.trans s) (Gz h ((s2.trans s) _ _ b) M U (.of lo) ac λz=>absurd W z);dsimp only[Bv];refine⟨_,W,W,_,W,?_⟩;cases es:d.sub us with
 |none=>exact An (An ⟨_,W,AW,λt C=>has _ (AF.new C) t AD⟩)|some e=>
 have P:=Dc.BF.sub es;have N:=P.at_<|Dc.AS k B;have vn:decide (RY (Z e)=.Al)=false:=Dc.H_ N;refine Aj vn ⟨_,W,gU _,λz G=>⟨l,z,vs,W,W,Ax.of<|AF.new G _ _ hl,Ax.of AD,_,W,?_⟩⟩;have y:=AF.new (o:=.lst []) G;generalize upd H2 z (.lst [])=H3 at y⊢;cases vs with
 |nil=>exact An ⟨_,W,AW,λt C=>has _ (y.trans (AF.new C)) t AD⟩|cons v0 vr=>
 refine Ah ⟨_,W,c,4,W,ac,λr1 _ _=>⟨_,_,W,W,Bz,W,_,W,?_⟩⟩;have O:=y _ _<|s2 _ _ b;refine Bu (λ_=>?_) λ_=>?_
 .refine⟨_,W,_,W,DO,λt C=>?_⟩;have D:=AF.new (o:=.tup [.str "ask",.ref Q,e.val]) C;exact q _ _ _ _ _ _ ((k.trans y).trans D) (fM AD (D _ _ O) M U (.of lo) (Dc.AS (y.trans D) N) (P.ok I)<|by have:=P.size;exact al (al this J) ac)
 .refine⟨_,W,_,W,_,W,l,_,c,2,W,Ax.of<|y _ _ hl,z_,ac,λv hv=>⟨DO,λt C=>?_⟩⟩;obtain⟨sp,yR,rfl,gM,xG,fO,sI,gN,_⟩:=S2 v hv;have D:=AF.new (o:=.tup [.str "copy",.ref Q,.ref sp]) C;exact q _ _ _ _ _ _ ((k.trans y).trans D)<|OJ AD (D _ _ O) (D _ _<|y _ _ gM) (.inl W) M U (.of lo) (λh=>absurd h ac) xG sI (.of gN) fO
theorem Wl(F:Fq K "_law_unlike" 66 f fd)(T:Txt mg)(j:Df P w K mg base "_law_mix" lqd 1 HW)(Q:Df P w K mg base "_law_comes" lqD 1 Ep):BA P w K mg base DC 3 f fd lqt Rg:=by
 refine F.oq ["_law_cell_here","_law_one","_law_names_here","_law_comes_here","_law_path","_law_holder","_law_name","_law_step","_law_some"] λH En _ x _ ζ h=>?_;obtain⟨c,r,n,ys,w0,xs,zs,p,rfl,R,qf,dF,hn,ln,ny,q⟩:=h;refine gen (AB (Ad 3 x<|Au Q ζ<|AY<|pv 1)<|AB (Ad 4 x<|Bh K 1)<|AB (AU (AJ Ck (pv 3) A'<|AL _) (AE<|Ad 4 x<|AQ Bn (Bh K 3)<|AX<|AY<|Bh K 3) AK)<|AB (AU (AJ (J'<|CD.Cm ζ) (pv 4) (AX Bp)<|AL _) (AE<|AI<|AX<|AA AN<|AY<|AX<|AY<|AQ BB (Au j ζ<|AA (pv 0)<|AY AG) AG) AK)<|AB (Ad 5 x<|Ai BO (pv 4) Az<|Aw<|Bo BJ AG)<|AB (Ad 6 x<|Mw K (pv 2)<|AQ BB (Au j ζ<|AA (pv 0)<|AY AG) AG)<|AB (AU (Ag<|II Af T (CS (r:=Dz K) Bj (pv 4) (Bo BJ AG) λ_ _=>rfl) T.str JL) (AB (Ad 7 x<|AQ BB (Au j ζ<|AA (pv 0)<|AY AG) AG)<|AE<|AI<|Mw K (BC<|AA (AX<|AA AN<|AA (AQ Bn (pv 5)<|AX<|AY<|pv 7)<|AY AG)<|AA (AX<|AA AN<|AY<|AQ Bn (pv 5)<|AX<|AY<|pv 7)<|AY<|AX<|AA AN<|AY<|AQ Bn (pv 5)<|AX<|AY AG)<|AQ BB (Au j ζ<|AA (pv 0)<|AY AG) AG) AK)<|AB (Ad 8 x<|BC<|AA (AX<|AA AN<|AA (AQ Bn (pv 5)<|AX<|AY<|pv 6)<|AY AG)<|AA (AX<|AA AN<|AY<|AQ Bn (pv 5)<|AX<|AY<|pv 6)<|AY<|AX<|AA AN<|AY<|AQ Bn (pv 5)<|AX<|AY<|pv 6)<|AE<|AI<|Mw K (AQ dz (pv 8)<|BC<|AY<|AX<|AA AN<|AY<|AQ Bn (pv 5)<|AX<|AY<|pv 6)<|AQ BB (Au j ζ<|AA (pv 0)<|AY AG) AG) λX hX=>?_;have D:=R.rx.rw;obtain⟨a,rest,rfl,ha,_,_⟩:=R.ho;have hp:=D.hp;subst hX;refine⟨_,W,_,w0,xs,zs,p,W,D,λv H1 N cm=>?_⟩;dsimp only[Bv];refine⟨_,W,a,_,1,_,W,W,Ae.of<|N _ _ ha,C',?_⟩;dsimp only;refine DY (fun σ' m=>∃(pp:Addr)(E:List V),σ'=[Z<|.int c,Z<|.ref a,Z<|.ref n,Z v,Z<|.ref pp,ν,ν,ν,ν]/\AF H m/\m pp=Z (.tup E)/\Aa E/\E.length<=20/\IH E) ?_ ?_;rotate_left
 .intro C;refine⟨_,W,W,_,W,?_⟩;unfold JZ at cm;by_cases hc:DX (.str w0) B'=true
  .rw[if_pos hc]at cm;obtain⟨t,h3,E,l,rfl,ht,hh,eu⟩:=cm.split;have su:=Bx (w:=w0) D.sx D.sz;have lu:=Yj (w:=w0) R.lx R.lz;have wu:=Rh (w:=w0) qf dF;rw[eu]at su lu wu;refine An ⟨_,W,t,_,0,_,W,W,Ae.of ht,Ed,_,W,t,_,1,_,W,W,Ae.of ht,C',BG,.mk λg xH dA sg ql=>?_⟩;refine⟨h3,g,_,_,W,W,sg _ _ hh,ql,Ao<|by simp at lu⊢;exact al lu ac,λg2 H2 s2 R_=>?_⟩;exact C _ _ ⟨g2,_,W,N.trans<|sg.trans s2,R_,su,lu,wu⟩
  .rw[if_neg hc]at cm;subst cm;exact Ah<|C _ _ ⟨p,xs,W,N,N _ _ hp,D.sx,R.lx,.of qf⟩
 rintro σ' H2 ⟨pp,E,rfl,S2,mW,su,lu,wu⟩;refine⟨_,W,gU _,λz d=>?_⟩;have tz:=AF.new (o:=.tup []) d;refine⟨pp,z,E,[],W,W,Ae.of<|tz _ _ mW,Ae.of AD,(λz d=>(su z d).flat),(λz d=>nomatch d),_,W,?_⟩;have S3:=S2.trans tz;have QL:=tz _ _ mW;generalize upd H2 z (.tup [])=H3 at S3 QL⊢;have qm:∀i:Int,0<=i->Dc.Bq (.int i):=λi h=>.inl ⟨i.toNat,by rw[j4 h]⟩;by_cases c0:E=[]
 .subst c0;refine An ⟨_,W,c,5,W,ac,λr0 h0 _=>⟨_,_,W,W,Bz,BG,λp1 h1=>⟨AW,λa1 h2=>?_⟩⟩⟩;have S:=AF.new (o:=.tup [.int<|r0 % 2]) h1;have O:=AF.new (o:=.tup [.str "has",.ref p1]) h2;have r2:0<=r0 % 2/\r0 % 2<2:=by lia
  exact q _ _ _ _ _ _ (S3.trans<|S.trans O)<|Gz AD (O _ _ AD) (λz d=>by rw[ci.mp d];exact qm _ r2.1) z_ (λz d i e=>by rw[ci.mp d]at e;cases e;lia) ac λz=>absurd W z
 refine Aj (yj.mpr λz=>c0<|(Bc (ys:=[]) su λz d=>nomatch d).mp z) ?_;obtain⟨b,lv,rfl⟩:∃b lv,E=b++[lv]:=⟨E.dropLast,E.getLast c0,(f6 c0).symm⟩;refine⟨_,W,_,W,_,W,pp,_,W,QL,λA H4 s4 u=>?_⟩;rw[Bd]at u;have S4:=S3.trans s4;have SH:=s4 _ _ QL;dsimp only[Bv];have sv:Aa b:=λz d=>su z<|b9 _ d;have wv:IH b:=λz d=>wu z<|b9 _ d;have B:b.length+1<=20:=GE lu
 refine⟨_,W,_,W,c,5,W,ac,λr0 h0 _=>⟨_,_,W,W,Bz,?_⟩⟩;obtain⟨k6,e6,l6⟩:∃k6:Nat,r0 % 6=(k6:Int)/\k6<6:=⟨(r0 % 6).toNat,(j4<|py _ ac).symm,y_⟩;obtain⟨nm,gr⟩:=HK ys k6<|bn l6<|bm ln.symm;rw[e6];have xI:=ny nm<|yc gr;refine⟨n,_,_,.str nm,W,W,Ax.of<|S4 _ _ hn,Ba<|by rw[f8,gr];rfl,?_⟩;dsimp only[Bv];have tq:∀z:V,Dc.Bq z->Aa (b++[z]):=λz d y G=>by
  rcases am.mp G with G|G
  .exact sv y G
  .rw[ci.mp G];exact d
 have tw:∀z:V,(b++[z]).length<=20:=λz=>by simp;lia
 have U:∀z:V,(∀i:Int,z=.int i->i.natAbs<2000)->IH (b++[z]):=λz d y G=>by
  rcases am.mp G with G|G
  .exact wv y G
  .rw[ci.mp G];exact d
 have t_:∀z:V,b++[z]≠[]:=λz=>by simp
 have put:∀(z:V)(t g:Addr)(m:Hp),AF H m->m t=Z (.tup [.str "put",.ref g,.int 7])->m g=Z (.tup<|b++[z])->Dc.Bq z->(∀i:Int,z=.int i->i.natAbs<2000)->En.rt (.ref t) m:=λz t g m s h1 h2 h3 h4=>q _ _ _ _ _ _ s<|TQ (v:=.leaf<|.int 7) h1 h2 (tq z h3) (tw z) (U z h4) (t_ z) (Yk (H:=m)).1 (Yk (H:=m)).2.1 ac (Yk (H:=m)).2.2;have two:∀(w:Str)(z:V)(t g:Addr)(m:Hp),AF H m->w∈(lqA:List Str)->m t=Z (.tup [.str w,.ref g])->m g=Z (.tup<|b++[z])->Dc.Bq z->(∀i:Int,z=.int i->i.natAbs<2000)->(w="lacks"->∃n,z=.str n)->En.rt (.ref t) m:=λw z t g m s hw h1 h2 h3 h4 h5=>q _ _ _ _ _ _ s (Gz h1 h2 (tq z h3) (tw z) (U z h4) hw (λ_=>t_ z) λc=>by obtain⟨n,e⟩:=h5 c;exact⟨b,n,by rw[e]⟩);refine⟨_,W,_,W,pp,_,_,_,W,W,Ae.of SH,BS b lv,?_⟩;rcases su lv z_ with⟨k,rfl⟩|⟨k,rfl,_⟩
 .refine⟨_,"str","int",W,W,.int _,_,W,Ah ?_⟩;have g0:Dc.Bq (.str nm):=.inr ⟨nm,W,xI⟩;have g1:∀i:Int,V.str nm=.int i->i.natAbs<2000:=λi e=>nomatch e;have X1:=AF.refl H4;refine⟨_,W,_,W,BG,.mk λu1 xJ n1 S qo=>?_⟩;refine⟨A,u1,b,_,W,W,S _ _<|X1 _ _ u,qo,Ao<|by simp;exact al (al (gT _ _) B) ac,λp1 G1 N I=>⟨DO,.mk λb1 gc m1 w1 qp=>?_⟩⟩;have qq:=w1 _ _ I;have X2:=X1.trans<|(S.trans N).trans w1;have Y1:=(S.trans N).trans w1;refine⟨_,W,_,W,BG,.mk λu2 xK n2 O qr=>?_⟩;refine⟨A,u2,b,_,W,W,O _ _<|X2 _ _ u,qr,Ao<|by simp;exact al (al (gT _ _) B) ac,λp2 G2 s2 J=>⟨AW,.mk λb2 qk m2 w2 qt=>?_⟩⟩;have qu:=w2 _ _ J;have X3:=X2.trans<|(O.trans s2).trans w2;have Y2:=(O.trans s2).trans w2;refine⟨_,W,_,W,BG,.mk λu3 xM n3 t3 qv=>?_⟩;refine⟨A,u3,b,_,W,W,t3 _ _<|X3 _ _ u,qv,Ao<|by simp;exact al (al (gT _ _) B) ac,λp3 G3 s3 M=>⟨AW,.mk λb3 uA m3 w3 qw=>?_⟩⟩;have qx:=w3 _ _ M;have X4:=X3.trans<|(t3.trans s3).trans w3;have Y3:=(t3.trans s3).trans w3;refine⟨DO,.mk λL uB nL tL fL=>?_⟩;have X4:=X4.trans tL;dsimp only[Bv];refine⟨_,W,_,W,_,W,BG,.mk λu4 xN n4 t4 qy=>?_⟩;refine⟨A,u4,b,_,W,W,t4 _ _<|X4 _ _ u,qy,Ao<|by simp;exact al (al (gT _ _) B) ac,λp4 G4 s4 qz=>⟨AW,.mk λb4 uB m4 w4 xO=>?_⟩⟩;have xP:=w4 _ _ qz;have X5:=X4.trans<|(t4.trans s4).trans w4;have Y4:=(t4.trans s4).trans w4;refine⟨BG,λL2 xQ=>?_⟩;have uC:=AF.new (o:=.lst [.ref b4]) xQ;refine⟨L,L2,_,_,W,W,(Y4.trans uC) _ _ fL,AD,Ao<|show 3+1<=1000 by decide,λL3 xR=>?_⟩;have xS:=AF.new (o:=.lst<|[.ref b1,.ref b2,.ref b3]++[.ref b4]) xR;refine⟨_,W,c,6,W,ac,λr3 h3 _=>⟨_,_,W,W,Bz,?_⟩⟩;obtain⟨k4,e4,l4⟩:∃k4:Nat,r3 % 4=(k4:Int)/\k4<4:=⟨(r3 % 4).toNat,(j4<|py _ ac).symm,y_⟩;rw[e4];have Z4:=uC.trans xS;have Z3:=(tL.trans Y4).trans Z4;have Z2:=Y3.trans Z3;have Z1:=Y2.trans Z2;have Y:=S4.trans<|X5.trans Z4;have C:∃v,([.ref b1,.ref b2,.ref b3]++[.ref b4]:List V)[k4]?=Z v/\En.rt v (upd (upd uB L2<|.lst [.ref b4]) L3<|.lst<|[.ref b1,.ref b2,.ref b3]++[.ref b4]):=by
   rcases k4 with _|_|_|_|k4
   .exact⟨_,W,put _ _ _ _ Y (Z1 _ _ qp) (Z1 _ _ qq) g0 g1⟩
   .exact⟨_,W,two _ _ _ _ _ Y ac (Z2 _ _ qt) (Z2 _ _ qu) g0 g1 λ_=>⟨_,W⟩⟩
   .exact⟨_,W,two _ _ _ _ _ Y ac (Z3 _ _ qw) (Z3 _ _ qx) g0 g1 λ_=>⟨_,W⟩⟩
   .exact⟨_,W,two _ _ _ _ _ Y ac (Z4 _ _ xO) (Z4 _ _ xP) g0 g1 λ_=>⟨_,W⟩⟩
   .lia
  obtain⟨v9,q_,rA⟩:=C;exact⟨L3,_,_,v9,W,W,Ax.of AD,Ba q_,rA⟩
 .refine⟨_,"str","str",W,W,.str _,_,W,An ⟨_,W,c,5,W,ac,λr1 _ _=>⟨_,_,W,W,Bz,?_⟩⟩⟩;have r2:0<=r1 % 2/\r1 % 2<2:=by lia
  have g0:=qm _ r2.1;have g1:∀i:Int,V.int (r1 % 2)=.int i->i.natAbs<2000:=λi e=>by cases e;lia
  dsimp only[Bv];have X1:=AF.refl H4;refine⟨_,W,_,W,BG,.mk λu1 kD n1 S VF=>?_⟩;refine⟨A,u1,b,_,W,W,S _ _<|X1 _ _ u,VF,Ao<|by simp;exact al (al (gT _ _) B) ac,λp1 G1 N I=>⟨DO,.mk λb1 gc m1 w1 qp=>?_⟩⟩;have qq:=w1 _ _ I;have X2:=X1.trans<|(S.trans N).trans w1;have Y1:=(S.trans N).trans w1;refine⟨_,W,_,W,BG,.mk λu2 uD n2 O lB=>?_⟩;refine⟨A,u2,b,_,W,W,O _ _<|X2 _ _ u,lB,Ao<|by simp;exact al (al (gT _ _) B) ac,λp2 G2 s2 J=>⟨AW,.mk λb2 qk m2 w2 qt=>?_⟩⟩;have qu:=w2 _ _ J;have X3:=X2.trans<|(O.trans s2).trans w2;have Y2:=(O.trans s2).trans w2;refine⟨_,W,BG,.mk λu3 uE n3 t3 lC=>?_⟩;refine⟨A,u3,b,_,W,W,t3 _ _<|X3 _ _ u,lC,Ao<|by simp;exact al (al (gT _ _) B) ac,λp3 G3 s3 M=>⟨AW,.mk λb3 uA m3 w3 qw=>?_⟩⟩;have qx:=w3 _ _ M;have X4:=X3.trans<|(t3.trans s3).trans w3;have Y3:=(t3.trans s3).trans w3;refine⟨DO,λL nL=>?_⟩;have tL:=AF.new (o:=.lst [.ref b1,.ref b2,.ref b3]) nL;refine⟨_,W,c,6,W,ac,λr3 h3 _=>⟨_,_,W,W,Bz,?_⟩⟩;obtain⟨k4,e4,l4⟩:∃k4:Nat,r3 % 3=(k4:Int)/\k4<3:=⟨(r3 % 3).toNat,(j4<|py _ ac).symm,y_⟩;rw[e4];have Z2:=Y3.trans tL;have Z1:=Y2.trans Z2;have Y:=S4.trans<|X4.trans tL;have C:∃v,([.ref b1,.ref b2,.ref b3]:List V)[k4]?=Z v/\En.rt v (upd uA L<|.lst [.ref b1,.ref b2,.ref b3]):=by
   rcases k4 with _|_|_|k4
   .exact⟨_,W,put _ _ _ _ Y (Z1 _ _ qp) (Z1 _ _ qq) g0 g1⟩
   .exact⟨_,W,two _ _ _ _ _ Y ac (Z2 _ _ qt) (Z2 _ _ qu) g0 g1 λh=>absurd h ac⟩
   .exact⟨_,W,two _ _ _ _ _ Y ac (tL _ _ qw) (tL _ _ qx) (qm 0 ac) (λi e=>by cases e;decide) λh=>absurd h ac⟩
   .lia
  obtain⟨v9,q_,rA⟩:=C;exact⟨L,_,_,v9,W,W,Ax.of AD,Ba q_,rA⟩
theorem Wm(F:Fq K "_law_beside" 67 f fd)(T:Txt mg)(M:Df P w K mg base "_law_mix" lqd 1 HW)(SD:Df P w K mg base "_law_done" lqc 32 Jg)(KU:Df P w K mg base "_law_slots" lql 19 Hm)(QJ:Df P w K mg base "_law_value" lqo 3 Je)(N:Df P w K mg base "_law_picked" lqg 2 (HZ K))(cK:Df P w K mg base "_law_row" lqi 34 KN)(gO:Df P w K mg base "_law_comes" lqD 1 Ep)(lD:Df P w K mg base "_law_into" lqb 36 (KO jO))(B:Df P w K mg base "_law_reading" lqb 36 (KO bN))(O:Df P w K mg base "_law_unlike" lqt 3 Rg):BA P w K mg base DC 38 f fd lqb (KO bN):=by
 refine F.oq ["_law_cell_here","_law_one","_law_doc_here","_law_names_here","_law_way","_law_comes_here","_law_slots_here"] λH En _ NG _ C h=>?_;obtain⟨c,r,d,n,ys,G,y,zs,p,rfl,hg,R,j,dF,mv,Q,Bi,S,hn,ln,ny,q⟩:=h;refine gen (AB (Ad 4 NG<|AQ BB (Au M C<|AA (pv 0)<|AY AG) AG)<|AB (Ad 5 NG<|Au gO C<|AY<|pv 1)<|AB (AU (PW.pt<|pw_and (AJ BE (pv 4) AG<|AL _)<|pw_and1<|AJ Ck (pv 5) A'<|AL _) (AE<|AI<|AX<|AA AN<|AA (AQ Bn (Bh K 5)<|AX<|AY<|Bh K 5)<|AY<|Au QJ C<|AA (pv 0)<|AY<|pv 3) AK)<|AB (AU (PW.pt<|pw_and (AJ BE (pv 4) AG<|AL _)<|pw_and1<|AJ (Oz<|CD.Cm C) (Bh K 1) (AX Bp)<|AL _) (AE<|AI<|AX<|AA AN<|AY<|Ai BO (Bh K 1) Az<|Aw<|AQ Bg AG<|AQ BB (Au M C<|AA (pv 0)<|AY AG)<|EG K T<|Bh K 1) AK)<|AB (AU (AJ BE (pv 4) AG<|AL _) (AE<|AI<|AX<|AA AN<|AY<|Bh K 1) AK)<|AB (AU (PW.pt<|pw_and (AJ BE (pv 4) AG<|AL _)<|pw_and1<|AJ BE (Bh K 1) AN<|AL _) (AB (Ad 6 NG<|Au KU C<|AA (Au SD C<|AA (pv 2)<|AY<|AX<|AA AN<|AY<|Bh K 1)<|AY<|pv 3)<|AE<|AI<|AX<|AA AN<|AA (Bh K 1)<|AY<|Au N C<|AA (pv 6)<|AA (pv 0)<|AY AG) AK)<|AB (AU (PW.pt<|pw_and (AJ (CI:EN _ _ (SE K false)) (pv 4) (BC<|AA AG<|AY AG) W)<|pw_and1<|AJ BE (Bh K 1) AN<|AL _) (AE<|AI<|Au lD C<|AA (pv 0)<|AA (pv 1)<|AA (pv 2)<|AY<|pv 3) AK)<|AB (AU (AJ BE (pv 4) AG<|AL _) (AE<|AI<|Au B C<|AA (pv 0)<|AA (pv 1)<|AA (pv 2)<|AY<|pv 3) AK)<|AB (AU (AJ BE (pv 4) AG<|AL _) (AE<|AI<|Au O C<|AA (pv 0)<|AA (pv 1)<|AY<|pv 3) AK)<|AB (AU (PW.pt<|pw_and (AJ BE (pv 4) AG<|AL _)<|pw_and (AJ Ck (pv 5) A'<|AL _)<|pw_and1<|Ag<|II Af T (Bh K 5) T.str JL) (AE<|AI<|AX<|AA (Mw K (BC<|AA AN<|AA AN<|AY AN)<|AQ BB (Au M C<|AA (pv 0)<|AY AG) AG)<|AY<|AQ Bn (Bh K 5)<|AX<|AY<|Bh K 5) AK)<|AE<|AI<|Au cK C<|AA (pv 0)<|AA (pv 2)<|AY<|pv 3) λX hX=>?_;have U:=R.rx.rw;obtain⟨a,rest,rfl,ha,_,_⟩:=R.ho;have hp:=U.hp;have sx:=U.sx;subst hX;refine⟨_,W,c,3,W,ac,λr0 h0 _=>⟨_,_,W,W,Bz,?_⟩⟩;generalize r0 % 12=way;dsimp only[Bv];refine⟨_,W,_,G,y,zs,p,W,U,λv H1 D cm=>?_⟩;have su:=Bx (w:=G) U.sx U.sz;have Y:=Yj (w:=G) R.lx R.lz;have wu:=Rh (w:=G) j dF;have cm:v=.Al∨∃(t h:Addr)(us:List V)(l:V),v=.ref t/\H1 t=Z (.tup [.ref h,l])/\H1 h=Z (.tup us)/\Aa (us++[l])/\(us++[l]).length<=20/\IH (us++[l]):=by
  unfold JZ at cm;by_cases hc:DX (.str G) B'=true
  .rw[if_pos hc]at cm;obtain⟨t,h3,us,l,rfl,ht,hh,eu⟩:=cm.split;rw[eu]at su Y wu;exact .inr ⟨t,h3,us,l,W,ht,hh,su,Y,wu⟩
  .rw[if_neg hc]at cm;exact .inl cm
 clear su Y wu;have ζ:=D _ _ ha;have bu:=D _ _ hp;have rB:=Dc.AS D Q;have uF:=D _ _ hn;dsimp only;refine DY (λb A=>b=[Z (.int c),Z (.ref a),Z d.val,Z (.ref n),Z (.int way),Z v,ν]/\AF H1 A) ?_ ?_;rotate_left
 .intro e;refine⟨_,W,W,_,W,?_⟩;refine Bu (λ_=>⟨_,W,W,_,W,?_⟩) (λ_=>Ah<|e _ _ ⟨W,AF.refl _⟩);rcases cm with rfl|⟨t,h3,us,l,rfl,ht,hh,su,Y,wu⟩
  .exact Ah<|e _ _ ⟨W,AF.refl _⟩
  .refine An ⟨_,W,t,_,0,_,W,W,Ae.of ht,Ed,_,W,t,_,1,_,W,W,Ae.of ht,C',BG,.mk λg xT dA sg rC=>?_⟩;refine⟨h3,g,_,_,W,W,sg _ _ hh,rC,Ao<|by simp at Y⊢;exact al Y ac,λg2 H2 s2 R_=>?_⟩;have s12:=D.trans<|sg.trans s2;refine⟨_,W,_,W,c,n,ys,W,s12 _ _ hn,al (bm ln) ac,bn ac<|bm ln.symm,ny,λd2 H7 s7 kY hH hI kZ=>⟨DO,.mk λa1 xU ζ i rE=>?_⟩⟩;exact q _ _ _ _ _ _ ((s12.trans s7).trans i)<|TQ rE (i _ _<|s7 _ _ R_) su Y wu z_ (Dc.AS i kY) hH hI kZ
 rintro b H2 ⟨rfl,s2⟩;refine DY (λb A=>b=[Z<|.int c,Z<|.ref a,Z d.val,Z<|.ref n,Z<|.int way,Z v,ν]/\AF H1 A) ?_ ?_;rotate_left
 .intro e;refine⟨_,W,W,_,W,?_⟩;refine Bu (λ_=>?_) (λ_=>Ah<|e _ _ ⟨W,s2⟩);refine⟨_,W,a,_,1,_,W,W,Ae.of<|s2 _ _ ζ,C',gU _,λz hz=>?_⟩;have tz:=AF.new (o:=.tup []) hz;have u:=s2.trans tz;refine⟨p,z,y,[],W,W,Ae.of<|u _ _ bu,Ae.of AD,(λz hz=>(sx z hz).flat),(λz hz=>nomatch hz),_,W,?_⟩;generalize upd H2 z (.tup [])=H3 at u⊢;by_cases c0:y=[]
  .subst c0;exact Ah<|e _ _ ⟨W,u⟩
  have lp:0<y.length:=ym.mpr c0;refine Ay (by rw[yj.mpr λz=>c0<|(Bc (ys:=[]) sx λz hz=>nomatch hz).mp z];rfl) ?_;have E:=u _ _ ζ;have QL:=u _ _ bu;refine⟨_,W,a,_,1,_,W,W,Ae.of E,C',_,W,c,1,W,ac,λr1 h1 _=>⟨_,W,a,_,1,_,W,W,Ae.of E,C',p,_,W,.inr<|Ae.of QL,_,_,W,W,(by show(0:Int)<_;lia),_,_,W,W,_,W,p,y,W,QL,λp1 H4 s4 SH=>⟨AW,λa1 n1=>?_⟩⟩⟩;have er:1+r1 % (y.length:Int)=(((r1 % (y.length:Int)).toNat+1:Nat):Int):=by
   have:=py r1 (show(y.length:Int)≠0 by lia);lia
  rw[er,El]at SH;generalize(r1 % (y.length:Int)).toNat+1=m at SH er;have nm:y.take m≠[]:=by
   intro z;rcases V4.mp z with z|z
   .have:=py r1 (show(y.length:Int)≠0 by lia);lia
   .exact c0 z
  have i:=AF.new (o:=.tup [.str "take",.ref p1]) n1;exact q _ _ _ _ _ _ ((D.trans u).trans<|s4.trans i)<|Gz AD (i _ _ SH) (λz hz=>sx z<|i1 hz) (by rw[n6];have:=R.lx;exact al (A8 _ _) this) (.of λz hz=>j z<|i1 hz) ac λ_=>nm
 rintro b H3 ⟨rfl,u⟩;have E:=u _ _ ζ;have QL:=u _ _ bu;refine⟨_,W,W,_,W,Bu (λ_=>?_) λ_=>?_⟩
 .refine⟨_,W,a,_,1,_,W,W,Ae.of E,C',AW,.mk λa1 xV n1 i rF=>?_⟩;exact q _ _ _ _ _ _ ((D.trans u).trans i)<|Gz rF (i _ _ QL) sx R.lx (.of j) ac λz=>absurd W z
 dsimp only[Li];refine DY (λb A=>b=[Z<|.int c,Z<|.ref a,Z d.val,Z<|.ref n,Z<|.int way,Z v,ν]/\AF H1 A) ?_ ?_;rotate_left
 .intro e;refine⟨_,W,W,_,W,?_⟩;refine Bu (λ_=>?_) (λ_=>Ah<|e _ _ ⟨W,u⟩);refine⟨_,W,a,_,0,.str G,W,W,Ae.of E,Ed,W,_,W,?_⟩;refine Bu (λhw=>?_) (λ_=>e _ _ ⟨W,u⟩);have hw:G="move":=V.str.inj<|of_decide_eq_true hw;subst hw;obtain⟨⟨uo,lo,eo,xo,mj,ml,qg,ko⟩,eh,yS⟩:=mv W;refine⟨_,W,_,W,a,_,1,_,W,W,Ae.of E,C',AW,λa0 n0=>?_⟩;have s7:=AF.new (o:=.tup [.str "take",.ref p]) n0;refine⟨d,a0,p,uo,lo,eo,xo,W,Dc.AS ((D.trans u).trans s7) Q,Bi,S,AD,by rw[<-mj];exact s7 _ _ QL,by rw[<-mj];exact sx,ml,qg,λd' H8 s8 gK kc ke kg=>?_⟩;have s78:=s7.trans s8;refine⟨_,W,d',n,ys,W,gK,kc,al ke S,s78 _ _<|u _ _ uF,bm ln,ny,λl2 cG H9 s9 cI qe S9 xW=>?_⟩;have s79:=s78.trans s9;have T9:=(D.trans u).trans s79;have wd:=Dc.Br d Q;have w1:(d.Av uo<|eo.BZ lo).Wf:=Dc.Oy wd ml<|Dc.LQ (Dc.Cp wd ml) qg;have nn:=xW<|ko.eqv w1 (Dc.Br d' gK) kg;refine⟨_,W,a,_,1,_,W,W,Ae.of<|T9 _ _ ha,C',_,W,_,W,l2,_,c,2,W,Ax.of cI,ym.mpr nn,ac,λv hv=>⟨DO,λa1 h1=>?_⟩⟩;obtain⟨sp,mz,rfl,gM,ZJ,kx,k_,gN,_⟩:=S9 v hv;have i:=AF.new (o:=.tup [.str "move",.ref p,.ref sp]) h1;exact q _ _ _ _ _ _ (T9.trans i)<|OJ AD (i _ _<|T9 _ _ hp) (i _ _ gM) (.inr W) sx R.lx (.of j) (λ_=>by rw[mj];simp) ZJ k_ (.of gN) kx
 rintro b H4 ⟨rfl,s4⟩;refine DY (λb A=>b=[Z<|.int c,Z<|.ref a,Z d.val,Z<|.ref n,Z<|.int way,Z v,ν]/\AF H1 A) ?_ ?_;rotate_left
 .intro e;refine⟨_,W,AW,λg hg=>⟨g,_,W,.inl<|Ax.of AD,W,W,_,W,?_⟩⟩;have sg:=AF.new (o:=.lst [.int 4,.int 5]) hg;have I:=s4.trans sg;generalize upd H4 g (.lst [.int 4,.int 5])=H5 at I⊢;refine Fu (λ_=>?_) (λ_=>Ah<|e _ _ ⟨W,I⟩);refine⟨_,W,a,_,0,.str G,W,W,Ae.of<|I _ _ ζ,Ed,W,_,W,?_⟩;refine Bu (λhw=>?_) (λ_=>e _ _ ⟨W,I⟩);have hw:G="move":=V.str.inj<|of_decide_eq_true hw;have J:=D.trans I;exact⟨_,W,_,W,_,W,_,W,c,_,d,n,ys,G,y,zs,p,W,hw,R.up J,j,dF,mv,Dc.AS J Q,Bi,S,J _ _ hn,ln,ny,λr' w' mn mq p' A s' R'=>q _ _ _ _ _ _ (J.trans s') R'⟩
 rintro b H5 ⟨rfl,I⟩;have J:=D.trans I;refine⟨_,W,W,_,W,Bu (λ_=>?_) λ_=>?_⟩
 .exact⟨_,W,_,W,_,W,_,W,c,_,d,n,ys,G,y,zs,p,W,trivial,R.up J,j,dF,mv,Dc.AS J Q,Bi,S,J _ _ hn,ln,ny,λr' w' mn mq p' A s' R'=>q _ _ _ _ _ _ (J.trans s') R'⟩
 refine⟨_,W,W,_,W,Bu (λ_=>?_) λ_=>?_⟩
 .exact⟨_,W,_,W,_,W,c,_,n,ys,G,y,zs,p,W,R.up J,j,dF,J _ _ hn,ln,ny,λr' w' mn mq p' A s' R'=>q _ _ _ _ _ _ (J.trans s') R'⟩
 have x:∀A,AF H1 A->KN [.int c,d.val,.ref n] A En.rt E0:=λA s=>⟨c,d,n,ys,W,Dc.AS s rB,Bi,S,s _ _ uF,bm ln,bn ac<|bm ln.symm,ny,λr' w' mn mq p' H2 s2 R' _ _ _=>q _ _ _ _ _ _ ((D.trans s).trans s2) R'⟩;refine⟨_,W,W,_,W,Bu (λ_=>⟨_,W,W,_,W,?_⟩) λ_=>Ah ⟨_,W,_,W,_,W,x _ I⟩⟩;rcases cm with rfl|⟨t,h3,us,l,rfl,ht,hh,su,Y,wu⟩
 .exact Ah<|Ah ⟨_,W,_,W,_,W,x _ I⟩
 refine An ⟨_,W,t,_,1,_,W,W,Ae.of<|I _ _ ht,C',?_⟩;rcases su l z_ with⟨k,rfl⟩|⟨k,rfl,_⟩
 .exact⟨_,"str","int",W,W,.int _,_,W,Ah ⟨_,W,_,W,_,W,x _ I⟩⟩
 refine⟨_,"str","str",W,W,.str _,_,W,An ⟨DO,λL nL=>?_⟩⟩;have tL:=AF.new (o:=.lst [.str "lacks",.str "has",.str "take"]) nL;have fL:upd H5 L (.lst [.str "lacks",.str "has",.str "take"]) L=Z (.lst [.str "lacks",.str "has",.str "take"]):=AD;have s6:=I.trans tL;generalize upd H5 L (.lst [.str "lacks",.str "has",.str "take"])=H6 at fL s6⊢;refine⟨_,W,c,1,W,ac,λr3 h30 _=>⟨_,_,W,W,Bz,?_⟩⟩;obtain⟨k4,e4,l4⟩:∃k4:Nat,r3 % 3=(k4:Int)/\k4<3:=⟨(r3 % 3).toNat,(j4<|py _ ac).symm,y_⟩;rw[e4];obtain⟨w9,Zf,xX⟩:∃w9:Str,([.str "lacks",.str "has",.str "take"]:List V)[k4]?=Z (.str w9)/\w9∈(lqA:List Str):=by
  rcases k4 with _|_|_|k4
  .exact⟨_,W,ac⟩
  .exact⟨_,W,ac⟩
  .exact⟨_,W,ac⟩
  .lia
 refine⟨L,_,_,_,W,W,Ax.of fL,Ba Zf,_,W,t,_,0,_,W,W,Ae.of<|s6 _ _ ht,Ed,_,W,t,_,1,_,W,W,Ae.of<|s6 _ _ ht,C',BG,.mk λg uG dA sg lE=>?_⟩;refine⟨h3,g,_,_,W,W,sg _ _<|s6 _ _ hh,lE,Ao<|by simp at Y⊢;exact al Y ac,λg2 H7 s7 R_=>⟨AW,.mk λa1 uH n1 i lF=>?_⟩⟩;exact q _ _ _ _ _ _ ((D.trans s6).trans<|(sg.trans s7).trans i)<|Gz lF (i _ _ R_) su Y wu xX (λ_=>by simp) λ_=>⟨_,_,W⟩
theorem cL(F:Fq K "_law_pair" 68 f x)(T:Txt mg)(b:Df P w K mg base "_law_cell" lqs 1 (Ow K))(e:Df P w K mg base "_law_row" lqi 34 KN)(c:Df P w K mg base "_law_beside" lqb 38 (KO bN)):BA P w K mg base DC 40 f x lqp (Yi K):=by
 refine F.oq ["_law_script","_law_at","_law_doc_here","_law_names_here","_law_one"] λH _ _ o _ l h=>?_;obtain⟨a,y,k,d,n,z,rfl,A,g,i,j,B,s,C,q⟩:=h;refine⟨_,(AB (Ad 4 o<|Au e l<|AA (Au b l<|AA (pv 0)<|AY<|pv 1)<|AA (pv 2)<|AY<|pv 3)<|AE<|AI<|AX<|AA (pv 4)<|AY<|Au c l<|AA (Au b l<|AA (pv 0)<|AY<|AQ Bg (pv 1) AG)<|AA (pv 4)<|AA (pv 2)<|AY<|pv 3),?_⟩;refine⟨_,W,_,W,a,y,k,W,A,λE _=>⟨_,W,_,W,E,d,n,z,W,g,i,j,B,bm s,bn ac<|bm s.symm,C,λr G I J p S m R L lz mv=>?_⟩⟩;dsimp only[Bv];refine⟨_,W,_,W,_,W,_,_,W,W,a,y,k+1,(by show[V.ref a,V.int<|(k:Int)+1]=_;simp),m.seq A,λc1 _=>⟨_,W,_,W,_,W,c1,r,d,n,z,G,I,J,p,W,trivial,R,L,lz,mv,Dc.AS m g,i,j,m _ _ B,s,C,λU X M N Y ζ D O=>⟨AW,.mk λt Q nt u v=>?_⟩⟩⟩;exact q _ _ _ _ _ _ _ _ _ _ _ _ ((m.trans D).trans u) v ((R.up D).up u)<|O.up u
theorem cM(F:Fq K "_law_ruin" 69 f fd)(T:Txt mg):BA P w K mg base DC 1 f fd lqm ZS:=by
 refine F.oq ["_law_doc_here","_law_left","_law_one"] λH _ tn I QC hr h=>?_;obtain⟨v,n,H1,rfl,xY,hn,q⟩:=h;refine⟨_,(AB (Ad 1 I<|BC<|AY<|pv 0)<|AE<|QQ PassesOwn.never (AJ (Sf<|CD.Cm hr) (pv 1) (BC Bp)<|AL _)<|AB (Ad 2 I<|SX v6 Fk Fa XT<|pv 1)<|AB (AU (Ag<|II Af T (pv 2) T.list DH) (AB (CO<|gj K (pv 1)<|pv 2)<|AE<|CO<|cj K (pv 2) AG) AK)<|AE<|AU (Ag<|II Af T (pv 2) T.dict EC) (AB (CO<|gj K (pv 1)<|Cz (Mt W) W T.list DH<|AY<|SX P2 O3 PySem.F.type_dict_values Wb<|pv 2)<|AE<|JC QC (pv 2) AN AN W) AK),?_⟩;refine⟨_,W,BG,λL hL=>?_⟩;have sL:=AF.new (o:=.lst [v]) hL;dsimp only[Bv,QP];refine UP (λm σ A=>∃(st:List V)(y:Hp)(o2:Option V),σ=[Z v,Z<|.ref L,o2]/\A L=Z (.lst st.reverse)/\HC m st y H1/\(∀b o,y b=Z o->b≠L/\A b=Z o)/\m<=3000)
  n ⟨[v],H,ν,W,AD,xY,λb o e=>⟨Am e hL,sL b o e⟩,hn⟩ ?_ (fun σ H Q Q' h ⟨v,e,J,k⟩=>⟨v,e,J,λp hp=>let⟨a,b,M,e1,e2,s1,s2,c,e3,q⟩:=k p hp;⟨a,b,M,e1,e2,s1,s2,c,e3,h _ _ q⟩⟩)
 rintro m σ A _ go ⟨st,y,o2,rfl,eL,R,sg,N⟩;refine⟨_,W,gU _,λz J=>?_⟩;have sz:=AF.new (o:=.lst []) J;have ez:upd A z (.lst []) z=Z (.lst []):=AD;have yT:z≠L:=λe=>by rw[e,eL]at J;cases J
 have j:upd A z (.lst []) L=Z (.lst st.reverse):=sz _ _ eL;have r:∀b o,y b=Z o->b≠L/\upd A z (.lst []) b=Z o:=λb o e=>⟨(sg b o e).1,sz _ _ (sg b o e).2⟩;generalize upd A z (.lst [])=Hz at ez j r⊢;refine⟨L,z,_,W,W,Ax.of j,Ax.of ez,_,W,?_⟩;have len:=R.len;cases st with
 |nil=>
  refine Aj W ?_;cases R;exact tn (q Hz λb o e=>(r b o e).2)
 |cons x st=>
  refine Ay z_ ?_;have e3:(x::st).reverse=st.reverse++[x]:=aap;rw[e3]at j;refine⟨_,W,.inl ⟨W,_,Ax.of j⟩,L,_,x,W,W,j,z_,?_⟩;rw[e5];have i:upd Hz L (.lst st.reverse) L=Z (.lst st.reverse):=AD;have d:∀b o,y b=Z o->b≠L/\upd Hz L (.lst st.reverse) b=Z o:=λb o e=>⟨(r b o e).1,by rw[AM (r b o e).1];exact(r b o e).2⟩;generalize upd Hz L (.lst st.reverse)=s at i d⊢;simp only[g7]at len;have ls:st.reverse.length=st.length:=KF;cases R with
  |leaf B R=>
   have O:(Dc.leaf x).At s:=B;refine⟨_,W,_,"list",Dc.Kc<|.leaf x,W,W,Dc.Em O,_,W,Aj (by cases x<;>rfl) ⟨_,W,_,"dict",Dc.Kc<|.leaf x,W,W,Dc.Em O,_,W,Aj (by cases x<;>rfl) ?_⟩⟩;exact go.n ⟨_,A9 _,st,y,_,W,i,R,d,al (gT _ _) N⟩
  |@row n' a M _ _ _ S B R=>
   have t:=(d a _ S).2;have g:=(d a _ S).1;refine⟨_,W,_,"list","list",W,W,.lst<|.inl t,_,W,Ay W ⟨_,W,.inl ⟨W,_,Ax.of i⟩,_,W,L,a,_,_,W,W,i,t,ZR<|by rw[ls];exact al (tt (al (al (gT _ _) len) N) B) ac,?_⟩⟩;have u:upd s L (.lst<|st.reverse++M) a=Z (.lst M):=by rw[AM g];exact t
   refine⟨_,W,.inl ⟨W,_,Ax.of u⟩,a,_,_,W,W,u,KP<|al B ac,_,W,_,"dict","list",W,W,.lst<|.inl AD,_,W,Aj W ?_⟩;refine go.n ⟨_,A9 _,M.reverse++st,_,_,W,?_,R,λb o e=>?_,al (gT _ _) N⟩
   .rw[AM<|u8 g,AD,W2,V5]
   .by_cases U:b=a
    .subst U;rw[AD]at e⊢;exact⟨g,e⟩
    .rw[AM U]at e⊢;have:=d b o e;exact⟨this.1,by rw[AM this.1];exact this.2⟩
  |@tab n' a kvs _ _ _ S B R=>
   have t:=(d a _ S).2;have g:=(d a _ S).1;refine⟨_,W,_,"list","dict",W,W,.dK<|.inl t,_,W,Aj W ⟨_,W,_,"dict","dict",W,W,.dK<|.inl t,_,W,Ay W ⟨_,W,.inl ⟨W,_,Ax.of i⟩,_,W,.inr<|.inr<|.inl ⟨W,.inl ⟨_,t⟩⟩,a,kvs,W,W,t,λw hw=>?_⟩⟩⟩;have sw:=AF.new (o:=Jr w a) hw;have ew:upd s w (Jr w a) w=Z (Jr w a):=AD;have C:=sw _ _ t;have D:=sw _ _ i;have E:∀b o,y b=Z o->b≠L/\upd s w (Jr w a) b=Z o:=λb o e=>⟨(d b o e).1,sw _ _ (d b o e).2⟩;generalize upd s w (Jr w a)=Hv at ew C D E⊢;refine⟨w,a,kvs,W,ew,C,λl G=>?_⟩;have sl:=AF.new (o:=.lst (kvs.map (·.2))) G;have el:upd Hv l (.lst (kvs.map (·.2))) l=Z (.lst (kvs.map (·.2))):=AD;have X:=sl _ _ C;have Y:=sl _ _ D;have ζ:∀b o,y b=Z o->b≠L/\upd Hv l (.lst (kvs.map (·.2))) b=Z o:=λb o e=>⟨(E b o e).1,sl _ _ (E b o e).2⟩;have yU:l≠L:=λe=>by rw[e,D]at G;cases G
   generalize upd Hv l (.lst (kvs.map (·.2)))=Hl at el X Y ζ⊢;have lk:(kvs.map (·.2)).length=kvs.length:=be ..;refine⟨L,l,_,_,W,W,Y,el,ZR<|by rw[ls,lk];exact al (tt (al (al (gT _ _) len) N) B) ac,?_⟩;have u:upd Hl L (.lst (st.reverse++kvs.map (·.2))) a=Z (.dK kvs):=by rw[AM g];exact X
   refine⟨_,W,a,_,W,IS.k (k:=dL zz) u<|KP<|al B ac,?_⟩;refine go.n ⟨_,A9 _,(kvs.map (·.2)).reverse++st,_,_,W,?_,R,λb o e=>?_,al (gT _ _) N⟩
   .rw[AM<|u8 g,AD,W2,V5]
   .by_cases U:b=a
    .subst U;rw[AD]at e⊢;exact⟨g,e⟩
    .rw[AM U]at e⊢;have:=ζ b o e;exact⟨this.1,by rw[AM this.1];exact this.2⟩
theorem cN(F:Fq K "_law_both" 70 f fd)(T:Txt mg)(l:Df P w K mg base "over" lqu 9 VD)(j:Df P w K mg base "_law_done" lqc 32 Le)(lG:Df P w K mg base "_law_ruin" lqm 1 ZS):BA P w K mg base DC 40 f fd lqr VE:=by
 refine F.oq ["_law_doc_here","_law_one","_law_other","_law_first","_law_ones","_law_others","_law_row_here","_law_told","_law_here","_law_there","_law_became"] λH _ _ m _ D h=>?_;obtain⟨d,r,C,xs,zs,R,r2,w2,E,G,S,fi,rfl,Mx,Bi,hsz,y1,y2,nc,f1,f2,q⟩:=h;refine gen (AB (Ad 4 m<|Au l D<|AA (pv 1)<|AA (pv 2)<|AY<|pv 3)<|AB (Ad 5 m<|Au l D<|AA (pv 2)<|AA (pv 1)<|AY<|Oe<|pv 3)<|AB (Za (D'<|BC<|AA (AX<|AA (pv 1)<|AY<|pv 4)<|AY<|AX<|AA (pv 2)<|AY<|pv 5) (Of W<|Et (GA 6 m)<|Et (GA 7 m) LJ)<|AB (AU (PW.pt<|pw_or (ES<|Ag<|II Af T (pv 7) T.tuple Ot)<|pw_or (AJ Ll (EG K T<|pv 7) (EG K T<|pv 6)<|AL _)<|pw_or1<|AJ Ll (Bh K 7) (Bh K 6)<|AL _) (AE<|AI GL) AK)<|AE<|AU (PW.pt<|pw_and (AJ (CI:EN _ _ (SE K false)) (Bh K 6) (BC<|AA AN<|AA AN<|AA AN<|AY AN) W)<|pw_and1<|AJ (ZX (CD.units D):EN _ _ ft) (Bh K 7) (Bh K 6)<|AL _) (AE<|AI GL) AK)<|AB (Ad 8 m<|Au j D<|AA (pv 0)<|AY<|pv 1)<|AB (Ad 9 m<|Au j D<|AA (pv 0)<|AY<|pv 2)<|AB (Ad 10 m<|Au j D<|AA (pv 8)<|AY<|pv 5)<|AB (AU (PW.pt<|pw_or (AJ HS (pv 10) A'<|AL _)<|pw_or1<|AJ (ZX (CD.units D):EN _ _ ft) (pv 10) (Au j D<|AA (pv 9)<|AY<|pv 4)<|AL _) (AE<|AI GL) AK)<|AB (AU (AJ (CI:EN _ _ (SE K false)) (Bh K 1) (BC<|AA AN<|AA AN<|AY AN) W) (AB (CO<|Au lG D<|AY<|Bh K 4)<|AE<|AI<|Bm (YS (CD.units D):EN _ _ fF) (CS (r:=Dz K) Bj (Au l D<|AA (pv 1)<|AA (pv 2)<|AY<|pv 3) AG λ_ _=>rfl) (Bh K 1)<|AL _) AK)<|AE<|AI GL) λX hX=>?_;obtain⟨p,v,k,Y1,r8,ro,to⟩:=y1.ex;obtain⟨p2,v2,k2,Y2,I,J,to2⟩:=y2.ex;have lH:DM w2 E G C xs zs=false:=by rw[Mf];exact nc
 have n1:=c_ ro to J to2 nc;have n2:=c_ J to2 ro to lH;have R1:=r8.rx.rw;have R2:=I.rx.rw;obtain⟨us,ws,ho⟩:=OL (fi:=fi) R1.wd nc;obtain⟨cG,uI,rG⟩:=OL (fi:= !fi) R2.wd lH;have uJ:=ZI true ro to J to2 (gz.of f2) R1.sx R1.sz R2.sx R2.sz r8.la (λh=>R2.nz<|.inr h) ho;have uK:=ZI false J to2 ro to (gz.of f1) R2.sx R2.sz R1.sx R1.sz I.la (λh=>R1.nz<|.inr h) rG;rw[zk]at uK;have l1:=Y1.lx;have l2:=Y1.lz;have l3:=Y2.lx;have l4:=Y2.lz;subst hX;refine hide λe1 A=>?_;refine⟨_,W,_,W,_,W,r,C,xs,zs,p,r2,w2,E,G,p2,fi,us,ws,W,r8.rx,R2,al l1 ac,al l2 ac,al l3 ac,al l4 ac,Y1.Vb,nc,ho,λQ a1 Kt uL pa H1 s1 e0 h0 xZ Wi xa uM=>?_⟩;subst e0;obtain⟨⟨v3,k3,r83,xb⟩,xc⟩:=ZZ Y1 r8 s1 h0 xZ Wi xa uM ho uJ;refine A.n ?_;refine hide λe1 A=>?_;refine⟨_,W,_,W,_,W,_,W,r2,w2,E,G,p2,.ref Q,C,xs,zs,p,!fi,cG,uI,W,I.rx.up s1,R1.up s1,al l3 ac,al l4 ac,al l1 ac,al l2 ac,(Y2.up s1).Vb,lH,rG,λb0 a2 uN uO pb H2 s2 e2 h2 xf ph ln2 xg=>?_⟩;subst e2;obtain⟨⟨v4,k4,r84,xh⟩,xi⟩:=ZZ (Y2.up s1) (I.up s1) s2 h2 xf ph ln2 xg rG uK;refine A.n ?_;refine hide λe1 A=>?_;refine⟨_,W,_,W,AW,λU m1=>⟨_,W,_,W,AW,λζ m2=>⟨AW,λL mL=>?_⟩⟩⟩;have e1:=AF.new (o:=.tup [.ref Q,.ref a1]) m1;have e2:=AF.new (o:=.tup [.ref b0,.ref a2]) m2;have e3:=AF.new (o:=.lst [.ref U,.ref ζ]) mL;have s3:=(e1.trans e2).trans e3;have fL:upd (upd (upd H2 U<|.tup [.ref Q,.ref a1]) ζ<|.tup [.ref b0,.ref a2]) L (.lst [.ref U,.ref ζ]) L=Z (.lst [.ref U,.ref ζ]):=AD;have f4:=e3 _ _<|AD (H:=upd H2 U<|.tup [.ref Q,.ref a1]) (a:=ζ) (o:=.tup [.ref b0,.ref a2]);have f3:=(e2.trans e3) _ _<|AD (H:=H2) (a:=U) (o:=.tup [.ref Q,.ref a1]);generalize upd (upd (upd H2 U<|.tup [.ref Q,.ref a1]) ζ<|.tup [.ref b0,.ref a2]) L (.lst [.ref U,.ref ζ])=H3 at s3 fL f3 f4⊢;have q1:=(xc.up s2).up s3;have q2:=xi.up s3;have all:∀(i:Nat) x,([.ref U,.ref ζ]:List V)[i]?=Z x->∃t u v,x=.ref t/\H3 t=Z (.tup [u,v])/\jj H3 u v:=λi x h=>by
  rcases i with _|_|i
  .cases h;exact⟨_,_,_,W,f3,q1⟩
  .cases h;exact⟨_,_,_,W,f4,q2⟩
  .cases h
 refine⟨L,W,⟨_,Ax.of fL⟩,FV (xs:=[.ref U,.ref ζ]) (λi σ Hi=>∃o6 o7:Option V,σ=[Z d.val,Z<|.ref Q,Z<|.ref b0,Z<|.bl fi,Z<|.ref a1,Z<|.ref a2,o6,o7,ν,ν,ν]/\AF H3 Hi) ⟨_,_,W,AF.refl _⟩ (λi σ Hi _ ⟨_,_,_,Y⟩=>Ax.of<|Y _ _ fL) ?_ ?_⟩
 .rintro i x σ Hi _ go hx ⟨o6,o7,rfl,Y⟩;obtain⟨t,u,v',rfl,ht,PR⟩:=all i x hx;obtain⟨c0,c1,c2,c3,w,ra,rb,rfl,rfl,s,z,le,l0,hv⟩:=PR.up Y;refine⟨t,_,W,Ae.of<|Y _ _ ht,W,_,_,W,_,_,W,W,_,W,_,"tuple","tuple",W,W,.tup z,_,W,Aj W ⟨_,W,c1,_,W,.inr<|Ae.of z,_,W,c0,_,W,.inr<|Ae.of s,W,_,W,Aj (by simp[le]) ⟨_,W,c1,_,0,_,W,W,Ae.of z,Ed,_,W,c0,_,0,_,W,W,Ae.of s,Ed,W,_,W,Aj z_ ⟨_,W,c0,_,0,_,W,W,Ae.of s,Ed,Ao<|show 4<=1000 by decide,λg hg=>⟨g,_,W,.inl<|Ax.of AD,W,W,_,W,?_⟩⟩⟩⟩⟩;have M:=AF.new (o:=.lst [.str "put",.str "change",.str "ask",.str "is"]) hg;generalize upd Hi g (.lst [.str "put",.str "change",.str "ask",.str "is"])=Hg at M⊢;refine Fu (λb=>?_) (λb=>Ah<|go.n ⟨_,_,W,Y.trans M⟩);rw[show DX (.str w) [.str "put",.str "change",.str "ask",.str "is"]=decide (w∈(lqE:List Str))from Ce w lqE]at b;obtain⟨x,y,sx,tx,rfl,rfl,vy,vx,tp,eq,dp⟩:=hv<|of_decide_eq_true b;exact⟨_,W,c1,_,2,_,W,W,Ae.of<|M _ _ z,at2,_,W,c0,_,2,_,W,W,Ae.of<|M _ _ s,at2,⟨tx,sx,vy.up M,vx.up M,tp,eq,dp,_,W,Ah<|go.n ⟨_,_,W,Y.trans M⟩⟩⟩
 .rintro σ Hi ⟨o6,o7,rfl,Y⟩;have nE:=((s1.trans s2).trans s3).trans Y;have uP:=(s2.trans s3).trans Y;have xj:=s3.trans Y;refine A.n ?_;refine hide λe1 A=>?_;refine⟨_,W,_,W,d,_,C,xs,zs,p,v,k,R,W,Dc.AS nE Mx,Bi,al hsz ac,r8.up nE,ro,.inl to,λd1 H4 F1 kS z1 nF _=>?_,λc=>absurd f1 c⟩;refine A.n ?_;refine hide λe1 A=>?_;have S4:=F1.same;refine⟨_,W,_,W,d,_,w2,E,G,p2,v2,k2,S,W,Dc.AS (nE.trans S4) Mx,Bi,al hsz ac,I.up<|nE.trans S4,J,.inl to2,λd2 H5 F2 xk z2 nG _=>?_,λc=>absurd f2 c⟩;refine A.n ?_;refine hide λe1 A=>?_;have S5:=F2.same;have xl:=F1.up S5;have N:=Tp.Ml fi (Pz d) f1 f2 (nF.2 false) n1 n2;have O:=Tp.Ml (!fi) (Pz d) f2 f1 (nG.2 true) n2 n1;refine⟨_,W,_,W,d1,_,w2,cG,uI,pb,v4,k4,_,W,xl.at_,kS,y_,r84.up<|(xj.trans S4).trans S5,xh,.inr N,λd3 H6 F3 uQ z3 xm _=>?_,λc=>absurd N c⟩;refine A.n ?_;refine hide λe1 A=>?_;have S6:=F3.same;have xn:=F2.up S6;refine⟨_,W,W,_,W,Aj (Dc.H_ F3.at_) ⟨_,W,_,W,_,W,d2,_,C,us,ws,pa,v3,k3,_,W,xn.at_,xk,y_,r83.up<|((uP.trans S4).trans S5).trans S6,xb,.inr O,λd4 H7 F4 xp z4 xq _=>?_,λc=>absurd O c⟩⟩;have S7:=F4.same;have gC:=Dc.AS S7 F3.at_;have w3:=Dc.Br d3 gC;have w4:=Dc.Br d4 F4.at_;have eqv:=WZ n1 n2 nF nG xm.2 xq.2 w3 w4;obtain⟨t3,yV⟩:=Dc.Il d3 gC uQ y_;refine⟨d3.tr,d4.tr,Dc.Jb d3 gC,Dc.Jb d4 F4.at_,Pt.VC t3,(Rn w3 w4 uQ xp).mpr eqv,y_,_,W,Ah<|A.n ?_⟩;have uR:=(((uP.trans S4).trans S5).trans S6).trans S7;have uS:=s1.trans uR;have h07:=uS _ _ h0;refine⟨_,W,Q,_,0,_,W,W,Ae.of h07,Ed,DO,λg hg=>⟨g,_,W,.inl<|Ax.of AD,W,W,_,W,?_⟩⟩;have M:=AF.new (o:=.lst [.str "put",.str "change",.str "ask"]) hg;generalize upd H7 g (.lst [.str "put",.str "change",.str "ask"])=H8 at M⊢;have uT:=uR.trans M;have xr:=uS.trans M;refine Fu (λb=>?_) (λb=>q _ xr);rw[show DX (.str C) [.str "put",.str "change",.str "ask"]=decide (C∈(["put","change","ask"]:List Str))from Ce C ["put","change","ask"]]at b;have hw:C="put"∨C="change"∨C="ask":=GE<|of_decide_eq_true b
  obtain⟨vo,vt,yW,Ww,cD,mT,xt,lk,Fv⟩:=uM.vd hw;subst xt;have sz:=Dc.Cd vo vt lk;have F8:=Fv.up uT;obtain⟨H9,_,F9,ru⟩:=F8.GH (al (al (bm sz.symm) mT) ac);refine⟨_,W,a1,_,2,_,W,W,Ae.of<|uT _ _ Wi,at2,⟨vt.val,vt.size,H9,W,ru,al (al (bm sz.symm) mT) ac,λtS s10=>?_⟩⟩;have B:=F9.same.trans s10;refine⟨_,W,_,W,_,W,.ref Q,C,xs,zs,p,.ref b0,w2,E,G,p2,fi,us,ws,W,r8.rx.up B,R2.up B,al l1 ac,al l2 ac,al l3 ac,al l4 ac,(Y1.up B).Vb,nc,ho,λyX a9 rH uU p9 gc s11 xu rJ xw rK xx xy=>?_⟩;cases xu;obtain⟨_,x_⟩:=ZZ (Y1.up B) (r8.up B) s11 rJ xw rK xx xy ho uJ;obtain⟨c0,c1,c2,c3,w,ra,rb,x0,x1,s,z,le,l0,hv⟩:=x_;cases x0;cases x1;rw[s11 _ _ rJ]at s;cases s;rw[rK]at z;cases z;obtain⟨x,y,sx,tx,rfl,rfl,vy,vx,tp,eq,dp⟩:=hv (by rcases hw with h|h|h<;>(rw[h];decide));refine⟨a9,_,2,_,W,W,Ae.of rK,at2,_,W,Q,_,2,_,W,W,Ae.of<|s11 _ _ rJ,at2,tx,sx,vy,vx,(λb e=>by rw[e]at tp;cases tp),.inr eq,dp,?_⟩;rw[eq];exact q _<|B.trans s11
theorem gP(F:Fq K "law" 71 f fd)(T:Txt mg)(e:Df P w K mg base "clashes" lqa 8 (Fh DM))(u:Df P w K mg base "_law_cell" lqs 1 (Ow K))(E:Df P w K mg base "_law_names" lqJ 2 UO)(rM:Df P w K mg base "_law_doc" lqq 4 (YI K))(y:Df P w K mg base "_law_done" lqc 32 Le)(S:Df P w K mg base "_law_pair" lqp 40 (Yi K))(A:Df P w K mg base "_law_both" lqr 40 VE)(B:mg "repr"=ν)(J:∃o,K.lookup q5=Z o):BA P w K mg base DC 42 f fd lqK (Qr K):=by
 refine F.oq ["_law_script","_law_names_here","_law_doc_here","_law_k","_law_one","_law_other","_law_fit","_law_kept","_law_first"] λH _ _ c _ s h=>?_;obtain⟨a,ns,rfl,hS,hlen,q⟩:=h;refine⟨_,(AB (Ad 1 c<|Au E s<|AA (Au u s<|AA (pv 0)<|AY AG)<|AY<|Au u s<|AA (pv 0)<|AY AG)<|AB (Ad 2 c<|Au rM s<|AA (pv 0)<|AA AG<|AA AG<|AY<|pv 1)<|AB (Za (ET W T.range<|AY<|Ct (VX W) W T.max iw<|AA AG<|AY<|AQ Hr (Ct (VY W) W T.min iy<|AA AG<|AY<|AQ Lk (EG K T<|pv 0) AG) AG) (GA 3 c)<|AB (Lj (Au S s<|AA (pv 0)<|AA (AQ Bg AG<|AQ HR AG<|pv 3)<|AA (pv 2)<|AY<|pv 1)<|Of W<|Et (GA 4 c)<|Et (GA 5 c) LJ)<|AB (Ad 6 c<|Dp (Bm Ck (Au y s<|AA (pv 2)<|AY<|pv 4) A'<|AL _)<|D_<|Bm Ck (Au y s<|AA (pv 2)<|AY<|pv 5) A'<|AL _)<|AE<|AU (PW.pt<|pw_and (Ag<|pv 6)<|pw_and1<|ES<|Ag<|Au e s<|AA (pv 4)<|AY<|pv 5) (AB (Ad 7 c<|Ct (Nu s J) W B YH<|AY<|AX<|AA (pv 4)<|AY<|pv 5)<|AB (Za (D'<|BC<|AA GL<|AY GL) (GA 8 c)<|AE<|AU (PW.pt<|pw_or (ES<|Ag<|Au A s<|AA (pv 2)<|AA (pv 4)<|AA (pv 5)<|AY<|pv 8)<|pw_or1<|ES<|Ag<|Au A s<|AA (pv 2)<|AA (pv 5)<|AA (pv 4)<|AY<|pv 8) (AE<|AI GL) AK)<|AE<|AU (AJ Ll (Ct (Nu s J) W B YH<|AY<|AX<|AA (pv 4)<|AY<|pv 5) (pv 7)<|AL _) (AE<|AI GL) AK) AK)<|AE<|AI GL),?_⟩;refine⟨_,W,a,ns,0,W,hS,λc0 _=>⟨_,W,a,ns,1,W,hS,λc1 _=>⟨c0,c1,W,λn ys H1 s1 nn hn l6 yY ny=>⟨_,W,_,W,a,n,ns,2,14,ys,W,s1.seq hS,hlen,ac,ac,ac,hn,al (bm l6) ac,bn ac<|bm l6.symm,ny,λd H2 made C nm=>?_⟩⟩⟩⟩;have S2:AF H H2:=s1.trans made.same;have yA:=made.same _ _ hn;dsimp only[Bv];refine⟨_,W,a,_,W,.inl<|S2.seq hS,_,_,W,W,_,_,W,_,_,W,W,FI,_,_,W,_,W,?_⟩;generalize hj:(if((ns.map V.int).length:Int)-16<20 then((ns.map V.int).length:Int)-16 else 20)=j;have qS:j<=20:=by rw[<-hj];split<;>lia
 obtain⟨m,hm,lm⟩:∃m:Nat,(if j/2>2 then j/2 else 2)=(m:Int)/\m<=20:=⟨_,(j4<|by split<;>lia).symm,by split<;>lia⟩;rw[hm];refine⟨A7 ac<|j9 _,zb (y8.mpr lm) ac,GN (lo:=0) (n:=m) (λi M Hi=>∃o3 o4 o5 o6 o7 N:Option V,M=[Z<|.ref a,Z<|.ref n,Z d.val,o3,o4,o5,o6,o7,N]/\AF H2 Hi) ⟨_,_,_,_,_,_,W,AF.refl _⟩ ?_ ?_⟩
 .rintro i M Hi _ go hi ⟨o3,o4,o5,o6,o7,N,rfl,O⟩;dsimp only[Bv];refine⟨_,W,_,W,_,_,W,W,.inl FI,_,_,W,W,_,W,_,W,a,ns,16+2*i,d,n,ys,(by show[V.ref a,V.int<|16+2*(0+(i:Int)),d.val,V.ref n]=_;simp),(S2.trans O).seq hS,Dc.AS O made.at_,made.ok,al C ac,O _ _ yA,l6,ny,λt r w0 xs zs p Q w2 g l p2 H3 s3 ht R R2=>⟨t,_,W,Ae.of ht,W,_,_,W,_,_,W,W,?_⟩⟩;obtain⟨R1,U⟩:=R.rz;obtain⟨R3,X⟩:=R2.rz;have G:=Dc.AS (O.trans s3) made.at_;obtain⟨p',v,k,Y1,r8,ro,to⟩:=U.ex;obtain⟨qE,v2,k2,Y2,r82,yB,to2⟩:=X.ex;dsimp only;refine DY (fun σ' H'=>∃b:Bool,σ'=[Z<|.ref a,Z<|.ref n,Z d.val,Z<|.int<|0+(i:Int),Z r,Z Q,Z<|.bl b,o7,N]/\AF H3 H'/\(b=true->R1.HJ (kf d)/\R3.HJ (kf d))) ?_ ?_;rotate_left
  .intro Y;refine⟨_,W,_,W,d,r,w0,xs,zs,p',v,k,R1,W,G,made.ok,al C ac,r8,ro,.inl to,λd1 H4 F1 _ _ nF _=>?_,λnf H4 s4=>?_⟩
   .refine⟨W,_,W,Ay (by rw[Dc.H_ F1.at_];rfl) ?_⟩;have S4:=F1.same;refine⟨_,W,_,W,d,Q,w2,g,l,qE,v2,k2,R3,W,Dc.AS S4 G,made.ok,al C ac,r82.up S4,yB,.inl to2,λd2 H5 F2 _ _ nG _=>?_,λnf H5 s5=>?_⟩
    .exact⟨W,Y _ _ ⟨_,W,S4.trans F2.same,λ_=>⟨nF.1,nG.1⟩⟩⟩
    .exact⟨W,Y _ _ ⟨_,W,S4.trans s5,λz=>by cases z⟩⟩
   .exact⟨W,_,W,Ah<|Y _ _ ⟨_,W,s4,λz=>by cases z⟩⟩
  rintro σ' H4 ⟨b,rfl,s4,fit⟩;cases b with
  |false=>exact⟨_,W,_,W,Ah (go.n ⟨_,_,_,_,_,_,W,O.trans (s3.trans s4)⟩)⟩|true=>
  obtain⟨f1,f2⟩:=fit W;refine⟨_,W,_,W,An ⟨_,W,_,W,r,w0,xs,zs,p,Q,w2,g,l,p2,W,R.rx.rw.up s4,R2.rx.rw.up s4,λH5 s5=>⟨_,W,?_⟩⟩⟩;have ζ:=s4.trans s5;cases nc:DM w0 xs zs w2 g l with
  |true=>exact Ah (go.n ⟨_,_,_,_,_,_,W,O.trans (s3.trans ζ)⟩)|false=>
  refine An ?_;have lH:DM w2 g l w0 xs zs=false:=by rw[Mf];exact nc
  obtain⟨D,sh,lz,dp,uV⟩:=WT R.fin R2.fin;refine⟨_,W,_,W,AW,λt2 n2=>?_⟩;have e2:=AF.new (o:=.tup [r,Q]) n2;refine⟨t2,D,W,uV _ _ (ζ.trans e2) AD,sh,lz,al dp ac,?_⟩;have s6:=ζ.trans e2;generalize upd H5 t2 (.tup [r,Q])=H6 at s6⊢;dsimp only[Bv];refine⟨AW,.mk λL H7 nL e3 fL=>?_⟩;have s7:=s6.trans e3;refine⟨L,W,⟨_,Ax.of fL⟩,FV (xs:=[.bl true,.bl false]) (λj M Hj=>∃N:Option V,M=[Z<|.ref a,Z<|.ref n,Z d.val,Z<|.int<|0+(i:Int),Z r,Z Q,Z<|.bl true,Z<|.str D.shown,N]/\AF H7 Hj) ⟨_,W,AF.refl _⟩ (λj M Hj _ ⟨_,_,sj⟩=>Ax.of<|sj _ _ fL) ?_ ?_⟩
  .rintro j x M Hj _ go2 hx ⟨N,rfl,sj⟩;obtain⟨fi,rfl⟩:∃fi,x=.bl fi:=by
    rcases j with _|_|j
    .cases hx;exact⟨_,W⟩
    .cases hx;exact⟨_,W⟩
    .cases hx
   have I:=s7.trans sj;dsimp only[Bv];refine⟨_,W,_,W,_,W,_,W,d,r,w0,xs,zs,R1,Q,w2,g,l,R3,fi,W,Dc.AS I G,made.ok,C,U.up I,X.up I,nc,f1,f2,λH9 s9=>⟨_,W,Aj W ⟨_,W,_,W,_,W,_,W,d,Q,w2,g,l,R3,r,w0,xs,zs,R1,fi,W,Dc.AS (I.trans s9) G,made.ok,C,X.up<|I.trans s9,U.up<|I.trans s9,lH,f2,f1,λtS s10=>⟨_,W,Aj W<|go2.n ⟨_,W,sj.trans<|s9.trans s10⟩⟩⟩⟩⟩
  .rintro M Hj ⟨N,rfl,sj⟩;have I:=s7.trans sj;refine⟨_,W,_,W,AW,.mk λt3 yC n3 e3 rN=>?_⟩;exact⟨t3,D,W,uV _ _ (I.trans e3) rN,sh,lz,al dp ac,_,W,W,_,W,Aj z_<|go.n ⟨_,_,_,_,_,_,W,O.trans<|s3.trans<|I.trans e3⟩⟩
 .rintro M Hi ⟨o3,o4,o5,o6,o7,N,rfl,O⟩;exact q Hi
end
end Ku
namespace Ku
open PySem L2
abbrev NZ(K:yd)(x:Str):Prop:=zD K q8 x=Z ν
theorem nz{K:yd}{x:Str}(h:zD K q8 x=Z ν):NZ K x:=h
variable{P:List bd->Prop}
theorem ls{n:Nat}(h:∀a r,r.length=n->P (a::r)):∀b,b.length=n+1->P b:=λb e=>by
 cases b with
 |nil=>cases e|cons a r=>exact h a r (Nat.succ.inj e)
theorem lz(h:P []):∀b,b.length=0->P b:=λb e=>by
 cases b with
 |nil=>exact h|cons a r=>cases e
variable{mg:Str->Option bd}
theorem gn{K:yd}{h:Heap}{x:Str}{st:Stmt}(X:K.In h)(G:h.Ns q8 mg)(A:FA K x st)(d:List Str)(b:∀(kV doc i:bd) (j:Option Addr) (e ct:bd) (g:List bd),g.length=d.length->abV (y6 x x (Ft st) (Ek st) (CK st) .none kV doc i j e ct) ⟨g,[]⟩=pure (d.zip g):=by intro _ _ _ _ _ _;(repeat refine ls λ_=>?_);exact lz W):∃f c,Vi K x x st f c/\Binds K c d []/\mg x=Z (.ref f):=by
 obtain⟨f,c,F,a⟩:=A;exact⟨f,c,F,F.binds b,G8 X G a⟩
theorem dk{P:m8}{w:q3}{K:yd}{mg:Str->Option bd}{base:Heap}{x:Str}{st:Stmt}{n:Nat}{sp:Sp}{c:List Str}(g:∃f a,Vi K x x st f a/\Binds K a c []/\mg x=Z (.ref f))(ok:∀f a,Vi K x x st f a->Binds K a c []->mg x=Z (.ref f)->BA P w K mg base DC n f a c sp):Df P w K mg base x c n sp:=by
 obtain⟨f,a,F,b,m⟩:=g;exact .mk' F b m<|ok f a F b m
variable{l:aaJ}
theorem all_mk{w:q3}{K:yd}{h:Heap}{fa f57:Addr}(X:K.In h)(G:h.Ns q8 mg)(yD:mg "law"=Z (.ref fa)){rO lI:Option Addr}{rP:Array (Option bd)}{rQ lJ lK lL gQ lM:bd}(h1:Fb K "steps_of" 1)(h2:Fb K "outer_copy" 2)(h3:Fb K "copy_of" 3)(h4:Fb K "begins" 8)(h5:Fb K "gone_by" 12)(h6:Fb K "moved_by" 13)(h7:Fb K "reads" 14)(h8:Fb K "is_place" 15)(h9:Fb K "place_into" 16)(h10:Fb K "with_place" 17)(h11:Fb K "ahead_of_taking" 18)(h12:Fb K "comes_to" 19)(h13:Fb K "needs" 20)(h14:Fb K "bars" 21)(h15:Fb K "leaves" 22)(h16:Fb K "place_behind" 23)(h17:Fb K "step_behind" 24)(h18:Fb K "after" 25)(h19:Fb K "does_begin" 27)(h20:Fb K "begins_some" 28)(h21:Fb K "holder_of_coming" 29)(h22:Fb K "spoils_read" 30)(h23:Fb K "bars_same" 31)(h24:Fb K "bars_needed" 32)(h25:Fb K "moves_same" 33)(h26:Fb K "moves_into" 34)(h27:Fb K "clashes_one_way" 35)(h28:Fb K "clashes" 36)(h29:Fb K "coming_over" 37)(h30:Fb K "behind_taking" 38)(h31:Fb K "over" 39)(h32:Fb K "_law_cell" 41)(h33:Fb K "_law_mix" 42)(h34:Fb K "_law_names" 43)(h35:Fb K "_law_leaf" 44)(h36:Fb K "_law_part" 45)(h37:Fb K "_law_doc" 46)(h38:Fb K "_law_copy" 47)(h39:Fb K "_law_found" 48)(h40:Fb K "_law_put" 49)(h41:Fb K "_law_asked" 50)(h42:Fb K "_law_done" 51)(h43:Fb K "_law_paths" 52)(h44:Fb K "_law_slots" 53)(h45:Fb K "_law_value" 54)(h46:Fb K "_law_picked" 55)(h47:Fb K "_law_asking" 56)(h48:Fb K "_law_row" 57)(h49:Fb K "_law_comes" 61)(h50:Fb K "_law_into" 64)(h51:Fb K "_law_reading" 65)(h52:Fb K "_law_unlike" 66)(h53:Fb K "_law_beside" 67)(h54:Fb K "_law_pair" 68)(h55:Fb K "_law_ruin" 69)(h56:Fb K "_law_both" 70)(a57:zD K q8 "law"=Z (Z (.ref f57)))(l57:K.lookup f57=Z ⟨rQ,rO,.func (y6 "law" "law" (Ft Ta) (Ek Ta) (CK Ta) .none lJ lK lL lI gQ lM),rP⟩)(c57:E1 K gQ "law"=true)(k57:zY K (.ref f57)=true)(z1:NZ K "isinstance")(z2:NZ K "int")(z3:NZ K "bool")(z4:NZ K "str")(z5:NZ K "list")(z6:NZ K "dict")(z7:NZ K "tuple")(z8:NZ K "len")(z9:NZ K "range")(z10:NZ K "max")(z11:NZ K "min")(z12:NZ K "sorted")(z13:NZ K "all")(z14:NZ K "any")(z15:NZ K "reversed")(z16:NZ K "ValueError")(z17:NZ K "sum"){tC tP:Addr}{oS:Obj}(eC:zD K q8 "WORDS_OF_COMING"=Z (Z (.ref tC)))(hC:Su K tC Hy=true)(Zp:NZ K "enumerate")(eP:zD K q8 "WORDS_OF_PARTS"=Z (Z (.ref tP)))(hP:Su K tP O'=true)(zR:NZ K "repr")(zS:K.lookup q5=Z oS)
  :∃fd:m9,(∀(s:d6)(v:bd),WF s fd ⟨[v],[]⟩ [("_law_script",v)])/\∀base:Heap,K.In base->base.Ns q8 mg->BA l.prog w K mg base DC 42 fa fd lqK (Qr K):=by
 haveI:EH K:=⟨trivial⟩;have e:=yD.symm.trans<|G8 X G a57;cases e;have gm:=λ{x:Str}{v:bd}(a:zD K q8 x=Z (Z v))=>G8 X G a;have T:Txt mg:=by constructor<;>(apply L8 X G;assumption)
 have g33:=gn X G h33 lqd;have g42:=gn X G h42 lqc;have yE:=Xc (st:=Ta) l57 c57 k57;have mC:=G8 X G eC;have lN:=L8 X G Zp;have mP:=G8 X G eP;have lO:=L8 X G zR;have rR:∃o,K.lookup q5=Z o:=⟨_,zS⟩;refine⟨y6 "law" "law" (Ft Ta) (Ek Ta) (CK Ta) .none lJ lK lL lI gQ lM,λs v=>.of_eq W,λbase _ _=>?_⟩;have dk:=@dk l.prog w K mg base;have y:=dk (gn X G h5 lqf) λ_ _ F b m=>Wg F T;have c:=dk (gn X G h8 lqF) λ_ _ F b m=>Te F T;have z:=dk (gn X G h4 lqa) λ_ _ F b m=>We F T;have t:=dk (gn X G h9 lqB) λ_ _ F b m=>QD F T z c;have u:=dk (gn X G h10 lqw) λ_ _ F b m=>QE F T;have A:=dk (gn X G h11 lqG) λ_ _ F b m=>KR F T c t u;have g:=dk (gn X G h12 lqf) λ_ _ F b m=>Tf F T A mC hC;have VH:=dk (gn X G h13 lqf) λ_ _ F b m=>Zd F T g mC hC mP hP;have k:=dk (gn X G h19 lqa) λ_ _ F b m=>QF F T z;have r:=dk (gn X G h20 lqC) λ_ _ F b m=>NI F T k;have j:=dk (gn X G h6 lqf) λ_ _ F b m=>Td F T;have Zq:=dk (gn X G h7 lqf) λ_ _ F b m=>Zc F T;have i:=dk (gn X G h21 lqf) λ_ _ F b m=>Jt F T g;have H:=dk (gn X G h22 lqa) λ_ _ F b m=>NJ F T y j Zq k i;have VI:=dk (gn X G h14 lqf) λ_ _ F b m=>bq F T c g;have Y:=dk (gn X G h23 lqa) λ_ _ F b m=>Rz F T VI;have I:=dk (gn X G h24 lqa) λ_ _ F b m=>NK F T VH VI r;have P:=dk (gn X G h25 lqa) λ_ _ F b m=>QG F T j;have Q:=dk (gn X G h26 lqa) λ_ _ F b m=>QH F T j k i;have B:=dk (gn X G h27 lqa) λ_ _ F b m=>KS F T y VH r H Y I P Q;have J:=dk (gn X G h28 lqa) λ_ _ F b m=>Tg F T B;have L:=dk (gn X G h32 lqs) λ_ _ F b m=>bw F T;have gR:=dk g33 λ_ _ F b m=>Zg F T;have Zr:=dk (gn X G h34 lqJ) λ_ _ F b m=>Zh F T gR;have f:=dk g33 λ_ _ F b m=>bx F T;have VJ:=dk (gn X G h35 lqI) λ_ _ F b m=>bz F T f;have cO:=dk (gn X G h36 lqz) λ_ _ F b m=>b_ F T f VJ;have gS:=dk (gn X G h37 lqq) λ_ _ F b m=>gB F T L f cO;have VL:=dk (gn X G h38 lqm) λ_ _ F b m=>SA F T b m 30;have d:=dk (gn X G h39 lqh) λ_ _ F b m=>Zi F T;have Zs:=dk (gn X G h40 lqn) λ_ _ F b m=>gF F T d;have S:=dk (gn X G h41 lqc) λ_ _ F b m=>Zj F T d;have VM:=dk g42 λ_ _ F b m=>VG F T VL d Zs S;have M:=dk g42 λ_ _ F b m=>Zk F T VL d Zs S;have U:=dk (gn X G h43 lqk) λ_ _ F b m=>OU F T b m 17;have q:=dk (gn X G h44 lql) λ_ _ F b m=>Zm F T d U;have C:=dk (gn X G h45 lqo) λ_ _ F b m=>Zn F T f VJ;have n:=dk (gn X G h46 lqg) λ_ _ F b m=>Wj F T f;have Wn:=dk (gn X G h47 lqe) λ_ _ F b m=>Wk F T f d C;have ζ:=dk (gn X G h48 lqi) λ_ _ F b m=>gJ F T M U q C n Wn;have D:=dk (gn X G h49 lqD) λ_ _ F b m=>Zo F T;have cP:=dk (gn X G h50 lqb) λ_ _ F b m=>cJ F T M q n ζ D;have Tn:=dk (gn X G h51 lqb) λ_ _ F b m=>Tj F T f d q n;have Wo:=dk (gn X G h52 lqt) λ_ _ F b m=>Wl F T f D;have Wq:=dk (gn X G h53 lqb) λ_ _ F b m=>Wm F T f M q C n ζ D cP Tn Wo;have cQ:=dk (gn X G h54 lqp) λ_ _ F b m=>cL F T L ζ Wq;have To:=dk (gn X G h1 lqH) λ_ _ F b m=>Tb F T;have R:=dk (gn X G h2 lqH) λ_ _ F b m=>QB F T;have Wr:=dk (gn X G h3 lqH) λ_ _ F b m=>Wd F T To R;have Ws:=dk (gn X G h15 lqf) λ_ _ F b m=>Wh F T;have p:=dk (gn X G h16 lqv) λ_ _ F b m=>My F T c g Ws;have N:=dk (gn X G h17 lqy) λ_ _ F b m=>NH F T c p;have V:=dk (gn X G h18 ["path","row"]) λ_ _ F b m=>Ze F T z y j N lN;have O:=dk (gn X G h29 lqu) λ_ _ F b m=>NL F T c g p V;have E:=dk (gn X G h30 lqG) λ_ _ F b m=>LI F T c t u;have cR:=dk (gn X G h31 lqu) λ_ _ F b m=>br F T Wr V J O E;have cS:=dk (gn X G h55 lqm) λ_ _ F b m=>cM F T;have cT:=dk (gn X G h56 lqr) λ_ _ F b m=>cN F T cR VM cS;exact gP yE T J L Zr gS VM cQ cT lO rR
variable{loose:List Str}{K:Params->yd}{q:m8}{d:DefRec}
theorem walk{e:(Str->Option bd)->Heap->Prop}{YP:q3->Heap->Prop}(g:l.most=Z 63)(b:d.params.defaults=[])(i:∀(w:q3) (h:Heap),YP w h->(K w.params).In h)(F:∀(w:q3) (mg:Str->Option bd) (fa:Addr) (h:Heap),(K w.params).In h->h.Ns q8 mg->mg d.name=Z (.ref fa)->
   ∃c:m9,(∀(s:d6) (u:bd),WF s c ⟨[u],[]⟩ [("_law_script",u)])/\∀base:Heap,(K w.params).In base->base.Ns q8 mg->BA l.prog w (K w.params) mg base DC 42 fa c lqK (Qr (K w.params))):
  abv q loose e YP l.row.toRowW d [] (λf j=>X6 f j):=
 L2.aT (n:=63) (k:=42) (x:="_law_script") (CX:=λ_=>DC) (sp:=λw=>Qr (K w.params)) g ac b ⟨W,ac,ac,W⟩ i F (λ_ _ a m o _ p=>⟨a,m,W,p,o,λ_=>rfl⟩) λ_ _ _ _ _ z=>z
theorem walkZ{m:(Str->Option bd)->Heap->Prop}{j:List Addr}{n t:Nat}(e:∀P:Params,j=O4 (λx=>x.fst) (K P))(p:l.most=Z 63)(g:d.params.defaults=[])(F:∀(w:q3) (mg:Str->Option bd) (fa:Addr) (h:Heap),(K w.params).In h->h.Ns q8 mg->mg d.name=Z (.ref fa)->
   ∃k:m9,(∀(s:d6) (u:bd),WF s k ⟨[u],[]⟩ [("_law_script",u)])/\∀base:Heap,(K w.params).In base->base.Ns q8 mg->BA l.prog w (K w.params) mg base DC 42 fa k lqK (Qr (K w.params))):
  PySem.W.WalkX q loose m (PySem.W.X.obsZ j) (PySem.W.X.valZ K n t) l.row.toRowW d [] (λf r=>X6 f r):=
 λw b c mg v G y a o A B doc C kV D E H I J M args vals i L N O Q R S=>
  walk (YP:=λw h=>(K w.params).In h) p g (λ_ _ z=>z) F w b c mg v G ((show(K w.params).In b.heap from(PySem.W.X.z_facts e y).2.1).keeps L.keeps) a o A B doc C kV D E H I J M args vals i N O Q R S
end Ku
namespace PySem.W.Fast
def tw2517053042587257947:=0
def tw4077625005176656243:=0
def tw10635092060838888633:=0
def tw12653807084394211867:=0
def tw15731835408382635809:=0
def tw12222381002134531629:=0
def tw17500174487247090131:=0
def tw3408965385154631962:=0
def tw8447566194973320586:=0
def tw10175005377194102233:=0
def tw16037720011607901759:=0
def tw6301648230917594810:=0
def tw13394475792007123798:=0
def tw15057294573029846481:=0
def tw4321153866316076293:=0
def tw14274929023631843728:=0
def tw2206106726145744512:=0
def tw3836012533523405784:=0
def tw12433318286216063537:=0
def tw11556507294019023066:=0
def tw13844079127110613021:=0
def tw6570597785776539503:=0
def tw5944228171043274743:=0
def tw78684982379588042:=0
def tw14473564393009629844:=0
def tw9498076944420619487:=0
def tw4054853271691978237:=0
def tw7106455136464243839:=0
def tw4806417169437190434:=0
def tw17414439955139143299:=0
def tw16177886767805883047:=0
def tw18122643896463121289:=0
def tw260389172500598066:=0
def tw10855531604059881862:=0
def tw913906074815504655:=0
def tw2296777693039889172:=0
def tw16249436572306536083:=0
def tw17853553099836743349:=0
def tw3334043600514376096:=0
def tw13756256256668956301:=0
def tw2430908630740155905:=0
def tw9517414368193716476:=0
def tw10304831220890464177:=0
def tw5421561014581859774:=0
def tw15790160536996664599:=0
def tw3818832573467613736:=0
def tw16801021837451661475:=0
def tw1723934291852378658:=0
def tw7136881495444086183:=0
def tw15897470758363569052:=0
def tw7358134457122804670:=0
def tw13654377281778701405:=0
def tw10734034521811152634:=0
def tw8494001055637292137:=0
def tw5671219832617222900:=0
def tw15755675247122223517:=0
def tw13012375646909621128:=0
def tw13898277542827114626:=0
def tw16290101129553289443:=0
def tw2789535458791922978:=0
def tw17203613547962100985:=0
def tw3522254743274927953:=0
def tw468511510019362686:=0
def tw17597917593402212834:=0
def tw11613254917756830643:=0
def tw8103353682572865991:=0
def tw1444894882132889709:=0
def tw15412170783591742115:=0
def tw18019432088451251470:=0
def tw1374812889978669458:=0
def tw15170254000141962457:=0
def tw6980546090497297952:=0
def tw5669757223580689272:=0
def tw3036430579234562315:=0
def tw13738113193377467469:=0
def tw2111375937829620974:=0
def tw2776349589201765070:=0
def tw17106252270647918831:=0
def tw13369721133957975367:=0
def tw2019814942319694093:=0
def tw191499312680463813:=0
def tw6519524791886658924:=0
def tw5830268149062281221:=0
def tw9867012893926304070:=0
def tw4496540289022558692:=0
def tw1324621785981026626:=0
def tw13105045016924567214:=0
def tw67430671264084314:=0
def tw912433882094541681:=0
def tw1423808381414843552:=0
def tw14163638092636134730:=0
def tw13696879986488049165:=0
def tw16205484507827166445:=0
def tw4240197316879303250:=0
def tw5271303559761773652:=0
def tw16299445176541093495:=0
def tw5081325496669029111:=0
def tw17425314802012615381:=0
def tw5240165015487209848:=0
def tw2253085227940478769:=0
def tw736511738291504394:=0
def tw570180571016520368:=0
def tw10835594647069797122:=0
def tw18152613035552218955:=0
def tw2322941376914109428:=0
def tw3650273053616552111:=0
def tw18230641074723255855:=0
def tw3172805303133648531:=0
def tw14109552409618269636:=0
def tw15599166152376547811:=0
def tw9540675816795711189:=0
def tw13029673983809731152:=0
def tw1335459793928784965:=0
def tw16230452856290985742:=0
def tw3426755430875770664:=0
def tw9416197997468647556:=0
def tw3261743631477004971:=0
def tw15072139738909696255:=0
def tw1265538385491634898:=0
def tw874204471797883770:=0
def tw9661265857946393834:=0
def tw9345214968345781566:=0
def tw8538833573686437682:=0
def tw13881768425003504175:=0
def tw8732285134038237590:=0
def tw11431579978293937333:=0
def tw15332991221073788032:=0
def tw12216828215535124711:=0
def tw13535011255322546070:=0
def tw3102445525669257648:=0
def tw16941914894730559844:=0
def tw9694656951051285846:=0
def tw13368920238854113158:=0
def tw16224086917304882576:=0
def tw15934341378062557794:=0
def tw10381109209612274141:=0
def tw7638077145224906147:=0
def tw9899802685835854587:=0
def tw14813970642216855874:=0
def tw10745769089363933445:=0
def tw4492718414026975383:=0
def tw9814272893793892304:=0
def tw7065081129482035180:=0
def tw11107138403028239690:=0
def tw4031622308488618267:=0
def tw6322500250165137282:=0
def tw2687133895289945569:=0
def tw7320807067963606009:=0
def tw14775365677962651688:=0
def tw7981027560446016525:=0
def tw457604653461536750:=0
def tw13787267286403513010:=0
def tw5582708452468702600:=0
def tw14138644635099870151:=0
def tw1417234733269444491:=0
def tw11583863392393158462:=0
def tw10774572792029234470:=0
def tw1306679319011700231:=0
def tw1994235300428088975:=0
def tw15333106973629997069:=0
def tw5968140421461654323:=0
def tw11379575376150225600:=0
def tw4380023981630459250:=0
def tw7738162103287669232:=0
def tw13840128111228161115:=0
def tw830318803600913578:=0
def tw18126388125365878799:=0
def tw11590026064863661925:=0
def tw6980798160507094963:=0
def tw6094553214829127370:=0
def tw2011438731305310951:=0
def tw17912086386331178573:=0
def tw15708908681558777615:=0
def tw16910718469616600218:=0
def tw5326948540588912321:=0
def tw3460340424194090164:=0
def tw82315381070285261:=0
def tw4394044626118289628:=0
def tw8552789786059508222:=0
def tw13896007559121695320:=0
def tw10522377070728466804:=0
def tw24043229283163392:=0
def tw8169282298511376146:=0
def tw18243035628919484433:=0
def tw2616332330006200774:=0
def tw17519336814496082501:=0
def tw15852139008471276126:=0
def tw13455829396394569432:=0
def tw17277248137202564698:=0
def tw8674526894819282877:=0
def tw4478812520762662423:=0
def tw16326590128874632735:=0
def tw7266250534804372348:=0
def tw12438563327881117071:=0
def tw2432796172426510956:=0
def tw4080278368013333658:=0
def tw15425178054443430313:=0
def tw6430951077825797647:=0
def tw4407353531576868568:=0
def tw1973227244501555986:=0
end PySem.W.Fast
open PySem PySem.W PyProof.Rows
set_option maxRecDepth 100000 in
set_option maxHeartbeats 0 in
theorem PySem.Challenge.cw_patchbough_k84_both_ways_round_holds : PySem.Challenge.rw_patchbough_k84_both_ways_round.Holds := by
 w_on;o_law;z_head;(case hw=>w_witness2)
 k_fill
 refine Ku.walkZ (l:=PySem.Challenge.rw_patchbough_k84_both_ways_round) (fun _=>rfl) rfl rfl ?F
 case F=>
  intro w c fa h b G a
  apply Ku.all_mk b G a
  all_goals first|(apply L2.fa<;>k_is)|(apply Ku.nz;k_is)|k_is|kernel_rfl
